/- What the library's heap sort does to a row of numbers, by a method value that compares. -/
import Derived.Test.YtihgpllbgliplaaPickSift
import Derived.Test.YtihgpllbgliplaaPickSteps
namespace Go.Proofs.Ytihgpllbgliplaa
open Go.ChangeShapes Go.WideShapes Go.ChangeAt Go.RowKit Go.Sort Go.Shelf
set_option linter.unusedVariables false
set_option linter.unusedSimpArgs false

section
variable {n : Nat} (lt : Fin (n + 1) → Fin (n + 1) → Bool)
theorem siftDown_size (hi first : Nat) : ∀ (m root : Nat) (d : Array (Fin (n + 1))), hi - root ≤ m → (siftDown lt hi first root d).size = d.size
  | 0, root, d, h => by rw [siftDown, dif_pos (by omega)]
  | m + 1, root, d, h => by
    rw [siftDown]
    split
    · rfl
    · split
      · split
        · rfl
        · split
          · rw [siftDown_size hi first m _ _ (by omega), swp_size]
          · rfl
      · split
        · rfl
        · rw [siftDown_size hi first m _ _ (by omega), swp_size]
end
theorem heap_facts (a b N : Nat) (hab : a < b) (hb : b ≤ N) (hN : N ≤ 1000) : ∃ H H1 K : Nat, b - a = H ∧ H - 1 = H1 ∧ H1 / 2 = K ∧ a + H ≤ N ∧ K ≤ H ∧ H1 + 1 = H ∧ IntKind.i64.wrap ((b : Int) - (a : Int)) = (H : Int) ∧ wrap64 ((b : Int) - (a : Int)) = (H : Int) ∧ IntKind.i64.wrap ((H : Int) - 1) = (H1 : Int) ∧ wrap64 ((H : Int) - 1) = (H1 : Int) ∧ (H1 : Int).tdiv 2 = (K : Int) ∧ (H1 : Int) / 2 = (K : Int) ∧ wrap64 (K : Int) = (K : Int) ∧ IntKind.i64.wrap (K : Int) = (K : Int) := by
  refine ⟨b - a, b - a - 1, (b - a - 1) / 2, rfl, rfl, rfl, by omega, by omega, by omega, ?_, ?_, ?_, ?_, ?_, ?_, ?_, ?_⟩
  · rw [wrap_i _ (by omega) (by omega)]; omega
  · rw [wrap_6 _ (by omega) (by omega)]; omega
  · rw [wrap_i _ (by omega) (by omega)]; omega
  · rw [wrap_6 _ (by omega) (by omega)]; omega
  · rw [Int.tdiv_eq_ediv_of_nonneg (by omega)]; omega
  · omega
  · exact wrap_6 _ (by omega) (by omega)
  · exact wrap_i _ (by omega) (by omega)
section
set_option maxRecDepth 100000
set_option maxHeartbeats 4000000
variable {n : Nat} {w0 : World} {B : Nat} {rv : Value} {cf : Fin (n + 1) → Fin (n + 1) → Int} (hc : Cmp w0 B rv cf)
include hc
theorem heap_any {w : World} {d : Array (Fin (n + 1))} (R : Row w0 B d w) {a b c : Nat} (hab : a < b) (hb : b ≤ d.size) (hsz : d.size ≤ 1000) :
    Calls Try.prog 66 #[.slice (some ⟨B, 0, none⟩) d.size c, .int .i64 (a : Nat), .int .i64 (b : Nat), mv rv] w fun e w' => e = .returned (.tuple #[]) ∧ Row w0 B (heapSort (ltc cf) d a b) w' := by
  have mixed : Try.prog.follows .mixedOrders = true := by kernel_rfl
  obtain ⟨H, H1, K, hH, hH1, hK, hHb, hKH, hH1e, m1a, m1b, m2a, m2b, m3, m3b, m3c, m3d⟩ := heap_facts a b d.size hab hb hsz
  have HD : Hid (heapSort (ltc cf) d a b = heapPop (ltc cf) a H (heapBuild (ltc cf) H a (K + 1) d)) := by show _ = _; unfold heapSort; rw [hH, hH1, hK]
  generalize heapSort (ltc cf) d a b = res at HD
  have HB : Hid (a + H ≤ d.size ∧ d.size ≤ 1000 ∧ K ≤ H ∧ H1 + 1 = H) := ⟨hHb, hsz, hKH, hH1e⟩
  clear hHb hsz hKH hH1e hab hb hH hH1 hK
  go_enter Try.func66, Try.ntmps66
  go_wp2_with fail
  go_loopw [11] (fun v wr => ∃ (k : Nat) (dk : Array (Fin (n + 1))), v = .int .i64 ((k : Int) - 1) ∧ k ≤ K + 1 ∧ dk.size = d.size ∧ Row w0 B dk wr ∧ Hid (heapBuild (ltc cf) H a (K + 1) d = heapBuild (ltc cf) H a k dk)) (fun v _ => (intOf v + 1).toNat)
  case atStart => exact ⟨K + 1, d, by congr 1; clear m1a m1b m2a m2b m3 m3b m3c m3d; omega, by clear m1a m1b m2a m2b m3 m3b m3c m3d; omega, rfl, R, rfl⟩
  case round =>
    have HM : Hid (wrap64 ((H : Int) - 1) = (H1 : Int)) := m2b
    clear R m1a m1b m2a m2b m3 m3b m3c m3d
    obtain ⟨k, dj, rfl, hk, hsj, R2, H2⟩ := hrel
    cases k with
    | succ q =>
      have e1 : (((q + 1 : Nat) : Int) - 1) = (q : Int) := by omega
      rw [e1]
      have q0 : (0 : Int) ≤ (q : Int) := by omega
      have hq1 : wrap64 ((q : Int) - 1) = (q : Int) - 1 := wrap_6 _ (by have hh := HB.out; omega) (by have hh := HB.out; omega)
      have cs := sift_any hc R2 (lo := q) (hi := H) (first := a) (c := c) (by have hh := HB.out; omega) (by have hh := HB.out; omega) (by have hh := HB.out; omega)
      rw [hsj] at cs
      have H3 : Hid (heapBuild (ltc cf) H a (K + 1) d = heapBuild (ltc cf) H a q (siftDown (ltc cf) H a q dj)) := H2
      have hsz3 := siftDown_size (ltc cf) H a H q dj (by omega)
      generalize siftDown (ltc cf) H a q dj = dn at cs H3 hsz3
      clear H2 R2
      go_wp2_with fail
      refine cs.mono ?_
      rintro e w3 ⟨rfl, R3⟩
      clear cs
      go_wp2_with fail
      go_roundw
      case rel => exact ⟨q, dn, by go_num, by omega, by rw [hsz3]; exact hsj, R3, H3⟩
      case measure => simp [intOf]; omega
    | zero =>
      have e1 : (((0 : Nat) : Int) - 1) = -1 := rfl
      rw [e1]
      have H3 : Hid (res = heapPop (ltc cf) a H dj) := by
        show _ = _
        rw [HD.out, H2.out]; rfl
      clear H2 HD
      go_wp2_with fail
      go_loopw [12] (fun v wr => ∃ (k : Nat) (dk : Array (Fin (n + 1))), v = .int .i64 ((k : Int) - 1) ∧ k ≤ H ∧ dk.size = d.size ∧ Row w0 B dk wr ∧ Hid (res = heapPop (ltc cf) a k dk)) (fun v _ => (intOf v + 1).toNat)
      case atStart => exact ⟨H, dj, by rw [HM.out]; congr 1; have hh := HB.out; omega, by omega, hsj, R2, H3⟩
      case round =>
        clear R2 H3 hsj
        obtain ⟨k, dj, rfl, hk, hsj, R2, H2⟩ := hrel
        cases k with
        | succ q =>
          have e1 : (((q + 1 : Nat) : Int) - 1) = (q : Int) := by omega
          rw [e1]
          have q0 : (0 : Int) ≤ (q : Int) := by omega
          have hq1 : wrap64 ((q : Int) - 1) = (q : Int) - 1 := wrap_6 _ (by have hh := HB.out; omega) (by have hh := HB.out; omega)
          obtain ⟨p, hp⟩ : ∃ p, a + q = p := ⟨_, rfl⟩
          have i0 : (a : Int) < (d.size : Int) := by have hh := HB.out; omega
          have i1 : (p : Int) < (d.size : Int) := by have hh := HB.out; omega
          have j0 : a < dj.size := by have hh := HB.out; omega
          have j1 : p < dj.size := by have hh := HB.out; omega
          have hkq : q < H := by omega
          have HQ : Hid (q < H) := hkq
          have z4 : (a : Int) + (q : Int) = (p : Int) := by omega
          have m4a : IntKind.i64.wrap ((a : Int) + (q : Int)) = (p : Int) := by rw [z4]; exact wrap_i _ (by have hh := HB.out; omega) (by have hh := HB.out; omega)
          have m4b : wrap64 ((a : Int) + (q : Int)) = (p : Int) := by rw [z4]; exact wrap_6 _ (by clear m4a; have hh := HB.out; omega) (by clear m4a; have hh := HB.out; omega)
          clear z4 hkq hk
          obtain ⟨u, hu⟩ : ∃ u, dj[a]! = u := ⟨_, rfl⟩
          obtain ⟨v, hv⟩ : ∃ v, dj[p]! = v := ⟨_, rfl⟩
          have c1 := R2.cell a j0
          have c2 := R2.cell p j1
          have f1 := R2.frozen a j0
          have f2 := R2.frozen p j1
          obtain ⟨u3, c3⟩ := R2.c2 (i := a) (j := p) j0 j1 (.int .i64 (((v : Fin (n + 1)) : Nat) : Int))
          have R6 := (R2.swap (i := a) (j := p) j0 j1 hu hv).drew
          rw [hu] at c1
          rw [hv] at c2
          have H3 : Hid (res = heapPop (ltc cf) a q (siftDown (ltc cf) q a 0 (swp dj a p))) := by
            show _ = _
            rw [H2.out, ← hp]; rfl
          clear R2 hu hv H2 j0 j1 hp
          go_wp2_with fail
          go_big_region_o
          clear c1 c2 c3 f1 f2 u3
          generalize (wr.setCell ⟨B, a, none⟩ _).setCell ⟨B, p, none⟩ _ = wz at R6 ⊢
          generalize World.drew wz = w5 at R6 ⊢
          clear wz
          have hs6 : (swp dj a p).size = d.size := by rw [swp_size]; exact hsj
          generalize swp dj a p = d6 at R6 H3 hs6
          clear m4a m4b
          have cs := sift_any hc R6 (lo := 0) (hi := q) (first := a) (c := c) (by have hh := HB.out; have hq := HQ.out; omega) (by have hh := HB.out; omega) (by omega)
          rw [hs6] at cs
          have hsz3 := siftDown_size (ltc cf) q a q 0 d6 (by omega)
          generalize siftDown (ltc cf) q a 0 d6 = dn at cs H3 hsz3
          clear R6
          go_wp2_with fail
          refine cs.mono ?_
          rintro e w3 ⟨rfl, R3⟩
          clear cs
          go_wp2_with fail
          go_roundw
          case rel => exact ⟨q, dn, by go_num, by have hq := HQ.out; omega, by rw [hsz3]; exact hs6, R3, H3⟩
          case measure => simp [intOf]; omega
        | zero =>
          have e1 : (((0 : Nat) : Int) - 1) = -1 := rfl
          rw [e1]
          go_wp2_with fail
          go_end0
          exact ⟨rfl, by rw [H2.out]; exact R2⟩
end
end Go.Proofs.Ytihgpllbgliplaa
