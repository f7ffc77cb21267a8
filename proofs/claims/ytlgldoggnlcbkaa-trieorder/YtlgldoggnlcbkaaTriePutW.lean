/- What the code's Put does to a trie's memory. -/
import Derived.Test.YtlgldoggnlcbkaaTrieLack
namespace Go.Proofs.Ytlgldoggnlcbkaa
open Go.ChangeShapes Go.WideShapes Go.ChangeAt Go.RowKit Tt
set_option linter.unusedVariables false
set_option linter.unusedSimpArgs false

/-- a list of prefixes, raised one behind the other -/
inductive Raises : Mm → List P2 → Mm → Prop
  | nil (m : Mm) : Raises m [] m
  | cons {m m' : Mm} {q : P2} {l : List P2} {f : Nat} {A P : Pl} (hm : okM m) (hs : seekM m q f .top .top = some (A, P)) (hP : P.ok) (hf : m.free ≤ 1000) (hu : m.used ≤ 1000) (h : Raises (raiseM m q P) l m') : Raises m (q :: l) m'
theorem Raises.inv {m m' : Mm} {q : P2} {l : List P2} (h : Raises m (q :: l) m') : ∃ f A P, okM m ∧ seekM m (q.1, q.2) f .top .top = some (A, P) ∧ P.ok ∧ m.free ≤ 1000 ∧ m.used ≤ 1000 ∧ Raises (raiseM m (q.1, q.2) P) l m' := by
  cases h with
  | cons hm hs hP hf hu h => exact ⟨_, _, _, hm, hs, hP, hf, hu, h⟩
section
set_option maxRecDepth 100000
set_option maxHeartbeats 1000000
theorem put_bad (w : World) (x : Option Addr) (p0 p1 v : Int) (hp : M.mayB p0 p1 = false) :
    Calls Try.prog 12 #[.pointer x, .agg #[.int .i64 p0, .int .i64 p1], .int .i64 v] w fun e w' => e = .returned (.int .i64 1) ∧ Below w.heap.size w w' := by
  have hn := below_new w (.cells #[.int .i64 p0, .int .i64 p1] 29)
  have cm := fun w => may_any p0 p1 w
  rw [hp] at cm
  go_enter Try.func12, Try.ntmps12
  go_wp2_with fail
  refine (cm _).mono ?_
  rintro e w1 ⟨rfl, hb⟩
  go_wp2_with fail
  go_ret
  exact ⟨rfl, below_step hn hb⟩
theorem put_nil (w : World) (p0 p1 v : Int) (hp : M.mayB p0 p1 = true) :
    Calls Try.prog 12 #[.pointer none, .agg #[.int .i64 p0, .int .i64 p1], .int .i64 v] w fun e w' => e = .returned (.int .i64 7) ∧ Below w.heap.size w w' := by
  have hn := below_new w (.cells #[.int .i64 p0, .int .i64 p1] 29)
  have cm := fun w => may_any p0 p1 w
  rw [hp] at cm
  go_enter Try.func12, Try.ntmps12
  go_wp2_with fail
  refine (cm _).mono ?_
  rintro e w1 ⟨rfl, hb⟩
  go_wp2_with fail
  go_ret
  exact ⟨rfl, below_step hn hb⟩
variable {w : World} {B : Nat} {m : Mm} (p0 p1 v : Int) (hp : M.mayB p0 p1 = true) (h : Has w B (cellOf m)) (hm : okM m) {f : Nat} {A P : Pl} (hs : seekM m (p0, p1) f .top .top = some (A, P)) (hP : P.ok) (hu : m.used ≤ 1000) (hr : m.room ≤ 1000)
include hp h hm hs hP hu hr
theorem put_full (hL : (lackM m (p0, p1) P).length ≤ 2) (hfull : m.room < m.used + (lackM m (p0, p1) P).length) :
    Calls Try.prog 12 #[.pointer (some ⟨B, 0, none⟩), .agg #[.int .i64 p0, .int .i64 p1], .int .i64 v] w fun e w' => e = .returned (.int .i64 7) ∧ Below w.heap.size w w' := by
  have hn := below_new w (.cells #[.int .i64 p0, .int .i64 p1] 29)
  have X : Lies (w.alloc (.cells #[.int .i64 p0, .int .i64 p1] 29)) w.heap.size [p0, p1] := Lies.new w [p0, p1] 29 rfl
  have cm := fun w => may_any p0 p1 w
  rw [hp] at cm
  obtain ⟨w0, w1⟩ := may_wf (p := (p0, p1)) hp
  have cl := fun w h => lack_any (w := w) (B := B) (m := m) p0 p1 w0 w1 h hm hs hP
  generalize lackM m (p0, p1) P = L at cl hL hfull
  have e1 : wrap64 ((m.used : Int) + (L.length : Int)) = (m.used : Int) + (L.length : Int) := by unfold wrap64; omega
  have e2 : (m.room : Int) < (m.used : Int) + (L.length : Int) := by omega
  clear hs hL hfull
  go_enter Try.func12, Try.ntmps12
  go_wp2_with fail
  refine (cm _).mono ?_
  rintro e w1 ⟨rfl, hb⟩
  obtain ⟨x0, x1⟩ := (X.later hb).two
  have hbw := below_step hn hb
  go_wp2_with fail
  refine (cl _ (h.later hbw)).mono ?_
  rintro e w2 ⟨x, c, rfl, ⟨R, hx⟩, hb2⟩
  obtain ⟨r0, r1, r2, r3⟩ := ((h.later hbw).later hb2).head
  go_wp2_with fail
  go_quiet (fail)
  go_wp2_with fail
  go_ret
  exact ⟨rfl, below_step hbw (hb2.trans (below_draws _ _ _))⟩
theorem put_run (hL : (lackM m (p0, p1) P).length ≤ 2) (hroom : m.used + (lackM m (p0, p1) P).length ≤ m.room) {m' : Mm} (hc : Raises m (lackM m (p0, p1) P) m') (hm' : okM m') {f' : Nat} {A' P' : Pl} (hs' : seekM m' (p0, p1) f' .top .top = some (A', P')) (hP' : P'.ok) :
    Calls Try.prog 12 #[.pointer (some ⟨B, 0, none⟩), .agg #[.int .i64 p0, .int .i64 p1], .int .i64 v] w fun e w' => e = .returned (.int .i64 0) ∧ Has w' B (cellOf (m'.setTell (m'.get P') true v)) ∧ Keeps (only B) w w' := by
  have hn := below_new w (.cells #[.int .i64 p0, .int .i64 p1] 29)
  have X : Lies (w.alloc (.cells #[.int .i64 p0, .int .i64 p1] 29)) w.heap.size [p0, p1] := Lies.new w [p0, p1] 29 rfl
  have hlt := h.lt
  have hnB : ¬ only B w.heap.size := fun e => by unfold only at e; omega
  have cm := fun w => may_any p0 p1 w
  rw [hp] at cm
  obtain ⟨w0, w1⟩ := may_wf (p := (p0, p1)) hp
  have cl := fun w h => lack_any (w := w) (B := B) (m := m) p0 p1 w0 w1 h hm hs hP
  generalize lackM m (p0, p1) P = L at cl hL hroom hc
  have e1 : wrap64 ((m.used : Int) + (L.length : Int)) = (m.used : Int) + (L.length : Int) := by unfold wrap64; omega
  have e2 : (m.used : Int) + (L.length : Int) ≤ (m.room : Int) := by omega
  have HC : Hid (Raises m L m') := hc
  clear hs hroom hc
  go_enter Try.func12, Try.ntmps12
  go_wp2_with fail
  refine (cm _).mono ?_
  rintro e w1 ⟨rfl, hb⟩
  obtain ⟨x0, x1⟩ := (X.later hb).two
  have hbw := below_step hn hb
  go_wp2_with fail
  refine (cl _ (h.later hbw)).mono ?_
  rintro e w2 ⟨x, c, rfl, ⟨R, hx⟩, hb2⟩
  have h2 := (h.later hbw).later hb2
  obtain ⟨r0, r1, r2, r3⟩ := h2.head
  have X2 := (X.later hb).later hb2
  have k2 : Keeps (only B) w w2 := Keeps.of_below (below_step hbw hb2)
  clear x0 x1 X
  go_wp2_with fail
  go_quiet (fail)
  clear r0 r1 r2 r3
  have hbq := below_draws w2.heap.size w2 nq
  replace h2 := h2.later hbq
  replace X2 := X2.later hbq
  replace k2 := k2.after hbq
  replace R := R.later hbq
  have hxx : ∀ y, x = some y → ¬ only B y.block := fun y e hy => by have := hx y e; have := hbw.size; unfold only at hy; omega
  clear hx hb2 hbq
  generalize w2.drewN nq = w3 at h2 X2 k2 R
  go_wp2_with fail
  go_loopw [35] (fun i wr => ∃ (k : Nat) (mk : Mm), k ≤ L.length ∧ i = .int .i64 k ∧ Raises mk (L.drop k) m' ∧ Has wr B (cellOf mk) ∧ Keeps (only B) w3 wr) (fun i _ => L.length - (intOf i).toNat)
  case atStart => exact ⟨0, m, by omega, rfl, HC.out, h2, Keeps.refl _ _⟩
  case round =>
    obtain ⟨k, mk, hk, rfl, hra, hmk, kk⟩ := hrel
    by_cases hlt : k < L.length
    · have gk : L[k]? = some L[k] := List.getElem?_eq_getElem hlt
      rw [List.drop_eq_getElem_cons hlt] at hra
      obtain ⟨b, o, rfl, hbb, hcell⟩ := (R.kept kk (fun y e _ => hxx y e)).at gk
      have c0 := hcell 0 _ rfl
      have c1 := hcell 1 _ rfl
      rw [Nat.add_zero] at c0
      clear hcell
      have hi : (k : Int) < (L.length : Int) := by omega
      obtain ⟨f1, A1, P1, hm1, hs1, hP1, hf1, hu1, hra1⟩ := hra.inv
      have HR : Hid (Raises (raiseM mk (L[k].1, L[k].2) P1) (L.drop (k + 1)) m') := hra1
      clear hra hra1
      have cr := fun w h => raise_any (w := w) (B := B) (m := mk) L[k].1 L[k].2 h hm1 hs1 hP1 hf1 hu1
      clear hs1
      go_wp2_with fail
      refine (cr _ (hmk.later (below_new _ _))).mono ?_
      rintro e w5 ⟨rfl, h5, k5⟩
      go_wp2_with fail
      go_roundw
      case rel => exact ⟨k + 1, _, by omega, by go_num, HR.out, h5, (kk.after (below_new _ _)).then k5⟩
      case measure => simp [intOf]; omega
    · have hkl : k = L.length := by omega
      subst hkl
      rw [List.drop_length] at hra
      obtain rfl : mk = m' := by cases hra; rfl
      have sk := fun w h => seek_any (w := w) (B := B) (m := mk) p0 p1 h hm' hs'
      have hi := hm' P' hP'
      obtain ⟨x0, x1⟩ := (X2.kept kk hnB).two
      obtain ⟨i, hgi⟩ : ∃ i, mk.get P' = i := ⟨_, rfl⟩
      have HG : Hid (mk.get P' = i) := hgi
      rw [hgi] at hi
      have hi0 : (0 : Int) ≤ (i : Int) := by omega
      have hi1 : (i : Int) < 1001 := by omega
      clear hs' hra
      go_wp2_with fail
      refine (sk _ hmk).mono ?_
      rintro e w5 ⟨rfl, hb5⟩
      have h5 := hmk.later hb5
      obtain ⟨cp, fp⟩ := h5.place hP'
      rw [hgi] at cp
      obtain ⟨c0, c1, c2, c3, c4, c5⟩ := h5.node hi
      obtain ⟨f0, f1, f2, f3, f4, f5⟩ := h5.nodeF hi
      clear hgi x0 x1
      go_wp2_with fail
      go_quiet (fail)
      have hbq := below_draws w5.heap.size w5 nq
      have h6 := h5.later hbq
      have k6 := ((k2.then kk).after hb5).after hbq
      clear cp fp c0 c1 c2 c3 c4 c5 f0 f1 f2 f3 f4 f5 hbq h5
      generalize w5.drewN nq = w6 at h6 k6
      obtain ⟨c0, c1, c2, c3, c4, c5⟩ := h6.node hi
      obtain ⟨f0, f1, f2, f3, f4, f5⟩ := h6.nodeF hi
      have h7 := h6.setTell hi true v
      have c7 := (World.cell?_setCell_other w6 ⟨B, i * 6 + 3, none⟩ ⟨B, i * 6 + 2, none⟩ (.bool true) (by intro e; injection e with _ e2; omega)).trans c2
      go_wp2_with fail
      go_ret
      exact ⟨rfl, by rw [HG.out]; exact h7, (k6.put _ _).put _ _⟩
end
end Go.Proofs.Ytlgldoggnlcbkaa
