/- What the document's ends, Far and Edge answer. -/
import Derived.Test.YtnmijgnflemhkaaTopFar
namespace Go.Proofs.Ytnmijgnflemhkaa
open Go.ChangeShapes Go.WideShapes Go.ChangeAt Go.RowKit Go.Maps Tp
set_option linter.unusedVariables false
set_option linter.unusedSimpArgs false

theorem cnt_snoc {l : List Lk} {k : Nat} {x : Lk} (hx : l[k]? = some x) (u v : Int) : cnt (l.take (k + 1)) (u, v) = cnt (l.take k) (u, v) + (if (x.a == u && x.p == v) = true then 1 else 0) + (if (x.b == u && x.q == v) = true then 1 else 0) := by
  have hk : keys (ends (l.take (k + 1))) = keys (ends (l.take k)) ++ [(x.a, x.p), (x.b, x.q)] := by
    rw [List.take_add_one, hx, ends_append]
    unfold keys
    rw [List.map_append]
    rfl
  have hp : ∀ p q : Int, (((p, q) : En) == (u, v)) = (p == u && q == v) := fun p q => rfl
  unfold cnt
  rw [hk, List.count_append, List.count_cons, List.count_cons, List.count_nil, hp, hp]
  omega
theorem cnt_le (l : List Lk) (e : En) : cnt l e ≤ 2 * l.length := by
  unfold cnt
  refine Nat.le_trans List.count_le_length ?_
  unfold keys
  rw [List.length_map, ends_len]
  exact Nat.le_refl _
theorem get_snoc {l : List Lk} {k : Nat} {x : Lk} (hx : l[k]? = some x) (e : En) : getE (ends (l.take (k + 1))) e = (getE (ends (l.take k)) e).or (if (x.a, x.p) = e then some (x.b, x.q) else if (x.b, x.q) = e then some (x.a, x.p) else none) := by
  rw [List.take_add_one, hx, ends_append, get_append]
  rfl
theorem get_found {l : List Lk} {k : Nat} {e o : En} (h : getE (ends (l.take k)) e = some o) : getE (ends l) e = some o := by
  have : ends l = ends (l.take k) ++ ends (l.drop k) := by rw [← ends_append, List.take_append_drop]
  rw [this, get_append, h]
  rfl
section
variable (s n : Int) (w : World) {a : Option Addr} {c : Nat} {l : List Lk}
set_option maxRecDepth 100000 in
set_option maxHeartbeats 4000000 in
theorem rends_any (R : Rds fK 4 w a c l) (hl : l.length ≤ 100) (x y : Int) :
    Calls Try.prog 30 #[.agg #[.int .i64 s, .int .i64 n, .slice a l.length c], .int .i64 x, .int .i64 y] w fun e w' => e = .returned (.int .i64 (cnt l (x, y) : Nat)) ∧ Below w.heap.size w w' := by
  have hb1 := below_new w (.cells #[.int .i64 s, .int .i64 n, .slice a l.length c] 24)
  obtain ⟨t0, t1, t2⟩ := box3 w (.int .i64 s) (.int .i64 n) (.slice a l.length c) 24
  have hBT : w.heap.size < (w.alloc (.cells #[.int .i64 s, .int .i64 n, .slice a l.length c] 24)).heap.size := by simp
  have R1 := R.later hb1
  have HF : Hid (cnt l (x, y) = cnt (l.take l.length) (x, y)) := by show _ = _; rw [List.take_length]
  have HL : Hid (l.length ≤ 100) := hl
  have HC := fun k => cnt_le (l.take k) (x, y)
  go_enter Try.func30, Try.ntmps30
  go_wp2_with fail
  generalize hW : w.alloc (.cells #[.int .i64 s, .int .i64 n, .slice a l.length c] 24) = w1 at t0 t1 t2 hBT R1 hb1 ⊢
  clear hW
  have HC2 : Hid (∀ k, cnt (l.take k) (x, y) ≤ 2 * (l.take k).length) := HC
  clear HC
  go_loopw [8, 7] (fun vi vn wr => ∃ k : Nat, Hid (k ≤ l.length) ∧ vi = .int .i64 (k : Nat) ∧ vn = .int .i64 (cnt (l.take k) (x, y) : Nat) ∧ wr = w1) (fun vi _ _ => l.length - (intOf vi).toNat)
  case atStart => exact ⟨0, Nat.zero_le _, rfl, rfl, rfl⟩
  case round =>
    obtain ⟨k, HK, rfl, rfl, rfl⟩ := hrel
    by_cases hlt : k < l.length
    · have hkz : (k : Int) < (l.length : Int) := by omega
      obtain ⟨r, hr⟩ := getK hlt
      obtain ⟨b, o, rfl, hbr1, hc⟩ := R1.at hr
      have NX := cnt_snoc hr x y
      obtain ⟨ka, kp, kb, kq⟩ := r
      have v0 := hc 0 _ rfl
      have v1 := hc 1 _ rfl
      have v2 := hc 2 _ rfl
      have v3 := hc 3 _ rfl
      rw [Nat.add_zero] at v0
      clear hc hr
      have HN : Hid (cnt (l.take (k + 1)) (x, y) = cnt (l.take k) (x, y) + (if (ka == x && kp == y) = true then 1 else 0) + (if (kb == x && kq == y) = true then 1 else 0)) := NX
      have HLT : Hid (k + 1 ≤ l.length) := hlt
      have hm : cnt (l.take k) (x, y) ≤ 200 := by
        have h1 := HC2.out k
        rw [List.length_take] at h1
        have h2 := HL.out
        omega
      generalize cnt (l.take k) (x, y) = m at HN hm ⊢
      clear NX HK hlt
      cases hA : (ka == x) with
      | false =>
        cases hB : (kb == x) with
        | false =>
          have HN2 : Hid (cnt (l.take (k + 1)) (x, y) = m + 0) := by
            show _ = _
            rw [HN.out]
            simp [hA, hB]
          clear HN
          go_wp2_with fail
          go_roundw
          case rel => exact ⟨k + 1, HLT.out, by go_num, by rw [HN2.out]; go_num, trivial⟩
          case measure => have h := HLT.out; simp [intOf]; omega
        | true =>
          cases hQ : (kq == y) with
          | false =>
            have HN2 : Hid (cnt (l.take (k + 1)) (x, y) = m + 0) := by
              show _ = _
              rw [HN.out]
              simp [hA, hB, hQ]
            clear HN
            go_wp2_with fail
            go_roundw
            case rel => exact ⟨k + 1, HLT.out, by go_num, by rw [HN2.out]; go_num, trivial⟩
            case measure => have h := HLT.out; simp [intOf]; omega
          | true =>
            have HN2 : Hid (cnt (l.take (k + 1)) (x, y) = m + 1) := by
              show _ = _
              rw [HN.out]
              simp [hA, hB, hQ]
            clear HN
            go_wp2_with fail
            go_roundw
            case rel => exact ⟨k + 1, HLT.out, by go_num, by rw [HN2.out]; go_num, trivial⟩
            case measure => have h := HLT.out; simp [intOf]; omega
      | true =>
        cases hP : (kp == y) with
        | false =>
          cases hB : (kb == x) with
          | false =>
            have HN2 : Hid (cnt (l.take (k + 1)) (x, y) = m + 0) := by
              show _ = _
              rw [HN.out]
              simp [hA, hP, hB]
            clear HN
            go_wp2_with fail
            go_roundw
            case rel => exact ⟨k + 1, HLT.out, by go_num, by rw [HN2.out]; go_num, trivial⟩
            case measure => have h := HLT.out; simp [intOf]; omega
          | true =>
            cases hQ : (kq == y) with
            | false =>
              have HN2 : Hid (cnt (l.take (k + 1)) (x, y) = m + 0) := by
                show _ = _
                rw [HN.out]
                simp [hA, hP, hB, hQ]
              clear HN
              go_wp2_with fail
              go_roundw
              case rel => exact ⟨k + 1, HLT.out, by go_num, by rw [HN2.out]; go_num, trivial⟩
              case measure => have h := HLT.out; simp [intOf]; omega
            | true =>
              have HN2 : Hid (cnt (l.take (k + 1)) (x, y) = m + 1) := by
                show _ = _
                rw [HN.out]
                simp [hA, hP, hB, hQ]
              clear HN
              go_wp2_with fail
              go_roundw
              case rel => exact ⟨k + 1, HLT.out, by go_num, by rw [HN2.out]; go_num, trivial⟩
              case measure => have h := HLT.out; simp [intOf]; omega
        | true =>
          cases hB : (kb == x) with
          | false =>
            have HN2 : Hid (cnt (l.take (k + 1)) (x, y) = m + 1) := by
              show _ = _
              rw [HN.out]
              simp [hA, hP, hB]
            clear HN
            go_wp2_with fail
            go_roundw
            case rel => exact ⟨k + 1, HLT.out, by go_num, by rw [HN2.out]; go_num, trivial⟩
            case measure => have h := HLT.out; simp [intOf]; omega
          | true =>
            cases hQ : (kq == y) with
            | false =>
              have HN2 : Hid (cnt (l.take (k + 1)) (x, y) = m + 1) := by
                show _ = _
                rw [HN.out]
                simp [hA, hP, hB, hQ]
              clear HN
              go_wp2_with fail
              go_roundw
              case rel => exact ⟨k + 1, HLT.out, by go_num, by rw [HN2.out]; go_num, trivial⟩
              case measure => have h := HLT.out; simp [intOf]; omega
            | true =>
              have HN2 : Hid (cnt (l.take (k + 1)) (x, y) = m + 2) := by
                show _ = _
                rw [HN.out]
                simp [hA, hP, hB, hQ]
              clear HN
              go_wp2_with fail
              go_roundw
              case rel => exact ⟨k + 1, HLT.out, by go_num, by rw [HN2.out]; go_num, trivial⟩
              case measure => have h := HLT.out; simp [intOf]; omega
    · have hke : k = l.length := by have h := HK.out; omega
      have hkz : ¬ (k : Int) < (l.length : Int) := by omega
      have HF2 : Hid (cnt (l.take k) (x, y) = cnt l (x, y)) := by show _ = _; rw [hke]; exact HF.out.symm
      clear hke hlt HK
      go_wp2_with fail
      go_ret
      exact ⟨ret_int (by rw [HF2.out]), hb1⟩
end
end Go.Proofs.Ytnmijgnflemhkaa
