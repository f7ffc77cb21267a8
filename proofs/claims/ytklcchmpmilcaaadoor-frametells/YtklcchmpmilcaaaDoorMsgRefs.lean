/- What the document's answers for messages come to: the contracts of May and Put that the statements on package msg are held against. -/
import Derived.Test.YtklcchmpmilcaaaDoorMsgPut
import Derived.Test.YtklcchmpmilcaaaDoorRuleRefs
namespace Go.Proofs.YtklcchmpmilcaaaDoor
open Go.ChangeShapes Go.WideShapes Go.ChangeAt Go.RowKit R Q
set_option linter.unusedVariables false
set_option linter.unusedSimpArgs false

theorem okM_no {y z v g a n i p k t : Int} (h : okM y z v g a n i p k t = true → False) : okM y z v g a n i p k t = false := by
  cases hk : okM y z v g a n i p k t
  · rfl
  · exact (h hk).elim
theorem ok_g {y z v g a n i p k t : Int} (h0 : 0 ≤ y ∧ y < 6) (h1 : 1 ≤ z ∧ z ≤ 1048576) (h2 : vLo y ≤ v ∧ v ≤ vHi y) (h3 : 1 ≤ g → gLo y ≤ g ∧ g ≤ gHi y) (h3' : gLo y ≤ g ∧ g ≤ gHi y → 1 ≤ g) (h4 : okRu y a n i p k t = true) : okM y z v g a n i p k t = decide (1 ≤ g) := by
  by_cases h : 1 ≤ g
  · rw [decide_eq_true h]; exact okM_mk h0 h1 h2 (h3 h) h4
  · rw [decide_eq_false h]; exact okM_no fun hk => h (h3' (okM_of hk).2.2.2.1)
theorem ne_zero (a n i p k t : Int) (w : World) : (binOp .neq 27 (.agg #[.int .i64 a, .int .i64 n, .int .i64 i, .int .i64 p, .int .i64 k, .int .i64 t]) (.agg #[.int .i64 0, .int .i64 0, .int .i64 0, .int .i64 0, .int .i64 0, .int .i64 0])).run Tryd.prog w = .ok (.bool (!zeroR a n i p k t)) w := by
  have hz : zeroR a n i p k t = (a == 0 && (n == 0 && (i == 0 && (p == 0 && (k == 0 && t == 0))))) := by
    unfold zeroR; rw [Bool.eq_iff_iff]; simp
  rw [hz]
  clear hz
  cases h0 : (a == 0)
  · go_simp
  cases h1 : (n == 0)
  · go_simp
  cases h2 : (i == 0)
  · go_simp
  cases h3 : (p == 0)
  · go_simp
  cases h4 : (k == 0)
  · go_simp
  cases h5 : (t == 0)
  · go_simp
  · go_simp
set_option maxHeartbeats 1000000 in
theorem rmMay_0 (z v g a n i p k t : Int) (hz : 1 ≤ z ∧ z ≤ 1048576) (hv : 0 ≤ v ∧ v ≤ 1048576) (hg : 0 ≤ g ∧ g ≤ 4095) (w : World) :
    Calls Tryd.prog 38 #[.agg #[.int .i64 0, .int .i64 z, .int .i64 v, .int .i64 g, .int .i64 a, .int .i64 n, .int .i64 i, .int .i64 p, .int .i64 k, .int .i64 t]] w fun e w' => e = .returned (.bool (okM 0 z v g a n i p k t)) ∧ Below w.heap.size w w' := by
  have hb0 := below_new w (.cells #[.int .i64 0, .int .i64 z, .int .i64 v, .int .i64 g, .int .i64 a, .int .i64 n, .int .i64 i, .int .i64 p, .int .i64 k, .int .i64 t] 29)
  have X := Lies.new w [0, z, v, g, a, n, i, p, k, t] 29 rfl
  have l0 : vLo 0 = 0 := rfl
  have l1 : vHi 0 = 0 := rfl
  have l2 : gLo 0 = 0 := rfl
  have l3 : gHi 0 = 0 := rfl
  have l4 : okRu 0 a n i p k t = zeroR a n i p k t := rfl
  have hn := ne_zero a n i p k t
  cases hr : zeroR a n i p k t
  · have HE : Hid (okM 0 z v g a n i p k t = false) := okM_no fun h => by obtain ⟨h0, h1, h2, h3, h4⟩ := okM_of h; rw [l4, hr] at h4; cases h4
    rw [hr] at hn
    obtain ⟨hz1, hz2⟩ := hz; obtain ⟨hv1, hv2⟩ := hv; obtain ⟨hg1, hg2⟩ := hg
    clear l0 l1 l2 l3 l4
    go_enter Tryd.func38, Tryd.ntmps38
    go_wp2_with fail
    go_ret
    exact ⟨ret_bool HE.out.symm, hb0⟩
  rw [hr] at hn
  by_cases hv0 : v = 0
  · by_cases hg0 : g = 0
    · have HE : Hid (okM 0 z v g a n i p k t = true) := okM_mk (by decide) hz (by omega) (by omega) (l4.trans hr)
      have b1 : (v == 0) = true := by simpa using hv0
      have b2 : (g == 0) = true := by simpa using hg0
      obtain ⟨hz1, hz2⟩ := hz; obtain ⟨hv1, hv2⟩ := hv; obtain ⟨hg1, hg2⟩ := hg
      clear l0 l1 l2 l3 l4 hv0 hg0
      go_enter Tryd.func38, Tryd.ntmps38
      go_wp2_with fail
      go_ret
      exact ⟨ret_bool HE.out.symm, hb0⟩
    · have HE : Hid (okM 0 z v g a n i p k t = false) := okM_no fun h => by obtain ⟨h0, h1, h2, h3, h4⟩ := okM_of h; omega
      have b1 : (v == 0) = true := by simpa using hv0
      have b2 : (g == 0) = false := by simpa using hg0
      obtain ⟨hz1, hz2⟩ := hz; obtain ⟨hv1, hv2⟩ := hv; obtain ⟨hg1, hg2⟩ := hg
      clear l0 l1 l2 l3 l4 hv0 hg0
      go_enter Tryd.func38, Tryd.ntmps38
      go_wp2_with fail
      go_ret
      exact ⟨ret_bool HE.out.symm, hb0⟩
  · have HE : Hid (okM 0 z v g a n i p k t = false) := okM_no fun h => by obtain ⟨h0, h1, h2, h3, h4⟩ := okM_of h; omega
    have b1 : (v == 0) = false := by simpa using hv0
    obtain ⟨hz1, hz2⟩ := hz; obtain ⟨hv1, hv2⟩ := hv; obtain ⟨hg1, hg2⟩ := hg
    clear l0 l1 l2 l3 l4 hv0
    go_enter Tryd.func38, Tryd.ntmps38
    go_wp2_with fail
    go_ret
    exact ⟨ret_bool HE.out.symm, hb0⟩
set_option maxHeartbeats 1000000 in
theorem rmMay_1 (z v g a n i p k t : Int) (hz : 1 ≤ z ∧ z ≤ 1048576) (hv : 0 ≤ v ∧ v ≤ 1048576) (hg : 0 ≤ g ∧ g ≤ 4095) (w : World) :
    Calls Tryd.prog 38 #[.agg #[.int .i64 1, .int .i64 z, .int .i64 v, .int .i64 g, .int .i64 a, .int .i64 n, .int .i64 i, .int .i64 p, .int .i64 k, .int .i64 t]] w fun e w' => e = .returned (.bool (okM 1 z v g a n i p k t)) ∧ Below w.heap.size w w' := by
  have hb0 := below_new w (.cells #[.int .i64 1, .int .i64 z, .int .i64 v, .int .i64 g, .int .i64 a, .int .i64 n, .int .i64 i, .int .i64 p, .int .i64 k, .int .i64 t] 29)
  have X := Lies.new w [1, z, v, g, a, n, i, p, k, t] 29 rfl
  have l0 : vLo 1 = 0 := rfl
  have l1 : vHi 1 = 1048576 := rfl
  have l2 : gLo 1 = 0 := rfl
  have l3 : gHi 1 = 4095 := rfl
  have l4 : okRu 1 a n i p k t = zeroR a n i p k t := rfl
  have hn := ne_zero a n i p k t
  cases hr : zeroR a n i p k t
  · have HE : Hid (okM 1 z v g a n i p k t = false) := okM_no fun h => by obtain ⟨h0, h1, h2, h3, h4⟩ := okM_of h; rw [l4, hr] at h4; cases h4
    rw [hr] at hn
    obtain ⟨hz1, hz2⟩ := hz; obtain ⟨hv1, hv2⟩ := hv; obtain ⟨hg1, hg2⟩ := hg
    clear l0 l1 l2 l3 l4
    go_enter Tryd.func38, Tryd.ntmps38
    go_wp2_with fail
    go_ret
    exact ⟨ret_bool HE.out.symm, hb0⟩
  rw [hr] at hn
  · have HE : Hid (okM 1 z v g a n i p k t = true) := okM_mk (by decide) hz (by omega) (by omega) (l4.trans hr)
    obtain ⟨hz1, hz2⟩ := hz; obtain ⟨hv1, hv2⟩ := hv; obtain ⟨hg1, hg2⟩ := hg
    clear l0 l1 l2 l3 l4
    go_enter Tryd.func38, Tryd.ntmps38
    go_wp2_with fail
    go_ret
    exact ⟨ret_bool HE.out.symm, hb0⟩
set_option maxHeartbeats 1000000 in
theorem rmMay_2 (z v g a n i p k t : Int) (hz : 1 ≤ z ∧ z ≤ 1048576) (hv : 0 ≤ v ∧ v ≤ 1048576) (hg : 0 ≤ g ∧ g ≤ 4095) (w : World) :
    Calls Tryd.prog 38 #[.agg #[.int .i64 2, .int .i64 z, .int .i64 v, .int .i64 g, .int .i64 a, .int .i64 n, .int .i64 i, .int .i64 p, .int .i64 k, .int .i64 t]] w fun e w' => e = .returned (.bool (okM 2 z v g a n i p k t)) ∧ Below w.heap.size w w' := by
  have hb0 := below_new w (.cells #[.int .i64 2, .int .i64 z, .int .i64 v, .int .i64 g, .int .i64 a, .int .i64 n, .int .i64 i, .int .i64 p, .int .i64 k, .int .i64 t] 29)
  have X := Lies.new w [2, z, v, g, a, n, i, p, k, t] 29 rfl
  have l0 : vLo 2 = 1 := rfl
  have l1 : vHi 2 = 1048576 := rfl
  have l2 : gLo 2 = 1 := rfl
  have l3 : gHi 2 = 4095 := rfl
  have l4 : okRu 2 a n i p k t = okR a n i p k t := rfl
  have c1 := fun w => rrMay_any a n i p k t w
  cases hr : okR a n i p k t
  · have HE : Hid (okM 2 z v g a n i p k t = false) := okM_no fun h => by obtain ⟨h0, h1, h2, h3, h4⟩ := okM_of h; rw [l4, hr] at h4; cases h4
    rw [hr] at c1
    obtain ⟨hz1, hz2⟩ := hz; obtain ⟨hv1, hv2⟩ := hv; obtain ⟨hg1, hg2⟩ := hg
    clear l0 l1 l2 l3 l4
    go_enter Tryd.func38, Tryd.ntmps38
    go_wp2_with fail
    refine (c1 _).mono ?_
    rintro e w1 ⟨rfl, hb1⟩
    obtain ⟨x0, x1, x2, x3, x4, x5, x6, x7, x8, x9⟩ := (X.later hb1).ten
    go_wp2_with fail
    go_ret
    exact ⟨ret_bool HE.out.symm, below_step hb0 hb1⟩
  rw [hr] at c1
  by_cases h5 : v < 1
  · have HE : Hid (okM 2 z v g a n i p k t = false) := okM_no fun h => by obtain ⟨h0, h1, h2, h3, h4⟩ := okM_of h; omega
    obtain ⟨hz1, hz2⟩ := hz; obtain ⟨hv1, hv2⟩ := hv; obtain ⟨hg1, hg2⟩ := hg
    clear l0 l1 l2 l3 l4
    go_enter Tryd.func38, Tryd.ntmps38
    go_wp2_with fail
    refine (c1 _).mono ?_
    rintro e w1 ⟨rfl, hb1⟩
    obtain ⟨x0, x1, x2, x3, x4, x5, x6, x7, x8, x9⟩ := (X.later hb1).ten
    go_wp2_with fail
    go_ret
    exact ⟨ret_bool HE.out.symm, below_step hb0 hb1⟩
  · have HE : Hid (okM 2 z v g a n i p k t = decide (1 ≤ g)) := ok_g (by decide) hz (by omega) (fun h => (by omega)) (fun h => (by omega)) (l4.trans hr)
    obtain ⟨hz1, hz2⟩ := hz; obtain ⟨hv1, hv2⟩ := hv; obtain ⟨hg1, hg2⟩ := hg
    clear l0 l1 l2 l3 l4
    go_enter Tryd.func38, Tryd.ntmps38
    go_wp2_with fail
    refine (c1 _).mono ?_
    rintro e w1 ⟨rfl, hb1⟩
    obtain ⟨x0, x1, x2, x3, x4, x5, x6, x7, x8, x9⟩ := (X.later hb1).ten
    go_wp2_with fail
    go_ret
    exact ⟨ret_bool HE.out.symm, below_step hb0 hb1⟩
set_option maxHeartbeats 1000000 in
theorem rmMay_3 (z v g a n i p k t : Int) (hz : 1 ≤ z ∧ z ≤ 1048576) (hv : 0 ≤ v ∧ v ≤ 1048576) (hg : 0 ≤ g ∧ g ≤ 4095) (w : World) :
    Calls Tryd.prog 38 #[.agg #[.int .i64 3, .int .i64 z, .int .i64 v, .int .i64 g, .int .i64 a, .int .i64 n, .int .i64 i, .int .i64 p, .int .i64 k, .int .i64 t]] w fun e w' => e = .returned (.bool (okM 3 z v g a n i p k t)) ∧ Below w.heap.size w w' := by
  have hb0 := below_new w (.cells #[.int .i64 3, .int .i64 z, .int .i64 v, .int .i64 g, .int .i64 a, .int .i64 n, .int .i64 i, .int .i64 p, .int .i64 k, .int .i64 t] 29)
  have X := Lies.new w [3, z, v, g, a, n, i, p, k, t] 29 rfl
  have l0 : vLo 3 = 1 := rfl
  have l1 : vHi 3 = 1048576 := rfl
  have l2 : gLo 3 = 1 := rfl
  have l3 : gHi 3 = 4095 := rfl
  have l4 : okRu 3 a n i p k t = zeroR a n i p k t := rfl
  have hn := ne_zero a n i p k t
  cases hr : zeroR a n i p k t
  · have HE : Hid (okM 3 z v g a n i p k t = false) := okM_no fun h => by obtain ⟨h0, h1, h2, h3, h4⟩ := okM_of h; rw [l4, hr] at h4; cases h4
    rw [hr] at hn
    obtain ⟨hz1, hz2⟩ := hz; obtain ⟨hv1, hv2⟩ := hv; obtain ⟨hg1, hg2⟩ := hg
    clear l0 l1 l2 l3 l4
    go_enter Tryd.func38, Tryd.ntmps38
    go_wp2_with fail
    go_ret
    exact ⟨ret_bool HE.out.symm, hb0⟩
  rw [hr] at hn
  by_cases h5 : v < 1
  · have HE : Hid (okM 3 z v g a n i p k t = false) := okM_no fun h => by obtain ⟨h0, h1, h2, h3, h4⟩ := okM_of h; omega
    obtain ⟨hz1, hz2⟩ := hz; obtain ⟨hv1, hv2⟩ := hv; obtain ⟨hg1, hg2⟩ := hg
    clear l0 l1 l2 l3 l4
    go_enter Tryd.func38, Tryd.ntmps38
    go_wp2_with fail
    go_ret
    exact ⟨ret_bool HE.out.symm, hb0⟩
  · have HE : Hid (okM 3 z v g a n i p k t = decide (1 ≤ g)) := ok_g (by decide) hz (by omega) (fun h => (by omega)) (fun h => (by omega)) (l4.trans hr)
    obtain ⟨hz1, hz2⟩ := hz; obtain ⟨hv1, hv2⟩ := hv; obtain ⟨hg1, hg2⟩ := hg
    clear l0 l1 l2 l3 l4
    go_enter Tryd.func38, Tryd.ntmps38
    go_wp2_with fail
    go_ret
    exact ⟨ret_bool HE.out.symm, hb0⟩
set_option maxHeartbeats 1000000 in
theorem rmMay_4 (z v g a n i p k t : Int) (hz : 1 ≤ z ∧ z ≤ 1048576) (hv : 0 ≤ v ∧ v ≤ 1048576) (hg : 0 ≤ g ∧ g ≤ 4095) (w : World) :
    Calls Tryd.prog 38 #[.agg #[.int .i64 4, .int .i64 z, .int .i64 v, .int .i64 g, .int .i64 a, .int .i64 n, .int .i64 i, .int .i64 p, .int .i64 k, .int .i64 t]] w fun e w' => e = .returned (.bool (okM 4 z v g a n i p k t)) ∧ Below w.heap.size w w' := by
  have hb0 := below_new w (.cells #[.int .i64 4, .int .i64 z, .int .i64 v, .int .i64 g, .int .i64 a, .int .i64 n, .int .i64 i, .int .i64 p, .int .i64 k, .int .i64 t] 29)
  have X := Lies.new w [4, z, v, g, a, n, i, p, k, t] 29 rfl
  have l0 : vLo 4 = 1 := rfl
  have l1 : vHi 4 = 1048576 := rfl
  have l2 : gLo 4 = 1 := rfl
  have l3 : gHi 4 = 4095 := rfl
  have l4 : okRu 4 a n i p k t = zeroR a n i p k t := rfl
  have hn := ne_zero a n i p k t
  cases hr : zeroR a n i p k t
  · have HE : Hid (okM 4 z v g a n i p k t = false) := okM_no fun h => by obtain ⟨h0, h1, h2, h3, h4⟩ := okM_of h; rw [l4, hr] at h4; cases h4
    rw [hr] at hn
    obtain ⟨hz1, hz2⟩ := hz; obtain ⟨hv1, hv2⟩ := hv; obtain ⟨hg1, hg2⟩ := hg
    clear l0 l1 l2 l3 l4
    go_enter Tryd.func38, Tryd.ntmps38
    go_wp2_with fail
    go_ret
    exact ⟨ret_bool HE.out.symm, hb0⟩
  rw [hr] at hn
  by_cases h5 : v < 1
  · have HE : Hid (okM 4 z v g a n i p k t = false) := okM_no fun h => by obtain ⟨h0, h1, h2, h3, h4⟩ := okM_of h; omega
    obtain ⟨hz1, hz2⟩ := hz; obtain ⟨hv1, hv2⟩ := hv; obtain ⟨hg1, hg2⟩ := hg
    clear l0 l1 l2 l3 l4
    go_enter Tryd.func38, Tryd.ntmps38
    go_wp2_with fail
    go_ret
    exact ⟨ret_bool HE.out.symm, hb0⟩
  · have HE : Hid (okM 4 z v g a n i p k t = decide (1 ≤ g)) := ok_g (by decide) hz (by omega) (fun h => (by omega)) (fun h => (by omega)) (l4.trans hr)
    obtain ⟨hz1, hz2⟩ := hz; obtain ⟨hv1, hv2⟩ := hv; obtain ⟨hg1, hg2⟩ := hg
    clear l0 l1 l2 l3 l4
    go_enter Tryd.func38, Tryd.ntmps38
    go_wp2_with fail
    go_ret
    exact ⟨ret_bool HE.out.symm, hb0⟩
set_option maxHeartbeats 1000000 in
theorem rmMay_5 (z v g a n i p k t : Int) (hz : 1 ≤ z ∧ z ≤ 1048576) (hv : 0 ≤ v ∧ v ≤ 1048576) (hg : 0 ≤ g ∧ g ≤ 4095) (w : World) :
    Calls Tryd.prog 38 #[.agg #[.int .i64 5, .int .i64 z, .int .i64 v, .int .i64 g, .int .i64 a, .int .i64 n, .int .i64 i, .int .i64 p, .int .i64 k, .int .i64 t]] w fun e w' => e = .returned (.bool (okM 5 z v g a n i p k t)) ∧ Below w.heap.size w w' := by
  have hb0 := below_new w (.cells #[.int .i64 5, .int .i64 z, .int .i64 v, .int .i64 g, .int .i64 a, .int .i64 n, .int .i64 i, .int .i64 p, .int .i64 k, .int .i64 t] 29)
  have X := Lies.new w [5, z, v, g, a, n, i, p, k, t] 29 rfl
  have l0 : vLo 5 = 1 := rfl
  have l1 : vHi 5 = 1048576 := rfl
  have l2 : gLo 5 = 0 := rfl
  have l3 : gHi 5 = 0 := rfl
  have l4 : okRu 5 a n i p k t = zeroR a n i p k t := rfl
  have hn := ne_zero a n i p k t
  cases hr : zeroR a n i p k t
  · have HE : Hid (okM 5 z v g a n i p k t = false) := okM_no fun h => by obtain ⟨h0, h1, h2, h3, h4⟩ := okM_of h; rw [l4, hr] at h4; cases h4
    rw [hr] at hn
    obtain ⟨hz1, hz2⟩ := hz; obtain ⟨hv1, hv2⟩ := hv; obtain ⟨hg1, hg2⟩ := hg
    clear l0 l1 l2 l3 l4
    go_enter Tryd.func38, Tryd.ntmps38
    go_wp2_with fail
    go_ret
    exact ⟨ret_bool HE.out.symm, hb0⟩
  rw [hr] at hn
  by_cases h5 : v < 1
  · have HE : Hid (okM 5 z v g a n i p k t = false) := okM_no fun h => by obtain ⟨h0, h1, h2, h3, h4⟩ := okM_of h; omega
    obtain ⟨hz1, hz2⟩ := hz; obtain ⟨hv1, hv2⟩ := hv; obtain ⟨hg1, hg2⟩ := hg
    clear l0 l1 l2 l3 l4
    go_enter Tryd.func38, Tryd.ntmps38
    go_wp2_with fail
    go_ret
    exact ⟨ret_bool HE.out.symm, hb0⟩
  by_cases hg0 : g = 0
  · have HE : Hid (okM 5 z v g a n i p k t = true) := okM_mk (by decide) hz (by omega) (by omega) (l4.trans hr)
    have b2 : (g == 0) = true := by simpa using hg0
    obtain ⟨hz1, hz2⟩ := hz; obtain ⟨hv1, hv2⟩ := hv; obtain ⟨hg1, hg2⟩ := hg
    clear l0 l1 l2 l3 l4 hg0
    go_enter Tryd.func38, Tryd.ntmps38
    go_wp2_with fail
    go_ret
    exact ⟨ret_bool HE.out.symm, hb0⟩
  · have HE : Hid (okM 5 z v g a n i p k t = false) := okM_no fun h => by obtain ⟨h0, h1, h2, h3, h4⟩ := okM_of h; omega
    have b2 : (g == 0) = false := by simpa using hg0
    obtain ⟨hz1, hz2⟩ := hz; obtain ⟨hv1, hv2⟩ := hv; obtain ⟨hg1, hg2⟩ := hg
    clear l0 l1 l2 l3 l4 hg0
    go_enter Tryd.func38, Tryd.ntmps38
    go_wp2_with fail
    go_ret
    exact ⟨ret_bool HE.out.symm, hb0⟩
set_option maxHeartbeats 1000000 in
theorem rmMay_any (y z v g a n i p k t : Int) (w : World) :
    Calls Tryd.prog 38 #[.agg #[.int .i64 y, .int .i64 z, .int .i64 v, .int .i64 g, .int .i64 a, .int .i64 n, .int .i64 i, .int .i64 p, .int .i64 k, .int .i64 t]] w fun e w' => e = .returned (.bool (okM y z v g a n i p k t)) ∧ Below w.heap.size w w' := by
  have hb0 := below_new w (.cells #[.int .i64 y, .int .i64 z, .int .i64 v, .int .i64 g, .int .i64 a, .int .i64 n, .int .i64 i, .int .i64 p, .int .i64 k, .int .i64 t] 29)
  by_cases e0 : y < 0
  · have HE : Hid (okM y z v g a n i p k t = false) := okM_no fun h => by have := okM_bd h; omega
    go_enter Tryd.func38, Tryd.ntmps38
    go_wp2_with fail
    go_ret
    exact ⟨ret_bool HE.out.symm, hb0⟩
  by_cases e1 : 6 ≤ y
  · have HE : Hid (okM y z v g a n i p k t = false) := okM_no fun h => by have := okM_bd h; omega
    go_enter Tryd.func38, Tryd.ntmps38
    go_wp2_with fail
    go_ret
    exact ⟨ret_bool HE.out.symm, hb0⟩
  by_cases e2 : z < 1
  · have HE : Hid (okM y z v g a n i p k t = false) := okM_no fun h => by have := okM_bd h; omega
    go_enter Tryd.func38, Tryd.ntmps38
    go_wp2_with fail
    go_ret
    exact ⟨ret_bool HE.out.symm, hb0⟩
  by_cases e3 : 1048576 < z
  · have HE : Hid (okM y z v g a n i p k t = false) := okM_no fun h => by have := okM_bd h; omega
    go_enter Tryd.func38, Tryd.ntmps38
    go_wp2_with fail
    go_ret
    exact ⟨ret_bool HE.out.symm, hb0⟩
  by_cases e4 : v < 0
  · have HE : Hid (okM y z v g a n i p k t = false) := okM_no fun h => by have := okM_bd h; omega
    go_enter Tryd.func38, Tryd.ntmps38
    go_wp2_with fail
    go_ret
    exact ⟨ret_bool HE.out.symm, hb0⟩
  by_cases e5 : 1048576 < v
  · have HE : Hid (okM y z v g a n i p k t = false) := okM_no fun h => by have := okM_bd h; omega
    go_enter Tryd.func38, Tryd.ntmps38
    go_wp2_with fail
    go_ret
    exact ⟨ret_bool HE.out.symm, hb0⟩
  by_cases e6 : g < 0
  · have HE : Hid (okM y z v g a n i p k t = false) := okM_no fun h => by have := okM_bd h; omega
    go_enter Tryd.func38, Tryd.ntmps38
    go_wp2_with fail
    go_ret
    exact ⟨ret_bool HE.out.symm, hb0⟩
  by_cases e7 : 4095 < g
  · have HE : Hid (okM y z v g a n i p k t = false) := okM_no fun h => by have := okM_bd h; omega
    go_enter Tryd.func38, Tryd.ntmps38
    go_wp2_with fail
    go_ret
    exact ⟨ret_bool HE.out.symm, hb0⟩
  clear hb0
  rcases six_of (show 0 ≤ y ∧ y < 6 by omega) with rfl | rfl | rfl | rfl | rfl | rfl
  · exact rmMay_0 z v g a n i p k t (by omega) (by omega) (by omega) w
  · exact rmMay_1 z v g a n i p k t (by omega) (by omega) (by omega) w
  · exact rmMay_2 z v g a n i p k t (by omega) (by omega) (by omega) w
  · exact rmMay_3 z v g a n i p k t (by omega) (by omega) (by omega) w
  · exact rmMay_4 z v g a n i p k t (by omega) (by omega) (by omega) w
  · exact rmMay_5 z v g a n i p k t (by omega) (by omega) (by omega) w
end Go.Proofs.YtklcchmpmilcaaaDoor
