/- What May of package msg answers, for all messages: the contract that the claims on its statements rest on. -/
import Derived.Test.YtklcchmpmilcaaaDoorMsgWalks
namespace Go.Proofs.YtklcchmpmilcaaaDoor
open Go.ChangeShapes Go.WideShapes Go.ChangeAt Go.RowKit R Q
set_option linter.unusedVariables false
set_option linter.unusedSimpArgs false

theorem mRule_any (y z v g a n i p k t : Int) (w : World) (T : Tab w) :
    Calls Tryd.prog 33 #[.agg #[.int .i64 y, .int .i64 z, .int .i64 v, .int .i64 g, .int .i64 a, .int .i64 n, .int .i64 i, .int .i64 p, .int .i64 k, .int .i64 t]] w fun e w' => e = .returned (.bool (okRu y a n i p k t)) ∧ Below w.heap.size w w' := by
  have hb0 := below_new w (.cells #[.int .i64 y, .int .i64 z, .int .i64 v, .int .i64 g, .int .i64 a, .int .i64 n, .int .i64 i, .int .i64 p, .int .i64 k, .int .i64 t] 29)
  have X := Lies.new w [y, z, v, g, a, n, i, p, k, t] 29 rfl
  have T0 := T.later hb0
  obtain ⟨x0, x1, x2, x3, x4, x5, x6, x7, x8, x9⟩ := X.ten
  have c1 := fun w T => mTells_any y w T
  by_cases hy : y = 2
  · have HE : Hid (okRu y a n i p k t = okR a n i p k t) := by unfold Hid okRu; rw [if_pos hy]
    rw [decide_eq_true hy] at c1
    clear hy
    go_enter Tryd.func33, Tryd.ntmps33
    go_wp2_with fail
    refine (c1 _ T0).mono ?_
    rintro e w' ⟨rfl, rfl⟩
    go_wp2_with fail
    refine (ruMay_any a n i p k t _).mono ?_
    rintro e w1 ⟨rfl, hb1⟩
    go_wp2_with fail
    go_ret
    exact ⟨ret_bool HE.out.symm, below_step hb0 hb1⟩
  · have HE : Hid (okRu y a n i p k t = zeroR a n i p k t) := by unfold Hid okRu; rw [if_neg hy]
    rw [decide_eq_false hy] at c1
    have hz := eq_zero a n i p k t
    clear hy
    go_enter Tryd.func33, Tryd.ntmps33
    go_wp2_with fail
    refine (c1 _ T0).mono ?_
    rintro e w' ⟨rfl, rfl⟩
    go_wp2_with fail
    go_ret
    exact ⟨ret_bool HE.out.symm, hb0⟩
set_option maxHeartbeats 1000000 in
theorem mMay_0 (z v g a n i p k t : Int) (w : World) (T : Tab w) :
    Calls Tryd.prog 15 #[.agg #[.int .i64 0, .int .i64 z, .int .i64 v, .int .i64 g, .int .i64 a, .int .i64 n, .int .i64 i, .int .i64 p, .int .i64 k, .int .i64 t]] w fun e w' => e = .returned (.bool (okM 0 z v g a n i p k t)) ∧ Below w.heap.size w w' := by
  have hok : okM 0 z v g a n i p k t = (decide (1 ≤ z ∧ z ≤ 1048576) && (decide (0 ≤ v ∧ v ≤ 0) && (decide (0 ≤ g ∧ g ≤ 0) && okRu 0 a n i p k t))) := rfl
  rw [hok]
  clear hok
  have hb0 := below_new w (.cells #[.int .i64 0, .int .i64 z, .int .i64 v, .int .i64 g, .int .i64 a, .int .i64 n, .int .i64 i, .int .i64 p, .int .i64 k, .int .i64 t] 29)
  have X := Lies.new w [0, z, v, g, a, n, i, p, k, t] 29 rfl
  have T0 := T.later hb0
  have t0 := T0.cells 0 _ rfl
  have t1 := T0.cells 1 _ rfl
  have t2 := T0.cells 2 _ rfl
  have t3 := T0.cells 3 _ rfl
  have t4 := T0.cells 4 _ rfl
  have t5 := T0.cells 5 _ rfl
  have t6 := T0.cells 6 _ rfl
  have hb1 := below_new (w.alloc (.cells #[.int .i64 0, .int .i64 z, .int .i64 v, .int .i64 g, .int .i64 a, .int .i64 n, .int .i64 i, .int .i64 p, .int .i64 k, .int .i64 t] 29)) (.cells #[.int .i64 1, .int .i64 1048576, .int .i64 0, .int .i64 0, .int .i64 0, .int .i64 0, .bool false] 58)
  have H := Holds.new (w.alloc (.cells #[.int .i64 0, .int .i64 z, .int .i64 v, .int .i64 g, .int .i64 a, .int .i64 n, .int .i64 i, .int .i64 p, .int .i64 k, .int .i64 t] 29)) (rowL 0 0 0 0 false) 58 (B := w.heap.size + 1) (by simp)
  replace X := X.later hb1
  replace T0 := T0.later hb1
  have hB := below_step hb0 hb1
  have c1 := fun w => mHas_any 1 1048576 z w
  have c2 := fun w => mHas_any 0 0 v w
  have c3 := fun w => mHas_any 0 0 g w
  have c4 := fun w T => mRule_any 0 z v g a n i p k t w T
  obtain ⟨b1, h1⟩ : ∃ x, decide (1 ≤ z ∧ z ≤ 1048576) = x := ⟨_, rfl⟩
  obtain ⟨b2, h2⟩ : ∃ x, decide (0 ≤ v ∧ v ≤ 0) = x := ⟨_, rfl⟩
  obtain ⟨b3, h3⟩ : ∃ x, decide (0 ≤ g ∧ g ≤ 0) = x := ⟨_, rfl⟩
  obtain ⟨b4, h4⟩ : ∃ x, okRu 0 a n i p k t = x := ⟨_, rfl⟩
  rw [h1] at c1
  rw [h2] at c2
  rw [h3] at c3
  rw [h4] at c4
  rw [h1, h2, h3, h4]
  clear h1 h2 h3 h4 hb0 hb1
  cases b1
  · go_enter Tryd.func15, Tryd.ntmps15
    go_wp2_with fail
    refine (mKind_any _ _).mono ?_
    rintro e w' ⟨rfl, rfl⟩
    go_wp2_with fail
    refine (c1 _).mono ?_
    rintro e w1 ⟨rfl, hb⟩
    replace X := X.later hb
    replace H := H.later hb
    replace T0 := T0.later hb
    replace hB := below_step hB hb
    clear hb
    go_wp2_with fail
    go_ret
    exact ⟨rfl, hB⟩
  cases b2
  · go_enter Tryd.func15, Tryd.ntmps15
    go_wp2_with fail
    refine (mKind_any _ _).mono ?_
    rintro e w' ⟨rfl, rfl⟩
    go_wp2_with fail
    refine (c1 _).mono ?_
    rintro e w1 ⟨rfl, hb⟩
    replace X := X.later hb
    replace H := H.later hb
    replace T0 := T0.later hb
    replace hB := below_step hB hb
    clear hb
    obtain ⟨x0, x1, x2, x3, x4, x5, x6, x7, x8, x9⟩ := X.ten
    obtain ⟨u0, u1, u2, u3, u4, u5, u6⟩ := H.seven
    go_wp2_with fail
    refine (c2 _).mono ?_
    rintro e w2 ⟨rfl, hb⟩
    replace X := X.later hb
    replace H := H.later hb
    replace T0 := T0.later hb
    replace hB := below_step hB hb
    clear hb
    go_wp2_with fail
    go_ret
    exact ⟨rfl, hB⟩
  cases b3
  · go_enter Tryd.func15, Tryd.ntmps15
    go_wp2_with fail
    refine (mKind_any _ _).mono ?_
    rintro e w' ⟨rfl, rfl⟩
    go_wp2_with fail
    refine (c1 _).mono ?_
    rintro e w1 ⟨rfl, hb⟩
    replace X := X.later hb
    replace H := H.later hb
    replace T0 := T0.later hb
    replace hB := below_step hB hb
    clear hb
    obtain ⟨x0, x1, x2, x3, x4, x5, x6, x7, x8, x9⟩ := X.ten
    obtain ⟨u0, u1, u2, u3, u4, u5, u6⟩ := H.seven
    go_wp2_with fail
    refine (c2 _).mono ?_
    rintro e w2 ⟨rfl, hb⟩
    replace X := X.later hb
    replace H := H.later hb
    replace T0 := T0.later hb
    replace hB := below_step hB hb
    clear hb
    obtain ⟨x0, x1, x2, x3, x4, x5, x6, x7, x8, x9⟩ := X.ten
    obtain ⟨u0, u1, u2, u3, u4, u5, u6⟩ := H.seven
    go_wp2_with fail
    refine (c3 _).mono ?_
    rintro e w3 ⟨rfl, hb⟩
    replace X := X.later hb
    replace H := H.later hb
    replace T0 := T0.later hb
    replace hB := below_step hB hb
    clear hb
    go_wp2_with fail
    go_ret
    exact ⟨rfl, hB⟩
  · go_enter Tryd.func15, Tryd.ntmps15
    go_wp2_with fail
    refine (mKind_any _ _).mono ?_
    rintro e w' ⟨rfl, rfl⟩
    go_wp2_with fail
    refine (c1 _).mono ?_
    rintro e w1 ⟨rfl, hb⟩
    replace X := X.later hb
    replace H := H.later hb
    replace T0 := T0.later hb
    replace hB := below_step hB hb
    clear hb
    obtain ⟨x0, x1, x2, x3, x4, x5, x6, x7, x8, x9⟩ := X.ten
    obtain ⟨u0, u1, u2, u3, u4, u5, u6⟩ := H.seven
    go_wp2_with fail
    refine (c2 _).mono ?_
    rintro e w2 ⟨rfl, hb⟩
    replace X := X.later hb
    replace H := H.later hb
    replace T0 := T0.later hb
    replace hB := below_step hB hb
    clear hb
    obtain ⟨x0, x1, x2, x3, x4, x5, x6, x7, x8, x9⟩ := X.ten
    obtain ⟨u0, u1, u2, u3, u4, u5, u6⟩ := H.seven
    go_wp2_with fail
    refine (c3 _).mono ?_
    rintro e w3 ⟨rfl, hb⟩
    replace X := X.later hb
    replace H := H.later hb
    replace T0 := T0.later hb
    replace hB := below_step hB hb
    clear hb
    obtain ⟨x0, x1, x2, x3, x4, x5, x6, x7, x8, x9⟩ := X.ten
    obtain ⟨u0, u1, u2, u3, u4, u5, u6⟩ := H.seven
    go_wp2_with fail
    refine (c4 _ T0).mono ?_
    rintro e w4 ⟨rfl, hb⟩
    replace hB := below_step hB hb
    go_wp2_with fail
    go_ret
    exact ⟨rfl, hB⟩
set_option maxHeartbeats 1000000 in
theorem mMay_1 (z v g a n i p k t : Int) (w : World) (T : Tab w) :
    Calls Tryd.prog 15 #[.agg #[.int .i64 1, .int .i64 z, .int .i64 v, .int .i64 g, .int .i64 a, .int .i64 n, .int .i64 i, .int .i64 p, .int .i64 k, .int .i64 t]] w fun e w' => e = .returned (.bool (okM 1 z v g a n i p k t)) ∧ Below w.heap.size w w' := by
  have hok : okM 1 z v g a n i p k t = (decide (1 ≤ z ∧ z ≤ 1048576) && (decide (0 ≤ v ∧ v ≤ 1048576) && (decide (0 ≤ g ∧ g ≤ 4095) && okRu 1 a n i p k t))) := rfl
  rw [hok]
  clear hok
  have hb0 := below_new w (.cells #[.int .i64 1, .int .i64 z, .int .i64 v, .int .i64 g, .int .i64 a, .int .i64 n, .int .i64 i, .int .i64 p, .int .i64 k, .int .i64 t] 29)
  have X := Lies.new w [1, z, v, g, a, n, i, p, k, t] 29 rfl
  have T0 := T.later hb0
  have t0 := T0.cells 7 _ rfl
  have t1 := T0.cells 8 _ rfl
  have t2 := T0.cells 9 _ rfl
  have t3 := T0.cells 10 _ rfl
  have t4 := T0.cells 11 _ rfl
  have t5 := T0.cells 12 _ rfl
  have t6 := T0.cells 13 _ rfl
  have hb1 := below_new (w.alloc (.cells #[.int .i64 1, .int .i64 z, .int .i64 v, .int .i64 g, .int .i64 a, .int .i64 n, .int .i64 i, .int .i64 p, .int .i64 k, .int .i64 t] 29)) (.cells #[.int .i64 1, .int .i64 1048576, .int .i64 0, .int .i64 1048576, .int .i64 0, .int .i64 4095, .bool false] 58)
  have H := Holds.new (w.alloc (.cells #[.int .i64 1, .int .i64 z, .int .i64 v, .int .i64 g, .int .i64 a, .int .i64 n, .int .i64 i, .int .i64 p, .int .i64 k, .int .i64 t] 29)) (rowL 0 1048576 0 4095 false) 58 (B := w.heap.size + 1) (by simp)
  replace X := X.later hb1
  replace T0 := T0.later hb1
  have hB := below_step hb0 hb1
  have c1 := fun w => mHas_any 1 1048576 z w
  have c2 := fun w => mHas_any 0 1048576 v w
  have c3 := fun w => mHas_any 0 4095 g w
  have c4 := fun w T => mRule_any 1 z v g a n i p k t w T
  obtain ⟨b1, h1⟩ : ∃ x, decide (1 ≤ z ∧ z ≤ 1048576) = x := ⟨_, rfl⟩
  obtain ⟨b2, h2⟩ : ∃ x, decide (0 ≤ v ∧ v ≤ 1048576) = x := ⟨_, rfl⟩
  obtain ⟨b3, h3⟩ : ∃ x, decide (0 ≤ g ∧ g ≤ 4095) = x := ⟨_, rfl⟩
  obtain ⟨b4, h4⟩ : ∃ x, okRu 1 a n i p k t = x := ⟨_, rfl⟩
  rw [h1] at c1
  rw [h2] at c2
  rw [h3] at c3
  rw [h4] at c4
  rw [h1, h2, h3, h4]
  clear h1 h2 h3 h4 hb0 hb1
  cases b1
  · go_enter Tryd.func15, Tryd.ntmps15
    go_wp2_with fail
    refine (mKind_any _ _).mono ?_
    rintro e w' ⟨rfl, rfl⟩
    go_wp2_with fail
    refine (c1 _).mono ?_
    rintro e w1 ⟨rfl, hb⟩
    replace X := X.later hb
    replace H := H.later hb
    replace T0 := T0.later hb
    replace hB := below_step hB hb
    clear hb
    go_wp2_with fail
    go_ret
    exact ⟨rfl, hB⟩
  cases b2
  · go_enter Tryd.func15, Tryd.ntmps15
    go_wp2_with fail
    refine (mKind_any _ _).mono ?_
    rintro e w' ⟨rfl, rfl⟩
    go_wp2_with fail
    refine (c1 _).mono ?_
    rintro e w1 ⟨rfl, hb⟩
    replace X := X.later hb
    replace H := H.later hb
    replace T0 := T0.later hb
    replace hB := below_step hB hb
    clear hb
    obtain ⟨x0, x1, x2, x3, x4, x5, x6, x7, x8, x9⟩ := X.ten
    obtain ⟨u0, u1, u2, u3, u4, u5, u6⟩ := H.seven
    go_wp2_with fail
    refine (c2 _).mono ?_
    rintro e w2 ⟨rfl, hb⟩
    replace X := X.later hb
    replace H := H.later hb
    replace T0 := T0.later hb
    replace hB := below_step hB hb
    clear hb
    go_wp2_with fail
    go_ret
    exact ⟨rfl, hB⟩
  cases b3
  · go_enter Tryd.func15, Tryd.ntmps15
    go_wp2_with fail
    refine (mKind_any _ _).mono ?_
    rintro e w' ⟨rfl, rfl⟩
    go_wp2_with fail
    refine (c1 _).mono ?_
    rintro e w1 ⟨rfl, hb⟩
    replace X := X.later hb
    replace H := H.later hb
    replace T0 := T0.later hb
    replace hB := below_step hB hb
    clear hb
    obtain ⟨x0, x1, x2, x3, x4, x5, x6, x7, x8, x9⟩ := X.ten
    obtain ⟨u0, u1, u2, u3, u4, u5, u6⟩ := H.seven
    go_wp2_with fail
    refine (c2 _).mono ?_
    rintro e w2 ⟨rfl, hb⟩
    replace X := X.later hb
    replace H := H.later hb
    replace T0 := T0.later hb
    replace hB := below_step hB hb
    clear hb
    obtain ⟨x0, x1, x2, x3, x4, x5, x6, x7, x8, x9⟩ := X.ten
    obtain ⟨u0, u1, u2, u3, u4, u5, u6⟩ := H.seven
    go_wp2_with fail
    refine (c3 _).mono ?_
    rintro e w3 ⟨rfl, hb⟩
    replace X := X.later hb
    replace H := H.later hb
    replace T0 := T0.later hb
    replace hB := below_step hB hb
    clear hb
    go_wp2_with fail
    go_ret
    exact ⟨rfl, hB⟩
  · go_enter Tryd.func15, Tryd.ntmps15
    go_wp2_with fail
    refine (mKind_any _ _).mono ?_
    rintro e w' ⟨rfl, rfl⟩
    go_wp2_with fail
    refine (c1 _).mono ?_
    rintro e w1 ⟨rfl, hb⟩
    replace X := X.later hb
    replace H := H.later hb
    replace T0 := T0.later hb
    replace hB := below_step hB hb
    clear hb
    obtain ⟨x0, x1, x2, x3, x4, x5, x6, x7, x8, x9⟩ := X.ten
    obtain ⟨u0, u1, u2, u3, u4, u5, u6⟩ := H.seven
    go_wp2_with fail
    refine (c2 _).mono ?_
    rintro e w2 ⟨rfl, hb⟩
    replace X := X.later hb
    replace H := H.later hb
    replace T0 := T0.later hb
    replace hB := below_step hB hb
    clear hb
    obtain ⟨x0, x1, x2, x3, x4, x5, x6, x7, x8, x9⟩ := X.ten
    obtain ⟨u0, u1, u2, u3, u4, u5, u6⟩ := H.seven
    go_wp2_with fail
    refine (c3 _).mono ?_
    rintro e w3 ⟨rfl, hb⟩
    replace X := X.later hb
    replace H := H.later hb
    replace T0 := T0.later hb
    replace hB := below_step hB hb
    clear hb
    obtain ⟨x0, x1, x2, x3, x4, x5, x6, x7, x8, x9⟩ := X.ten
    obtain ⟨u0, u1, u2, u3, u4, u5, u6⟩ := H.seven
    go_wp2_with fail
    refine (c4 _ T0).mono ?_
    rintro e w4 ⟨rfl, hb⟩
    replace hB := below_step hB hb
    go_wp2_with fail
    go_ret
    exact ⟨rfl, hB⟩
set_option maxHeartbeats 1000000 in
theorem mMay_2 (z v g a n i p k t : Int) (w : World) (T : Tab w) :
    Calls Tryd.prog 15 #[.agg #[.int .i64 2, .int .i64 z, .int .i64 v, .int .i64 g, .int .i64 a, .int .i64 n, .int .i64 i, .int .i64 p, .int .i64 k, .int .i64 t]] w fun e w' => e = .returned (.bool (okM 2 z v g a n i p k t)) ∧ Below w.heap.size w w' := by
  have hok : okM 2 z v g a n i p k t = (decide (1 ≤ z ∧ z ≤ 1048576) && (decide (1 ≤ v ∧ v ≤ 1048576) && (decide (1 ≤ g ∧ g ≤ 4095) && okRu 2 a n i p k t))) := rfl
  rw [hok]
  clear hok
  have hb0 := below_new w (.cells #[.int .i64 2, .int .i64 z, .int .i64 v, .int .i64 g, .int .i64 a, .int .i64 n, .int .i64 i, .int .i64 p, .int .i64 k, .int .i64 t] 29)
  have X := Lies.new w [2, z, v, g, a, n, i, p, k, t] 29 rfl
  have T0 := T.later hb0
  have t0 := T0.cells 14 _ rfl
  have t1 := T0.cells 15 _ rfl
  have t2 := T0.cells 16 _ rfl
  have t3 := T0.cells 17 _ rfl
  have t4 := T0.cells 18 _ rfl
  have t5 := T0.cells 19 _ rfl
  have t6 := T0.cells 20 _ rfl
  have hb1 := below_new (w.alloc (.cells #[.int .i64 2, .int .i64 z, .int .i64 v, .int .i64 g, .int .i64 a, .int .i64 n, .int .i64 i, .int .i64 p, .int .i64 k, .int .i64 t] 29)) (.cells #[.int .i64 1, .int .i64 1048576, .int .i64 1, .int .i64 1048576, .int .i64 1, .int .i64 4095, .bool true] 58)
  have H := Holds.new (w.alloc (.cells #[.int .i64 2, .int .i64 z, .int .i64 v, .int .i64 g, .int .i64 a, .int .i64 n, .int .i64 i, .int .i64 p, .int .i64 k, .int .i64 t] 29)) (rowL 1 1048576 1 4095 true) 58 (B := w.heap.size + 1) (by simp)
  replace X := X.later hb1
  replace T0 := T0.later hb1
  have hB := below_step hb0 hb1
  have c1 := fun w => mHas_any 1 1048576 z w
  have c2 := fun w => mHas_any 1 1048576 v w
  have c3 := fun w => mHas_any 1 4095 g w
  have c4 := fun w T => mRule_any 2 z v g a n i p k t w T
  obtain ⟨b1, h1⟩ : ∃ x, decide (1 ≤ z ∧ z ≤ 1048576) = x := ⟨_, rfl⟩
  obtain ⟨b2, h2⟩ : ∃ x, decide (1 ≤ v ∧ v ≤ 1048576) = x := ⟨_, rfl⟩
  obtain ⟨b3, h3⟩ : ∃ x, decide (1 ≤ g ∧ g ≤ 4095) = x := ⟨_, rfl⟩
  obtain ⟨b4, h4⟩ : ∃ x, okRu 2 a n i p k t = x := ⟨_, rfl⟩
  rw [h1] at c1
  rw [h2] at c2
  rw [h3] at c3
  rw [h4] at c4
  rw [h1, h2, h3, h4]
  clear h1 h2 h3 h4 hb0 hb1
  cases b1
  · go_enter Tryd.func15, Tryd.ntmps15
    go_wp2_with fail
    refine (mKind_any _ _).mono ?_
    rintro e w' ⟨rfl, rfl⟩
    go_wp2_with fail
    refine (c1 _).mono ?_
    rintro e w1 ⟨rfl, hb⟩
    replace X := X.later hb
    replace H := H.later hb
    replace T0 := T0.later hb
    replace hB := below_step hB hb
    clear hb
    go_wp2_with fail
    go_ret
    exact ⟨rfl, hB⟩
  cases b2
  · go_enter Tryd.func15, Tryd.ntmps15
    go_wp2_with fail
    refine (mKind_any _ _).mono ?_
    rintro e w' ⟨rfl, rfl⟩
    go_wp2_with fail
    refine (c1 _).mono ?_
    rintro e w1 ⟨rfl, hb⟩
    replace X := X.later hb
    replace H := H.later hb
    replace T0 := T0.later hb
    replace hB := below_step hB hb
    clear hb
    obtain ⟨x0, x1, x2, x3, x4, x5, x6, x7, x8, x9⟩ := X.ten
    obtain ⟨u0, u1, u2, u3, u4, u5, u6⟩ := H.seven
    go_wp2_with fail
    refine (c2 _).mono ?_
    rintro e w2 ⟨rfl, hb⟩
    replace X := X.later hb
    replace H := H.later hb
    replace T0 := T0.later hb
    replace hB := below_step hB hb
    clear hb
    go_wp2_with fail
    go_ret
    exact ⟨rfl, hB⟩
  cases b3
  · go_enter Tryd.func15, Tryd.ntmps15
    go_wp2_with fail
    refine (mKind_any _ _).mono ?_
    rintro e w' ⟨rfl, rfl⟩
    go_wp2_with fail
    refine (c1 _).mono ?_
    rintro e w1 ⟨rfl, hb⟩
    replace X := X.later hb
    replace H := H.later hb
    replace T0 := T0.later hb
    replace hB := below_step hB hb
    clear hb
    obtain ⟨x0, x1, x2, x3, x4, x5, x6, x7, x8, x9⟩ := X.ten
    obtain ⟨u0, u1, u2, u3, u4, u5, u6⟩ := H.seven
    go_wp2_with fail
    refine (c2 _).mono ?_
    rintro e w2 ⟨rfl, hb⟩
    replace X := X.later hb
    replace H := H.later hb
    replace T0 := T0.later hb
    replace hB := below_step hB hb
    clear hb
    obtain ⟨x0, x1, x2, x3, x4, x5, x6, x7, x8, x9⟩ := X.ten
    obtain ⟨u0, u1, u2, u3, u4, u5, u6⟩ := H.seven
    go_wp2_with fail
    refine (c3 _).mono ?_
    rintro e w3 ⟨rfl, hb⟩
    replace X := X.later hb
    replace H := H.later hb
    replace T0 := T0.later hb
    replace hB := below_step hB hb
    clear hb
    go_wp2_with fail
    go_ret
    exact ⟨rfl, hB⟩
  · go_enter Tryd.func15, Tryd.ntmps15
    go_wp2_with fail
    refine (mKind_any _ _).mono ?_
    rintro e w' ⟨rfl, rfl⟩
    go_wp2_with fail
    refine (c1 _).mono ?_
    rintro e w1 ⟨rfl, hb⟩
    replace X := X.later hb
    replace H := H.later hb
    replace T0 := T0.later hb
    replace hB := below_step hB hb
    clear hb
    obtain ⟨x0, x1, x2, x3, x4, x5, x6, x7, x8, x9⟩ := X.ten
    obtain ⟨u0, u1, u2, u3, u4, u5, u6⟩ := H.seven
    go_wp2_with fail
    refine (c2 _).mono ?_
    rintro e w2 ⟨rfl, hb⟩
    replace X := X.later hb
    replace H := H.later hb
    replace T0 := T0.later hb
    replace hB := below_step hB hb
    clear hb
    obtain ⟨x0, x1, x2, x3, x4, x5, x6, x7, x8, x9⟩ := X.ten
    obtain ⟨u0, u1, u2, u3, u4, u5, u6⟩ := H.seven
    go_wp2_with fail
    refine (c3 _).mono ?_
    rintro e w3 ⟨rfl, hb⟩
    replace X := X.later hb
    replace H := H.later hb
    replace T0 := T0.later hb
    replace hB := below_step hB hb
    clear hb
    obtain ⟨x0, x1, x2, x3, x4, x5, x6, x7, x8, x9⟩ := X.ten
    obtain ⟨u0, u1, u2, u3, u4, u5, u6⟩ := H.seven
    go_wp2_with fail
    refine (c4 _ T0).mono ?_
    rintro e w4 ⟨rfl, hb⟩
    replace hB := below_step hB hb
    go_wp2_with fail
    go_ret
    exact ⟨rfl, hB⟩
set_option maxHeartbeats 1000000 in
theorem mMay_3 (z v g a n i p k t : Int) (w : World) (T : Tab w) :
    Calls Tryd.prog 15 #[.agg #[.int .i64 3, .int .i64 z, .int .i64 v, .int .i64 g, .int .i64 a, .int .i64 n, .int .i64 i, .int .i64 p, .int .i64 k, .int .i64 t]] w fun e w' => e = .returned (.bool (okM 3 z v g a n i p k t)) ∧ Below w.heap.size w w' := by
  have hok : okM 3 z v g a n i p k t = (decide (1 ≤ z ∧ z ≤ 1048576) && (decide (1 ≤ v ∧ v ≤ 1048576) && (decide (1 ≤ g ∧ g ≤ 4095) && okRu 3 a n i p k t))) := rfl
  rw [hok]
  clear hok
  have hb0 := below_new w (.cells #[.int .i64 3, .int .i64 z, .int .i64 v, .int .i64 g, .int .i64 a, .int .i64 n, .int .i64 i, .int .i64 p, .int .i64 k, .int .i64 t] 29)
  have X := Lies.new w [3, z, v, g, a, n, i, p, k, t] 29 rfl
  have T0 := T.later hb0
  have t0 := T0.cells 21 _ rfl
  have t1 := T0.cells 22 _ rfl
  have t2 := T0.cells 23 _ rfl
  have t3 := T0.cells 24 _ rfl
  have t4 := T0.cells 25 _ rfl
  have t5 := T0.cells 26 _ rfl
  have t6 := T0.cells 27 _ rfl
  have hb1 := below_new (w.alloc (.cells #[.int .i64 3, .int .i64 z, .int .i64 v, .int .i64 g, .int .i64 a, .int .i64 n, .int .i64 i, .int .i64 p, .int .i64 k, .int .i64 t] 29)) (.cells #[.int .i64 1, .int .i64 1048576, .int .i64 1, .int .i64 1048576, .int .i64 1, .int .i64 4095, .bool false] 58)
  have H := Holds.new (w.alloc (.cells #[.int .i64 3, .int .i64 z, .int .i64 v, .int .i64 g, .int .i64 a, .int .i64 n, .int .i64 i, .int .i64 p, .int .i64 k, .int .i64 t] 29)) (rowL 1 1048576 1 4095 false) 58 (B := w.heap.size + 1) (by simp)
  replace X := X.later hb1
  replace T0 := T0.later hb1
  have hB := below_step hb0 hb1
  have c1 := fun w => mHas_any 1 1048576 z w
  have c2 := fun w => mHas_any 1 1048576 v w
  have c3 := fun w => mHas_any 1 4095 g w
  have c4 := fun w T => mRule_any 3 z v g a n i p k t w T
  obtain ⟨b1, h1⟩ : ∃ x, decide (1 ≤ z ∧ z ≤ 1048576) = x := ⟨_, rfl⟩
  obtain ⟨b2, h2⟩ : ∃ x, decide (1 ≤ v ∧ v ≤ 1048576) = x := ⟨_, rfl⟩
  obtain ⟨b3, h3⟩ : ∃ x, decide (1 ≤ g ∧ g ≤ 4095) = x := ⟨_, rfl⟩
  obtain ⟨b4, h4⟩ : ∃ x, okRu 3 a n i p k t = x := ⟨_, rfl⟩
  rw [h1] at c1
  rw [h2] at c2
  rw [h3] at c3
  rw [h4] at c4
  rw [h1, h2, h3, h4]
  clear h1 h2 h3 h4 hb0 hb1
  cases b1
  · go_enter Tryd.func15, Tryd.ntmps15
    go_wp2_with fail
    refine (mKind_any _ _).mono ?_
    rintro e w' ⟨rfl, rfl⟩
    go_wp2_with fail
    refine (c1 _).mono ?_
    rintro e w1 ⟨rfl, hb⟩
    replace X := X.later hb
    replace H := H.later hb
    replace T0 := T0.later hb
    replace hB := below_step hB hb
    clear hb
    go_wp2_with fail
    go_ret
    exact ⟨rfl, hB⟩
  cases b2
  · go_enter Tryd.func15, Tryd.ntmps15
    go_wp2_with fail
    refine (mKind_any _ _).mono ?_
    rintro e w' ⟨rfl, rfl⟩
    go_wp2_with fail
    refine (c1 _).mono ?_
    rintro e w1 ⟨rfl, hb⟩
    replace X := X.later hb
    replace H := H.later hb
    replace T0 := T0.later hb
    replace hB := below_step hB hb
    clear hb
    obtain ⟨x0, x1, x2, x3, x4, x5, x6, x7, x8, x9⟩ := X.ten
    obtain ⟨u0, u1, u2, u3, u4, u5, u6⟩ := H.seven
    go_wp2_with fail
    refine (c2 _).mono ?_
    rintro e w2 ⟨rfl, hb⟩
    replace X := X.later hb
    replace H := H.later hb
    replace T0 := T0.later hb
    replace hB := below_step hB hb
    clear hb
    go_wp2_with fail
    go_ret
    exact ⟨rfl, hB⟩
  cases b3
  · go_enter Tryd.func15, Tryd.ntmps15
    go_wp2_with fail
    refine (mKind_any _ _).mono ?_
    rintro e w' ⟨rfl, rfl⟩
    go_wp2_with fail
    refine (c1 _).mono ?_
    rintro e w1 ⟨rfl, hb⟩
    replace X := X.later hb
    replace H := H.later hb
    replace T0 := T0.later hb
    replace hB := below_step hB hb
    clear hb
    obtain ⟨x0, x1, x2, x3, x4, x5, x6, x7, x8, x9⟩ := X.ten
    obtain ⟨u0, u1, u2, u3, u4, u5, u6⟩ := H.seven
    go_wp2_with fail
    refine (c2 _).mono ?_
    rintro e w2 ⟨rfl, hb⟩
    replace X := X.later hb
    replace H := H.later hb
    replace T0 := T0.later hb
    replace hB := below_step hB hb
    clear hb
    obtain ⟨x0, x1, x2, x3, x4, x5, x6, x7, x8, x9⟩ := X.ten
    obtain ⟨u0, u1, u2, u3, u4, u5, u6⟩ := H.seven
    go_wp2_with fail
    refine (c3 _).mono ?_
    rintro e w3 ⟨rfl, hb⟩
    replace X := X.later hb
    replace H := H.later hb
    replace T0 := T0.later hb
    replace hB := below_step hB hb
    clear hb
    go_wp2_with fail
    go_ret
    exact ⟨rfl, hB⟩
  · go_enter Tryd.func15, Tryd.ntmps15
    go_wp2_with fail
    refine (mKind_any _ _).mono ?_
    rintro e w' ⟨rfl, rfl⟩
    go_wp2_with fail
    refine (c1 _).mono ?_
    rintro e w1 ⟨rfl, hb⟩
    replace X := X.later hb
    replace H := H.later hb
    replace T0 := T0.later hb
    replace hB := below_step hB hb
    clear hb
    obtain ⟨x0, x1, x2, x3, x4, x5, x6, x7, x8, x9⟩ := X.ten
    obtain ⟨u0, u1, u2, u3, u4, u5, u6⟩ := H.seven
    go_wp2_with fail
    refine (c2 _).mono ?_
    rintro e w2 ⟨rfl, hb⟩
    replace X := X.later hb
    replace H := H.later hb
    replace T0 := T0.later hb
    replace hB := below_step hB hb
    clear hb
    obtain ⟨x0, x1, x2, x3, x4, x5, x6, x7, x8, x9⟩ := X.ten
    obtain ⟨u0, u1, u2, u3, u4, u5, u6⟩ := H.seven
    go_wp2_with fail
    refine (c3 _).mono ?_
    rintro e w3 ⟨rfl, hb⟩
    replace X := X.later hb
    replace H := H.later hb
    replace T0 := T0.later hb
    replace hB := below_step hB hb
    clear hb
    obtain ⟨x0, x1, x2, x3, x4, x5, x6, x7, x8, x9⟩ := X.ten
    obtain ⟨u0, u1, u2, u3, u4, u5, u6⟩ := H.seven
    go_wp2_with fail
    refine (c4 _ T0).mono ?_
    rintro e w4 ⟨rfl, hb⟩
    replace hB := below_step hB hb
    go_wp2_with fail
    go_ret
    exact ⟨rfl, hB⟩
set_option maxHeartbeats 1000000 in
theorem mMay_4 (z v g a n i p k t : Int) (w : World) (T : Tab w) :
    Calls Tryd.prog 15 #[.agg #[.int .i64 4, .int .i64 z, .int .i64 v, .int .i64 g, .int .i64 a, .int .i64 n, .int .i64 i, .int .i64 p, .int .i64 k, .int .i64 t]] w fun e w' => e = .returned (.bool (okM 4 z v g a n i p k t)) ∧ Below w.heap.size w w' := by
  have hok : okM 4 z v g a n i p k t = (decide (1 ≤ z ∧ z ≤ 1048576) && (decide (1 ≤ v ∧ v ≤ 1048576) && (decide (1 ≤ g ∧ g ≤ 4095) && okRu 4 a n i p k t))) := rfl
  rw [hok]
  clear hok
  have hb0 := below_new w (.cells #[.int .i64 4, .int .i64 z, .int .i64 v, .int .i64 g, .int .i64 a, .int .i64 n, .int .i64 i, .int .i64 p, .int .i64 k, .int .i64 t] 29)
  have X := Lies.new w [4, z, v, g, a, n, i, p, k, t] 29 rfl
  have T0 := T.later hb0
  have t0 := T0.cells 28 _ rfl
  have t1 := T0.cells 29 _ rfl
  have t2 := T0.cells 30 _ rfl
  have t3 := T0.cells 31 _ rfl
  have t4 := T0.cells 32 _ rfl
  have t5 := T0.cells 33 _ rfl
  have t6 := T0.cells 34 _ rfl
  have hb1 := below_new (w.alloc (.cells #[.int .i64 4, .int .i64 z, .int .i64 v, .int .i64 g, .int .i64 a, .int .i64 n, .int .i64 i, .int .i64 p, .int .i64 k, .int .i64 t] 29)) (.cells #[.int .i64 1, .int .i64 1048576, .int .i64 1, .int .i64 1048576, .int .i64 1, .int .i64 4095, .bool false] 58)
  have H := Holds.new (w.alloc (.cells #[.int .i64 4, .int .i64 z, .int .i64 v, .int .i64 g, .int .i64 a, .int .i64 n, .int .i64 i, .int .i64 p, .int .i64 k, .int .i64 t] 29)) (rowL 1 1048576 1 4095 false) 58 (B := w.heap.size + 1) (by simp)
  replace X := X.later hb1
  replace T0 := T0.later hb1
  have hB := below_step hb0 hb1
  have c1 := fun w => mHas_any 1 1048576 z w
  have c2 := fun w => mHas_any 1 1048576 v w
  have c3 := fun w => mHas_any 1 4095 g w
  have c4 := fun w T => mRule_any 4 z v g a n i p k t w T
  obtain ⟨b1, h1⟩ : ∃ x, decide (1 ≤ z ∧ z ≤ 1048576) = x := ⟨_, rfl⟩
  obtain ⟨b2, h2⟩ : ∃ x, decide (1 ≤ v ∧ v ≤ 1048576) = x := ⟨_, rfl⟩
  obtain ⟨b3, h3⟩ : ∃ x, decide (1 ≤ g ∧ g ≤ 4095) = x := ⟨_, rfl⟩
  obtain ⟨b4, h4⟩ : ∃ x, okRu 4 a n i p k t = x := ⟨_, rfl⟩
  rw [h1] at c1
  rw [h2] at c2
  rw [h3] at c3
  rw [h4] at c4
  rw [h1, h2, h3, h4]
  clear h1 h2 h3 h4 hb0 hb1
  cases b1
  · go_enter Tryd.func15, Tryd.ntmps15
    go_wp2_with fail
    refine (mKind_any _ _).mono ?_
    rintro e w' ⟨rfl, rfl⟩
    go_wp2_with fail
    refine (c1 _).mono ?_
    rintro e w1 ⟨rfl, hb⟩
    replace X := X.later hb
    replace H := H.later hb
    replace T0 := T0.later hb
    replace hB := below_step hB hb
    clear hb
    go_wp2_with fail
    go_ret
    exact ⟨rfl, hB⟩
  cases b2
  · go_enter Tryd.func15, Tryd.ntmps15
    go_wp2_with fail
    refine (mKind_any _ _).mono ?_
    rintro e w' ⟨rfl, rfl⟩
    go_wp2_with fail
    refine (c1 _).mono ?_
    rintro e w1 ⟨rfl, hb⟩
    replace X := X.later hb
    replace H := H.later hb
    replace T0 := T0.later hb
    replace hB := below_step hB hb
    clear hb
    obtain ⟨x0, x1, x2, x3, x4, x5, x6, x7, x8, x9⟩ := X.ten
    obtain ⟨u0, u1, u2, u3, u4, u5, u6⟩ := H.seven
    go_wp2_with fail
    refine (c2 _).mono ?_
    rintro e w2 ⟨rfl, hb⟩
    replace X := X.later hb
    replace H := H.later hb
    replace T0 := T0.later hb
    replace hB := below_step hB hb
    clear hb
    go_wp2_with fail
    go_ret
    exact ⟨rfl, hB⟩
  cases b3
  · go_enter Tryd.func15, Tryd.ntmps15
    go_wp2_with fail
    refine (mKind_any _ _).mono ?_
    rintro e w' ⟨rfl, rfl⟩
    go_wp2_with fail
    refine (c1 _).mono ?_
    rintro e w1 ⟨rfl, hb⟩
    replace X := X.later hb
    replace H := H.later hb
    replace T0 := T0.later hb
    replace hB := below_step hB hb
    clear hb
    obtain ⟨x0, x1, x2, x3, x4, x5, x6, x7, x8, x9⟩ := X.ten
    obtain ⟨u0, u1, u2, u3, u4, u5, u6⟩ := H.seven
    go_wp2_with fail
    refine (c2 _).mono ?_
    rintro e w2 ⟨rfl, hb⟩
    replace X := X.later hb
    replace H := H.later hb
    replace T0 := T0.later hb
    replace hB := below_step hB hb
    clear hb
    obtain ⟨x0, x1, x2, x3, x4, x5, x6, x7, x8, x9⟩ := X.ten
    obtain ⟨u0, u1, u2, u3, u4, u5, u6⟩ := H.seven
    go_wp2_with fail
    refine (c3 _).mono ?_
    rintro e w3 ⟨rfl, hb⟩
    replace X := X.later hb
    replace H := H.later hb
    replace T0 := T0.later hb
    replace hB := below_step hB hb
    clear hb
    go_wp2_with fail
    go_ret
    exact ⟨rfl, hB⟩
  · go_enter Tryd.func15, Tryd.ntmps15
    go_wp2_with fail
    refine (mKind_any _ _).mono ?_
    rintro e w' ⟨rfl, rfl⟩
    go_wp2_with fail
    refine (c1 _).mono ?_
    rintro e w1 ⟨rfl, hb⟩
    replace X := X.later hb
    replace H := H.later hb
    replace T0 := T0.later hb
    replace hB := below_step hB hb
    clear hb
    obtain ⟨x0, x1, x2, x3, x4, x5, x6, x7, x8, x9⟩ := X.ten
    obtain ⟨u0, u1, u2, u3, u4, u5, u6⟩ := H.seven
    go_wp2_with fail
    refine (c2 _).mono ?_
    rintro e w2 ⟨rfl, hb⟩
    replace X := X.later hb
    replace H := H.later hb
    replace T0 := T0.later hb
    replace hB := below_step hB hb
    clear hb
    obtain ⟨x0, x1, x2, x3, x4, x5, x6, x7, x8, x9⟩ := X.ten
    obtain ⟨u0, u1, u2, u3, u4, u5, u6⟩ := H.seven
    go_wp2_with fail
    refine (c3 _).mono ?_
    rintro e w3 ⟨rfl, hb⟩
    replace X := X.later hb
    replace H := H.later hb
    replace T0 := T0.later hb
    replace hB := below_step hB hb
    clear hb
    obtain ⟨x0, x1, x2, x3, x4, x5, x6, x7, x8, x9⟩ := X.ten
    obtain ⟨u0, u1, u2, u3, u4, u5, u6⟩ := H.seven
    go_wp2_with fail
    refine (c4 _ T0).mono ?_
    rintro e w4 ⟨rfl, hb⟩
    replace hB := below_step hB hb
    go_wp2_with fail
    go_ret
    exact ⟨rfl, hB⟩
set_option maxHeartbeats 1000000 in
theorem mMay_5 (z v g a n i p k t : Int) (w : World) (T : Tab w) :
    Calls Tryd.prog 15 #[.agg #[.int .i64 5, .int .i64 z, .int .i64 v, .int .i64 g, .int .i64 a, .int .i64 n, .int .i64 i, .int .i64 p, .int .i64 k, .int .i64 t]] w fun e w' => e = .returned (.bool (okM 5 z v g a n i p k t)) ∧ Below w.heap.size w w' := by
  have hok : okM 5 z v g a n i p k t = (decide (1 ≤ z ∧ z ≤ 1048576) && (decide (1 ≤ v ∧ v ≤ 1048576) && (decide (0 ≤ g ∧ g ≤ 0) && okRu 5 a n i p k t))) := rfl
  rw [hok]
  clear hok
  have hb0 := below_new w (.cells #[.int .i64 5, .int .i64 z, .int .i64 v, .int .i64 g, .int .i64 a, .int .i64 n, .int .i64 i, .int .i64 p, .int .i64 k, .int .i64 t] 29)
  have X := Lies.new w [5, z, v, g, a, n, i, p, k, t] 29 rfl
  have T0 := T.later hb0
  have t0 := T0.cells 35 _ rfl
  have t1 := T0.cells 36 _ rfl
  have t2 := T0.cells 37 _ rfl
  have t3 := T0.cells 38 _ rfl
  have t4 := T0.cells 39 _ rfl
  have t5 := T0.cells 40 _ rfl
  have t6 := T0.cells 41 _ rfl
  have hb1 := below_new (w.alloc (.cells #[.int .i64 5, .int .i64 z, .int .i64 v, .int .i64 g, .int .i64 a, .int .i64 n, .int .i64 i, .int .i64 p, .int .i64 k, .int .i64 t] 29)) (.cells #[.int .i64 1, .int .i64 1048576, .int .i64 1, .int .i64 1048576, .int .i64 0, .int .i64 0, .bool false] 58)
  have H := Holds.new (w.alloc (.cells #[.int .i64 5, .int .i64 z, .int .i64 v, .int .i64 g, .int .i64 a, .int .i64 n, .int .i64 i, .int .i64 p, .int .i64 k, .int .i64 t] 29)) (rowL 1 1048576 0 0 false) 58 (B := w.heap.size + 1) (by simp)
  replace X := X.later hb1
  replace T0 := T0.later hb1
  have hB := below_step hb0 hb1
  have c1 := fun w => mHas_any 1 1048576 z w
  have c2 := fun w => mHas_any 1 1048576 v w
  have c3 := fun w => mHas_any 0 0 g w
  have c4 := fun w T => mRule_any 5 z v g a n i p k t w T
  obtain ⟨b1, h1⟩ : ∃ x, decide (1 ≤ z ∧ z ≤ 1048576) = x := ⟨_, rfl⟩
  obtain ⟨b2, h2⟩ : ∃ x, decide (1 ≤ v ∧ v ≤ 1048576) = x := ⟨_, rfl⟩
  obtain ⟨b3, h3⟩ : ∃ x, decide (0 ≤ g ∧ g ≤ 0) = x := ⟨_, rfl⟩
  obtain ⟨b4, h4⟩ : ∃ x, okRu 5 a n i p k t = x := ⟨_, rfl⟩
  rw [h1] at c1
  rw [h2] at c2
  rw [h3] at c3
  rw [h4] at c4
  rw [h1, h2, h3, h4]
  clear h1 h2 h3 h4 hb0 hb1
  cases b1
  · go_enter Tryd.func15, Tryd.ntmps15
    go_wp2_with fail
    refine (mKind_any _ _).mono ?_
    rintro e w' ⟨rfl, rfl⟩
    go_wp2_with fail
    refine (c1 _).mono ?_
    rintro e w1 ⟨rfl, hb⟩
    replace X := X.later hb
    replace H := H.later hb
    replace T0 := T0.later hb
    replace hB := below_step hB hb
    clear hb
    go_wp2_with fail
    go_ret
    exact ⟨rfl, hB⟩
  cases b2
  · go_enter Tryd.func15, Tryd.ntmps15
    go_wp2_with fail
    refine (mKind_any _ _).mono ?_
    rintro e w' ⟨rfl, rfl⟩
    go_wp2_with fail
    refine (c1 _).mono ?_
    rintro e w1 ⟨rfl, hb⟩
    replace X := X.later hb
    replace H := H.later hb
    replace T0 := T0.later hb
    replace hB := below_step hB hb
    clear hb
    obtain ⟨x0, x1, x2, x3, x4, x5, x6, x7, x8, x9⟩ := X.ten
    obtain ⟨u0, u1, u2, u3, u4, u5, u6⟩ := H.seven
    go_wp2_with fail
    refine (c2 _).mono ?_
    rintro e w2 ⟨rfl, hb⟩
    replace X := X.later hb
    replace H := H.later hb
    replace T0 := T0.later hb
    replace hB := below_step hB hb
    clear hb
    go_wp2_with fail
    go_ret
    exact ⟨rfl, hB⟩
  cases b3
  · go_enter Tryd.func15, Tryd.ntmps15
    go_wp2_with fail
    refine (mKind_any _ _).mono ?_
    rintro e w' ⟨rfl, rfl⟩
    go_wp2_with fail
    refine (c1 _).mono ?_
    rintro e w1 ⟨rfl, hb⟩
    replace X := X.later hb
    replace H := H.later hb
    replace T0 := T0.later hb
    replace hB := below_step hB hb
    clear hb
    obtain ⟨x0, x1, x2, x3, x4, x5, x6, x7, x8, x9⟩ := X.ten
    obtain ⟨u0, u1, u2, u3, u4, u5, u6⟩ := H.seven
    go_wp2_with fail
    refine (c2 _).mono ?_
    rintro e w2 ⟨rfl, hb⟩
    replace X := X.later hb
    replace H := H.later hb
    replace T0 := T0.later hb
    replace hB := below_step hB hb
    clear hb
    obtain ⟨x0, x1, x2, x3, x4, x5, x6, x7, x8, x9⟩ := X.ten
    obtain ⟨u0, u1, u2, u3, u4, u5, u6⟩ := H.seven
    go_wp2_with fail
    refine (c3 _).mono ?_
    rintro e w3 ⟨rfl, hb⟩
    replace X := X.later hb
    replace H := H.later hb
    replace T0 := T0.later hb
    replace hB := below_step hB hb
    clear hb
    go_wp2_with fail
    go_ret
    exact ⟨rfl, hB⟩
  · go_enter Tryd.func15, Tryd.ntmps15
    go_wp2_with fail
    refine (mKind_any _ _).mono ?_
    rintro e w' ⟨rfl, rfl⟩
    go_wp2_with fail
    refine (c1 _).mono ?_
    rintro e w1 ⟨rfl, hb⟩
    replace X := X.later hb
    replace H := H.later hb
    replace T0 := T0.later hb
    replace hB := below_step hB hb
    clear hb
    obtain ⟨x0, x1, x2, x3, x4, x5, x6, x7, x8, x9⟩ := X.ten
    obtain ⟨u0, u1, u2, u3, u4, u5, u6⟩ := H.seven
    go_wp2_with fail
    refine (c2 _).mono ?_
    rintro e w2 ⟨rfl, hb⟩
    replace X := X.later hb
    replace H := H.later hb
    replace T0 := T0.later hb
    replace hB := below_step hB hb
    clear hb
    obtain ⟨x0, x1, x2, x3, x4, x5, x6, x7, x8, x9⟩ := X.ten
    obtain ⟨u0, u1, u2, u3, u4, u5, u6⟩ := H.seven
    go_wp2_with fail
    refine (c3 _).mono ?_
    rintro e w3 ⟨rfl, hb⟩
    replace X := X.later hb
    replace H := H.later hb
    replace T0 := T0.later hb
    replace hB := below_step hB hb
    clear hb
    obtain ⟨x0, x1, x2, x3, x4, x5, x6, x7, x8, x9⟩ := X.ten
    obtain ⟨u0, u1, u2, u3, u4, u5, u6⟩ := H.seven
    go_wp2_with fail
    refine (c4 _ T0).mono ?_
    rintro e w4 ⟨rfl, hb⟩
    replace hB := below_step hB hb
    go_wp2_with fail
    go_ret
    exact ⟨rfl, hB⟩
/-- May, for all messages -/
theorem mMay_any (y z v g a n i p k t : Int) (w : World) (T : Tab w) :
    Calls Tryd.prog 15 #[.agg #[.int .i64 y, .int .i64 z, .int .i64 v, .int .i64 g, .int .i64 a, .int .i64 n, .int .i64 i, .int .i64 p, .int .i64 k, .int .i64 t]] w fun e w' => e = .returned (.bool (okM y z v g a n i p k t)) ∧ Below w.heap.size w w' := by
  by_cases h : 0 ≤ y ∧ y < 6
  · rcases six_of h with rfl | rfl | rfl | rfl | rfl | rfl
    · exact mMay_0 z v g a n i p k t w T
    · exact mMay_1 z v g a n i p k t w T
    · exact mMay_2 z v g a n i p k t w T
    · exact mMay_3 z v g a n i p k t w T
    · exact mMay_4 z v g a n i p k t w T
    · exact mMay_5 z v g a n i p k t w T
  · have hb0 := below_new w (.cells #[.int .i64 y, .int .i64 z, .int .i64 v, .int .i64 g, .int .i64 a, .int .i64 n, .int .i64 i, .int .i64 p, .int .i64 k, .int .i64 t] 29)
    have c1 := fun w => mKind_any y w
    have HE : Hid (okM y z v g a n i p k t = false) := okM_y h
    rw [decide_eq_false h] at c1
    clear h
    go_enter Tryd.func15, Tryd.ntmps15
    go_wp2_with fail
    refine (c1 _).mono ?_
    rintro e w' ⟨rfl, rfl⟩
    go_wp2_with fail
    go_ret
    exact ⟨ret_bool HE.out.symm, hb0⟩
end Go.Proofs.YtklcchmpmilcaaaDoor
