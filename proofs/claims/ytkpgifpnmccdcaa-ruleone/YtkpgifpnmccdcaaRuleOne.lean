/- Proved: for all rules a, b and c and all ints in and dst the call RuleOne(a, b, c, in, dst) returns true: of two rules that fit one packet, and are not alike, just one is ahead; of three that go on so the first one is. No condition. -/
import Derived.Test.YtkpgifpnmccdcaaRuleAhead
import Derived.Test.YtkpgifpnmccdcaaRulePut
import Derived.Test.YtkpgifpnmccdcaaRuleOpen
import Derived.Lib.SmallJoins
namespace Go.Proofs.Ytkpgifpnmccdcaa.ruleOne
open Go.ChangeShapes Go.WideShapes Go.ChangeAt Go.RowKit R
set_option linter.unusedVariables false


theorem not_both (n p i m q j : Int) : (ahB n p i m q j && ahB m q j n p i) = false := by
  rw [← Bool.not_eq_true]
  unfold ahB
  intro h
  simp only [Bool.and_eq_true] at h
  obtain ⟨h1, h2⟩ := h
  by_cases e1 : n = m
  · rw [if_pos e1] at h1
    rw [if_pos e1.symm] at h2
    by_cases e2 : p = q
    · rw [if_pos e2] at h1
      rw [if_pos e2.symm] at h2
      simp at h1 h2; omega
    · rw [if_neg e2] at h1
      rw [if_neg (fun h => e2 h.symm)] at h2
      simp at h1 h2; omega
  · rw [if_neg e1] at h1
    rw [if_neg (fun h => e1 h.symm)] at h2
    simp at h1 h2; omega
theorem ahead_iff {n p i m q j : Int} : ahB n p i m q j = true ↔ m < n ∨ (n = m ∧ q < p) ∨ (n = m ∧ p = q ∧ j < i) := by
  unfold ahB
  by_cases e1 : n = m
  · rw [if_pos e1]
    by_cases e2 : p = q
    · rw [if_pos e2]; simp; omega
    · rw [if_neg e2]; simp; omega
  · rw [if_neg e1]; simp; omega
theorem ahead_trans (n p i m q j n3 p3 i3 : Int) : ahB n p i m q j = true → ahB m q j n3 p3 i3 = true → ahB n p i n3 p3 i3 = true := by
  rw [ahead_iff, ahead_iff, ahead_iff]
  omega
theorem none_iff {n p i m q j : Int} : (!ahB n p i m q j && !ahB m q j n p i) = true ↔ n = m ∧ p = q ∧ i = j := by
  rw [Bool.and_eq_true, Bool.not_eq_true', Bool.not_eq_true', ← Bool.not_eq_true, ← Bool.not_eq_true, ahead_iff, ahead_iff]
  omega
theorem like_ahead {a n i p b m j q x d : Int} (h1 : fitB a n i x d = true) (h2 : fitB b m j x d = true) : likeB a n i p b m j q = (!ahB n p i m q j && !ahB m q j n p i) := by
  rw [Bool.eq_iff_iff, none_iff]
  unfold likeB fitB at *
  simp only [Bool.and_eq_true, decide_eq_true_eq] at *
  have e1 := M.hasB_iff.1 h1.1
  have e2 := M.hasB_iff.1 h2.1
  constructor
  · intro h; exact ⟨h.2.1, h.2.2.2, h.2.2.1⟩
  · intro h
    obtain ⟨r1, r2, r3⟩ := h
    subst r1
    exact ⟨e1.2.symm.trans e2.2, rfl, r3, r2⟩
set_option maxHeartbeats 2000000 in
theorem one_a (a n i p k t b m j q l u a3 n3 i3 p3 k3 t3 x d : Int) (w : World)
    (cA : ∀ w, Calls Try.prog 16 #[.agg #[.int .i64 a, .int .i64 n, .int .i64 i, .int .i64 p, .int .i64 k, .int .i64 t]] w fun e w' => e = .returned (.bool false) ∧ Below w.heap.size w w') :
    Calls Try.prog 6 #[.agg #[.int .i64 a, .int .i64 n, .int .i64 i, .int .i64 p, .int .i64 k, .int .i64 t], .agg #[.int .i64 b, .int .i64 m, .int .i64 j, .int .i64 q, .int .i64 l, .int .i64 u], .agg #[.int .i64 a3, .int .i64 n3, .int .i64 i3, .int .i64 p3, .int .i64 k3, .int .i64 t3], .int .i64 x, .int .i64 d] w fun e w' => e = .returned (.bool true) ∧ Below w.heap.size w w' := by
  have hn0 := below_new w (.cells #[.int .i64 a, .int .i64 n, .int .i64 i, .int .i64 p, .int .i64 k, .int .i64 t] 27)
  have X0 := Lies.new w [a, n, i, p, k, t] 27 (B := w.heap.size) rfl
  have hB := hn0
  have hn1 := below_new (w.alloc (.cells #[.int .i64 a, .int .i64 n, .int .i64 i, .int .i64 p, .int .i64 k, .int .i64 t] 27)) (.cells #[.int .i64 b, .int .i64 m, .int .i64 j, .int .i64 q, .int .i64 l, .int .i64 u] 27)
  have X1 := Lies.new (w.alloc (.cells #[.int .i64 a, .int .i64 n, .int .i64 i, .int .i64 p, .int .i64 k, .int .i64 t] 27)) [b, m, j, q, l, u] 27 (B := w.heap.size + 1) (by simp)
  replace X0 := X0.later hn1
  replace hB := below_step hB hn1
  have hn2 := below_new ((w.alloc (.cells #[.int .i64 a, .int .i64 n, .int .i64 i, .int .i64 p, .int .i64 k, .int .i64 t] 27)).alloc (.cells #[.int .i64 b, .int .i64 m, .int .i64 j, .int .i64 q, .int .i64 l, .int .i64 u] 27)) (.cells #[.int .i64 a3, .int .i64 n3, .int .i64 i3, .int .i64 p3, .int .i64 k3, .int .i64 t3] 27)
  have X2 := Lies.new ((w.alloc (.cells #[.int .i64 a, .int .i64 n, .int .i64 i, .int .i64 p, .int .i64 k, .int .i64 t] 27)).alloc (.cells #[.int .i64 b, .int .i64 m, .int .i64 j, .int .i64 q, .int .i64 l, .int .i64 u] 27)) [a3, n3, i3, p3, k3, t3] 27 (B := w.heap.size + 1 + 1) (by simp)
  replace X0 := X0.later hn2
  replace X1 := X1.later hn2
  replace hB := below_step hB hn2
  clear hn0 hn1 hn2
  obtain ⟨x00, x01, x02, x03, x04, x05⟩ := X0.six
  obtain ⟨x10, x11, x12, x13, x14, x15⟩ := X1.six
  obtain ⟨x20, x21, x22, x23, x24, x25⟩ := X2.six
  go_enter Try.func6, Try.ntmps6
  go_wp2_with fail
  refine (awake_any _).mono ?_
  rintro e w1 ⟨rfl, hb1⟩
  clear x00 x01 x02 x03 x04 x05
  clear x10 x11 x12 x13 x14 x15
  clear x20 x21 x22 x23 x24 x25
  replace X0 := X0.later hb1
  replace X1 := X1.later hb1
  replace X2 := X2.later hb1
  replace hB := below_step hB hb1
  clear hb1
  obtain ⟨x00, x01, x02, x03, x04, x05⟩ := X0.six
  obtain ⟨x10, x11, x12, x13, x14, x15⟩ := X1.six
  obtain ⟨x20, x21, x22, x23, x24, x25⟩ := X2.six
  go_wp2_with fail
  refine (cA _).mono ?_
  rintro e w2 ⟨rfl, hb2⟩
  clear x00 x01 x02 x03 x04 x05
  clear x10 x11 x12 x13 x14 x15
  clear x20 x21 x22 x23 x24 x25
  replace X0 := X0.later hb2
  replace X1 := X1.later hb2
  replace X2 := X2.later hb2
  replace hB := below_step hB hb2
  clear hb2
  obtain ⟨x00, x01, x02, x03, x04, x05⟩ := X0.six
  obtain ⟨x10, x11, x12, x13, x14, x15⟩ := X1.six
  obtain ⟨x20, x21, x22, x23, x24, x25⟩ := X2.six
  go_wp2_with fail
  go_ret
  exact ⟨rfl, hB⟩
set_option maxHeartbeats 2000000 in
theorem one_b (a n i p k t b m j q l u a3 n3 i3 p3 k3 t3 x d : Int) (w : World)
    (cA : ∀ w, Calls Try.prog 16 #[.agg #[.int .i64 a, .int .i64 n, .int .i64 i, .int .i64 p, .int .i64 k, .int .i64 t]] w fun e w' => e = .returned (.bool true) ∧ Below w.heap.size w w')
    (cB : ∀ w, Calls Try.prog 16 #[.agg #[.int .i64 b, .int .i64 m, .int .i64 j, .int .i64 q, .int .i64 l, .int .i64 u]] w fun e w' => e = .returned (.bool false) ∧ Below w.heap.size w w') :
    Calls Try.prog 6 #[.agg #[.int .i64 a, .int .i64 n, .int .i64 i, .int .i64 p, .int .i64 k, .int .i64 t], .agg #[.int .i64 b, .int .i64 m, .int .i64 j, .int .i64 q, .int .i64 l, .int .i64 u], .agg #[.int .i64 a3, .int .i64 n3, .int .i64 i3, .int .i64 p3, .int .i64 k3, .int .i64 t3], .int .i64 x, .int .i64 d] w fun e w' => e = .returned (.bool true) ∧ Below w.heap.size w w' := by
  have hn0 := below_new w (.cells #[.int .i64 a, .int .i64 n, .int .i64 i, .int .i64 p, .int .i64 k, .int .i64 t] 27)
  have X0 := Lies.new w [a, n, i, p, k, t] 27 (B := w.heap.size) rfl
  have hB := hn0
  have hn1 := below_new (w.alloc (.cells #[.int .i64 a, .int .i64 n, .int .i64 i, .int .i64 p, .int .i64 k, .int .i64 t] 27)) (.cells #[.int .i64 b, .int .i64 m, .int .i64 j, .int .i64 q, .int .i64 l, .int .i64 u] 27)
  have X1 := Lies.new (w.alloc (.cells #[.int .i64 a, .int .i64 n, .int .i64 i, .int .i64 p, .int .i64 k, .int .i64 t] 27)) [b, m, j, q, l, u] 27 (B := w.heap.size + 1) (by simp)
  replace X0 := X0.later hn1
  replace hB := below_step hB hn1
  have hn2 := below_new ((w.alloc (.cells #[.int .i64 a, .int .i64 n, .int .i64 i, .int .i64 p, .int .i64 k, .int .i64 t] 27)).alloc (.cells #[.int .i64 b, .int .i64 m, .int .i64 j, .int .i64 q, .int .i64 l, .int .i64 u] 27)) (.cells #[.int .i64 a3, .int .i64 n3, .int .i64 i3, .int .i64 p3, .int .i64 k3, .int .i64 t3] 27)
  have X2 := Lies.new ((w.alloc (.cells #[.int .i64 a, .int .i64 n, .int .i64 i, .int .i64 p, .int .i64 k, .int .i64 t] 27)).alloc (.cells #[.int .i64 b, .int .i64 m, .int .i64 j, .int .i64 q, .int .i64 l, .int .i64 u] 27)) [a3, n3, i3, p3, k3, t3] 27 (B := w.heap.size + 1 + 1) (by simp)
  replace X0 := X0.later hn2
  replace X1 := X1.later hn2
  replace hB := below_step hB hn2
  clear hn0 hn1 hn2
  obtain ⟨x00, x01, x02, x03, x04, x05⟩ := X0.six
  obtain ⟨x10, x11, x12, x13, x14, x15⟩ := X1.six
  obtain ⟨x20, x21, x22, x23, x24, x25⟩ := X2.six
  go_enter Try.func6, Try.ntmps6
  go_wp2_with fail
  refine (awake_any _).mono ?_
  rintro e w1 ⟨rfl, hb1⟩
  clear x00 x01 x02 x03 x04 x05
  clear x10 x11 x12 x13 x14 x15
  clear x20 x21 x22 x23 x24 x25
  replace X0 := X0.later hb1
  replace X1 := X1.later hb1
  replace X2 := X2.later hb1
  replace hB := below_step hB hb1
  clear hb1
  obtain ⟨x00, x01, x02, x03, x04, x05⟩ := X0.six
  obtain ⟨x10, x11, x12, x13, x14, x15⟩ := X1.six
  obtain ⟨x20, x21, x22, x23, x24, x25⟩ := X2.six
  go_wp2_with fail
  refine (cA _).mono ?_
  rintro e w2 ⟨rfl, hb2⟩
  clear x00 x01 x02 x03 x04 x05
  clear x10 x11 x12 x13 x14 x15
  clear x20 x21 x22 x23 x24 x25
  replace X0 := X0.later hb2
  replace X1 := X1.later hb2
  replace X2 := X2.later hb2
  replace hB := below_step hB hb2
  clear hb2
  obtain ⟨x00, x01, x02, x03, x04, x05⟩ := X0.six
  obtain ⟨x10, x11, x12, x13, x14, x15⟩ := X1.six
  obtain ⟨x20, x21, x22, x23, x24, x25⟩ := X2.six
  go_wp2_with fail
  refine (cB _).mono ?_
  rintro e w3 ⟨rfl, hb3⟩
  clear x00 x01 x02 x03 x04 x05
  clear x10 x11 x12 x13 x14 x15
  clear x20 x21 x22 x23 x24 x25
  replace X0 := X0.later hb3
  replace X1 := X1.later hb3
  replace X2 := X2.later hb3
  replace hB := below_step hB hb3
  clear hb3
  obtain ⟨x00, x01, x02, x03, x04, x05⟩ := X0.six
  obtain ⟨x10, x11, x12, x13, x14, x15⟩ := X1.six
  obtain ⟨x20, x21, x22, x23, x24, x25⟩ := X2.six
  go_wp2_with fail
  go_ret
  exact ⟨rfl, hB⟩
set_option maxHeartbeats 2000000 in
theorem one_c (a n i p k t b m j q l u a3 n3 i3 p3 k3 t3 x d : Int) (w : World)
    (cA : ∀ w, Calls Try.prog 16 #[.agg #[.int .i64 a, .int .i64 n, .int .i64 i, .int .i64 p, .int .i64 k, .int .i64 t]] w fun e w' => e = .returned (.bool true) ∧ Below w.heap.size w w')
    (cB : ∀ w, Calls Try.prog 16 #[.agg #[.int .i64 b, .int .i64 m, .int .i64 j, .int .i64 q, .int .i64 l, .int .i64 u]] w fun e w' => e = .returned (.bool true) ∧ Below w.heap.size w w')
    (cC : ∀ w, Calls Try.prog 16 #[.agg #[.int .i64 a3, .int .i64 n3, .int .i64 i3, .int .i64 p3, .int .i64 k3, .int .i64 t3]] w fun e w' => e = .returned (.bool false) ∧ Below w.heap.size w w') :
    Calls Try.prog 6 #[.agg #[.int .i64 a, .int .i64 n, .int .i64 i, .int .i64 p, .int .i64 k, .int .i64 t], .agg #[.int .i64 b, .int .i64 m, .int .i64 j, .int .i64 q, .int .i64 l, .int .i64 u], .agg #[.int .i64 a3, .int .i64 n3, .int .i64 i3, .int .i64 p3, .int .i64 k3, .int .i64 t3], .int .i64 x, .int .i64 d] w fun e w' => e = .returned (.bool true) ∧ Below w.heap.size w w' := by
  have hn0 := below_new w (.cells #[.int .i64 a, .int .i64 n, .int .i64 i, .int .i64 p, .int .i64 k, .int .i64 t] 27)
  have X0 := Lies.new w [a, n, i, p, k, t] 27 (B := w.heap.size) rfl
  have hB := hn0
  have hn1 := below_new (w.alloc (.cells #[.int .i64 a, .int .i64 n, .int .i64 i, .int .i64 p, .int .i64 k, .int .i64 t] 27)) (.cells #[.int .i64 b, .int .i64 m, .int .i64 j, .int .i64 q, .int .i64 l, .int .i64 u] 27)
  have X1 := Lies.new (w.alloc (.cells #[.int .i64 a, .int .i64 n, .int .i64 i, .int .i64 p, .int .i64 k, .int .i64 t] 27)) [b, m, j, q, l, u] 27 (B := w.heap.size + 1) (by simp)
  replace X0 := X0.later hn1
  replace hB := below_step hB hn1
  have hn2 := below_new ((w.alloc (.cells #[.int .i64 a, .int .i64 n, .int .i64 i, .int .i64 p, .int .i64 k, .int .i64 t] 27)).alloc (.cells #[.int .i64 b, .int .i64 m, .int .i64 j, .int .i64 q, .int .i64 l, .int .i64 u] 27)) (.cells #[.int .i64 a3, .int .i64 n3, .int .i64 i3, .int .i64 p3, .int .i64 k3, .int .i64 t3] 27)
  have X2 := Lies.new ((w.alloc (.cells #[.int .i64 a, .int .i64 n, .int .i64 i, .int .i64 p, .int .i64 k, .int .i64 t] 27)).alloc (.cells #[.int .i64 b, .int .i64 m, .int .i64 j, .int .i64 q, .int .i64 l, .int .i64 u] 27)) [a3, n3, i3, p3, k3, t3] 27 (B := w.heap.size + 1 + 1) (by simp)
  replace X0 := X0.later hn2
  replace X1 := X1.later hn2
  replace hB := below_step hB hn2
  clear hn0 hn1 hn2
  obtain ⟨x00, x01, x02, x03, x04, x05⟩ := X0.six
  obtain ⟨x10, x11, x12, x13, x14, x15⟩ := X1.six
  obtain ⟨x20, x21, x22, x23, x24, x25⟩ := X2.six
  go_enter Try.func6, Try.ntmps6
  go_wp2_with fail
  refine (awake_any _).mono ?_
  rintro e w1 ⟨rfl, hb1⟩
  clear x00 x01 x02 x03 x04 x05
  clear x10 x11 x12 x13 x14 x15
  clear x20 x21 x22 x23 x24 x25
  replace X0 := X0.later hb1
  replace X1 := X1.later hb1
  replace X2 := X2.later hb1
  replace hB := below_step hB hb1
  clear hb1
  obtain ⟨x00, x01, x02, x03, x04, x05⟩ := X0.six
  obtain ⟨x10, x11, x12, x13, x14, x15⟩ := X1.six
  obtain ⟨x20, x21, x22, x23, x24, x25⟩ := X2.six
  go_wp2_with fail
  refine (cA _).mono ?_
  rintro e w2 ⟨rfl, hb2⟩
  clear x00 x01 x02 x03 x04 x05
  clear x10 x11 x12 x13 x14 x15
  clear x20 x21 x22 x23 x24 x25
  replace X0 := X0.later hb2
  replace X1 := X1.later hb2
  replace X2 := X2.later hb2
  replace hB := below_step hB hb2
  clear hb2
  obtain ⟨x00, x01, x02, x03, x04, x05⟩ := X0.six
  obtain ⟨x10, x11, x12, x13, x14, x15⟩ := X1.six
  obtain ⟨x20, x21, x22, x23, x24, x25⟩ := X2.six
  go_wp2_with fail
  refine (cB _).mono ?_
  rintro e w3 ⟨rfl, hb3⟩
  clear x00 x01 x02 x03 x04 x05
  clear x10 x11 x12 x13 x14 x15
  clear x20 x21 x22 x23 x24 x25
  replace X0 := X0.later hb3
  replace X1 := X1.later hb3
  replace X2 := X2.later hb3
  replace hB := below_step hB hb3
  clear hb3
  obtain ⟨x00, x01, x02, x03, x04, x05⟩ := X0.six
  obtain ⟨x10, x11, x12, x13, x14, x15⟩ := X1.six
  obtain ⟨x20, x21, x22, x23, x24, x25⟩ := X2.six
  go_wp2_with fail
  refine (cC _).mono ?_
  rintro e w4 ⟨rfl, hb4⟩
  clear x00 x01 x02 x03 x04 x05
  clear x10 x11 x12 x13 x14 x15
  clear x20 x21 x22 x23 x24 x25
  replace X0 := X0.later hb4
  replace X1 := X1.later hb4
  replace X2 := X2.later hb4
  replace hB := below_step hB hb4
  clear hb4
  obtain ⟨x00, x01, x02, x03, x04, x05⟩ := X0.six
  obtain ⟨x10, x11, x12, x13, x14, x15⟩ := X1.six
  obtain ⟨x20, x21, x22, x23, x24, x25⟩ := X2.six
  go_wp2_with fail
  go_ret
  exact ⟨rfl, hB⟩
set_option maxHeartbeats 2000000 in
theorem one_tffff (a n i p k t b m j q l u a3 n3 i3 p3 k3 t3 x d : Int) (w : World)
    (cA : ∀ w, Calls Try.prog 16 #[.agg #[.int .i64 a, .int .i64 n, .int .i64 i, .int .i64 p, .int .i64 k, .int .i64 t]] w fun e w' => e = .returned (.bool true) ∧ Below w.heap.size w w')
    (cB : ∀ w, Calls Try.prog 16 #[.agg #[.int .i64 b, .int .i64 m, .int .i64 j, .int .i64 q, .int .i64 l, .int .i64 u]] w fun e w' => e = .returned (.bool true) ∧ Below w.heap.size w w')
    (cC : ∀ w, Calls Try.prog 16 #[.agg #[.int .i64 a3, .int .i64 n3, .int .i64 i3, .int .i64 p3, .int .i64 k3, .int .i64 t3]] w fun e w' => e = .returned (.bool true) ∧ Below w.heap.size w w')
    (cAB : ∀ w, Calls Try.prog 18 #[.agg #[.int .i64 a, .int .i64 n, .int .i64 i, .int .i64 p, .int .i64 k, .int .i64 t], .agg #[.int .i64 b, .int .i64 m, .int .i64 j, .int .i64 q, .int .i64 l, .int .i64 u]] w fun e w' => e = .returned (.bool true) ∧ Below w.heap.size w w')
    (cBA : ∀ w, Calls Try.prog 18 #[.agg #[.int .i64 b, .int .i64 m, .int .i64 j, .int .i64 q, .int .i64 l, .int .i64 u], .agg #[.int .i64 a, .int .i64 n, .int .i64 i, .int .i64 p, .int .i64 k, .int .i64 t]] w fun e w' => e = .returned (.bool false) ∧ Below w.heap.size w w')
    (cFA : ∀ w, Calls Try.prog 17 #[.agg #[.int .i64 a, .int .i64 n, .int .i64 i, .int .i64 p, .int .i64 k, .int .i64 t], .int .i64 x, .int .i64 d] w fun e w' => e = .returned (.bool false) ∧ Below w.heap.size w w')
    (cBC : ∀ w, Calls Try.prog 18 #[.agg #[.int .i64 b, .int .i64 m, .int .i64 j, .int .i64 q, .int .i64 l, .int .i64 u], .agg #[.int .i64 a3, .int .i64 n3, .int .i64 i3, .int .i64 p3, .int .i64 k3, .int .i64 t3]] w fun e w' => e = .returned (.bool false) ∧ Below w.heap.size w w') :
    Calls Try.prog 6 #[.agg #[.int .i64 a, .int .i64 n, .int .i64 i, .int .i64 p, .int .i64 k, .int .i64 t], .agg #[.int .i64 b, .int .i64 m, .int .i64 j, .int .i64 q, .int .i64 l, .int .i64 u], .agg #[.int .i64 a3, .int .i64 n3, .int .i64 i3, .int .i64 p3, .int .i64 k3, .int .i64 t3], .int .i64 x, .int .i64 d] w fun e w' => e = .returned (.bool true) ∧ Below w.heap.size w w' := by
  have hn0 := below_new w (.cells #[.int .i64 a, .int .i64 n, .int .i64 i, .int .i64 p, .int .i64 k, .int .i64 t] 27)
  have X0 := Lies.new w [a, n, i, p, k, t] 27 (B := w.heap.size) rfl
  have hB := hn0
  have hn1 := below_new (w.alloc (.cells #[.int .i64 a, .int .i64 n, .int .i64 i, .int .i64 p, .int .i64 k, .int .i64 t] 27)) (.cells #[.int .i64 b, .int .i64 m, .int .i64 j, .int .i64 q, .int .i64 l, .int .i64 u] 27)
  have X1 := Lies.new (w.alloc (.cells #[.int .i64 a, .int .i64 n, .int .i64 i, .int .i64 p, .int .i64 k, .int .i64 t] 27)) [b, m, j, q, l, u] 27 (B := w.heap.size + 1) (by simp)
  replace X0 := X0.later hn1
  replace hB := below_step hB hn1
  have hn2 := below_new ((w.alloc (.cells #[.int .i64 a, .int .i64 n, .int .i64 i, .int .i64 p, .int .i64 k, .int .i64 t] 27)).alloc (.cells #[.int .i64 b, .int .i64 m, .int .i64 j, .int .i64 q, .int .i64 l, .int .i64 u] 27)) (.cells #[.int .i64 a3, .int .i64 n3, .int .i64 i3, .int .i64 p3, .int .i64 k3, .int .i64 t3] 27)
  have X2 := Lies.new ((w.alloc (.cells #[.int .i64 a, .int .i64 n, .int .i64 i, .int .i64 p, .int .i64 k, .int .i64 t] 27)).alloc (.cells #[.int .i64 b, .int .i64 m, .int .i64 j, .int .i64 q, .int .i64 l, .int .i64 u] 27)) [a3, n3, i3, p3, k3, t3] 27 (B := w.heap.size + 1 + 1) (by simp)
  replace X0 := X0.later hn2
  replace X1 := X1.later hn2
  replace hB := below_step hB hn2
  clear hn0 hn1 hn2
  obtain ⟨x00, x01, x02, x03, x04, x05⟩ := X0.six
  obtain ⟨x10, x11, x12, x13, x14, x15⟩ := X1.six
  obtain ⟨x20, x21, x22, x23, x24, x25⟩ := X2.six
  go_enter Try.func6, Try.ntmps6
  go_wp2_with fail
  refine (awake_any _).mono ?_
  rintro e w1 ⟨rfl, hb1⟩
  clear x00 x01 x02 x03 x04 x05
  clear x10 x11 x12 x13 x14 x15
  clear x20 x21 x22 x23 x24 x25
  replace X0 := X0.later hb1
  replace X1 := X1.later hb1
  replace X2 := X2.later hb1
  replace hB := below_step hB hb1
  clear hb1
  obtain ⟨x00, x01, x02, x03, x04, x05⟩ := X0.six
  obtain ⟨x10, x11, x12, x13, x14, x15⟩ := X1.six
  obtain ⟨x20, x21, x22, x23, x24, x25⟩ := X2.six
  go_wp2_with fail
  refine (cA _).mono ?_
  rintro e w2 ⟨rfl, hb2⟩
  clear x00 x01 x02 x03 x04 x05
  clear x10 x11 x12 x13 x14 x15
  clear x20 x21 x22 x23 x24 x25
  replace X0 := X0.later hb2
  replace X1 := X1.later hb2
  replace X2 := X2.later hb2
  replace hB := below_step hB hb2
  clear hb2
  obtain ⟨x00, x01, x02, x03, x04, x05⟩ := X0.six
  obtain ⟨x10, x11, x12, x13, x14, x15⟩ := X1.six
  obtain ⟨x20, x21, x22, x23, x24, x25⟩ := X2.six
  go_wp2_with fail
  refine (cB _).mono ?_
  rintro e w3 ⟨rfl, hb3⟩
  clear x00 x01 x02 x03 x04 x05
  clear x10 x11 x12 x13 x14 x15
  clear x20 x21 x22 x23 x24 x25
  replace X0 := X0.later hb3
  replace X1 := X1.later hb3
  replace X2 := X2.later hb3
  replace hB := below_step hB hb3
  clear hb3
  obtain ⟨x00, x01, x02, x03, x04, x05⟩ := X0.six
  obtain ⟨x10, x11, x12, x13, x14, x15⟩ := X1.six
  obtain ⟨x20, x21, x22, x23, x24, x25⟩ := X2.six
  go_wp2_with fail
  refine (cC _).mono ?_
  rintro e w4 ⟨rfl, hb4⟩
  clear x00 x01 x02 x03 x04 x05
  clear x10 x11 x12 x13 x14 x15
  clear x20 x21 x22 x23 x24 x25
  replace X0 := X0.later hb4
  replace X1 := X1.later hb4
  replace X2 := X2.later hb4
  replace hB := below_step hB hb4
  clear hb4
  obtain ⟨x00, x01, x02, x03, x04, x05⟩ := X0.six
  obtain ⟨x10, x11, x12, x13, x14, x15⟩ := X1.six
  obtain ⟨x20, x21, x22, x23, x24, x25⟩ := X2.six
  go_wp2_with fail
  refine (cAB _).mono ?_
  rintro e w5 ⟨rfl, hb5⟩
  clear x00 x01 x02 x03 x04 x05
  clear x10 x11 x12 x13 x14 x15
  clear x20 x21 x22 x23 x24 x25
  replace X0 := X0.later hb5
  replace X1 := X1.later hb5
  replace X2 := X2.later hb5
  replace hB := below_step hB hb5
  clear hb5
  obtain ⟨x00, x01, x02, x03, x04, x05⟩ := X0.six
  obtain ⟨x10, x11, x12, x13, x14, x15⟩ := X1.six
  obtain ⟨x20, x21, x22, x23, x24, x25⟩ := X2.six
  go_wp2_with fail
  refine (cBA _).mono ?_
  rintro e w6 ⟨rfl, hb6⟩
  clear x00 x01 x02 x03 x04 x05
  clear x10 x11 x12 x13 x14 x15
  clear x20 x21 x22 x23 x24 x25
  replace X0 := X0.later hb6
  replace X1 := X1.later hb6
  replace X2 := X2.later hb6
  replace hB := below_step hB hb6
  clear hb6
  obtain ⟨x00, x01, x02, x03, x04, x05⟩ := X0.six
  obtain ⟨x10, x11, x12, x13, x14, x15⟩ := X1.six
  obtain ⟨x20, x21, x22, x23, x24, x25⟩ := X2.six
  go_wp2_with fail
  refine (cFA _).mono ?_
  rintro e w7 ⟨rfl, hb7⟩
  clear x00 x01 x02 x03 x04 x05
  clear x10 x11 x12 x13 x14 x15
  clear x20 x21 x22 x23 x24 x25
  replace X0 := X0.later hb7
  replace X1 := X1.later hb7
  replace X2 := X2.later hb7
  replace hB := below_step hB hb7
  clear hb7
  obtain ⟨x00, x01, x02, x03, x04, x05⟩ := X0.six
  obtain ⟨x10, x11, x12, x13, x14, x15⟩ := X1.six
  obtain ⟨x20, x21, x22, x23, x24, x25⟩ := X2.six
  go_wp2_with fail
  refine (cBC _).mono ?_
  rintro e w8 ⟨rfl, hb8⟩
  clear x00 x01 x02 x03 x04 x05
  clear x10 x11 x12 x13 x14 x15
  clear x20 x21 x22 x23 x24 x25
  replace X0 := X0.later hb8
  replace X1 := X1.later hb8
  replace X2 := X2.later hb8
  replace hB := below_step hB hb8
  clear hb8
  obtain ⟨x00, x01, x02, x03, x04, x05⟩ := X0.six
  obtain ⟨x10, x11, x12, x13, x14, x15⟩ := X1.six
  obtain ⟨x20, x21, x22, x23, x24, x25⟩ := X2.six
  go_wp2_with fail
  go_ret
  exact ⟨rfl, hB⟩
set_option maxHeartbeats 2000000 in
theorem one_tffft (a n i p k t b m j q l u a3 n3 i3 p3 k3 t3 x d : Int) (w : World)
    (cA : ∀ w, Calls Try.prog 16 #[.agg #[.int .i64 a, .int .i64 n, .int .i64 i, .int .i64 p, .int .i64 k, .int .i64 t]] w fun e w' => e = .returned (.bool true) ∧ Below w.heap.size w w')
    (cB : ∀ w, Calls Try.prog 16 #[.agg #[.int .i64 b, .int .i64 m, .int .i64 j, .int .i64 q, .int .i64 l, .int .i64 u]] w fun e w' => e = .returned (.bool true) ∧ Below w.heap.size w w')
    (cC : ∀ w, Calls Try.prog 16 #[.agg #[.int .i64 a3, .int .i64 n3, .int .i64 i3, .int .i64 p3, .int .i64 k3, .int .i64 t3]] w fun e w' => e = .returned (.bool true) ∧ Below w.heap.size w w')
    (cAB : ∀ w, Calls Try.prog 18 #[.agg #[.int .i64 a, .int .i64 n, .int .i64 i, .int .i64 p, .int .i64 k, .int .i64 t], .agg #[.int .i64 b, .int .i64 m, .int .i64 j, .int .i64 q, .int .i64 l, .int .i64 u]] w fun e w' => e = .returned (.bool true) ∧ Below w.heap.size w w')
    (cBA : ∀ w, Calls Try.prog 18 #[.agg #[.int .i64 b, .int .i64 m, .int .i64 j, .int .i64 q, .int .i64 l, .int .i64 u], .agg #[.int .i64 a, .int .i64 n, .int .i64 i, .int .i64 p, .int .i64 k, .int .i64 t]] w fun e w' => e = .returned (.bool false) ∧ Below w.heap.size w w')
    (cFA : ∀ w, Calls Try.prog 17 #[.agg #[.int .i64 a, .int .i64 n, .int .i64 i, .int .i64 p, .int .i64 k, .int .i64 t], .int .i64 x, .int .i64 d] w fun e w' => e = .returned (.bool false) ∧ Below w.heap.size w w')
    (cBC : ∀ w, Calls Try.prog 18 #[.agg #[.int .i64 b, .int .i64 m, .int .i64 j, .int .i64 q, .int .i64 l, .int .i64 u], .agg #[.int .i64 a3, .int .i64 n3, .int .i64 i3, .int .i64 p3, .int .i64 k3, .int .i64 t3]] w fun e w' => e = .returned (.bool true) ∧ Below w.heap.size w w')
    (cAC : ∀ w, Calls Try.prog 18 #[.agg #[.int .i64 a, .int .i64 n, .int .i64 i, .int .i64 p, .int .i64 k, .int .i64 t], .agg #[.int .i64 a3, .int .i64 n3, .int .i64 i3, .int .i64 p3, .int .i64 k3, .int .i64 t3]] w fun e w' => e = .returned (.bool true) ∧ Below w.heap.size w w') :
    Calls Try.prog 6 #[.agg #[.int .i64 a, .int .i64 n, .int .i64 i, .int .i64 p, .int .i64 k, .int .i64 t], .agg #[.int .i64 b, .int .i64 m, .int .i64 j, .int .i64 q, .int .i64 l, .int .i64 u], .agg #[.int .i64 a3, .int .i64 n3, .int .i64 i3, .int .i64 p3, .int .i64 k3, .int .i64 t3], .int .i64 x, .int .i64 d] w fun e w' => e = .returned (.bool true) ∧ Below w.heap.size w w' := by
  have hn0 := below_new w (.cells #[.int .i64 a, .int .i64 n, .int .i64 i, .int .i64 p, .int .i64 k, .int .i64 t] 27)
  have X0 := Lies.new w [a, n, i, p, k, t] 27 (B := w.heap.size) rfl
  have hB := hn0
  have hn1 := below_new (w.alloc (.cells #[.int .i64 a, .int .i64 n, .int .i64 i, .int .i64 p, .int .i64 k, .int .i64 t] 27)) (.cells #[.int .i64 b, .int .i64 m, .int .i64 j, .int .i64 q, .int .i64 l, .int .i64 u] 27)
  have X1 := Lies.new (w.alloc (.cells #[.int .i64 a, .int .i64 n, .int .i64 i, .int .i64 p, .int .i64 k, .int .i64 t] 27)) [b, m, j, q, l, u] 27 (B := w.heap.size + 1) (by simp)
  replace X0 := X0.later hn1
  replace hB := below_step hB hn1
  have hn2 := below_new ((w.alloc (.cells #[.int .i64 a, .int .i64 n, .int .i64 i, .int .i64 p, .int .i64 k, .int .i64 t] 27)).alloc (.cells #[.int .i64 b, .int .i64 m, .int .i64 j, .int .i64 q, .int .i64 l, .int .i64 u] 27)) (.cells #[.int .i64 a3, .int .i64 n3, .int .i64 i3, .int .i64 p3, .int .i64 k3, .int .i64 t3] 27)
  have X2 := Lies.new ((w.alloc (.cells #[.int .i64 a, .int .i64 n, .int .i64 i, .int .i64 p, .int .i64 k, .int .i64 t] 27)).alloc (.cells #[.int .i64 b, .int .i64 m, .int .i64 j, .int .i64 q, .int .i64 l, .int .i64 u] 27)) [a3, n3, i3, p3, k3, t3] 27 (B := w.heap.size + 1 + 1) (by simp)
  replace X0 := X0.later hn2
  replace X1 := X1.later hn2
  replace hB := below_step hB hn2
  clear hn0 hn1 hn2
  obtain ⟨x00, x01, x02, x03, x04, x05⟩ := X0.six
  obtain ⟨x10, x11, x12, x13, x14, x15⟩ := X1.six
  obtain ⟨x20, x21, x22, x23, x24, x25⟩ := X2.six
  go_enter Try.func6, Try.ntmps6
  go_wp2_with fail
  refine (awake_any _).mono ?_
  rintro e w1 ⟨rfl, hb1⟩
  clear x00 x01 x02 x03 x04 x05
  clear x10 x11 x12 x13 x14 x15
  clear x20 x21 x22 x23 x24 x25
  replace X0 := X0.later hb1
  replace X1 := X1.later hb1
  replace X2 := X2.later hb1
  replace hB := below_step hB hb1
  clear hb1
  obtain ⟨x00, x01, x02, x03, x04, x05⟩ := X0.six
  obtain ⟨x10, x11, x12, x13, x14, x15⟩ := X1.six
  obtain ⟨x20, x21, x22, x23, x24, x25⟩ := X2.six
  go_wp2_with fail
  refine (cA _).mono ?_
  rintro e w2 ⟨rfl, hb2⟩
  clear x00 x01 x02 x03 x04 x05
  clear x10 x11 x12 x13 x14 x15
  clear x20 x21 x22 x23 x24 x25
  replace X0 := X0.later hb2
  replace X1 := X1.later hb2
  replace X2 := X2.later hb2
  replace hB := below_step hB hb2
  clear hb2
  obtain ⟨x00, x01, x02, x03, x04, x05⟩ := X0.six
  obtain ⟨x10, x11, x12, x13, x14, x15⟩ := X1.six
  obtain ⟨x20, x21, x22, x23, x24, x25⟩ := X2.six
  go_wp2_with fail
  refine (cB _).mono ?_
  rintro e w3 ⟨rfl, hb3⟩
  clear x00 x01 x02 x03 x04 x05
  clear x10 x11 x12 x13 x14 x15
  clear x20 x21 x22 x23 x24 x25
  replace X0 := X0.later hb3
  replace X1 := X1.later hb3
  replace X2 := X2.later hb3
  replace hB := below_step hB hb3
  clear hb3
  obtain ⟨x00, x01, x02, x03, x04, x05⟩ := X0.six
  obtain ⟨x10, x11, x12, x13, x14, x15⟩ := X1.six
  obtain ⟨x20, x21, x22, x23, x24, x25⟩ := X2.six
  go_wp2_with fail
  refine (cC _).mono ?_
  rintro e w4 ⟨rfl, hb4⟩
  clear x00 x01 x02 x03 x04 x05
  clear x10 x11 x12 x13 x14 x15
  clear x20 x21 x22 x23 x24 x25
  replace X0 := X0.later hb4
  replace X1 := X1.later hb4
  replace X2 := X2.later hb4
  replace hB := below_step hB hb4
  clear hb4
  obtain ⟨x00, x01, x02, x03, x04, x05⟩ := X0.six
  obtain ⟨x10, x11, x12, x13, x14, x15⟩ := X1.six
  obtain ⟨x20, x21, x22, x23, x24, x25⟩ := X2.six
  go_wp2_with fail
  refine (cAB _).mono ?_
  rintro e w5 ⟨rfl, hb5⟩
  clear x00 x01 x02 x03 x04 x05
  clear x10 x11 x12 x13 x14 x15
  clear x20 x21 x22 x23 x24 x25
  replace X0 := X0.later hb5
  replace X1 := X1.later hb5
  replace X2 := X2.later hb5
  replace hB := below_step hB hb5
  clear hb5
  obtain ⟨x00, x01, x02, x03, x04, x05⟩ := X0.six
  obtain ⟨x10, x11, x12, x13, x14, x15⟩ := X1.six
  obtain ⟨x20, x21, x22, x23, x24, x25⟩ := X2.six
  go_wp2_with fail
  refine (cBA _).mono ?_
  rintro e w6 ⟨rfl, hb6⟩
  clear x00 x01 x02 x03 x04 x05
  clear x10 x11 x12 x13 x14 x15
  clear x20 x21 x22 x23 x24 x25
  replace X0 := X0.later hb6
  replace X1 := X1.later hb6
  replace X2 := X2.later hb6
  replace hB := below_step hB hb6
  clear hb6
  obtain ⟨x00, x01, x02, x03, x04, x05⟩ := X0.six
  obtain ⟨x10, x11, x12, x13, x14, x15⟩ := X1.six
  obtain ⟨x20, x21, x22, x23, x24, x25⟩ := X2.six
  go_wp2_with fail
  refine (cFA _).mono ?_
  rintro e w7 ⟨rfl, hb7⟩
  clear x00 x01 x02 x03 x04 x05
  clear x10 x11 x12 x13 x14 x15
  clear x20 x21 x22 x23 x24 x25
  replace X0 := X0.later hb7
  replace X1 := X1.later hb7
  replace X2 := X2.later hb7
  replace hB := below_step hB hb7
  clear hb7
  obtain ⟨x00, x01, x02, x03, x04, x05⟩ := X0.six
  obtain ⟨x10, x11, x12, x13, x14, x15⟩ := X1.six
  obtain ⟨x20, x21, x22, x23, x24, x25⟩ := X2.six
  go_wp2_with fail
  refine (cBC _).mono ?_
  rintro e w8 ⟨rfl, hb8⟩
  clear x00 x01 x02 x03 x04 x05
  clear x10 x11 x12 x13 x14 x15
  clear x20 x21 x22 x23 x24 x25
  replace X0 := X0.later hb8
  replace X1 := X1.later hb8
  replace X2 := X2.later hb8
  replace hB := below_step hB hb8
  clear hb8
  obtain ⟨x00, x01, x02, x03, x04, x05⟩ := X0.six
  obtain ⟨x10, x11, x12, x13, x14, x15⟩ := X1.six
  obtain ⟨x20, x21, x22, x23, x24, x25⟩ := X2.six
  go_wp2_with fail
  refine (cAC _).mono ?_
  rintro e w9 ⟨rfl, hb9⟩
  clear x00 x01 x02 x03 x04 x05
  clear x10 x11 x12 x13 x14 x15
  clear x20 x21 x22 x23 x24 x25
  replace X0 := X0.later hb9
  replace X1 := X1.later hb9
  replace X2 := X2.later hb9
  replace hB := below_step hB hb9
  clear hb9
  obtain ⟨x00, x01, x02, x03, x04, x05⟩ := X0.six
  obtain ⟨x10, x11, x12, x13, x14, x15⟩ := X1.six
  obtain ⟨x20, x21, x22, x23, x24, x25⟩ := X2.six
  go_wp2_with fail
  go_ret
  exact ⟨rfl, hB⟩
set_option maxHeartbeats 2000000 in
theorem one_tftff (a n i p k t b m j q l u a3 n3 i3 p3 k3 t3 x d : Int) (w : World)
    (cA : ∀ w, Calls Try.prog 16 #[.agg #[.int .i64 a, .int .i64 n, .int .i64 i, .int .i64 p, .int .i64 k, .int .i64 t]] w fun e w' => e = .returned (.bool true) ∧ Below w.heap.size w w')
    (cB : ∀ w, Calls Try.prog 16 #[.agg #[.int .i64 b, .int .i64 m, .int .i64 j, .int .i64 q, .int .i64 l, .int .i64 u]] w fun e w' => e = .returned (.bool true) ∧ Below w.heap.size w w')
    (cC : ∀ w, Calls Try.prog 16 #[.agg #[.int .i64 a3, .int .i64 n3, .int .i64 i3, .int .i64 p3, .int .i64 k3, .int .i64 t3]] w fun e w' => e = .returned (.bool true) ∧ Below w.heap.size w w')
    (cAB : ∀ w, Calls Try.prog 18 #[.agg #[.int .i64 a, .int .i64 n, .int .i64 i, .int .i64 p, .int .i64 k, .int .i64 t], .agg #[.int .i64 b, .int .i64 m, .int .i64 j, .int .i64 q, .int .i64 l, .int .i64 u]] w fun e w' => e = .returned (.bool true) ∧ Below w.heap.size w w')
    (cBA : ∀ w, Calls Try.prog 18 #[.agg #[.int .i64 b, .int .i64 m, .int .i64 j, .int .i64 q, .int .i64 l, .int .i64 u], .agg #[.int .i64 a, .int .i64 n, .int .i64 i, .int .i64 p, .int .i64 k, .int .i64 t]] w fun e w' => e = .returned (.bool false) ∧ Below w.heap.size w w')
    (cFA : ∀ w, Calls Try.prog 17 #[.agg #[.int .i64 a, .int .i64 n, .int .i64 i, .int .i64 p, .int .i64 k, .int .i64 t], .int .i64 x, .int .i64 d] w fun e w' => e = .returned (.bool true) ∧ Below w.heap.size w w')
    (cFB : ∀ w, Calls Try.prog 17 #[.agg #[.int .i64 b, .int .i64 m, .int .i64 j, .int .i64 q, .int .i64 l, .int .i64 u], .int .i64 x, .int .i64 d] w fun e w' => e = .returned (.bool false) ∧ Below w.heap.size w w')
    (cBC : ∀ w, Calls Try.prog 18 #[.agg #[.int .i64 b, .int .i64 m, .int .i64 j, .int .i64 q, .int .i64 l, .int .i64 u], .agg #[.int .i64 a3, .int .i64 n3, .int .i64 i3, .int .i64 p3, .int .i64 k3, .int .i64 t3]] w fun e w' => e = .returned (.bool false) ∧ Below w.heap.size w w') :
    Calls Try.prog 6 #[.agg #[.int .i64 a, .int .i64 n, .int .i64 i, .int .i64 p, .int .i64 k, .int .i64 t], .agg #[.int .i64 b, .int .i64 m, .int .i64 j, .int .i64 q, .int .i64 l, .int .i64 u], .agg #[.int .i64 a3, .int .i64 n3, .int .i64 i3, .int .i64 p3, .int .i64 k3, .int .i64 t3], .int .i64 x, .int .i64 d] w fun e w' => e = .returned (.bool true) ∧ Below w.heap.size w w' := by
  have hn0 := below_new w (.cells #[.int .i64 a, .int .i64 n, .int .i64 i, .int .i64 p, .int .i64 k, .int .i64 t] 27)
  have X0 := Lies.new w [a, n, i, p, k, t] 27 (B := w.heap.size) rfl
  have hB := hn0
  have hn1 := below_new (w.alloc (.cells #[.int .i64 a, .int .i64 n, .int .i64 i, .int .i64 p, .int .i64 k, .int .i64 t] 27)) (.cells #[.int .i64 b, .int .i64 m, .int .i64 j, .int .i64 q, .int .i64 l, .int .i64 u] 27)
  have X1 := Lies.new (w.alloc (.cells #[.int .i64 a, .int .i64 n, .int .i64 i, .int .i64 p, .int .i64 k, .int .i64 t] 27)) [b, m, j, q, l, u] 27 (B := w.heap.size + 1) (by simp)
  replace X0 := X0.later hn1
  replace hB := below_step hB hn1
  have hn2 := below_new ((w.alloc (.cells #[.int .i64 a, .int .i64 n, .int .i64 i, .int .i64 p, .int .i64 k, .int .i64 t] 27)).alloc (.cells #[.int .i64 b, .int .i64 m, .int .i64 j, .int .i64 q, .int .i64 l, .int .i64 u] 27)) (.cells #[.int .i64 a3, .int .i64 n3, .int .i64 i3, .int .i64 p3, .int .i64 k3, .int .i64 t3] 27)
  have X2 := Lies.new ((w.alloc (.cells #[.int .i64 a, .int .i64 n, .int .i64 i, .int .i64 p, .int .i64 k, .int .i64 t] 27)).alloc (.cells #[.int .i64 b, .int .i64 m, .int .i64 j, .int .i64 q, .int .i64 l, .int .i64 u] 27)) [a3, n3, i3, p3, k3, t3] 27 (B := w.heap.size + 1 + 1) (by simp)
  replace X0 := X0.later hn2
  replace X1 := X1.later hn2
  replace hB := below_step hB hn2
  clear hn0 hn1 hn2
  obtain ⟨x00, x01, x02, x03, x04, x05⟩ := X0.six
  obtain ⟨x10, x11, x12, x13, x14, x15⟩ := X1.six
  obtain ⟨x20, x21, x22, x23, x24, x25⟩ := X2.six
  go_enter Try.func6, Try.ntmps6
  go_wp2_with fail
  refine (awake_any _).mono ?_
  rintro e w1 ⟨rfl, hb1⟩
  clear x00 x01 x02 x03 x04 x05
  clear x10 x11 x12 x13 x14 x15
  clear x20 x21 x22 x23 x24 x25
  replace X0 := X0.later hb1
  replace X1 := X1.later hb1
  replace X2 := X2.later hb1
  replace hB := below_step hB hb1
  clear hb1
  obtain ⟨x00, x01, x02, x03, x04, x05⟩ := X0.six
  obtain ⟨x10, x11, x12, x13, x14, x15⟩ := X1.six
  obtain ⟨x20, x21, x22, x23, x24, x25⟩ := X2.six
  go_wp2_with fail
  refine (cA _).mono ?_
  rintro e w2 ⟨rfl, hb2⟩
  clear x00 x01 x02 x03 x04 x05
  clear x10 x11 x12 x13 x14 x15
  clear x20 x21 x22 x23 x24 x25
  replace X0 := X0.later hb2
  replace X1 := X1.later hb2
  replace X2 := X2.later hb2
  replace hB := below_step hB hb2
  clear hb2
  obtain ⟨x00, x01, x02, x03, x04, x05⟩ := X0.six
  obtain ⟨x10, x11, x12, x13, x14, x15⟩ := X1.six
  obtain ⟨x20, x21, x22, x23, x24, x25⟩ := X2.six
  go_wp2_with fail
  refine (cB _).mono ?_
  rintro e w3 ⟨rfl, hb3⟩
  clear x00 x01 x02 x03 x04 x05
  clear x10 x11 x12 x13 x14 x15
  clear x20 x21 x22 x23 x24 x25
  replace X0 := X0.later hb3
  replace X1 := X1.later hb3
  replace X2 := X2.later hb3
  replace hB := below_step hB hb3
  clear hb3
  obtain ⟨x00, x01, x02, x03, x04, x05⟩ := X0.six
  obtain ⟨x10, x11, x12, x13, x14, x15⟩ := X1.six
  obtain ⟨x20, x21, x22, x23, x24, x25⟩ := X2.six
  go_wp2_with fail
  refine (cC _).mono ?_
  rintro e w4 ⟨rfl, hb4⟩
  clear x00 x01 x02 x03 x04 x05
  clear x10 x11 x12 x13 x14 x15
  clear x20 x21 x22 x23 x24 x25
  replace X0 := X0.later hb4
  replace X1 := X1.later hb4
  replace X2 := X2.later hb4
  replace hB := below_step hB hb4
  clear hb4
  obtain ⟨x00, x01, x02, x03, x04, x05⟩ := X0.six
  obtain ⟨x10, x11, x12, x13, x14, x15⟩ := X1.six
  obtain ⟨x20, x21, x22, x23, x24, x25⟩ := X2.six
  go_wp2_with fail
  refine (cAB _).mono ?_
  rintro e w5 ⟨rfl, hb5⟩
  clear x00 x01 x02 x03 x04 x05
  clear x10 x11 x12 x13 x14 x15
  clear x20 x21 x22 x23 x24 x25
  replace X0 := X0.later hb5
  replace X1 := X1.later hb5
  replace X2 := X2.later hb5
  replace hB := below_step hB hb5
  clear hb5
  obtain ⟨x00, x01, x02, x03, x04, x05⟩ := X0.six
  obtain ⟨x10, x11, x12, x13, x14, x15⟩ := X1.six
  obtain ⟨x20, x21, x22, x23, x24, x25⟩ := X2.six
  go_wp2_with fail
  refine (cBA _).mono ?_
  rintro e w6 ⟨rfl, hb6⟩
  clear x00 x01 x02 x03 x04 x05
  clear x10 x11 x12 x13 x14 x15
  clear x20 x21 x22 x23 x24 x25
  replace X0 := X0.later hb6
  replace X1 := X1.later hb6
  replace X2 := X2.later hb6
  replace hB := below_step hB hb6
  clear hb6
  obtain ⟨x00, x01, x02, x03, x04, x05⟩ := X0.six
  obtain ⟨x10, x11, x12, x13, x14, x15⟩ := X1.six
  obtain ⟨x20, x21, x22, x23, x24, x25⟩ := X2.six
  go_wp2_with fail
  refine (cFA _).mono ?_
  rintro e w7 ⟨rfl, hb7⟩
  clear x00 x01 x02 x03 x04 x05
  clear x10 x11 x12 x13 x14 x15
  clear x20 x21 x22 x23 x24 x25
  replace X0 := X0.later hb7
  replace X1 := X1.later hb7
  replace X2 := X2.later hb7
  replace hB := below_step hB hb7
  clear hb7
  obtain ⟨x00, x01, x02, x03, x04, x05⟩ := X0.six
  obtain ⟨x10, x11, x12, x13, x14, x15⟩ := X1.six
  obtain ⟨x20, x21, x22, x23, x24, x25⟩ := X2.six
  go_wp2_with fail
  refine (cFB _).mono ?_
  rintro e w8 ⟨rfl, hb8⟩
  clear x00 x01 x02 x03 x04 x05
  clear x10 x11 x12 x13 x14 x15
  clear x20 x21 x22 x23 x24 x25
  replace X0 := X0.later hb8
  replace X1 := X1.later hb8
  replace X2 := X2.later hb8
  replace hB := below_step hB hb8
  clear hb8
  obtain ⟨x00, x01, x02, x03, x04, x05⟩ := X0.six
  obtain ⟨x10, x11, x12, x13, x14, x15⟩ := X1.six
  obtain ⟨x20, x21, x22, x23, x24, x25⟩ := X2.six
  go_wp2_with fail
  refine (cBC _).mono ?_
  rintro e w9 ⟨rfl, hb9⟩
  clear x00 x01 x02 x03 x04 x05
  clear x10 x11 x12 x13 x14 x15
  clear x20 x21 x22 x23 x24 x25
  replace X0 := X0.later hb9
  replace X1 := X1.later hb9
  replace X2 := X2.later hb9
  replace hB := below_step hB hb9
  clear hb9
  obtain ⟨x00, x01, x02, x03, x04, x05⟩ := X0.six
  obtain ⟨x10, x11, x12, x13, x14, x15⟩ := X1.six
  obtain ⟨x20, x21, x22, x23, x24, x25⟩ := X2.six
  go_wp2_with fail
  go_ret
  exact ⟨rfl, hB⟩
set_option maxHeartbeats 2000000 in
theorem one_tftft (a n i p k t b m j q l u a3 n3 i3 p3 k3 t3 x d : Int) (w : World)
    (cA : ∀ w, Calls Try.prog 16 #[.agg #[.int .i64 a, .int .i64 n, .int .i64 i, .int .i64 p, .int .i64 k, .int .i64 t]] w fun e w' => e = .returned (.bool true) ∧ Below w.heap.size w w')
    (cB : ∀ w, Calls Try.prog 16 #[.agg #[.int .i64 b, .int .i64 m, .int .i64 j, .int .i64 q, .int .i64 l, .int .i64 u]] w fun e w' => e = .returned (.bool true) ∧ Below w.heap.size w w')
    (cC : ∀ w, Calls Try.prog 16 #[.agg #[.int .i64 a3, .int .i64 n3, .int .i64 i3, .int .i64 p3, .int .i64 k3, .int .i64 t3]] w fun e w' => e = .returned (.bool true) ∧ Below w.heap.size w w')
    (cAB : ∀ w, Calls Try.prog 18 #[.agg #[.int .i64 a, .int .i64 n, .int .i64 i, .int .i64 p, .int .i64 k, .int .i64 t], .agg #[.int .i64 b, .int .i64 m, .int .i64 j, .int .i64 q, .int .i64 l, .int .i64 u]] w fun e w' => e = .returned (.bool true) ∧ Below w.heap.size w w')
    (cBA : ∀ w, Calls Try.prog 18 #[.agg #[.int .i64 b, .int .i64 m, .int .i64 j, .int .i64 q, .int .i64 l, .int .i64 u], .agg #[.int .i64 a, .int .i64 n, .int .i64 i, .int .i64 p, .int .i64 k, .int .i64 t]] w fun e w' => e = .returned (.bool false) ∧ Below w.heap.size w w')
    (cFA : ∀ w, Calls Try.prog 17 #[.agg #[.int .i64 a, .int .i64 n, .int .i64 i, .int .i64 p, .int .i64 k, .int .i64 t], .int .i64 x, .int .i64 d] w fun e w' => e = .returned (.bool true) ∧ Below w.heap.size w w')
    (cFB : ∀ w, Calls Try.prog 17 #[.agg #[.int .i64 b, .int .i64 m, .int .i64 j, .int .i64 q, .int .i64 l, .int .i64 u], .int .i64 x, .int .i64 d] w fun e w' => e = .returned (.bool false) ∧ Below w.heap.size w w')
    (cBC : ∀ w, Calls Try.prog 18 #[.agg #[.int .i64 b, .int .i64 m, .int .i64 j, .int .i64 q, .int .i64 l, .int .i64 u], .agg #[.int .i64 a3, .int .i64 n3, .int .i64 i3, .int .i64 p3, .int .i64 k3, .int .i64 t3]] w fun e w' => e = .returned (.bool true) ∧ Below w.heap.size w w')
    (cAC : ∀ w, Calls Try.prog 18 #[.agg #[.int .i64 a, .int .i64 n, .int .i64 i, .int .i64 p, .int .i64 k, .int .i64 t], .agg #[.int .i64 a3, .int .i64 n3, .int .i64 i3, .int .i64 p3, .int .i64 k3, .int .i64 t3]] w fun e w' => e = .returned (.bool true) ∧ Below w.heap.size w w') :
    Calls Try.prog 6 #[.agg #[.int .i64 a, .int .i64 n, .int .i64 i, .int .i64 p, .int .i64 k, .int .i64 t], .agg #[.int .i64 b, .int .i64 m, .int .i64 j, .int .i64 q, .int .i64 l, .int .i64 u], .agg #[.int .i64 a3, .int .i64 n3, .int .i64 i3, .int .i64 p3, .int .i64 k3, .int .i64 t3], .int .i64 x, .int .i64 d] w fun e w' => e = .returned (.bool true) ∧ Below w.heap.size w w' := by
  have hn0 := below_new w (.cells #[.int .i64 a, .int .i64 n, .int .i64 i, .int .i64 p, .int .i64 k, .int .i64 t] 27)
  have X0 := Lies.new w [a, n, i, p, k, t] 27 (B := w.heap.size) rfl
  have hB := hn0
  have hn1 := below_new (w.alloc (.cells #[.int .i64 a, .int .i64 n, .int .i64 i, .int .i64 p, .int .i64 k, .int .i64 t] 27)) (.cells #[.int .i64 b, .int .i64 m, .int .i64 j, .int .i64 q, .int .i64 l, .int .i64 u] 27)
  have X1 := Lies.new (w.alloc (.cells #[.int .i64 a, .int .i64 n, .int .i64 i, .int .i64 p, .int .i64 k, .int .i64 t] 27)) [b, m, j, q, l, u] 27 (B := w.heap.size + 1) (by simp)
  replace X0 := X0.later hn1
  replace hB := below_step hB hn1
  have hn2 := below_new ((w.alloc (.cells #[.int .i64 a, .int .i64 n, .int .i64 i, .int .i64 p, .int .i64 k, .int .i64 t] 27)).alloc (.cells #[.int .i64 b, .int .i64 m, .int .i64 j, .int .i64 q, .int .i64 l, .int .i64 u] 27)) (.cells #[.int .i64 a3, .int .i64 n3, .int .i64 i3, .int .i64 p3, .int .i64 k3, .int .i64 t3] 27)
  have X2 := Lies.new ((w.alloc (.cells #[.int .i64 a, .int .i64 n, .int .i64 i, .int .i64 p, .int .i64 k, .int .i64 t] 27)).alloc (.cells #[.int .i64 b, .int .i64 m, .int .i64 j, .int .i64 q, .int .i64 l, .int .i64 u] 27)) [a3, n3, i3, p3, k3, t3] 27 (B := w.heap.size + 1 + 1) (by simp)
  replace X0 := X0.later hn2
  replace X1 := X1.later hn2
  replace hB := below_step hB hn2
  clear hn0 hn1 hn2
  obtain ⟨x00, x01, x02, x03, x04, x05⟩ := X0.six
  obtain ⟨x10, x11, x12, x13, x14, x15⟩ := X1.six
  obtain ⟨x20, x21, x22, x23, x24, x25⟩ := X2.six
  go_enter Try.func6, Try.ntmps6
  go_wp2_with fail
  refine (awake_any _).mono ?_
  rintro e w1 ⟨rfl, hb1⟩
  clear x00 x01 x02 x03 x04 x05
  clear x10 x11 x12 x13 x14 x15
  clear x20 x21 x22 x23 x24 x25
  replace X0 := X0.later hb1
  replace X1 := X1.later hb1
  replace X2 := X2.later hb1
  replace hB := below_step hB hb1
  clear hb1
  obtain ⟨x00, x01, x02, x03, x04, x05⟩ := X0.six
  obtain ⟨x10, x11, x12, x13, x14, x15⟩ := X1.six
  obtain ⟨x20, x21, x22, x23, x24, x25⟩ := X2.six
  go_wp2_with fail
  refine (cA _).mono ?_
  rintro e w2 ⟨rfl, hb2⟩
  clear x00 x01 x02 x03 x04 x05
  clear x10 x11 x12 x13 x14 x15
  clear x20 x21 x22 x23 x24 x25
  replace X0 := X0.later hb2
  replace X1 := X1.later hb2
  replace X2 := X2.later hb2
  replace hB := below_step hB hb2
  clear hb2
  obtain ⟨x00, x01, x02, x03, x04, x05⟩ := X0.six
  obtain ⟨x10, x11, x12, x13, x14, x15⟩ := X1.six
  obtain ⟨x20, x21, x22, x23, x24, x25⟩ := X2.six
  go_wp2_with fail
  refine (cB _).mono ?_
  rintro e w3 ⟨rfl, hb3⟩
  clear x00 x01 x02 x03 x04 x05
  clear x10 x11 x12 x13 x14 x15
  clear x20 x21 x22 x23 x24 x25
  replace X0 := X0.later hb3
  replace X1 := X1.later hb3
  replace X2 := X2.later hb3
  replace hB := below_step hB hb3
  clear hb3
  obtain ⟨x00, x01, x02, x03, x04, x05⟩ := X0.six
  obtain ⟨x10, x11, x12, x13, x14, x15⟩ := X1.six
  obtain ⟨x20, x21, x22, x23, x24, x25⟩ := X2.six
  go_wp2_with fail
  refine (cC _).mono ?_
  rintro e w4 ⟨rfl, hb4⟩
  clear x00 x01 x02 x03 x04 x05
  clear x10 x11 x12 x13 x14 x15
  clear x20 x21 x22 x23 x24 x25
  replace X0 := X0.later hb4
  replace X1 := X1.later hb4
  replace X2 := X2.later hb4
  replace hB := below_step hB hb4
  clear hb4
  obtain ⟨x00, x01, x02, x03, x04, x05⟩ := X0.six
  obtain ⟨x10, x11, x12, x13, x14, x15⟩ := X1.six
  obtain ⟨x20, x21, x22, x23, x24, x25⟩ := X2.six
  go_wp2_with fail
  refine (cAB _).mono ?_
  rintro e w5 ⟨rfl, hb5⟩
  clear x00 x01 x02 x03 x04 x05
  clear x10 x11 x12 x13 x14 x15
  clear x20 x21 x22 x23 x24 x25
  replace X0 := X0.later hb5
  replace X1 := X1.later hb5
  replace X2 := X2.later hb5
  replace hB := below_step hB hb5
  clear hb5
  obtain ⟨x00, x01, x02, x03, x04, x05⟩ := X0.six
  obtain ⟨x10, x11, x12, x13, x14, x15⟩ := X1.six
  obtain ⟨x20, x21, x22, x23, x24, x25⟩ := X2.six
  go_wp2_with fail
  refine (cBA _).mono ?_
  rintro e w6 ⟨rfl, hb6⟩
  clear x00 x01 x02 x03 x04 x05
  clear x10 x11 x12 x13 x14 x15
  clear x20 x21 x22 x23 x24 x25
  replace X0 := X0.later hb6
  replace X1 := X1.later hb6
  replace X2 := X2.later hb6
  replace hB := below_step hB hb6
  clear hb6
  obtain ⟨x00, x01, x02, x03, x04, x05⟩ := X0.six
  obtain ⟨x10, x11, x12, x13, x14, x15⟩ := X1.six
  obtain ⟨x20, x21, x22, x23, x24, x25⟩ := X2.six
  go_wp2_with fail
  refine (cFA _).mono ?_
  rintro e w7 ⟨rfl, hb7⟩
  clear x00 x01 x02 x03 x04 x05
  clear x10 x11 x12 x13 x14 x15
  clear x20 x21 x22 x23 x24 x25
  replace X0 := X0.later hb7
  replace X1 := X1.later hb7
  replace X2 := X2.later hb7
  replace hB := below_step hB hb7
  clear hb7
  obtain ⟨x00, x01, x02, x03, x04, x05⟩ := X0.six
  obtain ⟨x10, x11, x12, x13, x14, x15⟩ := X1.six
  obtain ⟨x20, x21, x22, x23, x24, x25⟩ := X2.six
  go_wp2_with fail
  refine (cFB _).mono ?_
  rintro e w8 ⟨rfl, hb8⟩
  clear x00 x01 x02 x03 x04 x05
  clear x10 x11 x12 x13 x14 x15
  clear x20 x21 x22 x23 x24 x25
  replace X0 := X0.later hb8
  replace X1 := X1.later hb8
  replace X2 := X2.later hb8
  replace hB := below_step hB hb8
  clear hb8
  obtain ⟨x00, x01, x02, x03, x04, x05⟩ := X0.six
  obtain ⟨x10, x11, x12, x13, x14, x15⟩ := X1.six
  obtain ⟨x20, x21, x22, x23, x24, x25⟩ := X2.six
  go_wp2_with fail
  refine (cBC _).mono ?_
  rintro e w9 ⟨rfl, hb9⟩
  clear x00 x01 x02 x03 x04 x05
  clear x10 x11 x12 x13 x14 x15
  clear x20 x21 x22 x23 x24 x25
  replace X0 := X0.later hb9
  replace X1 := X1.later hb9
  replace X2 := X2.later hb9
  replace hB := below_step hB hb9
  clear hb9
  obtain ⟨x00, x01, x02, x03, x04, x05⟩ := X0.six
  obtain ⟨x10, x11, x12, x13, x14, x15⟩ := X1.six
  obtain ⟨x20, x21, x22, x23, x24, x25⟩ := X2.six
  go_wp2_with fail
  refine (cAC _).mono ?_
  rintro e w10 ⟨rfl, hb10⟩
  clear x00 x01 x02 x03 x04 x05
  clear x10 x11 x12 x13 x14 x15
  clear x20 x21 x22 x23 x24 x25
  replace X0 := X0.later hb10
  replace X1 := X1.later hb10
  replace X2 := X2.later hb10
  replace hB := below_step hB hb10
  clear hb10
  obtain ⟨x00, x01, x02, x03, x04, x05⟩ := X0.six
  obtain ⟨x10, x11, x12, x13, x14, x15⟩ := X1.six
  obtain ⟨x20, x21, x22, x23, x24, x25⟩ := X2.six
  go_wp2_with fail
  go_ret
  exact ⟨rfl, hB⟩
set_option maxHeartbeats 2000000 in
theorem one_tfttf (a n i p k t b m j q l u a3 n3 i3 p3 k3 t3 x d : Int) (w : World)
    (cA : ∀ w, Calls Try.prog 16 #[.agg #[.int .i64 a, .int .i64 n, .int .i64 i, .int .i64 p, .int .i64 k, .int .i64 t]] w fun e w' => e = .returned (.bool true) ∧ Below w.heap.size w w')
    (cB : ∀ w, Calls Try.prog 16 #[.agg #[.int .i64 b, .int .i64 m, .int .i64 j, .int .i64 q, .int .i64 l, .int .i64 u]] w fun e w' => e = .returned (.bool true) ∧ Below w.heap.size w w')
    (cC : ∀ w, Calls Try.prog 16 #[.agg #[.int .i64 a3, .int .i64 n3, .int .i64 i3, .int .i64 p3, .int .i64 k3, .int .i64 t3]] w fun e w' => e = .returned (.bool true) ∧ Below w.heap.size w w')
    (cAB : ∀ w, Calls Try.prog 18 #[.agg #[.int .i64 a, .int .i64 n, .int .i64 i, .int .i64 p, .int .i64 k, .int .i64 t], .agg #[.int .i64 b, .int .i64 m, .int .i64 j, .int .i64 q, .int .i64 l, .int .i64 u]] w fun e w' => e = .returned (.bool true) ∧ Below w.heap.size w w')
    (cBA : ∀ w, Calls Try.prog 18 #[.agg #[.int .i64 b, .int .i64 m, .int .i64 j, .int .i64 q, .int .i64 l, .int .i64 u], .agg #[.int .i64 a, .int .i64 n, .int .i64 i, .int .i64 p, .int .i64 k, .int .i64 t]] w fun e w' => e = .returned (.bool false) ∧ Below w.heap.size w w')
    (cFA : ∀ w, Calls Try.prog 17 #[.agg #[.int .i64 a, .int .i64 n, .int .i64 i, .int .i64 p, .int .i64 k, .int .i64 t], .int .i64 x, .int .i64 d] w fun e w' => e = .returned (.bool true) ∧ Below w.heap.size w w')
    (cFB : ∀ w, Calls Try.prog 17 #[.agg #[.int .i64 b, .int .i64 m, .int .i64 j, .int .i64 q, .int .i64 l, .int .i64 u], .int .i64 x, .int .i64 d] w fun e w' => e = .returned (.bool true) ∧ Below w.heap.size w w')
    (cL : ∀ w, Calls Try.prog 19 #[.agg #[.int .i64 a, .int .i64 n, .int .i64 i, .int .i64 p, .int .i64 k, .int .i64 t], .agg #[.int .i64 b, .int .i64 m, .int .i64 j, .int .i64 q, .int .i64 l, .int .i64 u]] w fun e w' => e = .returned (.bool false) ∧ Below w.heap.size w w')
    (cBC : ∀ w, Calls Try.prog 18 #[.agg #[.int .i64 b, .int .i64 m, .int .i64 j, .int .i64 q, .int .i64 l, .int .i64 u], .agg #[.int .i64 a3, .int .i64 n3, .int .i64 i3, .int .i64 p3, .int .i64 k3, .int .i64 t3]] w fun e w' => e = .returned (.bool false) ∧ Below w.heap.size w w') :
    Calls Try.prog 6 #[.agg #[.int .i64 a, .int .i64 n, .int .i64 i, .int .i64 p, .int .i64 k, .int .i64 t], .agg #[.int .i64 b, .int .i64 m, .int .i64 j, .int .i64 q, .int .i64 l, .int .i64 u], .agg #[.int .i64 a3, .int .i64 n3, .int .i64 i3, .int .i64 p3, .int .i64 k3, .int .i64 t3], .int .i64 x, .int .i64 d] w fun e w' => e = .returned (.bool true) ∧ Below w.heap.size w w' := by
  have hn0 := below_new w (.cells #[.int .i64 a, .int .i64 n, .int .i64 i, .int .i64 p, .int .i64 k, .int .i64 t] 27)
  have X0 := Lies.new w [a, n, i, p, k, t] 27 (B := w.heap.size) rfl
  have hB := hn0
  have hn1 := below_new (w.alloc (.cells #[.int .i64 a, .int .i64 n, .int .i64 i, .int .i64 p, .int .i64 k, .int .i64 t] 27)) (.cells #[.int .i64 b, .int .i64 m, .int .i64 j, .int .i64 q, .int .i64 l, .int .i64 u] 27)
  have X1 := Lies.new (w.alloc (.cells #[.int .i64 a, .int .i64 n, .int .i64 i, .int .i64 p, .int .i64 k, .int .i64 t] 27)) [b, m, j, q, l, u] 27 (B := w.heap.size + 1) (by simp)
  replace X0 := X0.later hn1
  replace hB := below_step hB hn1
  have hn2 := below_new ((w.alloc (.cells #[.int .i64 a, .int .i64 n, .int .i64 i, .int .i64 p, .int .i64 k, .int .i64 t] 27)).alloc (.cells #[.int .i64 b, .int .i64 m, .int .i64 j, .int .i64 q, .int .i64 l, .int .i64 u] 27)) (.cells #[.int .i64 a3, .int .i64 n3, .int .i64 i3, .int .i64 p3, .int .i64 k3, .int .i64 t3] 27)
  have X2 := Lies.new ((w.alloc (.cells #[.int .i64 a, .int .i64 n, .int .i64 i, .int .i64 p, .int .i64 k, .int .i64 t] 27)).alloc (.cells #[.int .i64 b, .int .i64 m, .int .i64 j, .int .i64 q, .int .i64 l, .int .i64 u] 27)) [a3, n3, i3, p3, k3, t3] 27 (B := w.heap.size + 1 + 1) (by simp)
  replace X0 := X0.later hn2
  replace X1 := X1.later hn2
  replace hB := below_step hB hn2
  clear hn0 hn1 hn2
  obtain ⟨x00, x01, x02, x03, x04, x05⟩ := X0.six
  obtain ⟨x10, x11, x12, x13, x14, x15⟩ := X1.six
  obtain ⟨x20, x21, x22, x23, x24, x25⟩ := X2.six
  go_enter Try.func6, Try.ntmps6
  go_wp2_with fail
  refine (awake_any _).mono ?_
  rintro e w1 ⟨rfl, hb1⟩
  clear x00 x01 x02 x03 x04 x05
  clear x10 x11 x12 x13 x14 x15
  clear x20 x21 x22 x23 x24 x25
  replace X0 := X0.later hb1
  replace X1 := X1.later hb1
  replace X2 := X2.later hb1
  replace hB := below_step hB hb1
  clear hb1
  obtain ⟨x00, x01, x02, x03, x04, x05⟩ := X0.six
  obtain ⟨x10, x11, x12, x13, x14, x15⟩ := X1.six
  obtain ⟨x20, x21, x22, x23, x24, x25⟩ := X2.six
  go_wp2_with fail
  refine (cA _).mono ?_
  rintro e w2 ⟨rfl, hb2⟩
  clear x00 x01 x02 x03 x04 x05
  clear x10 x11 x12 x13 x14 x15
  clear x20 x21 x22 x23 x24 x25
  replace X0 := X0.later hb2
  replace X1 := X1.later hb2
  replace X2 := X2.later hb2
  replace hB := below_step hB hb2
  clear hb2
  obtain ⟨x00, x01, x02, x03, x04, x05⟩ := X0.six
  obtain ⟨x10, x11, x12, x13, x14, x15⟩ := X1.six
  obtain ⟨x20, x21, x22, x23, x24, x25⟩ := X2.six
  go_wp2_with fail
  refine (cB _).mono ?_
  rintro e w3 ⟨rfl, hb3⟩
  clear x00 x01 x02 x03 x04 x05
  clear x10 x11 x12 x13 x14 x15
  clear x20 x21 x22 x23 x24 x25
  replace X0 := X0.later hb3
  replace X1 := X1.later hb3
  replace X2 := X2.later hb3
  replace hB := below_step hB hb3
  clear hb3
  obtain ⟨x00, x01, x02, x03, x04, x05⟩ := X0.six
  obtain ⟨x10, x11, x12, x13, x14, x15⟩ := X1.six
  obtain ⟨x20, x21, x22, x23, x24, x25⟩ := X2.six
  go_wp2_with fail
  refine (cC _).mono ?_
  rintro e w4 ⟨rfl, hb4⟩
  clear x00 x01 x02 x03 x04 x05
  clear x10 x11 x12 x13 x14 x15
  clear x20 x21 x22 x23 x24 x25
  replace X0 := X0.later hb4
  replace X1 := X1.later hb4
  replace X2 := X2.later hb4
  replace hB := below_step hB hb4
  clear hb4
  obtain ⟨x00, x01, x02, x03, x04, x05⟩ := X0.six
  obtain ⟨x10, x11, x12, x13, x14, x15⟩ := X1.six
  obtain ⟨x20, x21, x22, x23, x24, x25⟩ := X2.six
  go_wp2_with fail
  refine (cAB _).mono ?_
  rintro e w5 ⟨rfl, hb5⟩
  clear x00 x01 x02 x03 x04 x05
  clear x10 x11 x12 x13 x14 x15
  clear x20 x21 x22 x23 x24 x25
  replace X0 := X0.later hb5
  replace X1 := X1.later hb5
  replace X2 := X2.later hb5
  replace hB := below_step hB hb5
  clear hb5
  obtain ⟨x00, x01, x02, x03, x04, x05⟩ := X0.six
  obtain ⟨x10, x11, x12, x13, x14, x15⟩ := X1.six
  obtain ⟨x20, x21, x22, x23, x24, x25⟩ := X2.six
  go_wp2_with fail
  refine (cBA _).mono ?_
  rintro e w6 ⟨rfl, hb6⟩
  clear x00 x01 x02 x03 x04 x05
  clear x10 x11 x12 x13 x14 x15
  clear x20 x21 x22 x23 x24 x25
  replace X0 := X0.later hb6
  replace X1 := X1.later hb6
  replace X2 := X2.later hb6
  replace hB := below_step hB hb6
  clear hb6
  obtain ⟨x00, x01, x02, x03, x04, x05⟩ := X0.six
  obtain ⟨x10, x11, x12, x13, x14, x15⟩ := X1.six
  obtain ⟨x20, x21, x22, x23, x24, x25⟩ := X2.six
  go_wp2_with fail
  refine (cFA _).mono ?_
  rintro e w7 ⟨rfl, hb7⟩
  clear x00 x01 x02 x03 x04 x05
  clear x10 x11 x12 x13 x14 x15
  clear x20 x21 x22 x23 x24 x25
  replace X0 := X0.later hb7
  replace X1 := X1.later hb7
  replace X2 := X2.later hb7
  replace hB := below_step hB hb7
  clear hb7
  obtain ⟨x00, x01, x02, x03, x04, x05⟩ := X0.six
  obtain ⟨x10, x11, x12, x13, x14, x15⟩ := X1.six
  obtain ⟨x20, x21, x22, x23, x24, x25⟩ := X2.six
  go_wp2_with fail
  refine (cFB _).mono ?_
  rintro e w8 ⟨rfl, hb8⟩
  clear x00 x01 x02 x03 x04 x05
  clear x10 x11 x12 x13 x14 x15
  clear x20 x21 x22 x23 x24 x25
  replace X0 := X0.later hb8
  replace X1 := X1.later hb8
  replace X2 := X2.later hb8
  replace hB := below_step hB hb8
  clear hb8
  obtain ⟨x00, x01, x02, x03, x04, x05⟩ := X0.six
  obtain ⟨x10, x11, x12, x13, x14, x15⟩ := X1.six
  obtain ⟨x20, x21, x22, x23, x24, x25⟩ := X2.six
  go_wp2_with fail
  refine (cL _).mono ?_
  rintro e w9 ⟨rfl, hb9⟩
  clear x00 x01 x02 x03 x04 x05
  clear x10 x11 x12 x13 x14 x15
  clear x20 x21 x22 x23 x24 x25
  replace X0 := X0.later hb9
  replace X1 := X1.later hb9
  replace X2 := X2.later hb9
  replace hB := below_step hB hb9
  clear hb9
  obtain ⟨x00, x01, x02, x03, x04, x05⟩ := X0.six
  obtain ⟨x10, x11, x12, x13, x14, x15⟩ := X1.six
  obtain ⟨x20, x21, x22, x23, x24, x25⟩ := X2.six
  go_wp2_with fail
  refine (cBC _).mono ?_
  rintro e w10 ⟨rfl, hb10⟩
  clear x00 x01 x02 x03 x04 x05
  clear x10 x11 x12 x13 x14 x15
  clear x20 x21 x22 x23 x24 x25
  replace X0 := X0.later hb10
  replace X1 := X1.later hb10
  replace X2 := X2.later hb10
  replace hB := below_step hB hb10
  clear hb10
  obtain ⟨x00, x01, x02, x03, x04, x05⟩ := X0.six
  obtain ⟨x10, x11, x12, x13, x14, x15⟩ := X1.six
  obtain ⟨x20, x21, x22, x23, x24, x25⟩ := X2.six
  go_wp2_with fail
  go_ret
  exact ⟨rfl, hB⟩
set_option maxHeartbeats 2000000 in
theorem one_tfttt (a n i p k t b m j q l u a3 n3 i3 p3 k3 t3 x d : Int) (w : World)
    (cA : ∀ w, Calls Try.prog 16 #[.agg #[.int .i64 a, .int .i64 n, .int .i64 i, .int .i64 p, .int .i64 k, .int .i64 t]] w fun e w' => e = .returned (.bool true) ∧ Below w.heap.size w w')
    (cB : ∀ w, Calls Try.prog 16 #[.agg #[.int .i64 b, .int .i64 m, .int .i64 j, .int .i64 q, .int .i64 l, .int .i64 u]] w fun e w' => e = .returned (.bool true) ∧ Below w.heap.size w w')
    (cC : ∀ w, Calls Try.prog 16 #[.agg #[.int .i64 a3, .int .i64 n3, .int .i64 i3, .int .i64 p3, .int .i64 k3, .int .i64 t3]] w fun e w' => e = .returned (.bool true) ∧ Below w.heap.size w w')
    (cAB : ∀ w, Calls Try.prog 18 #[.agg #[.int .i64 a, .int .i64 n, .int .i64 i, .int .i64 p, .int .i64 k, .int .i64 t], .agg #[.int .i64 b, .int .i64 m, .int .i64 j, .int .i64 q, .int .i64 l, .int .i64 u]] w fun e w' => e = .returned (.bool true) ∧ Below w.heap.size w w')
    (cBA : ∀ w, Calls Try.prog 18 #[.agg #[.int .i64 b, .int .i64 m, .int .i64 j, .int .i64 q, .int .i64 l, .int .i64 u], .agg #[.int .i64 a, .int .i64 n, .int .i64 i, .int .i64 p, .int .i64 k, .int .i64 t]] w fun e w' => e = .returned (.bool false) ∧ Below w.heap.size w w')
    (cFA : ∀ w, Calls Try.prog 17 #[.agg #[.int .i64 a, .int .i64 n, .int .i64 i, .int .i64 p, .int .i64 k, .int .i64 t], .int .i64 x, .int .i64 d] w fun e w' => e = .returned (.bool true) ∧ Below w.heap.size w w')
    (cFB : ∀ w, Calls Try.prog 17 #[.agg #[.int .i64 b, .int .i64 m, .int .i64 j, .int .i64 q, .int .i64 l, .int .i64 u], .int .i64 x, .int .i64 d] w fun e w' => e = .returned (.bool true) ∧ Below w.heap.size w w')
    (cL : ∀ w, Calls Try.prog 19 #[.agg #[.int .i64 a, .int .i64 n, .int .i64 i, .int .i64 p, .int .i64 k, .int .i64 t], .agg #[.int .i64 b, .int .i64 m, .int .i64 j, .int .i64 q, .int .i64 l, .int .i64 u]] w fun e w' => e = .returned (.bool false) ∧ Below w.heap.size w w')
    (cBC : ∀ w, Calls Try.prog 18 #[.agg #[.int .i64 b, .int .i64 m, .int .i64 j, .int .i64 q, .int .i64 l, .int .i64 u], .agg #[.int .i64 a3, .int .i64 n3, .int .i64 i3, .int .i64 p3, .int .i64 k3, .int .i64 t3]] w fun e w' => e = .returned (.bool true) ∧ Below w.heap.size w w')
    (cAC : ∀ w, Calls Try.prog 18 #[.agg #[.int .i64 a, .int .i64 n, .int .i64 i, .int .i64 p, .int .i64 k, .int .i64 t], .agg #[.int .i64 a3, .int .i64 n3, .int .i64 i3, .int .i64 p3, .int .i64 k3, .int .i64 t3]] w fun e w' => e = .returned (.bool true) ∧ Below w.heap.size w w') :
    Calls Try.prog 6 #[.agg #[.int .i64 a, .int .i64 n, .int .i64 i, .int .i64 p, .int .i64 k, .int .i64 t], .agg #[.int .i64 b, .int .i64 m, .int .i64 j, .int .i64 q, .int .i64 l, .int .i64 u], .agg #[.int .i64 a3, .int .i64 n3, .int .i64 i3, .int .i64 p3, .int .i64 k3, .int .i64 t3], .int .i64 x, .int .i64 d] w fun e w' => e = .returned (.bool true) ∧ Below w.heap.size w w' := by
  have hn0 := below_new w (.cells #[.int .i64 a, .int .i64 n, .int .i64 i, .int .i64 p, .int .i64 k, .int .i64 t] 27)
  have X0 := Lies.new w [a, n, i, p, k, t] 27 (B := w.heap.size) rfl
  have hB := hn0
  have hn1 := below_new (w.alloc (.cells #[.int .i64 a, .int .i64 n, .int .i64 i, .int .i64 p, .int .i64 k, .int .i64 t] 27)) (.cells #[.int .i64 b, .int .i64 m, .int .i64 j, .int .i64 q, .int .i64 l, .int .i64 u] 27)
  have X1 := Lies.new (w.alloc (.cells #[.int .i64 a, .int .i64 n, .int .i64 i, .int .i64 p, .int .i64 k, .int .i64 t] 27)) [b, m, j, q, l, u] 27 (B := w.heap.size + 1) (by simp)
  replace X0 := X0.later hn1
  replace hB := below_step hB hn1
  have hn2 := below_new ((w.alloc (.cells #[.int .i64 a, .int .i64 n, .int .i64 i, .int .i64 p, .int .i64 k, .int .i64 t] 27)).alloc (.cells #[.int .i64 b, .int .i64 m, .int .i64 j, .int .i64 q, .int .i64 l, .int .i64 u] 27)) (.cells #[.int .i64 a3, .int .i64 n3, .int .i64 i3, .int .i64 p3, .int .i64 k3, .int .i64 t3] 27)
  have X2 := Lies.new ((w.alloc (.cells #[.int .i64 a, .int .i64 n, .int .i64 i, .int .i64 p, .int .i64 k, .int .i64 t] 27)).alloc (.cells #[.int .i64 b, .int .i64 m, .int .i64 j, .int .i64 q, .int .i64 l, .int .i64 u] 27)) [a3, n3, i3, p3, k3, t3] 27 (B := w.heap.size + 1 + 1) (by simp)
  replace X0 := X0.later hn2
  replace X1 := X1.later hn2
  replace hB := below_step hB hn2
  clear hn0 hn1 hn2
  obtain ⟨x00, x01, x02, x03, x04, x05⟩ := X0.six
  obtain ⟨x10, x11, x12, x13, x14, x15⟩ := X1.six
  obtain ⟨x20, x21, x22, x23, x24, x25⟩ := X2.six
  go_enter Try.func6, Try.ntmps6
  go_wp2_with fail
  refine (awake_any _).mono ?_
  rintro e w1 ⟨rfl, hb1⟩
  clear x00 x01 x02 x03 x04 x05
  clear x10 x11 x12 x13 x14 x15
  clear x20 x21 x22 x23 x24 x25
  replace X0 := X0.later hb1
  replace X1 := X1.later hb1
  replace X2 := X2.later hb1
  replace hB := below_step hB hb1
  clear hb1
  obtain ⟨x00, x01, x02, x03, x04, x05⟩ := X0.six
  obtain ⟨x10, x11, x12, x13, x14, x15⟩ := X1.six
  obtain ⟨x20, x21, x22, x23, x24, x25⟩ := X2.six
  go_wp2_with fail
  refine (cA _).mono ?_
  rintro e w2 ⟨rfl, hb2⟩
  clear x00 x01 x02 x03 x04 x05
  clear x10 x11 x12 x13 x14 x15
  clear x20 x21 x22 x23 x24 x25
  replace X0 := X0.later hb2
  replace X1 := X1.later hb2
  replace X2 := X2.later hb2
  replace hB := below_step hB hb2
  clear hb2
  obtain ⟨x00, x01, x02, x03, x04, x05⟩ := X0.six
  obtain ⟨x10, x11, x12, x13, x14, x15⟩ := X1.six
  obtain ⟨x20, x21, x22, x23, x24, x25⟩ := X2.six
  go_wp2_with fail
  refine (cB _).mono ?_
  rintro e w3 ⟨rfl, hb3⟩
  clear x00 x01 x02 x03 x04 x05
  clear x10 x11 x12 x13 x14 x15
  clear x20 x21 x22 x23 x24 x25
  replace X0 := X0.later hb3
  replace X1 := X1.later hb3
  replace X2 := X2.later hb3
  replace hB := below_step hB hb3
  clear hb3
  obtain ⟨x00, x01, x02, x03, x04, x05⟩ := X0.six
  obtain ⟨x10, x11, x12, x13, x14, x15⟩ := X1.six
  obtain ⟨x20, x21, x22, x23, x24, x25⟩ := X2.six
  go_wp2_with fail
  refine (cC _).mono ?_
  rintro e w4 ⟨rfl, hb4⟩
  clear x00 x01 x02 x03 x04 x05
  clear x10 x11 x12 x13 x14 x15
  clear x20 x21 x22 x23 x24 x25
  replace X0 := X0.later hb4
  replace X1 := X1.later hb4
  replace X2 := X2.later hb4
  replace hB := below_step hB hb4
  clear hb4
  obtain ⟨x00, x01, x02, x03, x04, x05⟩ := X0.six
  obtain ⟨x10, x11, x12, x13, x14, x15⟩ := X1.six
  obtain ⟨x20, x21, x22, x23, x24, x25⟩ := X2.six
  go_wp2_with fail
  refine (cAB _).mono ?_
  rintro e w5 ⟨rfl, hb5⟩
  clear x00 x01 x02 x03 x04 x05
  clear x10 x11 x12 x13 x14 x15
  clear x20 x21 x22 x23 x24 x25
  replace X0 := X0.later hb5
  replace X1 := X1.later hb5
  replace X2 := X2.later hb5
  replace hB := below_step hB hb5
  clear hb5
  obtain ⟨x00, x01, x02, x03, x04, x05⟩ := X0.six
  obtain ⟨x10, x11, x12, x13, x14, x15⟩ := X1.six
  obtain ⟨x20, x21, x22, x23, x24, x25⟩ := X2.six
  go_wp2_with fail
  refine (cBA _).mono ?_
  rintro e w6 ⟨rfl, hb6⟩
  clear x00 x01 x02 x03 x04 x05
  clear x10 x11 x12 x13 x14 x15
  clear x20 x21 x22 x23 x24 x25
  replace X0 := X0.later hb6
  replace X1 := X1.later hb6
  replace X2 := X2.later hb6
  replace hB := below_step hB hb6
  clear hb6
  obtain ⟨x00, x01, x02, x03, x04, x05⟩ := X0.six
  obtain ⟨x10, x11, x12, x13, x14, x15⟩ := X1.six
  obtain ⟨x20, x21, x22, x23, x24, x25⟩ := X2.six
  go_wp2_with fail
  refine (cFA _).mono ?_
  rintro e w7 ⟨rfl, hb7⟩
  clear x00 x01 x02 x03 x04 x05
  clear x10 x11 x12 x13 x14 x15
  clear x20 x21 x22 x23 x24 x25
  replace X0 := X0.later hb7
  replace X1 := X1.later hb7
  replace X2 := X2.later hb7
  replace hB := below_step hB hb7
  clear hb7
  obtain ⟨x00, x01, x02, x03, x04, x05⟩ := X0.six
  obtain ⟨x10, x11, x12, x13, x14, x15⟩ := X1.six
  obtain ⟨x20, x21, x22, x23, x24, x25⟩ := X2.six
  go_wp2_with fail
  refine (cFB _).mono ?_
  rintro e w8 ⟨rfl, hb8⟩
  clear x00 x01 x02 x03 x04 x05
  clear x10 x11 x12 x13 x14 x15
  clear x20 x21 x22 x23 x24 x25
  replace X0 := X0.later hb8
  replace X1 := X1.later hb8
  replace X2 := X2.later hb8
  replace hB := below_step hB hb8
  clear hb8
  obtain ⟨x00, x01, x02, x03, x04, x05⟩ := X0.six
  obtain ⟨x10, x11, x12, x13, x14, x15⟩ := X1.six
  obtain ⟨x20, x21, x22, x23, x24, x25⟩ := X2.six
  go_wp2_with fail
  refine (cL _).mono ?_
  rintro e w9 ⟨rfl, hb9⟩
  clear x00 x01 x02 x03 x04 x05
  clear x10 x11 x12 x13 x14 x15
  clear x20 x21 x22 x23 x24 x25
  replace X0 := X0.later hb9
  replace X1 := X1.later hb9
  replace X2 := X2.later hb9
  replace hB := below_step hB hb9
  clear hb9
  obtain ⟨x00, x01, x02, x03, x04, x05⟩ := X0.six
  obtain ⟨x10, x11, x12, x13, x14, x15⟩ := X1.six
  obtain ⟨x20, x21, x22, x23, x24, x25⟩ := X2.six
  go_wp2_with fail
  refine (cBC _).mono ?_
  rintro e w10 ⟨rfl, hb10⟩
  clear x00 x01 x02 x03 x04 x05
  clear x10 x11 x12 x13 x14 x15
  clear x20 x21 x22 x23 x24 x25
  replace X0 := X0.later hb10
  replace X1 := X1.later hb10
  replace X2 := X2.later hb10
  replace hB := below_step hB hb10
  clear hb10
  obtain ⟨x00, x01, x02, x03, x04, x05⟩ := X0.six
  obtain ⟨x10, x11, x12, x13, x14, x15⟩ := X1.six
  obtain ⟨x20, x21, x22, x23, x24, x25⟩ := X2.six
  go_wp2_with fail
  refine (cAC _).mono ?_
  rintro e w11 ⟨rfl, hb11⟩
  clear x00 x01 x02 x03 x04 x05
  clear x10 x11 x12 x13 x14 x15
  clear x20 x21 x22 x23 x24 x25
  replace X0 := X0.later hb11
  replace X1 := X1.later hb11
  replace X2 := X2.later hb11
  replace hB := below_step hB hb11
  clear hb11
  obtain ⟨x00, x01, x02, x03, x04, x05⟩ := X0.six
  obtain ⟨x10, x11, x12, x13, x14, x15⟩ := X1.six
  obtain ⟨x20, x21, x22, x23, x24, x25⟩ := X2.six
  go_wp2_with fail
  go_ret
  exact ⟨rfl, hB⟩
set_option maxHeartbeats 2000000 in
theorem one_ftfff (a n i p k t b m j q l u a3 n3 i3 p3 k3 t3 x d : Int) (w : World)
    (cA : ∀ w, Calls Try.prog 16 #[.agg #[.int .i64 a, .int .i64 n, .int .i64 i, .int .i64 p, .int .i64 k, .int .i64 t]] w fun e w' => e = .returned (.bool true) ∧ Below w.heap.size w w')
    (cB : ∀ w, Calls Try.prog 16 #[.agg #[.int .i64 b, .int .i64 m, .int .i64 j, .int .i64 q, .int .i64 l, .int .i64 u]] w fun e w' => e = .returned (.bool true) ∧ Below w.heap.size w w')
    (cC : ∀ w, Calls Try.prog 16 #[.agg #[.int .i64 a3, .int .i64 n3, .int .i64 i3, .int .i64 p3, .int .i64 k3, .int .i64 t3]] w fun e w' => e = .returned (.bool true) ∧ Below w.heap.size w w')
    (cAB : ∀ w, Calls Try.prog 18 #[.agg #[.int .i64 a, .int .i64 n, .int .i64 i, .int .i64 p, .int .i64 k, .int .i64 t], .agg #[.int .i64 b, .int .i64 m, .int .i64 j, .int .i64 q, .int .i64 l, .int .i64 u]] w fun e w' => e = .returned (.bool false) ∧ Below w.heap.size w w')
    (cBA : ∀ w, Calls Try.prog 18 #[.agg #[.int .i64 b, .int .i64 m, .int .i64 j, .int .i64 q, .int .i64 l, .int .i64 u], .agg #[.int .i64 a, .int .i64 n, .int .i64 i, .int .i64 p, .int .i64 k, .int .i64 t]] w fun e w' => e = .returned (.bool true) ∧ Below w.heap.size w w')
    (cFA : ∀ w, Calls Try.prog 17 #[.agg #[.int .i64 a, .int .i64 n, .int .i64 i, .int .i64 p, .int .i64 k, .int .i64 t], .int .i64 x, .int .i64 d] w fun e w' => e = .returned (.bool false) ∧ Below w.heap.size w w') :
    Calls Try.prog 6 #[.agg #[.int .i64 a, .int .i64 n, .int .i64 i, .int .i64 p, .int .i64 k, .int .i64 t], .agg #[.int .i64 b, .int .i64 m, .int .i64 j, .int .i64 q, .int .i64 l, .int .i64 u], .agg #[.int .i64 a3, .int .i64 n3, .int .i64 i3, .int .i64 p3, .int .i64 k3, .int .i64 t3], .int .i64 x, .int .i64 d] w fun e w' => e = .returned (.bool true) ∧ Below w.heap.size w w' := by
  have hn0 := below_new w (.cells #[.int .i64 a, .int .i64 n, .int .i64 i, .int .i64 p, .int .i64 k, .int .i64 t] 27)
  have X0 := Lies.new w [a, n, i, p, k, t] 27 (B := w.heap.size) rfl
  have hB := hn0
  have hn1 := below_new (w.alloc (.cells #[.int .i64 a, .int .i64 n, .int .i64 i, .int .i64 p, .int .i64 k, .int .i64 t] 27)) (.cells #[.int .i64 b, .int .i64 m, .int .i64 j, .int .i64 q, .int .i64 l, .int .i64 u] 27)
  have X1 := Lies.new (w.alloc (.cells #[.int .i64 a, .int .i64 n, .int .i64 i, .int .i64 p, .int .i64 k, .int .i64 t] 27)) [b, m, j, q, l, u] 27 (B := w.heap.size + 1) (by simp)
  replace X0 := X0.later hn1
  replace hB := below_step hB hn1
  have hn2 := below_new ((w.alloc (.cells #[.int .i64 a, .int .i64 n, .int .i64 i, .int .i64 p, .int .i64 k, .int .i64 t] 27)).alloc (.cells #[.int .i64 b, .int .i64 m, .int .i64 j, .int .i64 q, .int .i64 l, .int .i64 u] 27)) (.cells #[.int .i64 a3, .int .i64 n3, .int .i64 i3, .int .i64 p3, .int .i64 k3, .int .i64 t3] 27)
  have X2 := Lies.new ((w.alloc (.cells #[.int .i64 a, .int .i64 n, .int .i64 i, .int .i64 p, .int .i64 k, .int .i64 t] 27)).alloc (.cells #[.int .i64 b, .int .i64 m, .int .i64 j, .int .i64 q, .int .i64 l, .int .i64 u] 27)) [a3, n3, i3, p3, k3, t3] 27 (B := w.heap.size + 1 + 1) (by simp)
  replace X0 := X0.later hn2
  replace X1 := X1.later hn2
  replace hB := below_step hB hn2
  clear hn0 hn1 hn2
  obtain ⟨x00, x01, x02, x03, x04, x05⟩ := X0.six
  obtain ⟨x10, x11, x12, x13, x14, x15⟩ := X1.six
  obtain ⟨x20, x21, x22, x23, x24, x25⟩ := X2.six
  go_enter Try.func6, Try.ntmps6
  go_wp2_with fail
  refine (awake_any _).mono ?_
  rintro e w1 ⟨rfl, hb1⟩
  clear x00 x01 x02 x03 x04 x05
  clear x10 x11 x12 x13 x14 x15
  clear x20 x21 x22 x23 x24 x25
  replace X0 := X0.later hb1
  replace X1 := X1.later hb1
  replace X2 := X2.later hb1
  replace hB := below_step hB hb1
  clear hb1
  obtain ⟨x00, x01, x02, x03, x04, x05⟩ := X0.six
  obtain ⟨x10, x11, x12, x13, x14, x15⟩ := X1.six
  obtain ⟨x20, x21, x22, x23, x24, x25⟩ := X2.six
  go_wp2_with fail
  refine (cA _).mono ?_
  rintro e w2 ⟨rfl, hb2⟩
  clear x00 x01 x02 x03 x04 x05
  clear x10 x11 x12 x13 x14 x15
  clear x20 x21 x22 x23 x24 x25
  replace X0 := X0.later hb2
  replace X1 := X1.later hb2
  replace X2 := X2.later hb2
  replace hB := below_step hB hb2
  clear hb2
  obtain ⟨x00, x01, x02, x03, x04, x05⟩ := X0.six
  obtain ⟨x10, x11, x12, x13, x14, x15⟩ := X1.six
  obtain ⟨x20, x21, x22, x23, x24, x25⟩ := X2.six
  go_wp2_with fail
  refine (cB _).mono ?_
  rintro e w3 ⟨rfl, hb3⟩
  clear x00 x01 x02 x03 x04 x05
  clear x10 x11 x12 x13 x14 x15
  clear x20 x21 x22 x23 x24 x25
  replace X0 := X0.later hb3
  replace X1 := X1.later hb3
  replace X2 := X2.later hb3
  replace hB := below_step hB hb3
  clear hb3
  obtain ⟨x00, x01, x02, x03, x04, x05⟩ := X0.six
  obtain ⟨x10, x11, x12, x13, x14, x15⟩ := X1.six
  obtain ⟨x20, x21, x22, x23, x24, x25⟩ := X2.six
  go_wp2_with fail
  refine (cC _).mono ?_
  rintro e w4 ⟨rfl, hb4⟩
  clear x00 x01 x02 x03 x04 x05
  clear x10 x11 x12 x13 x14 x15
  clear x20 x21 x22 x23 x24 x25
  replace X0 := X0.later hb4
  replace X1 := X1.later hb4
  replace X2 := X2.later hb4
  replace hB := below_step hB hb4
  clear hb4
  obtain ⟨x00, x01, x02, x03, x04, x05⟩ := X0.six
  obtain ⟨x10, x11, x12, x13, x14, x15⟩ := X1.six
  obtain ⟨x20, x21, x22, x23, x24, x25⟩ := X2.six
  go_wp2_with fail
  refine (cAB _).mono ?_
  rintro e w5 ⟨rfl, hb5⟩
  clear x00 x01 x02 x03 x04 x05
  clear x10 x11 x12 x13 x14 x15
  clear x20 x21 x22 x23 x24 x25
  replace X0 := X0.later hb5
  replace X1 := X1.later hb5
  replace X2 := X2.later hb5
  replace hB := below_step hB hb5
  clear hb5
  obtain ⟨x00, x01, x02, x03, x04, x05⟩ := X0.six
  obtain ⟨x10, x11, x12, x13, x14, x15⟩ := X1.six
  obtain ⟨x20, x21, x22, x23, x24, x25⟩ := X2.six
  go_wp2_with fail
  refine (cBA _).mono ?_
  rintro e w6 ⟨rfl, hb6⟩
  clear x00 x01 x02 x03 x04 x05
  clear x10 x11 x12 x13 x14 x15
  clear x20 x21 x22 x23 x24 x25
  replace X0 := X0.later hb6
  replace X1 := X1.later hb6
  replace X2 := X2.later hb6
  replace hB := below_step hB hb6
  clear hb6
  obtain ⟨x00, x01, x02, x03, x04, x05⟩ := X0.six
  obtain ⟨x10, x11, x12, x13, x14, x15⟩ := X1.six
  obtain ⟨x20, x21, x22, x23, x24, x25⟩ := X2.six
  go_wp2_with fail
  refine (cFA _).mono ?_
  rintro e w7 ⟨rfl, hb7⟩
  clear x00 x01 x02 x03 x04 x05
  clear x10 x11 x12 x13 x14 x15
  clear x20 x21 x22 x23 x24 x25
  replace X0 := X0.later hb7
  replace X1 := X1.later hb7
  replace X2 := X2.later hb7
  replace hB := below_step hB hb7
  clear hb7
  obtain ⟨x00, x01, x02, x03, x04, x05⟩ := X0.six
  obtain ⟨x10, x11, x12, x13, x14, x15⟩ := X1.six
  obtain ⟨x20, x21, x22, x23, x24, x25⟩ := X2.six
  go_wp2_with fail
  go_ret
  exact ⟨rfl, hB⟩
set_option maxHeartbeats 2000000 in
theorem one_fttff (a n i p k t b m j q l u a3 n3 i3 p3 k3 t3 x d : Int) (w : World)
    (cA : ∀ w, Calls Try.prog 16 #[.agg #[.int .i64 a, .int .i64 n, .int .i64 i, .int .i64 p, .int .i64 k, .int .i64 t]] w fun e w' => e = .returned (.bool true) ∧ Below w.heap.size w w')
    (cB : ∀ w, Calls Try.prog 16 #[.agg #[.int .i64 b, .int .i64 m, .int .i64 j, .int .i64 q, .int .i64 l, .int .i64 u]] w fun e w' => e = .returned (.bool true) ∧ Below w.heap.size w w')
    (cC : ∀ w, Calls Try.prog 16 #[.agg #[.int .i64 a3, .int .i64 n3, .int .i64 i3, .int .i64 p3, .int .i64 k3, .int .i64 t3]] w fun e w' => e = .returned (.bool true) ∧ Below w.heap.size w w')
    (cAB : ∀ w, Calls Try.prog 18 #[.agg #[.int .i64 a, .int .i64 n, .int .i64 i, .int .i64 p, .int .i64 k, .int .i64 t], .agg #[.int .i64 b, .int .i64 m, .int .i64 j, .int .i64 q, .int .i64 l, .int .i64 u]] w fun e w' => e = .returned (.bool false) ∧ Below w.heap.size w w')
    (cBA : ∀ w, Calls Try.prog 18 #[.agg #[.int .i64 b, .int .i64 m, .int .i64 j, .int .i64 q, .int .i64 l, .int .i64 u], .agg #[.int .i64 a, .int .i64 n, .int .i64 i, .int .i64 p, .int .i64 k, .int .i64 t]] w fun e w' => e = .returned (.bool true) ∧ Below w.heap.size w w')
    (cFA : ∀ w, Calls Try.prog 17 #[.agg #[.int .i64 a, .int .i64 n, .int .i64 i, .int .i64 p, .int .i64 k, .int .i64 t], .int .i64 x, .int .i64 d] w fun e w' => e = .returned (.bool true) ∧ Below w.heap.size w w')
    (cFB : ∀ w, Calls Try.prog 17 #[.agg #[.int .i64 b, .int .i64 m, .int .i64 j, .int .i64 q, .int .i64 l, .int .i64 u], .int .i64 x, .int .i64 d] w fun e w' => e = .returned (.bool false) ∧ Below w.heap.size w w') :
    Calls Try.prog 6 #[.agg #[.int .i64 a, .int .i64 n, .int .i64 i, .int .i64 p, .int .i64 k, .int .i64 t], .agg #[.int .i64 b, .int .i64 m, .int .i64 j, .int .i64 q, .int .i64 l, .int .i64 u], .agg #[.int .i64 a3, .int .i64 n3, .int .i64 i3, .int .i64 p3, .int .i64 k3, .int .i64 t3], .int .i64 x, .int .i64 d] w fun e w' => e = .returned (.bool true) ∧ Below w.heap.size w w' := by
  have hn0 := below_new w (.cells #[.int .i64 a, .int .i64 n, .int .i64 i, .int .i64 p, .int .i64 k, .int .i64 t] 27)
  have X0 := Lies.new w [a, n, i, p, k, t] 27 (B := w.heap.size) rfl
  have hB := hn0
  have hn1 := below_new (w.alloc (.cells #[.int .i64 a, .int .i64 n, .int .i64 i, .int .i64 p, .int .i64 k, .int .i64 t] 27)) (.cells #[.int .i64 b, .int .i64 m, .int .i64 j, .int .i64 q, .int .i64 l, .int .i64 u] 27)
  have X1 := Lies.new (w.alloc (.cells #[.int .i64 a, .int .i64 n, .int .i64 i, .int .i64 p, .int .i64 k, .int .i64 t] 27)) [b, m, j, q, l, u] 27 (B := w.heap.size + 1) (by simp)
  replace X0 := X0.later hn1
  replace hB := below_step hB hn1
  have hn2 := below_new ((w.alloc (.cells #[.int .i64 a, .int .i64 n, .int .i64 i, .int .i64 p, .int .i64 k, .int .i64 t] 27)).alloc (.cells #[.int .i64 b, .int .i64 m, .int .i64 j, .int .i64 q, .int .i64 l, .int .i64 u] 27)) (.cells #[.int .i64 a3, .int .i64 n3, .int .i64 i3, .int .i64 p3, .int .i64 k3, .int .i64 t3] 27)
  have X2 := Lies.new ((w.alloc (.cells #[.int .i64 a, .int .i64 n, .int .i64 i, .int .i64 p, .int .i64 k, .int .i64 t] 27)).alloc (.cells #[.int .i64 b, .int .i64 m, .int .i64 j, .int .i64 q, .int .i64 l, .int .i64 u] 27)) [a3, n3, i3, p3, k3, t3] 27 (B := w.heap.size + 1 + 1) (by simp)
  replace X0 := X0.later hn2
  replace X1 := X1.later hn2
  replace hB := below_step hB hn2
  clear hn0 hn1 hn2
  obtain ⟨x00, x01, x02, x03, x04, x05⟩ := X0.six
  obtain ⟨x10, x11, x12, x13, x14, x15⟩ := X1.six
  obtain ⟨x20, x21, x22, x23, x24, x25⟩ := X2.six
  go_enter Try.func6, Try.ntmps6
  go_wp2_with fail
  refine (awake_any _).mono ?_
  rintro e w1 ⟨rfl, hb1⟩
  clear x00 x01 x02 x03 x04 x05
  clear x10 x11 x12 x13 x14 x15
  clear x20 x21 x22 x23 x24 x25
  replace X0 := X0.later hb1
  replace X1 := X1.later hb1
  replace X2 := X2.later hb1
  replace hB := below_step hB hb1
  clear hb1
  obtain ⟨x00, x01, x02, x03, x04, x05⟩ := X0.six
  obtain ⟨x10, x11, x12, x13, x14, x15⟩ := X1.six
  obtain ⟨x20, x21, x22, x23, x24, x25⟩ := X2.six
  go_wp2_with fail
  refine (cA _).mono ?_
  rintro e w2 ⟨rfl, hb2⟩
  clear x00 x01 x02 x03 x04 x05
  clear x10 x11 x12 x13 x14 x15
  clear x20 x21 x22 x23 x24 x25
  replace X0 := X0.later hb2
  replace X1 := X1.later hb2
  replace X2 := X2.later hb2
  replace hB := below_step hB hb2
  clear hb2
  obtain ⟨x00, x01, x02, x03, x04, x05⟩ := X0.six
  obtain ⟨x10, x11, x12, x13, x14, x15⟩ := X1.six
  obtain ⟨x20, x21, x22, x23, x24, x25⟩ := X2.six
  go_wp2_with fail
  refine (cB _).mono ?_
  rintro e w3 ⟨rfl, hb3⟩
  clear x00 x01 x02 x03 x04 x05
  clear x10 x11 x12 x13 x14 x15
  clear x20 x21 x22 x23 x24 x25
  replace X0 := X0.later hb3
  replace X1 := X1.later hb3
  replace X2 := X2.later hb3
  replace hB := below_step hB hb3
  clear hb3
  obtain ⟨x00, x01, x02, x03, x04, x05⟩ := X0.six
  obtain ⟨x10, x11, x12, x13, x14, x15⟩ := X1.six
  obtain ⟨x20, x21, x22, x23, x24, x25⟩ := X2.six
  go_wp2_with fail
  refine (cC _).mono ?_
  rintro e w4 ⟨rfl, hb4⟩
  clear x00 x01 x02 x03 x04 x05
  clear x10 x11 x12 x13 x14 x15
  clear x20 x21 x22 x23 x24 x25
  replace X0 := X0.later hb4
  replace X1 := X1.later hb4
  replace X2 := X2.later hb4
  replace hB := below_step hB hb4
  clear hb4
  obtain ⟨x00, x01, x02, x03, x04, x05⟩ := X0.six
  obtain ⟨x10, x11, x12, x13, x14, x15⟩ := X1.six
  obtain ⟨x20, x21, x22, x23, x24, x25⟩ := X2.six
  go_wp2_with fail
  refine (cAB _).mono ?_
  rintro e w5 ⟨rfl, hb5⟩
  clear x00 x01 x02 x03 x04 x05
  clear x10 x11 x12 x13 x14 x15
  clear x20 x21 x22 x23 x24 x25
  replace X0 := X0.later hb5
  replace X1 := X1.later hb5
  replace X2 := X2.later hb5
  replace hB := below_step hB hb5
  clear hb5
  obtain ⟨x00, x01, x02, x03, x04, x05⟩ := X0.six
  obtain ⟨x10, x11, x12, x13, x14, x15⟩ := X1.six
  obtain ⟨x20, x21, x22, x23, x24, x25⟩ := X2.six
  go_wp2_with fail
  refine (cBA _).mono ?_
  rintro e w6 ⟨rfl, hb6⟩
  clear x00 x01 x02 x03 x04 x05
  clear x10 x11 x12 x13 x14 x15
  clear x20 x21 x22 x23 x24 x25
  replace X0 := X0.later hb6
  replace X1 := X1.later hb6
  replace X2 := X2.later hb6
  replace hB := below_step hB hb6
  clear hb6
  obtain ⟨x00, x01, x02, x03, x04, x05⟩ := X0.six
  obtain ⟨x10, x11, x12, x13, x14, x15⟩ := X1.six
  obtain ⟨x20, x21, x22, x23, x24, x25⟩ := X2.six
  go_wp2_with fail
  refine (cFA _).mono ?_
  rintro e w7 ⟨rfl, hb7⟩
  clear x00 x01 x02 x03 x04 x05
  clear x10 x11 x12 x13 x14 x15
  clear x20 x21 x22 x23 x24 x25
  replace X0 := X0.later hb7
  replace X1 := X1.later hb7
  replace X2 := X2.later hb7
  replace hB := below_step hB hb7
  clear hb7
  obtain ⟨x00, x01, x02, x03, x04, x05⟩ := X0.six
  obtain ⟨x10, x11, x12, x13, x14, x15⟩ := X1.six
  obtain ⟨x20, x21, x22, x23, x24, x25⟩ := X2.six
  go_wp2_with fail
  refine (cFB _).mono ?_
  rintro e w8 ⟨rfl, hb8⟩
  clear x00 x01 x02 x03 x04 x05
  clear x10 x11 x12 x13 x14 x15
  clear x20 x21 x22 x23 x24 x25
  replace X0 := X0.later hb8
  replace X1 := X1.later hb8
  replace X2 := X2.later hb8
  replace hB := below_step hB hb8
  clear hb8
  obtain ⟨x00, x01, x02, x03, x04, x05⟩ := X0.six
  obtain ⟨x10, x11, x12, x13, x14, x15⟩ := X1.six
  obtain ⟨x20, x21, x22, x23, x24, x25⟩ := X2.six
  go_wp2_with fail
  go_ret
  exact ⟨rfl, hB⟩
set_option maxHeartbeats 2000000 in
theorem one_ftttf (a n i p k t b m j q l u a3 n3 i3 p3 k3 t3 x d : Int) (w : World)
    (cA : ∀ w, Calls Try.prog 16 #[.agg #[.int .i64 a, .int .i64 n, .int .i64 i, .int .i64 p, .int .i64 k, .int .i64 t]] w fun e w' => e = .returned (.bool true) ∧ Below w.heap.size w w')
    (cB : ∀ w, Calls Try.prog 16 #[.agg #[.int .i64 b, .int .i64 m, .int .i64 j, .int .i64 q, .int .i64 l, .int .i64 u]] w fun e w' => e = .returned (.bool true) ∧ Below w.heap.size w w')
    (cC : ∀ w, Calls Try.prog 16 #[.agg #[.int .i64 a3, .int .i64 n3, .int .i64 i3, .int .i64 p3, .int .i64 k3, .int .i64 t3]] w fun e w' => e = .returned (.bool true) ∧ Below w.heap.size w w')
    (cAB : ∀ w, Calls Try.prog 18 #[.agg #[.int .i64 a, .int .i64 n, .int .i64 i, .int .i64 p, .int .i64 k, .int .i64 t], .agg #[.int .i64 b, .int .i64 m, .int .i64 j, .int .i64 q, .int .i64 l, .int .i64 u]] w fun e w' => e = .returned (.bool false) ∧ Below w.heap.size w w')
    (cBA : ∀ w, Calls Try.prog 18 #[.agg #[.int .i64 b, .int .i64 m, .int .i64 j, .int .i64 q, .int .i64 l, .int .i64 u], .agg #[.int .i64 a, .int .i64 n, .int .i64 i, .int .i64 p, .int .i64 k, .int .i64 t]] w fun e w' => e = .returned (.bool true) ∧ Below w.heap.size w w')
    (cFA : ∀ w, Calls Try.prog 17 #[.agg #[.int .i64 a, .int .i64 n, .int .i64 i, .int .i64 p, .int .i64 k, .int .i64 t], .int .i64 x, .int .i64 d] w fun e w' => e = .returned (.bool true) ∧ Below w.heap.size w w')
    (cFB : ∀ w, Calls Try.prog 17 #[.agg #[.int .i64 b, .int .i64 m, .int .i64 j, .int .i64 q, .int .i64 l, .int .i64 u], .int .i64 x, .int .i64 d] w fun e w' => e = .returned (.bool true) ∧ Below w.heap.size w w')
    (cL : ∀ w, Calls Try.prog 19 #[.agg #[.int .i64 a, .int .i64 n, .int .i64 i, .int .i64 p, .int .i64 k, .int .i64 t], .agg #[.int .i64 b, .int .i64 m, .int .i64 j, .int .i64 q, .int .i64 l, .int .i64 u]] w fun e w' => e = .returned (.bool false) ∧ Below w.heap.size w w') :
    Calls Try.prog 6 #[.agg #[.int .i64 a, .int .i64 n, .int .i64 i, .int .i64 p, .int .i64 k, .int .i64 t], .agg #[.int .i64 b, .int .i64 m, .int .i64 j, .int .i64 q, .int .i64 l, .int .i64 u], .agg #[.int .i64 a3, .int .i64 n3, .int .i64 i3, .int .i64 p3, .int .i64 k3, .int .i64 t3], .int .i64 x, .int .i64 d] w fun e w' => e = .returned (.bool true) ∧ Below w.heap.size w w' := by
  have hn0 := below_new w (.cells #[.int .i64 a, .int .i64 n, .int .i64 i, .int .i64 p, .int .i64 k, .int .i64 t] 27)
  have X0 := Lies.new w [a, n, i, p, k, t] 27 (B := w.heap.size) rfl
  have hB := hn0
  have hn1 := below_new (w.alloc (.cells #[.int .i64 a, .int .i64 n, .int .i64 i, .int .i64 p, .int .i64 k, .int .i64 t] 27)) (.cells #[.int .i64 b, .int .i64 m, .int .i64 j, .int .i64 q, .int .i64 l, .int .i64 u] 27)
  have X1 := Lies.new (w.alloc (.cells #[.int .i64 a, .int .i64 n, .int .i64 i, .int .i64 p, .int .i64 k, .int .i64 t] 27)) [b, m, j, q, l, u] 27 (B := w.heap.size + 1) (by simp)
  replace X0 := X0.later hn1
  replace hB := below_step hB hn1
  have hn2 := below_new ((w.alloc (.cells #[.int .i64 a, .int .i64 n, .int .i64 i, .int .i64 p, .int .i64 k, .int .i64 t] 27)).alloc (.cells #[.int .i64 b, .int .i64 m, .int .i64 j, .int .i64 q, .int .i64 l, .int .i64 u] 27)) (.cells #[.int .i64 a3, .int .i64 n3, .int .i64 i3, .int .i64 p3, .int .i64 k3, .int .i64 t3] 27)
  have X2 := Lies.new ((w.alloc (.cells #[.int .i64 a, .int .i64 n, .int .i64 i, .int .i64 p, .int .i64 k, .int .i64 t] 27)).alloc (.cells #[.int .i64 b, .int .i64 m, .int .i64 j, .int .i64 q, .int .i64 l, .int .i64 u] 27)) [a3, n3, i3, p3, k3, t3] 27 (B := w.heap.size + 1 + 1) (by simp)
  replace X0 := X0.later hn2
  replace X1 := X1.later hn2
  replace hB := below_step hB hn2
  clear hn0 hn1 hn2
  obtain ⟨x00, x01, x02, x03, x04, x05⟩ := X0.six
  obtain ⟨x10, x11, x12, x13, x14, x15⟩ := X1.six
  obtain ⟨x20, x21, x22, x23, x24, x25⟩ := X2.six
  go_enter Try.func6, Try.ntmps6
  go_wp2_with fail
  refine (awake_any _).mono ?_
  rintro e w1 ⟨rfl, hb1⟩
  clear x00 x01 x02 x03 x04 x05
  clear x10 x11 x12 x13 x14 x15
  clear x20 x21 x22 x23 x24 x25
  replace X0 := X0.later hb1
  replace X1 := X1.later hb1
  replace X2 := X2.later hb1
  replace hB := below_step hB hb1
  clear hb1
  obtain ⟨x00, x01, x02, x03, x04, x05⟩ := X0.six
  obtain ⟨x10, x11, x12, x13, x14, x15⟩ := X1.six
  obtain ⟨x20, x21, x22, x23, x24, x25⟩ := X2.six
  go_wp2_with fail
  refine (cA _).mono ?_
  rintro e w2 ⟨rfl, hb2⟩
  clear x00 x01 x02 x03 x04 x05
  clear x10 x11 x12 x13 x14 x15
  clear x20 x21 x22 x23 x24 x25
  replace X0 := X0.later hb2
  replace X1 := X1.later hb2
  replace X2 := X2.later hb2
  replace hB := below_step hB hb2
  clear hb2
  obtain ⟨x00, x01, x02, x03, x04, x05⟩ := X0.six
  obtain ⟨x10, x11, x12, x13, x14, x15⟩ := X1.six
  obtain ⟨x20, x21, x22, x23, x24, x25⟩ := X2.six
  go_wp2_with fail
  refine (cB _).mono ?_
  rintro e w3 ⟨rfl, hb3⟩
  clear x00 x01 x02 x03 x04 x05
  clear x10 x11 x12 x13 x14 x15
  clear x20 x21 x22 x23 x24 x25
  replace X0 := X0.later hb3
  replace X1 := X1.later hb3
  replace X2 := X2.later hb3
  replace hB := below_step hB hb3
  clear hb3
  obtain ⟨x00, x01, x02, x03, x04, x05⟩ := X0.six
  obtain ⟨x10, x11, x12, x13, x14, x15⟩ := X1.six
  obtain ⟨x20, x21, x22, x23, x24, x25⟩ := X2.six
  go_wp2_with fail
  refine (cC _).mono ?_
  rintro e w4 ⟨rfl, hb4⟩
  clear x00 x01 x02 x03 x04 x05
  clear x10 x11 x12 x13 x14 x15
  clear x20 x21 x22 x23 x24 x25
  replace X0 := X0.later hb4
  replace X1 := X1.later hb4
  replace X2 := X2.later hb4
  replace hB := below_step hB hb4
  clear hb4
  obtain ⟨x00, x01, x02, x03, x04, x05⟩ := X0.six
  obtain ⟨x10, x11, x12, x13, x14, x15⟩ := X1.six
  obtain ⟨x20, x21, x22, x23, x24, x25⟩ := X2.six
  go_wp2_with fail
  refine (cAB _).mono ?_
  rintro e w5 ⟨rfl, hb5⟩
  clear x00 x01 x02 x03 x04 x05
  clear x10 x11 x12 x13 x14 x15
  clear x20 x21 x22 x23 x24 x25
  replace X0 := X0.later hb5
  replace X1 := X1.later hb5
  replace X2 := X2.later hb5
  replace hB := below_step hB hb5
  clear hb5
  obtain ⟨x00, x01, x02, x03, x04, x05⟩ := X0.six
  obtain ⟨x10, x11, x12, x13, x14, x15⟩ := X1.six
  obtain ⟨x20, x21, x22, x23, x24, x25⟩ := X2.six
  go_wp2_with fail
  refine (cBA _).mono ?_
  rintro e w6 ⟨rfl, hb6⟩
  clear x00 x01 x02 x03 x04 x05
  clear x10 x11 x12 x13 x14 x15
  clear x20 x21 x22 x23 x24 x25
  replace X0 := X0.later hb6
  replace X1 := X1.later hb6
  replace X2 := X2.later hb6
  replace hB := below_step hB hb6
  clear hb6
  obtain ⟨x00, x01, x02, x03, x04, x05⟩ := X0.six
  obtain ⟨x10, x11, x12, x13, x14, x15⟩ := X1.six
  obtain ⟨x20, x21, x22, x23, x24, x25⟩ := X2.six
  go_wp2_with fail
  refine (cFA _).mono ?_
  rintro e w7 ⟨rfl, hb7⟩
  clear x00 x01 x02 x03 x04 x05
  clear x10 x11 x12 x13 x14 x15
  clear x20 x21 x22 x23 x24 x25
  replace X0 := X0.later hb7
  replace X1 := X1.later hb7
  replace X2 := X2.later hb7
  replace hB := below_step hB hb7
  clear hb7
  obtain ⟨x00, x01, x02, x03, x04, x05⟩ := X0.six
  obtain ⟨x10, x11, x12, x13, x14, x15⟩ := X1.six
  obtain ⟨x20, x21, x22, x23, x24, x25⟩ := X2.six
  go_wp2_with fail
  refine (cFB _).mono ?_
  rintro e w8 ⟨rfl, hb8⟩
  clear x00 x01 x02 x03 x04 x05
  clear x10 x11 x12 x13 x14 x15
  clear x20 x21 x22 x23 x24 x25
  replace X0 := X0.later hb8
  replace X1 := X1.later hb8
  replace X2 := X2.later hb8
  replace hB := below_step hB hb8
  clear hb8
  obtain ⟨x00, x01, x02, x03, x04, x05⟩ := X0.six
  obtain ⟨x10, x11, x12, x13, x14, x15⟩ := X1.six
  obtain ⟨x20, x21, x22, x23, x24, x25⟩ := X2.six
  go_wp2_with fail
  refine (cL _).mono ?_
  rintro e w9 ⟨rfl, hb9⟩
  clear x00 x01 x02 x03 x04 x05
  clear x10 x11 x12 x13 x14 x15
  clear x20 x21 x22 x23 x24 x25
  replace X0 := X0.later hb9
  replace X1 := X1.later hb9
  replace X2 := X2.later hb9
  replace hB := below_step hB hb9
  clear hb9
  obtain ⟨x00, x01, x02, x03, x04, x05⟩ := X0.six
  obtain ⟨x10, x11, x12, x13, x14, x15⟩ := X1.six
  obtain ⟨x20, x21, x22, x23, x24, x25⟩ := X2.six
  go_wp2_with fail
  go_ret
  exact ⟨rfl, hB⟩
set_option maxHeartbeats 2000000 in
theorem one_fffff (a n i p k t b m j q l u a3 n3 i3 p3 k3 t3 x d : Int) (w : World)
    (cA : ∀ w, Calls Try.prog 16 #[.agg #[.int .i64 a, .int .i64 n, .int .i64 i, .int .i64 p, .int .i64 k, .int .i64 t]] w fun e w' => e = .returned (.bool true) ∧ Below w.heap.size w w')
    (cB : ∀ w, Calls Try.prog 16 #[.agg #[.int .i64 b, .int .i64 m, .int .i64 j, .int .i64 q, .int .i64 l, .int .i64 u]] w fun e w' => e = .returned (.bool true) ∧ Below w.heap.size w w')
    (cC : ∀ w, Calls Try.prog 16 #[.agg #[.int .i64 a3, .int .i64 n3, .int .i64 i3, .int .i64 p3, .int .i64 k3, .int .i64 t3]] w fun e w' => e = .returned (.bool true) ∧ Below w.heap.size w w')
    (cAB : ∀ w, Calls Try.prog 18 #[.agg #[.int .i64 a, .int .i64 n, .int .i64 i, .int .i64 p, .int .i64 k, .int .i64 t], .agg #[.int .i64 b, .int .i64 m, .int .i64 j, .int .i64 q, .int .i64 l, .int .i64 u]] w fun e w' => e = .returned (.bool false) ∧ Below w.heap.size w w')
    (cBA : ∀ w, Calls Try.prog 18 #[.agg #[.int .i64 b, .int .i64 m, .int .i64 j, .int .i64 q, .int .i64 l, .int .i64 u], .agg #[.int .i64 a, .int .i64 n, .int .i64 i, .int .i64 p, .int .i64 k, .int .i64 t]] w fun e w' => e = .returned (.bool false) ∧ Below w.heap.size w w')
    (cFA : ∀ w, Calls Try.prog 17 #[.agg #[.int .i64 a, .int .i64 n, .int .i64 i, .int .i64 p, .int .i64 k, .int .i64 t], .int .i64 x, .int .i64 d] w fun e w' => e = .returned (.bool false) ∧ Below w.heap.size w w') :
    Calls Try.prog 6 #[.agg #[.int .i64 a, .int .i64 n, .int .i64 i, .int .i64 p, .int .i64 k, .int .i64 t], .agg #[.int .i64 b, .int .i64 m, .int .i64 j, .int .i64 q, .int .i64 l, .int .i64 u], .agg #[.int .i64 a3, .int .i64 n3, .int .i64 i3, .int .i64 p3, .int .i64 k3, .int .i64 t3], .int .i64 x, .int .i64 d] w fun e w' => e = .returned (.bool true) ∧ Below w.heap.size w w' := by
  have hn0 := below_new w (.cells #[.int .i64 a, .int .i64 n, .int .i64 i, .int .i64 p, .int .i64 k, .int .i64 t] 27)
  have X0 := Lies.new w [a, n, i, p, k, t] 27 (B := w.heap.size) rfl
  have hB := hn0
  have hn1 := below_new (w.alloc (.cells #[.int .i64 a, .int .i64 n, .int .i64 i, .int .i64 p, .int .i64 k, .int .i64 t] 27)) (.cells #[.int .i64 b, .int .i64 m, .int .i64 j, .int .i64 q, .int .i64 l, .int .i64 u] 27)
  have X1 := Lies.new (w.alloc (.cells #[.int .i64 a, .int .i64 n, .int .i64 i, .int .i64 p, .int .i64 k, .int .i64 t] 27)) [b, m, j, q, l, u] 27 (B := w.heap.size + 1) (by simp)
  replace X0 := X0.later hn1
  replace hB := below_step hB hn1
  have hn2 := below_new ((w.alloc (.cells #[.int .i64 a, .int .i64 n, .int .i64 i, .int .i64 p, .int .i64 k, .int .i64 t] 27)).alloc (.cells #[.int .i64 b, .int .i64 m, .int .i64 j, .int .i64 q, .int .i64 l, .int .i64 u] 27)) (.cells #[.int .i64 a3, .int .i64 n3, .int .i64 i3, .int .i64 p3, .int .i64 k3, .int .i64 t3] 27)
  have X2 := Lies.new ((w.alloc (.cells #[.int .i64 a, .int .i64 n, .int .i64 i, .int .i64 p, .int .i64 k, .int .i64 t] 27)).alloc (.cells #[.int .i64 b, .int .i64 m, .int .i64 j, .int .i64 q, .int .i64 l, .int .i64 u] 27)) [a3, n3, i3, p3, k3, t3] 27 (B := w.heap.size + 1 + 1) (by simp)
  replace X0 := X0.later hn2
  replace X1 := X1.later hn2
  replace hB := below_step hB hn2
  clear hn0 hn1 hn2
  obtain ⟨x00, x01, x02, x03, x04, x05⟩ := X0.six
  obtain ⟨x10, x11, x12, x13, x14, x15⟩ := X1.six
  obtain ⟨x20, x21, x22, x23, x24, x25⟩ := X2.six
  go_enter Try.func6, Try.ntmps6
  go_wp2_with fail
  refine (awake_any _).mono ?_
  rintro e w1 ⟨rfl, hb1⟩
  clear x00 x01 x02 x03 x04 x05
  clear x10 x11 x12 x13 x14 x15
  clear x20 x21 x22 x23 x24 x25
  replace X0 := X0.later hb1
  replace X1 := X1.later hb1
  replace X2 := X2.later hb1
  replace hB := below_step hB hb1
  clear hb1
  obtain ⟨x00, x01, x02, x03, x04, x05⟩ := X0.six
  obtain ⟨x10, x11, x12, x13, x14, x15⟩ := X1.six
  obtain ⟨x20, x21, x22, x23, x24, x25⟩ := X2.six
  go_wp2_with fail
  refine (cA _).mono ?_
  rintro e w2 ⟨rfl, hb2⟩
  clear x00 x01 x02 x03 x04 x05
  clear x10 x11 x12 x13 x14 x15
  clear x20 x21 x22 x23 x24 x25
  replace X0 := X0.later hb2
  replace X1 := X1.later hb2
  replace X2 := X2.later hb2
  replace hB := below_step hB hb2
  clear hb2
  obtain ⟨x00, x01, x02, x03, x04, x05⟩ := X0.six
  obtain ⟨x10, x11, x12, x13, x14, x15⟩ := X1.six
  obtain ⟨x20, x21, x22, x23, x24, x25⟩ := X2.six
  go_wp2_with fail
  refine (cB _).mono ?_
  rintro e w3 ⟨rfl, hb3⟩
  clear x00 x01 x02 x03 x04 x05
  clear x10 x11 x12 x13 x14 x15
  clear x20 x21 x22 x23 x24 x25
  replace X0 := X0.later hb3
  replace X1 := X1.later hb3
  replace X2 := X2.later hb3
  replace hB := below_step hB hb3
  clear hb3
  obtain ⟨x00, x01, x02, x03, x04, x05⟩ := X0.six
  obtain ⟨x10, x11, x12, x13, x14, x15⟩ := X1.six
  obtain ⟨x20, x21, x22, x23, x24, x25⟩ := X2.six
  go_wp2_with fail
  refine (cC _).mono ?_
  rintro e w4 ⟨rfl, hb4⟩
  clear x00 x01 x02 x03 x04 x05
  clear x10 x11 x12 x13 x14 x15
  clear x20 x21 x22 x23 x24 x25
  replace X0 := X0.later hb4
  replace X1 := X1.later hb4
  replace X2 := X2.later hb4
  replace hB := below_step hB hb4
  clear hb4
  obtain ⟨x00, x01, x02, x03, x04, x05⟩ := X0.six
  obtain ⟨x10, x11, x12, x13, x14, x15⟩ := X1.six
  obtain ⟨x20, x21, x22, x23, x24, x25⟩ := X2.six
  go_wp2_with fail
  refine (cAB _).mono ?_
  rintro e w5 ⟨rfl, hb5⟩
  clear x00 x01 x02 x03 x04 x05
  clear x10 x11 x12 x13 x14 x15
  clear x20 x21 x22 x23 x24 x25
  replace X0 := X0.later hb5
  replace X1 := X1.later hb5
  replace X2 := X2.later hb5
  replace hB := below_step hB hb5
  clear hb5
  obtain ⟨x00, x01, x02, x03, x04, x05⟩ := X0.six
  obtain ⟨x10, x11, x12, x13, x14, x15⟩ := X1.six
  obtain ⟨x20, x21, x22, x23, x24, x25⟩ := X2.six
  go_wp2_with fail
  refine (cBA _).mono ?_
  rintro e w6 ⟨rfl, hb6⟩
  clear x00 x01 x02 x03 x04 x05
  clear x10 x11 x12 x13 x14 x15
  clear x20 x21 x22 x23 x24 x25
  replace X0 := X0.later hb6
  replace X1 := X1.later hb6
  replace X2 := X2.later hb6
  replace hB := below_step hB hb6
  clear hb6
  obtain ⟨x00, x01, x02, x03, x04, x05⟩ := X0.six
  obtain ⟨x10, x11, x12, x13, x14, x15⟩ := X1.six
  obtain ⟨x20, x21, x22, x23, x24, x25⟩ := X2.six
  go_wp2_with fail
  refine (cFA _).mono ?_
  rintro e w7 ⟨rfl, hb7⟩
  clear x00 x01 x02 x03 x04 x05
  clear x10 x11 x12 x13 x14 x15
  clear x20 x21 x22 x23 x24 x25
  replace X0 := X0.later hb7
  replace X1 := X1.later hb7
  replace X2 := X2.later hb7
  replace hB := below_step hB hb7
  clear hb7
  obtain ⟨x00, x01, x02, x03, x04, x05⟩ := X0.six
  obtain ⟨x10, x11, x12, x13, x14, x15⟩ := X1.six
  obtain ⟨x20, x21, x22, x23, x24, x25⟩ := X2.six
  go_wp2_with fail
  go_ret
  exact ⟨rfl, hB⟩
set_option maxHeartbeats 2000000 in
theorem one_fftff (a n i p k t b m j q l u a3 n3 i3 p3 k3 t3 x d : Int) (w : World)
    (cA : ∀ w, Calls Try.prog 16 #[.agg #[.int .i64 a, .int .i64 n, .int .i64 i, .int .i64 p, .int .i64 k, .int .i64 t]] w fun e w' => e = .returned (.bool true) ∧ Below w.heap.size w w')
    (cB : ∀ w, Calls Try.prog 16 #[.agg #[.int .i64 b, .int .i64 m, .int .i64 j, .int .i64 q, .int .i64 l, .int .i64 u]] w fun e w' => e = .returned (.bool true) ∧ Below w.heap.size w w')
    (cC : ∀ w, Calls Try.prog 16 #[.agg #[.int .i64 a3, .int .i64 n3, .int .i64 i3, .int .i64 p3, .int .i64 k3, .int .i64 t3]] w fun e w' => e = .returned (.bool true) ∧ Below w.heap.size w w')
    (cAB : ∀ w, Calls Try.prog 18 #[.agg #[.int .i64 a, .int .i64 n, .int .i64 i, .int .i64 p, .int .i64 k, .int .i64 t], .agg #[.int .i64 b, .int .i64 m, .int .i64 j, .int .i64 q, .int .i64 l, .int .i64 u]] w fun e w' => e = .returned (.bool false) ∧ Below w.heap.size w w')
    (cBA : ∀ w, Calls Try.prog 18 #[.agg #[.int .i64 b, .int .i64 m, .int .i64 j, .int .i64 q, .int .i64 l, .int .i64 u], .agg #[.int .i64 a, .int .i64 n, .int .i64 i, .int .i64 p, .int .i64 k, .int .i64 t]] w fun e w' => e = .returned (.bool false) ∧ Below w.heap.size w w')
    (cFA : ∀ w, Calls Try.prog 17 #[.agg #[.int .i64 a, .int .i64 n, .int .i64 i, .int .i64 p, .int .i64 k, .int .i64 t], .int .i64 x, .int .i64 d] w fun e w' => e = .returned (.bool true) ∧ Below w.heap.size w w')
    (cFB : ∀ w, Calls Try.prog 17 #[.agg #[.int .i64 b, .int .i64 m, .int .i64 j, .int .i64 q, .int .i64 l, .int .i64 u], .int .i64 x, .int .i64 d] w fun e w' => e = .returned (.bool false) ∧ Below w.heap.size w w') :
    Calls Try.prog 6 #[.agg #[.int .i64 a, .int .i64 n, .int .i64 i, .int .i64 p, .int .i64 k, .int .i64 t], .agg #[.int .i64 b, .int .i64 m, .int .i64 j, .int .i64 q, .int .i64 l, .int .i64 u], .agg #[.int .i64 a3, .int .i64 n3, .int .i64 i3, .int .i64 p3, .int .i64 k3, .int .i64 t3], .int .i64 x, .int .i64 d] w fun e w' => e = .returned (.bool true) ∧ Below w.heap.size w w' := by
  have hn0 := below_new w (.cells #[.int .i64 a, .int .i64 n, .int .i64 i, .int .i64 p, .int .i64 k, .int .i64 t] 27)
  have X0 := Lies.new w [a, n, i, p, k, t] 27 (B := w.heap.size) rfl
  have hB := hn0
  have hn1 := below_new (w.alloc (.cells #[.int .i64 a, .int .i64 n, .int .i64 i, .int .i64 p, .int .i64 k, .int .i64 t] 27)) (.cells #[.int .i64 b, .int .i64 m, .int .i64 j, .int .i64 q, .int .i64 l, .int .i64 u] 27)
  have X1 := Lies.new (w.alloc (.cells #[.int .i64 a, .int .i64 n, .int .i64 i, .int .i64 p, .int .i64 k, .int .i64 t] 27)) [b, m, j, q, l, u] 27 (B := w.heap.size + 1) (by simp)
  replace X0 := X0.later hn1
  replace hB := below_step hB hn1
  have hn2 := below_new ((w.alloc (.cells #[.int .i64 a, .int .i64 n, .int .i64 i, .int .i64 p, .int .i64 k, .int .i64 t] 27)).alloc (.cells #[.int .i64 b, .int .i64 m, .int .i64 j, .int .i64 q, .int .i64 l, .int .i64 u] 27)) (.cells #[.int .i64 a3, .int .i64 n3, .int .i64 i3, .int .i64 p3, .int .i64 k3, .int .i64 t3] 27)
  have X2 := Lies.new ((w.alloc (.cells #[.int .i64 a, .int .i64 n, .int .i64 i, .int .i64 p, .int .i64 k, .int .i64 t] 27)).alloc (.cells #[.int .i64 b, .int .i64 m, .int .i64 j, .int .i64 q, .int .i64 l, .int .i64 u] 27)) [a3, n3, i3, p3, k3, t3] 27 (B := w.heap.size + 1 + 1) (by simp)
  replace X0 := X0.later hn2
  replace X1 := X1.later hn2
  replace hB := below_step hB hn2
  clear hn0 hn1 hn2
  obtain ⟨x00, x01, x02, x03, x04, x05⟩ := X0.six
  obtain ⟨x10, x11, x12, x13, x14, x15⟩ := X1.six
  obtain ⟨x20, x21, x22, x23, x24, x25⟩ := X2.six
  go_enter Try.func6, Try.ntmps6
  go_wp2_with fail
  refine (awake_any _).mono ?_
  rintro e w1 ⟨rfl, hb1⟩
  clear x00 x01 x02 x03 x04 x05
  clear x10 x11 x12 x13 x14 x15
  clear x20 x21 x22 x23 x24 x25
  replace X0 := X0.later hb1
  replace X1 := X1.later hb1
  replace X2 := X2.later hb1
  replace hB := below_step hB hb1
  clear hb1
  obtain ⟨x00, x01, x02, x03, x04, x05⟩ := X0.six
  obtain ⟨x10, x11, x12, x13, x14, x15⟩ := X1.six
  obtain ⟨x20, x21, x22, x23, x24, x25⟩ := X2.six
  go_wp2_with fail
  refine (cA _).mono ?_
  rintro e w2 ⟨rfl, hb2⟩
  clear x00 x01 x02 x03 x04 x05
  clear x10 x11 x12 x13 x14 x15
  clear x20 x21 x22 x23 x24 x25
  replace X0 := X0.later hb2
  replace X1 := X1.later hb2
  replace X2 := X2.later hb2
  replace hB := below_step hB hb2
  clear hb2
  obtain ⟨x00, x01, x02, x03, x04, x05⟩ := X0.six
  obtain ⟨x10, x11, x12, x13, x14, x15⟩ := X1.six
  obtain ⟨x20, x21, x22, x23, x24, x25⟩ := X2.six
  go_wp2_with fail
  refine (cB _).mono ?_
  rintro e w3 ⟨rfl, hb3⟩
  clear x00 x01 x02 x03 x04 x05
  clear x10 x11 x12 x13 x14 x15
  clear x20 x21 x22 x23 x24 x25
  replace X0 := X0.later hb3
  replace X1 := X1.later hb3
  replace X2 := X2.later hb3
  replace hB := below_step hB hb3
  clear hb3
  obtain ⟨x00, x01, x02, x03, x04, x05⟩ := X0.six
  obtain ⟨x10, x11, x12, x13, x14, x15⟩ := X1.six
  obtain ⟨x20, x21, x22, x23, x24, x25⟩ := X2.six
  go_wp2_with fail
  refine (cC _).mono ?_
  rintro e w4 ⟨rfl, hb4⟩
  clear x00 x01 x02 x03 x04 x05
  clear x10 x11 x12 x13 x14 x15
  clear x20 x21 x22 x23 x24 x25
  replace X0 := X0.later hb4
  replace X1 := X1.later hb4
  replace X2 := X2.later hb4
  replace hB := below_step hB hb4
  clear hb4
  obtain ⟨x00, x01, x02, x03, x04, x05⟩ := X0.six
  obtain ⟨x10, x11, x12, x13, x14, x15⟩ := X1.six
  obtain ⟨x20, x21, x22, x23, x24, x25⟩ := X2.six
  go_wp2_with fail
  refine (cAB _).mono ?_
  rintro e w5 ⟨rfl, hb5⟩
  clear x00 x01 x02 x03 x04 x05
  clear x10 x11 x12 x13 x14 x15
  clear x20 x21 x22 x23 x24 x25
  replace X0 := X0.later hb5
  replace X1 := X1.later hb5
  replace X2 := X2.later hb5
  replace hB := below_step hB hb5
  clear hb5
  obtain ⟨x00, x01, x02, x03, x04, x05⟩ := X0.six
  obtain ⟨x10, x11, x12, x13, x14, x15⟩ := X1.six
  obtain ⟨x20, x21, x22, x23, x24, x25⟩ := X2.six
  go_wp2_with fail
  refine (cBA _).mono ?_
  rintro e w6 ⟨rfl, hb6⟩
  clear x00 x01 x02 x03 x04 x05
  clear x10 x11 x12 x13 x14 x15
  clear x20 x21 x22 x23 x24 x25
  replace X0 := X0.later hb6
  replace X1 := X1.later hb6
  replace X2 := X2.later hb6
  replace hB := below_step hB hb6
  clear hb6
  obtain ⟨x00, x01, x02, x03, x04, x05⟩ := X0.six
  obtain ⟨x10, x11, x12, x13, x14, x15⟩ := X1.six
  obtain ⟨x20, x21, x22, x23, x24, x25⟩ := X2.six
  go_wp2_with fail
  refine (cFA _).mono ?_
  rintro e w7 ⟨rfl, hb7⟩
  clear x00 x01 x02 x03 x04 x05
  clear x10 x11 x12 x13 x14 x15
  clear x20 x21 x22 x23 x24 x25
  replace X0 := X0.later hb7
  replace X1 := X1.later hb7
  replace X2 := X2.later hb7
  replace hB := below_step hB hb7
  clear hb7
  obtain ⟨x00, x01, x02, x03, x04, x05⟩ := X0.six
  obtain ⟨x10, x11, x12, x13, x14, x15⟩ := X1.six
  obtain ⟨x20, x21, x22, x23, x24, x25⟩ := X2.six
  go_wp2_with fail
  refine (cFB _).mono ?_
  rintro e w8 ⟨rfl, hb8⟩
  clear x00 x01 x02 x03 x04 x05
  clear x10 x11 x12 x13 x14 x15
  clear x20 x21 x22 x23 x24 x25
  replace X0 := X0.later hb8
  replace X1 := X1.later hb8
  replace X2 := X2.later hb8
  replace hB := below_step hB hb8
  clear hb8
  obtain ⟨x00, x01, x02, x03, x04, x05⟩ := X0.six
  obtain ⟨x10, x11, x12, x13, x14, x15⟩ := X1.six
  obtain ⟨x20, x21, x22, x23, x24, x25⟩ := X2.six
  go_wp2_with fail
  go_ret
  exact ⟨rfl, hB⟩
set_option maxHeartbeats 2000000 in
theorem one_ffttf (a n i p k t b m j q l u a3 n3 i3 p3 k3 t3 x d : Int) (w : World)
    (cA : ∀ w, Calls Try.prog 16 #[.agg #[.int .i64 a, .int .i64 n, .int .i64 i, .int .i64 p, .int .i64 k, .int .i64 t]] w fun e w' => e = .returned (.bool true) ∧ Below w.heap.size w w')
    (cB : ∀ w, Calls Try.prog 16 #[.agg #[.int .i64 b, .int .i64 m, .int .i64 j, .int .i64 q, .int .i64 l, .int .i64 u]] w fun e w' => e = .returned (.bool true) ∧ Below w.heap.size w w')
    (cC : ∀ w, Calls Try.prog 16 #[.agg #[.int .i64 a3, .int .i64 n3, .int .i64 i3, .int .i64 p3, .int .i64 k3, .int .i64 t3]] w fun e w' => e = .returned (.bool true) ∧ Below w.heap.size w w')
    (cAB : ∀ w, Calls Try.prog 18 #[.agg #[.int .i64 a, .int .i64 n, .int .i64 i, .int .i64 p, .int .i64 k, .int .i64 t], .agg #[.int .i64 b, .int .i64 m, .int .i64 j, .int .i64 q, .int .i64 l, .int .i64 u]] w fun e w' => e = .returned (.bool false) ∧ Below w.heap.size w w')
    (cBA : ∀ w, Calls Try.prog 18 #[.agg #[.int .i64 b, .int .i64 m, .int .i64 j, .int .i64 q, .int .i64 l, .int .i64 u], .agg #[.int .i64 a, .int .i64 n, .int .i64 i, .int .i64 p, .int .i64 k, .int .i64 t]] w fun e w' => e = .returned (.bool false) ∧ Below w.heap.size w w')
    (cFA : ∀ w, Calls Try.prog 17 #[.agg #[.int .i64 a, .int .i64 n, .int .i64 i, .int .i64 p, .int .i64 k, .int .i64 t], .int .i64 x, .int .i64 d] w fun e w' => e = .returned (.bool true) ∧ Below w.heap.size w w')
    (cFB : ∀ w, Calls Try.prog 17 #[.agg #[.int .i64 b, .int .i64 m, .int .i64 j, .int .i64 q, .int .i64 l, .int .i64 u], .int .i64 x, .int .i64 d] w fun e w' => e = .returned (.bool true) ∧ Below w.heap.size w w')
    (cL : ∀ w, Calls Try.prog 19 #[.agg #[.int .i64 a, .int .i64 n, .int .i64 i, .int .i64 p, .int .i64 k, .int .i64 t], .agg #[.int .i64 b, .int .i64 m, .int .i64 j, .int .i64 q, .int .i64 l, .int .i64 u]] w fun e w' => e = .returned (.bool true) ∧ Below w.heap.size w w') :
    Calls Try.prog 6 #[.agg #[.int .i64 a, .int .i64 n, .int .i64 i, .int .i64 p, .int .i64 k, .int .i64 t], .agg #[.int .i64 b, .int .i64 m, .int .i64 j, .int .i64 q, .int .i64 l, .int .i64 u], .agg #[.int .i64 a3, .int .i64 n3, .int .i64 i3, .int .i64 p3, .int .i64 k3, .int .i64 t3], .int .i64 x, .int .i64 d] w fun e w' => e = .returned (.bool true) ∧ Below w.heap.size w w' := by
  have hn0 := below_new w (.cells #[.int .i64 a, .int .i64 n, .int .i64 i, .int .i64 p, .int .i64 k, .int .i64 t] 27)
  have X0 := Lies.new w [a, n, i, p, k, t] 27 (B := w.heap.size) rfl
  have hB := hn0
  have hn1 := below_new (w.alloc (.cells #[.int .i64 a, .int .i64 n, .int .i64 i, .int .i64 p, .int .i64 k, .int .i64 t] 27)) (.cells #[.int .i64 b, .int .i64 m, .int .i64 j, .int .i64 q, .int .i64 l, .int .i64 u] 27)
  have X1 := Lies.new (w.alloc (.cells #[.int .i64 a, .int .i64 n, .int .i64 i, .int .i64 p, .int .i64 k, .int .i64 t] 27)) [b, m, j, q, l, u] 27 (B := w.heap.size + 1) (by simp)
  replace X0 := X0.later hn1
  replace hB := below_step hB hn1
  have hn2 := below_new ((w.alloc (.cells #[.int .i64 a, .int .i64 n, .int .i64 i, .int .i64 p, .int .i64 k, .int .i64 t] 27)).alloc (.cells #[.int .i64 b, .int .i64 m, .int .i64 j, .int .i64 q, .int .i64 l, .int .i64 u] 27)) (.cells #[.int .i64 a3, .int .i64 n3, .int .i64 i3, .int .i64 p3, .int .i64 k3, .int .i64 t3] 27)
  have X2 := Lies.new ((w.alloc (.cells #[.int .i64 a, .int .i64 n, .int .i64 i, .int .i64 p, .int .i64 k, .int .i64 t] 27)).alloc (.cells #[.int .i64 b, .int .i64 m, .int .i64 j, .int .i64 q, .int .i64 l, .int .i64 u] 27)) [a3, n3, i3, p3, k3, t3] 27 (B := w.heap.size + 1 + 1) (by simp)
  replace X0 := X0.later hn2
  replace X1 := X1.later hn2
  replace hB := below_step hB hn2
  clear hn0 hn1 hn2
  obtain ⟨x00, x01, x02, x03, x04, x05⟩ := X0.six
  obtain ⟨x10, x11, x12, x13, x14, x15⟩ := X1.six
  obtain ⟨x20, x21, x22, x23, x24, x25⟩ := X2.six
  go_enter Try.func6, Try.ntmps6
  go_wp2_with fail
  refine (awake_any _).mono ?_
  rintro e w1 ⟨rfl, hb1⟩
  clear x00 x01 x02 x03 x04 x05
  clear x10 x11 x12 x13 x14 x15
  clear x20 x21 x22 x23 x24 x25
  replace X0 := X0.later hb1
  replace X1 := X1.later hb1
  replace X2 := X2.later hb1
  replace hB := below_step hB hb1
  clear hb1
  obtain ⟨x00, x01, x02, x03, x04, x05⟩ := X0.six
  obtain ⟨x10, x11, x12, x13, x14, x15⟩ := X1.six
  obtain ⟨x20, x21, x22, x23, x24, x25⟩ := X2.six
  go_wp2_with fail
  refine (cA _).mono ?_
  rintro e w2 ⟨rfl, hb2⟩
  clear x00 x01 x02 x03 x04 x05
  clear x10 x11 x12 x13 x14 x15
  clear x20 x21 x22 x23 x24 x25
  replace X0 := X0.later hb2
  replace X1 := X1.later hb2
  replace X2 := X2.later hb2
  replace hB := below_step hB hb2
  clear hb2
  obtain ⟨x00, x01, x02, x03, x04, x05⟩ := X0.six
  obtain ⟨x10, x11, x12, x13, x14, x15⟩ := X1.six
  obtain ⟨x20, x21, x22, x23, x24, x25⟩ := X2.six
  go_wp2_with fail
  refine (cB _).mono ?_
  rintro e w3 ⟨rfl, hb3⟩
  clear x00 x01 x02 x03 x04 x05
  clear x10 x11 x12 x13 x14 x15
  clear x20 x21 x22 x23 x24 x25
  replace X0 := X0.later hb3
  replace X1 := X1.later hb3
  replace X2 := X2.later hb3
  replace hB := below_step hB hb3
  clear hb3
  obtain ⟨x00, x01, x02, x03, x04, x05⟩ := X0.six
  obtain ⟨x10, x11, x12, x13, x14, x15⟩ := X1.six
  obtain ⟨x20, x21, x22, x23, x24, x25⟩ := X2.six
  go_wp2_with fail
  refine (cC _).mono ?_
  rintro e w4 ⟨rfl, hb4⟩
  clear x00 x01 x02 x03 x04 x05
  clear x10 x11 x12 x13 x14 x15
  clear x20 x21 x22 x23 x24 x25
  replace X0 := X0.later hb4
  replace X1 := X1.later hb4
  replace X2 := X2.later hb4
  replace hB := below_step hB hb4
  clear hb4
  obtain ⟨x00, x01, x02, x03, x04, x05⟩ := X0.six
  obtain ⟨x10, x11, x12, x13, x14, x15⟩ := X1.six
  obtain ⟨x20, x21, x22, x23, x24, x25⟩ := X2.six
  go_wp2_with fail
  refine (cAB _).mono ?_
  rintro e w5 ⟨rfl, hb5⟩
  clear x00 x01 x02 x03 x04 x05
  clear x10 x11 x12 x13 x14 x15
  clear x20 x21 x22 x23 x24 x25
  replace X0 := X0.later hb5
  replace X1 := X1.later hb5
  replace X2 := X2.later hb5
  replace hB := below_step hB hb5
  clear hb5
  obtain ⟨x00, x01, x02, x03, x04, x05⟩ := X0.six
  obtain ⟨x10, x11, x12, x13, x14, x15⟩ := X1.six
  obtain ⟨x20, x21, x22, x23, x24, x25⟩ := X2.six
  go_wp2_with fail
  refine (cBA _).mono ?_
  rintro e w6 ⟨rfl, hb6⟩
  clear x00 x01 x02 x03 x04 x05
  clear x10 x11 x12 x13 x14 x15
  clear x20 x21 x22 x23 x24 x25
  replace X0 := X0.later hb6
  replace X1 := X1.later hb6
  replace X2 := X2.later hb6
  replace hB := below_step hB hb6
  clear hb6
  obtain ⟨x00, x01, x02, x03, x04, x05⟩ := X0.six
  obtain ⟨x10, x11, x12, x13, x14, x15⟩ := X1.six
  obtain ⟨x20, x21, x22, x23, x24, x25⟩ := X2.six
  go_wp2_with fail
  refine (cFA _).mono ?_
  rintro e w7 ⟨rfl, hb7⟩
  clear x00 x01 x02 x03 x04 x05
  clear x10 x11 x12 x13 x14 x15
  clear x20 x21 x22 x23 x24 x25
  replace X0 := X0.later hb7
  replace X1 := X1.later hb7
  replace X2 := X2.later hb7
  replace hB := below_step hB hb7
  clear hb7
  obtain ⟨x00, x01, x02, x03, x04, x05⟩ := X0.six
  obtain ⟨x10, x11, x12, x13, x14, x15⟩ := X1.six
  obtain ⟨x20, x21, x22, x23, x24, x25⟩ := X2.six
  go_wp2_with fail
  refine (cFB _).mono ?_
  rintro e w8 ⟨rfl, hb8⟩
  clear x00 x01 x02 x03 x04 x05
  clear x10 x11 x12 x13 x14 x15
  clear x20 x21 x22 x23 x24 x25
  replace X0 := X0.later hb8
  replace X1 := X1.later hb8
  replace X2 := X2.later hb8
  replace hB := below_step hB hb8
  clear hb8
  obtain ⟨x00, x01, x02, x03, x04, x05⟩ := X0.six
  obtain ⟨x10, x11, x12, x13, x14, x15⟩ := X1.six
  obtain ⟨x20, x21, x22, x23, x24, x25⟩ := X2.six
  go_wp2_with fail
  refine (cL _).mono ?_
  rintro e w9 ⟨rfl, hb9⟩
  clear x00 x01 x02 x03 x04 x05
  clear x10 x11 x12 x13 x14 x15
  clear x20 x21 x22 x23 x24 x25
  replace X0 := X0.later hb9
  replace X1 := X1.later hb9
  replace X2 := X2.later hb9
  replace hB := below_step hB hb9
  clear hb9
  obtain ⟨x00, x01, x02, x03, x04, x05⟩ := X0.six
  obtain ⟨x10, x11, x12, x13, x14, x15⟩ := X1.six
  obtain ⟨x20, x21, x22, x23, x24, x25⟩ := X2.six
  go_wp2_with fail
  go_ret
  exact ⟨rfl, hB⟩
theorem walk (a n i p k t b m j q l u a3 n3 i3 p3 k3 t3 x d : Int) (wa : (Lit.int .i64 a).wf = true) (wn : (Lit.int .i64 n).wf = true) (wi : (Lit.int .i64 i).wf = true) (wp : (Lit.int .i64 p).wf = true) (wk : (Lit.int .i64 k).wf = true) (wt : (Lit.int .i64 t).wf = true) (wb : (Lit.int .i64 b).wf = true) (wm : (Lit.int .i64 m).wf = true) (wj : (Lit.int .i64 j).wf = true) (wq : (Lit.int .i64 q).wf = true) (wl : (Lit.int .i64 l).wf = true) (wu : (Lit.int .i64 u).wf = true) (wa3 : (Lit.int .i64 a3).wf = true) (wn3 : (Lit.int .i64 n3).wf = true) (wi3 : (Lit.int .i64 i3).wf = true) (wp3 : (Lit.int .i64 p3).wf = true) (wk3 : (Lit.int .i64 k3).wf = true) (wt3 : (Lit.int .i64 t3).wf = true) (wx : (Lit.int .i64 x).wf = true) (wd : (Lit.int .i64 d).wf = true) (w : World) :
    Calls Try.prog 6 #[.agg #[.int .i64 a, .int .i64 n, .int .i64 i, .int .i64 p, .int .i64 k, .int .i64 t], .agg #[.int .i64 b, .int .i64 m, .int .i64 j, .int .i64 q, .int .i64 l, .int .i64 u], .agg #[.int .i64 a3, .int .i64 n3, .int .i64 i3, .int .i64 p3, .int .i64 k3, .int .i64 t3], .int .i64 x, .int .i64 d] w fun e w' => e = .returned (.bool true) ∧ Below w.heap.size w w' := by
  have cA := fun w => ruMay_any a n i p k t w
  have cB := fun w => ruMay_any b m j q l u w
  have cC := fun w => ruMay_any a3 n3 i3 p3 k3 t3 w
  have cAB := fun w => ruAhead_any a n i p k t b m j q l u w
  have cBA := fun w => ruAhead_any b m j q l u a n i p k t w
  have cBC := fun w => ruAhead_any b m j q l u a3 n3 i3 p3 k3 t3 w
  have cAC := fun w => ruAhead_any a n i p k t a3 n3 i3 p3 k3 t3 w
  have cFA := fun w => ruFits_any a n i p k t x d w
  have cFB := fun w => ruFits_any b m j q l u x d w
  have cL := fun w => ruAlike_any a n i p k t b m j q l u w
  have hnot := not_both n p i m q j
  have htr := ahead_trans n p i m q j n3 p3 i3
  have hlk := like_ahead (a := a) (b := b) (n := n) (m := m) (i := i) (j := j) (p := p) (q := q) (x := x) (d := d)
  cases hA : okR a n i p k t
  · rw [hA] at cA; exact one_a a n i p k t b m j q l u a3 n3 i3 p3 k3 t3 x d w cA
  rw [hA] at cA
  cases hB : okR b m j q l u
  · rw [hB] at cB; exact one_b a n i p k t b m j q l u a3 n3 i3 p3 k3 t3 x d w cA cB
  rw [hB] at cB
  cases hC : okR a3 n3 i3 p3 k3 t3
  · rw [hC] at cC; exact one_c a n i p k t b m j q l u a3 n3 i3 p3 k3 t3 x d w cA cB cC
  rw [hC] at cC
  generalize hx : ahB n p i m q j = X at *
  generalize hy : ahB m q j n p i = Y at *
  generalize hz : ahB m q j n3 p3 i3 = Z at *
  generalize hv : ahB n p i n3 p3 i3 = V at *
  generalize hf : fitB a n i x d = FA at *
  generalize hg : fitB b m j x d = FB at *
  generalize hlq : likeB a n i p b m j q = LK at *
  cases X
  · cases Y
    · cases FA
      · exact one_fffff a n i p k t b m j q l u a3 n3 i3 p3 k3 t3 x d w cA cB cC cAB cBA cFA
      · cases FB
        · exact one_fftff a n i p k t b m j q l u a3 n3 i3 p3 k3 t3 x d w cA cB cC cAB cBA cFA cFB
        · obtain rfl : LK = true := hlk rfl rfl
          exact one_ffttf a n i p k t b m j q l u a3 n3 i3 p3 k3 t3 x d w cA cB cC cAB cBA cFA cFB cL
    · cases FA
      · exact one_ftfff a n i p k t b m j q l u a3 n3 i3 p3 k3 t3 x d w cA cB cC cAB cBA cFA
      · cases FB
        · exact one_fttff a n i p k t b m j q l u a3 n3 i3 p3 k3 t3 x d w cA cB cC cAB cBA cFA cFB
        · obtain rfl : LK = false := hlk rfl rfl
          exact one_ftttf a n i p k t b m j q l u a3 n3 i3 p3 k3 t3 x d w cA cB cC cAB cBA cFA cFB cL
  · cases Y
    case true => cases hnot
    cases FA
    · cases Z
      · exact one_tffff a n i p k t b m j q l u a3 n3 i3 p3 k3 t3 x d w cA cB cC cAB cBA cFA cBC
      · obtain rfl : V = true := htr rfl rfl
        exact one_tffft a n i p k t b m j q l u a3 n3 i3 p3 k3 t3 x d w cA cB cC cAB cBA cFA cBC cAC
    · cases FB
      · cases Z
        · exact one_tftff a n i p k t b m j q l u a3 n3 i3 p3 k3 t3 x d w cA cB cC cAB cBA cFA cFB cBC
        · obtain rfl : V = true := htr rfl rfl
          exact one_tftft a n i p k t b m j q l u a3 n3 i3 p3 k3 t3 x d w cA cB cC cAB cBA cFA cFB cBC cAC
      · obtain rfl : LK = false := hlk rfl rfl
        cases Z
        · exact one_tfttf a n i p k t b m j q l u a3 n3 i3 p3 k3 t3 x d w cA cB cC cAB cBA cFA cFB cL cBC
        · obtain rfl : V = true := htr rfl rfl
          exact one_tfttt a n i p k t b m j q l u a3 n3 i3 p3 k3 t3 x d w cA cB cC cAB cBA cFA cFB cL cBC cAC

theorem own : ownKnob Try.prog.godebug = none := by kernel_rfl
theorem laidOut : laidOutB Try.prog = true := by kernel_rfl
set_option maxRecDepth 100000 in
theorem lifted (os : Os) (started : os.Started) (H : Type) (enc : TypeId × Value → H) :
    ReturnsInHanded {} Try.checked os 6 .any (Rows.ruleOneSpec.pre6 enc Try.prog Try.f6 Rows.ruleOneRow.domain false) (Rows.ruleOneSpec.post enc Try.prog Try.f6 false true false false) := by
  refine returnsInHanded_of_change (C := Try.checked) own started (by kernel_rfl) Try.func6
    (ChangeSpec.witness6 (enc := enc) (C := Try.checked) false ⟨#[], #[.agg #[.int .i64 0, .int .i64 0, .int .i64 0, .int .i64 0, .int .i64 0, .int .i64 0], .agg #[.int .i64 0, .int .i64 0, .int .i64 0, .int .i64 0, .int .i64 0, .int .i64 0], .agg #[.int .i64 0, .int .i64 0, .int .i64 0, .int .i64 0, .int .i64 0, .int .i64 0], .int .i64 0, .int .i64 0], []⟩ 8 (by kernel_rfl) (by kernel_rfl) (by kernel_rfl) (by kernel_rfl)) ?_
  intro W base args ds gs before hval0 hW hcnd _
  have hval : ∀ (j : Nat) t v, Try.f6.params[j]? = some t → args[j]? = some v → Value.okWide Try.prog W .any base t v := hval0
  have hW' := hW
  obtain ⟨p, q, hA0, hV, rfl, hfz, hnd⟩ := hW
  have hA : DataW.TrodAll enc Try.prog W 0 (fun _ => true) true Try.f6.params.toList args.toList ds p := hA0
  rw [Try.params6] at hA hval
  obtain ⟨v0, vs0, d0, ds0, p0, q0, hargs, rfl, rfl, h0, r0⟩ := trodAll_cons hA
  obtain ⟨v1, vs1, d1, ds1, p1, q1, rfl, rfl, rfl, h1, r1⟩ := trodAll_cons r0
  obtain ⟨v2, vs2, d2, ds2, p2, q2, rfl, rfl, rfl, h2, r2⟩ := trodAll_cons r1
  obtain ⟨v3, vs3, d3, ds3, p3, q3, rfl, rfl, rfl, h3, r3⟩ := trodAll_cons r2
  obtain ⟨v4, vs4, d4, ds4, p4, q4, rfl, rfl, rfl, h4, r4⟩ := trodAll_cons r3
  obtain ⟨rfl, rfl, rfl⟩ := trodAll_nil r4
  obtain rfl : args = #[v0, v1, v2, v3, v4] := by cases args; simp_all
  obtain ⟨rfl, rfl⟩ := trodVars_none hV
  have k0 := h0
  have lt0 : ∀ x ∈ p0, x.block < W.heap.size := by obtain ⟨m, hm⟩ := k0; exact DataW.trod_lt m _ _ _ hm
  have k1 := h1
  have lt1 : ∀ x ∈ p1, x.block < W.heap.size := by obtain ⟨m, hm⟩ := k1; exact DataW.trod_lt m _ _ _ hm
  have k2 := h2
  have lt2 : ∀ x ∈ p2, x.block < W.heap.size := by obtain ⟨m, hm⟩ := k2; exact DataW.trod_lt m _ _ _ hm
  have k3 := h3
  have lt3 : ∀ x ∈ p3, x.block < W.heap.size := by obtain ⟨m, hm⟩ := k3; exact DataW.trod_lt m _ _ _ hm
  have k4 := h4
  have lt4 : ∀ x ∈ p4, x.block < W.heap.size := by obtain ⟨m, hm⟩ := k4; exact DataW.trod_lt m _ _ _ hm
  obtain ⟨a0, b0, c0, d0, e0, f0, rfl, w0a, w0b, w0c, w0d, w0e, w0f⟩ := open_rule (hval 0 27 v0 rfl rfl) h0
  obtain ⟨a1, b1, c1, d1, e1, f1, rfl, w1a, w1b, w1c, w1d, w1e, w1f⟩ := open_rule (hval 1 27 v1 rfl rfl) h1
  obtain ⟨a2, b2, c2, d2, e2, f2, rfl, w2a, w2b, w2c, w2d, w2e, w2f⟩ := open_rule (hval 2 27 v2 rfl rfl) h2
  obtain ⟨a3, rfl, rfl, hp3, w3⟩ := open_int Try.underlying3 (hval 3 3 v3 rfl rfl) h3
  obtain ⟨a4, rfl, rfl, hp4, w4⟩ := open_int Try.underlying3 (hval 4 3 v4 rfl rfl) h4
  clear hA0 hval0
  refine (walk a0 b0 c0 d0 e0 f0 a1 b1 c1 d1 e1 f1 a2 b2 c2 d2 e2 f2 a3 a4 w0a w0b w0c w0d w0e w0f w1a w1b w1c w1d w1e w1f w2a w2b w2c w2d w2e w2f w3 w4 W ).mono fun e W' ⟨he, bel⟩ => ?_
  subst he
  exact ⟨_, rfl, _, _, _, [], _, [], hW', trodAll_mk1 (shut_bool Try.underlying4 _), (trodAll_cons_mk (Below.trod laidOut (by kernel_rfl) (of_decide_eq_true (by kernel_rfl)) k0 bel lt0) (trodAll_cons_mk (Below.trod laidOut (by kernel_rfl) (of_decide_eq_true (by kernel_rfl)) k1 bel lt1) (trodAll_cons_mk (Below.trod laidOut (by kernel_rfl) (of_decide_eq_true (by kernel_rfl)) k2 bel lt2) (trodAll_cons_mk (Below.trod laidOut (by kernel_rfl) (of_decide_eq_true (by kernel_rfl)) k3 bel lt3) (trodAll_cons_mk (Below.trod laidOut (by kernel_rfl) (of_decide_eq_true (by kernel_rfl)) k4 bel lt4) trodAll_mk0))))), rfl, bel.frame _, fun h => by cases h⟩

theorem over : Rows.ruleOneRow.holds Try.pinned (OpenSpec.ofChange Rows.ruleOneSpec) :=
  OpenClaim.holds_of_wide 6 Try.f6 rfl rfl rfl rfl rfl rfl rfl ⟨rfl, rfl, rfl, rfl, rfl⟩ rfl rfl rfl rfl rfl (by kernel_rfl) Try.func6 (by kernel_rfl)
    (of_decide_eq_true (by kernel_rfl)) (by unfold Func.isWrapper; first | (rw [if_pos (by decide +kernel)]; kernel_rfl) | (rw [if_neg (by decide +kernel)]; exact ⟨rfl, rfl⟩))
    (fun os started H enc _ => lifted os started H enc)
end Go.Proofs.Ytkpgifpnmccdcaa.ruleOne
namespace Go.Proofs.Ytkpgifpnmccdcaa
theorem ruleOne_holds : Rows.RuleOneSaid := ruleOne.over
#print axioms ruleOne_holds
end Go.Proofs.Ytkpgifpnmccdcaa
