/- Proved: for every rule r and all bytes rest the call RuleBack(r, rest) returns true and leaves rest as it was: what is put is got, whatever stands behind it; what is got is put as these bytes (of more than 3000 bytes nothing is asked). No condition. -/
import Derived.Test.YtkpgifpnmccdcaaRuleMore
import Derived.Test.YtkpgifpnmccdcaaRuleOpen
import Derived.Lib.SmallJoins
namespace Go.Proofs.Ytkpgifpnmccdcaa.ruleBack
open Go.ChangeShapes Go.WideShapes Go.ChangeAt Go.RowKit R
set_option linter.unusedVariables false


theorem back_long (a n i p k t : Int) (x : Option Addr) (c : Nat) (s : List Int) (w : World) (R : Reads .u8 w x c s) (hl : 3000 < s.length) :
    Calls Try.prog 5 #[.agg #[.int .i64 a, .int .i64 n, .int .i64 i, .int .i64 p, .int .i64 k, .int .i64 t], .slice x s.length c] w fun e w' => e = .returned (.bool true) ∧ Below w.heap.size w w' := by
  have hb0 := below_new w (.cells #[.int .i64 a, .int .i64 n, .int .i64 i, .int .i64 p, .int .i64 k, .int .i64 t] 27)
  have hmx := Nat.le_trans R.le R.max
  unfold maxLen at hmx
  go_enter Try.func5, Try.ntmps5
  go_wp2_with fail
  refine (awake_any _).mono ?_
  rintro e w1 ⟨rfl, hb1⟩
  go_wp2_with fail
  go_ret
  exact ⟨rfl, below_step hb0 hb1⟩
set_option maxHeartbeats 2000000 in
theorem backfN (a n i p k t : Int) (x : Option Addr) (c : Nat) (s : List Int) (w : World) (R : Reads .u8 w x c s) (hl : s.length ≤ 3000) (hk : okR a n i p k t = false) {z : Int} (hA : Hid (rgE s = z)) (hA0 : z ≠ 0) :
    Calls Try.prog 5 #[.agg #[.int .i64 a, .int .i64 n, .int .i64 i, .int .i64 p, .int .i64 k, .int .i64 t], .slice x s.length c] w fun e w' => e = .returned (.bool true) ∧ Below w.heap.size w w' := by
  have hmx := Nat.le_trans R.le R.max
  unfold maxLen at hmx
  have cM := fun w => ruMay_any a n i p k t w
  rw [hk] at cM
  have hn0 := below_new w (.cells #[.int .i64 a, .int .i64 n, .int .i64 i, .int .i64 p, .int .i64 k, .int .i64 t] 27)
  have X0 := Lies.new w [a, n, i, p, k, t] 27 (B := w.heap.size) rfl
  have hB := hn0
  clear hn0
  obtain ⟨x00, x01, x02, x03, x04, x05⟩ := X0.six
  replace R := R.later hB
  go_enter Try.func5, Try.ntmps5
  go_wp2_with fail
  refine (awake_any _).mono ?_
  rintro e w1 ⟨rfl, hb1⟩
  clear x00 x01 x02 x03 x04 x05
  replace X0 := X0.later hb1
  replace R := R.later hb1
  replace hB := below_step hB hb1
  clear hb1
  obtain ⟨x00, x01, x02, x03, x04, x05⟩ := X0.six
  go_wp2_with fail
  refine (ruPut_bad hk _).mono ?_
  rintro e w2 ⟨rfl, hb2⟩
  clear x00 x01 x02 x03 x04 x05
  replace X0 := X0.later hb2
  replace R := R.later hb2
  replace hB := below_step hB hb2
  clear hb2
  obtain ⟨x00, x01, x02, x03, x04, x05⟩ := X0.six
  go_wp2_with fail
  refine (cM _).mono ?_
  rintro e w3 ⟨rfl, hb3⟩
  clear x00 x01 x02 x03 x04 x05
  replace X0 := X0.later hb3
  replace R := R.later hb3
  replace hB := below_step hB hb3
  clear hb3
  obtain ⟨x00, x01, x02, x03, x04, x05⟩ := X0.six
  go_wp2_with fail
  refine (ruGet_none _ R rfl (by omega) hA.out hA0).mono ?_
  rintro e w4 ⟨rfl, hb4⟩
  clear x00 x01 x02 x03 x04 x05
  replace X0 := X0.later hb4
  replace R := R.later hb4
  replace hB := below_step hB hb4
  clear hb4
  obtain ⟨x00, x01, x02, x03, x04, x05⟩ := X0.six
  have hV := below_new w4 (.cells #[.int .i64 0, .int .i64 0, .int .i64 0, .int .i64 0, .int .i64 0, .int .i64 0] 27)
  go_wp2_with fail
  go_ret
  exact ⟨rfl, below_step hB hV⟩
set_option maxHeartbeats 2000000 in
theorem backfS (a n i p k t : Int) (x : Option Addr) (c : Nat) (s : List Int) (w : World) (R : Reads .u8 w x c s) (hl : s.length ≤ 3000) (hk : okR a n i p k t = false) {m0 m1 m2 m3 m4 m5 : Int} (HP : Hid (rgE s = 0)) (HN : Hid (m0 = n0 s ∧ m1 = n1 s ∧ m2 = n2 s - 1 ∧ m3 = n3 s ∧ m4 = n4 s ∧ m5 = n5 s)) (h9 : (9 : Int) ≤ (s.length : Int)) (hq : okR m0 m1 m2 m3 m4 m5 = true) (HY : Hid (bodyR m0 m1 m2 m3 m4 m5 = s.take 9)) :
    Calls Try.prog 5 #[.agg #[.int .i64 a, .int .i64 n, .int .i64 i, .int .i64 p, .int .i64 k, .int .i64 t], .slice x s.length c] w fun e w' => e = .returned (.bool true) ∧ Below w.heap.size w w' := by
  have hmx := Nat.le_trans R.le R.max
  unfold maxLen at hmx
  have cM := fun w => ruMay_any a n i p k t w
  rw [hk] at cM
  have hle := R.le
  have hcap : (9 : Int) ≤ (c : Int) := by omega
  have l9 : (s.take 9).length = 9 := by simp; omega
  obtain ⟨bb, oo, rfl, hbb, _⟩ := R.cells (by intro h; rw [h] at h9; simp at h9)
  have hn0 := below_new w (.cells #[.int .i64 a, .int .i64 n, .int .i64 i, .int .i64 p, .int .i64 k, .int .i64 t] 27)
  have X0 := Lies.new w [a, n, i, p, k, t] 27 (B := w.heap.size) rfl
  have hB := hn0
  clear hn0
  obtain ⟨x00, x01, x02, x03, x04, x05⟩ := X0.six
  replace R := R.later hB
  go_enter Try.func5, Try.ntmps5
  go_wp2_with fail
  refine (awake_any _).mono ?_
  rintro e w1 ⟨rfl, hb1⟩
  clear x00 x01 x02 x03 x04 x05
  replace X0 := X0.later hb1
  replace R := R.later hb1
  replace hB := below_step hB hb1
  clear hb1
  obtain ⟨x00, x01, x02, x03, x04, x05⟩ := X0.six
  go_wp2_with fail
  refine (ruPut_bad hk _).mono ?_
  rintro e w2 ⟨rfl, hb2⟩
  clear x00 x01 x02 x03 x04 x05
  replace X0 := X0.later hb2
  replace R := R.later hb2
  replace hB := below_step hB hb2
  clear hb2
  obtain ⟨x00, x01, x02, x03, x04, x05⟩ := X0.six
  go_wp2_with fail
  refine (cM _).mono ?_
  rintro e w3 ⟨rfl, hb3⟩
  clear x00 x01 x02 x03 x04 x05
  replace X0 := X0.later hb3
  replace R := R.later hb3
  replace hB := below_step hB hb3
  clear hb3
  obtain ⟨x00, x01, x02, x03, x04, x05⟩ := X0.six
  go_wp2_with fail
  refine (ruGet_some _ R rfl (by omega) HP.out HN.out).mono ?_
  rintro e w4 ⟨rfl, hb4⟩
  clear x00 x01 x02 x03 x04 x05
  replace X0 := X0.later hb4
  replace R := R.later hb4
  replace hB := below_step hB hb4
  clear hb4
  obtain ⟨x00, x01, x02, x03, x04, x05⟩ := X0.six
  have hv0 := below_new w4 (.cells #[.int .i64 m0, .int .i64 m1, .int .i64 m2, .int .i64 m3, .int .i64 m4, .int .i64 m5] 27)
  clear x00 x01 x02 x03 x04 x05
  replace X0 := X0.later hv0
  replace R := R.later hv0
  replace hB := below_step hB hv0
  clear hv0
  have V0 := Lies.new w4 [m0, m1, m2, m3, m4, m5] 27 (B := w4.heap.size) rfl
  obtain ⟨x00, x01, x02, x03, x04, x05⟩ := X0.six
  obtain ⟨v00, v01, v02, v03, v04, v05⟩ := V0.six
  go_wp2_with fail
  refine (ruPut_ok hq _).mono ?_
  rintro e w5 ⟨ay, ky, rfl, RY, _, hb5⟩
  clear x00 x01 x02 x03 x04 x05
  clear v00 v01 v02 v03 v04 v05
  replace X0 := X0.later hb5
  replace V0 := V0.later hb5
  replace R := R.later hb5
  replace hB := below_step hB hb5
  clear hb5
  obtain ⟨x00, x01, x02, x03, x04, x05⟩ := X0.six
  obtain ⟨v00, v01, v02, v03, v04, v05⟩ := V0.six
  rw [HY.out] at RY
  have s1 := strs_at RY l9
  have s2 := strs_at (R.take 9) l9
  clear x00 x01 x02 x03 x04 x05
  clear v00 v01 v02 v03 v04 v05
  clear R RY l9
  go_wp2_with fail
  go_quiet (fail)
  go_wp2_with fail
  go_ret
  exact ⟨rfl, hB.trans (below_draws _ _ _)⟩
set_option maxHeartbeats 2000000 in
theorem backtN (a n i p k t : Int) (x : Option Addr) (c : Nat) (s : List Int) (w : World) (R : Reads .u8 w x c s) (hl : s.length ≤ 3000) (hk : okR a n i p k t = true) {z : Int} (hA : Hid (rgE s = z)) (hA0 : z ≠ 0) :
    Calls Try.prog 5 #[.agg #[.int .i64 a, .int .i64 n, .int .i64 i, .int .i64 p, .int .i64 k, .int .i64 t], .slice x s.length c] w fun e w' => e = .returned (.bool true) ∧ Below w.heap.size w w' := by
  have hmx := Nat.le_trans R.le R.max
  unfold maxLen at hmx
  have cM := fun w => ruMay_any a n i p k t w
  rw [hk] at cM
  have hn0 := below_new w (.cells #[.int .i64 a, .int .i64 n, .int .i64 i, .int .i64 p, .int .i64 k, .int .i64 t] 27)
  have X0 := Lies.new w [a, n, i, p, k, t] 27 (B := w.heap.size) rfl
  have hB := hn0
  clear hn0
  obtain ⟨x00, x01, x02, x03, x04, x05⟩ := X0.six
  replace R := R.later hB
  go_enter Try.func5, Try.ntmps5
  go_wp2_with fail
  refine (awake_any _).mono ?_
  rintro e w1 ⟨rfl, hb1⟩
  clear x00 x01 x02 x03 x04 x05
  replace X0 := X0.later hb1
  replace R := R.later hb1
  replace hB := below_step hB hb1
  clear hb1
  obtain ⟨x00, x01, x02, x03, x04, x05⟩ := X0.six
  go_wp2_with fail
  refine (ruPut_ok hk _).mono ?_
  rintro e w2 ⟨a2, k2, rfl, R2, _, hb2⟩
  clear x00 x01 x02 x03 x04 x05
  replace X0 := X0.later hb2
  replace R := R.later hb2
  replace hB := below_step hB hb2
  clear hb2
  obtain ⟨x00, x01, x02, x03, x04, x05⟩ := X0.six
  go_wp2_with fail
  refine (cM _).mono ?_
  rintro e w3 ⟨rfl, hb3⟩
  clear x00 x01 x02 x03 x04 x05
  replace X0 := X0.later hb3
  replace R := R.later hb3
  replace R2 := R2.later hb3
  replace hB := below_step hB hb3
  clear hb3
  obtain ⟨x00, x01, x02, x03, x04, x05⟩ := X0.six
  have hb9 := body_len hk
  go_wp2_with (first | (at_builtin; refine wpList_join rfl (.const (.slice none 0 0)) (.tmp 36) 29 rfl w3.heap.size 5 1 Try.underlying29 info8 (v := .slice none 0 0) (n := 0) (ys := []) rfl (World.ownsRow_nil _ _ _ _) rfl R2 hb9 (by omega) (by omega) (Nat.le_refl _) ?_; intro v4 w4 hown4 hgrow4; have hb4 := below_fresh (B := w3.heap.size) hgrow4 (Nat.le_refl _); have R4 := R.later hb4) | (at_builtin; refine wpList_join rfl (.tmp 37) (.tmp 38) 29 rfl w3.heap.size 5 1 Try.underlying29 info8 rfl hown4 rfl R4 rfl (by omega) (by omega) hb4.size ?_; intro v5 w5 hown5 hgrow5; have hb5 := below_grow hb4 hown4 hgrow5 hb4.size; (simp only [List.nil_append] at hown5); obtain ⟨a5, k5, rfl, R5, -⟩ := reads_of_owns hown5 (u8_wf (oct_join (body_oct a n i p k t) R.oct))))
  clear x00 x01 x02 x03 x04 x05
  replace X0 := X0.later hb5
  replace R := R.later hb5
  replace R2 := R2.later hb5
  replace hB := below_step hB hb5
  clear hb5
  obtain ⟨x00, x01, x02, x03, x04, x05⟩ := X0.six
  refine (ruGet_put hk _ R5 (by simp only [List.length_append, hb9]) (by omega)).mono ?_
  rintro e w6 ⟨rfl, hb6⟩
  clear x00 x01 x02 x03 x04 x05
  replace X0 := X0.later hb6
  replace R := R.later hb6
  replace R2 := R2.later hb6
  replace hB := below_step hB hb6
  clear hb6
  obtain ⟨x00, x01, x02, x03, x04, x05⟩ := X0.six
  have hv0 := below_new w6 (.cells #[.int .i64 a, .int .i64 n, .int .i64 i, .int .i64 p, .int .i64 k, .int .i64 t] 27)
  clear x00 x01 x02 x03 x04 x05
  replace X0 := X0.later hv0
  replace R := R.later hv0
  replace R2 := R2.later hv0
  replace hB := below_step hB hv0
  clear hv0
  have V0 := Lies.new w6 [a, n, i, p, k, t] 27 (B := w6.heap.size) rfl
  obtain ⟨x00, x01, x02, x03, x04, x05⟩ := X0.six
  obtain ⟨v00, v01, v02, v03, v04, v05⟩ := V0.six
  go_wp2_with fail
  refine (ruGet_none _ R rfl (by omega) hA.out hA0).mono ?_
  rintro e w7 ⟨rfl, hb7⟩
  clear x00 x01 x02 x03 x04 x05
  clear v00 v01 v02 v03 v04 v05
  replace X0 := X0.later hb7
  replace V0 := V0.later hb7
  replace R := R.later hb7
  replace R2 := R2.later hb7
  replace hB := below_step hB hb7
  clear hb7
  obtain ⟨x00, x01, x02, x03, x04, x05⟩ := X0.six
  obtain ⟨v00, v01, v02, v03, v04, v05⟩ := V0.six
  have hV := below_new w7 (.cells #[.int .i64 0, .int .i64 0, .int .i64 0, .int .i64 0, .int .i64 0, .int .i64 0] 27)
  go_wp2_with fail
  go_ret
  exact ⟨rfl, below_step hB hV⟩
set_option maxHeartbeats 2000000 in
theorem backtS (a n i p k t : Int) (x : Option Addr) (c : Nat) (s : List Int) (w : World) (R : Reads .u8 w x c s) (hl : s.length ≤ 3000) (hk : okR a n i p k t = true) {m0 m1 m2 m3 m4 m5 : Int} (HP : Hid (rgE s = 0)) (HN : Hid (m0 = n0 s ∧ m1 = n1 s ∧ m2 = n2 s - 1 ∧ m3 = n3 s ∧ m4 = n4 s ∧ m5 = n5 s)) (h9 : (9 : Int) ≤ (s.length : Int)) (hq : okR m0 m1 m2 m3 m4 m5 = true) (HY : Hid (bodyR m0 m1 m2 m3 m4 m5 = s.take 9)) :
    Calls Try.prog 5 #[.agg #[.int .i64 a, .int .i64 n, .int .i64 i, .int .i64 p, .int .i64 k, .int .i64 t], .slice x s.length c] w fun e w' => e = .returned (.bool true) ∧ Below w.heap.size w w' := by
  have hmx := Nat.le_trans R.le R.max
  unfold maxLen at hmx
  have cM := fun w => ruMay_any a n i p k t w
  rw [hk] at cM
  have hle := R.le
  have hcap : (9 : Int) ≤ (c : Int) := by omega
  have l9 : (s.take 9).length = 9 := by simp; omega
  obtain ⟨bb, oo, rfl, hbb, _⟩ := R.cells (by intro h; rw [h] at h9; simp at h9)
  have hn0 := below_new w (.cells #[.int .i64 a, .int .i64 n, .int .i64 i, .int .i64 p, .int .i64 k, .int .i64 t] 27)
  have X0 := Lies.new w [a, n, i, p, k, t] 27 (B := w.heap.size) rfl
  have hB := hn0
  clear hn0
  obtain ⟨x00, x01, x02, x03, x04, x05⟩ := X0.six
  replace R := R.later hB
  go_enter Try.func5, Try.ntmps5
  go_wp2_with fail
  refine (awake_any _).mono ?_
  rintro e w1 ⟨rfl, hb1⟩
  clear x00 x01 x02 x03 x04 x05
  replace X0 := X0.later hb1
  replace R := R.later hb1
  replace hB := below_step hB hb1
  clear hb1
  obtain ⟨x00, x01, x02, x03, x04, x05⟩ := X0.six
  go_wp2_with fail
  refine (ruPut_ok hk _).mono ?_
  rintro e w2 ⟨a2, k2, rfl, R2, _, hb2⟩
  clear x00 x01 x02 x03 x04 x05
  replace X0 := X0.later hb2
  replace R := R.later hb2
  replace hB := below_step hB hb2
  clear hb2
  obtain ⟨x00, x01, x02, x03, x04, x05⟩ := X0.six
  go_wp2_with fail
  refine (cM _).mono ?_
  rintro e w3 ⟨rfl, hb3⟩
  clear x00 x01 x02 x03 x04 x05
  replace X0 := X0.later hb3
  replace R := R.later hb3
  replace R2 := R2.later hb3
  replace hB := below_step hB hb3
  clear hb3
  obtain ⟨x00, x01, x02, x03, x04, x05⟩ := X0.six
  have hb9 := body_len hk
  go_wp2_with (first | (at_builtin; refine wpList_join rfl (.const (.slice none 0 0)) (.tmp 36) 29 rfl w3.heap.size 5 1 Try.underlying29 info8 (v := .slice none 0 0) (n := 0) (ys := []) rfl (World.ownsRow_nil _ _ _ _) rfl R2 hb9 (by omega) (by omega) (Nat.le_refl _) ?_; intro v4 w4 hown4 hgrow4; have hb4 := below_fresh (B := w3.heap.size) hgrow4 (Nat.le_refl _); have R4 := R.later hb4) | (at_builtin; refine wpList_join rfl (.tmp 37) (.tmp 38) 29 rfl w3.heap.size 5 1 Try.underlying29 info8 rfl hown4 rfl R4 rfl (by omega) (by omega) hb4.size ?_; intro v5 w5 hown5 hgrow5; have hb5 := below_grow hb4 hown4 hgrow5 hb4.size; (simp only [List.nil_append] at hown5); obtain ⟨a5, k5, rfl, R5, -⟩ := reads_of_owns hown5 (u8_wf (oct_join (body_oct a n i p k t) R.oct))))
  clear x00 x01 x02 x03 x04 x05
  replace X0 := X0.later hb5
  replace R := R.later hb5
  replace R2 := R2.later hb5
  replace hB := below_step hB hb5
  clear hb5
  obtain ⟨x00, x01, x02, x03, x04, x05⟩ := X0.six
  refine (ruGet_put hk _ R5 (by simp only [List.length_append, hb9]) (by omega)).mono ?_
  rintro e w6 ⟨rfl, hb6⟩
  clear x00 x01 x02 x03 x04 x05
  replace X0 := X0.later hb6
  replace R := R.later hb6
  replace R2 := R2.later hb6
  replace hB := below_step hB hb6
  clear hb6
  obtain ⟨x00, x01, x02, x03, x04, x05⟩ := X0.six
  have hv0 := below_new w6 (.cells #[.int .i64 a, .int .i64 n, .int .i64 i, .int .i64 p, .int .i64 k, .int .i64 t] 27)
  clear x00 x01 x02 x03 x04 x05
  replace X0 := X0.later hv0
  replace R := R.later hv0
  replace R2 := R2.later hv0
  replace hB := below_step hB hv0
  clear hv0
  have V0 := Lies.new w6 [a, n, i, p, k, t] 27 (B := w6.heap.size) rfl
  obtain ⟨x00, x01, x02, x03, x04, x05⟩ := X0.six
  obtain ⟨v00, v01, v02, v03, v04, v05⟩ := V0.six
  go_wp2_with fail
  refine (ruGet_some _ R rfl (by omega) HP.out HN.out).mono ?_
  rintro e w7 ⟨rfl, hb7⟩
  clear x00 x01 x02 x03 x04 x05
  clear v00 v01 v02 v03 v04 v05
  replace X0 := X0.later hb7
  replace V0 := V0.later hb7
  replace R := R.later hb7
  replace R2 := R2.later hb7
  replace hB := below_step hB hb7
  clear hb7
  obtain ⟨x00, x01, x02, x03, x04, x05⟩ := X0.six
  obtain ⟨v00, v01, v02, v03, v04, v05⟩ := V0.six
  have hv1 := below_new w7 (.cells #[.int .i64 m0, .int .i64 m1, .int .i64 m2, .int .i64 m3, .int .i64 m4, .int .i64 m5] 27)
  clear x00 x01 x02 x03 x04 x05
  clear v00 v01 v02 v03 v04 v05
  replace X0 := X0.later hv1
  replace V0 := V0.later hv1
  replace R := R.later hv1
  replace R2 := R2.later hv1
  replace hB := below_step hB hv1
  clear hv1
  have V1 := Lies.new w7 [m0, m1, m2, m3, m4, m5] 27 (B := w7.heap.size) rfl
  obtain ⟨x00, x01, x02, x03, x04, x05⟩ := X0.six
  obtain ⟨v00, v01, v02, v03, v04, v05⟩ := V0.six
  obtain ⟨v10, v11, v12, v13, v14, v15⟩ := V1.six
  go_wp2_with fail
  refine (ruPut_ok hq _).mono ?_
  rintro e w8 ⟨ay, ky, rfl, RY, _, hb8⟩
  clear x00 x01 x02 x03 x04 x05
  clear v00 v01 v02 v03 v04 v05
  clear v10 v11 v12 v13 v14 v15
  replace X0 := X0.later hb8
  replace V0 := V0.later hb8
  replace V1 := V1.later hb8
  replace R := R.later hb8
  replace R2 := R2.later hb8
  replace hB := below_step hB hb8
  clear hb8
  obtain ⟨x00, x01, x02, x03, x04, x05⟩ := X0.six
  obtain ⟨v00, v01, v02, v03, v04, v05⟩ := V0.six
  obtain ⟨v10, v11, v12, v13, v14, v15⟩ := V1.six
  rw [HY.out] at RY
  have s1 := strs_at RY l9
  have s2 := strs_at (R.take 9) l9
  clear x00 x01 x02 x03 x04 x05
  clear v00 v01 v02 v03 v04 v05
  clear v10 v11 v12 v13 v14 v15
  clear R RY l9 R2 R5
  go_wp2_with fail
  go_quiet (fail)
  go_wp2_with fail
  go_ret
  exact ⟨rfl, hB.trans (below_draws _ _ _)⟩
theorem walk (a n i p k t : Int) (x : Option Addr) (c : Nat) (s : List Int) (wa : (Lit.int .i64 a).wf = true) (wn : (Lit.int .i64 n).wf = true) (wi : (Lit.int .i64 i).wf = true) (wp : (Lit.int .i64 p).wf = true) (wk : (Lit.int .i64 k).wf = true) (wt : (Lit.int .i64 t).wf = true) (w : World) (R : Reads .u8 w x c s) :
    Calls Try.prog 5 #[.agg #[.int .i64 a, .int .i64 n, .int .i64 i, .int .i64 p, .int .i64 k, .int .i64 t], .slice x s.length c] w fun e w' => e = .returned (.bool true) ∧ Below w.heap.size w w' := by
  by_cases hl : 3000 < s.length
  · exact back_long a n i p k t x c s w R hl
  by_cases hA : rgE s = 0
  · obtain ⟨h9, hq⟩ := rgE_zero hA
    have HY := got_put R.oct h9
    cases hk : okR a n i p k t
    · exact backfS a n i p k t x c s w R (by omega) hk hA ⟨rfl, rfl, rfl, rfl, rfl, rfl⟩ (by omega) hq HY
    · exact backtS a n i p k t x c s w R (by omega) hk hA ⟨rfl, rfl, rfl, rfl, rfl, rfl⟩ (by omega) hq HY
  · cases hk : okR a n i p k t
    · exact backfN a n i p k t x c s w R (by omega) hk rfl hA
    · exact backtN a n i p k t x c s w R (by omega) hk rfl hA

theorem own : ownKnob Try.prog.godebug = none := by kernel_rfl
theorem laidOut : laidOutB Try.prog = true := by kernel_rfl
set_option maxRecDepth 100000 in
theorem lifted (os : Os) (started : os.Started) (H : Type) (enc : TypeId × Value → H) :
    ReturnsInHanded {} Try.checked os 5 .any (Rows.ruleBackSpec.pre6 enc Try.prog Try.f5 Rows.ruleBackRow.domain false) (Rows.ruleBackSpec.post enc Try.prog Try.f5 false true false false) := by
  refine returnsInHanded_of_change (C := Try.checked) own started (by kernel_rfl) Try.func5
    (ChangeSpec.witness6 (enc := enc) (C := Try.checked) false ⟨#[], #[.agg #[.int .i64 0, .int .i64 0, .int .i64 0, .int .i64 0, .int .i64 0, .int .i64 0], .slice none 0 0], []⟩ 8 (by kernel_rfl) (by kernel_rfl) (by kernel_rfl) (by kernel_rfl)) ?_
  intro W base args ds gs before hval0 hW hcnd _
  have hval : ∀ (j : Nat) t v, Try.f5.params[j]? = some t → args[j]? = some v → Value.okWide Try.prog W .any base t v := hval0
  have hW' := hW
  obtain ⟨p, q, hA0, hV, rfl, hfz, hnd⟩ := hW
  have hA : DataW.TrodAll enc Try.prog W 0 (fun _ => true) true Try.f5.params.toList args.toList ds p := hA0
  rw [Try.params5] at hA hval
  obtain ⟨v0, vs0, d0, ds0, p0, q0, hargs, rfl, rfl, h0, r0⟩ := trodAll_cons hA
  obtain ⟨v1, vs1, d1, ds1, p1, q1, rfl, rfl, rfl, h1, r1⟩ := trodAll_cons r0
  obtain ⟨rfl, rfl, rfl⟩ := trodAll_nil r1
  obtain rfl : args = #[v0, v1] := by cases args; simp_all
  obtain ⟨rfl, rfl⟩ := trodVars_none hV
  have k0 := h0
  have lt0 : ∀ x ∈ p0, x.block < W.heap.size := by obtain ⟨m, hm⟩ := k0; exact DataW.trod_lt m _ _ _ hm
  obtain ⟨a1, n1, c1, rfl⟩ := okWide_slice Try.underlying29 (hval 1 29 v1 rfl rfl)
  have k1 := h1
  have lt1 : ∀ x ∈ p1, x.block < W.heap.size := by obtain ⟨m, hm⟩ := k1; exact DataW.trod_lt m _ _ _ hm
  obtain ⟨a0, b0, c0, d0, e0, f0, rfl, w0a, w0b, w0c, w0d, w0e, w0f⟩ := open_rule (hval 0 27 v0 rfl rfl) h0
  obtain ⟨l1, el1, R1⟩ : ∃ l, n1 = List.length l ∧ Reads .u8 W a1 c1 l := by
    obtain ⟨fuel, hf⟩ := h1
    rcases open_ints Try.underlying29 Try.underlying5 (by kernel_rfl) hf with ⟨hcs, _⟩ | ⟨x, l, c, zs, hcs, _, hl, hm, hz, _, hcell, hwz⟩
    · simp [Value.cells] at hcs
      obtain ⟨rfl, rfl, rfl⟩ := hcs
      exact ⟨[], rfl, Reads.none _ _⟩
    · simp [Value.cells] at hcs
      obtain ⟨rfl, rfl, rfl⟩ := hcs
      have hz2 : List.length zs = c1 := by simpa using hz
      exact ⟨List.take _ zs, by rw [List.length_take, hz2]; omega, reads_of_ints hl hm hz2 hcell hwz⟩
  subst el1
  clear hA0 hval0
  refine (walk a0 b0 c0 d0 e0 f0 a1 c1 l1 w0a w0b w0c w0d w0e w0f W R1).mono fun e W' ⟨he, bel⟩ => ?_
  subst he
  exact ⟨_, rfl, _, _, _, [], _, [], hW', trodAll_mk1 (shut_bool Try.underlying4 _), (trodAll_cons_mk (Below.trod laidOut (by kernel_rfl) (of_decide_eq_true (by kernel_rfl)) k0 bel lt0) (trodAll_cons_mk (Below.trod laidOut (by kernel_rfl) (of_decide_eq_true (by kernel_rfl)) k1 bel lt1) trodAll_mk0)), rfl, bel.frame _, fun h => by cases h⟩

theorem over : Rows.ruleBackRow.holds Try.pinned (OpenSpec.ofChange Rows.ruleBackSpec) :=
  OpenClaim.holds_of_wide 5 Try.f5 rfl rfl rfl rfl rfl rfl rfl ⟨rfl, rfl, rfl, rfl, rfl⟩ rfl rfl rfl rfl rfl (by kernel_rfl) Try.func5 (by kernel_rfl)
    (of_decide_eq_true (by kernel_rfl)) (by unfold Func.isWrapper; first | (rw [if_pos (by decide +kernel)]; kernel_rfl) | (rw [if_neg (by decide +kernel)]; exact ⟨rfl, rfl⟩))
    (fun os started H enc _ => lifted os started H enc)
end Go.Proofs.Ytkpgifpnmccdcaa.ruleBack
namespace Go.Proofs.Ytkpgifpnmccdcaa
theorem ruleBack_holds : Rows.RuleBackSaid := ruleBack.over
#print axioms ruleBack_holds
end Go.Proofs.Ytkpgifpnmccdcaa
