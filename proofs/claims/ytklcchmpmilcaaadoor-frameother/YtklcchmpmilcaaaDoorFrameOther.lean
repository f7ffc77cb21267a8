/- Proved: for all messages m and n the call FrameOther(m, n) returns true: two messages that are not the same have other frames. The table of package msg starts as the program's text lays it (the tie: of the pruned copy that the seat holds). -/
import Derived.Test.YtklcchmpmilcaaaDoorFrameSeal
import Derived.Test.YtklcchmpmilcaaaDoorMsgLaid
import Derived.Test.YtklcchmpmilcaaaDoorTie
import Derived.Test.YtklcchmpmilcaaaDoorCards
import Derived.SevenTiedAt
import Derived.Lib.SmallJoins
namespace Go.Proofs.YtklcchmpmilcaaaDoor.frameOther
open Go.ChangeShapes Go.WideShapes Go.ChangeAt Go.RowKit R Q Fr
set_option linter.unusedVariables false


set_option maxHeartbeats 2000000 in
theorem eq_msg (y z v g a n i p k t y2 z2 v2 g2 a2 n2 i2 p2 k2 t2 : Int) (w : World) : (binOp .eql 29 (.agg #[.int .i64 y, .int .i64 z, .int .i64 v, .int .i64 g, .int .i64 a, .int .i64 n, .int .i64 i, .int .i64 p, .int .i64 k, .int .i64 t]) (.agg #[.int .i64 y2, .int .i64 z2, .int .i64 v2, .int .i64 g2, .int .i64 a2, .int .i64 n2, .int .i64 i2, .int .i64 p2, .int .i64 k2, .int .i64 t2])).run Tryd.prog w = .ok (.bool ((y == y2) && ((z == z2) && ((v == v2) && ((g == g2) && ((a == a2) && ((n == n2) && ((i == i2) && ((p == p2) && ((k == k2) && ((t == t2)))))))))))) w := by
  cases h0 : (y == y2)
  · go_simp
  cases h1 : (z == z2)
  · go_simp
  cases h2 : (v == v2)
  · go_simp
  cases h3 : (g == g2)
  · go_simp
  cases h4 : (a == a2)
  · go_simp
  cases h5 : (n == n2)
  · go_simp
  cases h6 : (i == i2)
  · go_simp
  cases h7 : (p == p2)
  · go_simp
  cases h8 : (k == k2)
  · go_simp
  cases h9 : (t == t2)
  · go_simp
  go_simp
theorem differ {l m : List Int} (hl : O.Oct l) (hm : O.Oct m) (h : l ≠ m) : ((strOfNums l).toList == (strOfNums m).toList) = false := by
  rw [beq_eq_false_iff_ne]
  intro e
  apply h
  apply strOfNums_inj hl hm
  rw [ByteArray.toList_eq, ByteArray.toList_eq] at e
  exact ByteArray.ext (Array.toList_inj.1 e)
theorem same_is {y z v g a n i p k t y2 z2 v2 g2 a2 n2 i2 p2 k2 t2 : Int} (h : okM y z v g a n i p k t = true) (h' : okM y2 z2 v2 g2 a2 n2 i2 p2 k2 t2 = true) : ((strOfNums (frameM y z v g a n i p k t)).toList == (strOfNums (frameM y2 z2 v2 g2 a2 n2 i2 p2 k2 t2)).toList) = ((y == y2) && ((z == z2) && ((v == v2) && ((g == g2) && ((a == a2) && ((n == n2) && ((i == i2) && ((p == p2) && ((k == k2) && ((t == t2))))))))))) := by
  by_cases e : frameM y z v g a n i p k t = frameM y2 z2 v2 g2 a2 n2 i2 p2 k2 t2
  · obtain ⟨rfl, rfl, rfl, rfl, rfl, rfl, rfl, rfl, rfl, rfl⟩ := frame_one h h' e
    simp
  · rw [differ (frame_oct h) (frame_oct h') e]
    symm
    rw [Bool.eq_false_iff]
    intro hc
    simp only [Bool.and_eq_true, beq_iff_eq] at hc
    obtain ⟨rfl, rfl, rfl, rfl, rfl, rfl, rfl, rfl, rfl, rfl⟩ := hc
    exact e rfl
theorem len_even (y : Int) : (lenFr y : Int).tmod 2 = 0 := by rcases lenFr_or y with h | h <;> rw [h] <;> rfl
set_option maxHeartbeats 2000000 in
theorem other_00 (y z v g a n i p k t y2 z2 v2 g2 a2 n2 i2 p2 k2 t2 : Int) (w : World) (T : Tab w) (hk : okM y z v g a n i p k t = false) (hj : okM y2 z2 v2 g2 a2 n2 i2 p2 k2 t2 = false) :
    Calls Tryd.prog 8 #[.agg #[.int .i64 y, .int .i64 z, .int .i64 v, .int .i64 g, .int .i64 a, .int .i64 n, .int .i64 i, .int .i64 p, .int .i64 k, .int .i64 t], .agg #[.int .i64 y2, .int .i64 z2, .int .i64 v2, .int .i64 g2, .int .i64 a2, .int .i64 n2, .int .i64 i2, .int .i64 p2, .int .i64 k2, .int .i64 t2]] w fun e w' => e = .returned (.bool true) ∧ Below w.heap.size w w' := by
  have hn0 := below_new w (.cells #[.int .i64 y, .int .i64 z, .int .i64 v, .int .i64 g, .int .i64 a, .int .i64 n, .int .i64 i, .int .i64 p, .int .i64 k, .int .i64 t] 29)
  have X0 := Lies.new w [y, z, v, g, a, n, i, p, k, t] 29 (B := w.heap.size) rfl
  have hB := hn0
  have hn1 := below_new (w.alloc (.cells #[.int .i64 y, .int .i64 z, .int .i64 v, .int .i64 g, .int .i64 a, .int .i64 n, .int .i64 i, .int .i64 p, .int .i64 k, .int .i64 t] 29)) (.cells #[.int .i64 y2, .int .i64 z2, .int .i64 v2, .int .i64 g2, .int .i64 a2, .int .i64 n2, .int .i64 i2, .int .i64 p2, .int .i64 k2, .int .i64 t2] 29)
  have X1 := Lies.new (w.alloc (.cells #[.int .i64 y, .int .i64 z, .int .i64 v, .int .i64 g, .int .i64 a, .int .i64 n, .int .i64 i, .int .i64 p, .int .i64 k, .int .i64 t] 29)) [y2, z2, v2, g2, a2, n2, i2, p2, k2, t2] 29 (B := w.heap.size + 1) (by simp)
  replace X0 := X0.later hn1
  replace hB := below_step hB hn1
  clear hn0 hn1
  obtain ⟨x00, x01, x02, x03, x04, x05, x06, x07, x08, x09⟩ := X0.ten
  obtain ⟨x10, x11, x12, x13, x14, x15, x16, x17, x18, x19⟩ := X1.ten
  replace T := T.later hB
  go_enter Tryd.func8, Tryd.ntmps8
  go_wp2_with fail
  refine (awake_any _ T).mono ?_
  rintro e w1 ⟨rfl, hb1⟩
  clear x00 x01 x02 x03 x04 x05 x06 x07 x08 x09
  clear x10 x11 x12 x13 x14 x15 x16 x17 x18 x19
  replace X0 := X0.later hb1
  replace X1 := X1.later hb1
  replace T := T.later hb1
  replace hB := below_step hB hb1
  clear hb1
  obtain ⟨x00, x01, x02, x03, x04, x05, x06, x07, x08, x09⟩ := X0.ten
  obtain ⟨x10, x11, x12, x13, x14, x15, x16, x17, x18, x19⟩ := X1.ten
  go_wp2_with fail
  refine (fSeal_bad hk _ T).mono ?_
  rintro e w2 ⟨rfl, hb2⟩
  clear x00 x01 x02 x03 x04 x05 x06 x07 x08 x09
  clear x10 x11 x12 x13 x14 x15 x16 x17 x18 x19
  replace X0 := X0.later hb2
  replace X1 := X1.later hb2
  replace T := T.later hb2
  replace hB := below_step hB hb2
  clear hb2
  obtain ⟨x00, x01, x02, x03, x04, x05, x06, x07, x08, x09⟩ := X0.ten
  obtain ⟨x10, x11, x12, x13, x14, x15, x16, x17, x18, x19⟩ := X1.ten
  go_wp2_with fail
  refine (fSeal_bad hj _ T).mono ?_
  rintro e w3 ⟨rfl, hb3⟩
  clear x00 x01 x02 x03 x04 x05 x06 x07 x08 x09
  clear x10 x11 x12 x13 x14 x15 x16 x17 x18 x19
  replace X0 := X0.later hb3
  replace X1 := X1.later hb3
  replace T := T.later hb3
  replace hB := below_step hB hb3
  clear hb3
  obtain ⟨x00, x01, x02, x03, x04, x05, x06, x07, x08, x09⟩ := X0.ten
  obtain ⟨x10, x11, x12, x13, x14, x15, x16, x17, x18, x19⟩ := X1.ten
  go_wp2_with fail
  go_ret
  exact ⟨rfl, hB⟩
set_option maxHeartbeats 2000000 in
theorem other_01 (y z v g a n i p k t y2 z2 v2 g2 a2 n2 i2 p2 k2 t2 : Int) (w : World) (T : Tab w) (hk : okM y z v g a n i p k t = false) (hj : okM y2 z2 v2 g2 a2 n2 i2 p2 k2 t2 = true) :
    Calls Tryd.prog 8 #[.agg #[.int .i64 y, .int .i64 z, .int .i64 v, .int .i64 g, .int .i64 a, .int .i64 n, .int .i64 i, .int .i64 p, .int .i64 k, .int .i64 t], .agg #[.int .i64 y2, .int .i64 z2, .int .i64 v2, .int .i64 g2, .int .i64 a2, .int .i64 n2, .int .i64 i2, .int .i64 p2, .int .i64 k2, .int .i64 t2]] w fun e w' => e = .returned (.bool true) ∧ Below w.heap.size w w' := by
  have hn0 := below_new w (.cells #[.int .i64 y, .int .i64 z, .int .i64 v, .int .i64 g, .int .i64 a, .int .i64 n, .int .i64 i, .int .i64 p, .int .i64 k, .int .i64 t] 29)
  have X0 := Lies.new w [y, z, v, g, a, n, i, p, k, t] 29 (B := w.heap.size) rfl
  have hB := hn0
  have hn1 := below_new (w.alloc (.cells #[.int .i64 y, .int .i64 z, .int .i64 v, .int .i64 g, .int .i64 a, .int .i64 n, .int .i64 i, .int .i64 p, .int .i64 k, .int .i64 t] 29)) (.cells #[.int .i64 y2, .int .i64 z2, .int .i64 v2, .int .i64 g2, .int .i64 a2, .int .i64 n2, .int .i64 i2, .int .i64 p2, .int .i64 k2, .int .i64 t2] 29)
  have X1 := Lies.new (w.alloc (.cells #[.int .i64 y, .int .i64 z, .int .i64 v, .int .i64 g, .int .i64 a, .int .i64 n, .int .i64 i, .int .i64 p, .int .i64 k, .int .i64 t] 29)) [y2, z2, v2, g2, a2, n2, i2, p2, k2, t2] 29 (B := w.heap.size + 1) (by simp)
  replace X0 := X0.later hn1
  replace hB := below_step hB hn1
  clear hn0 hn1
  obtain ⟨x00, x01, x02, x03, x04, x05, x06, x07, x08, x09⟩ := X0.ten
  obtain ⟨x10, x11, x12, x13, x14, x15, x16, x17, x18, x19⟩ := X1.ten
  replace T := T.later hB
  go_enter Tryd.func8, Tryd.ntmps8
  go_wp2_with fail
  refine (awake_any _ T).mono ?_
  rintro e w1 ⟨rfl, hb1⟩
  clear x00 x01 x02 x03 x04 x05 x06 x07 x08 x09
  clear x10 x11 x12 x13 x14 x15 x16 x17 x18 x19
  replace X0 := X0.later hb1
  replace X1 := X1.later hb1
  replace T := T.later hb1
  replace hB := below_step hB hb1
  clear hb1
  obtain ⟨x00, x01, x02, x03, x04, x05, x06, x07, x08, x09⟩ := X0.ten
  obtain ⟨x10, x11, x12, x13, x14, x15, x16, x17, x18, x19⟩ := X1.ten
  go_wp2_with fail
  refine (fSeal_bad hk _ T).mono ?_
  rintro e w2 ⟨rfl, hb2⟩
  clear x00 x01 x02 x03 x04 x05 x06 x07 x08 x09
  clear x10 x11 x12 x13 x14 x15 x16 x17 x18 x19
  replace X0 := X0.later hb2
  replace X1 := X1.later hb2
  replace T := T.later hb2
  replace hB := below_step hB hb2
  clear hb2
  obtain ⟨x00, x01, x02, x03, x04, x05, x06, x07, x08, x09⟩ := X0.ten
  obtain ⟨x10, x11, x12, x13, x14, x15, x16, x17, x18, x19⟩ := X1.ten
  go_wp2_with fail
  refine (fSeal_ok hj _ T).mono ?_
  rintro e w3 ⟨ay, ky, rfl, R3, hb3⟩
  clear x00 x01 x02 x03 x04 x05 x06 x07 x08 x09
  clear x10 x11 x12 x13 x14 x15 x16 x17 x18 x19
  replace X0 := X0.later hb3
  replace X1 := X1.later hb3
  replace T := T.later hb3
  replace hB := below_step hB hb3
  clear hb3
  obtain ⟨x00, x01, x02, x03, x04, x05, x06, x07, x08, x09⟩ := X0.ten
  obtain ⟨x10, x11, x12, x13, x14, x15, x16, x17, x18, x19⟩ := X1.ten
  go_wp2_with fail
  go_ret
  exact ⟨rfl, hB⟩
set_option maxHeartbeats 2000000 in
theorem other_10 (y z v g a n i p k t y2 z2 v2 g2 a2 n2 i2 p2 k2 t2 : Int) (w : World) (T : Tab w) (hk : okM y z v g a n i p k t = true) (hj : okM y2 z2 v2 g2 a2 n2 i2 p2 k2 t2 = false) :
    Calls Tryd.prog 8 #[.agg #[.int .i64 y, .int .i64 z, .int .i64 v, .int .i64 g, .int .i64 a, .int .i64 n, .int .i64 i, .int .i64 p, .int .i64 k, .int .i64 t], .agg #[.int .i64 y2, .int .i64 z2, .int .i64 v2, .int .i64 g2, .int .i64 a2, .int .i64 n2, .int .i64 i2, .int .i64 p2, .int .i64 k2, .int .i64 t2]] w fun e w' => e = .returned (.bool true) ∧ Below w.heap.size w w' := by
  have hn0 := below_new w (.cells #[.int .i64 y, .int .i64 z, .int .i64 v, .int .i64 g, .int .i64 a, .int .i64 n, .int .i64 i, .int .i64 p, .int .i64 k, .int .i64 t] 29)
  have X0 := Lies.new w [y, z, v, g, a, n, i, p, k, t] 29 (B := w.heap.size) rfl
  have hB := hn0
  have hn1 := below_new (w.alloc (.cells #[.int .i64 y, .int .i64 z, .int .i64 v, .int .i64 g, .int .i64 a, .int .i64 n, .int .i64 i, .int .i64 p, .int .i64 k, .int .i64 t] 29)) (.cells #[.int .i64 y2, .int .i64 z2, .int .i64 v2, .int .i64 g2, .int .i64 a2, .int .i64 n2, .int .i64 i2, .int .i64 p2, .int .i64 k2, .int .i64 t2] 29)
  have X1 := Lies.new (w.alloc (.cells #[.int .i64 y, .int .i64 z, .int .i64 v, .int .i64 g, .int .i64 a, .int .i64 n, .int .i64 i, .int .i64 p, .int .i64 k, .int .i64 t] 29)) [y2, z2, v2, g2, a2, n2, i2, p2, k2, t2] 29 (B := w.heap.size + 1) (by simp)
  replace X0 := X0.later hn1
  replace hB := below_step hB hn1
  clear hn0 hn1
  obtain ⟨x00, x01, x02, x03, x04, x05, x06, x07, x08, x09⟩ := X0.ten
  obtain ⟨x10, x11, x12, x13, x14, x15, x16, x17, x18, x19⟩ := X1.ten
  replace T := T.later hB
  go_enter Tryd.func8, Tryd.ntmps8
  go_wp2_with fail
  refine (awake_any _ T).mono ?_
  rintro e w1 ⟨rfl, hb1⟩
  clear x00 x01 x02 x03 x04 x05 x06 x07 x08 x09
  clear x10 x11 x12 x13 x14 x15 x16 x17 x18 x19
  replace X0 := X0.later hb1
  replace X1 := X1.later hb1
  replace T := T.later hb1
  replace hB := below_step hB hb1
  clear hb1
  obtain ⟨x00, x01, x02, x03, x04, x05, x06, x07, x08, x09⟩ := X0.ten
  obtain ⟨x10, x11, x12, x13, x14, x15, x16, x17, x18, x19⟩ := X1.ten
  go_wp2_with fail
  refine (fSeal_ok hk _ T).mono ?_
  rintro e w2 ⟨ax, kx, rfl, R2, hb2⟩
  clear x00 x01 x02 x03 x04 x05 x06 x07 x08 x09
  clear x10 x11 x12 x13 x14 x15 x16 x17 x18 x19
  replace X0 := X0.later hb2
  replace X1 := X1.later hb2
  replace T := T.later hb2
  replace hB := below_step hB hb2
  clear hb2
  obtain ⟨x00, x01, x02, x03, x04, x05, x06, x07, x08, x09⟩ := X0.ten
  obtain ⟨x10, x11, x12, x13, x14, x15, x16, x17, x18, x19⟩ := X1.ten
  go_wp2_with fail
  refine (fSeal_bad hj _ T).mono ?_
  rintro e w3 ⟨rfl, hb3⟩
  clear x00 x01 x02 x03 x04 x05 x06 x07 x08 x09
  clear x10 x11 x12 x13 x14 x15 x16 x17 x18 x19
  replace X0 := X0.later hb3
  replace X1 := X1.later hb3
  replace T := T.later hb3
  replace R2 := R2.later hb3
  replace hB := below_step hB hb3
  clear hb3
  obtain ⟨x00, x01, x02, x03, x04, x05, x06, x07, x08, x09⟩ := X0.ten
  obtain ⟨x10, x11, x12, x13, x14, x15, x16, x17, x18, x19⟩ := X1.ten
  go_wp2_with fail
  go_ret
  exact ⟨rfl, hB⟩
set_option maxHeartbeats 2000000 in
theorem other_false (y z v g a n i p k t y2 z2 v2 g2 a2 n2 i2 p2 k2 t2 : Int) (w : World) (T : Tab w) (hk : okM y z v g a n i p k t = true) (hj : okM y2 z2 v2 g2 a2 n2 i2 p2 k2 t2 = true) (hs : ((strOfNums (frameM y z v g a n i p k t)).toList == (strOfNums (frameM y2 z2 v2 g2 a2 n2 i2 p2 k2 t2)).toList) = false)
    (hq : ∀ w, (binOp .eql 29 (.agg #[.int .i64 y, .int .i64 z, .int .i64 v, .int .i64 g, .int .i64 a, .int .i64 n, .int .i64 i, .int .i64 p, .int .i64 k, .int .i64 t]) (.agg #[.int .i64 y2, .int .i64 z2, .int .i64 v2, .int .i64 g2, .int .i64 a2, .int .i64 n2, .int .i64 i2, .int .i64 p2, .int .i64 k2, .int .i64 t2])).run Tryd.prog w = .ok (.bool false) w) (hev : (lenFr y : Int).tmod 2 = 0) :
    Calls Tryd.prog 8 #[.agg #[.int .i64 y, .int .i64 z, .int .i64 v, .int .i64 g, .int .i64 a, .int .i64 n, .int .i64 i, .int .i64 p, .int .i64 k, .int .i64 t], .agg #[.int .i64 y2, .int .i64 z2, .int .i64 v2, .int .i64 g2, .int .i64 a2, .int .i64 n2, .int .i64 i2, .int .i64 p2, .int .i64 k2, .int .i64 t2]] w fun e w' => e = .returned (.bool true) ∧ Below w.heap.size w w' := by
  have hn0 := below_new w (.cells #[.int .i64 y, .int .i64 z, .int .i64 v, .int .i64 g, .int .i64 a, .int .i64 n, .int .i64 i, .int .i64 p, .int .i64 k, .int .i64 t] 29)
  have X0 := Lies.new w [y, z, v, g, a, n, i, p, k, t] 29 (B := w.heap.size) rfl
  have hB := hn0
  have hn1 := below_new (w.alloc (.cells #[.int .i64 y, .int .i64 z, .int .i64 v, .int .i64 g, .int .i64 a, .int .i64 n, .int .i64 i, .int .i64 p, .int .i64 k, .int .i64 t] 29)) (.cells #[.int .i64 y2, .int .i64 z2, .int .i64 v2, .int .i64 g2, .int .i64 a2, .int .i64 n2, .int .i64 i2, .int .i64 p2, .int .i64 k2, .int .i64 t2] 29)
  have X1 := Lies.new (w.alloc (.cells #[.int .i64 y, .int .i64 z, .int .i64 v, .int .i64 g, .int .i64 a, .int .i64 n, .int .i64 i, .int .i64 p, .int .i64 k, .int .i64 t] 29)) [y2, z2, v2, g2, a2, n2, i2, p2, k2, t2] 29 (B := w.heap.size + 1) (by simp)
  replace X0 := X0.later hn1
  replace hB := below_step hB hn1
  clear hn0 hn1
  obtain ⟨x00, x01, x02, x03, x04, x05, x06, x07, x08, x09⟩ := X0.ten
  obtain ⟨x10, x11, x12, x13, x14, x15, x16, x17, x18, x19⟩ := X1.ten
  replace T := T.later hB
  go_enter Tryd.func8, Tryd.ntmps8
  go_wp2_with fail
  refine (awake_any _ T).mono ?_
  rintro e w1 ⟨rfl, hb1⟩
  clear x00 x01 x02 x03 x04 x05 x06 x07 x08 x09
  clear x10 x11 x12 x13 x14 x15 x16 x17 x18 x19
  replace X0 := X0.later hb1
  replace X1 := X1.later hb1
  replace T := T.later hb1
  replace hB := below_step hB hb1
  clear hb1
  obtain ⟨x00, x01, x02, x03, x04, x05, x06, x07, x08, x09⟩ := X0.ten
  obtain ⟨x10, x11, x12, x13, x14, x15, x16, x17, x18, x19⟩ := X1.ten
  go_wp2_with fail
  refine (fSeal_ok hk _ T).mono ?_
  rintro e w2 ⟨ax, kx, rfl, R2, hb2⟩
  clear x00 x01 x02 x03 x04 x05 x06 x07 x08 x09
  clear x10 x11 x12 x13 x14 x15 x16 x17 x18 x19
  replace X0 := X0.later hb2
  replace X1 := X1.later hb2
  replace T := T.later hb2
  replace hB := below_step hB hb2
  clear hb2
  obtain ⟨x00, x01, x02, x03, x04, x05, x06, x07, x08, x09⟩ := X0.ten
  obtain ⟨x10, x11, x12, x13, x14, x15, x16, x17, x18, x19⟩ := X1.ten
  go_wp2_with fail
  refine (fSeal_ok hj _ T).mono ?_
  rintro e w3 ⟨ay, ky, rfl, R3, hb3⟩
  clear x00 x01 x02 x03 x04 x05 x06 x07 x08 x09
  clear x10 x11 x12 x13 x14 x15 x16 x17 x18 x19
  replace X0 := X0.later hb3
  replace X1 := X1.later hb3
  replace T := T.later hb3
  replace R2 := R2.later hb3
  replace hB := below_step hB hb3
  clear hb3
  obtain ⟨x00, x01, x02, x03, x04, x05, x06, x07, x08, x09⟩ := X0.ten
  obtain ⟨x10, x11, x12, x13, x14, x15, x16, x17, x18, x19⟩ := X1.ten
  have s1 := strs_at R2 (frame_len hk)
  have s2 := strs_at R3 (frame_len hj)
  clear R2 R3 T hk hj
  go_wp2_with fail
  go_quiet (fail)
  go_wp2_with fail
  go_ret
  exact ⟨rfl, hB.trans (below_draws _ _ _)⟩
set_option maxHeartbeats 2000000 in
theorem other_true (y z v g a n i p k t y2 z2 v2 g2 a2 n2 i2 p2 k2 t2 : Int) (w : World) (T : Tab w) (hk : okM y z v g a n i p k t = true) (hj : okM y2 z2 v2 g2 a2 n2 i2 p2 k2 t2 = true) (hs : ((strOfNums (frameM y z v g a n i p k t)).toList == (strOfNums (frameM y2 z2 v2 g2 a2 n2 i2 p2 k2 t2)).toList) = true)
    (hq : ∀ w, (binOp .eql 29 (.agg #[.int .i64 y, .int .i64 z, .int .i64 v, .int .i64 g, .int .i64 a, .int .i64 n, .int .i64 i, .int .i64 p, .int .i64 k, .int .i64 t]) (.agg #[.int .i64 y2, .int .i64 z2, .int .i64 v2, .int .i64 g2, .int .i64 a2, .int .i64 n2, .int .i64 i2, .int .i64 p2, .int .i64 k2, .int .i64 t2])).run Tryd.prog w = .ok (.bool true) w) (hev : (lenFr y : Int).tmod 2 = 0) :
    Calls Tryd.prog 8 #[.agg #[.int .i64 y, .int .i64 z, .int .i64 v, .int .i64 g, .int .i64 a, .int .i64 n, .int .i64 i, .int .i64 p, .int .i64 k, .int .i64 t], .agg #[.int .i64 y2, .int .i64 z2, .int .i64 v2, .int .i64 g2, .int .i64 a2, .int .i64 n2, .int .i64 i2, .int .i64 p2, .int .i64 k2, .int .i64 t2]] w fun e w' => e = .returned (.bool true) ∧ Below w.heap.size w w' := by
  have hn0 := below_new w (.cells #[.int .i64 y, .int .i64 z, .int .i64 v, .int .i64 g, .int .i64 a, .int .i64 n, .int .i64 i, .int .i64 p, .int .i64 k, .int .i64 t] 29)
  have X0 := Lies.new w [y, z, v, g, a, n, i, p, k, t] 29 (B := w.heap.size) rfl
  have hB := hn0
  have hn1 := below_new (w.alloc (.cells #[.int .i64 y, .int .i64 z, .int .i64 v, .int .i64 g, .int .i64 a, .int .i64 n, .int .i64 i, .int .i64 p, .int .i64 k, .int .i64 t] 29)) (.cells #[.int .i64 y2, .int .i64 z2, .int .i64 v2, .int .i64 g2, .int .i64 a2, .int .i64 n2, .int .i64 i2, .int .i64 p2, .int .i64 k2, .int .i64 t2] 29)
  have X1 := Lies.new (w.alloc (.cells #[.int .i64 y, .int .i64 z, .int .i64 v, .int .i64 g, .int .i64 a, .int .i64 n, .int .i64 i, .int .i64 p, .int .i64 k, .int .i64 t] 29)) [y2, z2, v2, g2, a2, n2, i2, p2, k2, t2] 29 (B := w.heap.size + 1) (by simp)
  replace X0 := X0.later hn1
  replace hB := below_step hB hn1
  clear hn0 hn1
  obtain ⟨x00, x01, x02, x03, x04, x05, x06, x07, x08, x09⟩ := X0.ten
  obtain ⟨x10, x11, x12, x13, x14, x15, x16, x17, x18, x19⟩ := X1.ten
  replace T := T.later hB
  go_enter Tryd.func8, Tryd.ntmps8
  go_wp2_with fail
  refine (awake_any _ T).mono ?_
  rintro e w1 ⟨rfl, hb1⟩
  clear x00 x01 x02 x03 x04 x05 x06 x07 x08 x09
  clear x10 x11 x12 x13 x14 x15 x16 x17 x18 x19
  replace X0 := X0.later hb1
  replace X1 := X1.later hb1
  replace T := T.later hb1
  replace hB := below_step hB hb1
  clear hb1
  obtain ⟨x00, x01, x02, x03, x04, x05, x06, x07, x08, x09⟩ := X0.ten
  obtain ⟨x10, x11, x12, x13, x14, x15, x16, x17, x18, x19⟩ := X1.ten
  go_wp2_with fail
  refine (fSeal_ok hk _ T).mono ?_
  rintro e w2 ⟨ax, kx, rfl, R2, hb2⟩
  clear x00 x01 x02 x03 x04 x05 x06 x07 x08 x09
  clear x10 x11 x12 x13 x14 x15 x16 x17 x18 x19
  replace X0 := X0.later hb2
  replace X1 := X1.later hb2
  replace T := T.later hb2
  replace hB := below_step hB hb2
  clear hb2
  obtain ⟨x00, x01, x02, x03, x04, x05, x06, x07, x08, x09⟩ := X0.ten
  obtain ⟨x10, x11, x12, x13, x14, x15, x16, x17, x18, x19⟩ := X1.ten
  go_wp2_with fail
  refine (fSeal_ok hj _ T).mono ?_
  rintro e w3 ⟨ay, ky, rfl, R3, hb3⟩
  clear x00 x01 x02 x03 x04 x05 x06 x07 x08 x09
  clear x10 x11 x12 x13 x14 x15 x16 x17 x18 x19
  replace X0 := X0.later hb3
  replace X1 := X1.later hb3
  replace T := T.later hb3
  replace R2 := R2.later hb3
  replace hB := below_step hB hb3
  clear hb3
  obtain ⟨x00, x01, x02, x03, x04, x05, x06, x07, x08, x09⟩ := X0.ten
  obtain ⟨x10, x11, x12, x13, x14, x15, x16, x17, x18, x19⟩ := X1.ten
  have s1 := strs_at R2 (frame_len hk)
  have s2 := strs_at R3 (frame_len hj)
  clear R2 R3 T hk hj
  go_wp2_with fail
  go_quiet (fail)
  go_wp2_with fail
  go_ret
  exact ⟨rfl, hB.trans (below_draws _ _ _)⟩
theorem walk (y z v g a n i p k t y2 z2 v2 g2 a2 n2 i2 p2 k2 t2 : Int) (wy : (Lit.int .i64 y).wf = true) (wz : (Lit.int .i64 z).wf = true) (wv : (Lit.int .i64 v).wf = true) (wg : (Lit.int .i64 g).wf = true) (wa : (Lit.int .i64 a).wf = true) (wn : (Lit.int .i64 n).wf = true) (wi : (Lit.int .i64 i).wf = true) (wp : (Lit.int .i64 p).wf = true) (wk : (Lit.int .i64 k).wf = true) (wt : (Lit.int .i64 t).wf = true) (wy2 : (Lit.int .i64 y2).wf = true) (wz2 : (Lit.int .i64 z2).wf = true) (wv2 : (Lit.int .i64 v2).wf = true) (wg2 : (Lit.int .i64 g2).wf = true) (wa2 : (Lit.int .i64 a2).wf = true) (wn2 : (Lit.int .i64 n2).wf = true) (wi2 : (Lit.int .i64 i2).wf = true) (wp2 : (Lit.int .i64 p2).wf = true) (wk2 : (Lit.int .i64 k2).wf = true) (wt2 : (Lit.int .i64 t2).wf = true) (w : World) (T : Tab w) :
    Calls Tryd.prog 8 #[.agg #[.int .i64 y, .int .i64 z, .int .i64 v, .int .i64 g, .int .i64 a, .int .i64 n, .int .i64 i, .int .i64 p, .int .i64 k, .int .i64 t], .agg #[.int .i64 y2, .int .i64 z2, .int .i64 v2, .int .i64 g2, .int .i64 a2, .int .i64 n2, .int .i64 i2, .int .i64 p2, .int .i64 k2, .int .i64 t2]] w fun e w' => e = .returned (.bool true) ∧ Below w.heap.size w w' := by
  cases hk : okM y z v g a n i p k t
  · cases hj : okM y2 z2 v2 g2 a2 n2 i2 p2 k2 t2
    · exact other_00 y z v g a n i p k t y2 z2 v2 g2 a2 n2 i2 p2 k2 t2 w T hk hj
    · exact other_01 y z v g a n i p k t y2 z2 v2 g2 a2 n2 i2 p2 k2 t2 w T hk hj
  · cases hj : okM y2 z2 v2 g2 a2 n2 i2 p2 k2 t2
    · exact other_10 y z v g a n i p k t y2 z2 v2 g2 a2 n2 i2 p2 k2 t2 w T hk hj
    · have hq := eq_msg y z v g a n i p k t y2 z2 v2 g2 a2 n2 i2 p2 k2 t2
      have hs := same_is hk hj
      generalize ((y == y2) && ((z == z2) && ((v == v2) && ((g == g2) && ((a == a2) && ((n == n2) && ((i == i2) && ((p == p2) && ((k == k2) && ((t == t2))))))))))) = u at hq hs
      cases u
      · exact other_false y z v g a n i p k t y2 z2 v2 g2 a2 n2 i2 p2 k2 t2 w T hk hj hs hq (len_even y)
      · exact other_true y z v g a n i p k t y2 z2 v2 g2 a2 n2 i2 p2 k2 t2 w T hk hj hs hq (len_even y)

set_option maxRecDepth 100000 in
theorem lifted (os : Os) (started : os.Started) (H : Type) (enc : TypeId × Value → H) :
    ReturnsInHanded {} Tryd.checked os 8 .any (fun w args => (Rows.frameOtherSpec.pre enc Tryd.prog Tryd.f8 [] false w args ∧ laidMetH Tryd.prog [("wayfinder/msg.rows", Rows.laid_wayfinder_msg_rows)] w) ∧ sizedMet enc Tryd.prog Tryd.f8 (OpenSpec.ofChange Rows.frameOtherSpec) false w args) (Rows.frameOtherSpec.post enc Tryd.prog Tryd.f8 false true false false) := by
  refine returnsInHanded_of_change_and (C := Tryd.checked) (X := fun w _ => laidMetH Tryd.prog [("wayfinder/msg.rows", Rows.laid_wayfinder_msg_rows)] w) (fun _ _ _ hh h => h.of_heap hh) own started (by kernel_rfl) Tryd.func8
    (ChangeSpec.witness_shaped (enc := enc) (C := Tryd.checked) (os := os) (X := fun w _ => laidMetH Tryd.prog [("wayfinder/msg.rows", Rows.laid_wayfinder_msg_rows)] w) false (World.doorLaid Tryd.prog 400 os) #[.agg #[.int .i64 0, .int .i64 0, .int .i64 0, .int .i64 0, .int .i64 0, .int .i64 0, .int .i64 0, .int .i64 0, .int .i64 0, .int .i64 0], .agg #[.int .i64 0, .int .i64 0, .int .i64 0, .int .i64 0, .int .i64 0, .int .i64 0, .int .i64 0, .int .i64 0, .int .i64 0, .int .i64 0]] 8 rfl (World.shaped_of_RefB (by kernel_rfl) (by kernel_rfl)) (by kernel_rfl) (by kernel_rfl) (by kernel_rfl) (door_met os _)) ?_
  intro W base args ds gs before hval0 hW _ _ hL _
  have hval : ∀ (j : Nat) t v, Tryd.f8.params[j]? = some t → args[j]? = some v → Value.okWide Tryd.prog W .any base t v := hval0
  have hW' := hW
  obtain ⟨p, q, hA0, hV, rfl, hfz, hnd⟩ := hW
  have hA : DataW.TrodAll enc Tryd.prog W 0 (fun _ => true) true Tryd.f8.params.toList args.toList ds p := hA0
  rw [Tryd.params8] at hA hval
  obtain ⟨v0, vs0, d0, ds0, p0, q0, hargs, rfl, rfl, h0, r0⟩ := trodAll_cons hA
  obtain ⟨v1, vs1, d1, ds1, p1, q1, rfl, rfl, rfl, h1, r1⟩ := trodAll_cons r0
  obtain ⟨rfl, rfl, rfl⟩ := trodAll_nil r1
  obtain rfl : args = #[v0, v1] := by cases args; simp_all
  obtain ⟨rfl, rfl⟩ := trodVars_none hV
  have k0 := h0
  have lt0 : ∀ x ∈ p0, x.block < W.heap.size := by obtain ⟨m, hm⟩ := k0; exact DataW.trod_lt m _ _ _ hm
  have k1 := h1
  have lt1 : ∀ x ∈ p1, x.block < W.heap.size := by obtain ⟨m, hm⟩ := k1; exact DataW.trod_lt m _ _ _ hm
  obtain ⟨A0, B0, C0, D0, E0, F0, G0, H0, I0, J0, rfl, w0A, w0B, w0C, w0D, w0E, w0F, w0G, w0H, w0I, w0J⟩ := open_msg (hval 0 29 v0 rfl rfl) h0
  obtain ⟨A1, B1, C1, D1, E1, F1, G1, H1, I1, J1, rfl, w1A, w1B, w1C, w1D, w1E, w1F, w1G, w1H, w1I, w1J⟩ := open_msg (hval 1 29 v1 rfl rfl) h1
  clear hA0 hval0
  refine (walk A0 B0 C0 D0 E0 F0 G0 H0 I0 J0 A1 B1 C1 D1 E1 F1 G1 H1 I1 J1 w0A w0B w0C w0D w0E w0F w0G w0H w0I w0J w1A w1B w1C w1D w1E w1F w1G w1H w1I w1J W (tab_of_laid hL)).mono fun e W' ⟨he, bel⟩ => ?_
  subst he
  exact ⟨_, rfl, _, _, _, [], _, [], hW', trodAll_mk1 (shut_bool Tryd.underlying4 _), (trodAll_cons_mk (Below.trod laidOut (by kernel_rfl) (of_decide_eq_true (by kernel_rfl)) k0 bel lt0) (trodAll_cons_mk (Below.trod laidOut (by kernel_rfl) (of_decide_eq_true (by kernel_rfl)) k1 bel lt1) trodAll_mk0)), rfl, bel.frame _, fun h => by cases h⟩

theorem over : Rows.frameOtherRow.holds Tryd.pinned (OpenSpec.ofChange Rows.frameOtherSpec) :=
  OpenClaim.holds_of_wide 8 Tryd.f8 rfl rfl rfl rfl rfl rfl rfl ⟨rfl, rfl, rfl, rfl, rfl⟩ rfl rfl rfl rfl rfl (by kernel_rfl) Tryd.func8 (by kernel_rfl)
    (of_decide_eq_true (by kernel_rfl)) (by unfold Func.isWrapper; first | (rw [if_pos (by decide +kernel)]; kernel_rfl) | (rw [if_neg (by decide +kernel)]; exact ⟨rfl, rfl⟩))
    (fun os started H enc _ => lifted os started H enc)

theorem tied : Rows.FrameOtherCardSaid :=
  Claim7.holds_tied_plain_at .later [] [.data] true (true, "89fca54d1b1c7bea9430d3263157b11312abdc1532666bb1f924839e8ae9f569") false
    over (fun _ h => by cases h) (by kernel_rfl) (fun _ h => by cases h) frameOther_row_tie rfl ⟨rfl, rfl⟩ (by kernel_rfl) rfl
    (fun f fn hf hfn => by
      obtain rfl : f = 8 := Option.some.inj ((show Tryd.prog.funcNamed Rows.frameOtherRow.func = some 8 by kernel_rfl).symm.trans hf) |>.symm
      obtain rfl : fn = Tryd.f8 := (Option.some.inj (Tryd.func8.symm.trans hfn)).symm
      exact ⟨by kernel_rfl, fun j t ht => by
        rw [Tryd.params8] at ht
        have hm : t ∈ [29, 29] := by simpa using Array.mem_of_getElem? ht
        have hall : ([29, 29].all fun u => !Tryd.prog.wantsStandIn u) = true := by kernel_rfl
        exact (show Tryd.prog.wantsStandIn t = false by simpa using List.all_eq_true.1 hall t hm)⟩)
    (by kernel_rfl)
end Go.Proofs.YtklcchmpmilcaaaDoor.frameOther
namespace Go.Proofs.YtklcchmpmilcaaaDoor
theorem frameOther_holds : Rows.FrameOtherCardSaid := frameOther.tied
#print axioms frameOther_holds
end Go.Proofs.YtklcchmpmilcaaaDoor
