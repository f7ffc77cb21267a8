/- Proved: for every message m and all bytes b the call MsgBack(m, b) returns true and leaves b as it was: what is put is got; what is got is put as the same bytes (of more than 3000 bytes nothing is asked). The table of package msg starts as the program's text lays it (the tie: of the pruned copy that the seat holds). -/
import Derived.Test.YtejaeidmamlkbaaDoorMsgLaid
import Derived.Test.YtejaeidmamlkbaaDoorMsgGet
import Derived.Test.YtejaeidmamlkbaaDoorTie
import Derived.Test.YtejaeidmamlkbaaDoorCards
import Derived.SevenTiedAt
import Derived.Lib.SmallJoins
namespace Go.Proofs.YtejaeidmamlkbaaDoor.msgBack
open Go.ChangeShapes Go.WideShapes Go.ChangeAt Go.RowKit R Q
set_option linter.unusedVariables false


theorem back_long (y z v g a n i p k t : Int) (x : Option Addr) (c : Nat) (s : List Int) (w : World) (R : Reads .u8 w x c s) (T : Tab w) (hl : 3000 < s.length) :
    Calls Tryd.prog 5 #[.agg #[.int .i64 y, .int .i64 z, .int .i64 v, .int .i64 g, .int .i64 a, .int .i64 n, .int .i64 i, .int .i64 p, .int .i64 k, .int .i64 t], .slice x s.length c] w fun e w' => e = .returned (.bool true) ∧ Below w.heap.size w w' := by
  have hmx := Nat.le_trans R.le R.max
  unfold maxLen at hmx
  have hB := below_new w (.cells #[.int .i64 y, .int .i64 z, .int .i64 v, .int .i64 g, .int .i64 a, .int .i64 n, .int .i64 i, .int .i64 p, .int .i64 k, .int .i64 t] 29)
  go_enter Tryd.func5, Tryd.ntmps5
  go_wp2_with fail
  refine (awake_any _ (T.later hB)).mono ?_
  rintro e w1 ⟨rfl, hb1⟩
  go_wp2_with fail
  go_ret
  exact ⟨rfl, below_step hB hb1⟩
set_option maxHeartbeats 2000000 in
theorem backfN (y z v g a n i p k t : Int) (x : Option Addr) (c : Nat) (s : List Int) (w : World) (R : Reads .u8 w x c s) (T : Tab w) (hl : s.length ≤ 3000) (hk : okM y z v g a n i p k t = false) {zz : Int} (hA : Hid (mgE s = zz)) (hA0 : zz ≠ 0) :
    Calls Tryd.prog 5 #[.agg #[.int .i64 y, .int .i64 z, .int .i64 v, .int .i64 g, .int .i64 a, .int .i64 n, .int .i64 i, .int .i64 p, .int .i64 k, .int .i64 t], .slice x s.length c] w fun e w' => e = .returned (.bool true) ∧ Below w.heap.size w w' := by
  have hmx := Nat.le_trans R.le R.max
  unfold maxLen at hmx
  have cM := fun w T => mMay_any y z v g a n i p k t w T
  rw [hk] at cM
  have hz : (zz != 0) = true := by simpa using hA0
  have hn0 := below_new w (.cells #[.int .i64 y, .int .i64 z, .int .i64 v, .int .i64 g, .int .i64 a, .int .i64 n, .int .i64 i, .int .i64 p, .int .i64 k, .int .i64 t] 29)
  have X0 := Lies.new w [y, z, v, g, a, n, i, p, k, t] 29 (B := w.heap.size) rfl
  have hB := hn0
  clear hn0
  obtain ⟨x00, x01, x02, x03, x04, x05, x06, x07, x08, x09⟩ := X0.ten
  replace R := R.later hB
  replace T := T.later hB
  go_enter Tryd.func5, Tryd.ntmps5
  go_wp2_with fail
  refine (awake_any _ T).mono ?_
  rintro e w1 ⟨rfl, hb1⟩
  clear x00 x01 x02 x03 x04 x05 x06 x07 x08 x09
  replace X0 := X0.later hb1
  replace R := R.later hb1
  replace T := T.later hb1
  replace hB := below_step hB hb1
  clear hb1
  obtain ⟨x00, x01, x02, x03, x04, x05, x06, x07, x08, x09⟩ := X0.ten
  go_wp2_with fail
  refine (mPut_bad hk _ T).mono ?_
  rintro e w2 ⟨rfl, hb2⟩
  clear x00 x01 x02 x03 x04 x05 x06 x07 x08 x09
  replace X0 := X0.later hb2
  replace R := R.later hb2
  replace T := T.later hb2
  replace hB := below_step hB hb2
  clear hb2
  obtain ⟨x00, x01, x02, x03, x04, x05, x06, x07, x08, x09⟩ := X0.ten
  go_wp2_with fail
  refine (cM _ T).mono ?_
  rintro e w3 ⟨rfl, hb3⟩
  clear x00 x01 x02 x03 x04 x05 x06 x07 x08 x09
  replace X0 := X0.later hb3
  replace R := R.later hb3
  replace T := T.later hb3
  replace hB := below_step hB hb3
  clear hb3
  obtain ⟨x00, x01, x02, x03, x04, x05, x06, x07, x08, x09⟩ := X0.ten
  go_wp2_with fail
  refine (mGet_none _ T R rfl (by omega) hA.out hA0).mono ?_
  rintro e w4 ⟨rfl, hb4⟩
  clear x00 x01 x02 x03 x04 x05 x06 x07 x08 x09
  replace X0 := X0.later hb4
  replace R := R.later hb4
  replace T := T.later hb4
  replace hB := below_step hB hb4
  clear hb4
  obtain ⟨x00, x01, x02, x03, x04, x05, x06, x07, x08, x09⟩ := X0.ten
  have hV := below_new w4 (.cells #[.int .i64 0, .int .i64 0, .int .i64 0, .int .i64 0, .int .i64 0, .int .i64 0, .int .i64 0, .int .i64 0, .int .i64 0, .int .i64 0] 29)
  go_wp2_with fail
  go_ret
  exact ⟨rfl, below_step hB hV⟩
set_option maxHeartbeats 2000000 in
theorem backfS (y z v g a n i p k t : Int) (x : Option Addr) (c : Nat) (s : List Int) (w : World) (R : Reads .u8 w x c s) (T : Tab w) (hl : s.length ≤ 3000) (hk : okM y z v g a n i p k t = false) {m0 m1 m2 m3 m4 m5 m6 m7 m8 m9 : Int} (HP : Hid (mgE s = 0)) (HN : Hid (isMsg s m0 m1 m2 m3 m4 m5 m6 m7 m8 m9)) (hq : okM m0 m1 m2 m3 m4 m5 m6 m7 m8 m9 = true) (HY : Hid (bodyM m0 m1 m2 m3 m4 m5 m6 m7 m8 m9 = s)) (HL : Hid (s.length = lenM m0)) :
    Calls Tryd.prog 5 #[.agg #[.int .i64 y, .int .i64 z, .int .i64 v, .int .i64 g, .int .i64 a, .int .i64 n, .int .i64 i, .int .i64 p, .int .i64 k, .int .i64 t], .slice x s.length c] w fun e w' => e = .returned (.bool true) ∧ Below w.heap.size w w' := by
  have hmx := Nat.le_trans R.le R.max
  unfold maxLen at hmx
  have cM := fun w T => mMay_any y z v g a n i p k t w T
  rw [hk] at cM
  have hn0 := below_new w (.cells #[.int .i64 y, .int .i64 z, .int .i64 v, .int .i64 g, .int .i64 a, .int .i64 n, .int .i64 i, .int .i64 p, .int .i64 k, .int .i64 t] 29)
  have X0 := Lies.new w [y, z, v, g, a, n, i, p, k, t] 29 (B := w.heap.size) rfl
  have hB := hn0
  clear hn0
  obtain ⟨x00, x01, x02, x03, x04, x05, x06, x07, x08, x09⟩ := X0.ten
  replace R := R.later hB
  replace T := T.later hB
  go_enter Tryd.func5, Tryd.ntmps5
  go_wp2_with fail
  refine (awake_any _ T).mono ?_
  rintro e w1 ⟨rfl, hb1⟩
  clear x00 x01 x02 x03 x04 x05 x06 x07 x08 x09
  replace X0 := X0.later hb1
  replace R := R.later hb1
  replace T := T.later hb1
  replace hB := below_step hB hb1
  clear hb1
  obtain ⟨x00, x01, x02, x03, x04, x05, x06, x07, x08, x09⟩ := X0.ten
  go_wp2_with fail
  refine (mPut_bad hk _ T).mono ?_
  rintro e w2 ⟨rfl, hb2⟩
  clear x00 x01 x02 x03 x04 x05 x06 x07 x08 x09
  replace X0 := X0.later hb2
  replace R := R.later hb2
  replace T := T.later hb2
  replace hB := below_step hB hb2
  clear hb2
  obtain ⟨x00, x01, x02, x03, x04, x05, x06, x07, x08, x09⟩ := X0.ten
  go_wp2_with fail
  refine (cM _ T).mono ?_
  rintro e w3 ⟨rfl, hb3⟩
  clear x00 x01 x02 x03 x04 x05 x06 x07 x08 x09
  replace X0 := X0.later hb3
  replace R := R.later hb3
  replace T := T.later hb3
  replace hB := below_step hB hb3
  clear hb3
  obtain ⟨x00, x01, x02, x03, x04, x05, x06, x07, x08, x09⟩ := X0.ten
  go_wp2_with fail
  refine (mGet_some _ T R rfl (by omega) HP.out HN.out).mono ?_
  rintro e w4 ⟨rfl, hb4⟩
  clear x00 x01 x02 x03 x04 x05 x06 x07 x08 x09
  replace X0 := X0.later hb4
  replace R := R.later hb4
  replace T := T.later hb4
  replace hB := below_step hB hb4
  clear hb4
  obtain ⟨x00, x01, x02, x03, x04, x05, x06, x07, x08, x09⟩ := X0.ten
  have hv0 := below_new w4 (.cells #[.int .i64 m0, .int .i64 m1, .int .i64 m2, .int .i64 m3, .int .i64 m4, .int .i64 m5, .int .i64 m6, .int .i64 m7, .int .i64 m8, .int .i64 m9] 29)
  clear x00 x01 x02 x03 x04 x05 x06 x07 x08 x09
  replace X0 := X0.later hv0
  replace R := R.later hv0
  replace T := T.later hv0
  replace hB := below_step hB hv0
  clear hv0
  have V0 := Lies.new w4 [m0, m1, m2, m3, m4, m5, m6, m7, m8, m9] 29 (B := w4.heap.size) rfl
  obtain ⟨x00, x01, x02, x03, x04, x05, x06, x07, x08, x09⟩ := X0.ten
  obtain ⟨v00, v01, v02, v03, v04, v05, v06, v07, v08, v09⟩ := V0.ten
  go_wp2_with fail
  refine (mPut_ok hq _ T).mono ?_
  rintro e w5 ⟨ay, ky, rfl, RY, hb5⟩
  clear x00 x01 x02 x03 x04 x05 x06 x07 x08 x09
  clear v00 v01 v02 v03 v04 v05 v06 v07 v08 v09
  replace X0 := X0.later hb5
  replace V0 := V0.later hb5
  replace R := R.later hb5
  replace T := T.later hb5
  replace hB := below_step hB hb5
  clear hb5
  obtain ⟨x00, x01, x02, x03, x04, x05, x06, x07, x08, x09⟩ := X0.ten
  obtain ⟨v00, v01, v02, v03, v04, v05, v06, v07, v08, v09⟩ := V0.ten
  rw [HY.out] at RY
  have s1 := str_at RY HL.out
  have s2 := str_at R rfl
  clear x00 x01 x02 x03 x04 x05 x06 x07 x08 x09
  clear v00 v01 v02 v03 v04 v05 v06 v07 v08 v09
  go_wp2_with fail
  go_ret
  exact ⟨rfl, hB⟩
set_option maxHeartbeats 2000000 in
theorem backtN (y z v g a n i p k t : Int) (x : Option Addr) (c : Nat) (s : List Int) (w : World) (R : Reads .u8 w x c s) (T : Tab w) (hl : s.length ≤ 3000) (hk : okM y z v g a n i p k t = true) {zz : Int} (hA : Hid (mgE s = zz)) (hA0 : zz ≠ 0) :
    Calls Tryd.prog 5 #[.agg #[.int .i64 y, .int .i64 z, .int .i64 v, .int .i64 g, .int .i64 a, .int .i64 n, .int .i64 i, .int .i64 p, .int .i64 k, .int .i64 t], .slice x s.length c] w fun e w' => e = .returned (.bool true) ∧ Below w.heap.size w w' := by
  have hmx := Nat.le_trans R.le R.max
  unfold maxLen at hmx
  have cM := fun w T => mMay_any y z v g a n i p k t w T
  rw [hk] at cM
  have hz : (zz != 0) = true := by simpa using hA0
  have hb9 := bodyM_len hk
  have HB : Hid _ := msg_back hk
  have hlm := lenM_or y
  have hn0 := below_new w (.cells #[.int .i64 y, .int .i64 z, .int .i64 v, .int .i64 g, .int .i64 a, .int .i64 n, .int .i64 i, .int .i64 p, .int .i64 k, .int .i64 t] 29)
  have X0 := Lies.new w [y, z, v, g, a, n, i, p, k, t] 29 (B := w.heap.size) rfl
  have hB := hn0
  clear hn0
  obtain ⟨x00, x01, x02, x03, x04, x05, x06, x07, x08, x09⟩ := X0.ten
  replace R := R.later hB
  replace T := T.later hB
  go_enter Tryd.func5, Tryd.ntmps5
  go_wp2_with fail
  refine (awake_any _ T).mono ?_
  rintro e w1 ⟨rfl, hb1⟩
  clear x00 x01 x02 x03 x04 x05 x06 x07 x08 x09
  replace X0 := X0.later hb1
  replace R := R.later hb1
  replace T := T.later hb1
  replace hB := below_step hB hb1
  clear hb1
  obtain ⟨x00, x01, x02, x03, x04, x05, x06, x07, x08, x09⟩ := X0.ten
  go_wp2_with fail
  refine (mPut_ok hk _ T).mono ?_
  rintro e w2 ⟨ax, kx, rfl, R2, hb2⟩
  clear x00 x01 x02 x03 x04 x05 x06 x07 x08 x09
  replace X0 := X0.later hb2
  replace R := R.later hb2
  replace T := T.later hb2
  replace hB := below_step hB hb2
  clear hb2
  obtain ⟨x00, x01, x02, x03, x04, x05, x06, x07, x08, x09⟩ := X0.ten
  go_wp2_with fail
  refine (cM _ T).mono ?_
  rintro e w3 ⟨rfl, hb3⟩
  clear x00 x01 x02 x03 x04 x05 x06 x07 x08 x09
  replace X0 := X0.later hb3
  replace R := R.later hb3
  replace T := T.later hb3
  replace R2 := R2.later hb3
  replace hB := below_step hB hb3
  clear hb3
  obtain ⟨x00, x01, x02, x03, x04, x05, x06, x07, x08, x09⟩ := X0.ten
  go_wp2_with fail
  refine (mGet_some _ T R2 hb9 (by omega) HB.out.1 HB.out.2).mono ?_
  rintro e w4 ⟨rfl, hb4⟩
  clear x00 x01 x02 x03 x04 x05 x06 x07 x08 x09
  replace X0 := X0.later hb4
  replace R := R.later hb4
  replace T := T.later hb4
  replace R2 := R2.later hb4
  replace hB := below_step hB hb4
  clear hb4
  obtain ⟨x00, x01, x02, x03, x04, x05, x06, x07, x08, x09⟩ := X0.ten
  have hv0 := below_new w4 (.cells #[.int .i64 y, .int .i64 z, .int .i64 v, .int .i64 g, .int .i64 a, .int .i64 n, .int .i64 i, .int .i64 p, .int .i64 k, .int .i64 t] 29)
  clear x00 x01 x02 x03 x04 x05 x06 x07 x08 x09
  replace X0 := X0.later hv0
  replace R := R.later hv0
  replace T := T.later hv0
  replace R2 := R2.later hv0
  replace hB := below_step hB hv0
  clear hv0
  have V0 := Lies.new w4 [y, z, v, g, a, n, i, p, k, t] 29 (B := w4.heap.size) rfl
  obtain ⟨x00, x01, x02, x03, x04, x05, x06, x07, x08, x09⟩ := X0.ten
  obtain ⟨v00, v01, v02, v03, v04, v05, v06, v07, v08, v09⟩ := V0.ten
  go_wp2_with fail
  refine (mGet_none _ T R rfl (by omega) hA.out hA0).mono ?_
  rintro e w5 ⟨rfl, hb5⟩
  clear x00 x01 x02 x03 x04 x05 x06 x07 x08 x09
  clear v00 v01 v02 v03 v04 v05 v06 v07 v08 v09
  replace X0 := X0.later hb5
  replace V0 := V0.later hb5
  replace R := R.later hb5
  replace T := T.later hb5
  replace R2 := R2.later hb5
  replace hB := below_step hB hb5
  clear hb5
  obtain ⟨x00, x01, x02, x03, x04, x05, x06, x07, x08, x09⟩ := X0.ten
  obtain ⟨v00, v01, v02, v03, v04, v05, v06, v07, v08, v09⟩ := V0.ten
  have hV := below_new w5 (.cells #[.int .i64 0, .int .i64 0, .int .i64 0, .int .i64 0, .int .i64 0, .int .i64 0, .int .i64 0, .int .i64 0, .int .i64 0, .int .i64 0] 29)
  go_wp2_with fail
  go_ret
  exact ⟨rfl, below_step hB hV⟩
set_option maxHeartbeats 2000000 in
theorem backtS (y z v g a n i p k t : Int) (x : Option Addr) (c : Nat) (s : List Int) (w : World) (R : Reads .u8 w x c s) (T : Tab w) (hl : s.length ≤ 3000) (hk : okM y z v g a n i p k t = true) {m0 m1 m2 m3 m4 m5 m6 m7 m8 m9 : Int} (HP : Hid (mgE s = 0)) (HN : Hid (isMsg s m0 m1 m2 m3 m4 m5 m6 m7 m8 m9)) (hq : okM m0 m1 m2 m3 m4 m5 m6 m7 m8 m9 = true) (HY : Hid (bodyM m0 m1 m2 m3 m4 m5 m6 m7 m8 m9 = s)) (HL : Hid (s.length = lenM m0)) :
    Calls Tryd.prog 5 #[.agg #[.int .i64 y, .int .i64 z, .int .i64 v, .int .i64 g, .int .i64 a, .int .i64 n, .int .i64 i, .int .i64 p, .int .i64 k, .int .i64 t], .slice x s.length c] w fun e w' => e = .returned (.bool true) ∧ Below w.heap.size w w' := by
  have hmx := Nat.le_trans R.le R.max
  unfold maxLen at hmx
  have cM := fun w T => mMay_any y z v g a n i p k t w T
  rw [hk] at cM
  have hb9 := bodyM_len hk
  have HB : Hid _ := msg_back hk
  have hlm := lenM_or y
  have hn0 := below_new w (.cells #[.int .i64 y, .int .i64 z, .int .i64 v, .int .i64 g, .int .i64 a, .int .i64 n, .int .i64 i, .int .i64 p, .int .i64 k, .int .i64 t] 29)
  have X0 := Lies.new w [y, z, v, g, a, n, i, p, k, t] 29 (B := w.heap.size) rfl
  have hB := hn0
  clear hn0
  obtain ⟨x00, x01, x02, x03, x04, x05, x06, x07, x08, x09⟩ := X0.ten
  replace R := R.later hB
  replace T := T.later hB
  go_enter Tryd.func5, Tryd.ntmps5
  go_wp2_with fail
  refine (awake_any _ T).mono ?_
  rintro e w1 ⟨rfl, hb1⟩
  clear x00 x01 x02 x03 x04 x05 x06 x07 x08 x09
  replace X0 := X0.later hb1
  replace R := R.later hb1
  replace T := T.later hb1
  replace hB := below_step hB hb1
  clear hb1
  obtain ⟨x00, x01, x02, x03, x04, x05, x06, x07, x08, x09⟩ := X0.ten
  go_wp2_with fail
  refine (mPut_ok hk _ T).mono ?_
  rintro e w2 ⟨ax, kx, rfl, R2, hb2⟩
  clear x00 x01 x02 x03 x04 x05 x06 x07 x08 x09
  replace X0 := X0.later hb2
  replace R := R.later hb2
  replace T := T.later hb2
  replace hB := below_step hB hb2
  clear hb2
  obtain ⟨x00, x01, x02, x03, x04, x05, x06, x07, x08, x09⟩ := X0.ten
  go_wp2_with fail
  refine (cM _ T).mono ?_
  rintro e w3 ⟨rfl, hb3⟩
  clear x00 x01 x02 x03 x04 x05 x06 x07 x08 x09
  replace X0 := X0.later hb3
  replace R := R.later hb3
  replace T := T.later hb3
  replace R2 := R2.later hb3
  replace hB := below_step hB hb3
  clear hb3
  obtain ⟨x00, x01, x02, x03, x04, x05, x06, x07, x08, x09⟩ := X0.ten
  go_wp2_with fail
  refine (mGet_some _ T R2 hb9 (by omega) HB.out.1 HB.out.2).mono ?_
  rintro e w4 ⟨rfl, hb4⟩
  clear x00 x01 x02 x03 x04 x05 x06 x07 x08 x09
  replace X0 := X0.later hb4
  replace R := R.later hb4
  replace T := T.later hb4
  replace R2 := R2.later hb4
  replace hB := below_step hB hb4
  clear hb4
  obtain ⟨x00, x01, x02, x03, x04, x05, x06, x07, x08, x09⟩ := X0.ten
  have hv0 := below_new w4 (.cells #[.int .i64 y, .int .i64 z, .int .i64 v, .int .i64 g, .int .i64 a, .int .i64 n, .int .i64 i, .int .i64 p, .int .i64 k, .int .i64 t] 29)
  clear x00 x01 x02 x03 x04 x05 x06 x07 x08 x09
  replace X0 := X0.later hv0
  replace R := R.later hv0
  replace T := T.later hv0
  replace R2 := R2.later hv0
  replace hB := below_step hB hv0
  clear hv0
  have V0 := Lies.new w4 [y, z, v, g, a, n, i, p, k, t] 29 (B := w4.heap.size) rfl
  obtain ⟨x00, x01, x02, x03, x04, x05, x06, x07, x08, x09⟩ := X0.ten
  obtain ⟨v00, v01, v02, v03, v04, v05, v06, v07, v08, v09⟩ := V0.ten
  go_wp2_with fail
  refine (mGet_some _ T R rfl (by omega) HP.out HN.out).mono ?_
  rintro e w5 ⟨rfl, hb5⟩
  clear x00 x01 x02 x03 x04 x05 x06 x07 x08 x09
  clear v00 v01 v02 v03 v04 v05 v06 v07 v08 v09
  replace X0 := X0.later hb5
  replace V0 := V0.later hb5
  replace R := R.later hb5
  replace T := T.later hb5
  replace R2 := R2.later hb5
  replace hB := below_step hB hb5
  clear hb5
  obtain ⟨x00, x01, x02, x03, x04, x05, x06, x07, x08, x09⟩ := X0.ten
  obtain ⟨v00, v01, v02, v03, v04, v05, v06, v07, v08, v09⟩ := V0.ten
  have hv1 := below_new w5 (.cells #[.int .i64 m0, .int .i64 m1, .int .i64 m2, .int .i64 m3, .int .i64 m4, .int .i64 m5, .int .i64 m6, .int .i64 m7, .int .i64 m8, .int .i64 m9] 29)
  clear x00 x01 x02 x03 x04 x05 x06 x07 x08 x09
  clear v00 v01 v02 v03 v04 v05 v06 v07 v08 v09
  replace X0 := X0.later hv1
  replace V0 := V0.later hv1
  replace R := R.later hv1
  replace T := T.later hv1
  replace R2 := R2.later hv1
  replace hB := below_step hB hv1
  clear hv1
  have V1 := Lies.new w5 [m0, m1, m2, m3, m4, m5, m6, m7, m8, m9] 29 (B := w5.heap.size) rfl
  obtain ⟨x00, x01, x02, x03, x04, x05, x06, x07, x08, x09⟩ := X0.ten
  obtain ⟨v00, v01, v02, v03, v04, v05, v06, v07, v08, v09⟩ := V0.ten
  obtain ⟨v10, v11, v12, v13, v14, v15, v16, v17, v18, v19⟩ := V1.ten
  go_wp2_with fail
  refine (mPut_ok hq _ T).mono ?_
  rintro e w6 ⟨ay, ky, rfl, RY, hb6⟩
  clear x00 x01 x02 x03 x04 x05 x06 x07 x08 x09
  clear v00 v01 v02 v03 v04 v05 v06 v07 v08 v09
  clear v10 v11 v12 v13 v14 v15 v16 v17 v18 v19
  replace X0 := X0.later hb6
  replace V0 := V0.later hb6
  replace V1 := V1.later hb6
  replace R := R.later hb6
  replace T := T.later hb6
  replace R2 := R2.later hb6
  replace hB := below_step hB hb6
  clear hb6
  obtain ⟨x00, x01, x02, x03, x04, x05, x06, x07, x08, x09⟩ := X0.ten
  obtain ⟨v00, v01, v02, v03, v04, v05, v06, v07, v08, v09⟩ := V0.ten
  obtain ⟨v10, v11, v12, v13, v14, v15, v16, v17, v18, v19⟩ := V1.ten
  rw [HY.out] at RY
  have s1 := str_at RY HL.out
  have s2 := str_at R rfl
  clear x00 x01 x02 x03 x04 x05 x06 x07 x08 x09
  clear v00 v01 v02 v03 v04 v05 v06 v07 v08 v09
  clear v10 v11 v12 v13 v14 v15 v16 v17 v18 v19
  go_wp2_with fail
  go_ret
  exact ⟨rfl, hB⟩
theorem walk (y z v g a n i p k t : Int) (x : Option Addr) (c : Nat) (s : List Int) (wy : (Lit.int .i64 y).wf = true) (wz : (Lit.int .i64 z).wf = true) (wv : (Lit.int .i64 v).wf = true) (wg : (Lit.int .i64 g).wf = true) (wa : (Lit.int .i64 a).wf = true) (wn : (Lit.int .i64 n).wf = true) (wi : (Lit.int .i64 i).wf = true) (wp : (Lit.int .i64 p).wf = true) (wk : (Lit.int .i64 k).wf = true) (wt : (Lit.int .i64 t).wf = true) (w : World) (R : Reads .u8 w x c s) (T : Tab w) :
    Calls Tryd.prog 5 #[.agg #[.int .i64 y, .int .i64 z, .int .i64 v, .int .i64 g, .int .i64 a, .int .i64 n, .int .i64 i, .int .i64 p, .int .i64 k, .int .i64 t], .slice x s.length c] w fun e w' => e = .returned (.bool true) ∧ Below w.heap.size w w' := by
  by_cases hl : 3000 < s.length
  · exact back_long y z v g a n i p k t x c s w R T hl
  by_cases h0 : mgE s = 0
  · have hY := msg_again R.oct h0
    obtain ⟨hln, hq⟩ := mgE_zero h0
    cases hk : okM y z v g a n i p k t
    · exact backfS y z v g a n i p k t x c s w R T (by omega) hk h0 ⟨rfl, rfl, rfl, rfl, rfl, rfl, rfl, rfl, rfl, rfl⟩ hq hY hln
    · exact backtS y z v g a n i p k t x c s w R T (by omega) hk h0 ⟨rfl, rfl, rfl, rfl, rfl, rfl, rfl, rfl, rfl, rfl⟩ hq hY hln
  · cases hk : okM y z v g a n i p k t
    · exact backfN y z v g a n i p k t x c s w R T (by omega) hk rfl h0
    · exact backtN y z v g a n i p k t x c s w R T (by omega) hk rfl h0

set_option maxRecDepth 100000 in
theorem lifted (os : Os) (started : os.Started) (H : Type) (enc : TypeId × Value → H) :
    ReturnsInHanded {} Tryd.checked os 5 .any (fun w args => (Rows.msgBackSpec.pre enc Tryd.prog Tryd.f5 [] false w args ∧ laidMetH Tryd.prog [("wayfinder/msg.rows", Rows.laid_wayfinder_msg_rows)] w) ∧ sizedMet enc Tryd.prog Tryd.f5 (OpenSpec.ofChange Rows.msgBackSpec) false w args) (Rows.msgBackSpec.post enc Tryd.prog Tryd.f5 false true false false) := by
  refine returnsInHanded_of_change_and (C := Tryd.checked) (X := fun w _ => laidMetH Tryd.prog [("wayfinder/msg.rows", Rows.laid_wayfinder_msg_rows)] w) (fun _ _ _ hh h => h.of_heap hh) own started (by kernel_rfl) Tryd.func5
    (ChangeSpec.witness_shaped (enc := enc) (C := Tryd.checked) (os := os) (X := fun w _ => laidMetH Tryd.prog [("wayfinder/msg.rows", Rows.laid_wayfinder_msg_rows)] w) false (World.doorLaid Tryd.prog 400 os) #[.agg #[.int .i64 0, .int .i64 0, .int .i64 0, .int .i64 0, .int .i64 0, .int .i64 0, .int .i64 0, .int .i64 0, .int .i64 0, .int .i64 0], .slice none 0 0] 8 rfl (World.shaped_of_RefB (by kernel_rfl) (by kernel_rfl)) (by kernel_rfl) (by kernel_rfl) (by kernel_rfl) (door_met os _)) ?_
  intro W base args ds gs before hval0 hW _ _ hL _
  have hval : ∀ (j : Nat) t v, Tryd.f5.params[j]? = some t → args[j]? = some v → Value.okWide Tryd.prog W .any base t v := hval0
  have hW' := hW
  obtain ⟨p, q, hA0, hV, rfl, hfz, hnd⟩ := hW
  have hA : DataW.TrodAll enc Tryd.prog W 0 (fun _ => true) true Tryd.f5.params.toList args.toList ds p := hA0
  rw [Tryd.params5] at hA hval
  obtain ⟨v0, vs0, d0, ds0, p0, q0, hargs, rfl, rfl, h0, r0⟩ := trodAll_cons hA
  obtain ⟨v1, vs1, d1, ds1, p1, q1, rfl, rfl, rfl, h1, r1⟩ := trodAll_cons r0
  obtain ⟨rfl, rfl, rfl⟩ := trodAll_nil r1
  obtain rfl : args = #[v0, v1] := by cases args; simp_all
  obtain ⟨rfl, rfl⟩ := trodVars_none hV
  have k0 := h0
  have lt0 : ∀ x ∈ p0, x.block < W.heap.size := by obtain ⟨m, hm⟩ := k0; exact DataW.trod_lt m _ _ _ hm
  obtain ⟨a1, n1, c1, rfl⟩ := okWide_slice Tryd.underlying31 (hval 1 31 v1 rfl rfl)
  have k1 := h1
  have lt1 : ∀ x ∈ p1, x.block < W.heap.size := by obtain ⟨m, hm⟩ := k1; exact DataW.trod_lt m _ _ _ hm
  obtain ⟨A0, B0, C0, D0, E0, F0, G0, H0, I0, J0, rfl, w0A, w0B, w0C, w0D, w0E, w0F, w0G, w0H, w0I, w0J⟩ := open_msg (hval 0 29 v0 rfl rfl) h0
  obtain ⟨l1, el1, R1⟩ : ∃ l, n1 = List.length l ∧ Reads .u8 W a1 c1 l := by
    obtain ⟨fuel, hf⟩ := h1
    rcases open_ints Tryd.underlying31 Tryd.underlying5 (by kernel_rfl) hf with ⟨hcs, _⟩ | ⟨x, l, c, zs, hcs, _, hl, hm, hz, _, hcell, hwz⟩
    · simp [Value.cells] at hcs
      obtain ⟨rfl, rfl, rfl⟩ := hcs
      exact ⟨[], rfl, Reads.none _ _⟩
    · simp [Value.cells] at hcs
      obtain ⟨rfl, rfl, rfl⟩ := hcs
      have hz2 : List.length zs = c1 := by simpa using hz
      exact ⟨List.take _ zs, by rw [List.length_take, hz2]; omega, reads_of_ints hl hm hz2 hcell hwz⟩
  subst el1
  clear hA0 hval0
  refine (walk A0 B0 C0 D0 E0 F0 G0 H0 I0 J0 a1 c1 l1 w0A w0B w0C w0D w0E w0F w0G w0H w0I w0J W R1 (tab_of_laid hL)).mono fun e W' ⟨he, bel⟩ => ?_
  subst he
  exact ⟨_, rfl, _, _, _, [], _, [], hW', trodAll_mk1 (shut_bool Tryd.underlying4 _), (trodAll_cons_mk (Below.trod laidOut (by kernel_rfl) (of_decide_eq_true (by kernel_rfl)) k0 bel lt0) (trodAll_cons_mk (Below.trod laidOut (by kernel_rfl) (of_decide_eq_true (by kernel_rfl)) k1 bel lt1) trodAll_mk0)), rfl, bel.frame _, fun h => by cases h⟩

theorem over : Rows.msgBackRow.holds Tryd.pinned (OpenSpec.ofChange Rows.msgBackSpec) :=
  OpenClaim.holds_of_wide 5 Tryd.f5 rfl rfl rfl rfl rfl rfl rfl ⟨rfl, rfl, rfl, rfl, rfl⟩ rfl rfl rfl rfl rfl (by kernel_rfl) Tryd.func5 (by kernel_rfl)
    (of_decide_eq_true (by kernel_rfl)) (by unfold Func.isWrapper; first | (rw [if_pos (by decide +kernel)]; kernel_rfl) | (rw [if_neg (by decide +kernel)]; exact ⟨rfl, rfl⟩))
    (fun os started H enc _ => lifted os started H enc)

theorem tied : Rows.MsgBackCardSaid :=
  Claim7.holds_tied_plain_at .later [] [.data] true (true, "133d690c8e6f5b5e6d71bb0720a65f4d1d23939827a4eba1a95cd2c1b395ac52") false
    over (fun _ h => by cases h) (by kernel_rfl) (fun _ h => by cases h) msgBack_row_tie rfl ⟨rfl, rfl⟩ (by kernel_rfl) rfl
    (fun f fn hf hfn => by
      obtain rfl : f = 5 := Option.some.inj ((show Tryd.prog.funcNamed Rows.msgBackRow.func = some 5 by kernel_rfl).symm.trans hf) |>.symm
      obtain rfl : fn = Tryd.f5 := (Option.some.inj (Tryd.func5.symm.trans hfn)).symm
      exact ⟨by kernel_rfl, fun j t ht => by
        rw [Tryd.params5] at ht
        have hm : t ∈ [29, 31] := by simpa using Array.mem_of_getElem? ht
        have hall : ([29, 31].all fun u => !Tryd.prog.wantsStandIn u) = true := by kernel_rfl
        exact (show Tryd.prog.wantsStandIn t = false by simpa using List.all_eq_true.1 hall t hm)⟩)
    (by kernel_rfl)
end Go.Proofs.YtejaeidmamlkbaaDoor.msgBack
namespace Go.Proofs.YtejaeidmamlkbaaDoor
theorem msgBack_holds : Rows.MsgBackCardSaid := msgBack.tied
#print axioms msgBack_holds
end Go.Proofs.YtejaeidmamlkbaaDoor
