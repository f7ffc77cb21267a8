/- Proved: for every message m, every int k and every byte c the call MsgShort(m, k, c) returns true: a message's bytes, cut short, and with one more, are none; only an Add has more than 9. The table of package msg starts as the program's text lays it (the tie: of the pruned copy that the seat holds). -/
import Derived.Test.YtejaeidmamlkbaaDoorMsgLaid
import Derived.Test.YtejaeidmamlkbaaDoorMsgGet
import Derived.Test.YtejaeidmamlkbaaDoorTie
import Derived.Test.YtejaeidmamlkbaaDoorCards
import Derived.SevenTiedAt
import Derived.Lib.SmallJoins
namespace Go.Proofs.YtejaeidmamlkbaaDoor.msgShort
open Go.ChangeShapes Go.WideShapes Go.ChangeAt Go.RowKit R Q
set_option linter.unusedVariables false

set_option maxHeartbeats 2000000 in
theorem short_bad (y z v g a n i p k t k0 cc : Int) (w : World) (T : Tab w) (hk : okM y z v g a n i p k t = false) :
    Calls Tryd.prog 6 #[.agg #[.int .i64 y, .int .i64 z, .int .i64 v, .int .i64 g, .int .i64 a, .int .i64 n, .int .i64 i, .int .i64 p, .int .i64 k, .int .i64 t], .int .i64 k0, .int .u8 cc] w fun e w' => e = .returned (.bool true) ∧ Below w.heap.size w w' := by
  have hn0 := below_new w (.cells #[.int .i64 y, .int .i64 z, .int .i64 v, .int .i64 g, .int .i64 a, .int .i64 n, .int .i64 i, .int .i64 p, .int .i64 k, .int .i64 t] 29)
  have X0 := Lies.new w [y, z, v, g, a, n, i, p, k, t] 29 (B := w.heap.size) rfl
  have hB := hn0
  clear hn0
  obtain ⟨x00, x01, x02, x03, x04, x05, x06, x07, x08, x09⟩ := X0.ten
  replace T := T.later hB
  go_enter Tryd.func6, Tryd.ntmps6
  go_wp2_with fail
  refine (awake_any _ T).mono ?_
  rintro e w1 ⟨rfl, hb1⟩
  clear x00 x01 x02 x03 x04 x05 x06 x07 x08 x09
  replace X0 := X0.later hb1
  replace T := T.later hb1
  replace hB := below_step hB hb1
  clear hb1
  obtain ⟨x00, x01, x02, x03, x04, x05, x06, x07, x08, x09⟩ := X0.ten
  go_wp2_with fail
  refine (mPut_bad hk _ T).mono ?_
  rintro e w2 ⟨rfl, hb2⟩
  clear x00 x01 x02 x03 x04 x05 x06 x07 x08 x09
  replace X0 := X0.later hb2
  replace T := T.later hb2
  replace hB := below_step hB hb2
  clear hb2
  obtain ⟨x00, x01, x02, x03, x04, x05, x06, x07, x08, x09⟩ := X0.ten
  go_wp2_with fail
  go_ret
  exact ⟨rfl, hB⟩
set_option maxHeartbeats 2000000 in
theorem short_neg9 (y z v g a n i p k t k0 cc : Int) (w : World) (T : Tab w) {B : List Int} (cP : Hid (∀ w, Tab w → Calls Tryd.prog 10 #[.agg #[.int .i64 y, .int .i64 z, .int .i64 v, .int .i64 g, .int .i64 a, .int .i64 n, .int .i64 i, .int .i64 p, .int .i64 k, .int .i64 t]] w fun e w' => ∃ x c, e = .returned (.tuple #[.slice x 9 c, .int .i64 0]) ∧ Reads .u8 w' x c B ∧ Below w.heap.size w w')) (h0 : k0 < 0) :
    Calls Tryd.prog 6 #[.agg #[.int .i64 y, .int .i64 z, .int .i64 v, .int .i64 g, .int .i64 a, .int .i64 n, .int .i64 i, .int .i64 p, .int .i64 k, .int .i64 t], .int .i64 k0, .int .u8 cc] w fun e w' => e = .returned (.bool true) ∧ Below w.heap.size w w' := by
  have hn0 := below_new w (.cells #[.int .i64 y, .int .i64 z, .int .i64 v, .int .i64 g, .int .i64 a, .int .i64 n, .int .i64 i, .int .i64 p, .int .i64 k, .int .i64 t] 29)
  have X0 := Lies.new w [y, z, v, g, a, n, i, p, k, t] 29 (B := w.heap.size) rfl
  have hB := hn0
  clear hn0
  obtain ⟨x00, x01, x02, x03, x04, x05, x06, x07, x08, x09⟩ := X0.ten
  replace T := T.later hB
  go_enter Tryd.func6, Tryd.ntmps6
  go_wp2_with fail
  refine (awake_any _ T).mono ?_
  rintro e w1 ⟨rfl, hb1⟩
  clear x00 x01 x02 x03 x04 x05 x06 x07 x08 x09
  replace X0 := X0.later hb1
  replace T := T.later hb1
  replace hB := below_step hB hb1
  clear hb1
  obtain ⟨x00, x01, x02, x03, x04, x05, x06, x07, x08, x09⟩ := X0.ten
  go_wp2_with fail
  refine (cP.out _ T).mono ?_
  rintro e w2 ⟨a2, k2, rfl, R2, hb2⟩
  clear x00 x01 x02 x03 x04 x05 x06 x07 x08 x09
  replace X0 := X0.later hb2
  replace T := T.later hb2
  replace hB := below_step hB hb2
  clear hb2
  obtain ⟨x00, x01, x02, x03, x04, x05, x06, x07, x08, x09⟩ := X0.ten
  go_wp2_with fail
  go_ret
  exact ⟨rfl, hB⟩
set_option maxHeartbeats 2000000 in
theorem short_out9 (y z v g a n i p k t k0 cc : Int) (w : World) (T : Tab w) {B : List Int} (cP : Hid (∀ w, Tab w → Calls Tryd.prog 10 #[.agg #[.int .i64 y, .int .i64 z, .int .i64 v, .int .i64 g, .int .i64 a, .int .i64 n, .int .i64 i, .int .i64 p, .int .i64 k, .int .i64 t]] w fun e w' => ∃ x c, e = .returned (.tuple #[.slice x 9 c, .int .i64 0]) ∧ Reads .u8 w' x c B ∧ Below w.heap.size w w')) (h0 : 0 ≤ k0) (h1 : 9 ≤ k0) :
    Calls Tryd.prog 6 #[.agg #[.int .i64 y, .int .i64 z, .int .i64 v, .int .i64 g, .int .i64 a, .int .i64 n, .int .i64 i, .int .i64 p, .int .i64 k, .int .i64 t], .int .i64 k0, .int .u8 cc] w fun e w' => e = .returned (.bool true) ∧ Below w.heap.size w w' := by
  have hn0 := below_new w (.cells #[.int .i64 y, .int .i64 z, .int .i64 v, .int .i64 g, .int .i64 a, .int .i64 n, .int .i64 i, .int .i64 p, .int .i64 k, .int .i64 t] 29)
  have X0 := Lies.new w [y, z, v, g, a, n, i, p, k, t] 29 (B := w.heap.size) rfl
  have hB := hn0
  clear hn0
  obtain ⟨x00, x01, x02, x03, x04, x05, x06, x07, x08, x09⟩ := X0.ten
  replace T := T.later hB
  go_enter Tryd.func6, Tryd.ntmps6
  go_wp2_with fail
  refine (awake_any _ T).mono ?_
  rintro e w1 ⟨rfl, hb1⟩
  clear x00 x01 x02 x03 x04 x05 x06 x07 x08 x09
  replace X0 := X0.later hb1
  replace T := T.later hb1
  replace hB := below_step hB hb1
  clear hb1
  obtain ⟨x00, x01, x02, x03, x04, x05, x06, x07, x08, x09⟩ := X0.ten
  go_wp2_with fail
  refine (cP.out _ T).mono ?_
  rintro e w2 ⟨a2, k2, rfl, R2, hb2⟩
  clear x00 x01 x02 x03 x04 x05 x06 x07 x08 x09
  replace X0 := X0.later hb2
  replace T := T.later hb2
  replace hB := below_step hB hb2
  clear hb2
  obtain ⟨x00, x01, x02, x03, x04, x05, x06, x07, x08, x09⟩ := X0.ten
  go_wp2_with fail
  go_ret
  exact ⟨rfl, hB⟩
set_option maxHeartbeats 2000000 in
theorem short_main9 (y z v g a n i p k t cc : Int) (s : Nat) (w : World) (T : Tab w) {B : List Int} (cP : Hid (∀ w, Tab w → Calls Tryd.prog 10 #[.agg #[.int .i64 y, .int .i64 z, .int .i64 v, .int .i64 g, .int .i64 a, .int .i64 n, .int .i64 i, .int .i64 p, .int .i64 k, .int .i64 t]] w fun e w' => ∃ x c, e = .returned (.tuple #[.slice x 9 c, .int .i64 0]) ∧ Reads .u8 w' x c B ∧ Below w.heap.size w w')) (hy2 : (y == 2) = false) (hb9 : B.length = 9) (hs : s < 9) (hT : (B.take s).length = s) (HG : Hid (mgE (B.take s) = 3)) (HG2 : Hid (mgE (B ++ [cc]) = 2)) (HO4 : Hid (O.Oct (B ++ [cc]))) (HL4 : (B ++ [cc]).length = 10) :
    Calls Tryd.prog 6 #[.agg #[.int .i64 y, .int .i64 z, .int .i64 v, .int .i64 g, .int .i64 a, .int .i64 n, .int .i64 i, .int .i64 p, .int .i64 k, .int .i64 t], .int .i64 (s : Int), .int .u8 cc] w fun e w' => e = .returned (.bool true) ∧ Below w.heap.size w w' := by
  have hn0 := below_new w (.cells #[.int .i64 y, .int .i64 z, .int .i64 v, .int .i64 g, .int .i64 a, .int .i64 n, .int .i64 i, .int .i64 p, .int .i64 k, .int .i64 t] 29)
  have X0 := Lies.new w [y, z, v, g, a, n, i, p, k, t] 29 (B := w.heap.size) rfl
  have hB := hn0
  clear hn0
  obtain ⟨x00, x01, x02, x03, x04, x05, x06, x07, x08, x09⟩ := X0.ten
  replace T := T.later hB
  go_enter Tryd.func6, Tryd.ntmps6
  go_wp2_with fail
  refine (awake_any _ T).mono ?_
  rintro e w1 ⟨rfl, hb1⟩
  clear x00 x01 x02 x03 x04 x05 x06 x07 x08 x09
  replace X0 := X0.later hb1
  replace T := T.later hb1
  replace hB := below_step hB hb1
  clear hb1
  obtain ⟨x00, x01, x02, x03, x04, x05, x06, x07, x08, x09⟩ := X0.ten
  go_wp2_with fail
  refine (cP.out _ T).mono ?_
  rintro e w2 ⟨a2, k2, rfl, R2, hb2⟩
  clear x00 x01 x02 x03 x04 x05 x06 x07 x08 x09
  replace X0 := X0.later hb2
  replace T := T.later hb2
  replace hB := below_step hB hb2
  clear hb2
  obtain ⟨x00, x01, x02, x03, x04, x05, x06, x07, x08, x09⟩ := X0.ten
  obtain ⟨bb, oo, rfl, hbb, _⟩ := R2.cells (by intro h; rw [h] at hb9; cases hb9)
  clear hbb
  have hle := R2.le
  have hcap : (s : Int) ≤ (k2 : Int) := by omega
  have RT := R2.take s
  go_wp2_with fail
  refine (mGet_none _ T RT hT (by omega) HG.out (by decide)).mono ?_
  rintro e w3 ⟨rfl, hb3⟩
  clear x00 x01 x02 x03 x04 x05 x06 x07 x08 x09
  replace X0 := X0.later hb3
  replace T := T.later hb3
  replace R2 := R2.later hb3
  replace RT := RT.later hb3
  replace hB := below_step hB hb3
  clear hb3
  obtain ⟨x00, x01, x02, x03, x04, x05, x06, x07, x08, x09⟩ := X0.ten
  clear RT
  have hv0 := below_new w3 (.cells #[.int .i64 0, .int .i64 0, .int .i64 0, .int .i64 0, .int .i64 0, .int .i64 0, .int .i64 0, .int .i64 0, .int .i64 0, .int .i64 0] 29)
  clear x00 x01 x02 x03 x04 x05 x06 x07 x08 x09
  replace X0 := X0.later hv0
  replace T := T.later hv0
  replace R2 := R2.later hv0
  replace hB := below_step hB hv0
  clear hv0
  have V0 := Lies.new w3 [0, 0, 0, 0, 0, 0, 0, 0, 0, 0] 29 (B := w3.heap.size) rfl
  obtain ⟨x00, x01, x02, x03, x04, x05, x06, x07, x08, x09⟩ := X0.ten
  obtain ⟨v00, v01, v02, v03, v04, v05, v06, v07, v08, v09⟩ := V0.ten
  clear x00 x01 x02 x03 x04 x05 x06 x07 x08 x09
  clear v00 v01 v02 v03 v04 v05 v06 v07 v08 v09
  go_wp2_with (first | (at_builtin; refine wpList_join rfl (.const (.slice none 0 0)) (.tmp 45) 31 rfl (w3.alloc (.cells #[.int .i64 0, .int .i64 0, .int .i64 0, .int .i64 0, .int .i64 0, .int .i64 0, .int .i64 0, .int .i64 0, .int .i64 0, .int .i64 0] 29)).heap.size 5 1 Tryd.underlying31 info8 (v := .slice none 0 0) (n := 0) (ys := []) rfl (World.ownsRow_nil _ _ _ _) rfl R2 hb9 (by omega) (by omega) (Nat.le_refl _) ?_; intro v7 w7 own7 hg7; (simp only [Nat.zero_add, List.nil_append] at own7); have hb7 := below_fresh (B := (w3.alloc (.cells #[.int .i64 0, .int .i64 0, .int .i64 0, .int .i64 0, .int .i64 0, .int .i64 0, .int .i64 0, .int .i64 0, .int .i64 0, .int .i64 0] 29)).heap.size) hg7 (Nat.le_refl _)) | (at_builtin; refine wpList_one _ cc 5 rfl rfl (.tmp 46) (.tmp 48) 31 rfl _ 1 Tryd.underlying31 info8 rfl own7 rfl (by omega) (by omega) hb7.size ?_; intro v8 w8 own8 hg8; have hb8 := below_grow (below_step hb7 (below_new w7 (.cells #[.int .u8 cc] 5))) (own7.alloc _) hg8 (Nat.le_trans hb7.size (below_new w7 (.cells #[.int .u8 cc] 5)).size); obtain ⟨a8, k8, rfl, R8, hn8⟩ := reads_of_owns own8 (u8_wf HO4.out)))
  refine (mGet_none _ (T.later hb8) R8 HL4 (by omega) HG2.out (by decide)).mono ?_
  rintro e w9 ⟨rfl, hb9'⟩
  have hz9 := below_new w9 (.cells #[.int .i64 0, .int .i64 0, .int .i64 0, .int .i64 0, .int .i64 0, .int .i64 0, .int .i64 0, .int .i64 0, .int .i64 0, .int .i64 0] 29)
  have X9 := ((X0.later hb8).later hb9').later hz9
  have hB9 := below_step (below_step (below_step hB hb8) hb9') hz9
  obtain ⟨x00, x01, x02, x03, x04, x05, x06, x07, x08, x09⟩ := X9.ten
  go_wp2_with fail
  go_ret
  exact ⟨rfl, hB9⟩
set_option maxHeartbeats 2000000 in
theorem short_neg18 (z v g a n i p k t k0 cc : Int) (w : World) (T : Tab w) {B : List Int} (cP : Hid (∀ w, Tab w → Calls Tryd.prog 10 #[.agg #[.int .i64 2, .int .i64 z, .int .i64 v, .int .i64 g, .int .i64 a, .int .i64 n, .int .i64 i, .int .i64 p, .int .i64 k, .int .i64 t]] w fun e w' => ∃ x c, e = .returned (.tuple #[.slice x 18 c, .int .i64 0]) ∧ Reads .u8 w' x c B ∧ Below w.heap.size w w')) (h0 : k0 < 0) :
    Calls Tryd.prog 6 #[.agg #[.int .i64 2, .int .i64 z, .int .i64 v, .int .i64 g, .int .i64 a, .int .i64 n, .int .i64 i, .int .i64 p, .int .i64 k, .int .i64 t], .int .i64 k0, .int .u8 cc] w fun e w' => e = .returned (.bool true) ∧ Below w.heap.size w w' := by
  have hn0 := below_new w (.cells #[.int .i64 2, .int .i64 z, .int .i64 v, .int .i64 g, .int .i64 a, .int .i64 n, .int .i64 i, .int .i64 p, .int .i64 k, .int .i64 t] 29)
  have X0 := Lies.new w [2, z, v, g, a, n, i, p, k, t] 29 (B := w.heap.size) rfl
  have hB := hn0
  clear hn0
  obtain ⟨x00, x01, x02, x03, x04, x05, x06, x07, x08, x09⟩ := X0.ten
  replace T := T.later hB
  go_enter Tryd.func6, Tryd.ntmps6
  go_wp2_with fail
  refine (awake_any _ T).mono ?_
  rintro e w1 ⟨rfl, hb1⟩
  clear x00 x01 x02 x03 x04 x05 x06 x07 x08 x09
  replace X0 := X0.later hb1
  replace T := T.later hb1
  replace hB := below_step hB hb1
  clear hb1
  obtain ⟨x00, x01, x02, x03, x04, x05, x06, x07, x08, x09⟩ := X0.ten
  go_wp2_with fail
  refine (cP.out _ T).mono ?_
  rintro e w2 ⟨a2, k2, rfl, R2, hb2⟩
  clear x00 x01 x02 x03 x04 x05 x06 x07 x08 x09
  replace X0 := X0.later hb2
  replace T := T.later hb2
  replace hB := below_step hB hb2
  clear hb2
  obtain ⟨x00, x01, x02, x03, x04, x05, x06, x07, x08, x09⟩ := X0.ten
  go_wp2_with fail
  go_ret
  exact ⟨rfl, hB⟩
set_option maxHeartbeats 2000000 in
theorem short_out18 (z v g a n i p k t k0 cc : Int) (w : World) (T : Tab w) {B : List Int} (cP : Hid (∀ w, Tab w → Calls Tryd.prog 10 #[.agg #[.int .i64 2, .int .i64 z, .int .i64 v, .int .i64 g, .int .i64 a, .int .i64 n, .int .i64 i, .int .i64 p, .int .i64 k, .int .i64 t]] w fun e w' => ∃ x c, e = .returned (.tuple #[.slice x 18 c, .int .i64 0]) ∧ Reads .u8 w' x c B ∧ Below w.heap.size w w')) (h0 : 0 ≤ k0) (h1 : 18 ≤ k0) :
    Calls Tryd.prog 6 #[.agg #[.int .i64 2, .int .i64 z, .int .i64 v, .int .i64 g, .int .i64 a, .int .i64 n, .int .i64 i, .int .i64 p, .int .i64 k, .int .i64 t], .int .i64 k0, .int .u8 cc] w fun e w' => e = .returned (.bool true) ∧ Below w.heap.size w w' := by
  have hn0 := below_new w (.cells #[.int .i64 2, .int .i64 z, .int .i64 v, .int .i64 g, .int .i64 a, .int .i64 n, .int .i64 i, .int .i64 p, .int .i64 k, .int .i64 t] 29)
  have X0 := Lies.new w [2, z, v, g, a, n, i, p, k, t] 29 (B := w.heap.size) rfl
  have hB := hn0
  clear hn0
  obtain ⟨x00, x01, x02, x03, x04, x05, x06, x07, x08, x09⟩ := X0.ten
  replace T := T.later hB
  go_enter Tryd.func6, Tryd.ntmps6
  go_wp2_with fail
  refine (awake_any _ T).mono ?_
  rintro e w1 ⟨rfl, hb1⟩
  clear x00 x01 x02 x03 x04 x05 x06 x07 x08 x09
  replace X0 := X0.later hb1
  replace T := T.later hb1
  replace hB := below_step hB hb1
  clear hb1
  obtain ⟨x00, x01, x02, x03, x04, x05, x06, x07, x08, x09⟩ := X0.ten
  go_wp2_with fail
  refine (cP.out _ T).mono ?_
  rintro e w2 ⟨a2, k2, rfl, R2, hb2⟩
  clear x00 x01 x02 x03 x04 x05 x06 x07 x08 x09
  replace X0 := X0.later hb2
  replace T := T.later hb2
  replace hB := below_step hB hb2
  clear hb2
  obtain ⟨x00, x01, x02, x03, x04, x05, x06, x07, x08, x09⟩ := X0.ten
  go_wp2_with fail
  go_ret
  exact ⟨rfl, hB⟩
set_option maxHeartbeats 2000000 in
theorem short_main18 (z v g a n i p k t cc : Int) (s : Nat) (w : World) (T : Tab w) {B : List Int} (cP : Hid (∀ w, Tab w → Calls Tryd.prog 10 #[.agg #[.int .i64 2, .int .i64 z, .int .i64 v, .int .i64 g, .int .i64 a, .int .i64 n, .int .i64 i, .int .i64 p, .int .i64 k, .int .i64 t]] w fun e w' => ∃ x c, e = .returned (.tuple #[.slice x 18 c, .int .i64 0]) ∧ Reads .u8 w' x c B ∧ Below w.heap.size w w')) (hb9 : B.length = 18) (hs : s < 18) (hT : (B.take s).length = s) (HG : Hid (mgE (B.take s) = 3)) (HG2 : Hid (mgE (B ++ [cc]) = 2)) (HO4 : Hid (O.Oct (B ++ [cc]))) (HL4 : (B ++ [cc]).length = 19) :
    Calls Tryd.prog 6 #[.agg #[.int .i64 2, .int .i64 z, .int .i64 v, .int .i64 g, .int .i64 a, .int .i64 n, .int .i64 i, .int .i64 p, .int .i64 k, .int .i64 t], .int .i64 (s : Int), .int .u8 cc] w fun e w' => e = .returned (.bool true) ∧ Below w.heap.size w w' := by
  have hn0 := below_new w (.cells #[.int .i64 2, .int .i64 z, .int .i64 v, .int .i64 g, .int .i64 a, .int .i64 n, .int .i64 i, .int .i64 p, .int .i64 k, .int .i64 t] 29)
  have X0 := Lies.new w [2, z, v, g, a, n, i, p, k, t] 29 (B := w.heap.size) rfl
  have hB := hn0
  clear hn0
  obtain ⟨x00, x01, x02, x03, x04, x05, x06, x07, x08, x09⟩ := X0.ten
  replace T := T.later hB
  go_enter Tryd.func6, Tryd.ntmps6
  go_wp2_with fail
  refine (awake_any _ T).mono ?_
  rintro e w1 ⟨rfl, hb1⟩
  clear x00 x01 x02 x03 x04 x05 x06 x07 x08 x09
  replace X0 := X0.later hb1
  replace T := T.later hb1
  replace hB := below_step hB hb1
  clear hb1
  obtain ⟨x00, x01, x02, x03, x04, x05, x06, x07, x08, x09⟩ := X0.ten
  go_wp2_with fail
  refine (cP.out _ T).mono ?_
  rintro e w2 ⟨a2, k2, rfl, R2, hb2⟩
  clear x00 x01 x02 x03 x04 x05 x06 x07 x08 x09
  replace X0 := X0.later hb2
  replace T := T.later hb2
  replace hB := below_step hB hb2
  clear hb2
  obtain ⟨x00, x01, x02, x03, x04, x05, x06, x07, x08, x09⟩ := X0.ten
  obtain ⟨bb, oo, rfl, hbb, _⟩ := R2.cells (by intro h; rw [h] at hb9; cases hb9)
  clear hbb
  have hle := R2.le
  have hcap : (s : Int) ≤ (k2 : Int) := by omega
  have RT := R2.take s
  go_wp2_with fail
  refine (mGet_none _ T RT hT (by omega) HG.out (by decide)).mono ?_
  rintro e w3 ⟨rfl, hb3⟩
  clear x00 x01 x02 x03 x04 x05 x06 x07 x08 x09
  replace X0 := X0.later hb3
  replace T := T.later hb3
  replace R2 := R2.later hb3
  replace RT := RT.later hb3
  replace hB := below_step hB hb3
  clear hb3
  obtain ⟨x00, x01, x02, x03, x04, x05, x06, x07, x08, x09⟩ := X0.ten
  clear RT
  have hv0 := below_new w3 (.cells #[.int .i64 0, .int .i64 0, .int .i64 0, .int .i64 0, .int .i64 0, .int .i64 0, .int .i64 0, .int .i64 0, .int .i64 0, .int .i64 0] 29)
  clear x00 x01 x02 x03 x04 x05 x06 x07 x08 x09
  replace X0 := X0.later hv0
  replace T := T.later hv0
  replace R2 := R2.later hv0
  replace hB := below_step hB hv0
  clear hv0
  have V0 := Lies.new w3 [0, 0, 0, 0, 0, 0, 0, 0, 0, 0] 29 (B := w3.heap.size) rfl
  obtain ⟨x00, x01, x02, x03, x04, x05, x06, x07, x08, x09⟩ := X0.ten
  obtain ⟨v00, v01, v02, v03, v04, v05, v06, v07, v08, v09⟩ := V0.ten
  clear x00 x01 x02 x03 x04 x05 x06 x07 x08 x09
  clear v00 v01 v02 v03 v04 v05 v06 v07 v08 v09
  go_wp2_with (first | (at_builtin; refine wpList_join rfl (.const (.slice none 0 0)) (.tmp 45) 31 rfl (w3.alloc (.cells #[.int .i64 0, .int .i64 0, .int .i64 0, .int .i64 0, .int .i64 0, .int .i64 0, .int .i64 0, .int .i64 0, .int .i64 0, .int .i64 0] 29)).heap.size 5 1 Tryd.underlying31 info8 (v := .slice none 0 0) (n := 0) (ys := []) rfl (World.ownsRow_nil _ _ _ _) rfl R2 hb9 (by omega) (by omega) (Nat.le_refl _) ?_; intro v7 w7 own7 hg7; (simp only [Nat.zero_add, List.nil_append] at own7); have hb7 := below_fresh (B := (w3.alloc (.cells #[.int .i64 0, .int .i64 0, .int .i64 0, .int .i64 0, .int .i64 0, .int .i64 0, .int .i64 0, .int .i64 0, .int .i64 0, .int .i64 0] 29)).heap.size) hg7 (Nat.le_refl _)) | (at_builtin; refine wpList_one _ cc 5 rfl rfl (.tmp 46) (.tmp 48) 31 rfl _ 1 Tryd.underlying31 info8 rfl own7 rfl (by omega) (by omega) hb7.size ?_; intro v8 w8 own8 hg8; have hb8 := below_grow (below_step hb7 (below_new w7 (.cells #[.int .u8 cc] 5))) (own7.alloc _) hg8 (Nat.le_trans hb7.size (below_new w7 (.cells #[.int .u8 cc] 5)).size); obtain ⟨a8, k8, rfl, R8, hn8⟩ := reads_of_owns own8 (u8_wf HO4.out)))
  refine (mGet_none _ (T.later hb8) R8 HL4 (by omega) HG2.out (by decide)).mono ?_
  rintro e w9 ⟨rfl, hb9'⟩
  have hz9 := below_new w9 (.cells #[.int .i64 0, .int .i64 0, .int .i64 0, .int .i64 0, .int .i64 0, .int .i64 0, .int .i64 0, .int .i64 0, .int .i64 0, .int .i64 0] 29)
  have X9 := ((X0.later hb8).later hb9').later hz9
  have hB9 := below_step (below_step (below_step hB hb8) hb9') hz9
  obtain ⟨x00, x01, x02, x03, x04, x05, x06, x07, x08, x09⟩ := X9.ten
  go_wp2_with fail
  go_ret
  exact ⟨rfl, hB9⟩
theorem oct_more {l : List Int} (hl : O.Oct l) {c : Int} (hc : 0 ≤ c ∧ c ≤ 255) : O.Oct (l ++ [c]) := fun z hz => (List.mem_append.1 hz).elim (hl z) (fun h => by rw [List.mem_singleton.1 h]; exact hc)
theorem walk (y z v g a n i p k t k0 cc : Int) (wy : (Lit.int .i64 y).wf = true) (wz : (Lit.int .i64 z).wf = true) (wv : (Lit.int .i64 v).wf = true) (wg : (Lit.int .i64 g).wf = true) (wa : (Lit.int .i64 a).wf = true) (wn : (Lit.int .i64 n).wf = true) (wi : (Lit.int .i64 i).wf = true) (wp : (Lit.int .i64 p).wf = true) (wk : (Lit.int .i64 k).wf = true) (wt : (Lit.int .i64 t).wf = true) (wk0 : (Lit.int .i64 k0).wf = true) (wcc : (Lit.int .u8 cc).wf = true) (w : World) (T : Tab w) :
    Calls Tryd.prog 6 #[.agg #[.int .i64 y, .int .i64 z, .int .i64 v, .int .i64 g, .int .i64 a, .int .i64 n, .int .i64 i, .int .i64 p, .int .i64 k, .int .i64 t], .int .i64 k0, .int .u8 cc] w fun e w' => e = .returned (.bool true) ∧ Below w.heap.size w w' := by
  cases hk : okM y z v g a n i p k t
  · exact short_bad y z v g a n i p k t k0 cc w T hk
  have hc := wf_u8 wcc
  have hN := bodyM_len hk
  by_cases hy : y = 2
  · subst hy
    have cP := fun w T => mPut_ok hk w T
    rw [lenM_two rfl] at cP hN
    by_cases h0 : k0 < 0
    · exact short_neg18 z v g a n i p k t k0 cc w T cP h0
    by_cases h1 : 18 ≤ k0
    · exact short_out18 z v g a n i p k t k0 cc w T cP (by omega) h1
    obtain ⟨s, rfl⟩ : ∃ s : Nat, k0 = (s : Int) := ⟨k0.toNat, by omega⟩
    exact short_main18 z v g a n i p k t cc s w T cP hN (by omega) (by rw [List.length_take, hN]; omega) (msg_cut hk (by rw [lenM_two rfl]; omega)) (msg_more hk cc) (oct_more (bodyM_oct _ _ _ _ _ _ _ _ _ _) hc) (by rw [List.length_append, hN]; rfl)
  · have cP := fun w T => mPut_ok hk w T
    rw [lenM_not hy] at cP hN
    by_cases h0 : k0 < 0
    · exact short_neg9 y z v g a n i p k t k0 cc w T cP h0
    by_cases h1 : 9 ≤ k0
    · exact short_out9 y z v g a n i p k t k0 cc w T cP (by omega) h1
    obtain ⟨s, rfl⟩ : ∃ s : Nat, k0 = (s : Int) := ⟨k0.toNat, by omega⟩
    exact short_main9 y z v g a n i p k t cc s w T cP (by simpa using hy) hN (by omega) (by rw [List.length_take, hN]; omega) (msg_cut hk (by rw [lenM_not hy]; omega)) (msg_more hk cc) (oct_more (bodyM_oct _ _ _ _ _ _ _ _ _ _) hc) (by rw [List.length_append, hN]; rfl)

set_option maxRecDepth 100000 in
theorem lifted (os : Os) (started : os.Started) (H : Type) (enc : TypeId × Value → H) :
    ReturnsInHanded {} Tryd.checked os 6 .any (fun w args => (Rows.msgShortSpec.pre enc Tryd.prog Tryd.f6 [] false w args ∧ laidMetH Tryd.prog [("wayfinder/msg.rows", Rows.laid_wayfinder_msg_rows)] w) ∧ sizedMet enc Tryd.prog Tryd.f6 (OpenSpec.ofChange Rows.msgShortSpec) false w args) (Rows.msgShortSpec.post enc Tryd.prog Tryd.f6 false true false false) := by
  refine returnsInHanded_of_change_and (C := Tryd.checked) (X := fun w _ => laidMetH Tryd.prog [("wayfinder/msg.rows", Rows.laid_wayfinder_msg_rows)] w) (fun _ _ _ hh h => h.of_heap hh) own started (by kernel_rfl) Tryd.func6
    (ChangeSpec.witness_shaped (enc := enc) (C := Tryd.checked) (os := os) (X := fun w _ => laidMetH Tryd.prog [("wayfinder/msg.rows", Rows.laid_wayfinder_msg_rows)] w) false (World.doorLaid Tryd.prog 400 os) #[.agg #[.int .i64 0, .int .i64 0, .int .i64 0, .int .i64 0, .int .i64 0, .int .i64 0, .int .i64 0, .int .i64 0, .int .i64 0, .int .i64 0], .int .i64 0, .int .u8 0] 8 rfl (World.shaped_of_RefB (by kernel_rfl) (by kernel_rfl)) (by kernel_rfl) (by kernel_rfl) (by kernel_rfl) (door_met os _)) ?_
  intro W base args ds gs before hval0 hW _ _ hL _
  have hval : ∀ (j : Nat) t v, Tryd.f6.params[j]? = some t → args[j]? = some v → Value.okWide Tryd.prog W .any base t v := hval0
  have hW' := hW
  obtain ⟨p, q, hA0, hV, rfl, hfz, hnd⟩ := hW
  have hA : DataW.TrodAll enc Tryd.prog W 0 (fun _ => true) true Tryd.f6.params.toList args.toList ds p := hA0
  rw [Tryd.params6] at hA hval
  obtain ⟨v0, vs0, d0, ds0, p0, q0, hargs, rfl, rfl, h0, r0⟩ := trodAll_cons hA
  obtain ⟨v1, vs1, d1, ds1, p1, q1, rfl, rfl, rfl, h1, r1⟩ := trodAll_cons r0
  obtain ⟨v2, vs2, d2, ds2, p2, q2, rfl, rfl, rfl, h2, r2⟩ := trodAll_cons r1
  obtain ⟨rfl, rfl, rfl⟩ := trodAll_nil r2
  obtain rfl : args = #[v0, v1, v2] := by cases args; simp_all
  obtain ⟨rfl, rfl⟩ := trodVars_none hV
  have k0 := h0
  have lt0 : ∀ x ∈ p0, x.block < W.heap.size := by obtain ⟨m, hm⟩ := k0; exact DataW.trod_lt m _ _ _ hm
  have k1 := h1
  have lt1 : ∀ x ∈ p1, x.block < W.heap.size := by obtain ⟨m, hm⟩ := k1; exact DataW.trod_lt m _ _ _ hm
  have k2 := h2
  have lt2 : ∀ x ∈ p2, x.block < W.heap.size := by obtain ⟨m, hm⟩ := k2; exact DataW.trod_lt m _ _ _ hm
  obtain ⟨A0, B0, C0, D0, E0, F0, G0, H0, I0, J0, rfl, w0A, w0B, w0C, w0D, w0E, w0F, w0G, w0H, w0I, w0J⟩ := open_msg (hval 0 29 v0 rfl rfl) h0
  obtain ⟨a1, rfl, rfl, hp1, w1⟩ := open_int Tryd.underlying3 (hval 1 3 v1 rfl rfl) h1
  obtain ⟨a2, rfl, rfl, hp2, w2⟩ := open_int Tryd.underlying5 (hval 2 5 v2 rfl rfl) h2
  clear hA0 hval0
  refine (walk A0 B0 C0 D0 E0 F0 G0 H0 I0 J0 a1 a2 w0A w0B w0C w0D w0E w0F w0G w0H w0I w0J w1 w2 W (tab_of_laid hL)).mono fun e W' ⟨he, bel⟩ => ?_
  subst he
  exact ⟨_, rfl, _, _, _, [], _, [], hW', trodAll_mk1 (shut_bool Tryd.underlying4 _), (trodAll_cons_mk (Below.trod laidOut (by kernel_rfl) (of_decide_eq_true (by kernel_rfl)) k0 bel lt0) (trodAll_cons_mk (Below.trod laidOut (by kernel_rfl) (of_decide_eq_true (by kernel_rfl)) k1 bel lt1) (trodAll_cons_mk (Below.trod laidOut (by kernel_rfl) (of_decide_eq_true (by kernel_rfl)) k2 bel lt2) trodAll_mk0))), rfl, bel.frame _, fun h => by cases h⟩

theorem over : Rows.msgShortRow.holds Tryd.pinned (OpenSpec.ofChange Rows.msgShortSpec) :=
  OpenClaim.holds_of_wide 6 Tryd.f6 rfl rfl rfl rfl rfl rfl rfl ⟨rfl, rfl, rfl, rfl, rfl⟩ rfl rfl rfl rfl rfl (by kernel_rfl) Tryd.func6 (by kernel_rfl)
    (of_decide_eq_true (by kernel_rfl)) (by unfold Func.isWrapper; first | (rw [if_pos (by decide +kernel)]; kernel_rfl) | (rw [if_neg (by decide +kernel)]; exact ⟨rfl, rfl⟩))
    (fun os started H enc _ => lifted os started H enc)

theorem tied : Rows.MsgShortCardSaid :=
  Claim7.holds_tied_plain_at .later [] [.data] true (true, "133d690c8e6f5b5e6d71bb0720a65f4d1d23939827a4eba1a95cd2c1b395ac52") false
    over (fun _ h => by cases h) (by kernel_rfl) (fun _ h => by cases h) msgShort_row_tie rfl ⟨rfl, rfl⟩ (by kernel_rfl) rfl
    (fun f fn hf hfn => by
      obtain rfl : f = 6 := Option.some.inj ((show Tryd.prog.funcNamed Rows.msgShortRow.func = some 6 by kernel_rfl).symm.trans hf) |>.symm
      obtain rfl : fn = Tryd.f6 := (Option.some.inj (Tryd.func6.symm.trans hfn)).symm
      exact ⟨by kernel_rfl, fun j t ht => by
        rw [Tryd.params6] at ht
        have hm : t ∈ [29, 3, 5] := by simpa using Array.mem_of_getElem? ht
        have hall : ([29, 3, 5].all fun u => !Tryd.prog.wantsStandIn u) = true := by kernel_rfl
        exact (show Tryd.prog.wantsStandIn t = false by simpa using List.all_eq_true.1 hall t hm)⟩)
    (by kernel_rfl)
end Go.Proofs.YtejaeidmamlkbaaDoor.msgShort
namespace Go.Proofs.YtejaeidmamlkbaaDoor
theorem msgShort_holds : Rows.MsgShortCardSaid := msgShort.tied
#print axioms msgShort_holds
end Go.Proofs.YtejaeidmamlkbaaDoor
