/- Proved: for every message m, every int at and every byte mask the call FrameSpoilt(m, at, mask) returns true: one byte of a frame that is another one, one more, and fewer, are none. The table of package msg starts as the program's text lays it (the tie: of the pruned copy that the seat holds). -/
import Derived.Test.YtklcchmpmilcaaaDoorFrameSeal
import Derived.Test.YtklcchmpmilcaaaDoorFrameOpen
import Derived.Test.YtklcchmpmilcaaaDoorMsgLaid
import Derived.Test.YtklcchmpmilcaaaDoorTie
import Derived.Test.YtklcchmpmilcaaaDoorCards
import Derived.SevenTiedAt
import Derived.Lib.SmallJoins
namespace Go.Proofs.YtklcchmpmilcaaaDoor.frameSpoilt
open Go.ChangeShapes Go.WideShapes Go.ChangeAt Go.RowKit R Q Fr
set_option linter.unusedVariables false


theorem getD_some {l : List Int} {q : Nat} {x : Int} (hq : q < l.length) (hx : l.getD q 0 = x) : l[q]? = some x := by rw [← hx, O.getD_el hq]; exact List.getElem?_eq_getElem hq
set_option maxHeartbeats 1000000 in
theorem spoilt_bad (y z v g a n i p k t q cc : Int) (w : World) (T : Tab w) (hk : okM y z v g a n i p k t = false) :
    Calls Tryd.prog 5 #[.agg #[.int .i64 y, .int .i64 z, .int .i64 v, .int .i64 g, .int .i64 a, .int .i64 n, .int .i64 i, .int .i64 p, .int .i64 k, .int .i64 t], .int .i64 q, .int .u8 cc] w fun e w' => e = .returned (.bool true) ∧ Below w.heap.size w w' := by
  have hn0 := below_new w (.cells #[.int .i64 y, .int .i64 z, .int .i64 v, .int .i64 g, .int .i64 a, .int .i64 n, .int .i64 i, .int .i64 p, .int .i64 k, .int .i64 t] 29)
  have X0 := Lies.new w [y, z, v, g, a, n, i, p, k, t] 29 (B := w.heap.size) rfl
  have hB := hn0
  clear hn0
  obtain ⟨x00, x01, x02, x03, x04, x05, x06, x07, x08, x09⟩ := X0.ten
  replace T := T.later hB
  go_enter Tryd.func5, Tryd.ntmps5
  go_wp2_with fail
  refine (awake_any _ T).mono ?_
  rintro e w1 ⟨rfl, hb1⟩
  clear x00 x01 x02 x03 x04 x05 x06 x07 x08 x09
  replace X0 := X0.later hb1
  replace T := T.later hb1
  replace hB := below_step hB hb1
  clear hb1
  obtain ⟨x00, x01, x02, x03, x04, x05, x06, x07, x08, x09⟩ := X0.ten
  go_wp2_with fail
  refine (fSeal_bad hk _ T).mono ?_
  rintro e w2 ⟨rfl, hb2⟩
  clear x00 x01 x02 x03 x04 x05 x06 x07 x08 x09
  replace X0 := X0.later hb2
  replace T := T.later hb2
  replace hB := below_step hB hb2
  clear hb2
  obtain ⟨x00, x01, x02, x03, x04, x05, x06, x07, x08, x09⟩ := X0.ten
  go_wp2_with fail
  go_ret
  exact ⟨rfl, hB⟩
set_option maxHeartbeats 1000000 in
theorem spoilt_neg14 (y z v g a n i p k t q cc : Int) (w : World) (T : Tab w) {F : List Int} (cS : Hid (∀ w, Tab w → Calls Tryd.prog 10 #[.agg #[.int .i64 y, .int .i64 z, .int .i64 v, .int .i64 g, .int .i64 a, .int .i64 n, .int .i64 i, .int .i64 p, .int .i64 k, .int .i64 t]] w fun e w' => ∃ x c, e = .returned (.tuple #[.slice x 14 c, .int .i64 0]) ∧ Reads .u8 w' x c F ∧ Below w.heap.size w w')) (h : q < 0) :
    Calls Tryd.prog 5 #[.agg #[.int .i64 y, .int .i64 z, .int .i64 v, .int .i64 g, .int .i64 a, .int .i64 n, .int .i64 i, .int .i64 p, .int .i64 k, .int .i64 t], .int .i64 q, .int .u8 cc] w fun e w' => e = .returned (.bool true) ∧ Below w.heap.size w w' := by
  have hn0 := below_new w (.cells #[.int .i64 y, .int .i64 z, .int .i64 v, .int .i64 g, .int .i64 a, .int .i64 n, .int .i64 i, .int .i64 p, .int .i64 k, .int .i64 t] 29)
  have X0 := Lies.new w [y, z, v, g, a, n, i, p, k, t] 29 (B := w.heap.size) rfl
  have hB := hn0
  clear hn0
  obtain ⟨x00, x01, x02, x03, x04, x05, x06, x07, x08, x09⟩ := X0.ten
  replace T := T.later hB
  go_enter Tryd.func5, Tryd.ntmps5
  go_wp2_with fail
  refine (awake_any _ T).mono ?_
  rintro e w1 ⟨rfl, hb1⟩
  clear x00 x01 x02 x03 x04 x05 x06 x07 x08 x09
  replace X0 := X0.later hb1
  replace T := T.later hb1
  replace hB := below_step hB hb1
  clear hb1
  obtain ⟨x00, x01, x02, x03, x04, x05, x06, x07, x08, x09⟩ := X0.ten
  go_wp2_with fail
  refine (cS.out _ T).mono ?_
  rintro e w2 ⟨a2, k2, rfl, R2, hb2⟩
  clear x00 x01 x02 x03 x04 x05 x06 x07 x08 x09
  replace X0 := X0.later hb2
  replace T := T.later hb2
  replace hB := below_step hB hb2
  clear hb2
  obtain ⟨x00, x01, x02, x03, x04, x05, x06, x07, x08, x09⟩ := X0.ten
  go_wp2_with fail
  go_ret
  exact ⟨rfl, hB⟩
set_option maxHeartbeats 1000000 in
theorem spoilt_far14 (y z v g a n i p k t q cc : Int) (w : World) (T : Tab w) {F : List Int} (cS : Hid (∀ w, Tab w → Calls Tryd.prog 10 #[.agg #[.int .i64 y, .int .i64 z, .int .i64 v, .int .i64 g, .int .i64 a, .int .i64 n, .int .i64 i, .int .i64 p, .int .i64 k, .int .i64 t]] w fun e w' => ∃ x c, e = .returned (.tuple #[.slice x 14 c, .int .i64 0]) ∧ Reads .u8 w' x c F ∧ Below w.heap.size w w')) (h : 0 ≤ q) (h1 : 14 ≤ q) :
    Calls Tryd.prog 5 #[.agg #[.int .i64 y, .int .i64 z, .int .i64 v, .int .i64 g, .int .i64 a, .int .i64 n, .int .i64 i, .int .i64 p, .int .i64 k, .int .i64 t], .int .i64 q, .int .u8 cc] w fun e w' => e = .returned (.bool true) ∧ Below w.heap.size w w' := by
  have hn0 := below_new w (.cells #[.int .i64 y, .int .i64 z, .int .i64 v, .int .i64 g, .int .i64 a, .int .i64 n, .int .i64 i, .int .i64 p, .int .i64 k, .int .i64 t] 29)
  have X0 := Lies.new w [y, z, v, g, a, n, i, p, k, t] 29 (B := w.heap.size) rfl
  have hB := hn0
  clear hn0
  obtain ⟨x00, x01, x02, x03, x04, x05, x06, x07, x08, x09⟩ := X0.ten
  replace T := T.later hB
  go_enter Tryd.func5, Tryd.ntmps5
  go_wp2_with fail
  refine (awake_any _ T).mono ?_
  rintro e w1 ⟨rfl, hb1⟩
  clear x00 x01 x02 x03 x04 x05 x06 x07 x08 x09
  replace X0 := X0.later hb1
  replace T := T.later hb1
  replace hB := below_step hB hb1
  clear hb1
  obtain ⟨x00, x01, x02, x03, x04, x05, x06, x07, x08, x09⟩ := X0.ten
  go_wp2_with fail
  refine (cS.out _ T).mono ?_
  rintro e w2 ⟨a2, k2, rfl, R2, hb2⟩
  clear x00 x01 x02 x03 x04 x05 x06 x07 x08 x09
  replace X0 := X0.later hb2
  replace T := T.later hb2
  replace hB := below_step hB hb2
  clear hb2
  obtain ⟨x00, x01, x02, x03, x04, x05, x06, x07, x08, x09⟩ := X0.ten
  go_wp2_with fail
  go_ret
  exact ⟨rfl, hB⟩
set_option maxHeartbeats 1000000 in
theorem spoilt_zero14 (y z v g a n i p k t q : Int) (w : World) (T : Tab w) {F : List Int} (cS : Hid (∀ w, Tab w → Calls Tryd.prog 10 #[.agg #[.int .i64 y, .int .i64 z, .int .i64 v, .int .i64 g, .int .i64 a, .int .i64 n, .int .i64 i, .int .i64 p, .int .i64 k, .int .i64 t]] w fun e w' => ∃ x c, e = .returned (.tuple #[.slice x 14 c, .int .i64 0]) ∧ Reads .u8 w' x c F ∧ Below w.heap.size w w')) (h : 0 ≤ q) (h1 : q < 14) :
    Calls Tryd.prog 5 #[.agg #[.int .i64 y, .int .i64 z, .int .i64 v, .int .i64 g, .int .i64 a, .int .i64 n, .int .i64 i, .int .i64 p, .int .i64 k, .int .i64 t], .int .i64 q, .int .u8 0] w fun e w' => e = .returned (.bool true) ∧ Below w.heap.size w w' := by
  have hn0 := below_new w (.cells #[.int .i64 y, .int .i64 z, .int .i64 v, .int .i64 g, .int .i64 a, .int .i64 n, .int .i64 i, .int .i64 p, .int .i64 k, .int .i64 t] 29)
  have X0 := Lies.new w [y, z, v, g, a, n, i, p, k, t] 29 (B := w.heap.size) rfl
  have hB := hn0
  clear hn0
  obtain ⟨x00, x01, x02, x03, x04, x05, x06, x07, x08, x09⟩ := X0.ten
  replace T := T.later hB
  go_enter Tryd.func5, Tryd.ntmps5
  go_wp2_with fail
  refine (awake_any _ T).mono ?_
  rintro e w1 ⟨rfl, hb1⟩
  clear x00 x01 x02 x03 x04 x05 x06 x07 x08 x09
  replace X0 := X0.later hb1
  replace T := T.later hb1
  replace hB := below_step hB hb1
  clear hb1
  obtain ⟨x00, x01, x02, x03, x04, x05, x06, x07, x08, x09⟩ := X0.ten
  go_wp2_with fail
  refine (cS.out _ T).mono ?_
  rintro e w2 ⟨a2, k2, rfl, R2, hb2⟩
  clear x00 x01 x02 x03 x04 x05 x06 x07 x08 x09
  replace X0 := X0.later hb2
  replace T := T.later hb2
  replace hB := below_step hB hb2
  clear hb2
  obtain ⟨x00, x01, x02, x03, x04, x05, x06, x07, x08, x09⟩ := X0.ten
  go_wp2_with fail
  go_ret
  exact ⟨rfl, hB⟩
set_option maxHeartbeats 4000000 in
theorem spoilt_main14 (y z v g a n i p k t cc x zz : Int) (q : Nat) (w : World) (T : Tab w) {F : List Int} (cS : Hid (∀ w, Tab w → Calls Tryd.prog 10 #[.agg #[.int .i64 y, .int .i64 z, .int .i64 v, .int .i64 g, .int .i64 a, .int .i64 n, .int .i64 i, .int .i64 p, .int .i64 k, .int .i64 t]] w fun e w' => ∃ x c, e = .returned (.tuple #[.slice x 14 c, .int .i64 0]) ∧ Reads .u8 w' x c F ∧ Below w.heap.size w w')) (hF : F.length = 14) (hq : q < 14) (hq1 : (q : Int) < 14) (hm : (cc == 0) = false)
    (HX : Hid (F[q]? = some x)) (HO2 : Hid (O.Oct (F.set q (bits .xor .u8 x cc)))) (HS : Hid (foE (F.set q (bits .xor .u8 x cc)) = zz)) (HZ : Hid (zz ≠ 0)) (HL3 : (F.take q).length = q) (HP3 : Hid (foE (F.take q) = 3)) (HO4 : Hid (O.Oct (F ++ [cc]))) (HL4 : (F ++ [cc]).length = 15) (HP4 : Hid (foE (F ++ [cc]) = 2)) :
    Calls Tryd.prog 5 #[.agg #[.int .i64 y, .int .i64 z, .int .i64 v, .int .i64 g, .int .i64 a, .int .i64 n, .int .i64 i, .int .i64 p, .int .i64 k, .int .i64 t], .int .i64 (q : Int), .int .u8 cc] w fun e w' => e = .returned (.bool true) ∧ Below w.heap.size w w' := by
  have hn0 := below_new w (.cells #[.int .i64 y, .int .i64 z, .int .i64 v, .int .i64 g, .int .i64 a, .int .i64 n, .int .i64 i, .int .i64 p, .int .i64 k, .int .i64 t] 29)
  have X0 := Lies.new w [y, z, v, g, a, n, i, p, k, t] 29 (B := w.heap.size) rfl
  have hB := hn0
  clear hn0
  obtain ⟨x00, x01, x02, x03, x04, x05, x06, x07, x08, x09⟩ := X0.ten
  replace T := T.later hB
  go_enter Tryd.func5, Tryd.ntmps5
  go_wp2_with fail
  refine (awake_any _ T).mono ?_
  rintro e w1 ⟨rfl, hb1⟩
  clear x00 x01 x02 x03 x04 x05 x06 x07 x08 x09
  replace X0 := X0.later hb1
  replace T := T.later hb1
  replace hB := below_step hB hb1
  clear hb1
  obtain ⟨x00, x01, x02, x03, x04, x05, x06, x07, x08, x09⟩ := X0.ten
  go_wp2_with fail
  refine (cS.out _ T).mono ?_
  rintro e w2 ⟨a2, k2, rfl, R2, hb2⟩
  clear x00 x01 x02 x03 x04 x05 x06 x07 x08 x09
  replace X0 := X0.later hb2
  replace T := T.later hb2
  replace hB := below_step hB hb2
  clear hb2
  obtain ⟨x00, x01, x02, x03, x04, x05, x06, x07, x08, x09⟩ := X0.ten
  clear x00 x01 x02 x03 x04 x05 x06 x07 x08 x09
  have hk2 : (14 : Int) ≤ (k2 : Int) := by have := R2.le; omega
  obtain ⟨b2, o2, rfl, _, _⟩ := R2.cells (by intro h; rw [h] at hF; cases hF)
  clear X0
  go_wp2_with (at_builtin; refine wpList_join rfl (.const (.slice none 0 0)) (.tmp 44) 30 rfl w2.heap.size 5 1 Tryd.underlying30 info8 (v := .slice none 0 0) (n := 0) (ys := []) rfl (World.ownsRow_nil _ _ _ _) rfl R2 hF (by omega) (by omega) (Nat.le_refl _) ?_; intro v3 w3 own3 hg3; obtain ⟨gb, cap, rfl, hg0, hglt⟩ := own3.form (by omega); (simp only [Nat.zero_add, List.nil_append] at own3); have hcq := own_cell own3 (by omega) HX.out; have hfq := own3.frozenAt q)
  have S4 := (own3.stored q (.int .u8 (bits .xor .u8 x cc))).1
  rw [← List.map_set] at S4
  obtain ⟨R4, hn4⟩ := reads_own S4 (u8_wf HO2.out)
  have hb3 : Below w2.heap.size w2 (w3.setCell ⟨gb, q, none⟩ (.int .u8 (bits .xor .u8 x cc))) := (below_fresh (B := w2.heap.size) hg3 (Nat.le_refl _)).setCell hg0 _
  refine (fOpen_none _ (T.later hb3) R4 hn4 (by omega) HS.out HZ.out).mono ?_
  rintro e w5 ⟨rfl, hb5⟩
  have hz5 := below_new w5 (.cells #[.int .i64 0, .int .i64 0, .int .i64 0, .int .i64 0, .int .i64 0, .int .i64 0, .int .i64 0, .int .i64 0, .int .i64 0, .int .i64 0] 29)
  have Z5 := Lies.new w5 [0, 0, 0, 0, 0, 0, 0, 0, 0, 0] 29 rfl
  have hb25 := below_step (below_step hb3 hb5) hz5
  have T5 := T.later hb25
  have R5 := R2.later hb25
  clear hcq hfq S4 R4 hn4 own3 hg3 hb3 hb5 hz5
  go_wp2_with fail
  refine (fOpen_none _ T5 (R5.take q) HL3 (by omega) HP3.out (by decide)).mono ?_
  rintro e w6 ⟨rfl, hb6⟩
  have hz6 := below_new w6 (.cells #[.int .i64 0, .int .i64 0, .int .i64 0, .int .i64 0, .int .i64 0, .int .i64 0, .int .i64 0, .int .i64 0, .int .i64 0, .int .i64 0] 29)
  have Z6 := (Z5.later hb6).later hz6
  have hb26 := below_step (below_step hb25 hb6) hz6
  have T6 := T.later hb26
  have R6 := R2.later hb26
  clear T5 R5 hb25 hb6 hz6 Z5
  go_wp2_with (first | (at_builtin; refine wpList_join rfl (.const (.slice none 0 0)) (.tmp 68) 30 rfl (w6.alloc (.cells #[.int .i64 0, .int .i64 0, .int .i64 0, .int .i64 0, .int .i64 0, .int .i64 0, .int .i64 0, .int .i64 0, .int .i64 0, .int .i64 0] 29)).heap.size 5 1 Tryd.underlying30 info8 (v := .slice none 0 0) (n := 0) (ys := []) rfl (World.ownsRow_nil _ _ _ _) rfl R6 hF (by omega) (by omega) (Nat.le_refl _) ?_; intro v7 w7 own7 hg7; (simp only [Nat.zero_add, List.nil_append] at own7); have hb7 := below_fresh (B := (w6.alloc (.cells #[.int .i64 0, .int .i64 0, .int .i64 0, .int .i64 0, .int .i64 0, .int .i64 0, .int .i64 0, .int .i64 0, .int .i64 0, .int .i64 0] 29)).heap.size) hg7 (Nat.le_refl _)) | (at_builtin; refine wpList_one _ cc 5 rfl rfl (.tmp 69) (.tmp 71) 30 rfl _ 1 Tryd.underlying30 info8 rfl own7 rfl (by omega) (by omega) hb7.size ?_; intro v8 w8 own8 hg8; have hb8 := below_grow (below_step hb7 (below_new w7 (.cells #[.int .u8 cc] 5))) (own7.alloc _) hg8 (Nat.le_trans hb7.size (below_new w7 (.cells #[.int .u8 cc] 5)).size); obtain ⟨a8, k8, rfl, R8, hn8⟩ := reads_of_owns own8 (u8_wf HO4.out)))
  refine (fOpen_none _ (T6.later hb8) R8 HL4 (by omega) HP4.out (by decide)).mono ?_
  rintro e w9 ⟨rfl, hb9⟩
  have Z9 := ((Z6.later hb8).later hb9).later (below_new w9 (.cells #[.int .i64 0, .int .i64 0, .int .i64 0, .int .i64 0, .int .i64 0, .int .i64 0, .int .i64 0, .int .i64 0, .int .i64 0, .int .i64 0] 29))
  obtain ⟨x00, x01, x02, x03, x04, x05, x06, x07, x08, x09⟩ := Z9.ten
  have hz1 : (zz != 0) = true := by simpa using HZ.out
  go_wp2_with fail
  go_ret
  exact ⟨rfl, below_step (below_step (below_step (below_step hB hb26) hb8) hb9) (below_new w9 _)⟩
set_option maxHeartbeats 1000000 in
theorem spoilt_neg22 (z v g a n i p k t q cc : Int) (w : World) (T : Tab w) {F : List Int} (cS : Hid (∀ w, Tab w → Calls Tryd.prog 10 #[.agg #[.int .i64 2, .int .i64 z, .int .i64 v, .int .i64 g, .int .i64 a, .int .i64 n, .int .i64 i, .int .i64 p, .int .i64 k, .int .i64 t]] w fun e w' => ∃ x c, e = .returned (.tuple #[.slice x 22 c, .int .i64 0]) ∧ Reads .u8 w' x c F ∧ Below w.heap.size w w')) (h : q < 0) :
    Calls Tryd.prog 5 #[.agg #[.int .i64 2, .int .i64 z, .int .i64 v, .int .i64 g, .int .i64 a, .int .i64 n, .int .i64 i, .int .i64 p, .int .i64 k, .int .i64 t], .int .i64 q, .int .u8 cc] w fun e w' => e = .returned (.bool true) ∧ Below w.heap.size w w' := by
  have hn0 := below_new w (.cells #[.int .i64 2, .int .i64 z, .int .i64 v, .int .i64 g, .int .i64 a, .int .i64 n, .int .i64 i, .int .i64 p, .int .i64 k, .int .i64 t] 29)
  have X0 := Lies.new w [2, z, v, g, a, n, i, p, k, t] 29 (B := w.heap.size) rfl
  have hB := hn0
  clear hn0
  obtain ⟨x00, x01, x02, x03, x04, x05, x06, x07, x08, x09⟩ := X0.ten
  replace T := T.later hB
  go_enter Tryd.func5, Tryd.ntmps5
  go_wp2_with fail
  refine (awake_any _ T).mono ?_
  rintro e w1 ⟨rfl, hb1⟩
  clear x00 x01 x02 x03 x04 x05 x06 x07 x08 x09
  replace X0 := X0.later hb1
  replace T := T.later hb1
  replace hB := below_step hB hb1
  clear hb1
  obtain ⟨x00, x01, x02, x03, x04, x05, x06, x07, x08, x09⟩ := X0.ten
  go_wp2_with fail
  refine (cS.out _ T).mono ?_
  rintro e w2 ⟨a2, k2, rfl, R2, hb2⟩
  clear x00 x01 x02 x03 x04 x05 x06 x07 x08 x09
  replace X0 := X0.later hb2
  replace T := T.later hb2
  replace hB := below_step hB hb2
  clear hb2
  obtain ⟨x00, x01, x02, x03, x04, x05, x06, x07, x08, x09⟩ := X0.ten
  go_wp2_with fail
  go_ret
  exact ⟨rfl, hB⟩
set_option maxHeartbeats 1000000 in
theorem spoilt_far22 (z v g a n i p k t q cc : Int) (w : World) (T : Tab w) {F : List Int} (cS : Hid (∀ w, Tab w → Calls Tryd.prog 10 #[.agg #[.int .i64 2, .int .i64 z, .int .i64 v, .int .i64 g, .int .i64 a, .int .i64 n, .int .i64 i, .int .i64 p, .int .i64 k, .int .i64 t]] w fun e w' => ∃ x c, e = .returned (.tuple #[.slice x 22 c, .int .i64 0]) ∧ Reads .u8 w' x c F ∧ Below w.heap.size w w')) (h : 0 ≤ q) (h1 : 22 ≤ q) :
    Calls Tryd.prog 5 #[.agg #[.int .i64 2, .int .i64 z, .int .i64 v, .int .i64 g, .int .i64 a, .int .i64 n, .int .i64 i, .int .i64 p, .int .i64 k, .int .i64 t], .int .i64 q, .int .u8 cc] w fun e w' => e = .returned (.bool true) ∧ Below w.heap.size w w' := by
  have hn0 := below_new w (.cells #[.int .i64 2, .int .i64 z, .int .i64 v, .int .i64 g, .int .i64 a, .int .i64 n, .int .i64 i, .int .i64 p, .int .i64 k, .int .i64 t] 29)
  have X0 := Lies.new w [2, z, v, g, a, n, i, p, k, t] 29 (B := w.heap.size) rfl
  have hB := hn0
  clear hn0
  obtain ⟨x00, x01, x02, x03, x04, x05, x06, x07, x08, x09⟩ := X0.ten
  replace T := T.later hB
  go_enter Tryd.func5, Tryd.ntmps5
  go_wp2_with fail
  refine (awake_any _ T).mono ?_
  rintro e w1 ⟨rfl, hb1⟩
  clear x00 x01 x02 x03 x04 x05 x06 x07 x08 x09
  replace X0 := X0.later hb1
  replace T := T.later hb1
  replace hB := below_step hB hb1
  clear hb1
  obtain ⟨x00, x01, x02, x03, x04, x05, x06, x07, x08, x09⟩ := X0.ten
  go_wp2_with fail
  refine (cS.out _ T).mono ?_
  rintro e w2 ⟨a2, k2, rfl, R2, hb2⟩
  clear x00 x01 x02 x03 x04 x05 x06 x07 x08 x09
  replace X0 := X0.later hb2
  replace T := T.later hb2
  replace hB := below_step hB hb2
  clear hb2
  obtain ⟨x00, x01, x02, x03, x04, x05, x06, x07, x08, x09⟩ := X0.ten
  go_wp2_with fail
  go_ret
  exact ⟨rfl, hB⟩
set_option maxHeartbeats 1000000 in
theorem spoilt_zero22 (z v g a n i p k t q : Int) (w : World) (T : Tab w) {F : List Int} (cS : Hid (∀ w, Tab w → Calls Tryd.prog 10 #[.agg #[.int .i64 2, .int .i64 z, .int .i64 v, .int .i64 g, .int .i64 a, .int .i64 n, .int .i64 i, .int .i64 p, .int .i64 k, .int .i64 t]] w fun e w' => ∃ x c, e = .returned (.tuple #[.slice x 22 c, .int .i64 0]) ∧ Reads .u8 w' x c F ∧ Below w.heap.size w w')) (h : 0 ≤ q) (h1 : q < 22) :
    Calls Tryd.prog 5 #[.agg #[.int .i64 2, .int .i64 z, .int .i64 v, .int .i64 g, .int .i64 a, .int .i64 n, .int .i64 i, .int .i64 p, .int .i64 k, .int .i64 t], .int .i64 q, .int .u8 0] w fun e w' => e = .returned (.bool true) ∧ Below w.heap.size w w' := by
  have hn0 := below_new w (.cells #[.int .i64 2, .int .i64 z, .int .i64 v, .int .i64 g, .int .i64 a, .int .i64 n, .int .i64 i, .int .i64 p, .int .i64 k, .int .i64 t] 29)
  have X0 := Lies.new w [2, z, v, g, a, n, i, p, k, t] 29 (B := w.heap.size) rfl
  have hB := hn0
  clear hn0
  obtain ⟨x00, x01, x02, x03, x04, x05, x06, x07, x08, x09⟩ := X0.ten
  replace T := T.later hB
  go_enter Tryd.func5, Tryd.ntmps5
  go_wp2_with fail
  refine (awake_any _ T).mono ?_
  rintro e w1 ⟨rfl, hb1⟩
  clear x00 x01 x02 x03 x04 x05 x06 x07 x08 x09
  replace X0 := X0.later hb1
  replace T := T.later hb1
  replace hB := below_step hB hb1
  clear hb1
  obtain ⟨x00, x01, x02, x03, x04, x05, x06, x07, x08, x09⟩ := X0.ten
  go_wp2_with fail
  refine (cS.out _ T).mono ?_
  rintro e w2 ⟨a2, k2, rfl, R2, hb2⟩
  clear x00 x01 x02 x03 x04 x05 x06 x07 x08 x09
  replace X0 := X0.later hb2
  replace T := T.later hb2
  replace hB := below_step hB hb2
  clear hb2
  obtain ⟨x00, x01, x02, x03, x04, x05, x06, x07, x08, x09⟩ := X0.ten
  go_wp2_with fail
  go_ret
  exact ⟨rfl, hB⟩
set_option maxHeartbeats 4000000 in
theorem spoilt_main22 (z v g a n i p k t cc x zz : Int) (q : Nat) (w : World) (T : Tab w) {F : List Int} (cS : Hid (∀ w, Tab w → Calls Tryd.prog 10 #[.agg #[.int .i64 2, .int .i64 z, .int .i64 v, .int .i64 g, .int .i64 a, .int .i64 n, .int .i64 i, .int .i64 p, .int .i64 k, .int .i64 t]] w fun e w' => ∃ x c, e = .returned (.tuple #[.slice x 22 c, .int .i64 0]) ∧ Reads .u8 w' x c F ∧ Below w.heap.size w w')) (hF : F.length = 22) (hq : q < 22) (hq1 : (q : Int) < 22) (hm : (cc == 0) = false)
    (HX : Hid (F[q]? = some x)) (HO2 : Hid (O.Oct (F.set q (bits .xor .u8 x cc)))) (HS : Hid (foE (F.set q (bits .xor .u8 x cc)) = zz)) (HZ : Hid (zz ≠ 0)) (HL3 : (F.take q).length = q) (HP3 : Hid (foE (F.take q) = 3)) (HO4 : Hid (O.Oct (F ++ [cc]))) (HL4 : (F ++ [cc]).length = 23) (HP4 : Hid (foE (F ++ [cc]) = 2)) :
    Calls Tryd.prog 5 #[.agg #[.int .i64 2, .int .i64 z, .int .i64 v, .int .i64 g, .int .i64 a, .int .i64 n, .int .i64 i, .int .i64 p, .int .i64 k, .int .i64 t], .int .i64 (q : Int), .int .u8 cc] w fun e w' => e = .returned (.bool true) ∧ Below w.heap.size w w' := by
  have hn0 := below_new w (.cells #[.int .i64 2, .int .i64 z, .int .i64 v, .int .i64 g, .int .i64 a, .int .i64 n, .int .i64 i, .int .i64 p, .int .i64 k, .int .i64 t] 29)
  have X0 := Lies.new w [2, z, v, g, a, n, i, p, k, t] 29 (B := w.heap.size) rfl
  have hB := hn0
  clear hn0
  obtain ⟨x00, x01, x02, x03, x04, x05, x06, x07, x08, x09⟩ := X0.ten
  replace T := T.later hB
  go_enter Tryd.func5, Tryd.ntmps5
  go_wp2_with fail
  refine (awake_any _ T).mono ?_
  rintro e w1 ⟨rfl, hb1⟩
  clear x00 x01 x02 x03 x04 x05 x06 x07 x08 x09
  replace X0 := X0.later hb1
  replace T := T.later hb1
  replace hB := below_step hB hb1
  clear hb1
  obtain ⟨x00, x01, x02, x03, x04, x05, x06, x07, x08, x09⟩ := X0.ten
  go_wp2_with fail
  refine (cS.out _ T).mono ?_
  rintro e w2 ⟨a2, k2, rfl, R2, hb2⟩
  clear x00 x01 x02 x03 x04 x05 x06 x07 x08 x09
  replace X0 := X0.later hb2
  replace T := T.later hb2
  replace hB := below_step hB hb2
  clear hb2
  obtain ⟨x00, x01, x02, x03, x04, x05, x06, x07, x08, x09⟩ := X0.ten
  clear x00 x01 x02 x03 x04 x05 x06 x07 x08 x09
  have hk2 : (22 : Int) ≤ (k2 : Int) := by have := R2.le; omega
  obtain ⟨b2, o2, rfl, _, _⟩ := R2.cells (by intro h; rw [h] at hF; cases hF)
  clear X0
  go_wp2_with (at_builtin; refine wpList_join rfl (.const (.slice none 0 0)) (.tmp 44) 30 rfl w2.heap.size 5 1 Tryd.underlying30 info8 (v := .slice none 0 0) (n := 0) (ys := []) rfl (World.ownsRow_nil _ _ _ _) rfl R2 hF (by omega) (by omega) (Nat.le_refl _) ?_; intro v3 w3 own3 hg3; obtain ⟨gb, cap, rfl, hg0, hglt⟩ := own3.form (by omega); (simp only [Nat.zero_add, List.nil_append] at own3); have hcq := own_cell own3 (by omega) HX.out; have hfq := own3.frozenAt q)
  have S4 := (own3.stored q (.int .u8 (bits .xor .u8 x cc))).1
  rw [← List.map_set] at S4
  obtain ⟨R4, hn4⟩ := reads_own S4 (u8_wf HO2.out)
  have hb3 : Below w2.heap.size w2 (w3.setCell ⟨gb, q, none⟩ (.int .u8 (bits .xor .u8 x cc))) := (below_fresh (B := w2.heap.size) hg3 (Nat.le_refl _)).setCell hg0 _
  refine (fOpen_none _ (T.later hb3) R4 hn4 (by omega) HS.out HZ.out).mono ?_
  rintro e w5 ⟨rfl, hb5⟩
  have hz5 := below_new w5 (.cells #[.int .i64 0, .int .i64 0, .int .i64 0, .int .i64 0, .int .i64 0, .int .i64 0, .int .i64 0, .int .i64 0, .int .i64 0, .int .i64 0] 29)
  have Z5 := Lies.new w5 [0, 0, 0, 0, 0, 0, 0, 0, 0, 0] 29 rfl
  have hb25 := below_step (below_step hb3 hb5) hz5
  have T5 := T.later hb25
  have R5 := R2.later hb25
  clear hcq hfq S4 R4 hn4 own3 hg3 hb3 hb5 hz5
  go_wp2_with fail
  refine (fOpen_none _ T5 (R5.take q) HL3 (by omega) HP3.out (by decide)).mono ?_
  rintro e w6 ⟨rfl, hb6⟩
  have hz6 := below_new w6 (.cells #[.int .i64 0, .int .i64 0, .int .i64 0, .int .i64 0, .int .i64 0, .int .i64 0, .int .i64 0, .int .i64 0, .int .i64 0, .int .i64 0] 29)
  have Z6 := (Z5.later hb6).later hz6
  have hb26 := below_step (below_step hb25 hb6) hz6
  have T6 := T.later hb26
  have R6 := R2.later hb26
  clear T5 R5 hb25 hb6 hz6 Z5
  go_wp2_with (first | (at_builtin; refine wpList_join rfl (.const (.slice none 0 0)) (.tmp 68) 30 rfl (w6.alloc (.cells #[.int .i64 0, .int .i64 0, .int .i64 0, .int .i64 0, .int .i64 0, .int .i64 0, .int .i64 0, .int .i64 0, .int .i64 0, .int .i64 0] 29)).heap.size 5 1 Tryd.underlying30 info8 (v := .slice none 0 0) (n := 0) (ys := []) rfl (World.ownsRow_nil _ _ _ _) rfl R6 hF (by omega) (by omega) (Nat.le_refl _) ?_; intro v7 w7 own7 hg7; (simp only [Nat.zero_add, List.nil_append] at own7); have hb7 := below_fresh (B := (w6.alloc (.cells #[.int .i64 0, .int .i64 0, .int .i64 0, .int .i64 0, .int .i64 0, .int .i64 0, .int .i64 0, .int .i64 0, .int .i64 0, .int .i64 0] 29)).heap.size) hg7 (Nat.le_refl _)) | (at_builtin; refine wpList_one _ cc 5 rfl rfl (.tmp 69) (.tmp 71) 30 rfl _ 1 Tryd.underlying30 info8 rfl own7 rfl (by omega) (by omega) hb7.size ?_; intro v8 w8 own8 hg8; have hb8 := below_grow (below_step hb7 (below_new w7 (.cells #[.int .u8 cc] 5))) (own7.alloc _) hg8 (Nat.le_trans hb7.size (below_new w7 (.cells #[.int .u8 cc] 5)).size); obtain ⟨a8, k8, rfl, R8, hn8⟩ := reads_of_owns own8 (u8_wf HO4.out)))
  refine (fOpen_none _ (T6.later hb8) R8 HL4 (by omega) HP4.out (by decide)).mono ?_
  rintro e w9 ⟨rfl, hb9⟩
  have Z9 := ((Z6.later hb8).later hb9).later (below_new w9 (.cells #[.int .i64 0, .int .i64 0, .int .i64 0, .int .i64 0, .int .i64 0, .int .i64 0, .int .i64 0, .int .i64 0, .int .i64 0, .int .i64 0] 29))
  obtain ⟨x00, x01, x02, x03, x04, x05, x06, x07, x08, x09⟩ := Z9.ten
  have hz1 : (zz != 0) = true := by simpa using HZ.out
  go_wp2_with fail
  go_ret
  exact ⟨rfl, below_step (below_step (below_step (below_step hB hb26) hb8) hb9) (below_new w9 _)⟩
theorem walk (y z v g a n i p k t q cc : Int) (wy : (Lit.int .i64 y).wf = true) (wz : (Lit.int .i64 z).wf = true) (wv : (Lit.int .i64 v).wf = true) (wg : (Lit.int .i64 g).wf = true) (wa : (Lit.int .i64 a).wf = true) (wn : (Lit.int .i64 n).wf = true) (wi : (Lit.int .i64 i).wf = true) (wp : (Lit.int .i64 p).wf = true) (wk : (Lit.int .i64 k).wf = true) (wt : (Lit.int .i64 t).wf = true) (wq : (Lit.int .i64 q).wf = true) (wcc : (Lit.int .u8 cc).wf = true) (w : World) (T : Tab w) :
    Calls Tryd.prog 5 #[.agg #[.int .i64 y, .int .i64 z, .int .i64 v, .int .i64 g, .int .i64 a, .int .i64 n, .int .i64 i, .int .i64 p, .int .i64 k, .int .i64 t], .int .i64 q, .int .u8 cc] w fun e w' => e = .returned (.bool true) ∧ Below w.heap.size w w' := by
  cases hk : okM y z v g a n i p k t
  · exact spoilt_bad y z v g a n i p k t q cc w T hk
  have hc := wf_u8 wcc
  have hF := frame_len hk
  have hO := frame_oct hk
  have cS := fun w T => fSeal_ok hk w T
  have hcut := fun (j : Nat) (hj : j < (frameM y z v g a n i p k t).length) => seal_cut (bodyM_oct y z v g a n i p k t) (body_le hk) hj
  have hmore := fun (x : Int) => seal_more (bodyM_oct y z v g a n i p k t) (body_le hk) x
  have hch := fun (j : Nat) (x : Int) (hj : j < (frameM y z v g a n i p k t).length) (x0 : 0 ≤ x) (x1 : x ≤ 255) (hx : x ≠ (frameM y z v g a n i p k t).getD j 0) => seal_changed (bodyM_oct y z v g a n i p k t) (body_le hk) hj x0 x1 hx
  have eB : sealL (bodyM y z v g a n i p k t) = frameM y z v g a n i p k t := rfl
  simp only [eB] at hcut hmore hch
  clear eB
  by_cases hy : y = 2
  · subst hy
    have e : lenFr 2 = 22 := rfl
    rw [e] at hF cS
    generalize frameM 2 z v g a n i p k t = B at *
    by_cases h0 : q < 0
    · exact spoilt_neg22 z v g a n i p k t q cc w T cS h0
    by_cases h1 : 22 ≤ q
    · exact spoilt_far22 z v g a n i p k t q cc w T cS (by omega) h1
    by_cases h2 : cc = 0
    · subst h2
      exact spoilt_zero22 z v g a n i p k t q w T cS (by omega) (by omega)
    obtain ⟨q, rfl⟩ : ∃ s : Nat, q = (s : Int) := ⟨q.toNat, by omega⟩
    have hxb := hO.at q
    obtain ⟨x0, x1, x2⟩ := O.xor_other hxb.1 hxb.2 hc.1 hc.2 h2
    exact spoilt_main22 z v g a n i p k t cc (B.getD q 0) (foE (B.set q (bits .xor .u8 (B.getD q 0) cc))) q w T cS hF (by omega) (by omega) (by simpa using h2) (getD_some (by omega) rfl) (O.oct_set hO x0 x1) rfl (hch q _ (by omega) x0 x1 x2) (by rw [List.length_take, hF]; omega) (hcut q (by omega)) (oct_join hO (by intro z hz; rw [List.mem_singleton.1 hz]; exact hc)) (by rw [List.length_append, hF]; rfl) (hmore cc)
  · have e : lenFr y = 14 := by unfold lenFr; rw [if_neg hy]
    rw [e] at hF cS
    generalize frameM y z v g a n i p k t = B at *
    by_cases h0 : q < 0
    · exact spoilt_neg14 y z v g a n i p k t q cc w T cS h0
    by_cases h1 : 14 ≤ q
    · exact spoilt_far14 y z v g a n i p k t q cc w T cS (by omega) h1
    by_cases h2 : cc = 0
    · subst h2
      exact spoilt_zero14 y z v g a n i p k t q w T cS (by omega) (by omega)
    obtain ⟨q, rfl⟩ : ∃ s : Nat, q = (s : Int) := ⟨q.toNat, by omega⟩
    have hxb := hO.at q
    obtain ⟨x0, x1, x2⟩ := O.xor_other hxb.1 hxb.2 hc.1 hc.2 h2
    exact spoilt_main14 y z v g a n i p k t cc (B.getD q 0) (foE (B.set q (bits .xor .u8 (B.getD q 0) cc))) q w T cS hF (by omega) (by omega) (by simpa using h2) (getD_some (by omega) rfl) (O.oct_set hO x0 x1) rfl (hch q _ (by omega) x0 x1 x2) (by rw [List.length_take, hF]; omega) (hcut q (by omega)) (oct_join hO (by intro z hz; rw [List.mem_singleton.1 hz]; exact hc)) (by rw [List.length_append, hF]; rfl) (hmore cc)

set_option maxRecDepth 100000 in
theorem lifted (os : Os) (started : os.Started) (H : Type) (enc : TypeId × Value → H) :
    ReturnsInHanded {} Tryd.checked os 5 .any (fun w args => (Rows.frameSpoiltSpec.pre enc Tryd.prog Tryd.f5 [] false w args ∧ laidMetH Tryd.prog [("wayfinder/msg.rows", Rows.laid_wayfinder_msg_rows)] w) ∧ sizedMet enc Tryd.prog Tryd.f5 (OpenSpec.ofChange Rows.frameSpoiltSpec) false w args) (Rows.frameSpoiltSpec.post enc Tryd.prog Tryd.f5 false true false false) := by
  refine returnsInHanded_of_change_and (C := Tryd.checked) (X := fun w _ => laidMetH Tryd.prog [("wayfinder/msg.rows", Rows.laid_wayfinder_msg_rows)] w) (fun _ _ _ hh h => h.of_heap hh) own started (by kernel_rfl) Tryd.func5
    (ChangeSpec.witness_shaped (enc := enc) (C := Tryd.checked) (os := os) (X := fun w _ => laidMetH Tryd.prog [("wayfinder/msg.rows", Rows.laid_wayfinder_msg_rows)] w) false (World.doorLaid Tryd.prog 400 os) #[.agg #[.int .i64 0, .int .i64 0, .int .i64 0, .int .i64 0, .int .i64 0, .int .i64 0, .int .i64 0, .int .i64 0, .int .i64 0, .int .i64 0], .int .i64 0, .int .u8 0] 8 rfl (World.shaped_of_RefB (by kernel_rfl) (by kernel_rfl)) (by kernel_rfl) (by kernel_rfl) (by kernel_rfl) (door_met os _)) ?_
  intro W base args ds gs before hval0 hW _ _ hL _
  have hval : ∀ (j : Nat) t v, Tryd.f5.params[j]? = some t → args[j]? = some v → Value.okWide Tryd.prog W .any base t v := hval0
  have hW' := hW
  obtain ⟨p, q, hA0, hV, rfl, hfz, hnd⟩ := hW
  have hA : DataW.TrodAll enc Tryd.prog W 0 (fun _ => true) true Tryd.f5.params.toList args.toList ds p := hA0
  rw [Tryd.params5] at hA hval
  obtain ⟨v0, vs0, d0, ds0, p0, q0, hargs, rfl, rfl, h0, r0⟩ := trodAll_cons hA
  obtain ⟨v1, vs1, d1, ds1, p1, q1, rfl, rfl, rfl, h1, r1⟩ := trodAll_cons r0
  obtain ⟨v2, vs2, d2, ds2, p2, q2, rfl, rfl, rfl, h2, r2⟩ := trodAll_cons r1
  obtain ⟨rfl, rfl, rfl⟩ := trodAll_nil r2
  obtain rfl : args = #[v0, v1, v2] := by cases args; simp_all
  obtain ⟨rfl, rfl⟩ := trodVars_none hV
  have k0 := h0
  have lt0 : ∀ x ∈ p0, x.block < W.heap.size := by obtain ⟨m, hm⟩ := k0; exact DataW.trod_lt m _ _ _ hm
  have k1 := h1
  have lt1 : ∀ x ∈ p1, x.block < W.heap.size := by obtain ⟨m, hm⟩ := k1; exact DataW.trod_lt m _ _ _ hm
  have k2 := h2
  have lt2 : ∀ x ∈ p2, x.block < W.heap.size := by obtain ⟨m, hm⟩ := k2; exact DataW.trod_lt m _ _ _ hm
  obtain ⟨A0, B0, C0, D0, E0, F0, G0, H0, I0, J0, rfl, w0A, w0B, w0C, w0D, w0E, w0F, w0G, w0H, w0I, w0J⟩ := open_msg (hval 0 29 v0 rfl rfl) h0
  obtain ⟨a1, rfl, rfl, hp1, w1⟩ := open_int Tryd.underlying3 (hval 1 3 v1 rfl rfl) h1
  obtain ⟨a2, rfl, rfl, hp2, w2⟩ := open_int Tryd.underlying5 (hval 2 5 v2 rfl rfl) h2
  clear hA0 hval0
  refine (walk A0 B0 C0 D0 E0 F0 G0 H0 I0 J0 a1 a2 w0A w0B w0C w0D w0E w0F w0G w0H w0I w0J w1 w2 W (tab_of_laid hL)).mono fun e W' ⟨he, bel⟩ => ?_
  subst he
  exact ⟨_, rfl, _, _, _, [], _, [], hW', trodAll_mk1 (shut_bool Tryd.underlying4 _), (trodAll_cons_mk (Below.trod laidOut (by kernel_rfl) (of_decide_eq_true (by kernel_rfl)) k0 bel lt0) (trodAll_cons_mk (Below.trod laidOut (by kernel_rfl) (of_decide_eq_true (by kernel_rfl)) k1 bel lt1) (trodAll_cons_mk (Below.trod laidOut (by kernel_rfl) (of_decide_eq_true (by kernel_rfl)) k2 bel lt2) trodAll_mk0))), rfl, bel.frame _, fun h => by cases h⟩

theorem over : Rows.frameSpoiltRow.holds Tryd.pinned (OpenSpec.ofChange Rows.frameSpoiltSpec) :=
  OpenClaim.holds_of_wide 5 Tryd.f5 rfl rfl rfl rfl rfl rfl rfl ⟨rfl, rfl, rfl, rfl, rfl⟩ rfl rfl rfl rfl rfl (by kernel_rfl) Tryd.func5 (by kernel_rfl)
    (of_decide_eq_true (by kernel_rfl)) (by unfold Func.isWrapper; first | (rw [if_pos (by decide +kernel)]; kernel_rfl) | (rw [if_neg (by decide +kernel)]; exact ⟨rfl, rfl⟩))
    (fun os started H enc _ => lifted os started H enc)

theorem tied : Rows.FrameSpoiltCardSaid :=
  Claim7.holds_tied_plain_at .later [] [.data] true (true, "89fca54d1b1c7bea9430d3263157b11312abdc1532666bb1f924839e8ae9f569") false
    over (fun _ h => by cases h) (by kernel_rfl) (fun _ h => by cases h) frameSpoilt_row_tie rfl ⟨rfl, rfl⟩ (by kernel_rfl) rfl
    (fun f fn hf hfn => by
      obtain rfl : f = 5 := Option.some.inj ((show Tryd.prog.funcNamed Rows.frameSpoiltRow.func = some 5 by kernel_rfl).symm.trans hf) |>.symm
      obtain rfl : fn = Tryd.f5 := (Option.some.inj (Tryd.func5.symm.trans hfn)).symm
      exact ⟨by kernel_rfl, fun j t ht => by
        rw [Tryd.params5] at ht
        have hm : t ∈ [29, 3, 5] := by simpa using Array.mem_of_getElem? ht
        have hall : ([29, 3, 5].all fun u => !Tryd.prog.wantsStandIn u) = true := by kernel_rfl
        exact (show Tryd.prog.wantsStandIn t = false by simpa using List.all_eq_true.1 hall t hm)⟩)
    (by kernel_rfl)
end Go.Proofs.YtklcchmpmilcaaaDoor.frameSpoilt
namespace Go.Proofs.YtklcchmpmilcaaaDoor
theorem frameSpoilt_holds : Rows.FrameSpoiltCardSaid := frameSpoilt.tied
#print axioms frameSpoilt_holds
end Go.Proofs.YtklcchmpmilcaaaDoor
