/- Proved: for every message m and every rule r the call MsgKinds(m, r) returns true: a message of one kind with what only another one tells of may not be. The table of package msg starts as the program's text lays it (the tie: of the pruned copy that the seat holds). -/
import Derived.Test.YtejaeidmamlkbaaDoorMsgLaid
import Derived.Test.YtejaeidmamlkbaaDoorMsgPut
import Derived.Test.YtejaeidmamlkbaaDoorRuleOpen
import Derived.Test.YtejaeidmamlkbaaDoorTie
import Derived.Test.YtejaeidmamlkbaaDoorCards
import Derived.SevenTiedAt
import Derived.Lib.SmallJoins
namespace Go.Proofs.YtejaeidmamlkbaaDoor.msgKinds
open Go.ChangeShapes Go.WideShapes Go.ChangeAt Go.RowKit R Q
set_option linter.unusedVariables false

theorem allReady_pass {P : Program} {ops : Array Oper} {Q : Exit → Act → World → Prop} {md : Region.Mode} {S : World → Prop} {fuel : Nat} {listed : Array Bool} {a : Act} {w : World} {i : Nat} {o : Oper} {rs : List Nat} (ho : ops[i]? = some o)
    (hw : Region.wanted o (yielded ops a.tmps) = false) (hS : S w) (h : wpAnyH P md ops Q S fuel (listed.setIfInBounds i true) (a.put o.dst undef) w) (hs : AllReadyH P md ops Q S fuel listed a w rs) : AllReadyH P md ops Q S fuel listed a w (i :: rs) :=
  AllReadyH.cons ho (fun K' hK => by rw [if_neg (by rw [hw]; exact Bool.false_ne_true)]; exact hK.out _ _ hS (fun _ => h)) hs
theorem kept_kinds {w w' w2 : World} {b1 b2 b3 b4 : Nat} {y1 A0 A1 A2 A3 A4 A5 A6 A7 A8 A9 B0 B1 B2 B3 B4 B5 B6 B7 B8 B9 C0 C1 C2 C3 C4 C5 C6 C7 C8 C9 : Int} (h : Below w.heap.size w w' ∧ Tab w' ∧ b1 < w'.heap.size ∧ b2 < w'.heap.size ∧ b3 < w'.heap.size ∧ b4 < w'.heap.size ∧ w'.cell? ⟨b1, 0, none⟩ = some (.int .i64 y1) ∧ w'.cell? ⟨b2, 0, none⟩ = some (.int .i64 A0) ∧ w'.cell? ⟨b2, 1, none⟩ = some (.int .i64 A1) ∧ w'.cell? ⟨b2, 2, none⟩ = some (.int .i64 A2) ∧ w'.cell? ⟨b2, 3, none⟩ = some (.int .i64 A3) ∧ w'.cell? ⟨b2, 4, none⟩ = some (.int .i64 A4) ∧ w'.cell? ⟨b2, 5, none⟩ = some (.int .i64 A5) ∧ w'.cell? ⟨b2, 6, none⟩ = some (.int .i64 A6) ∧ w'.cell? ⟨b2, 7, none⟩ = some (.int .i64 A7) ∧ w'.cell? ⟨b2, 8, none⟩ = some (.int .i64 A8) ∧ w'.cell? ⟨b2, 9, none⟩ = some (.int .i64 A9) ∧ w'.cell? ⟨b3, 0, none⟩ = some (.int .i64 B0) ∧ w'.cell? ⟨b3, 1, none⟩ = some (.int .i64 B1) ∧ w'.cell? ⟨b3, 2, none⟩ = some (.int .i64 B2) ∧ w'.cell? ⟨b3, 3, none⟩ = some (.int .i64 B3) ∧ w'.cell? ⟨b3, 4, none⟩ = some (.int .i64 B4) ∧ w'.cell? ⟨b3, 5, none⟩ = some (.int .i64 B5) ∧ w'.cell? ⟨b3, 6, none⟩ = some (.int .i64 B6) ∧ w'.cell? ⟨b3, 7, none⟩ = some (.int .i64 B7) ∧ w'.cell? ⟨b3, 8, none⟩ = some (.int .i64 B8) ∧ w'.cell? ⟨b3, 9, none⟩ = some (.int .i64 B9) ∧ w'.cell? ⟨b4, 0, none⟩ = some (.int .i64 C0) ∧ w'.cell? ⟨b4, 1, none⟩ = some (.int .i64 C1) ∧ w'.cell? ⟨b4, 2, none⟩ = some (.int .i64 C2) ∧ w'.cell? ⟨b4, 3, none⟩ = some (.int .i64 C3) ∧ w'.cell? ⟨b4, 4, none⟩ = some (.int .i64 C4) ∧ w'.cell? ⟨b4, 5, none⟩ = some (.int .i64 C5) ∧ w'.cell? ⟨b4, 6, none⟩ = some (.int .i64 C6) ∧ w'.cell? ⟨b4, 7, none⟩ = some (.int .i64 C7) ∧ w'.cell? ⟨b4, 8, none⟩ = some (.int .i64 C8) ∧ w'.cell? ⟨b4, 9, none⟩ = some (.int .i64 C9)) (hb : Below w'.heap.size w' w2) :
    Below w.heap.size w w2 ∧ Tab w2 ∧ b1 < w2.heap.size ∧ b2 < w2.heap.size ∧ b3 < w2.heap.size ∧ b4 < w2.heap.size ∧ w2.cell? ⟨b1, 0, none⟩ = some (.int .i64 y1) ∧ w2.cell? ⟨b2, 0, none⟩ = some (.int .i64 A0) ∧ w2.cell? ⟨b2, 1, none⟩ = some (.int .i64 A1) ∧ w2.cell? ⟨b2, 2, none⟩ = some (.int .i64 A2) ∧ w2.cell? ⟨b2, 3, none⟩ = some (.int .i64 A3) ∧ w2.cell? ⟨b2, 4, none⟩ = some (.int .i64 A4) ∧ w2.cell? ⟨b2, 5, none⟩ = some (.int .i64 A5) ∧ w2.cell? ⟨b2, 6, none⟩ = some (.int .i64 A6) ∧ w2.cell? ⟨b2, 7, none⟩ = some (.int .i64 A7) ∧ w2.cell? ⟨b2, 8, none⟩ = some (.int .i64 A8) ∧ w2.cell? ⟨b2, 9, none⟩ = some (.int .i64 A9) ∧ w2.cell? ⟨b3, 0, none⟩ = some (.int .i64 B0) ∧ w2.cell? ⟨b3, 1, none⟩ = some (.int .i64 B1) ∧ w2.cell? ⟨b3, 2, none⟩ = some (.int .i64 B2) ∧ w2.cell? ⟨b3, 3, none⟩ = some (.int .i64 B3) ∧ w2.cell? ⟨b3, 4, none⟩ = some (.int .i64 B4) ∧ w2.cell? ⟨b3, 5, none⟩ = some (.int .i64 B5) ∧ w2.cell? ⟨b3, 6, none⟩ = some (.int .i64 B6) ∧ w2.cell? ⟨b3, 7, none⟩ = some (.int .i64 B7) ∧ w2.cell? ⟨b3, 8, none⟩ = some (.int .i64 B8) ∧ w2.cell? ⟨b3, 9, none⟩ = some (.int .i64 B9) ∧ w2.cell? ⟨b4, 0, none⟩ = some (.int .i64 C0) ∧ w2.cell? ⟨b4, 1, none⟩ = some (.int .i64 C1) ∧ w2.cell? ⟨b4, 2, none⟩ = some (.int .i64 C2) ∧ w2.cell? ⟨b4, 3, none⟩ = some (.int .i64 C3) ∧ w2.cell? ⟨b4, 4, none⟩ = some (.int .i64 C4) ∧ w2.cell? ⟨b4, 5, none⟩ = some (.int .i64 C5) ∧ w2.cell? ⟨b4, 6, none⟩ = some (.int .i64 C6) ∧ w2.cell? ⟨b4, 7, none⟩ = some (.int .i64 C7) ∧ w2.cell? ⟨b4, 8, none⟩ = some (.int .i64 C8) ∧ w2.cell? ⟨b4, 9, none⟩ = some (.int .i64 C9) := by
  obtain ⟨h0, f0, r0, r1, r2, r3, c0, c1, c2, c3, c4, c5, c6, c7, c8, c9, c10, c11, c12, c13, c14, c15, c16, c17, c18, c19, c20, c21, c22, c23, c24, c25, c26, c27, c28, c29, c30⟩ := h
  exact ⟨below_step h0 hb, f0.later hb, Nat.lt_of_lt_of_le r0 hb.size, Nat.lt_of_lt_of_le r1 hb.size, Nat.lt_of_lt_of_le r2 hb.size, Nat.lt_of_lt_of_le r3 hb.size, (hb.cell (p := ⟨b1, 0, none⟩) r0).trans c0, (hb.cell (p := ⟨b2, 0, none⟩) r1).trans c1, (hb.cell (p := ⟨b2, 1, none⟩) r1).trans c2, (hb.cell (p := ⟨b2, 2, none⟩) r1).trans c3, (hb.cell (p := ⟨b2, 3, none⟩) r1).trans c4, (hb.cell (p := ⟨b2, 4, none⟩) r1).trans c5, (hb.cell (p := ⟨b2, 5, none⟩) r1).trans c6, (hb.cell (p := ⟨b2, 6, none⟩) r1).trans c7, (hb.cell (p := ⟨b2, 7, none⟩) r1).trans c8, (hb.cell (p := ⟨b2, 8, none⟩) r1).trans c9, (hb.cell (p := ⟨b2, 9, none⟩) r1).trans c10, (hb.cell (p := ⟨b3, 0, none⟩) r2).trans c11, (hb.cell (p := ⟨b3, 1, none⟩) r2).trans c12, (hb.cell (p := ⟨b3, 2, none⟩) r2).trans c13, (hb.cell (p := ⟨b3, 3, none⟩) r2).trans c14, (hb.cell (p := ⟨b3, 4, none⟩) r2).trans c15, (hb.cell (p := ⟨b3, 5, none⟩) r2).trans c16, (hb.cell (p := ⟨b3, 6, none⟩) r2).trans c17, (hb.cell (p := ⟨b3, 7, none⟩) r2).trans c18, (hb.cell (p := ⟨b3, 8, none⟩) r2).trans c19, (hb.cell (p := ⟨b3, 9, none⟩) r2).trans c20, (hb.cell (p := ⟨b4, 0, none⟩) r3).trans c21, (hb.cell (p := ⟨b4, 1, none⟩) r3).trans c22, (hb.cell (p := ⟨b4, 2, none⟩) r3).trans c23, (hb.cell (p := ⟨b4, 3, none⟩) r3).trans c24, (hb.cell (p := ⟨b4, 4, none⟩) r3).trans c25, (hb.cell (p := ⟨b4, 5, none⟩) r3).trans c26, (hb.cell (p := ⟨b4, 6, none⟩) r3).trans c27, (hb.cell (p := ⟨b4, 7, none⟩) r3).trans c28, (hb.cell (p := ⟨b4, 8, none⟩) r3).trans c29, (hb.cell (p := ⟨b4, 9, none⟩) r3).trans c30⟩
set_option maxHeartbeats 1000000 in
theorem kinds_no (y z v g a n i p k t ra rn ri rp rk rt : Int) (w : World) (T : Tab w) (cM : ∀ w, Tab w → Calls Tryd.prog 13 #[.agg #[.int .i64 y, .int .i64 z, .int .i64 v, .int .i64 g, .int .i64 a, .int .i64 n, .int .i64 i, .int .i64 p, .int .i64 k, .int .i64 t]] w fun e w' => e = .returned (.bool false) ∧ Below w.heap.size w w') :
    Calls Tryd.prog 7 #[.agg #[.int .i64 y, .int .i64 z, .int .i64 v, .int .i64 g, .int .i64 a, .int .i64 n, .int .i64 i, .int .i64 p, .int .i64 k, .int .i64 t], .agg #[.int .i64 ra, .int .i64 rn, .int .i64 ri, .int .i64 rp, .int .i64 rk, .int .i64 rt]] w fun e w' => e = .returned (.bool true) ∧ Below w.heap.size w w' := by
  have hn0 := below_new w (.cells #[.int .i64 y, .int .i64 z, .int .i64 v, .int .i64 g, .int .i64 a, .int .i64 n, .int .i64 i, .int .i64 p, .int .i64 k, .int .i64 t] 29)
  have X0 := Lies.new w [y, z, v, g, a, n, i, p, k, t] 29 (B := w.heap.size) rfl
  have hB := hn0
  have hn1 := below_new (w.alloc (.cells #[.int .i64 y, .int .i64 z, .int .i64 v, .int .i64 g, .int .i64 a, .int .i64 n, .int .i64 i, .int .i64 p, .int .i64 k, .int .i64 t] 29)) (.cells #[.int .i64 ra, .int .i64 rn, .int .i64 ri, .int .i64 rp, .int .i64 rk, .int .i64 rt] 27)
  have X1 := Lies.new (w.alloc (.cells #[.int .i64 y, .int .i64 z, .int .i64 v, .int .i64 g, .int .i64 a, .int .i64 n, .int .i64 i, .int .i64 p, .int .i64 k, .int .i64 t] 29)) [ra, rn, ri, rp, rk, rt] 27 (B := w.heap.size + 1) (by simp)
  replace X0 := X0.later hn1
  replace hB := below_step hB hn1
  clear hn0 hn1
  obtain ⟨x00, x01, x02, x03, x04, x05, x06, x07, x08, x09⟩ := X0.ten
  obtain ⟨x10, x11, x12, x13, x14, x15⟩ := X1.six
  replace T := T.later hB
  go_enter Tryd.func7, Tryd.ntmps7
  go_wp2_with fail
  refine (awake_any _ T).mono ?_
  rintro e w1 ⟨rfl, hb1⟩
  clear x00 x01 x02 x03 x04 x05 x06 x07 x08 x09
  clear x10 x11 x12 x13 x14 x15
  replace X0 := X0.later hb1
  replace X1 := X1.later hb1
  replace T := T.later hb1
  replace hB := below_step hB hb1
  clear hb1
  obtain ⟨x00, x01, x02, x03, x04, x05, x06, x07, x08, x09⟩ := X0.ten
  obtain ⟨x10, x11, x12, x13, x14, x15⟩ := X1.six
  go_wp2_with fail
  refine (cM _ T).mono ?_
  rintro e w2 ⟨rfl, hb2⟩
  clear x00 x01 x02 x03 x04 x05 x06 x07 x08 x09
  clear x10 x11 x12 x13 x14 x15
  replace X0 := X0.later hb2
  replace X1 := X1.later hb2
  replace T := T.later hb2
  replace hB := below_step hB hb2
  clear hb2
  obtain ⟨x00, x01, x02, x03, x04, x05, x06, x07, x08, x09⟩ := X0.ten
  obtain ⟨x10, x11, x12, x13, x14, x15⟩ := X1.six
  go_wp2_with fail
  go_ret
  exact ⟨rfl, hB⟩
set_option maxHeartbeats 1000000 in
theorem kinds_zero (y z v g a n i p k t ra rn ri rp rk rt : Int) (w : World) (T : Tab w) (cM : ∀ w, Tab w → Calls Tryd.prog 13 #[.agg #[.int .i64 y, .int .i64 z, .int .i64 v, .int .i64 g, .int .i64 a, .int .i64 n, .int .i64 i, .int .i64 p, .int .i64 k, .int .i64 t]] w fun e w' => e = .returned (.bool true) ∧ Below w.heap.size w w') (hq : ∀ w, (binOp .eql 27 (.agg #[.int .i64 ra, .int .i64 rn, .int .i64 ri, .int .i64 rp, .int .i64 rk, .int .i64 rt]) (.agg #[.int .i64 0, .int .i64 0, .int .i64 0, .int .i64 0, .int .i64 0, .int .i64 0])).run Tryd.prog w = .ok (.bool true) w) :
    Calls Tryd.prog 7 #[.agg #[.int .i64 y, .int .i64 z, .int .i64 v, .int .i64 g, .int .i64 a, .int .i64 n, .int .i64 i, .int .i64 p, .int .i64 k, .int .i64 t], .agg #[.int .i64 ra, .int .i64 rn, .int .i64 ri, .int .i64 rp, .int .i64 rk, .int .i64 rt]] w fun e w' => e = .returned (.bool true) ∧ Below w.heap.size w w' := by
  have hn0 := below_new w (.cells #[.int .i64 y, .int .i64 z, .int .i64 v, .int .i64 g, .int .i64 a, .int .i64 n, .int .i64 i, .int .i64 p, .int .i64 k, .int .i64 t] 29)
  have X0 := Lies.new w [y, z, v, g, a, n, i, p, k, t] 29 (B := w.heap.size) rfl
  have hB := hn0
  have hn1 := below_new (w.alloc (.cells #[.int .i64 y, .int .i64 z, .int .i64 v, .int .i64 g, .int .i64 a, .int .i64 n, .int .i64 i, .int .i64 p, .int .i64 k, .int .i64 t] 29)) (.cells #[.int .i64 ra, .int .i64 rn, .int .i64 ri, .int .i64 rp, .int .i64 rk, .int .i64 rt] 27)
  have X1 := Lies.new (w.alloc (.cells #[.int .i64 y, .int .i64 z, .int .i64 v, .int .i64 g, .int .i64 a, .int .i64 n, .int .i64 i, .int .i64 p, .int .i64 k, .int .i64 t] 29)) [ra, rn, ri, rp, rk, rt] 27 (B := w.heap.size + 1) (by simp)
  replace X0 := X0.later hn1
  replace hB := below_step hB hn1
  clear hn0 hn1
  obtain ⟨x00, x01, x02, x03, x04, x05, x06, x07, x08, x09⟩ := X0.ten
  obtain ⟨x10, x11, x12, x13, x14, x15⟩ := X1.six
  replace T := T.later hB
  go_enter Tryd.func7, Tryd.ntmps7
  go_wp2_with fail
  refine (awake_any _ T).mono ?_
  rintro e w1 ⟨rfl, hb1⟩
  clear x00 x01 x02 x03 x04 x05 x06 x07 x08 x09
  clear x10 x11 x12 x13 x14 x15
  replace X0 := X0.later hb1
  replace X1 := X1.later hb1
  replace T := T.later hb1
  replace hB := below_step hB hb1
  clear hb1
  obtain ⟨x00, x01, x02, x03, x04, x05, x06, x07, x08, x09⟩ := X0.ten
  obtain ⟨x10, x11, x12, x13, x14, x15⟩ := X1.six
  go_wp2_with fail
  refine (cM _ T).mono ?_
  rintro e w2 ⟨rfl, hb2⟩
  clear x00 x01 x02 x03 x04 x05 x06 x07 x08 x09
  clear x10 x11 x12 x13 x14 x15
  replace X0 := X0.later hb2
  replace X1 := X1.later hb2
  replace T := T.later hb2
  replace hB := below_step hB hb2
  clear hb2
  obtain ⟨x00, x01, x02, x03, x04, x05, x06, x07, x08, x09⟩ := X0.ten
  obtain ⟨x10, x11, x12, x13, x14, x15⟩ := X1.six
  go_wp2_with fail
  go_ret
  exact ⟨rfl, hB⟩
set_option maxHeartbeats 4000000 in
theorem kinds_0 (z v g a n i p k t ra rn ri rp rk rt : Int) (w : World) (T : Tab w)
    (cM : ∀ w, Tab w → Calls Tryd.prog 13 #[.agg #[.int .i64 0, .int .i64 z, .int .i64 v, .int .i64 g, .int .i64 a, .int .i64 n, .int .i64 i, .int .i64 p, .int .i64 k, .int .i64 t]] w fun e w' => e = .returned (.bool true) ∧ Below w.heap.size w w')
    (hq : ∀ w, (binOp .eql 27 (.agg #[.int .i64 ra, .int .i64 rn, .int .i64 ri, .int .i64 rp, .int .i64 rk, .int .i64 rt]) (.agg #[.int .i64 0, .int .i64 0, .int .i64 0, .int .i64 0, .int .i64 0, .int .i64 0])).run Tryd.prog w = .ok (.bool false) w)
    (hA : okM 0 z v g ra rn ri rp rk rt = false)
    (hT7 : okM 0 z v 7 a n i p k t = false)
    (hS0 : okM 0 z 0 g a n i p k t = true) :
    Calls Tryd.prog 7 #[.agg #[.int .i64 0, .int .i64 z, .int .i64 v, .int .i64 g, .int .i64 a, .int .i64 n, .int .i64 i, .int .i64 p, .int .i64 k, .int .i64 t], .agg #[.int .i64 ra, .int .i64 rn, .int .i64 ri, .int .i64 rp, .int .i64 rk, .int .i64 rt]] w fun e w' => e = .returned (.bool true) ∧ Below w.heap.size w w' := by
  have hn0 := below_new w (.cells #[.int .i64 0, .int .i64 z, .int .i64 v, .int .i64 g, .int .i64 a, .int .i64 n, .int .i64 i, .int .i64 p, .int .i64 k, .int .i64 t] 29)
  have X0 := Lies.new w [0, z, v, g, a, n, i, p, k, t] 29 (B := w.heap.size) rfl
  have hB := hn0
  have hn1 := below_new (w.alloc (.cells #[.int .i64 0, .int .i64 z, .int .i64 v, .int .i64 g, .int .i64 a, .int .i64 n, .int .i64 i, .int .i64 p, .int .i64 k, .int .i64 t] 29)) (.cells #[.int .i64 ra, .int .i64 rn, .int .i64 ri, .int .i64 rp, .int .i64 rk, .int .i64 rt] 27)
  have X1 := Lies.new (w.alloc (.cells #[.int .i64 0, .int .i64 z, .int .i64 v, .int .i64 g, .int .i64 a, .int .i64 n, .int .i64 i, .int .i64 p, .int .i64 k, .int .i64 t] 29)) [ra, rn, ri, rp, rk, rt] 27 (B := w.heap.size + 1) (by simp)
  replace X0 := X0.later hn1
  replace hB := below_step hB hn1
  clear hn0 hn1
  obtain ⟨x00, x01, x02, x03, x04, x05, x06, x07, x08, x09⟩ := X0.ten
  obtain ⟨x10, x11, x12, x13, x14, x15⟩ := X1.six
  replace T := T.later hB
  go_enter Tryd.func7, Tryd.ntmps7
  go_wp2_with fail
  refine (awake_any _ T).mono ?_
  rintro e w1 ⟨rfl, hb1⟩
  clear x00 x01 x02 x03 x04 x05 x06 x07 x08 x09
  clear x10 x11 x12 x13 x14 x15
  replace X0 := X0.later hb1
  replace X1 := X1.later hb1
  replace T := T.later hb1
  replace hB := below_step hB hb1
  clear hb1
  obtain ⟨x00, x01, x02, x03, x04, x05, x06, x07, x08, x09⟩ := X0.ten
  obtain ⟨x10, x11, x12, x13, x14, x15⟩ := X1.six
  go_wp2_with fail
  refine (cM _ T).mono ?_
  rintro e w2 ⟨rfl, hb2⟩
  clear x00 x01 x02 x03 x04 x05 x06 x07 x08 x09
  clear x10 x11 x12 x13 x14 x15
  replace X0 := X0.later hb2
  replace X1 := X1.later hb2
  replace T := T.later hb2
  replace hB := below_step hB hb2
  clear hb2
  obtain ⟨x00, x01, x02, x03, x04, x05, x06, x07, x08, x09⟩ := X0.ten
  obtain ⟨x10, x11, x12, x13, x14, x15⟩ := X1.six
  have hq0 := below_new w2 (.cells #[.int .i64 0, .int .i64 z, .int .i64 v, .int .i64 g, .int .i64 a, .int .i64 n, .int .i64 i, .int .i64 p, .int .i64 k, .int .i64 t] 29)
  obtain ⟨x0q0, x0q1, x0q2, x0q3, x0q4, x0q5, x0q6, x0q7, x0q8, x0q9⟩ := (X0.later hq0).ten
  obtain ⟨x1q0, x1q1, x1q2, x1q3, x1q4, x1q5⟩ := (X1.later hq0).six
  clear hq0
  have hv0 := below_new w2 (.cells #[.int .i64 0, .int .i64 z, .int .i64 v, .int .i64 g, .int .i64 ra, .int .i64 rn, .int .i64 ri, .int .i64 rp, .int .i64 rk, .int .i64 rt] 29)
  replace X0 := X0.later hv0
  replace X1 := X1.later hv0
  replace T := T.later hv0
  replace hB := below_step hB hv0
  clear hv0
  have V0 := Lies.new w2 [0, z, v, g, ra, rn, ri, rp, rk, rt] 29 (B := w2.heap.size) rfl
  obtain ⟨x00, x01, x02, x03, x04, x05, x06, x07, x08, x09⟩ := X0.ten
  obtain ⟨x10, x11, x12, x13, x14, x15⟩ := X1.six
  obtain ⟨v00, v01, v02, v03, v04, v05, v06, v07, v08, v09⟩ := V0.ten
  have hq1 := below_new (w2.alloc (.cells #[.int .i64 0, .int .i64 z, .int .i64 v, .int .i64 g, .int .i64 ra, .int .i64 rn, .int .i64 ri, .int .i64 rp, .int .i64 rk, .int .i64 rt] 29)) (.cells #[.int .i64 0, .int .i64 z, .int .i64 v, .int .i64 g, .int .i64 a, .int .i64 n, .int .i64 i, .int .i64 p, .int .i64 k, .int .i64 t] 29)
  obtain ⟨x0q0, x0q1, x0q2, x0q3, x0q4, x0q5, x0q6, x0q7, x0q8, x0q9⟩ := (X0.later hq1).ten
  obtain ⟨x1q0, x1q1, x1q2, x1q3, x1q4, x1q5⟩ := (X1.later hq1).six
  obtain ⟨v0q0, v0q1, v0q2, v0q3, v0q4, v0q5, v0q6, v0q7, v0q8, v0q9⟩ := (V0.later hq1).ten
  clear hq1
  have hv1 := below_new (w2.alloc (.cells #[.int .i64 0, .int .i64 z, .int .i64 v, .int .i64 g, .int .i64 ra, .int .i64 rn, .int .i64 ri, .int .i64 rp, .int .i64 rk, .int .i64 rt] 29)) (.cells #[.int .i64 0, .int .i64 z, .int .i64 v, .int .i64 7, .int .i64 a, .int .i64 n, .int .i64 i, .int .i64 p, .int .i64 k, .int .i64 t] 29)
  replace X0 := X0.later hv1
  replace X1 := X1.later hv1
  replace V0 := V0.later hv1
  replace T := T.later hv1
  replace hB := below_step hB hv1
  clear hv1
  have V1 := Lies.new (w2.alloc (.cells #[.int .i64 0, .int .i64 z, .int .i64 v, .int .i64 g, .int .i64 ra, .int .i64 rn, .int .i64 ri, .int .i64 rp, .int .i64 rk, .int .i64 rt] 29)) [0, z, v, 7, a, n, i, p, k, t] 29 (B := w2.heap.size + 1) (by simp)
  obtain ⟨x00, x01, x02, x03, x04, x05, x06, x07, x08, x09⟩ := X0.ten
  obtain ⟨x10, x11, x12, x13, x14, x15⟩ := X1.six
  obtain ⟨v00, v01, v02, v03, v04, v05, v06, v07, v08, v09⟩ := V0.ten
  obtain ⟨v10, v11, v12, v13, v14, v15, v16, v17, v18, v19⟩ := V1.ten
  have hq2 := below_new ((w2.alloc (.cells #[.int .i64 0, .int .i64 z, .int .i64 v, .int .i64 g, .int .i64 ra, .int .i64 rn, .int .i64 ri, .int .i64 rp, .int .i64 rk, .int .i64 rt] 29)).alloc (.cells #[.int .i64 0, .int .i64 z, .int .i64 v, .int .i64 7, .int .i64 a, .int .i64 n, .int .i64 i, .int .i64 p, .int .i64 k, .int .i64 t] 29)) (.cells #[.int .i64 0, .int .i64 z, .int .i64 v, .int .i64 g, .int .i64 a, .int .i64 n, .int .i64 i, .int .i64 p, .int .i64 k, .int .i64 t] 29)
  obtain ⟨x0q0, x0q1, x0q2, x0q3, x0q4, x0q5, x0q6, x0q7, x0q8, x0q9⟩ := (X0.later hq2).ten
  obtain ⟨x1q0, x1q1, x1q2, x1q3, x1q4, x1q5⟩ := (X1.later hq2).six
  obtain ⟨v0q0, v0q1, v0q2, v0q3, v0q4, v0q5, v0q6, v0q7, v0q8, v0q9⟩ := (V0.later hq2).ten
  obtain ⟨v1q0, v1q1, v1q2, v1q3, v1q4, v1q5, v1q6, v1q7, v1q8, v1q9⟩ := (V1.later hq2).ten
  clear hq2
  have hv2 := below_new ((w2.alloc (.cells #[.int .i64 0, .int .i64 z, .int .i64 v, .int .i64 g, .int .i64 ra, .int .i64 rn, .int .i64 ri, .int .i64 rp, .int .i64 rk, .int .i64 rt] 29)).alloc (.cells #[.int .i64 0, .int .i64 z, .int .i64 v, .int .i64 7, .int .i64 a, .int .i64 n, .int .i64 i, .int .i64 p, .int .i64 k, .int .i64 t] 29)) (.cells #[.int .i64 0, .int .i64 z, .int .i64 0, .int .i64 g, .int .i64 a, .int .i64 n, .int .i64 i, .int .i64 p, .int .i64 k, .int .i64 t] 29)
  replace X0 := X0.later hv2
  replace X1 := X1.later hv2
  replace V0 := V0.later hv2
  replace V1 := V1.later hv2
  replace T := T.later hv2
  replace hB := below_step hB hv2
  clear hv2
  have V2 := Lies.new ((w2.alloc (.cells #[.int .i64 0, .int .i64 z, .int .i64 v, .int .i64 g, .int .i64 ra, .int .i64 rn, .int .i64 ri, .int .i64 rp, .int .i64 rk, .int .i64 rt] 29)).alloc (.cells #[.int .i64 0, .int .i64 z, .int .i64 v, .int .i64 7, .int .i64 a, .int .i64 n, .int .i64 i, .int .i64 p, .int .i64 k, .int .i64 t] 29)) [0, z, 0, g, a, n, i, p, k, t] 29 (B := w2.heap.size + 1 + 1) (by simp)
  obtain ⟨x00, x01, x02, x03, x04, x05, x06, x07, x08, x09⟩ := X0.ten
  obtain ⟨x10, x11, x12, x13, x14, x15⟩ := X1.six
  obtain ⟨v00, v01, v02, v03, v04, v05, v06, v07, v08, v09⟩ := V0.ten
  obtain ⟨v10, v11, v12, v13, v14, v15, v16, v17, v18, v19⟩ := V1.ten
  obtain ⟨v20, v21, v22, v23, v24, v25, v26, v27, v28, v29⟩ := V2.ten
  have S0 : Below w.heap.size w (((w2.alloc (.cells #[.int .i64 0, .int .i64 z, .int .i64 v, .int .i64 g, .int .i64 ra, .int .i64 rn, .int .i64 ri, .int .i64 rp, .int .i64 rk, .int .i64 rt] 29)).alloc (.cells #[.int .i64 0, .int .i64 z, .int .i64 v, .int .i64 7, .int .i64 a, .int .i64 n, .int .i64 i, .int .i64 p, .int .i64 k, .int .i64 t] 29)).alloc (.cells #[.int .i64 0, .int .i64 z, .int .i64 0, .int .i64 g, .int .i64 a, .int .i64 n, .int .i64 i, .int .i64 p, .int .i64 k, .int .i64 t] 29)).drew ∧ Tab (((w2.alloc (.cells #[.int .i64 0, .int .i64 z, .int .i64 v, .int .i64 g, .int .i64 ra, .int .i64 rn, .int .i64 ri, .int .i64 rp, .int .i64 rk, .int .i64 rt] 29)).alloc (.cells #[.int .i64 0, .int .i64 z, .int .i64 v, .int .i64 7, .int .i64 a, .int .i64 n, .int .i64 i, .int .i64 p, .int .i64 k, .int .i64 t] 29)).alloc (.cells #[.int .i64 0, .int .i64 z, .int .i64 0, .int .i64 g, .int .i64 a, .int .i64 n, .int .i64 i, .int .i64 p, .int .i64 k, .int .i64 t] 29)).drew ∧ w.heap.size < (((w2.alloc (.cells #[.int .i64 0, .int .i64 z, .int .i64 v, .int .i64 g, .int .i64 ra, .int .i64 rn, .int .i64 ri, .int .i64 rp, .int .i64 rk, .int .i64 rt] 29)).alloc (.cells #[.int .i64 0, .int .i64 z, .int .i64 v, .int .i64 7, .int .i64 a, .int .i64 n, .int .i64 i, .int .i64 p, .int .i64 k, .int .i64 t] 29)).alloc (.cells #[.int .i64 0, .int .i64 z, .int .i64 0, .int .i64 g, .int .i64 a, .int .i64 n, .int .i64 i, .int .i64 p, .int .i64 k, .int .i64 t] 29)).drew.heap.size ∧ w2.heap.size < (((w2.alloc (.cells #[.int .i64 0, .int .i64 z, .int .i64 v, .int .i64 g, .int .i64 ra, .int .i64 rn, .int .i64 ri, .int .i64 rp, .int .i64 rk, .int .i64 rt] 29)).alloc (.cells #[.int .i64 0, .int .i64 z, .int .i64 v, .int .i64 7, .int .i64 a, .int .i64 n, .int .i64 i, .int .i64 p, .int .i64 k, .int .i64 t] 29)).alloc (.cells #[.int .i64 0, .int .i64 z, .int .i64 0, .int .i64 g, .int .i64 a, .int .i64 n, .int .i64 i, .int .i64 p, .int .i64 k, .int .i64 t] 29)).drew.heap.size ∧ w2.heap.size + 1 < (((w2.alloc (.cells #[.int .i64 0, .int .i64 z, .int .i64 v, .int .i64 g, .int .i64 ra, .int .i64 rn, .int .i64 ri, .int .i64 rp, .int .i64 rk, .int .i64 rt] 29)).alloc (.cells #[.int .i64 0, .int .i64 z, .int .i64 v, .int .i64 7, .int .i64 a, .int .i64 n, .int .i64 i, .int .i64 p, .int .i64 k, .int .i64 t] 29)).alloc (.cells #[.int .i64 0, .int .i64 z, .int .i64 0, .int .i64 g, .int .i64 a, .int .i64 n, .int .i64 i, .int .i64 p, .int .i64 k, .int .i64 t] 29)).drew.heap.size ∧ w2.heap.size + 1 + 1 < (((w2.alloc (.cells #[.int .i64 0, .int .i64 z, .int .i64 v, .int .i64 g, .int .i64 ra, .int .i64 rn, .int .i64 ri, .int .i64 rp, .int .i64 rk, .int .i64 rt] 29)).alloc (.cells #[.int .i64 0, .int .i64 z, .int .i64 v, .int .i64 7, .int .i64 a, .int .i64 n, .int .i64 i, .int .i64 p, .int .i64 k, .int .i64 t] 29)).alloc (.cells #[.int .i64 0, .int .i64 z, .int .i64 0, .int .i64 g, .int .i64 a, .int .i64 n, .int .i64 i, .int .i64 p, .int .i64 k, .int .i64 t] 29)).drew.heap.size ∧ (((w2.alloc (.cells #[.int .i64 0, .int .i64 z, .int .i64 v, .int .i64 g, .int .i64 ra, .int .i64 rn, .int .i64 ri, .int .i64 rp, .int .i64 rk, .int .i64 rt] 29)).alloc (.cells #[.int .i64 0, .int .i64 z, .int .i64 v, .int .i64 7, .int .i64 a, .int .i64 n, .int .i64 i, .int .i64 p, .int .i64 k, .int .i64 t] 29)).alloc (.cells #[.int .i64 0, .int .i64 z, .int .i64 0, .int .i64 g, .int .i64 a, .int .i64 n, .int .i64 i, .int .i64 p, .int .i64 k, .int .i64 t] 29)).drew.cell? ⟨w.heap.size, 0, none⟩ = some (.int .i64 0) ∧ (((w2.alloc (.cells #[.int .i64 0, .int .i64 z, .int .i64 v, .int .i64 g, .int .i64 ra, .int .i64 rn, .int .i64 ri, .int .i64 rp, .int .i64 rk, .int .i64 rt] 29)).alloc (.cells #[.int .i64 0, .int .i64 z, .int .i64 v, .int .i64 7, .int .i64 a, .int .i64 n, .int .i64 i, .int .i64 p, .int .i64 k, .int .i64 t] 29)).alloc (.cells #[.int .i64 0, .int .i64 z, .int .i64 0, .int .i64 g, .int .i64 a, .int .i64 n, .int .i64 i, .int .i64 p, .int .i64 k, .int .i64 t] 29)).drew.cell? ⟨w2.heap.size, 0, none⟩ = some (.int .i64 0) ∧ (((w2.alloc (.cells #[.int .i64 0, .int .i64 z, .int .i64 v, .int .i64 g, .int .i64 ra, .int .i64 rn, .int .i64 ri, .int .i64 rp, .int .i64 rk, .int .i64 rt] 29)).alloc (.cells #[.int .i64 0, .int .i64 z, .int .i64 v, .int .i64 7, .int .i64 a, .int .i64 n, .int .i64 i, .int .i64 p, .int .i64 k, .int .i64 t] 29)).alloc (.cells #[.int .i64 0, .int .i64 z, .int .i64 0, .int .i64 g, .int .i64 a, .int .i64 n, .int .i64 i, .int .i64 p, .int .i64 k, .int .i64 t] 29)).drew.cell? ⟨w2.heap.size, 1, none⟩ = some (.int .i64 z) ∧ (((w2.alloc (.cells #[.int .i64 0, .int .i64 z, .int .i64 v, .int .i64 g, .int .i64 ra, .int .i64 rn, .int .i64 ri, .int .i64 rp, .int .i64 rk, .int .i64 rt] 29)).alloc (.cells #[.int .i64 0, .int .i64 z, .int .i64 v, .int .i64 7, .int .i64 a, .int .i64 n, .int .i64 i, .int .i64 p, .int .i64 k, .int .i64 t] 29)).alloc (.cells #[.int .i64 0, .int .i64 z, .int .i64 0, .int .i64 g, .int .i64 a, .int .i64 n, .int .i64 i, .int .i64 p, .int .i64 k, .int .i64 t] 29)).drew.cell? ⟨w2.heap.size, 2, none⟩ = some (.int .i64 v) ∧ (((w2.alloc (.cells #[.int .i64 0, .int .i64 z, .int .i64 v, .int .i64 g, .int .i64 ra, .int .i64 rn, .int .i64 ri, .int .i64 rp, .int .i64 rk, .int .i64 rt] 29)).alloc (.cells #[.int .i64 0, .int .i64 z, .int .i64 v, .int .i64 7, .int .i64 a, .int .i64 n, .int .i64 i, .int .i64 p, .int .i64 k, .int .i64 t] 29)).alloc (.cells #[.int .i64 0, .int .i64 z, .int .i64 0, .int .i64 g, .int .i64 a, .int .i64 n, .int .i64 i, .int .i64 p, .int .i64 k, .int .i64 t] 29)).drew.cell? ⟨w2.heap.size, 3, none⟩ = some (.int .i64 g) ∧ (((w2.alloc (.cells #[.int .i64 0, .int .i64 z, .int .i64 v, .int .i64 g, .int .i64 ra, .int .i64 rn, .int .i64 ri, .int .i64 rp, .int .i64 rk, .int .i64 rt] 29)).alloc (.cells #[.int .i64 0, .int .i64 z, .int .i64 v, .int .i64 7, .int .i64 a, .int .i64 n, .int .i64 i, .int .i64 p, .int .i64 k, .int .i64 t] 29)).alloc (.cells #[.int .i64 0, .int .i64 z, .int .i64 0, .int .i64 g, .int .i64 a, .int .i64 n, .int .i64 i, .int .i64 p, .int .i64 k, .int .i64 t] 29)).drew.cell? ⟨w2.heap.size, 4, none⟩ = some (.int .i64 ra) ∧ (((w2.alloc (.cells #[.int .i64 0, .int .i64 z, .int .i64 v, .int .i64 g, .int .i64 ra, .int .i64 rn, .int .i64 ri, .int .i64 rp, .int .i64 rk, .int .i64 rt] 29)).alloc (.cells #[.int .i64 0, .int .i64 z, .int .i64 v, .int .i64 7, .int .i64 a, .int .i64 n, .int .i64 i, .int .i64 p, .int .i64 k, .int .i64 t] 29)).alloc (.cells #[.int .i64 0, .int .i64 z, .int .i64 0, .int .i64 g, .int .i64 a, .int .i64 n, .int .i64 i, .int .i64 p, .int .i64 k, .int .i64 t] 29)).drew.cell? ⟨w2.heap.size, 5, none⟩ = some (.int .i64 rn) ∧ (((w2.alloc (.cells #[.int .i64 0, .int .i64 z, .int .i64 v, .int .i64 g, .int .i64 ra, .int .i64 rn, .int .i64 ri, .int .i64 rp, .int .i64 rk, .int .i64 rt] 29)).alloc (.cells #[.int .i64 0, .int .i64 z, .int .i64 v, .int .i64 7, .int .i64 a, .int .i64 n, .int .i64 i, .int .i64 p, .int .i64 k, .int .i64 t] 29)).alloc (.cells #[.int .i64 0, .int .i64 z, .int .i64 0, .int .i64 g, .int .i64 a, .int .i64 n, .int .i64 i, .int .i64 p, .int .i64 k, .int .i64 t] 29)).drew.cell? ⟨w2.heap.size, 6, none⟩ = some (.int .i64 ri) ∧ (((w2.alloc (.cells #[.int .i64 0, .int .i64 z, .int .i64 v, .int .i64 g, .int .i64 ra, .int .i64 rn, .int .i64 ri, .int .i64 rp, .int .i64 rk, .int .i64 rt] 29)).alloc (.cells #[.int .i64 0, .int .i64 z, .int .i64 v, .int .i64 7, .int .i64 a, .int .i64 n, .int .i64 i, .int .i64 p, .int .i64 k, .int .i64 t] 29)).alloc (.cells #[.int .i64 0, .int .i64 z, .int .i64 0, .int .i64 g, .int .i64 a, .int .i64 n, .int .i64 i, .int .i64 p, .int .i64 k, .int .i64 t] 29)).drew.cell? ⟨w2.heap.size, 7, none⟩ = some (.int .i64 rp) ∧ (((w2.alloc (.cells #[.int .i64 0, .int .i64 z, .int .i64 v, .int .i64 g, .int .i64 ra, .int .i64 rn, .int .i64 ri, .int .i64 rp, .int .i64 rk, .int .i64 rt] 29)).alloc (.cells #[.int .i64 0, .int .i64 z, .int .i64 v, .int .i64 7, .int .i64 a, .int .i64 n, .int .i64 i, .int .i64 p, .int .i64 k, .int .i64 t] 29)).alloc (.cells #[.int .i64 0, .int .i64 z, .int .i64 0, .int .i64 g, .int .i64 a, .int .i64 n, .int .i64 i, .int .i64 p, .int .i64 k, .int .i64 t] 29)).drew.cell? ⟨w2.heap.size, 8, none⟩ = some (.int .i64 rk) ∧ (((w2.alloc (.cells #[.int .i64 0, .int .i64 z, .int .i64 v, .int .i64 g, .int .i64 ra, .int .i64 rn, .int .i64 ri, .int .i64 rp, .int .i64 rk, .int .i64 rt] 29)).alloc (.cells #[.int .i64 0, .int .i64 z, .int .i64 v, .int .i64 7, .int .i64 a, .int .i64 n, .int .i64 i, .int .i64 p, .int .i64 k, .int .i64 t] 29)).alloc (.cells #[.int .i64 0, .int .i64 z, .int .i64 0, .int .i64 g, .int .i64 a, .int .i64 n, .int .i64 i, .int .i64 p, .int .i64 k, .int .i64 t] 29)).drew.cell? ⟨w2.heap.size, 9, none⟩ = some (.int .i64 rt) ∧ (((w2.alloc (.cells #[.int .i64 0, .int .i64 z, .int .i64 v, .int .i64 g, .int .i64 ra, .int .i64 rn, .int .i64 ri, .int .i64 rp, .int .i64 rk, .int .i64 rt] 29)).alloc (.cells #[.int .i64 0, .int .i64 z, .int .i64 v, .int .i64 7, .int .i64 a, .int .i64 n, .int .i64 i, .int .i64 p, .int .i64 k, .int .i64 t] 29)).alloc (.cells #[.int .i64 0, .int .i64 z, .int .i64 0, .int .i64 g, .int .i64 a, .int .i64 n, .int .i64 i, .int .i64 p, .int .i64 k, .int .i64 t] 29)).drew.cell? ⟨w2.heap.size + 1, 0, none⟩ = some (.int .i64 0) ∧ (((w2.alloc (.cells #[.int .i64 0, .int .i64 z, .int .i64 v, .int .i64 g, .int .i64 ra, .int .i64 rn, .int .i64 ri, .int .i64 rp, .int .i64 rk, .int .i64 rt] 29)).alloc (.cells #[.int .i64 0, .int .i64 z, .int .i64 v, .int .i64 7, .int .i64 a, .int .i64 n, .int .i64 i, .int .i64 p, .int .i64 k, .int .i64 t] 29)).alloc (.cells #[.int .i64 0, .int .i64 z, .int .i64 0, .int .i64 g, .int .i64 a, .int .i64 n, .int .i64 i, .int .i64 p, .int .i64 k, .int .i64 t] 29)).drew.cell? ⟨w2.heap.size + 1, 1, none⟩ = some (.int .i64 z) ∧ (((w2.alloc (.cells #[.int .i64 0, .int .i64 z, .int .i64 v, .int .i64 g, .int .i64 ra, .int .i64 rn, .int .i64 ri, .int .i64 rp, .int .i64 rk, .int .i64 rt] 29)).alloc (.cells #[.int .i64 0, .int .i64 z, .int .i64 v, .int .i64 7, .int .i64 a, .int .i64 n, .int .i64 i, .int .i64 p, .int .i64 k, .int .i64 t] 29)).alloc (.cells #[.int .i64 0, .int .i64 z, .int .i64 0, .int .i64 g, .int .i64 a, .int .i64 n, .int .i64 i, .int .i64 p, .int .i64 k, .int .i64 t] 29)).drew.cell? ⟨w2.heap.size + 1, 2, none⟩ = some (.int .i64 v) ∧ (((w2.alloc (.cells #[.int .i64 0, .int .i64 z, .int .i64 v, .int .i64 g, .int .i64 ra, .int .i64 rn, .int .i64 ri, .int .i64 rp, .int .i64 rk, .int .i64 rt] 29)).alloc (.cells #[.int .i64 0, .int .i64 z, .int .i64 v, .int .i64 7, .int .i64 a, .int .i64 n, .int .i64 i, .int .i64 p, .int .i64 k, .int .i64 t] 29)).alloc (.cells #[.int .i64 0, .int .i64 z, .int .i64 0, .int .i64 g, .int .i64 a, .int .i64 n, .int .i64 i, .int .i64 p, .int .i64 k, .int .i64 t] 29)).drew.cell? ⟨w2.heap.size + 1, 3, none⟩ = some (.int .i64 7) ∧ (((w2.alloc (.cells #[.int .i64 0, .int .i64 z, .int .i64 v, .int .i64 g, .int .i64 ra, .int .i64 rn, .int .i64 ri, .int .i64 rp, .int .i64 rk, .int .i64 rt] 29)).alloc (.cells #[.int .i64 0, .int .i64 z, .int .i64 v, .int .i64 7, .int .i64 a, .int .i64 n, .int .i64 i, .int .i64 p, .int .i64 k, .int .i64 t] 29)).alloc (.cells #[.int .i64 0, .int .i64 z, .int .i64 0, .int .i64 g, .int .i64 a, .int .i64 n, .int .i64 i, .int .i64 p, .int .i64 k, .int .i64 t] 29)).drew.cell? ⟨w2.heap.size + 1, 4, none⟩ = some (.int .i64 a) ∧ (((w2.alloc (.cells #[.int .i64 0, .int .i64 z, .int .i64 v, .int .i64 g, .int .i64 ra, .int .i64 rn, .int .i64 ri, .int .i64 rp, .int .i64 rk, .int .i64 rt] 29)).alloc (.cells #[.int .i64 0, .int .i64 z, .int .i64 v, .int .i64 7, .int .i64 a, .int .i64 n, .int .i64 i, .int .i64 p, .int .i64 k, .int .i64 t] 29)).alloc (.cells #[.int .i64 0, .int .i64 z, .int .i64 0, .int .i64 g, .int .i64 a, .int .i64 n, .int .i64 i, .int .i64 p, .int .i64 k, .int .i64 t] 29)).drew.cell? ⟨w2.heap.size + 1, 5, none⟩ = some (.int .i64 n) ∧ (((w2.alloc (.cells #[.int .i64 0, .int .i64 z, .int .i64 v, .int .i64 g, .int .i64 ra, .int .i64 rn, .int .i64 ri, .int .i64 rp, .int .i64 rk, .int .i64 rt] 29)).alloc (.cells #[.int .i64 0, .int .i64 z, .int .i64 v, .int .i64 7, .int .i64 a, .int .i64 n, .int .i64 i, .int .i64 p, .int .i64 k, .int .i64 t] 29)).alloc (.cells #[.int .i64 0, .int .i64 z, .int .i64 0, .int .i64 g, .int .i64 a, .int .i64 n, .int .i64 i, .int .i64 p, .int .i64 k, .int .i64 t] 29)).drew.cell? ⟨w2.heap.size + 1, 6, none⟩ = some (.int .i64 i) ∧ (((w2.alloc (.cells #[.int .i64 0, .int .i64 z, .int .i64 v, .int .i64 g, .int .i64 ra, .int .i64 rn, .int .i64 ri, .int .i64 rp, .int .i64 rk, .int .i64 rt] 29)).alloc (.cells #[.int .i64 0, .int .i64 z, .int .i64 v, .int .i64 7, .int .i64 a, .int .i64 n, .int .i64 i, .int .i64 p, .int .i64 k, .int .i64 t] 29)).alloc (.cells #[.int .i64 0, .int .i64 z, .int .i64 0, .int .i64 g, .int .i64 a, .int .i64 n, .int .i64 i, .int .i64 p, .int .i64 k, .int .i64 t] 29)).drew.cell? ⟨w2.heap.size + 1, 7, none⟩ = some (.int .i64 p) ∧ (((w2.alloc (.cells #[.int .i64 0, .int .i64 z, .int .i64 v, .int .i64 g, .int .i64 ra, .int .i64 rn, .int .i64 ri, .int .i64 rp, .int .i64 rk, .int .i64 rt] 29)).alloc (.cells #[.int .i64 0, .int .i64 z, .int .i64 v, .int .i64 7, .int .i64 a, .int .i64 n, .int .i64 i, .int .i64 p, .int .i64 k, .int .i64 t] 29)).alloc (.cells #[.int .i64 0, .int .i64 z, .int .i64 0, .int .i64 g, .int .i64 a, .int .i64 n, .int .i64 i, .int .i64 p, .int .i64 k, .int .i64 t] 29)).drew.cell? ⟨w2.heap.size + 1, 8, none⟩ = some (.int .i64 k) ∧ (((w2.alloc (.cells #[.int .i64 0, .int .i64 z, .int .i64 v, .int .i64 g, .int .i64 ra, .int .i64 rn, .int .i64 ri, .int .i64 rp, .int .i64 rk, .int .i64 rt] 29)).alloc (.cells #[.int .i64 0, .int .i64 z, .int .i64 v, .int .i64 7, .int .i64 a, .int .i64 n, .int .i64 i, .int .i64 p, .int .i64 k, .int .i64 t] 29)).alloc (.cells #[.int .i64 0, .int .i64 z, .int .i64 0, .int .i64 g, .int .i64 a, .int .i64 n, .int .i64 i, .int .i64 p, .int .i64 k, .int .i64 t] 29)).drew.cell? ⟨w2.heap.size + 1, 9, none⟩ = some (.int .i64 t) ∧ (((w2.alloc (.cells #[.int .i64 0, .int .i64 z, .int .i64 v, .int .i64 g, .int .i64 ra, .int .i64 rn, .int .i64 ri, .int .i64 rp, .int .i64 rk, .int .i64 rt] 29)).alloc (.cells #[.int .i64 0, .int .i64 z, .int .i64 v, .int .i64 7, .int .i64 a, .int .i64 n, .int .i64 i, .int .i64 p, .int .i64 k, .int .i64 t] 29)).alloc (.cells #[.int .i64 0, .int .i64 z, .int .i64 0, .int .i64 g, .int .i64 a, .int .i64 n, .int .i64 i, .int .i64 p, .int .i64 k, .int .i64 t] 29)).drew.cell? ⟨w2.heap.size + 1 + 1, 0, none⟩ = some (.int .i64 0) ∧ (((w2.alloc (.cells #[.int .i64 0, .int .i64 z, .int .i64 v, .int .i64 g, .int .i64 ra, .int .i64 rn, .int .i64 ri, .int .i64 rp, .int .i64 rk, .int .i64 rt] 29)).alloc (.cells #[.int .i64 0, .int .i64 z, .int .i64 v, .int .i64 7, .int .i64 a, .int .i64 n, .int .i64 i, .int .i64 p, .int .i64 k, .int .i64 t] 29)).alloc (.cells #[.int .i64 0, .int .i64 z, .int .i64 0, .int .i64 g, .int .i64 a, .int .i64 n, .int .i64 i, .int .i64 p, .int .i64 k, .int .i64 t] 29)).drew.cell? ⟨w2.heap.size + 1 + 1, 1, none⟩ = some (.int .i64 z) ∧ (((w2.alloc (.cells #[.int .i64 0, .int .i64 z, .int .i64 v, .int .i64 g, .int .i64 ra, .int .i64 rn, .int .i64 ri, .int .i64 rp, .int .i64 rk, .int .i64 rt] 29)).alloc (.cells #[.int .i64 0, .int .i64 z, .int .i64 v, .int .i64 7, .int .i64 a, .int .i64 n, .int .i64 i, .int .i64 p, .int .i64 k, .int .i64 t] 29)).alloc (.cells #[.int .i64 0, .int .i64 z, .int .i64 0, .int .i64 g, .int .i64 a, .int .i64 n, .int .i64 i, .int .i64 p, .int .i64 k, .int .i64 t] 29)).drew.cell? ⟨w2.heap.size + 1 + 1, 2, none⟩ = some (.int .i64 0) ∧ (((w2.alloc (.cells #[.int .i64 0, .int .i64 z, .int .i64 v, .int .i64 g, .int .i64 ra, .int .i64 rn, .int .i64 ri, .int .i64 rp, .int .i64 rk, .int .i64 rt] 29)).alloc (.cells #[.int .i64 0, .int .i64 z, .int .i64 v, .int .i64 7, .int .i64 a, .int .i64 n, .int .i64 i, .int .i64 p, .int .i64 k, .int .i64 t] 29)).alloc (.cells #[.int .i64 0, .int .i64 z, .int .i64 0, .int .i64 g, .int .i64 a, .int .i64 n, .int .i64 i, .int .i64 p, .int .i64 k, .int .i64 t] 29)).drew.cell? ⟨w2.heap.size + 1 + 1, 3, none⟩ = some (.int .i64 g) ∧ (((w2.alloc (.cells #[.int .i64 0, .int .i64 z, .int .i64 v, .int .i64 g, .int .i64 ra, .int .i64 rn, .int .i64 ri, .int .i64 rp, .int .i64 rk, .int .i64 rt] 29)).alloc (.cells #[.int .i64 0, .int .i64 z, .int .i64 v, .int .i64 7, .int .i64 a, .int .i64 n, .int .i64 i, .int .i64 p, .int .i64 k, .int .i64 t] 29)).alloc (.cells #[.int .i64 0, .int .i64 z, .int .i64 0, .int .i64 g, .int .i64 a, .int .i64 n, .int .i64 i, .int .i64 p, .int .i64 k, .int .i64 t] 29)).drew.cell? ⟨w2.heap.size + 1 + 1, 4, none⟩ = some (.int .i64 a) ∧ (((w2.alloc (.cells #[.int .i64 0, .int .i64 z, .int .i64 v, .int .i64 g, .int .i64 ra, .int .i64 rn, .int .i64 ri, .int .i64 rp, .int .i64 rk, .int .i64 rt] 29)).alloc (.cells #[.int .i64 0, .int .i64 z, .int .i64 v, .int .i64 7, .int .i64 a, .int .i64 n, .int .i64 i, .int .i64 p, .int .i64 k, .int .i64 t] 29)).alloc (.cells #[.int .i64 0, .int .i64 z, .int .i64 0, .int .i64 g, .int .i64 a, .int .i64 n, .int .i64 i, .int .i64 p, .int .i64 k, .int .i64 t] 29)).drew.cell? ⟨w2.heap.size + 1 + 1, 5, none⟩ = some (.int .i64 n) ∧ (((w2.alloc (.cells #[.int .i64 0, .int .i64 z, .int .i64 v, .int .i64 g, .int .i64 ra, .int .i64 rn, .int .i64 ri, .int .i64 rp, .int .i64 rk, .int .i64 rt] 29)).alloc (.cells #[.int .i64 0, .int .i64 z, .int .i64 v, .int .i64 7, .int .i64 a, .int .i64 n, .int .i64 i, .int .i64 p, .int .i64 k, .int .i64 t] 29)).alloc (.cells #[.int .i64 0, .int .i64 z, .int .i64 0, .int .i64 g, .int .i64 a, .int .i64 n, .int .i64 i, .int .i64 p, .int .i64 k, .int .i64 t] 29)).drew.cell? ⟨w2.heap.size + 1 + 1, 6, none⟩ = some (.int .i64 i) ∧ (((w2.alloc (.cells #[.int .i64 0, .int .i64 z, .int .i64 v, .int .i64 g, .int .i64 ra, .int .i64 rn, .int .i64 ri, .int .i64 rp, .int .i64 rk, .int .i64 rt] 29)).alloc (.cells #[.int .i64 0, .int .i64 z, .int .i64 v, .int .i64 7, .int .i64 a, .int .i64 n, .int .i64 i, .int .i64 p, .int .i64 k, .int .i64 t] 29)).alloc (.cells #[.int .i64 0, .int .i64 z, .int .i64 0, .int .i64 g, .int .i64 a, .int .i64 n, .int .i64 i, .int .i64 p, .int .i64 k, .int .i64 t] 29)).drew.cell? ⟨w2.heap.size + 1 + 1, 7, none⟩ = some (.int .i64 p) ∧ (((w2.alloc (.cells #[.int .i64 0, .int .i64 z, .int .i64 v, .int .i64 g, .int .i64 ra, .int .i64 rn, .int .i64 ri, .int .i64 rp, .int .i64 rk, .int .i64 rt] 29)).alloc (.cells #[.int .i64 0, .int .i64 z, .int .i64 v, .int .i64 7, .int .i64 a, .int .i64 n, .int .i64 i, .int .i64 p, .int .i64 k, .int .i64 t] 29)).alloc (.cells #[.int .i64 0, .int .i64 z, .int .i64 0, .int .i64 g, .int .i64 a, .int .i64 n, .int .i64 i, .int .i64 p, .int .i64 k, .int .i64 t] 29)).drew.cell? ⟨w2.heap.size + 1 + 1, 8, none⟩ = some (.int .i64 k) ∧ (((w2.alloc (.cells #[.int .i64 0, .int .i64 z, .int .i64 v, .int .i64 g, .int .i64 ra, .int .i64 rn, .int .i64 ri, .int .i64 rp, .int .i64 rk, .int .i64 rt] 29)).alloc (.cells #[.int .i64 0, .int .i64 z, .int .i64 v, .int .i64 7, .int .i64 a, .int .i64 n, .int .i64 i, .int .i64 p, .int .i64 k, .int .i64 t] 29)).alloc (.cells #[.int .i64 0, .int .i64 z, .int .i64 0, .int .i64 g, .int .i64 a, .int .i64 n, .int .i64 i, .int .i64 p, .int .i64 k, .int .i64 t] 29)).drew.cell? ⟨w2.heap.size + 1 + 1, 9, none⟩ = some (.int .i64 t) := ⟨hB.drew, T.later (Below.refl _ _).drew, X0.lt, V0.lt, V1.lt, V2.lt, x00, v00, v01, v02, v03, v04, v05, v06, v07, v08, v09, v10, v11, v12, v13, v14, v15, v16, v17, v18, v19, v20, v21, v22, v23, v24, v25, v26, v27, v28, v29⟩
  clear X0 X1 V0 V1 V2
  go_wp2_with fail
  refine wp_region_noPanic ?_
  refine wp_region_held_drew (S := fun w' => Below w.heap.size w w' ∧ Tab w' ∧ w.heap.size < w'.heap.size ∧ w2.heap.size < w'.heap.size ∧ w2.heap.size + 1 < w'.heap.size ∧ w2.heap.size + 1 + 1 < w'.heap.size ∧ w'.cell? ⟨w.heap.size, 0, none⟩ = some (.int .i64 0) ∧ w'.cell? ⟨w2.heap.size, 0, none⟩ = some (.int .i64 0) ∧ w'.cell? ⟨w2.heap.size, 1, none⟩ = some (.int .i64 z) ∧ w'.cell? ⟨w2.heap.size, 2, none⟩ = some (.int .i64 v) ∧ w'.cell? ⟨w2.heap.size, 3, none⟩ = some (.int .i64 g) ∧ w'.cell? ⟨w2.heap.size, 4, none⟩ = some (.int .i64 ra) ∧ w'.cell? ⟨w2.heap.size, 5, none⟩ = some (.int .i64 rn) ∧ w'.cell? ⟨w2.heap.size, 6, none⟩ = some (.int .i64 ri) ∧ w'.cell? ⟨w2.heap.size, 7, none⟩ = some (.int .i64 rp) ∧ w'.cell? ⟨w2.heap.size, 8, none⟩ = some (.int .i64 rk) ∧ w'.cell? ⟨w2.heap.size, 9, none⟩ = some (.int .i64 rt) ∧ w'.cell? ⟨w2.heap.size + 1, 0, none⟩ = some (.int .i64 0) ∧ w'.cell? ⟨w2.heap.size + 1, 1, none⟩ = some (.int .i64 z) ∧ w'.cell? ⟨w2.heap.size + 1, 2, none⟩ = some (.int .i64 v) ∧ w'.cell? ⟨w2.heap.size + 1, 3, none⟩ = some (.int .i64 7) ∧ w'.cell? ⟨w2.heap.size + 1, 4, none⟩ = some (.int .i64 a) ∧ w'.cell? ⟨w2.heap.size + 1, 5, none⟩ = some (.int .i64 n) ∧ w'.cell? ⟨w2.heap.size + 1, 6, none⟩ = some (.int .i64 i) ∧ w'.cell? ⟨w2.heap.size + 1, 7, none⟩ = some (.int .i64 p) ∧ w'.cell? ⟨w2.heap.size + 1, 8, none⟩ = some (.int .i64 k) ∧ w'.cell? ⟨w2.heap.size + 1, 9, none⟩ = some (.int .i64 t) ∧ w'.cell? ⟨w2.heap.size + 1 + 1, 0, none⟩ = some (.int .i64 0) ∧ w'.cell? ⟨w2.heap.size + 1 + 1, 1, none⟩ = some (.int .i64 z) ∧ w'.cell? ⟨w2.heap.size + 1 + 1, 2, none⟩ = some (.int .i64 0) ∧ w'.cell? ⟨w2.heap.size + 1 + 1, 3, none⟩ = some (.int .i64 g) ∧ w'.cell? ⟨w2.heap.size + 1 + 1, 4, none⟩ = some (.int .i64 a) ∧ w'.cell? ⟨w2.heap.size + 1 + 1, 5, none⟩ = some (.int .i64 n) ∧ w'.cell? ⟨w2.heap.size + 1 + 1, 6, none⟩ = some (.int .i64 i) ∧ w'.cell? ⟨w2.heap.size + 1 + 1, 7, none⟩ = some (.int .i64 p) ∧ w'.cell? ⟨w2.heap.size + 1 + 1, 8, none⟩ = some (.int .i64 k) ∧ w'.cell? ⟨w2.heap.size + 1 + 1, 9, none⟩ = some (.int .i64 t)) (by kernel_rfl) S0 (fun hH => ?_)
  clear S0
  clear hB x00 x01 x02 x03 x04 x05 x06 x07 x08 x09 x10 x11 x12 x13 x14 x15 v00 v01 v02 v03 v04 v05 v06 v07 v08 v09 v10 v11 v12 v13 v14 v15 v16 v17 v18 v19 v20 v21 v22 v23 v24 v25 v26 v27 v28 v29
  refine wpAnyH_take (i := 0) (oi := { dst := some 30, op := _, type := _, pos := _, after := _, guard := _ }) (v := ?_) rfl (by kernel_rfl) (by kernel_rfl) (by kernel_rfl) (fun _ _ _ h => h) (Or.inl ⟨by rfl, ?_⟩) hH ?_
  rotate_left
  · intro wz hSw
    (try dsimp only at hSw)
    first | (go_simp; done) | (go_simp; with_reducible rfl)
  try simp only [Act.put, List.setIfInBounds_toArray, List.set_cons_zero, List.set_cons_succ]
  refine wpAnyH_take (i := 1) (oi := { dst := some 31, op := _, type := _, pos := _, after := _, guard := _ }) (v := ?_) rfl (by kernel_rfl) (by kernel_rfl) (by kernel_rfl) (fun _ _ _ h => h) (Or.inl ⟨by rfl, ?_⟩) hH ?_
  rotate_left
  · intro wz hSw
    (try dsimp only at hSw)
    first | (go_simp; done) | (go_simp; with_reducible rfl)
  try simp only [Act.put, List.setIfInBounds_toArray, List.set_cons_zero, List.set_cons_succ]
  refine wpAnyH_take (i := 2) (oi := { dst := some 32, op := _, type := _, pos := _, after := _, guard := _ }) (v := ?_) rfl (by kernel_rfl) (by kernel_rfl) (by kernel_rfl) (fun _ _ _ h => h) (Or.inl ⟨by rfl, ?_⟩) hH ?_
  rotate_left
  · intro wz hSw
    (try dsimp only at hSw)
    first | (go_simp; done) | (go_simp; with_reducible rfl)
  try simp only [Act.put, List.setIfInBounds_toArray, List.set_cons_zero, List.set_cons_succ]
  refine wpAnyH_take (i := 3) (oi := { dst := some 33, op := _, type := _, pos := _, after := _, guard := _ }) (v := ?_) rfl (by kernel_rfl) (by kernel_rfl) (by kernel_rfl) (fun _ _ _ h => h) (Or.inl ⟨by rfl, ?_⟩) hH ?_
  rotate_left
  · intro wz hSw
    (try dsimp only at hSw)
    first | (go_simp; done) | (go_simp; with_reducible rfl)
  try simp only [Act.put, List.setIfInBounds_toArray, List.set_cons_zero, List.set_cons_succ]
  refine wpAnyH_take (i := 4) (oi := { dst := some 34, op := _, type := _, pos := _, after := _, guard := _ }) (v := ?_) rfl (by kernel_rfl) (by kernel_rfl) (by kernel_rfl) (fun _ _ _ h => h) (Or.inl ⟨by rfl, ?_⟩) hH ?_
  rotate_left
  · intro wz hSw
    (try dsimp only at hSw)
    first | (go_simp; done) | (go_simp; with_reducible rfl)
  try simp only [Act.put, List.setIfInBounds_toArray, List.set_cons_zero, List.set_cons_succ]
  refine wpAnyH_ready (rs := [5]) (by kernel_rfl) (by simp) ?_
  refine AllReadyH.cons (o := { dst := some 35, op := _, type := _, pos := _, after := _, guard := _ }) rfl (fun K hK => ?_) AllReadyH.nil
  go_simp
  refine (mMay_any 0 z v g ra rn ri rp rk rt _ hH.2.1).mono ?_
  rw [hA]
  rintro e wq5 ⟨rfl, hbq⟩
  go_wp2_with fail
  refine hK.out _ _ (kept_kinds hH hbq) (fun hH2 => ?_)
  clear hK K hH hbq
  have hH := hH2
  clear hH2
  try simp only [Act.put, List.setIfInBounds_toArray, List.set_cons_zero, List.set_cons_succ]
  refine wpAnyH_take (i := 6) (oi := { dst := some 36, op := _, type := _, pos := _, after := _, guard := _ }) (v := ?_) rfl (by kernel_rfl) (by kernel_rfl) (by kernel_rfl) (fun _ _ _ h => h) (Or.inl ⟨by rfl, ?_⟩) hH ?_
  rotate_left
  · intro wz hSw
    (try dsimp only at hSw)
    first | (go_simp; done) | (go_simp; with_reducible rfl)
  try simp only [Act.put, List.setIfInBounds_toArray, List.set_cons_zero, List.set_cons_succ]
  refine wpAnyH_take (i := 7) (oi := { dst := some 37, op := _, type := _, pos := _, after := _, guard := _ }) (v := ?_) rfl (by kernel_rfl) (by kernel_rfl) (by kernel_rfl) (fun _ _ _ h => h) (Or.inl ⟨by rfl, ?_⟩) hH ?_
  rotate_left
  · intro wz hSw
    (try dsimp only at hSw)
    first | (go_simp; done) | (go_simp; with_reducible rfl)
  try simp only [Act.put, List.setIfInBounds_toArray, List.set_cons_zero, List.set_cons_succ]
  refine wpAnyH_take (i := 8) (oi := { dst := some 38, op := _, type := _, pos := _, after := _, guard := _ }) (v := ?_) rfl (by kernel_rfl) (by kernel_rfl) (by kernel_rfl) (fun _ _ _ h => h) (Or.inl ⟨by rfl, ?_⟩) hH ?_
  rotate_left
  · intro wz hSw
    (try dsimp only at hSw)
    first | (go_simp; done) | (go_simp; with_reducible rfl)
  try simp only [Act.put, List.setIfInBounds_toArray, List.set_cons_zero, List.set_cons_succ]
  refine wpAnyH_take (i := 9) (oi := { dst := some 39, op := _, type := _, pos := _, after := _, guard := _ }) (v := ?_) rfl (by kernel_rfl) (by kernel_rfl) (by kernel_rfl) (fun _ _ _ h => h) (Or.inl ⟨by rfl, ?_⟩) hH ?_
  rotate_left
  · intro wz hSw
    (try dsimp only at hSw)
    first | (go_simp; done) | (go_simp; with_reducible rfl)
  try simp only [Act.put, List.setIfInBounds_toArray, List.set_cons_zero, List.set_cons_succ]
  refine wpAnyH_take (i := 10) (oi := { dst := some 40, op := _, type := _, pos := _, after := _, guard := _ }) (v := ?_) rfl (by kernel_rfl) (by kernel_rfl) (by kernel_rfl) (fun _ _ _ h => h) (Or.inl ⟨by rfl, ?_⟩) hH ?_
  rotate_left
  · intro wz hSw
    (try dsimp only at hSw)
    first | (go_simp; done) | (go_simp; with_reducible rfl)
  try simp only [Act.put, List.setIfInBounds_toArray, List.set_cons_zero, List.set_cons_succ]
  refine wpAnyH_take (i := 11) (oi := { dst := some 41, op := _, type := _, pos := _, after := _, guard := _ }) (v := ?_) rfl (by kernel_rfl) (by kernel_rfl) (by kernel_rfl) (fun _ _ _ h => h) (Or.inl ⟨by rfl, ?_⟩) hH ?_
  rotate_left
  · intro wz hSw
    (try dsimp only at hSw)
    first | (go_simp; done) | (go_simp; with_reducible rfl)
  try simp only [Act.put, List.setIfInBounds_toArray, List.set_cons_zero, List.set_cons_succ]
  refine wpAnyH_take (i := 12) (oi := { dst := some 42, op := _, type := _, pos := _, after := _, guard := _ }) (v := ?_) rfl (by kernel_rfl) (by kernel_rfl) (by kernel_rfl) (fun _ _ _ h => h) (Or.inl ⟨by rfl, ?_⟩) hH ?_
  rotate_left
  · intro wz hSw
    (try dsimp only at hSw)
    first | (go_simp; done) | (go_simp; with_reducible rfl)
  try simp only [Act.put, List.setIfInBounds_toArray, List.set_cons_zero, List.set_cons_succ]
  refine wpAnyH_take (i := 13) (oi := { dst := some 43, op := _, type := _, pos := _, after := _, guard := _ }) (v := undef) rfl (by kernel_rfl) (by kernel_rfl) (by kernel_rfl) (fun _ _ _ h => h) (Or.inr ⟨by rfl, rfl⟩) hH ?_
  try simp only [Act.put, List.setIfInBounds_toArray, List.set_cons_zero, List.set_cons_succ]
  refine wpAnyH_take (i := 14) (oi := { dst := some 44, op := _, type := _, pos := _, after := _, guard := _ }) (v := undef) rfl (by kernel_rfl) (by kernel_rfl) (by kernel_rfl) (fun _ _ _ h => h) (Or.inr ⟨by rfl, rfl⟩) hH ?_
  try simp only [Act.put, List.setIfInBounds_toArray, List.set_cons_zero, List.set_cons_succ]
  refine wpAnyH_take (i := 15) (oi := { dst := some 45, op := _, type := _, pos := _, after := _, guard := _ }) (v := undef) rfl (by kernel_rfl) (by kernel_rfl) (by kernel_rfl) (fun _ _ _ h => h) (Or.inr ⟨by rfl, rfl⟩) hH ?_
  try simp only [Act.put, List.setIfInBounds_toArray, List.set_cons_zero, List.set_cons_succ]
  refine wpAnyH_take (i := 16) (oi := { dst := some 46, op := _, type := _, pos := _, after := _, guard := _ }) (v := ?_) rfl (by kernel_rfl) (by kernel_rfl) (by kernel_rfl) (fun _ _ _ h => h) (Or.inl ⟨by rfl, ?_⟩) hH ?_
  rotate_left
  · intro wz hSw
    (try dsimp only at hSw)
    first | (go_simp; done) | (go_simp; with_reducible rfl)
  try simp only [Act.put, List.setIfInBounds_toArray, List.set_cons_zero, List.set_cons_succ]
  refine wpAnyH_take (i := 17) (oi := { dst := some 47, op := _, type := _, pos := _, after := _, guard := _ }) (v := ?_) rfl (by kernel_rfl) (by kernel_rfl) (by kernel_rfl) (fun _ _ _ h => h) (Or.inl ⟨by rfl, ?_⟩) hH ?_
  rotate_left
  · intro wz hSw
    (try dsimp only at hSw)
    first | (go_simp; done) | (go_simp; with_reducible rfl)
  try simp only [Act.put, List.setIfInBounds_toArray, List.set_cons_zero, List.set_cons_succ]
  refine wpAnyH_take (i := 18) (oi := { dst := some 48, op := _, type := _, pos := _, after := _, guard := _ }) (v := ?_) rfl (by kernel_rfl) (by kernel_rfl) (by kernel_rfl) (fun _ _ _ h => h) (Or.inl ⟨by rfl, ?_⟩) hH ?_
  rotate_left
  · intro wz hSw
    (try dsimp only at hSw)
    first | (go_simp; done) | (go_simp; with_reducible rfl)
  try simp only [Act.put, List.setIfInBounds_toArray, List.set_cons_zero, List.set_cons_succ]
  refine wpAnyH_ready (rs := [19]) (by kernel_rfl) (by simp) ?_
  refine AllReadyH.cons (o := { dst := some 49, op := _, type := _, pos := _, after := _, guard := _ }) rfl (fun K hK => ?_) AllReadyH.nil
  go_simp
  refine (mMay_any 0 z v 7 a n i p k t _ hH.2.1).mono ?_
  rw [hT7]
  rintro e wq19 ⟨rfl, hbq⟩
  go_wp2_with fail
  refine hK.out _ _ (kept_kinds hH hbq) (fun hH2 => ?_)
  clear hK K hH hbq
  have hH := hH2
  clear hH2
  try simp only [Act.put, List.setIfInBounds_toArray, List.set_cons_zero, List.set_cons_succ]
  refine wpAnyH_take (i := 20) (oi := { dst := some 50, op := _, type := _, pos := _, after := _, guard := _ }) (v := ?_) rfl (by kernel_rfl) (by kernel_rfl) (by kernel_rfl) (fun _ _ _ h => h) (Or.inl ⟨by rfl, ?_⟩) hH ?_
  rotate_left
  · intro wz hSw
    (try dsimp only at hSw)
    first | (go_simp; done) | (go_simp; with_reducible rfl)
  try simp only [Act.put, List.setIfInBounds_toArray, List.set_cons_zero, List.set_cons_succ]
  refine wpAnyH_take (i := 21) (oi := { dst := some 51, op := _, type := _, pos := _, after := _, guard := _ }) (v := ?_) rfl (by kernel_rfl) (by kernel_rfl) (by kernel_rfl) (fun _ _ _ h => h) (Or.inl ⟨by rfl, ?_⟩) hH ?_
  rotate_left
  · intro wz hSw
    (try dsimp only at hSw)
    first | (go_simp; done) | (go_simp; with_reducible rfl)
  try simp only [Act.put, List.setIfInBounds_toArray, List.set_cons_zero, List.set_cons_succ]
  refine wpAnyH_take (i := 22) (oi := { dst := some 52, op := _, type := _, pos := _, after := _, guard := _ }) (v := ?_) rfl (by kernel_rfl) (by kernel_rfl) (by kernel_rfl) (fun _ _ _ h => h) (Or.inl ⟨by rfl, ?_⟩) hH ?_
  rotate_left
  · intro wz hSw
    (try dsimp only at hSw)
    first | (go_simp; done) | (go_simp; with_reducible rfl)
  try simp only [Act.put, List.setIfInBounds_toArray, List.set_cons_zero, List.set_cons_succ]
  refine wpAnyH_take (i := 23) (oi := { dst := some 53, op := _, type := _, pos := _, after := _, guard := _ }) (v := ?_) rfl (by kernel_rfl) (by kernel_rfl) (by kernel_rfl) (fun _ _ _ h => h) (Or.inl ⟨by rfl, ?_⟩) hH ?_
  rotate_left
  · intro wz hSw
    (try dsimp only at hSw)
    first | (go_simp; done) | (go_simp; with_reducible rfl)
  try simp only [Act.put, List.setIfInBounds_toArray, List.set_cons_zero, List.set_cons_succ]
  refine wpAnyH_take (i := 24) (oi := { dst := some 54, op := _, type := _, pos := _, after := _, guard := _ }) (v := ?_) rfl (by kernel_rfl) (by kernel_rfl) (by kernel_rfl) (fun _ _ _ h => h) (Or.inl ⟨by rfl, ?_⟩) hH ?_
  rotate_left
  · intro wz hSw
    (try dsimp only at hSw)
    first | (go_simp; done) | (go_simp; with_reducible rfl)
  try simp only [Act.put, List.setIfInBounds_toArray, List.set_cons_zero, List.set_cons_succ]
  refine wpAnyH_take (i := 26) (oi := { dst := some 56, op := _, type := _, pos := _, after := _, guard := _ }) (v := ?_) rfl (by kernel_rfl) (by kernel_rfl) (by kernel_rfl) (fun _ _ _ h => h) (Or.inl ⟨by rfl, ?_⟩) hH ?_
  rotate_left
  · intro wz hSw
    (try dsimp only at hSw)
    first | (go_simp; done) | (go_simp; with_reducible rfl)
  try simp only [Act.put, List.setIfInBounds_toArray, List.set_cons_zero, List.set_cons_succ]
  refine wpAnyH_take (i := 27) (oi := { dst := some 57, op := _, type := _, pos := _, after := _, guard := _ }) (v := ?_) rfl (by kernel_rfl) (by kernel_rfl) (by kernel_rfl) (fun _ _ _ h => h) (Or.inl ⟨by rfl, ?_⟩) hH ?_
  rotate_left
  · intro wz hSw
    (try dsimp only at hSw)
    first | (go_simp; done) | (go_simp; with_reducible rfl)
  try simp only [Act.put, List.setIfInBounds_toArray, List.set_cons_zero, List.set_cons_succ]
  refine wpAnyH_take (i := 28) (oi := { dst := some 58, op := _, type := _, pos := _, after := _, guard := _ }) (v := ?_) rfl (by kernel_rfl) (by kernel_rfl) (by kernel_rfl) (fun _ _ _ h => h) (Or.inl ⟨by rfl, ?_⟩) hH ?_
  rotate_left
  · intro wz hSw
    (try dsimp only at hSw)
    first | (go_simp; done) | (go_simp; with_reducible rfl)
  try simp only [Act.put, List.setIfInBounds_toArray, List.set_cons_zero, List.set_cons_succ]
  refine wpAnyH_ready (rs := [25]) (by kernel_rfl) (by simp) ?_
  refine AllReadyH.cons (o := { dst := some 55, op := _, type := _, pos := _, after := _, guard := _ }) rfl (fun K hK => ?_) AllReadyH.nil
  go_simp
  refine (mMay_any 0 z 0 g a n i p k t _ hH.2.1).mono ?_
  rw [hS0]
  rintro e wq25 ⟨rfl, hbq⟩
  go_wp2_with fail
  refine hK.out _ _ (kept_kinds hH hbq) (fun hH2 => ?_)
  clear hK K hH hbq
  have hH := hH2
  clear hH2
  try simp only [Act.put, List.setIfInBounds_toArray, List.set_cons_zero, List.set_cons_succ]
  refine wpAnyH_take (i := 29) (oi := { dst := some 59, op := _, type := _, pos := _, after := _, guard := _ }) (v := ?_) rfl (by kernel_rfl) (by kernel_rfl) (by kernel_rfl) (fun _ _ _ h => h) (Or.inl ⟨by rfl, ?_⟩) hH ?_
  rotate_left
  · intro wz hSw
    (try dsimp only at hSw)
    first | (go_simp; done) | (go_simp; with_reducible rfl)
  try simp only [Act.put, List.setIfInBounds_toArray, List.set_cons_zero, List.set_cons_succ]
  refine wpAnyH_take (i := 30) (oi := { dst := some 60, op := _, type := _, pos := _, after := _, guard := _ }) (v := undef) rfl (by kernel_rfl) (by kernel_rfl) (by kernel_rfl) (fun _ _ _ h => h) (Or.inr ⟨by rfl, rfl⟩) hH ?_
  try simp only [Act.put, List.setIfInBounds_toArray, List.set_cons_zero, List.set_cons_succ]
  refine wpAnyH_take (i := 31) (oi := { dst := some 61, op := _, type := _, pos := _, after := _, guard := _ }) (v := undef) rfl (by kernel_rfl) (by kernel_rfl) (by kernel_rfl) (fun _ _ _ h => h) (Or.inr ⟨by rfl, rfl⟩) hH ?_
  try simp only [Act.put, List.setIfInBounds_toArray, List.set_cons_zero, List.set_cons_succ]
  refine wpAnyH_take (i := 32) (oi := { dst := some 62, op := _, type := _, pos := _, after := _, guard := _ }) (v := undef) rfl (by kernel_rfl) (by kernel_rfl) (by kernel_rfl) (fun _ _ _ h => h) (Or.inr ⟨by rfl, rfl⟩) hH ?_
  try simp only [Act.put, List.setIfInBounds_toArray, List.set_cons_zero, List.set_cons_succ]
  refine wpAnyH_take (i := 33) (oi := { dst := some 63, op := _, type := _, pos := _, after := _, guard := _ }) (v := ?_) rfl (by kernel_rfl) (by kernel_rfl) (by kernel_rfl) (fun _ _ _ h => h) (Or.inl ⟨by rfl, ?_⟩) hH ?_
  rotate_left
  · intro wz hSw
    (try dsimp only at hSw)
    first | (go_simp; done) | (go_simp; with_reducible rfl)
  try simp only [Act.put, List.setIfInBounds_toArray, List.set_cons_zero, List.set_cons_succ]
  refine wpAnyH_take (i := 34) (oi := { dst := some 64, op := _, type := _, pos := _, after := _, guard := _ }) (v := ?_) rfl (by kernel_rfl) (by kernel_rfl) (by kernel_rfl) (fun _ _ _ h => h) (Or.inl ⟨by rfl, ?_⟩) hH ?_
  rotate_left
  · intro wz hSw
    (try dsimp only at hSw)
    first | (go_simp; done) | (go_simp; with_reducible rfl)
  try simp only [Act.put, List.setIfInBounds_toArray, List.set_cons_zero, List.set_cons_succ]
  refine wpAnyH_take (i := 35) (oi := { dst := some 65, op := _, type := _, pos := _, after := _, guard := _ }) (v := ?_) rfl (by kernel_rfl) (by kernel_rfl) (by kernel_rfl) (fun _ _ _ h => h) (Or.inl ⟨by rfl, ?_⟩) hH ?_
  rotate_left
  · intro wz hSw
    (try dsimp only at hSw)
    first | (go_simp; done) | (go_simp; with_reducible rfl)
  try simp only [Act.put, List.setIfInBounds_toArray, List.set_cons_zero, List.set_cons_succ]
  refine wpAnyH_take (i := 36) (oi := { dst := some 4, op := _, type := _, pos := _, after := _, guard := _ }) (v := ?_) rfl (by kernel_rfl) (by kernel_rfl) (by kernel_rfl) (fun _ _ _ h => h) (Or.inl ⟨by rfl, ?_⟩) hH ?_
  rotate_left
  · intro wz hSw
    (try dsimp only at hSw)
    first | (go_simp; done) | (go_simp; with_reducible rfl)
  try simp only [Act.put, List.setIfInBounds_toArray, List.set_cons_zero, List.set_cons_succ]
  refine wpAnyH_done (by kernel_rfl) ?_ _
  refine NoPanic.normal ?_
  go_wp2_with fail
  go_ret
  exact ⟨rfl, hH.1⟩
set_option maxHeartbeats 4000000 in
theorem kinds_1 (z v g a n i p k t ra rn ri rp rk rt : Int) (w : World) (T : Tab w)
    (cM : ∀ w, Tab w → Calls Tryd.prog 13 #[.agg #[.int .i64 1, .int .i64 z, .int .i64 v, .int .i64 g, .int .i64 a, .int .i64 n, .int .i64 i, .int .i64 p, .int .i64 k, .int .i64 t]] w fun e w' => e = .returned (.bool true) ∧ Below w.heap.size w w')
    (hq : ∀ w, (binOp .eql 27 (.agg #[.int .i64 ra, .int .i64 rn, .int .i64 ri, .int .i64 rp, .int .i64 rk, .int .i64 rt]) (.agg #[.int .i64 0, .int .i64 0, .int .i64 0, .int .i64 0, .int .i64 0, .int .i64 0])).run Tryd.prog w = .ok (.bool false) w)
    (hA : okM 1 z v g ra rn ri rp rk rt = false)
    (hS0 : okM 1 z 0 g a n i p k t = true) :
    Calls Tryd.prog 7 #[.agg #[.int .i64 1, .int .i64 z, .int .i64 v, .int .i64 g, .int .i64 a, .int .i64 n, .int .i64 i, .int .i64 p, .int .i64 k, .int .i64 t], .agg #[.int .i64 ra, .int .i64 rn, .int .i64 ri, .int .i64 rp, .int .i64 rk, .int .i64 rt]] w fun e w' => e = .returned (.bool true) ∧ Below w.heap.size w w' := by
  have hn0 := below_new w (.cells #[.int .i64 1, .int .i64 z, .int .i64 v, .int .i64 g, .int .i64 a, .int .i64 n, .int .i64 i, .int .i64 p, .int .i64 k, .int .i64 t] 29)
  have X0 := Lies.new w [1, z, v, g, a, n, i, p, k, t] 29 (B := w.heap.size) rfl
  have hB := hn0
  have hn1 := below_new (w.alloc (.cells #[.int .i64 1, .int .i64 z, .int .i64 v, .int .i64 g, .int .i64 a, .int .i64 n, .int .i64 i, .int .i64 p, .int .i64 k, .int .i64 t] 29)) (.cells #[.int .i64 ra, .int .i64 rn, .int .i64 ri, .int .i64 rp, .int .i64 rk, .int .i64 rt] 27)
  have X1 := Lies.new (w.alloc (.cells #[.int .i64 1, .int .i64 z, .int .i64 v, .int .i64 g, .int .i64 a, .int .i64 n, .int .i64 i, .int .i64 p, .int .i64 k, .int .i64 t] 29)) [ra, rn, ri, rp, rk, rt] 27 (B := w.heap.size + 1) (by simp)
  replace X0 := X0.later hn1
  replace hB := below_step hB hn1
  clear hn0 hn1
  obtain ⟨x00, x01, x02, x03, x04, x05, x06, x07, x08, x09⟩ := X0.ten
  obtain ⟨x10, x11, x12, x13, x14, x15⟩ := X1.six
  replace T := T.later hB
  go_enter Tryd.func7, Tryd.ntmps7
  go_wp2_with fail
  refine (awake_any _ T).mono ?_
  rintro e w1 ⟨rfl, hb1⟩
  clear x00 x01 x02 x03 x04 x05 x06 x07 x08 x09
  clear x10 x11 x12 x13 x14 x15
  replace X0 := X0.later hb1
  replace X1 := X1.later hb1
  replace T := T.later hb1
  replace hB := below_step hB hb1
  clear hb1
  obtain ⟨x00, x01, x02, x03, x04, x05, x06, x07, x08, x09⟩ := X0.ten
  obtain ⟨x10, x11, x12, x13, x14, x15⟩ := X1.six
  go_wp2_with fail
  refine (cM _ T).mono ?_
  rintro e w2 ⟨rfl, hb2⟩
  clear x00 x01 x02 x03 x04 x05 x06 x07 x08 x09
  clear x10 x11 x12 x13 x14 x15
  replace X0 := X0.later hb2
  replace X1 := X1.later hb2
  replace T := T.later hb2
  replace hB := below_step hB hb2
  clear hb2
  obtain ⟨x00, x01, x02, x03, x04, x05, x06, x07, x08, x09⟩ := X0.ten
  obtain ⟨x10, x11, x12, x13, x14, x15⟩ := X1.six
  have hq0 := below_new w2 (.cells #[.int .i64 1, .int .i64 z, .int .i64 v, .int .i64 g, .int .i64 a, .int .i64 n, .int .i64 i, .int .i64 p, .int .i64 k, .int .i64 t] 29)
  obtain ⟨x0q0, x0q1, x0q2, x0q3, x0q4, x0q5, x0q6, x0q7, x0q8, x0q9⟩ := (X0.later hq0).ten
  obtain ⟨x1q0, x1q1, x1q2, x1q3, x1q4, x1q5⟩ := (X1.later hq0).six
  clear hq0
  have hv0 := below_new w2 (.cells #[.int .i64 1, .int .i64 z, .int .i64 v, .int .i64 g, .int .i64 ra, .int .i64 rn, .int .i64 ri, .int .i64 rp, .int .i64 rk, .int .i64 rt] 29)
  replace X0 := X0.later hv0
  replace X1 := X1.later hv0
  replace T := T.later hv0
  replace hB := below_step hB hv0
  clear hv0
  have V0 := Lies.new w2 [1, z, v, g, ra, rn, ri, rp, rk, rt] 29 (B := w2.heap.size) rfl
  obtain ⟨x00, x01, x02, x03, x04, x05, x06, x07, x08, x09⟩ := X0.ten
  obtain ⟨x10, x11, x12, x13, x14, x15⟩ := X1.six
  obtain ⟨v00, v01, v02, v03, v04, v05, v06, v07, v08, v09⟩ := V0.ten
  have hq1 := below_new (w2.alloc (.cells #[.int .i64 1, .int .i64 z, .int .i64 v, .int .i64 g, .int .i64 ra, .int .i64 rn, .int .i64 ri, .int .i64 rp, .int .i64 rk, .int .i64 rt] 29)) (.cells #[.int .i64 1, .int .i64 z, .int .i64 v, .int .i64 g, .int .i64 a, .int .i64 n, .int .i64 i, .int .i64 p, .int .i64 k, .int .i64 t] 29)
  obtain ⟨x0q0, x0q1, x0q2, x0q3, x0q4, x0q5, x0q6, x0q7, x0q8, x0q9⟩ := (X0.later hq1).ten
  obtain ⟨x1q0, x1q1, x1q2, x1q3, x1q4, x1q5⟩ := (X1.later hq1).six
  obtain ⟨v0q0, v0q1, v0q2, v0q3, v0q4, v0q5, v0q6, v0q7, v0q8, v0q9⟩ := (V0.later hq1).ten
  clear hq1
  have hv1 := below_new (w2.alloc (.cells #[.int .i64 1, .int .i64 z, .int .i64 v, .int .i64 g, .int .i64 ra, .int .i64 rn, .int .i64 ri, .int .i64 rp, .int .i64 rk, .int .i64 rt] 29)) (.cells #[.int .i64 1, .int .i64 z, .int .i64 v, .int .i64 7, .int .i64 a, .int .i64 n, .int .i64 i, .int .i64 p, .int .i64 k, .int .i64 t] 29)
  replace X0 := X0.later hv1
  replace X1 := X1.later hv1
  replace V0 := V0.later hv1
  replace T := T.later hv1
  replace hB := below_step hB hv1
  clear hv1
  have V1 := Lies.new (w2.alloc (.cells #[.int .i64 1, .int .i64 z, .int .i64 v, .int .i64 g, .int .i64 ra, .int .i64 rn, .int .i64 ri, .int .i64 rp, .int .i64 rk, .int .i64 rt] 29)) [1, z, v, 7, a, n, i, p, k, t] 29 (B := w2.heap.size + 1) (by simp)
  obtain ⟨x00, x01, x02, x03, x04, x05, x06, x07, x08, x09⟩ := X0.ten
  obtain ⟨x10, x11, x12, x13, x14, x15⟩ := X1.six
  obtain ⟨v00, v01, v02, v03, v04, v05, v06, v07, v08, v09⟩ := V0.ten
  obtain ⟨v10, v11, v12, v13, v14, v15, v16, v17, v18, v19⟩ := V1.ten
  have hq2 := below_new ((w2.alloc (.cells #[.int .i64 1, .int .i64 z, .int .i64 v, .int .i64 g, .int .i64 ra, .int .i64 rn, .int .i64 ri, .int .i64 rp, .int .i64 rk, .int .i64 rt] 29)).alloc (.cells #[.int .i64 1, .int .i64 z, .int .i64 v, .int .i64 7, .int .i64 a, .int .i64 n, .int .i64 i, .int .i64 p, .int .i64 k, .int .i64 t] 29)) (.cells #[.int .i64 1, .int .i64 z, .int .i64 v, .int .i64 g, .int .i64 a, .int .i64 n, .int .i64 i, .int .i64 p, .int .i64 k, .int .i64 t] 29)
  obtain ⟨x0q0, x0q1, x0q2, x0q3, x0q4, x0q5, x0q6, x0q7, x0q8, x0q9⟩ := (X0.later hq2).ten
  obtain ⟨x1q0, x1q1, x1q2, x1q3, x1q4, x1q5⟩ := (X1.later hq2).six
  obtain ⟨v0q0, v0q1, v0q2, v0q3, v0q4, v0q5, v0q6, v0q7, v0q8, v0q9⟩ := (V0.later hq2).ten
  obtain ⟨v1q0, v1q1, v1q2, v1q3, v1q4, v1q5, v1q6, v1q7, v1q8, v1q9⟩ := (V1.later hq2).ten
  clear hq2
  have hv2 := below_new ((w2.alloc (.cells #[.int .i64 1, .int .i64 z, .int .i64 v, .int .i64 g, .int .i64 ra, .int .i64 rn, .int .i64 ri, .int .i64 rp, .int .i64 rk, .int .i64 rt] 29)).alloc (.cells #[.int .i64 1, .int .i64 z, .int .i64 v, .int .i64 7, .int .i64 a, .int .i64 n, .int .i64 i, .int .i64 p, .int .i64 k, .int .i64 t] 29)) (.cells #[.int .i64 1, .int .i64 z, .int .i64 0, .int .i64 g, .int .i64 a, .int .i64 n, .int .i64 i, .int .i64 p, .int .i64 k, .int .i64 t] 29)
  replace X0 := X0.later hv2
  replace X1 := X1.later hv2
  replace V0 := V0.later hv2
  replace V1 := V1.later hv2
  replace T := T.later hv2
  replace hB := below_step hB hv2
  clear hv2
  have V2 := Lies.new ((w2.alloc (.cells #[.int .i64 1, .int .i64 z, .int .i64 v, .int .i64 g, .int .i64 ra, .int .i64 rn, .int .i64 ri, .int .i64 rp, .int .i64 rk, .int .i64 rt] 29)).alloc (.cells #[.int .i64 1, .int .i64 z, .int .i64 v, .int .i64 7, .int .i64 a, .int .i64 n, .int .i64 i, .int .i64 p, .int .i64 k, .int .i64 t] 29)) [1, z, 0, g, a, n, i, p, k, t] 29 (B := w2.heap.size + 1 + 1) (by simp)
  obtain ⟨x00, x01, x02, x03, x04, x05, x06, x07, x08, x09⟩ := X0.ten
  obtain ⟨x10, x11, x12, x13, x14, x15⟩ := X1.six
  obtain ⟨v00, v01, v02, v03, v04, v05, v06, v07, v08, v09⟩ := V0.ten
  obtain ⟨v10, v11, v12, v13, v14, v15, v16, v17, v18, v19⟩ := V1.ten
  obtain ⟨v20, v21, v22, v23, v24, v25, v26, v27, v28, v29⟩ := V2.ten
  have S0 : Below w.heap.size w (((w2.alloc (.cells #[.int .i64 1, .int .i64 z, .int .i64 v, .int .i64 g, .int .i64 ra, .int .i64 rn, .int .i64 ri, .int .i64 rp, .int .i64 rk, .int .i64 rt] 29)).alloc (.cells #[.int .i64 1, .int .i64 z, .int .i64 v, .int .i64 7, .int .i64 a, .int .i64 n, .int .i64 i, .int .i64 p, .int .i64 k, .int .i64 t] 29)).alloc (.cells #[.int .i64 1, .int .i64 z, .int .i64 0, .int .i64 g, .int .i64 a, .int .i64 n, .int .i64 i, .int .i64 p, .int .i64 k, .int .i64 t] 29)).drew ∧ Tab (((w2.alloc (.cells #[.int .i64 1, .int .i64 z, .int .i64 v, .int .i64 g, .int .i64 ra, .int .i64 rn, .int .i64 ri, .int .i64 rp, .int .i64 rk, .int .i64 rt] 29)).alloc (.cells #[.int .i64 1, .int .i64 z, .int .i64 v, .int .i64 7, .int .i64 a, .int .i64 n, .int .i64 i, .int .i64 p, .int .i64 k, .int .i64 t] 29)).alloc (.cells #[.int .i64 1, .int .i64 z, .int .i64 0, .int .i64 g, .int .i64 a, .int .i64 n, .int .i64 i, .int .i64 p, .int .i64 k, .int .i64 t] 29)).drew ∧ w.heap.size < (((w2.alloc (.cells #[.int .i64 1, .int .i64 z, .int .i64 v, .int .i64 g, .int .i64 ra, .int .i64 rn, .int .i64 ri, .int .i64 rp, .int .i64 rk, .int .i64 rt] 29)).alloc (.cells #[.int .i64 1, .int .i64 z, .int .i64 v, .int .i64 7, .int .i64 a, .int .i64 n, .int .i64 i, .int .i64 p, .int .i64 k, .int .i64 t] 29)).alloc (.cells #[.int .i64 1, .int .i64 z, .int .i64 0, .int .i64 g, .int .i64 a, .int .i64 n, .int .i64 i, .int .i64 p, .int .i64 k, .int .i64 t] 29)).drew.heap.size ∧ w2.heap.size < (((w2.alloc (.cells #[.int .i64 1, .int .i64 z, .int .i64 v, .int .i64 g, .int .i64 ra, .int .i64 rn, .int .i64 ri, .int .i64 rp, .int .i64 rk, .int .i64 rt] 29)).alloc (.cells #[.int .i64 1, .int .i64 z, .int .i64 v, .int .i64 7, .int .i64 a, .int .i64 n, .int .i64 i, .int .i64 p, .int .i64 k, .int .i64 t] 29)).alloc (.cells #[.int .i64 1, .int .i64 z, .int .i64 0, .int .i64 g, .int .i64 a, .int .i64 n, .int .i64 i, .int .i64 p, .int .i64 k, .int .i64 t] 29)).drew.heap.size ∧ w2.heap.size + 1 < (((w2.alloc (.cells #[.int .i64 1, .int .i64 z, .int .i64 v, .int .i64 g, .int .i64 ra, .int .i64 rn, .int .i64 ri, .int .i64 rp, .int .i64 rk, .int .i64 rt] 29)).alloc (.cells #[.int .i64 1, .int .i64 z, .int .i64 v, .int .i64 7, .int .i64 a, .int .i64 n, .int .i64 i, .int .i64 p, .int .i64 k, .int .i64 t] 29)).alloc (.cells #[.int .i64 1, .int .i64 z, .int .i64 0, .int .i64 g, .int .i64 a, .int .i64 n, .int .i64 i, .int .i64 p, .int .i64 k, .int .i64 t] 29)).drew.heap.size ∧ w2.heap.size + 1 + 1 < (((w2.alloc (.cells #[.int .i64 1, .int .i64 z, .int .i64 v, .int .i64 g, .int .i64 ra, .int .i64 rn, .int .i64 ri, .int .i64 rp, .int .i64 rk, .int .i64 rt] 29)).alloc (.cells #[.int .i64 1, .int .i64 z, .int .i64 v, .int .i64 7, .int .i64 a, .int .i64 n, .int .i64 i, .int .i64 p, .int .i64 k, .int .i64 t] 29)).alloc (.cells #[.int .i64 1, .int .i64 z, .int .i64 0, .int .i64 g, .int .i64 a, .int .i64 n, .int .i64 i, .int .i64 p, .int .i64 k, .int .i64 t] 29)).drew.heap.size ∧ (((w2.alloc (.cells #[.int .i64 1, .int .i64 z, .int .i64 v, .int .i64 g, .int .i64 ra, .int .i64 rn, .int .i64 ri, .int .i64 rp, .int .i64 rk, .int .i64 rt] 29)).alloc (.cells #[.int .i64 1, .int .i64 z, .int .i64 v, .int .i64 7, .int .i64 a, .int .i64 n, .int .i64 i, .int .i64 p, .int .i64 k, .int .i64 t] 29)).alloc (.cells #[.int .i64 1, .int .i64 z, .int .i64 0, .int .i64 g, .int .i64 a, .int .i64 n, .int .i64 i, .int .i64 p, .int .i64 k, .int .i64 t] 29)).drew.cell? ⟨w.heap.size, 0, none⟩ = some (.int .i64 1) ∧ (((w2.alloc (.cells #[.int .i64 1, .int .i64 z, .int .i64 v, .int .i64 g, .int .i64 ra, .int .i64 rn, .int .i64 ri, .int .i64 rp, .int .i64 rk, .int .i64 rt] 29)).alloc (.cells #[.int .i64 1, .int .i64 z, .int .i64 v, .int .i64 7, .int .i64 a, .int .i64 n, .int .i64 i, .int .i64 p, .int .i64 k, .int .i64 t] 29)).alloc (.cells #[.int .i64 1, .int .i64 z, .int .i64 0, .int .i64 g, .int .i64 a, .int .i64 n, .int .i64 i, .int .i64 p, .int .i64 k, .int .i64 t] 29)).drew.cell? ⟨w2.heap.size, 0, none⟩ = some (.int .i64 1) ∧ (((w2.alloc (.cells #[.int .i64 1, .int .i64 z, .int .i64 v, .int .i64 g, .int .i64 ra, .int .i64 rn, .int .i64 ri, .int .i64 rp, .int .i64 rk, .int .i64 rt] 29)).alloc (.cells #[.int .i64 1, .int .i64 z, .int .i64 v, .int .i64 7, .int .i64 a, .int .i64 n, .int .i64 i, .int .i64 p, .int .i64 k, .int .i64 t] 29)).alloc (.cells #[.int .i64 1, .int .i64 z, .int .i64 0, .int .i64 g, .int .i64 a, .int .i64 n, .int .i64 i, .int .i64 p, .int .i64 k, .int .i64 t] 29)).drew.cell? ⟨w2.heap.size, 1, none⟩ = some (.int .i64 z) ∧ (((w2.alloc (.cells #[.int .i64 1, .int .i64 z, .int .i64 v, .int .i64 g, .int .i64 ra, .int .i64 rn, .int .i64 ri, .int .i64 rp, .int .i64 rk, .int .i64 rt] 29)).alloc (.cells #[.int .i64 1, .int .i64 z, .int .i64 v, .int .i64 7, .int .i64 a, .int .i64 n, .int .i64 i, .int .i64 p, .int .i64 k, .int .i64 t] 29)).alloc (.cells #[.int .i64 1, .int .i64 z, .int .i64 0, .int .i64 g, .int .i64 a, .int .i64 n, .int .i64 i, .int .i64 p, .int .i64 k, .int .i64 t] 29)).drew.cell? ⟨w2.heap.size, 2, none⟩ = some (.int .i64 v) ∧ (((w2.alloc (.cells #[.int .i64 1, .int .i64 z, .int .i64 v, .int .i64 g, .int .i64 ra, .int .i64 rn, .int .i64 ri, .int .i64 rp, .int .i64 rk, .int .i64 rt] 29)).alloc (.cells #[.int .i64 1, .int .i64 z, .int .i64 v, .int .i64 7, .int .i64 a, .int .i64 n, .int .i64 i, .int .i64 p, .int .i64 k, .int .i64 t] 29)).alloc (.cells #[.int .i64 1, .int .i64 z, .int .i64 0, .int .i64 g, .int .i64 a, .int .i64 n, .int .i64 i, .int .i64 p, .int .i64 k, .int .i64 t] 29)).drew.cell? ⟨w2.heap.size, 3, none⟩ = some (.int .i64 g) ∧ (((w2.alloc (.cells #[.int .i64 1, .int .i64 z, .int .i64 v, .int .i64 g, .int .i64 ra, .int .i64 rn, .int .i64 ri, .int .i64 rp, .int .i64 rk, .int .i64 rt] 29)).alloc (.cells #[.int .i64 1, .int .i64 z, .int .i64 v, .int .i64 7, .int .i64 a, .int .i64 n, .int .i64 i, .int .i64 p, .int .i64 k, .int .i64 t] 29)).alloc (.cells #[.int .i64 1, .int .i64 z, .int .i64 0, .int .i64 g, .int .i64 a, .int .i64 n, .int .i64 i, .int .i64 p, .int .i64 k, .int .i64 t] 29)).drew.cell? ⟨w2.heap.size, 4, none⟩ = some (.int .i64 ra) ∧ (((w2.alloc (.cells #[.int .i64 1, .int .i64 z, .int .i64 v, .int .i64 g, .int .i64 ra, .int .i64 rn, .int .i64 ri, .int .i64 rp, .int .i64 rk, .int .i64 rt] 29)).alloc (.cells #[.int .i64 1, .int .i64 z, .int .i64 v, .int .i64 7, .int .i64 a, .int .i64 n, .int .i64 i, .int .i64 p, .int .i64 k, .int .i64 t] 29)).alloc (.cells #[.int .i64 1, .int .i64 z, .int .i64 0, .int .i64 g, .int .i64 a, .int .i64 n, .int .i64 i, .int .i64 p, .int .i64 k, .int .i64 t] 29)).drew.cell? ⟨w2.heap.size, 5, none⟩ = some (.int .i64 rn) ∧ (((w2.alloc (.cells #[.int .i64 1, .int .i64 z, .int .i64 v, .int .i64 g, .int .i64 ra, .int .i64 rn, .int .i64 ri, .int .i64 rp, .int .i64 rk, .int .i64 rt] 29)).alloc (.cells #[.int .i64 1, .int .i64 z, .int .i64 v, .int .i64 7, .int .i64 a, .int .i64 n, .int .i64 i, .int .i64 p, .int .i64 k, .int .i64 t] 29)).alloc (.cells #[.int .i64 1, .int .i64 z, .int .i64 0, .int .i64 g, .int .i64 a, .int .i64 n, .int .i64 i, .int .i64 p, .int .i64 k, .int .i64 t] 29)).drew.cell? ⟨w2.heap.size, 6, none⟩ = some (.int .i64 ri) ∧ (((w2.alloc (.cells #[.int .i64 1, .int .i64 z, .int .i64 v, .int .i64 g, .int .i64 ra, .int .i64 rn, .int .i64 ri, .int .i64 rp, .int .i64 rk, .int .i64 rt] 29)).alloc (.cells #[.int .i64 1, .int .i64 z, .int .i64 v, .int .i64 7, .int .i64 a, .int .i64 n, .int .i64 i, .int .i64 p, .int .i64 k, .int .i64 t] 29)).alloc (.cells #[.int .i64 1, .int .i64 z, .int .i64 0, .int .i64 g, .int .i64 a, .int .i64 n, .int .i64 i, .int .i64 p, .int .i64 k, .int .i64 t] 29)).drew.cell? ⟨w2.heap.size, 7, none⟩ = some (.int .i64 rp) ∧ (((w2.alloc (.cells #[.int .i64 1, .int .i64 z, .int .i64 v, .int .i64 g, .int .i64 ra, .int .i64 rn, .int .i64 ri, .int .i64 rp, .int .i64 rk, .int .i64 rt] 29)).alloc (.cells #[.int .i64 1, .int .i64 z, .int .i64 v, .int .i64 7, .int .i64 a, .int .i64 n, .int .i64 i, .int .i64 p, .int .i64 k, .int .i64 t] 29)).alloc (.cells #[.int .i64 1, .int .i64 z, .int .i64 0, .int .i64 g, .int .i64 a, .int .i64 n, .int .i64 i, .int .i64 p, .int .i64 k, .int .i64 t] 29)).drew.cell? ⟨w2.heap.size, 8, none⟩ = some (.int .i64 rk) ∧ (((w2.alloc (.cells #[.int .i64 1, .int .i64 z, .int .i64 v, .int .i64 g, .int .i64 ra, .int .i64 rn, .int .i64 ri, .int .i64 rp, .int .i64 rk, .int .i64 rt] 29)).alloc (.cells #[.int .i64 1, .int .i64 z, .int .i64 v, .int .i64 7, .int .i64 a, .int .i64 n, .int .i64 i, .int .i64 p, .int .i64 k, .int .i64 t] 29)).alloc (.cells #[.int .i64 1, .int .i64 z, .int .i64 0, .int .i64 g, .int .i64 a, .int .i64 n, .int .i64 i, .int .i64 p, .int .i64 k, .int .i64 t] 29)).drew.cell? ⟨w2.heap.size, 9, none⟩ = some (.int .i64 rt) ∧ (((w2.alloc (.cells #[.int .i64 1, .int .i64 z, .int .i64 v, .int .i64 g, .int .i64 ra, .int .i64 rn, .int .i64 ri, .int .i64 rp, .int .i64 rk, .int .i64 rt] 29)).alloc (.cells #[.int .i64 1, .int .i64 z, .int .i64 v, .int .i64 7, .int .i64 a, .int .i64 n, .int .i64 i, .int .i64 p, .int .i64 k, .int .i64 t] 29)).alloc (.cells #[.int .i64 1, .int .i64 z, .int .i64 0, .int .i64 g, .int .i64 a, .int .i64 n, .int .i64 i, .int .i64 p, .int .i64 k, .int .i64 t] 29)).drew.cell? ⟨w2.heap.size + 1, 0, none⟩ = some (.int .i64 1) ∧ (((w2.alloc (.cells #[.int .i64 1, .int .i64 z, .int .i64 v, .int .i64 g, .int .i64 ra, .int .i64 rn, .int .i64 ri, .int .i64 rp, .int .i64 rk, .int .i64 rt] 29)).alloc (.cells #[.int .i64 1, .int .i64 z, .int .i64 v, .int .i64 7, .int .i64 a, .int .i64 n, .int .i64 i, .int .i64 p, .int .i64 k, .int .i64 t] 29)).alloc (.cells #[.int .i64 1, .int .i64 z, .int .i64 0, .int .i64 g, .int .i64 a, .int .i64 n, .int .i64 i, .int .i64 p, .int .i64 k, .int .i64 t] 29)).drew.cell? ⟨w2.heap.size + 1, 1, none⟩ = some (.int .i64 z) ∧ (((w2.alloc (.cells #[.int .i64 1, .int .i64 z, .int .i64 v, .int .i64 g, .int .i64 ra, .int .i64 rn, .int .i64 ri, .int .i64 rp, .int .i64 rk, .int .i64 rt] 29)).alloc (.cells #[.int .i64 1, .int .i64 z, .int .i64 v, .int .i64 7, .int .i64 a, .int .i64 n, .int .i64 i, .int .i64 p, .int .i64 k, .int .i64 t] 29)).alloc (.cells #[.int .i64 1, .int .i64 z, .int .i64 0, .int .i64 g, .int .i64 a, .int .i64 n, .int .i64 i, .int .i64 p, .int .i64 k, .int .i64 t] 29)).drew.cell? ⟨w2.heap.size + 1, 2, none⟩ = some (.int .i64 v) ∧ (((w2.alloc (.cells #[.int .i64 1, .int .i64 z, .int .i64 v, .int .i64 g, .int .i64 ra, .int .i64 rn, .int .i64 ri, .int .i64 rp, .int .i64 rk, .int .i64 rt] 29)).alloc (.cells #[.int .i64 1, .int .i64 z, .int .i64 v, .int .i64 7, .int .i64 a, .int .i64 n, .int .i64 i, .int .i64 p, .int .i64 k, .int .i64 t] 29)).alloc (.cells #[.int .i64 1, .int .i64 z, .int .i64 0, .int .i64 g, .int .i64 a, .int .i64 n, .int .i64 i, .int .i64 p, .int .i64 k, .int .i64 t] 29)).drew.cell? ⟨w2.heap.size + 1, 3, none⟩ = some (.int .i64 7) ∧ (((w2.alloc (.cells #[.int .i64 1, .int .i64 z, .int .i64 v, .int .i64 g, .int .i64 ra, .int .i64 rn, .int .i64 ri, .int .i64 rp, .int .i64 rk, .int .i64 rt] 29)).alloc (.cells #[.int .i64 1, .int .i64 z, .int .i64 v, .int .i64 7, .int .i64 a, .int .i64 n, .int .i64 i, .int .i64 p, .int .i64 k, .int .i64 t] 29)).alloc (.cells #[.int .i64 1, .int .i64 z, .int .i64 0, .int .i64 g, .int .i64 a, .int .i64 n, .int .i64 i, .int .i64 p, .int .i64 k, .int .i64 t] 29)).drew.cell? ⟨w2.heap.size + 1, 4, none⟩ = some (.int .i64 a) ∧ (((w2.alloc (.cells #[.int .i64 1, .int .i64 z, .int .i64 v, .int .i64 g, .int .i64 ra, .int .i64 rn, .int .i64 ri, .int .i64 rp, .int .i64 rk, .int .i64 rt] 29)).alloc (.cells #[.int .i64 1, .int .i64 z, .int .i64 v, .int .i64 7, .int .i64 a, .int .i64 n, .int .i64 i, .int .i64 p, .int .i64 k, .int .i64 t] 29)).alloc (.cells #[.int .i64 1, .int .i64 z, .int .i64 0, .int .i64 g, .int .i64 a, .int .i64 n, .int .i64 i, .int .i64 p, .int .i64 k, .int .i64 t] 29)).drew.cell? ⟨w2.heap.size + 1, 5, none⟩ = some (.int .i64 n) ∧ (((w2.alloc (.cells #[.int .i64 1, .int .i64 z, .int .i64 v, .int .i64 g, .int .i64 ra, .int .i64 rn, .int .i64 ri, .int .i64 rp, .int .i64 rk, .int .i64 rt] 29)).alloc (.cells #[.int .i64 1, .int .i64 z, .int .i64 v, .int .i64 7, .int .i64 a, .int .i64 n, .int .i64 i, .int .i64 p, .int .i64 k, .int .i64 t] 29)).alloc (.cells #[.int .i64 1, .int .i64 z, .int .i64 0, .int .i64 g, .int .i64 a, .int .i64 n, .int .i64 i, .int .i64 p, .int .i64 k, .int .i64 t] 29)).drew.cell? ⟨w2.heap.size + 1, 6, none⟩ = some (.int .i64 i) ∧ (((w2.alloc (.cells #[.int .i64 1, .int .i64 z, .int .i64 v, .int .i64 g, .int .i64 ra, .int .i64 rn, .int .i64 ri, .int .i64 rp, .int .i64 rk, .int .i64 rt] 29)).alloc (.cells #[.int .i64 1, .int .i64 z, .int .i64 v, .int .i64 7, .int .i64 a, .int .i64 n, .int .i64 i, .int .i64 p, .int .i64 k, .int .i64 t] 29)).alloc (.cells #[.int .i64 1, .int .i64 z, .int .i64 0, .int .i64 g, .int .i64 a, .int .i64 n, .int .i64 i, .int .i64 p, .int .i64 k, .int .i64 t] 29)).drew.cell? ⟨w2.heap.size + 1, 7, none⟩ = some (.int .i64 p) ∧ (((w2.alloc (.cells #[.int .i64 1, .int .i64 z, .int .i64 v, .int .i64 g, .int .i64 ra, .int .i64 rn, .int .i64 ri, .int .i64 rp, .int .i64 rk, .int .i64 rt] 29)).alloc (.cells #[.int .i64 1, .int .i64 z, .int .i64 v, .int .i64 7, .int .i64 a, .int .i64 n, .int .i64 i, .int .i64 p, .int .i64 k, .int .i64 t] 29)).alloc (.cells #[.int .i64 1, .int .i64 z, .int .i64 0, .int .i64 g, .int .i64 a, .int .i64 n, .int .i64 i, .int .i64 p, .int .i64 k, .int .i64 t] 29)).drew.cell? ⟨w2.heap.size + 1, 8, none⟩ = some (.int .i64 k) ∧ (((w2.alloc (.cells #[.int .i64 1, .int .i64 z, .int .i64 v, .int .i64 g, .int .i64 ra, .int .i64 rn, .int .i64 ri, .int .i64 rp, .int .i64 rk, .int .i64 rt] 29)).alloc (.cells #[.int .i64 1, .int .i64 z, .int .i64 v, .int .i64 7, .int .i64 a, .int .i64 n, .int .i64 i, .int .i64 p, .int .i64 k, .int .i64 t] 29)).alloc (.cells #[.int .i64 1, .int .i64 z, .int .i64 0, .int .i64 g, .int .i64 a, .int .i64 n, .int .i64 i, .int .i64 p, .int .i64 k, .int .i64 t] 29)).drew.cell? ⟨w2.heap.size + 1, 9, none⟩ = some (.int .i64 t) ∧ (((w2.alloc (.cells #[.int .i64 1, .int .i64 z, .int .i64 v, .int .i64 g, .int .i64 ra, .int .i64 rn, .int .i64 ri, .int .i64 rp, .int .i64 rk, .int .i64 rt] 29)).alloc (.cells #[.int .i64 1, .int .i64 z, .int .i64 v, .int .i64 7, .int .i64 a, .int .i64 n, .int .i64 i, .int .i64 p, .int .i64 k, .int .i64 t] 29)).alloc (.cells #[.int .i64 1, .int .i64 z, .int .i64 0, .int .i64 g, .int .i64 a, .int .i64 n, .int .i64 i, .int .i64 p, .int .i64 k, .int .i64 t] 29)).drew.cell? ⟨w2.heap.size + 1 + 1, 0, none⟩ = some (.int .i64 1) ∧ (((w2.alloc (.cells #[.int .i64 1, .int .i64 z, .int .i64 v, .int .i64 g, .int .i64 ra, .int .i64 rn, .int .i64 ri, .int .i64 rp, .int .i64 rk, .int .i64 rt] 29)).alloc (.cells #[.int .i64 1, .int .i64 z, .int .i64 v, .int .i64 7, .int .i64 a, .int .i64 n, .int .i64 i, .int .i64 p, .int .i64 k, .int .i64 t] 29)).alloc (.cells #[.int .i64 1, .int .i64 z, .int .i64 0, .int .i64 g, .int .i64 a, .int .i64 n, .int .i64 i, .int .i64 p, .int .i64 k, .int .i64 t] 29)).drew.cell? ⟨w2.heap.size + 1 + 1, 1, none⟩ = some (.int .i64 z) ∧ (((w2.alloc (.cells #[.int .i64 1, .int .i64 z, .int .i64 v, .int .i64 g, .int .i64 ra, .int .i64 rn, .int .i64 ri, .int .i64 rp, .int .i64 rk, .int .i64 rt] 29)).alloc (.cells #[.int .i64 1, .int .i64 z, .int .i64 v, .int .i64 7, .int .i64 a, .int .i64 n, .int .i64 i, .int .i64 p, .int .i64 k, .int .i64 t] 29)).alloc (.cells #[.int .i64 1, .int .i64 z, .int .i64 0, .int .i64 g, .int .i64 a, .int .i64 n, .int .i64 i, .int .i64 p, .int .i64 k, .int .i64 t] 29)).drew.cell? ⟨w2.heap.size + 1 + 1, 2, none⟩ = some (.int .i64 0) ∧ (((w2.alloc (.cells #[.int .i64 1, .int .i64 z, .int .i64 v, .int .i64 g, .int .i64 ra, .int .i64 rn, .int .i64 ri, .int .i64 rp, .int .i64 rk, .int .i64 rt] 29)).alloc (.cells #[.int .i64 1, .int .i64 z, .int .i64 v, .int .i64 7, .int .i64 a, .int .i64 n, .int .i64 i, .int .i64 p, .int .i64 k, .int .i64 t] 29)).alloc (.cells #[.int .i64 1, .int .i64 z, .int .i64 0, .int .i64 g, .int .i64 a, .int .i64 n, .int .i64 i, .int .i64 p, .int .i64 k, .int .i64 t] 29)).drew.cell? ⟨w2.heap.size + 1 + 1, 3, none⟩ = some (.int .i64 g) ∧ (((w2.alloc (.cells #[.int .i64 1, .int .i64 z, .int .i64 v, .int .i64 g, .int .i64 ra, .int .i64 rn, .int .i64 ri, .int .i64 rp, .int .i64 rk, .int .i64 rt] 29)).alloc (.cells #[.int .i64 1, .int .i64 z, .int .i64 v, .int .i64 7, .int .i64 a, .int .i64 n, .int .i64 i, .int .i64 p, .int .i64 k, .int .i64 t] 29)).alloc (.cells #[.int .i64 1, .int .i64 z, .int .i64 0, .int .i64 g, .int .i64 a, .int .i64 n, .int .i64 i, .int .i64 p, .int .i64 k, .int .i64 t] 29)).drew.cell? ⟨w2.heap.size + 1 + 1, 4, none⟩ = some (.int .i64 a) ∧ (((w2.alloc (.cells #[.int .i64 1, .int .i64 z, .int .i64 v, .int .i64 g, .int .i64 ra, .int .i64 rn, .int .i64 ri, .int .i64 rp, .int .i64 rk, .int .i64 rt] 29)).alloc (.cells #[.int .i64 1, .int .i64 z, .int .i64 v, .int .i64 7, .int .i64 a, .int .i64 n, .int .i64 i, .int .i64 p, .int .i64 k, .int .i64 t] 29)).alloc (.cells #[.int .i64 1, .int .i64 z, .int .i64 0, .int .i64 g, .int .i64 a, .int .i64 n, .int .i64 i, .int .i64 p, .int .i64 k, .int .i64 t] 29)).drew.cell? ⟨w2.heap.size + 1 + 1, 5, none⟩ = some (.int .i64 n) ∧ (((w2.alloc (.cells #[.int .i64 1, .int .i64 z, .int .i64 v, .int .i64 g, .int .i64 ra, .int .i64 rn, .int .i64 ri, .int .i64 rp, .int .i64 rk, .int .i64 rt] 29)).alloc (.cells #[.int .i64 1, .int .i64 z, .int .i64 v, .int .i64 7, .int .i64 a, .int .i64 n, .int .i64 i, .int .i64 p, .int .i64 k, .int .i64 t] 29)).alloc (.cells #[.int .i64 1, .int .i64 z, .int .i64 0, .int .i64 g, .int .i64 a, .int .i64 n, .int .i64 i, .int .i64 p, .int .i64 k, .int .i64 t] 29)).drew.cell? ⟨w2.heap.size + 1 + 1, 6, none⟩ = some (.int .i64 i) ∧ (((w2.alloc (.cells #[.int .i64 1, .int .i64 z, .int .i64 v, .int .i64 g, .int .i64 ra, .int .i64 rn, .int .i64 ri, .int .i64 rp, .int .i64 rk, .int .i64 rt] 29)).alloc (.cells #[.int .i64 1, .int .i64 z, .int .i64 v, .int .i64 7, .int .i64 a, .int .i64 n, .int .i64 i, .int .i64 p, .int .i64 k, .int .i64 t] 29)).alloc (.cells #[.int .i64 1, .int .i64 z, .int .i64 0, .int .i64 g, .int .i64 a, .int .i64 n, .int .i64 i, .int .i64 p, .int .i64 k, .int .i64 t] 29)).drew.cell? ⟨w2.heap.size + 1 + 1, 7, none⟩ = some (.int .i64 p) ∧ (((w2.alloc (.cells #[.int .i64 1, .int .i64 z, .int .i64 v, .int .i64 g, .int .i64 ra, .int .i64 rn, .int .i64 ri, .int .i64 rp, .int .i64 rk, .int .i64 rt] 29)).alloc (.cells #[.int .i64 1, .int .i64 z, .int .i64 v, .int .i64 7, .int .i64 a, .int .i64 n, .int .i64 i, .int .i64 p, .int .i64 k, .int .i64 t] 29)).alloc (.cells #[.int .i64 1, .int .i64 z, .int .i64 0, .int .i64 g, .int .i64 a, .int .i64 n, .int .i64 i, .int .i64 p, .int .i64 k, .int .i64 t] 29)).drew.cell? ⟨w2.heap.size + 1 + 1, 8, none⟩ = some (.int .i64 k) ∧ (((w2.alloc (.cells #[.int .i64 1, .int .i64 z, .int .i64 v, .int .i64 g, .int .i64 ra, .int .i64 rn, .int .i64 ri, .int .i64 rp, .int .i64 rk, .int .i64 rt] 29)).alloc (.cells #[.int .i64 1, .int .i64 z, .int .i64 v, .int .i64 7, .int .i64 a, .int .i64 n, .int .i64 i, .int .i64 p, .int .i64 k, .int .i64 t] 29)).alloc (.cells #[.int .i64 1, .int .i64 z, .int .i64 0, .int .i64 g, .int .i64 a, .int .i64 n, .int .i64 i, .int .i64 p, .int .i64 k, .int .i64 t] 29)).drew.cell? ⟨w2.heap.size + 1 + 1, 9, none⟩ = some (.int .i64 t) := ⟨hB.drew, T.later (Below.refl _ _).drew, X0.lt, V0.lt, V1.lt, V2.lt, x00, v00, v01, v02, v03, v04, v05, v06, v07, v08, v09, v10, v11, v12, v13, v14, v15, v16, v17, v18, v19, v20, v21, v22, v23, v24, v25, v26, v27, v28, v29⟩
  clear X0 X1 V0 V1 V2
  go_wp2_with fail
  refine wp_region_noPanic ?_
  refine wp_region_held_drew (S := fun w' => Below w.heap.size w w' ∧ Tab w' ∧ w.heap.size < w'.heap.size ∧ w2.heap.size < w'.heap.size ∧ w2.heap.size + 1 < w'.heap.size ∧ w2.heap.size + 1 + 1 < w'.heap.size ∧ w'.cell? ⟨w.heap.size, 0, none⟩ = some (.int .i64 1) ∧ w'.cell? ⟨w2.heap.size, 0, none⟩ = some (.int .i64 1) ∧ w'.cell? ⟨w2.heap.size, 1, none⟩ = some (.int .i64 z) ∧ w'.cell? ⟨w2.heap.size, 2, none⟩ = some (.int .i64 v) ∧ w'.cell? ⟨w2.heap.size, 3, none⟩ = some (.int .i64 g) ∧ w'.cell? ⟨w2.heap.size, 4, none⟩ = some (.int .i64 ra) ∧ w'.cell? ⟨w2.heap.size, 5, none⟩ = some (.int .i64 rn) ∧ w'.cell? ⟨w2.heap.size, 6, none⟩ = some (.int .i64 ri) ∧ w'.cell? ⟨w2.heap.size, 7, none⟩ = some (.int .i64 rp) ∧ w'.cell? ⟨w2.heap.size, 8, none⟩ = some (.int .i64 rk) ∧ w'.cell? ⟨w2.heap.size, 9, none⟩ = some (.int .i64 rt) ∧ w'.cell? ⟨w2.heap.size + 1, 0, none⟩ = some (.int .i64 1) ∧ w'.cell? ⟨w2.heap.size + 1, 1, none⟩ = some (.int .i64 z) ∧ w'.cell? ⟨w2.heap.size + 1, 2, none⟩ = some (.int .i64 v) ∧ w'.cell? ⟨w2.heap.size + 1, 3, none⟩ = some (.int .i64 7) ∧ w'.cell? ⟨w2.heap.size + 1, 4, none⟩ = some (.int .i64 a) ∧ w'.cell? ⟨w2.heap.size + 1, 5, none⟩ = some (.int .i64 n) ∧ w'.cell? ⟨w2.heap.size + 1, 6, none⟩ = some (.int .i64 i) ∧ w'.cell? ⟨w2.heap.size + 1, 7, none⟩ = some (.int .i64 p) ∧ w'.cell? ⟨w2.heap.size + 1, 8, none⟩ = some (.int .i64 k) ∧ w'.cell? ⟨w2.heap.size + 1, 9, none⟩ = some (.int .i64 t) ∧ w'.cell? ⟨w2.heap.size + 1 + 1, 0, none⟩ = some (.int .i64 1) ∧ w'.cell? ⟨w2.heap.size + 1 + 1, 1, none⟩ = some (.int .i64 z) ∧ w'.cell? ⟨w2.heap.size + 1 + 1, 2, none⟩ = some (.int .i64 0) ∧ w'.cell? ⟨w2.heap.size + 1 + 1, 3, none⟩ = some (.int .i64 g) ∧ w'.cell? ⟨w2.heap.size + 1 + 1, 4, none⟩ = some (.int .i64 a) ∧ w'.cell? ⟨w2.heap.size + 1 + 1, 5, none⟩ = some (.int .i64 n) ∧ w'.cell? ⟨w2.heap.size + 1 + 1, 6, none⟩ = some (.int .i64 i) ∧ w'.cell? ⟨w2.heap.size + 1 + 1, 7, none⟩ = some (.int .i64 p) ∧ w'.cell? ⟨w2.heap.size + 1 + 1, 8, none⟩ = some (.int .i64 k) ∧ w'.cell? ⟨w2.heap.size + 1 + 1, 9, none⟩ = some (.int .i64 t)) (by kernel_rfl) S0 (fun hH => ?_)
  clear S0
  clear hB x00 x01 x02 x03 x04 x05 x06 x07 x08 x09 x10 x11 x12 x13 x14 x15 v00 v01 v02 v03 v04 v05 v06 v07 v08 v09 v10 v11 v12 v13 v14 v15 v16 v17 v18 v19 v20 v21 v22 v23 v24 v25 v26 v27 v28 v29
  refine wpAnyH_take (i := 0) (oi := { dst := some 30, op := _, type := _, pos := _, after := _, guard := _ }) (v := ?_) rfl (by kernel_rfl) (by kernel_rfl) (by kernel_rfl) (fun _ _ _ h => h) (Or.inl ⟨by rfl, ?_⟩) hH ?_
  rotate_left
  · intro wz hSw
    (try dsimp only at hSw)
    first | (go_simp; done) | (go_simp; with_reducible rfl)
  try simp only [Act.put, List.setIfInBounds_toArray, List.set_cons_zero, List.set_cons_succ]
  refine wpAnyH_take (i := 1) (oi := { dst := some 31, op := _, type := _, pos := _, after := _, guard := _ }) (v := ?_) rfl (by kernel_rfl) (by kernel_rfl) (by kernel_rfl) (fun _ _ _ h => h) (Or.inl ⟨by rfl, ?_⟩) hH ?_
  rotate_left
  · intro wz hSw
    (try dsimp only at hSw)
    first | (go_simp; done) | (go_simp; with_reducible rfl)
  try simp only [Act.put, List.setIfInBounds_toArray, List.set_cons_zero, List.set_cons_succ]
  refine wpAnyH_take (i := 2) (oi := { dst := some 32, op := _, type := _, pos := _, after := _, guard := _ }) (v := ?_) rfl (by kernel_rfl) (by kernel_rfl) (by kernel_rfl) (fun _ _ _ h => h) (Or.inl ⟨by rfl, ?_⟩) hH ?_
  rotate_left
  · intro wz hSw
    (try dsimp only at hSw)
    first | (go_simp; done) | (go_simp; with_reducible rfl)
  try simp only [Act.put, List.setIfInBounds_toArray, List.set_cons_zero, List.set_cons_succ]
  refine wpAnyH_take (i := 3) (oi := { dst := some 33, op := _, type := _, pos := _, after := _, guard := _ }) (v := ?_) rfl (by kernel_rfl) (by kernel_rfl) (by kernel_rfl) (fun _ _ _ h => h) (Or.inl ⟨by rfl, ?_⟩) hH ?_
  rotate_left
  · intro wz hSw
    (try dsimp only at hSw)
    first | (go_simp; done) | (go_simp; with_reducible rfl)
  try simp only [Act.put, List.setIfInBounds_toArray, List.set_cons_zero, List.set_cons_succ]
  refine wpAnyH_take (i := 4) (oi := { dst := some 34, op := _, type := _, pos := _, after := _, guard := _ }) (v := ?_) rfl (by kernel_rfl) (by kernel_rfl) (by kernel_rfl) (fun _ _ _ h => h) (Or.inl ⟨by rfl, ?_⟩) hH ?_
  rotate_left
  · intro wz hSw
    (try dsimp only at hSw)
    first | (go_simp; done) | (go_simp; with_reducible rfl)
  try simp only [Act.put, List.setIfInBounds_toArray, List.set_cons_zero, List.set_cons_succ]
  refine wpAnyH_ready (rs := [5]) (by kernel_rfl) (by simp) ?_
  refine AllReadyH.cons (o := { dst := some 35, op := _, type := _, pos := _, after := _, guard := _ }) rfl (fun K hK => ?_) AllReadyH.nil
  go_simp
  refine (mMay_any 1 z v g ra rn ri rp rk rt _ hH.2.1).mono ?_
  rw [hA]
  rintro e wq5 ⟨rfl, hbq⟩
  go_wp2_with fail
  refine hK.out _ _ (kept_kinds hH hbq) (fun hH2 => ?_)
  clear hK K hH hbq
  have hH := hH2
  clear hH2
  try simp only [Act.put, List.setIfInBounds_toArray, List.set_cons_zero, List.set_cons_succ]
  refine wpAnyH_take (i := 6) (oi := { dst := some 36, op := _, type := _, pos := _, after := _, guard := _ }) (v := ?_) rfl (by kernel_rfl) (by kernel_rfl) (by kernel_rfl) (fun _ _ _ h => h) (Or.inl ⟨by rfl, ?_⟩) hH ?_
  rotate_left
  · intro wz hSw
    (try dsimp only at hSw)
    first | (go_simp; done) | (go_simp; with_reducible rfl)
  try simp only [Act.put, List.setIfInBounds_toArray, List.set_cons_zero, List.set_cons_succ]
  refine wpAnyH_take (i := 7) (oi := { dst := some 37, op := _, type := _, pos := _, after := _, guard := _ }) (v := ?_) rfl (by kernel_rfl) (by kernel_rfl) (by kernel_rfl) (fun _ _ _ h => h) (Or.inl ⟨by rfl, ?_⟩) hH ?_
  rotate_left
  · intro wz hSw
    (try dsimp only at hSw)
    first | (go_simp; done) | (go_simp; with_reducible rfl)
  try simp only [Act.put, List.setIfInBounds_toArray, List.set_cons_zero, List.set_cons_succ]
  refine wpAnyH_take (i := 8) (oi := { dst := some 38, op := _, type := _, pos := _, after := _, guard := _ }) (v := ?_) rfl (by kernel_rfl) (by kernel_rfl) (by kernel_rfl) (fun _ _ _ h => h) (Or.inl ⟨by rfl, ?_⟩) hH ?_
  rotate_left
  · intro wz hSw
    (try dsimp only at hSw)
    first | (go_simp; done) | (go_simp; with_reducible rfl)
  try simp only [Act.put, List.setIfInBounds_toArray, List.set_cons_zero, List.set_cons_succ]
  refine wpAnyH_take (i := 9) (oi := { dst := some 39, op := _, type := _, pos := _, after := _, guard := _ }) (v := ?_) rfl (by kernel_rfl) (by kernel_rfl) (by kernel_rfl) (fun _ _ _ h => h) (Or.inl ⟨by rfl, ?_⟩) hH ?_
  rotate_left
  · intro wz hSw
    (try dsimp only at hSw)
    first | (go_simp; done) | (go_simp; with_reducible rfl)
  try simp only [Act.put, List.setIfInBounds_toArray, List.set_cons_zero, List.set_cons_succ]
  refine wpAnyH_take (i := 10) (oi := { dst := some 40, op := _, type := _, pos := _, after := _, guard := _ }) (v := ?_) rfl (by kernel_rfl) (by kernel_rfl) (by kernel_rfl) (fun _ _ _ h => h) (Or.inl ⟨by rfl, ?_⟩) hH ?_
  rotate_left
  · intro wz hSw
    (try dsimp only at hSw)
    first | (go_simp; done) | (go_simp; with_reducible rfl)
  try simp only [Act.put, List.setIfInBounds_toArray, List.set_cons_zero, List.set_cons_succ]
  refine wpAnyH_take (i := 11) (oi := { dst := some 41, op := _, type := _, pos := _, after := _, guard := _ }) (v := ?_) rfl (by kernel_rfl) (by kernel_rfl) (by kernel_rfl) (fun _ _ _ h => h) (Or.inl ⟨by rfl, ?_⟩) hH ?_
  rotate_left
  · intro wz hSw
    (try dsimp only at hSw)
    first | (go_simp; done) | (go_simp; with_reducible rfl)
  try simp only [Act.put, List.setIfInBounds_toArray, List.set_cons_zero, List.set_cons_succ]
  refine wpAnyH_take (i := 12) (oi := { dst := some 42, op := _, type := _, pos := _, after := _, guard := _ }) (v := ?_) rfl (by kernel_rfl) (by kernel_rfl) (by kernel_rfl) (fun _ _ _ h => h) (Or.inl ⟨by rfl, ?_⟩) hH ?_
  rotate_left
  · intro wz hSw
    (try dsimp only at hSw)
    first | (go_simp; done) | (go_simp; with_reducible rfl)
  try simp only [Act.put, List.setIfInBounds_toArray, List.set_cons_zero, List.set_cons_succ]
  refine wpAnyH_take (i := 13) (oi := { dst := some 43, op := _, type := _, pos := _, after := _, guard := _ }) (v := ?_) rfl (by kernel_rfl) (by kernel_rfl) (by kernel_rfl) (fun _ _ _ h => h) (Or.inl ⟨by rfl, ?_⟩) hH ?_
  rotate_left
  · intro wz hSw
    (try dsimp only at hSw)
    first | (go_simp; done) | (go_simp; with_reducible rfl)
  try simp only [Act.put, List.setIfInBounds_toArray, List.set_cons_zero, List.set_cons_succ]
  refine wpAnyH_take (i := 14) (oi := { dst := some 44, op := _, type := _, pos := _, after := _, guard := _ }) (v := ?_) rfl (by kernel_rfl) (by kernel_rfl) (by kernel_rfl) (fun _ _ _ h => h) (Or.inl ⟨by rfl, ?_⟩) hH ?_
  rotate_left
  · intro wz hSw
    (try dsimp only at hSw)
    first | (go_simp; done) | (go_simp; with_reducible rfl)
  try simp only [Act.put, List.setIfInBounds_toArray, List.set_cons_zero, List.set_cons_succ]
  refine wpAnyH_take (i := 15) (oi := { dst := some 45, op := _, type := _, pos := _, after := _, guard := _ }) (v := ?_) rfl (by kernel_rfl) (by kernel_rfl) (by kernel_rfl) (fun _ _ _ h => h) (Or.inl ⟨by rfl, ?_⟩) hH ?_
  rotate_left
  · intro wz hSw
    (try dsimp only at hSw)
    first | (go_simp; done) | (go_simp; with_reducible rfl)
  try simp only [Act.put, List.setIfInBounds_toArray, List.set_cons_zero, List.set_cons_succ]
  refine wpAnyH_take (i := 16) (oi := { dst := some 46, op := _, type := _, pos := _, after := _, guard := _ }) (v := ?_) rfl (by kernel_rfl) (by kernel_rfl) (by kernel_rfl) (fun _ _ _ h => h) (Or.inl ⟨by rfl, ?_⟩) hH ?_
  rotate_left
  · intro wz hSw
    (try dsimp only at hSw)
    first | (go_simp; done) | (go_simp; with_reducible rfl)
  try simp only [Act.put, List.setIfInBounds_toArray, List.set_cons_zero, List.set_cons_succ]
  refine wpAnyH_take (i := 17) (oi := { dst := some 47, op := _, type := _, pos := _, after := _, guard := _ }) (v := ?_) rfl (by kernel_rfl) (by kernel_rfl) (by kernel_rfl) (fun _ _ _ h => h) (Or.inl ⟨by rfl, ?_⟩) hH ?_
  rotate_left
  · intro wz hSw
    (try dsimp only at hSw)
    first | (go_simp; done) | (go_simp; with_reducible rfl)
  try simp only [Act.put, List.setIfInBounds_toArray, List.set_cons_zero, List.set_cons_succ]
  refine wpAnyH_take (i := 18) (oi := { dst := some 48, op := _, type := _, pos := _, after := _, guard := _ }) (v := undef) rfl (by kernel_rfl) (by kernel_rfl) (by kernel_rfl) (fun _ _ _ h => h) (Or.inr ⟨by rfl, rfl⟩) hH ?_
  try simp only [Act.put, List.setIfInBounds_toArray, List.set_cons_zero, List.set_cons_succ]
  refine wpAnyH_ready (rs := [19]) (by kernel_rfl) (by simp) ?_
  refine allReady_pass (o := { dst := some 49, op := _, type := _, pos := _, after := _, guard := _ }) rfl (by rfl) hH ?_ AllReadyH.nil
  try simp only [Act.put, List.setIfInBounds_toArray, List.set_cons_zero, List.set_cons_succ]
  refine wpAnyH_take (i := 20) (oi := { dst := some 50, op := _, type := _, pos := _, after := _, guard := _ }) (v := undef) rfl (by kernel_rfl) (by kernel_rfl) (by kernel_rfl) (fun _ _ _ h => h) (Or.inr ⟨by rfl, rfl⟩) hH ?_
  try simp only [Act.put, List.setIfInBounds_toArray, List.set_cons_zero, List.set_cons_succ]
  refine wpAnyH_take (i := 21) (oi := { dst := some 51, op := _, type := _, pos := _, after := _, guard := _ }) (v := ?_) rfl (by kernel_rfl) (by kernel_rfl) (by kernel_rfl) (fun _ _ _ h => h) (Or.inl ⟨by rfl, ?_⟩) hH ?_
  rotate_left
  · intro wz hSw
    (try dsimp only at hSw)
    first | (go_simp; done) | (go_simp; with_reducible rfl)
  try simp only [Act.put, List.setIfInBounds_toArray, List.set_cons_zero, List.set_cons_succ]
  refine wpAnyH_take (i := 22) (oi := { dst := some 52, op := _, type := _, pos := _, after := _, guard := _ }) (v := ?_) rfl (by kernel_rfl) (by kernel_rfl) (by kernel_rfl) (fun _ _ _ h => h) (Or.inl ⟨by rfl, ?_⟩) hH ?_
  rotate_left
  · intro wz hSw
    (try dsimp only at hSw)
    first | (go_simp; done) | (go_simp; with_reducible rfl)
  try simp only [Act.put, List.setIfInBounds_toArray, List.set_cons_zero, List.set_cons_succ]
  refine wpAnyH_take (i := 23) (oi := { dst := some 53, op := _, type := _, pos := _, after := _, guard := _ }) (v := ?_) rfl (by kernel_rfl) (by kernel_rfl) (by kernel_rfl) (fun _ _ _ h => h) (Or.inl ⟨by rfl, ?_⟩) hH ?_
  rotate_left
  · intro wz hSw
    (try dsimp only at hSw)
    first | (go_simp; done) | (go_simp; with_reducible rfl)
  try simp only [Act.put, List.setIfInBounds_toArray, List.set_cons_zero, List.set_cons_succ]
  refine wpAnyH_take (i := 24) (oi := { dst := some 54, op := _, type := _, pos := _, after := _, guard := _ }) (v := ?_) rfl (by kernel_rfl) (by kernel_rfl) (by kernel_rfl) (fun _ _ _ h => h) (Or.inl ⟨by rfl, ?_⟩) hH ?_
  rotate_left
  · intro wz hSw
    (try dsimp only at hSw)
    first | (go_simp; done) | (go_simp; with_reducible rfl)
  try simp only [Act.put, List.setIfInBounds_toArray, List.set_cons_zero, List.set_cons_succ]
  refine wpAnyH_take (i := 26) (oi := { dst := some 56, op := _, type := _, pos := _, after := _, guard := _ }) (v := ?_) rfl (by kernel_rfl) (by kernel_rfl) (by kernel_rfl) (fun _ _ _ h => h) (Or.inl ⟨by rfl, ?_⟩) hH ?_
  rotate_left
  · intro wz hSw
    (try dsimp only at hSw)
    first | (go_simp; done) | (go_simp; with_reducible rfl)
  try simp only [Act.put, List.setIfInBounds_toArray, List.set_cons_zero, List.set_cons_succ]
  refine wpAnyH_take (i := 27) (oi := { dst := some 57, op := _, type := _, pos := _, after := _, guard := _ }) (v := ?_) rfl (by kernel_rfl) (by kernel_rfl) (by kernel_rfl) (fun _ _ _ h => h) (Or.inl ⟨by rfl, ?_⟩) hH ?_
  rotate_left
  · intro wz hSw
    (try dsimp only at hSw)
    first | (go_simp; done) | (go_simp; with_reducible rfl)
  try simp only [Act.put, List.setIfInBounds_toArray, List.set_cons_zero, List.set_cons_succ]
  refine wpAnyH_take (i := 28) (oi := { dst := some 58, op := _, type := _, pos := _, after := _, guard := _ }) (v := ?_) rfl (by kernel_rfl) (by kernel_rfl) (by kernel_rfl) (fun _ _ _ h => h) (Or.inl ⟨by rfl, ?_⟩) hH ?_
  rotate_left
  · intro wz hSw
    (try dsimp only at hSw)
    first | (go_simp; done) | (go_simp; with_reducible rfl)
  try simp only [Act.put, List.setIfInBounds_toArray, List.set_cons_zero, List.set_cons_succ]
  refine wpAnyH_ready (rs := [25]) (by kernel_rfl) (by simp) ?_
  refine AllReadyH.cons (o := { dst := some 55, op := _, type := _, pos := _, after := _, guard := _ }) rfl (fun K hK => ?_) AllReadyH.nil
  go_simp
  refine (mMay_any 1 z 0 g a n i p k t _ hH.2.1).mono ?_
  rw [hS0]
  rintro e wq25 ⟨rfl, hbq⟩
  go_wp2_with fail
  refine hK.out _ _ (kept_kinds hH hbq) (fun hH2 => ?_)
  clear hK K hH hbq
  have hH := hH2
  clear hH2
  try simp only [Act.put, List.setIfInBounds_toArray, List.set_cons_zero, List.set_cons_succ]
  refine wpAnyH_take (i := 29) (oi := { dst := some 59, op := _, type := _, pos := _, after := _, guard := _ }) (v := ?_) rfl (by kernel_rfl) (by kernel_rfl) (by kernel_rfl) (fun _ _ _ h => h) (Or.inl ⟨by rfl, ?_⟩) hH ?_
  rotate_left
  · intro wz hSw
    (try dsimp only at hSw)
    first | (go_simp; done) | (go_simp; with_reducible rfl)
  try simp only [Act.put, List.setIfInBounds_toArray, List.set_cons_zero, List.set_cons_succ]
  refine wpAnyH_take (i := 30) (oi := { dst := some 60, op := _, type := _, pos := _, after := _, guard := _ }) (v := ?_) rfl (by kernel_rfl) (by kernel_rfl) (by kernel_rfl) (fun _ _ _ h => h) (Or.inl ⟨by rfl, ?_⟩) hH ?_
  rotate_left
  · intro wz hSw
    (try dsimp only at hSw)
    first | (go_simp; done) | (go_simp; with_reducible rfl)
  try simp only [Act.put, List.setIfInBounds_toArray, List.set_cons_zero, List.set_cons_succ]
  refine wpAnyH_take (i := 31) (oi := { dst := some 61, op := _, type := _, pos := _, after := _, guard := _ }) (v := ?_) rfl (by kernel_rfl) (by kernel_rfl) (by kernel_rfl) (fun _ _ _ h => h) (Or.inl ⟨by rfl, ?_⟩) hH ?_
  rotate_left
  · intro wz hSw
    (try dsimp only at hSw)
    first | (go_simp; done) | (go_simp; with_reducible rfl)
  try simp only [Act.put, List.setIfInBounds_toArray, List.set_cons_zero, List.set_cons_succ]
  refine wpAnyH_take (i := 32) (oi := { dst := some 62, op := _, type := _, pos := _, after := _, guard := _ }) (v := ?_) rfl (by kernel_rfl) (by kernel_rfl) (by kernel_rfl) (fun _ _ _ h => h) (Or.inl ⟨by rfl, ?_⟩) hH ?_
  rotate_left
  · intro wz hSw
    (try dsimp only at hSw)
    first | (go_simp; done) | (go_simp; with_reducible rfl)
  try simp only [Act.put, List.setIfInBounds_toArray, List.set_cons_zero, List.set_cons_succ]
  refine wpAnyH_take (i := 33) (oi := { dst := some 63, op := _, type := _, pos := _, after := _, guard := _ }) (v := ?_) rfl (by kernel_rfl) (by kernel_rfl) (by kernel_rfl) (fun _ _ _ h => h) (Or.inl ⟨by rfl, ?_⟩) hH ?_
  rotate_left
  · intro wz hSw
    (try dsimp only at hSw)
    first | (go_simp; done) | (go_simp; with_reducible rfl)
  try simp only [Act.put, List.setIfInBounds_toArray, List.set_cons_zero, List.set_cons_succ]
  refine wpAnyH_take (i := 34) (oi := { dst := some 64, op := _, type := _, pos := _, after := _, guard := _ }) (v := ?_) rfl (by kernel_rfl) (by kernel_rfl) (by kernel_rfl) (fun _ _ _ h => h) (Or.inl ⟨by rfl, ?_⟩) hH ?_
  rotate_left
  · intro wz hSw
    (try dsimp only at hSw)
    first | (go_simp; done) | (go_simp; with_reducible rfl)
  try simp only [Act.put, List.setIfInBounds_toArray, List.set_cons_zero, List.set_cons_succ]
  refine wpAnyH_take (i := 35) (oi := { dst := some 65, op := _, type := _, pos := _, after := _, guard := _ }) (v := ?_) rfl (by kernel_rfl) (by kernel_rfl) (by kernel_rfl) (fun _ _ _ h => h) (Or.inl ⟨by rfl, ?_⟩) hH ?_
  rotate_left
  · intro wz hSw
    (try dsimp only at hSw)
    first | (go_simp; done) | (go_simp; with_reducible rfl)
  try simp only [Act.put, List.setIfInBounds_toArray, List.set_cons_zero, List.set_cons_succ]
  refine wpAnyH_take (i := 36) (oi := { dst := some 4, op := _, type := _, pos := _, after := _, guard := _ }) (v := ?_) rfl (by kernel_rfl) (by kernel_rfl) (by kernel_rfl) (fun _ _ _ h => h) (Or.inl ⟨by rfl, ?_⟩) hH ?_
  rotate_left
  · intro wz hSw
    (try dsimp only at hSw)
    first | (go_simp; done) | (go_simp; with_reducible rfl)
  try simp only [Act.put, List.setIfInBounds_toArray, List.set_cons_zero, List.set_cons_succ]
  refine wpAnyH_done (by kernel_rfl) ?_ _
  refine NoPanic.normal ?_
  go_wp2_with fail
  go_ret
  exact ⟨rfl, hH.1⟩
set_option maxHeartbeats 4000000 in
theorem kinds_2 (z v g a n i p k t ra rn ri rp rk rt : Int) (w : World) (T : Tab w)
    (cM : ∀ w, Tab w → Calls Tryd.prog 13 #[.agg #[.int .i64 2, .int .i64 z, .int .i64 v, .int .i64 g, .int .i64 a, .int .i64 n, .int .i64 i, .int .i64 p, .int .i64 k, .int .i64 t]] w fun e w' => e = .returned (.bool true) ∧ Below w.heap.size w w')
    (hq : ∀ w, (binOp .eql 27 (.agg #[.int .i64 ra, .int .i64 rn, .int .i64 ri, .int .i64 rp, .int .i64 rk, .int .i64 rt]) (.agg #[.int .i64 0, .int .i64 0, .int .i64 0, .int .i64 0, .int .i64 0, .int .i64 0])).run Tryd.prog w = .ok (.bool false) w)
    (hS0 : okM 2 z 0 g a n i p k t = false) :
    Calls Tryd.prog 7 #[.agg #[.int .i64 2, .int .i64 z, .int .i64 v, .int .i64 g, .int .i64 a, .int .i64 n, .int .i64 i, .int .i64 p, .int .i64 k, .int .i64 t], .agg #[.int .i64 ra, .int .i64 rn, .int .i64 ri, .int .i64 rp, .int .i64 rk, .int .i64 rt]] w fun e w' => e = .returned (.bool true) ∧ Below w.heap.size w w' := by
  have hn0 := below_new w (.cells #[.int .i64 2, .int .i64 z, .int .i64 v, .int .i64 g, .int .i64 a, .int .i64 n, .int .i64 i, .int .i64 p, .int .i64 k, .int .i64 t] 29)
  have X0 := Lies.new w [2, z, v, g, a, n, i, p, k, t] 29 (B := w.heap.size) rfl
  have hB := hn0
  have hn1 := below_new (w.alloc (.cells #[.int .i64 2, .int .i64 z, .int .i64 v, .int .i64 g, .int .i64 a, .int .i64 n, .int .i64 i, .int .i64 p, .int .i64 k, .int .i64 t] 29)) (.cells #[.int .i64 ra, .int .i64 rn, .int .i64 ri, .int .i64 rp, .int .i64 rk, .int .i64 rt] 27)
  have X1 := Lies.new (w.alloc (.cells #[.int .i64 2, .int .i64 z, .int .i64 v, .int .i64 g, .int .i64 a, .int .i64 n, .int .i64 i, .int .i64 p, .int .i64 k, .int .i64 t] 29)) [ra, rn, ri, rp, rk, rt] 27 (B := w.heap.size + 1) (by simp)
  replace X0 := X0.later hn1
  replace hB := below_step hB hn1
  clear hn0 hn1
  obtain ⟨x00, x01, x02, x03, x04, x05, x06, x07, x08, x09⟩ := X0.ten
  obtain ⟨x10, x11, x12, x13, x14, x15⟩ := X1.six
  replace T := T.later hB
  go_enter Tryd.func7, Tryd.ntmps7
  go_wp2_with fail
  refine (awake_any _ T).mono ?_
  rintro e w1 ⟨rfl, hb1⟩
  clear x00 x01 x02 x03 x04 x05 x06 x07 x08 x09
  clear x10 x11 x12 x13 x14 x15
  replace X0 := X0.later hb1
  replace X1 := X1.later hb1
  replace T := T.later hb1
  replace hB := below_step hB hb1
  clear hb1
  obtain ⟨x00, x01, x02, x03, x04, x05, x06, x07, x08, x09⟩ := X0.ten
  obtain ⟨x10, x11, x12, x13, x14, x15⟩ := X1.six
  go_wp2_with fail
  refine (cM _ T).mono ?_
  rintro e w2 ⟨rfl, hb2⟩
  clear x00 x01 x02 x03 x04 x05 x06 x07 x08 x09
  clear x10 x11 x12 x13 x14 x15
  replace X0 := X0.later hb2
  replace X1 := X1.later hb2
  replace T := T.later hb2
  replace hB := below_step hB hb2
  clear hb2
  obtain ⟨x00, x01, x02, x03, x04, x05, x06, x07, x08, x09⟩ := X0.ten
  obtain ⟨x10, x11, x12, x13, x14, x15⟩ := X1.six
  have hq0 := below_new w2 (.cells #[.int .i64 2, .int .i64 z, .int .i64 v, .int .i64 g, .int .i64 a, .int .i64 n, .int .i64 i, .int .i64 p, .int .i64 k, .int .i64 t] 29)
  obtain ⟨x0q0, x0q1, x0q2, x0q3, x0q4, x0q5, x0q6, x0q7, x0q8, x0q9⟩ := (X0.later hq0).ten
  obtain ⟨x1q0, x1q1, x1q2, x1q3, x1q4, x1q5⟩ := (X1.later hq0).six
  clear hq0
  have hv0 := below_new w2 (.cells #[.int .i64 2, .int .i64 z, .int .i64 v, .int .i64 g, .int .i64 ra, .int .i64 rn, .int .i64 ri, .int .i64 rp, .int .i64 rk, .int .i64 rt] 29)
  replace X0 := X0.later hv0
  replace X1 := X1.later hv0
  replace T := T.later hv0
  replace hB := below_step hB hv0
  clear hv0
  have V0 := Lies.new w2 [2, z, v, g, ra, rn, ri, rp, rk, rt] 29 (B := w2.heap.size) rfl
  obtain ⟨x00, x01, x02, x03, x04, x05, x06, x07, x08, x09⟩ := X0.ten
  obtain ⟨x10, x11, x12, x13, x14, x15⟩ := X1.six
  obtain ⟨v00, v01, v02, v03, v04, v05, v06, v07, v08, v09⟩ := V0.ten
  have hq1 := below_new (w2.alloc (.cells #[.int .i64 2, .int .i64 z, .int .i64 v, .int .i64 g, .int .i64 ra, .int .i64 rn, .int .i64 ri, .int .i64 rp, .int .i64 rk, .int .i64 rt] 29)) (.cells #[.int .i64 2, .int .i64 z, .int .i64 v, .int .i64 g, .int .i64 a, .int .i64 n, .int .i64 i, .int .i64 p, .int .i64 k, .int .i64 t] 29)
  obtain ⟨x0q0, x0q1, x0q2, x0q3, x0q4, x0q5, x0q6, x0q7, x0q8, x0q9⟩ := (X0.later hq1).ten
  obtain ⟨x1q0, x1q1, x1q2, x1q3, x1q4, x1q5⟩ := (X1.later hq1).six
  obtain ⟨v0q0, v0q1, v0q2, v0q3, v0q4, v0q5, v0q6, v0q7, v0q8, v0q9⟩ := (V0.later hq1).ten
  clear hq1
  have hv1 := below_new (w2.alloc (.cells #[.int .i64 2, .int .i64 z, .int .i64 v, .int .i64 g, .int .i64 ra, .int .i64 rn, .int .i64 ri, .int .i64 rp, .int .i64 rk, .int .i64 rt] 29)) (.cells #[.int .i64 2, .int .i64 z, .int .i64 v, .int .i64 7, .int .i64 a, .int .i64 n, .int .i64 i, .int .i64 p, .int .i64 k, .int .i64 t] 29)
  replace X0 := X0.later hv1
  replace X1 := X1.later hv1
  replace V0 := V0.later hv1
  replace T := T.later hv1
  replace hB := below_step hB hv1
  clear hv1
  have V1 := Lies.new (w2.alloc (.cells #[.int .i64 2, .int .i64 z, .int .i64 v, .int .i64 g, .int .i64 ra, .int .i64 rn, .int .i64 ri, .int .i64 rp, .int .i64 rk, .int .i64 rt] 29)) [2, z, v, 7, a, n, i, p, k, t] 29 (B := w2.heap.size + 1) (by simp)
  obtain ⟨x00, x01, x02, x03, x04, x05, x06, x07, x08, x09⟩ := X0.ten
  obtain ⟨x10, x11, x12, x13, x14, x15⟩ := X1.six
  obtain ⟨v00, v01, v02, v03, v04, v05, v06, v07, v08, v09⟩ := V0.ten
  obtain ⟨v10, v11, v12, v13, v14, v15, v16, v17, v18, v19⟩ := V1.ten
  have hq2 := below_new ((w2.alloc (.cells #[.int .i64 2, .int .i64 z, .int .i64 v, .int .i64 g, .int .i64 ra, .int .i64 rn, .int .i64 ri, .int .i64 rp, .int .i64 rk, .int .i64 rt] 29)).alloc (.cells #[.int .i64 2, .int .i64 z, .int .i64 v, .int .i64 7, .int .i64 a, .int .i64 n, .int .i64 i, .int .i64 p, .int .i64 k, .int .i64 t] 29)) (.cells #[.int .i64 2, .int .i64 z, .int .i64 v, .int .i64 g, .int .i64 a, .int .i64 n, .int .i64 i, .int .i64 p, .int .i64 k, .int .i64 t] 29)
  obtain ⟨x0q0, x0q1, x0q2, x0q3, x0q4, x0q5, x0q6, x0q7, x0q8, x0q9⟩ := (X0.later hq2).ten
  obtain ⟨x1q0, x1q1, x1q2, x1q3, x1q4, x1q5⟩ := (X1.later hq2).six
  obtain ⟨v0q0, v0q1, v0q2, v0q3, v0q4, v0q5, v0q6, v0q7, v0q8, v0q9⟩ := (V0.later hq2).ten
  obtain ⟨v1q0, v1q1, v1q2, v1q3, v1q4, v1q5, v1q6, v1q7, v1q8, v1q9⟩ := (V1.later hq2).ten
  clear hq2
  have hv2 := below_new ((w2.alloc (.cells #[.int .i64 2, .int .i64 z, .int .i64 v, .int .i64 g, .int .i64 ra, .int .i64 rn, .int .i64 ri, .int .i64 rp, .int .i64 rk, .int .i64 rt] 29)).alloc (.cells #[.int .i64 2, .int .i64 z, .int .i64 v, .int .i64 7, .int .i64 a, .int .i64 n, .int .i64 i, .int .i64 p, .int .i64 k, .int .i64 t] 29)) (.cells #[.int .i64 2, .int .i64 z, .int .i64 0, .int .i64 g, .int .i64 a, .int .i64 n, .int .i64 i, .int .i64 p, .int .i64 k, .int .i64 t] 29)
  replace X0 := X0.later hv2
  replace X1 := X1.later hv2
  replace V0 := V0.later hv2
  replace V1 := V1.later hv2
  replace T := T.later hv2
  replace hB := below_step hB hv2
  clear hv2
  have V2 := Lies.new ((w2.alloc (.cells #[.int .i64 2, .int .i64 z, .int .i64 v, .int .i64 g, .int .i64 ra, .int .i64 rn, .int .i64 ri, .int .i64 rp, .int .i64 rk, .int .i64 rt] 29)).alloc (.cells #[.int .i64 2, .int .i64 z, .int .i64 v, .int .i64 7, .int .i64 a, .int .i64 n, .int .i64 i, .int .i64 p, .int .i64 k, .int .i64 t] 29)) [2, z, 0, g, a, n, i, p, k, t] 29 (B := w2.heap.size + 1 + 1) (by simp)
  obtain ⟨x00, x01, x02, x03, x04, x05, x06, x07, x08, x09⟩ := X0.ten
  obtain ⟨x10, x11, x12, x13, x14, x15⟩ := X1.six
  obtain ⟨v00, v01, v02, v03, v04, v05, v06, v07, v08, v09⟩ := V0.ten
  obtain ⟨v10, v11, v12, v13, v14, v15, v16, v17, v18, v19⟩ := V1.ten
  obtain ⟨v20, v21, v22, v23, v24, v25, v26, v27, v28, v29⟩ := V2.ten
  have S0 : Below w.heap.size w (((w2.alloc (.cells #[.int .i64 2, .int .i64 z, .int .i64 v, .int .i64 g, .int .i64 ra, .int .i64 rn, .int .i64 ri, .int .i64 rp, .int .i64 rk, .int .i64 rt] 29)).alloc (.cells #[.int .i64 2, .int .i64 z, .int .i64 v, .int .i64 7, .int .i64 a, .int .i64 n, .int .i64 i, .int .i64 p, .int .i64 k, .int .i64 t] 29)).alloc (.cells #[.int .i64 2, .int .i64 z, .int .i64 0, .int .i64 g, .int .i64 a, .int .i64 n, .int .i64 i, .int .i64 p, .int .i64 k, .int .i64 t] 29)).drew ∧ Tab (((w2.alloc (.cells #[.int .i64 2, .int .i64 z, .int .i64 v, .int .i64 g, .int .i64 ra, .int .i64 rn, .int .i64 ri, .int .i64 rp, .int .i64 rk, .int .i64 rt] 29)).alloc (.cells #[.int .i64 2, .int .i64 z, .int .i64 v, .int .i64 7, .int .i64 a, .int .i64 n, .int .i64 i, .int .i64 p, .int .i64 k, .int .i64 t] 29)).alloc (.cells #[.int .i64 2, .int .i64 z, .int .i64 0, .int .i64 g, .int .i64 a, .int .i64 n, .int .i64 i, .int .i64 p, .int .i64 k, .int .i64 t] 29)).drew ∧ w.heap.size < (((w2.alloc (.cells #[.int .i64 2, .int .i64 z, .int .i64 v, .int .i64 g, .int .i64 ra, .int .i64 rn, .int .i64 ri, .int .i64 rp, .int .i64 rk, .int .i64 rt] 29)).alloc (.cells #[.int .i64 2, .int .i64 z, .int .i64 v, .int .i64 7, .int .i64 a, .int .i64 n, .int .i64 i, .int .i64 p, .int .i64 k, .int .i64 t] 29)).alloc (.cells #[.int .i64 2, .int .i64 z, .int .i64 0, .int .i64 g, .int .i64 a, .int .i64 n, .int .i64 i, .int .i64 p, .int .i64 k, .int .i64 t] 29)).drew.heap.size ∧ w2.heap.size < (((w2.alloc (.cells #[.int .i64 2, .int .i64 z, .int .i64 v, .int .i64 g, .int .i64 ra, .int .i64 rn, .int .i64 ri, .int .i64 rp, .int .i64 rk, .int .i64 rt] 29)).alloc (.cells #[.int .i64 2, .int .i64 z, .int .i64 v, .int .i64 7, .int .i64 a, .int .i64 n, .int .i64 i, .int .i64 p, .int .i64 k, .int .i64 t] 29)).alloc (.cells #[.int .i64 2, .int .i64 z, .int .i64 0, .int .i64 g, .int .i64 a, .int .i64 n, .int .i64 i, .int .i64 p, .int .i64 k, .int .i64 t] 29)).drew.heap.size ∧ w2.heap.size + 1 < (((w2.alloc (.cells #[.int .i64 2, .int .i64 z, .int .i64 v, .int .i64 g, .int .i64 ra, .int .i64 rn, .int .i64 ri, .int .i64 rp, .int .i64 rk, .int .i64 rt] 29)).alloc (.cells #[.int .i64 2, .int .i64 z, .int .i64 v, .int .i64 7, .int .i64 a, .int .i64 n, .int .i64 i, .int .i64 p, .int .i64 k, .int .i64 t] 29)).alloc (.cells #[.int .i64 2, .int .i64 z, .int .i64 0, .int .i64 g, .int .i64 a, .int .i64 n, .int .i64 i, .int .i64 p, .int .i64 k, .int .i64 t] 29)).drew.heap.size ∧ w2.heap.size + 1 + 1 < (((w2.alloc (.cells #[.int .i64 2, .int .i64 z, .int .i64 v, .int .i64 g, .int .i64 ra, .int .i64 rn, .int .i64 ri, .int .i64 rp, .int .i64 rk, .int .i64 rt] 29)).alloc (.cells #[.int .i64 2, .int .i64 z, .int .i64 v, .int .i64 7, .int .i64 a, .int .i64 n, .int .i64 i, .int .i64 p, .int .i64 k, .int .i64 t] 29)).alloc (.cells #[.int .i64 2, .int .i64 z, .int .i64 0, .int .i64 g, .int .i64 a, .int .i64 n, .int .i64 i, .int .i64 p, .int .i64 k, .int .i64 t] 29)).drew.heap.size ∧ (((w2.alloc (.cells #[.int .i64 2, .int .i64 z, .int .i64 v, .int .i64 g, .int .i64 ra, .int .i64 rn, .int .i64 ri, .int .i64 rp, .int .i64 rk, .int .i64 rt] 29)).alloc (.cells #[.int .i64 2, .int .i64 z, .int .i64 v, .int .i64 7, .int .i64 a, .int .i64 n, .int .i64 i, .int .i64 p, .int .i64 k, .int .i64 t] 29)).alloc (.cells #[.int .i64 2, .int .i64 z, .int .i64 0, .int .i64 g, .int .i64 a, .int .i64 n, .int .i64 i, .int .i64 p, .int .i64 k, .int .i64 t] 29)).drew.cell? ⟨w.heap.size, 0, none⟩ = some (.int .i64 2) ∧ (((w2.alloc (.cells #[.int .i64 2, .int .i64 z, .int .i64 v, .int .i64 g, .int .i64 ra, .int .i64 rn, .int .i64 ri, .int .i64 rp, .int .i64 rk, .int .i64 rt] 29)).alloc (.cells #[.int .i64 2, .int .i64 z, .int .i64 v, .int .i64 7, .int .i64 a, .int .i64 n, .int .i64 i, .int .i64 p, .int .i64 k, .int .i64 t] 29)).alloc (.cells #[.int .i64 2, .int .i64 z, .int .i64 0, .int .i64 g, .int .i64 a, .int .i64 n, .int .i64 i, .int .i64 p, .int .i64 k, .int .i64 t] 29)).drew.cell? ⟨w2.heap.size, 0, none⟩ = some (.int .i64 2) ∧ (((w2.alloc (.cells #[.int .i64 2, .int .i64 z, .int .i64 v, .int .i64 g, .int .i64 ra, .int .i64 rn, .int .i64 ri, .int .i64 rp, .int .i64 rk, .int .i64 rt] 29)).alloc (.cells #[.int .i64 2, .int .i64 z, .int .i64 v, .int .i64 7, .int .i64 a, .int .i64 n, .int .i64 i, .int .i64 p, .int .i64 k, .int .i64 t] 29)).alloc (.cells #[.int .i64 2, .int .i64 z, .int .i64 0, .int .i64 g, .int .i64 a, .int .i64 n, .int .i64 i, .int .i64 p, .int .i64 k, .int .i64 t] 29)).drew.cell? ⟨w2.heap.size, 1, none⟩ = some (.int .i64 z) ∧ (((w2.alloc (.cells #[.int .i64 2, .int .i64 z, .int .i64 v, .int .i64 g, .int .i64 ra, .int .i64 rn, .int .i64 ri, .int .i64 rp, .int .i64 rk, .int .i64 rt] 29)).alloc (.cells #[.int .i64 2, .int .i64 z, .int .i64 v, .int .i64 7, .int .i64 a, .int .i64 n, .int .i64 i, .int .i64 p, .int .i64 k, .int .i64 t] 29)).alloc (.cells #[.int .i64 2, .int .i64 z, .int .i64 0, .int .i64 g, .int .i64 a, .int .i64 n, .int .i64 i, .int .i64 p, .int .i64 k, .int .i64 t] 29)).drew.cell? ⟨w2.heap.size, 2, none⟩ = some (.int .i64 v) ∧ (((w2.alloc (.cells #[.int .i64 2, .int .i64 z, .int .i64 v, .int .i64 g, .int .i64 ra, .int .i64 rn, .int .i64 ri, .int .i64 rp, .int .i64 rk, .int .i64 rt] 29)).alloc (.cells #[.int .i64 2, .int .i64 z, .int .i64 v, .int .i64 7, .int .i64 a, .int .i64 n, .int .i64 i, .int .i64 p, .int .i64 k, .int .i64 t] 29)).alloc (.cells #[.int .i64 2, .int .i64 z, .int .i64 0, .int .i64 g, .int .i64 a, .int .i64 n, .int .i64 i, .int .i64 p, .int .i64 k, .int .i64 t] 29)).drew.cell? ⟨w2.heap.size, 3, none⟩ = some (.int .i64 g) ∧ (((w2.alloc (.cells #[.int .i64 2, .int .i64 z, .int .i64 v, .int .i64 g, .int .i64 ra, .int .i64 rn, .int .i64 ri, .int .i64 rp, .int .i64 rk, .int .i64 rt] 29)).alloc (.cells #[.int .i64 2, .int .i64 z, .int .i64 v, .int .i64 7, .int .i64 a, .int .i64 n, .int .i64 i, .int .i64 p, .int .i64 k, .int .i64 t] 29)).alloc (.cells #[.int .i64 2, .int .i64 z, .int .i64 0, .int .i64 g, .int .i64 a, .int .i64 n, .int .i64 i, .int .i64 p, .int .i64 k, .int .i64 t] 29)).drew.cell? ⟨w2.heap.size, 4, none⟩ = some (.int .i64 ra) ∧ (((w2.alloc (.cells #[.int .i64 2, .int .i64 z, .int .i64 v, .int .i64 g, .int .i64 ra, .int .i64 rn, .int .i64 ri, .int .i64 rp, .int .i64 rk, .int .i64 rt] 29)).alloc (.cells #[.int .i64 2, .int .i64 z, .int .i64 v, .int .i64 7, .int .i64 a, .int .i64 n, .int .i64 i, .int .i64 p, .int .i64 k, .int .i64 t] 29)).alloc (.cells #[.int .i64 2, .int .i64 z, .int .i64 0, .int .i64 g, .int .i64 a, .int .i64 n, .int .i64 i, .int .i64 p, .int .i64 k, .int .i64 t] 29)).drew.cell? ⟨w2.heap.size, 5, none⟩ = some (.int .i64 rn) ∧ (((w2.alloc (.cells #[.int .i64 2, .int .i64 z, .int .i64 v, .int .i64 g, .int .i64 ra, .int .i64 rn, .int .i64 ri, .int .i64 rp, .int .i64 rk, .int .i64 rt] 29)).alloc (.cells #[.int .i64 2, .int .i64 z, .int .i64 v, .int .i64 7, .int .i64 a, .int .i64 n, .int .i64 i, .int .i64 p, .int .i64 k, .int .i64 t] 29)).alloc (.cells #[.int .i64 2, .int .i64 z, .int .i64 0, .int .i64 g, .int .i64 a, .int .i64 n, .int .i64 i, .int .i64 p, .int .i64 k, .int .i64 t] 29)).drew.cell? ⟨w2.heap.size, 6, none⟩ = some (.int .i64 ri) ∧ (((w2.alloc (.cells #[.int .i64 2, .int .i64 z, .int .i64 v, .int .i64 g, .int .i64 ra, .int .i64 rn, .int .i64 ri, .int .i64 rp, .int .i64 rk, .int .i64 rt] 29)).alloc (.cells #[.int .i64 2, .int .i64 z, .int .i64 v, .int .i64 7, .int .i64 a, .int .i64 n, .int .i64 i, .int .i64 p, .int .i64 k, .int .i64 t] 29)).alloc (.cells #[.int .i64 2, .int .i64 z, .int .i64 0, .int .i64 g, .int .i64 a, .int .i64 n, .int .i64 i, .int .i64 p, .int .i64 k, .int .i64 t] 29)).drew.cell? ⟨w2.heap.size, 7, none⟩ = some (.int .i64 rp) ∧ (((w2.alloc (.cells #[.int .i64 2, .int .i64 z, .int .i64 v, .int .i64 g, .int .i64 ra, .int .i64 rn, .int .i64 ri, .int .i64 rp, .int .i64 rk, .int .i64 rt] 29)).alloc (.cells #[.int .i64 2, .int .i64 z, .int .i64 v, .int .i64 7, .int .i64 a, .int .i64 n, .int .i64 i, .int .i64 p, .int .i64 k, .int .i64 t] 29)).alloc (.cells #[.int .i64 2, .int .i64 z, .int .i64 0, .int .i64 g, .int .i64 a, .int .i64 n, .int .i64 i, .int .i64 p, .int .i64 k, .int .i64 t] 29)).drew.cell? ⟨w2.heap.size, 8, none⟩ = some (.int .i64 rk) ∧ (((w2.alloc (.cells #[.int .i64 2, .int .i64 z, .int .i64 v, .int .i64 g, .int .i64 ra, .int .i64 rn, .int .i64 ri, .int .i64 rp, .int .i64 rk, .int .i64 rt] 29)).alloc (.cells #[.int .i64 2, .int .i64 z, .int .i64 v, .int .i64 7, .int .i64 a, .int .i64 n, .int .i64 i, .int .i64 p, .int .i64 k, .int .i64 t] 29)).alloc (.cells #[.int .i64 2, .int .i64 z, .int .i64 0, .int .i64 g, .int .i64 a, .int .i64 n, .int .i64 i, .int .i64 p, .int .i64 k, .int .i64 t] 29)).drew.cell? ⟨w2.heap.size, 9, none⟩ = some (.int .i64 rt) ∧ (((w2.alloc (.cells #[.int .i64 2, .int .i64 z, .int .i64 v, .int .i64 g, .int .i64 ra, .int .i64 rn, .int .i64 ri, .int .i64 rp, .int .i64 rk, .int .i64 rt] 29)).alloc (.cells #[.int .i64 2, .int .i64 z, .int .i64 v, .int .i64 7, .int .i64 a, .int .i64 n, .int .i64 i, .int .i64 p, .int .i64 k, .int .i64 t] 29)).alloc (.cells #[.int .i64 2, .int .i64 z, .int .i64 0, .int .i64 g, .int .i64 a, .int .i64 n, .int .i64 i, .int .i64 p, .int .i64 k, .int .i64 t] 29)).drew.cell? ⟨w2.heap.size + 1, 0, none⟩ = some (.int .i64 2) ∧ (((w2.alloc (.cells #[.int .i64 2, .int .i64 z, .int .i64 v, .int .i64 g, .int .i64 ra, .int .i64 rn, .int .i64 ri, .int .i64 rp, .int .i64 rk, .int .i64 rt] 29)).alloc (.cells #[.int .i64 2, .int .i64 z, .int .i64 v, .int .i64 7, .int .i64 a, .int .i64 n, .int .i64 i, .int .i64 p, .int .i64 k, .int .i64 t] 29)).alloc (.cells #[.int .i64 2, .int .i64 z, .int .i64 0, .int .i64 g, .int .i64 a, .int .i64 n, .int .i64 i, .int .i64 p, .int .i64 k, .int .i64 t] 29)).drew.cell? ⟨w2.heap.size + 1, 1, none⟩ = some (.int .i64 z) ∧ (((w2.alloc (.cells #[.int .i64 2, .int .i64 z, .int .i64 v, .int .i64 g, .int .i64 ra, .int .i64 rn, .int .i64 ri, .int .i64 rp, .int .i64 rk, .int .i64 rt] 29)).alloc (.cells #[.int .i64 2, .int .i64 z, .int .i64 v, .int .i64 7, .int .i64 a, .int .i64 n, .int .i64 i, .int .i64 p, .int .i64 k, .int .i64 t] 29)).alloc (.cells #[.int .i64 2, .int .i64 z, .int .i64 0, .int .i64 g, .int .i64 a, .int .i64 n, .int .i64 i, .int .i64 p, .int .i64 k, .int .i64 t] 29)).drew.cell? ⟨w2.heap.size + 1, 2, none⟩ = some (.int .i64 v) ∧ (((w2.alloc (.cells #[.int .i64 2, .int .i64 z, .int .i64 v, .int .i64 g, .int .i64 ra, .int .i64 rn, .int .i64 ri, .int .i64 rp, .int .i64 rk, .int .i64 rt] 29)).alloc (.cells #[.int .i64 2, .int .i64 z, .int .i64 v, .int .i64 7, .int .i64 a, .int .i64 n, .int .i64 i, .int .i64 p, .int .i64 k, .int .i64 t] 29)).alloc (.cells #[.int .i64 2, .int .i64 z, .int .i64 0, .int .i64 g, .int .i64 a, .int .i64 n, .int .i64 i, .int .i64 p, .int .i64 k, .int .i64 t] 29)).drew.cell? ⟨w2.heap.size + 1, 3, none⟩ = some (.int .i64 7) ∧ (((w2.alloc (.cells #[.int .i64 2, .int .i64 z, .int .i64 v, .int .i64 g, .int .i64 ra, .int .i64 rn, .int .i64 ri, .int .i64 rp, .int .i64 rk, .int .i64 rt] 29)).alloc (.cells #[.int .i64 2, .int .i64 z, .int .i64 v, .int .i64 7, .int .i64 a, .int .i64 n, .int .i64 i, .int .i64 p, .int .i64 k, .int .i64 t] 29)).alloc (.cells #[.int .i64 2, .int .i64 z, .int .i64 0, .int .i64 g, .int .i64 a, .int .i64 n, .int .i64 i, .int .i64 p, .int .i64 k, .int .i64 t] 29)).drew.cell? ⟨w2.heap.size + 1, 4, none⟩ = some (.int .i64 a) ∧ (((w2.alloc (.cells #[.int .i64 2, .int .i64 z, .int .i64 v, .int .i64 g, .int .i64 ra, .int .i64 rn, .int .i64 ri, .int .i64 rp, .int .i64 rk, .int .i64 rt] 29)).alloc (.cells #[.int .i64 2, .int .i64 z, .int .i64 v, .int .i64 7, .int .i64 a, .int .i64 n, .int .i64 i, .int .i64 p, .int .i64 k, .int .i64 t] 29)).alloc (.cells #[.int .i64 2, .int .i64 z, .int .i64 0, .int .i64 g, .int .i64 a, .int .i64 n, .int .i64 i, .int .i64 p, .int .i64 k, .int .i64 t] 29)).drew.cell? ⟨w2.heap.size + 1, 5, none⟩ = some (.int .i64 n) ∧ (((w2.alloc (.cells #[.int .i64 2, .int .i64 z, .int .i64 v, .int .i64 g, .int .i64 ra, .int .i64 rn, .int .i64 ri, .int .i64 rp, .int .i64 rk, .int .i64 rt] 29)).alloc (.cells #[.int .i64 2, .int .i64 z, .int .i64 v, .int .i64 7, .int .i64 a, .int .i64 n, .int .i64 i, .int .i64 p, .int .i64 k, .int .i64 t] 29)).alloc (.cells #[.int .i64 2, .int .i64 z, .int .i64 0, .int .i64 g, .int .i64 a, .int .i64 n, .int .i64 i, .int .i64 p, .int .i64 k, .int .i64 t] 29)).drew.cell? ⟨w2.heap.size + 1, 6, none⟩ = some (.int .i64 i) ∧ (((w2.alloc (.cells #[.int .i64 2, .int .i64 z, .int .i64 v, .int .i64 g, .int .i64 ra, .int .i64 rn, .int .i64 ri, .int .i64 rp, .int .i64 rk, .int .i64 rt] 29)).alloc (.cells #[.int .i64 2, .int .i64 z, .int .i64 v, .int .i64 7, .int .i64 a, .int .i64 n, .int .i64 i, .int .i64 p, .int .i64 k, .int .i64 t] 29)).alloc (.cells #[.int .i64 2, .int .i64 z, .int .i64 0, .int .i64 g, .int .i64 a, .int .i64 n, .int .i64 i, .int .i64 p, .int .i64 k, .int .i64 t] 29)).drew.cell? ⟨w2.heap.size + 1, 7, none⟩ = some (.int .i64 p) ∧ (((w2.alloc (.cells #[.int .i64 2, .int .i64 z, .int .i64 v, .int .i64 g, .int .i64 ra, .int .i64 rn, .int .i64 ri, .int .i64 rp, .int .i64 rk, .int .i64 rt] 29)).alloc (.cells #[.int .i64 2, .int .i64 z, .int .i64 v, .int .i64 7, .int .i64 a, .int .i64 n, .int .i64 i, .int .i64 p, .int .i64 k, .int .i64 t] 29)).alloc (.cells #[.int .i64 2, .int .i64 z, .int .i64 0, .int .i64 g, .int .i64 a, .int .i64 n, .int .i64 i, .int .i64 p, .int .i64 k, .int .i64 t] 29)).drew.cell? ⟨w2.heap.size + 1, 8, none⟩ = some (.int .i64 k) ∧ (((w2.alloc (.cells #[.int .i64 2, .int .i64 z, .int .i64 v, .int .i64 g, .int .i64 ra, .int .i64 rn, .int .i64 ri, .int .i64 rp, .int .i64 rk, .int .i64 rt] 29)).alloc (.cells #[.int .i64 2, .int .i64 z, .int .i64 v, .int .i64 7, .int .i64 a, .int .i64 n, .int .i64 i, .int .i64 p, .int .i64 k, .int .i64 t] 29)).alloc (.cells #[.int .i64 2, .int .i64 z, .int .i64 0, .int .i64 g, .int .i64 a, .int .i64 n, .int .i64 i, .int .i64 p, .int .i64 k, .int .i64 t] 29)).drew.cell? ⟨w2.heap.size + 1, 9, none⟩ = some (.int .i64 t) ∧ (((w2.alloc (.cells #[.int .i64 2, .int .i64 z, .int .i64 v, .int .i64 g, .int .i64 ra, .int .i64 rn, .int .i64 ri, .int .i64 rp, .int .i64 rk, .int .i64 rt] 29)).alloc (.cells #[.int .i64 2, .int .i64 z, .int .i64 v, .int .i64 7, .int .i64 a, .int .i64 n, .int .i64 i, .int .i64 p, .int .i64 k, .int .i64 t] 29)).alloc (.cells #[.int .i64 2, .int .i64 z, .int .i64 0, .int .i64 g, .int .i64 a, .int .i64 n, .int .i64 i, .int .i64 p, .int .i64 k, .int .i64 t] 29)).drew.cell? ⟨w2.heap.size + 1 + 1, 0, none⟩ = some (.int .i64 2) ∧ (((w2.alloc (.cells #[.int .i64 2, .int .i64 z, .int .i64 v, .int .i64 g, .int .i64 ra, .int .i64 rn, .int .i64 ri, .int .i64 rp, .int .i64 rk, .int .i64 rt] 29)).alloc (.cells #[.int .i64 2, .int .i64 z, .int .i64 v, .int .i64 7, .int .i64 a, .int .i64 n, .int .i64 i, .int .i64 p, .int .i64 k, .int .i64 t] 29)).alloc (.cells #[.int .i64 2, .int .i64 z, .int .i64 0, .int .i64 g, .int .i64 a, .int .i64 n, .int .i64 i, .int .i64 p, .int .i64 k, .int .i64 t] 29)).drew.cell? ⟨w2.heap.size + 1 + 1, 1, none⟩ = some (.int .i64 z) ∧ (((w2.alloc (.cells #[.int .i64 2, .int .i64 z, .int .i64 v, .int .i64 g, .int .i64 ra, .int .i64 rn, .int .i64 ri, .int .i64 rp, .int .i64 rk, .int .i64 rt] 29)).alloc (.cells #[.int .i64 2, .int .i64 z, .int .i64 v, .int .i64 7, .int .i64 a, .int .i64 n, .int .i64 i, .int .i64 p, .int .i64 k, .int .i64 t] 29)).alloc (.cells #[.int .i64 2, .int .i64 z, .int .i64 0, .int .i64 g, .int .i64 a, .int .i64 n, .int .i64 i, .int .i64 p, .int .i64 k, .int .i64 t] 29)).drew.cell? ⟨w2.heap.size + 1 + 1, 2, none⟩ = some (.int .i64 0) ∧ (((w2.alloc (.cells #[.int .i64 2, .int .i64 z, .int .i64 v, .int .i64 g, .int .i64 ra, .int .i64 rn, .int .i64 ri, .int .i64 rp, .int .i64 rk, .int .i64 rt] 29)).alloc (.cells #[.int .i64 2, .int .i64 z, .int .i64 v, .int .i64 7, .int .i64 a, .int .i64 n, .int .i64 i, .int .i64 p, .int .i64 k, .int .i64 t] 29)).alloc (.cells #[.int .i64 2, .int .i64 z, .int .i64 0, .int .i64 g, .int .i64 a, .int .i64 n, .int .i64 i, .int .i64 p, .int .i64 k, .int .i64 t] 29)).drew.cell? ⟨w2.heap.size + 1 + 1, 3, none⟩ = some (.int .i64 g) ∧ (((w2.alloc (.cells #[.int .i64 2, .int .i64 z, .int .i64 v, .int .i64 g, .int .i64 ra, .int .i64 rn, .int .i64 ri, .int .i64 rp, .int .i64 rk, .int .i64 rt] 29)).alloc (.cells #[.int .i64 2, .int .i64 z, .int .i64 v, .int .i64 7, .int .i64 a, .int .i64 n, .int .i64 i, .int .i64 p, .int .i64 k, .int .i64 t] 29)).alloc (.cells #[.int .i64 2, .int .i64 z, .int .i64 0, .int .i64 g, .int .i64 a, .int .i64 n, .int .i64 i, .int .i64 p, .int .i64 k, .int .i64 t] 29)).drew.cell? ⟨w2.heap.size + 1 + 1, 4, none⟩ = some (.int .i64 a) ∧ (((w2.alloc (.cells #[.int .i64 2, .int .i64 z, .int .i64 v, .int .i64 g, .int .i64 ra, .int .i64 rn, .int .i64 ri, .int .i64 rp, .int .i64 rk, .int .i64 rt] 29)).alloc (.cells #[.int .i64 2, .int .i64 z, .int .i64 v, .int .i64 7, .int .i64 a, .int .i64 n, .int .i64 i, .int .i64 p, .int .i64 k, .int .i64 t] 29)).alloc (.cells #[.int .i64 2, .int .i64 z, .int .i64 0, .int .i64 g, .int .i64 a, .int .i64 n, .int .i64 i, .int .i64 p, .int .i64 k, .int .i64 t] 29)).drew.cell? ⟨w2.heap.size + 1 + 1, 5, none⟩ = some (.int .i64 n) ∧ (((w2.alloc (.cells #[.int .i64 2, .int .i64 z, .int .i64 v, .int .i64 g, .int .i64 ra, .int .i64 rn, .int .i64 ri, .int .i64 rp, .int .i64 rk, .int .i64 rt] 29)).alloc (.cells #[.int .i64 2, .int .i64 z, .int .i64 v, .int .i64 7, .int .i64 a, .int .i64 n, .int .i64 i, .int .i64 p, .int .i64 k, .int .i64 t] 29)).alloc (.cells #[.int .i64 2, .int .i64 z, .int .i64 0, .int .i64 g, .int .i64 a, .int .i64 n, .int .i64 i, .int .i64 p, .int .i64 k, .int .i64 t] 29)).drew.cell? ⟨w2.heap.size + 1 + 1, 6, none⟩ = some (.int .i64 i) ∧ (((w2.alloc (.cells #[.int .i64 2, .int .i64 z, .int .i64 v, .int .i64 g, .int .i64 ra, .int .i64 rn, .int .i64 ri, .int .i64 rp, .int .i64 rk, .int .i64 rt] 29)).alloc (.cells #[.int .i64 2, .int .i64 z, .int .i64 v, .int .i64 7, .int .i64 a, .int .i64 n, .int .i64 i, .int .i64 p, .int .i64 k, .int .i64 t] 29)).alloc (.cells #[.int .i64 2, .int .i64 z, .int .i64 0, .int .i64 g, .int .i64 a, .int .i64 n, .int .i64 i, .int .i64 p, .int .i64 k, .int .i64 t] 29)).drew.cell? ⟨w2.heap.size + 1 + 1, 7, none⟩ = some (.int .i64 p) ∧ (((w2.alloc (.cells #[.int .i64 2, .int .i64 z, .int .i64 v, .int .i64 g, .int .i64 ra, .int .i64 rn, .int .i64 ri, .int .i64 rp, .int .i64 rk, .int .i64 rt] 29)).alloc (.cells #[.int .i64 2, .int .i64 z, .int .i64 v, .int .i64 7, .int .i64 a, .int .i64 n, .int .i64 i, .int .i64 p, .int .i64 k, .int .i64 t] 29)).alloc (.cells #[.int .i64 2, .int .i64 z, .int .i64 0, .int .i64 g, .int .i64 a, .int .i64 n, .int .i64 i, .int .i64 p, .int .i64 k, .int .i64 t] 29)).drew.cell? ⟨w2.heap.size + 1 + 1, 8, none⟩ = some (.int .i64 k) ∧ (((w2.alloc (.cells #[.int .i64 2, .int .i64 z, .int .i64 v, .int .i64 g, .int .i64 ra, .int .i64 rn, .int .i64 ri, .int .i64 rp, .int .i64 rk, .int .i64 rt] 29)).alloc (.cells #[.int .i64 2, .int .i64 z, .int .i64 v, .int .i64 7, .int .i64 a, .int .i64 n, .int .i64 i, .int .i64 p, .int .i64 k, .int .i64 t] 29)).alloc (.cells #[.int .i64 2, .int .i64 z, .int .i64 0, .int .i64 g, .int .i64 a, .int .i64 n, .int .i64 i, .int .i64 p, .int .i64 k, .int .i64 t] 29)).drew.cell? ⟨w2.heap.size + 1 + 1, 9, none⟩ = some (.int .i64 t) := ⟨hB.drew, T.later (Below.refl _ _).drew, X0.lt, V0.lt, V1.lt, V2.lt, x00, v00, v01, v02, v03, v04, v05, v06, v07, v08, v09, v10, v11, v12, v13, v14, v15, v16, v17, v18, v19, v20, v21, v22, v23, v24, v25, v26, v27, v28, v29⟩
  clear X0 X1 V0 V1 V2
  go_wp2_with fail
  refine wp_region_noPanic ?_
  refine wp_region_held_drew (S := fun w' => Below w.heap.size w w' ∧ Tab w' ∧ w.heap.size < w'.heap.size ∧ w2.heap.size < w'.heap.size ∧ w2.heap.size + 1 < w'.heap.size ∧ w2.heap.size + 1 + 1 < w'.heap.size ∧ w'.cell? ⟨w.heap.size, 0, none⟩ = some (.int .i64 2) ∧ w'.cell? ⟨w2.heap.size, 0, none⟩ = some (.int .i64 2) ∧ w'.cell? ⟨w2.heap.size, 1, none⟩ = some (.int .i64 z) ∧ w'.cell? ⟨w2.heap.size, 2, none⟩ = some (.int .i64 v) ∧ w'.cell? ⟨w2.heap.size, 3, none⟩ = some (.int .i64 g) ∧ w'.cell? ⟨w2.heap.size, 4, none⟩ = some (.int .i64 ra) ∧ w'.cell? ⟨w2.heap.size, 5, none⟩ = some (.int .i64 rn) ∧ w'.cell? ⟨w2.heap.size, 6, none⟩ = some (.int .i64 ri) ∧ w'.cell? ⟨w2.heap.size, 7, none⟩ = some (.int .i64 rp) ∧ w'.cell? ⟨w2.heap.size, 8, none⟩ = some (.int .i64 rk) ∧ w'.cell? ⟨w2.heap.size, 9, none⟩ = some (.int .i64 rt) ∧ w'.cell? ⟨w2.heap.size + 1, 0, none⟩ = some (.int .i64 2) ∧ w'.cell? ⟨w2.heap.size + 1, 1, none⟩ = some (.int .i64 z) ∧ w'.cell? ⟨w2.heap.size + 1, 2, none⟩ = some (.int .i64 v) ∧ w'.cell? ⟨w2.heap.size + 1, 3, none⟩ = some (.int .i64 7) ∧ w'.cell? ⟨w2.heap.size + 1, 4, none⟩ = some (.int .i64 a) ∧ w'.cell? ⟨w2.heap.size + 1, 5, none⟩ = some (.int .i64 n) ∧ w'.cell? ⟨w2.heap.size + 1, 6, none⟩ = some (.int .i64 i) ∧ w'.cell? ⟨w2.heap.size + 1, 7, none⟩ = some (.int .i64 p) ∧ w'.cell? ⟨w2.heap.size + 1, 8, none⟩ = some (.int .i64 k) ∧ w'.cell? ⟨w2.heap.size + 1, 9, none⟩ = some (.int .i64 t) ∧ w'.cell? ⟨w2.heap.size + 1 + 1, 0, none⟩ = some (.int .i64 2) ∧ w'.cell? ⟨w2.heap.size + 1 + 1, 1, none⟩ = some (.int .i64 z) ∧ w'.cell? ⟨w2.heap.size + 1 + 1, 2, none⟩ = some (.int .i64 0) ∧ w'.cell? ⟨w2.heap.size + 1 + 1, 3, none⟩ = some (.int .i64 g) ∧ w'.cell? ⟨w2.heap.size + 1 + 1, 4, none⟩ = some (.int .i64 a) ∧ w'.cell? ⟨w2.heap.size + 1 + 1, 5, none⟩ = some (.int .i64 n) ∧ w'.cell? ⟨w2.heap.size + 1 + 1, 6, none⟩ = some (.int .i64 i) ∧ w'.cell? ⟨w2.heap.size + 1 + 1, 7, none⟩ = some (.int .i64 p) ∧ w'.cell? ⟨w2.heap.size + 1 + 1, 8, none⟩ = some (.int .i64 k) ∧ w'.cell? ⟨w2.heap.size + 1 + 1, 9, none⟩ = some (.int .i64 t)) (by kernel_rfl) S0 (fun hH => ?_)
  clear S0
  clear hB x00 x01 x02 x03 x04 x05 x06 x07 x08 x09 x10 x11 x12 x13 x14 x15 v00 v01 v02 v03 v04 v05 v06 v07 v08 v09 v10 v11 v12 v13 v14 v15 v16 v17 v18 v19 v20 v21 v22 v23 v24 v25 v26 v27 v28 v29
  refine wpAnyH_take (i := 0) (oi := { dst := some 30, op := _, type := _, pos := _, after := _, guard := _ }) (v := ?_) rfl (by kernel_rfl) (by kernel_rfl) (by kernel_rfl) (fun _ _ _ h => h) (Or.inl ⟨by rfl, ?_⟩) hH ?_
  rotate_left
  · intro wz hSw
    (try dsimp only at hSw)
    first | (go_simp; done) | (go_simp; with_reducible rfl)
  try simp only [Act.put, List.setIfInBounds_toArray, List.set_cons_zero, List.set_cons_succ]
  refine wpAnyH_take (i := 1) (oi := { dst := some 31, op := _, type := _, pos := _, after := _, guard := _ }) (v := ?_) rfl (by kernel_rfl) (by kernel_rfl) (by kernel_rfl) (fun _ _ _ h => h) (Or.inl ⟨by rfl, ?_⟩) hH ?_
  rotate_left
  · intro wz hSw
    (try dsimp only at hSw)
    first | (go_simp; done) | (go_simp; with_reducible rfl)
  try simp only [Act.put, List.setIfInBounds_toArray, List.set_cons_zero, List.set_cons_succ]
  refine wpAnyH_take (i := 2) (oi := { dst := some 32, op := _, type := _, pos := _, after := _, guard := _ }) (v := ?_) rfl (by kernel_rfl) (by kernel_rfl) (by kernel_rfl) (fun _ _ _ h => h) (Or.inl ⟨by rfl, ?_⟩) hH ?_
  rotate_left
  · intro wz hSw
    (try dsimp only at hSw)
    first | (go_simp; done) | (go_simp; with_reducible rfl)
  try simp only [Act.put, List.setIfInBounds_toArray, List.set_cons_zero, List.set_cons_succ]
  refine wpAnyH_take (i := 3) (oi := { dst := some 33, op := _, type := _, pos := _, after := _, guard := _ }) (v := ?_) rfl (by kernel_rfl) (by kernel_rfl) (by kernel_rfl) (fun _ _ _ h => h) (Or.inl ⟨by rfl, ?_⟩) hH ?_
  rotate_left
  · intro wz hSw
    (try dsimp only at hSw)
    first | (go_simp; done) | (go_simp; with_reducible rfl)
  try simp only [Act.put, List.setIfInBounds_toArray, List.set_cons_zero, List.set_cons_succ]
  refine wpAnyH_take (i := 4) (oi := { dst := some 34, op := _, type := _, pos := _, after := _, guard := _ }) (v := undef) rfl (by kernel_rfl) (by kernel_rfl) (by kernel_rfl) (fun _ _ _ h => h) (Or.inr ⟨by rfl, rfl⟩) hH ?_
  try simp only [Act.put, List.setIfInBounds_toArray, List.set_cons_zero, List.set_cons_succ]
  refine wpAnyH_ready (rs := [5]) (by kernel_rfl) (by simp) ?_
  refine allReady_pass (o := { dst := some 35, op := _, type := _, pos := _, after := _, guard := _ }) rfl (by rfl) hH ?_ AllReadyH.nil
  try simp only [Act.put, List.setIfInBounds_toArray, List.set_cons_zero, List.set_cons_succ]
  refine wpAnyH_take (i := 6) (oi := { dst := some 36, op := _, type := _, pos := _, after := _, guard := _ }) (v := undef) rfl (by kernel_rfl) (by kernel_rfl) (by kernel_rfl) (fun _ _ _ h => h) (Or.inr ⟨by rfl, rfl⟩) hH ?_
  try simp only [Act.put, List.setIfInBounds_toArray, List.set_cons_zero, List.set_cons_succ]
  refine wpAnyH_take (i := 7) (oi := { dst := some 37, op := _, type := _, pos := _, after := _, guard := _ }) (v := ?_) rfl (by kernel_rfl) (by kernel_rfl) (by kernel_rfl) (fun _ _ _ h => h) (Or.inl ⟨by rfl, ?_⟩) hH ?_
  rotate_left
  · intro wz hSw
    (try dsimp only at hSw)
    first | (go_simp; done) | (go_simp; with_reducible rfl)
  try simp only [Act.put, List.setIfInBounds_toArray, List.set_cons_zero, List.set_cons_succ]
  refine wpAnyH_take (i := 8) (oi := { dst := some 38, op := _, type := _, pos := _, after := _, guard := _ }) (v := ?_) rfl (by kernel_rfl) (by kernel_rfl) (by kernel_rfl) (fun _ _ _ h => h) (Or.inl ⟨by rfl, ?_⟩) hH ?_
  rotate_left
  · intro wz hSw
    (try dsimp only at hSw)
    first | (go_simp; done) | (go_simp; with_reducible rfl)
  try simp only [Act.put, List.setIfInBounds_toArray, List.set_cons_zero, List.set_cons_succ]
  refine wpAnyH_take (i := 9) (oi := { dst := some 39, op := _, type := _, pos := _, after := _, guard := _ }) (v := ?_) rfl (by kernel_rfl) (by kernel_rfl) (by kernel_rfl) (fun _ _ _ h => h) (Or.inl ⟨by rfl, ?_⟩) hH ?_
  rotate_left
  · intro wz hSw
    (try dsimp only at hSw)
    first | (go_simp; done) | (go_simp; with_reducible rfl)
  try simp only [Act.put, List.setIfInBounds_toArray, List.set_cons_zero, List.set_cons_succ]
  refine wpAnyH_take (i := 10) (oi := { dst := some 40, op := _, type := _, pos := _, after := _, guard := _ }) (v := ?_) rfl (by kernel_rfl) (by kernel_rfl) (by kernel_rfl) (fun _ _ _ h => h) (Or.inl ⟨by rfl, ?_⟩) hH ?_
  rotate_left
  · intro wz hSw
    (try dsimp only at hSw)
    first | (go_simp; done) | (go_simp; with_reducible rfl)
  try simp only [Act.put, List.setIfInBounds_toArray, List.set_cons_zero, List.set_cons_succ]
  refine wpAnyH_take (i := 11) (oi := { dst := some 41, op := _, type := _, pos := _, after := _, guard := _ }) (v := ?_) rfl (by kernel_rfl) (by kernel_rfl) (by kernel_rfl) (fun _ _ _ h => h) (Or.inl ⟨by rfl, ?_⟩) hH ?_
  rotate_left
  · intro wz hSw
    (try dsimp only at hSw)
    first | (go_simp; done) | (go_simp; with_reducible rfl)
  try simp only [Act.put, List.setIfInBounds_toArray, List.set_cons_zero, List.set_cons_succ]
  refine wpAnyH_take (i := 12) (oi := { dst := some 42, op := _, type := _, pos := _, after := _, guard := _ }) (v := ?_) rfl (by kernel_rfl) (by kernel_rfl) (by kernel_rfl) (fun _ _ _ h => h) (Or.inl ⟨by rfl, ?_⟩) hH ?_
  rotate_left
  · intro wz hSw
    (try dsimp only at hSw)
    first | (go_simp; done) | (go_simp; with_reducible rfl)
  try simp only [Act.put, List.setIfInBounds_toArray, List.set_cons_zero, List.set_cons_succ]
  refine wpAnyH_take (i := 13) (oi := { dst := some 43, op := _, type := _, pos := _, after := _, guard := _ }) (v := ?_) rfl (by kernel_rfl) (by kernel_rfl) (by kernel_rfl) (fun _ _ _ h => h) (Or.inl ⟨by rfl, ?_⟩) hH ?_
  rotate_left
  · intro wz hSw
    (try dsimp only at hSw)
    first | (go_simp; done) | (go_simp; with_reducible rfl)
  try simp only [Act.put, List.setIfInBounds_toArray, List.set_cons_zero, List.set_cons_succ]
  refine wpAnyH_take (i := 14) (oi := { dst := some 44, op := _, type := _, pos := _, after := _, guard := _ }) (v := ?_) rfl (by kernel_rfl) (by kernel_rfl) (by kernel_rfl) (fun _ _ _ h => h) (Or.inl ⟨by rfl, ?_⟩) hH ?_
  rotate_left
  · intro wz hSw
    (try dsimp only at hSw)
    first | (go_simp; done) | (go_simp; with_reducible rfl)
  try simp only [Act.put, List.setIfInBounds_toArray, List.set_cons_zero, List.set_cons_succ]
  refine wpAnyH_take (i := 15) (oi := { dst := some 45, op := _, type := _, pos := _, after := _, guard := _ }) (v := ?_) rfl (by kernel_rfl) (by kernel_rfl) (by kernel_rfl) (fun _ _ _ h => h) (Or.inl ⟨by rfl, ?_⟩) hH ?_
  rotate_left
  · intro wz hSw
    (try dsimp only at hSw)
    first | (go_simp; done) | (go_simp; with_reducible rfl)
  try simp only [Act.put, List.setIfInBounds_toArray, List.set_cons_zero, List.set_cons_succ]
  refine wpAnyH_take (i := 16) (oi := { dst := some 46, op := _, type := _, pos := _, after := _, guard := _ }) (v := ?_) rfl (by kernel_rfl) (by kernel_rfl) (by kernel_rfl) (fun _ _ _ h => h) (Or.inl ⟨by rfl, ?_⟩) hH ?_
  rotate_left
  · intro wz hSw
    (try dsimp only at hSw)
    first | (go_simp; done) | (go_simp; with_reducible rfl)
  try simp only [Act.put, List.setIfInBounds_toArray, List.set_cons_zero, List.set_cons_succ]
  refine wpAnyH_take (i := 17) (oi := { dst := some 47, op := _, type := _, pos := _, after := _, guard := _ }) (v := ?_) rfl (by kernel_rfl) (by kernel_rfl) (by kernel_rfl) (fun _ _ _ h => h) (Or.inl ⟨by rfl, ?_⟩) hH ?_
  rotate_left
  · intro wz hSw
    (try dsimp only at hSw)
    first | (go_simp; done) | (go_simp; with_reducible rfl)
  try simp only [Act.put, List.setIfInBounds_toArray, List.set_cons_zero, List.set_cons_succ]
  refine wpAnyH_take (i := 18) (oi := { dst := some 48, op := _, type := _, pos := _, after := _, guard := _ }) (v := undef) rfl (by kernel_rfl) (by kernel_rfl) (by kernel_rfl) (fun _ _ _ h => h) (Or.inr ⟨by rfl, rfl⟩) hH ?_
  try simp only [Act.put, List.setIfInBounds_toArray, List.set_cons_zero, List.set_cons_succ]
  refine wpAnyH_ready (rs := [19]) (by kernel_rfl) (by simp) ?_
  refine allReady_pass (o := { dst := some 49, op := _, type := _, pos := _, after := _, guard := _ }) rfl (by rfl) hH ?_ AllReadyH.nil
  try simp only [Act.put, List.setIfInBounds_toArray, List.set_cons_zero, List.set_cons_succ]
  refine wpAnyH_take (i := 20) (oi := { dst := some 50, op := _, type := _, pos := _, after := _, guard := _ }) (v := undef) rfl (by kernel_rfl) (by kernel_rfl) (by kernel_rfl) (fun _ _ _ h => h) (Or.inr ⟨by rfl, rfl⟩) hH ?_
  try simp only [Act.put, List.setIfInBounds_toArray, List.set_cons_zero, List.set_cons_succ]
  refine wpAnyH_take (i := 21) (oi := { dst := some 51, op := _, type := _, pos := _, after := _, guard := _ }) (v := ?_) rfl (by kernel_rfl) (by kernel_rfl) (by kernel_rfl) (fun _ _ _ h => h) (Or.inl ⟨by rfl, ?_⟩) hH ?_
  rotate_left
  · intro wz hSw
    (try dsimp only at hSw)
    first | (go_simp; done) | (go_simp; with_reducible rfl)
  try simp only [Act.put, List.setIfInBounds_toArray, List.set_cons_zero, List.set_cons_succ]
  refine wpAnyH_take (i := 22) (oi := { dst := some 52, op := _, type := _, pos := _, after := _, guard := _ }) (v := ?_) rfl (by kernel_rfl) (by kernel_rfl) (by kernel_rfl) (fun _ _ _ h => h) (Or.inl ⟨by rfl, ?_⟩) hH ?_
  rotate_left
  · intro wz hSw
    (try dsimp only at hSw)
    first | (go_simp; done) | (go_simp; with_reducible rfl)
  try simp only [Act.put, List.setIfInBounds_toArray, List.set_cons_zero, List.set_cons_succ]
  refine wpAnyH_take (i := 23) (oi := { dst := some 53, op := _, type := _, pos := _, after := _, guard := _ }) (v := ?_) rfl (by kernel_rfl) (by kernel_rfl) (by kernel_rfl) (fun _ _ _ h => h) (Or.inl ⟨by rfl, ?_⟩) hH ?_
  rotate_left
  · intro wz hSw
    (try dsimp only at hSw)
    first | (go_simp; done) | (go_simp; with_reducible rfl)
  try simp only [Act.put, List.setIfInBounds_toArray, List.set_cons_zero, List.set_cons_succ]
  refine wpAnyH_take (i := 24) (oi := { dst := some 54, op := _, type := _, pos := _, after := _, guard := _ }) (v := ?_) rfl (by kernel_rfl) (by kernel_rfl) (by kernel_rfl) (fun _ _ _ h => h) (Or.inl ⟨by rfl, ?_⟩) hH ?_
  rotate_left
  · intro wz hSw
    (try dsimp only at hSw)
    first | (go_simp; done) | (go_simp; with_reducible rfl)
  try simp only [Act.put, List.setIfInBounds_toArray, List.set_cons_zero, List.set_cons_succ]
  refine wpAnyH_take (i := 26) (oi := { dst := some 56, op := _, type := _, pos := _, after := _, guard := _ }) (v := ?_) rfl (by kernel_rfl) (by kernel_rfl) (by kernel_rfl) (fun _ _ _ h => h) (Or.inl ⟨by rfl, ?_⟩) hH ?_
  rotate_left
  · intro wz hSw
    (try dsimp only at hSw)
    first | (go_simp; done) | (go_simp; with_reducible rfl)
  try simp only [Act.put, List.setIfInBounds_toArray, List.set_cons_zero, List.set_cons_succ]
  refine wpAnyH_take (i := 27) (oi := { dst := some 57, op := _, type := _, pos := _, after := _, guard := _ }) (v := ?_) rfl (by kernel_rfl) (by kernel_rfl) (by kernel_rfl) (fun _ _ _ h => h) (Or.inl ⟨by rfl, ?_⟩) hH ?_
  rotate_left
  · intro wz hSw
    (try dsimp only at hSw)
    first | (go_simp; done) | (go_simp; with_reducible rfl)
  try simp only [Act.put, List.setIfInBounds_toArray, List.set_cons_zero, List.set_cons_succ]
  refine wpAnyH_take (i := 28) (oi := { dst := some 58, op := _, type := _, pos := _, after := _, guard := _ }) (v := ?_) rfl (by kernel_rfl) (by kernel_rfl) (by kernel_rfl) (fun _ _ _ h => h) (Or.inl ⟨by rfl, ?_⟩) hH ?_
  rotate_left
  · intro wz hSw
    (try dsimp only at hSw)
    first | (go_simp; done) | (go_simp; with_reducible rfl)
  try simp only [Act.put, List.setIfInBounds_toArray, List.set_cons_zero, List.set_cons_succ]
  refine wpAnyH_ready (rs := [25]) (by kernel_rfl) (by simp) ?_
  refine AllReadyH.cons (o := { dst := some 55, op := _, type := _, pos := _, after := _, guard := _ }) rfl (fun K hK => ?_) AllReadyH.nil
  go_simp
  refine (mMay_any 2 z 0 g a n i p k t _ hH.2.1).mono ?_
  rw [hS0]
  rintro e wq25 ⟨rfl, hbq⟩
  go_wp2_with fail
  refine hK.out _ _ (kept_kinds hH hbq) (fun hH2 => ?_)
  clear hK K hH hbq
  have hH := hH2
  clear hH2
  try simp only [Act.put, List.setIfInBounds_toArray, List.set_cons_zero, List.set_cons_succ]
  refine wpAnyH_take (i := 29) (oi := { dst := some 59, op := _, type := _, pos := _, after := _, guard := _ }) (v := ?_) rfl (by kernel_rfl) (by kernel_rfl) (by kernel_rfl) (fun _ _ _ h => h) (Or.inl ⟨by rfl, ?_⟩) hH ?_
  rotate_left
  · intro wz hSw
    (try dsimp only at hSw)
    first | (go_simp; done) | (go_simp; with_reducible rfl)
  try simp only [Act.put, List.setIfInBounds_toArray, List.set_cons_zero, List.set_cons_succ]
  refine wpAnyH_take (i := 30) (oi := { dst := some 60, op := _, type := _, pos := _, after := _, guard := _ }) (v := ?_) rfl (by kernel_rfl) (by kernel_rfl) (by kernel_rfl) (fun _ _ _ h => h) (Or.inl ⟨by rfl, ?_⟩) hH ?_
  rotate_left
  · intro wz hSw
    (try dsimp only at hSw)
    first | (go_simp; done) | (go_simp; with_reducible rfl)
  try simp only [Act.put, List.setIfInBounds_toArray, List.set_cons_zero, List.set_cons_succ]
  refine wpAnyH_take (i := 31) (oi := { dst := some 61, op := _, type := _, pos := _, after := _, guard := _ }) (v := ?_) rfl (by kernel_rfl) (by kernel_rfl) (by kernel_rfl) (fun _ _ _ h => h) (Or.inl ⟨by rfl, ?_⟩) hH ?_
  rotate_left
  · intro wz hSw
    (try dsimp only at hSw)
    first | (go_simp; done) | (go_simp; with_reducible rfl)
  try simp only [Act.put, List.setIfInBounds_toArray, List.set_cons_zero, List.set_cons_succ]
  refine wpAnyH_take (i := 32) (oi := { dst := some 62, op := _, type := _, pos := _, after := _, guard := _ }) (v := ?_) rfl (by kernel_rfl) (by kernel_rfl) (by kernel_rfl) (fun _ _ _ h => h) (Or.inl ⟨by rfl, ?_⟩) hH ?_
  rotate_left
  · intro wz hSw
    (try dsimp only at hSw)
    first | (go_simp; done) | (go_simp; with_reducible rfl)
  try simp only [Act.put, List.setIfInBounds_toArray, List.set_cons_zero, List.set_cons_succ]
  refine wpAnyH_take (i := 33) (oi := { dst := some 63, op := _, type := _, pos := _, after := _, guard := _ }) (v := ?_) rfl (by kernel_rfl) (by kernel_rfl) (by kernel_rfl) (fun _ _ _ h => h) (Or.inl ⟨by rfl, ?_⟩) hH ?_
  rotate_left
  · intro wz hSw
    (try dsimp only at hSw)
    first | (go_simp; done) | (go_simp; with_reducible rfl)
  try simp only [Act.put, List.setIfInBounds_toArray, List.set_cons_zero, List.set_cons_succ]
  refine wpAnyH_take (i := 34) (oi := { dst := some 64, op := _, type := _, pos := _, after := _, guard := _ }) (v := ?_) rfl (by kernel_rfl) (by kernel_rfl) (by kernel_rfl) (fun _ _ _ h => h) (Or.inl ⟨by rfl, ?_⟩) hH ?_
  rotate_left
  · intro wz hSw
    (try dsimp only at hSw)
    first | (go_simp; done) | (go_simp; with_reducible rfl)
  try simp only [Act.put, List.setIfInBounds_toArray, List.set_cons_zero, List.set_cons_succ]
  refine wpAnyH_take (i := 35) (oi := { dst := some 65, op := _, type := _, pos := _, after := _, guard := _ }) (v := ?_) rfl (by kernel_rfl) (by kernel_rfl) (by kernel_rfl) (fun _ _ _ h => h) (Or.inl ⟨by rfl, ?_⟩) hH ?_
  rotate_left
  · intro wz hSw
    (try dsimp only at hSw)
    first | (go_simp; done) | (go_simp; with_reducible rfl)
  try simp only [Act.put, List.setIfInBounds_toArray, List.set_cons_zero, List.set_cons_succ]
  refine wpAnyH_take (i := 36) (oi := { dst := some 4, op := _, type := _, pos := _, after := _, guard := _ }) (v := ?_) rfl (by kernel_rfl) (by kernel_rfl) (by kernel_rfl) (fun _ _ _ h => h) (Or.inl ⟨by rfl, ?_⟩) hH ?_
  rotate_left
  · intro wz hSw
    (try dsimp only at hSw)
    first | (go_simp; done) | (go_simp; with_reducible rfl)
  try simp only [Act.put, List.setIfInBounds_toArray, List.set_cons_zero, List.set_cons_succ]
  refine wpAnyH_done (by kernel_rfl) ?_ _
  refine NoPanic.normal ?_
  go_wp2_with fail
  go_ret
  exact ⟨rfl, hH.1⟩
set_option maxHeartbeats 4000000 in
theorem kinds_3 (z v g a n i p k t ra rn ri rp rk rt : Int) (w : World) (T : Tab w)
    (cM : ∀ w, Tab w → Calls Tryd.prog 13 #[.agg #[.int .i64 3, .int .i64 z, .int .i64 v, .int .i64 g, .int .i64 a, .int .i64 n, .int .i64 i, .int .i64 p, .int .i64 k, .int .i64 t]] w fun e w' => e = .returned (.bool true) ∧ Below w.heap.size w w')
    (hq : ∀ w, (binOp .eql 27 (.agg #[.int .i64 ra, .int .i64 rn, .int .i64 ri, .int .i64 rp, .int .i64 rk, .int .i64 rt]) (.agg #[.int .i64 0, .int .i64 0, .int .i64 0, .int .i64 0, .int .i64 0, .int .i64 0])).run Tryd.prog w = .ok (.bool false) w)
    (hA : okM 3 z v g ra rn ri rp rk rt = false)
    (hS0 : okM 3 z 0 g a n i p k t = false) :
    Calls Tryd.prog 7 #[.agg #[.int .i64 3, .int .i64 z, .int .i64 v, .int .i64 g, .int .i64 a, .int .i64 n, .int .i64 i, .int .i64 p, .int .i64 k, .int .i64 t], .agg #[.int .i64 ra, .int .i64 rn, .int .i64 ri, .int .i64 rp, .int .i64 rk, .int .i64 rt]] w fun e w' => e = .returned (.bool true) ∧ Below w.heap.size w w' := by
  have hn0 := below_new w (.cells #[.int .i64 3, .int .i64 z, .int .i64 v, .int .i64 g, .int .i64 a, .int .i64 n, .int .i64 i, .int .i64 p, .int .i64 k, .int .i64 t] 29)
  have X0 := Lies.new w [3, z, v, g, a, n, i, p, k, t] 29 (B := w.heap.size) rfl
  have hB := hn0
  have hn1 := below_new (w.alloc (.cells #[.int .i64 3, .int .i64 z, .int .i64 v, .int .i64 g, .int .i64 a, .int .i64 n, .int .i64 i, .int .i64 p, .int .i64 k, .int .i64 t] 29)) (.cells #[.int .i64 ra, .int .i64 rn, .int .i64 ri, .int .i64 rp, .int .i64 rk, .int .i64 rt] 27)
  have X1 := Lies.new (w.alloc (.cells #[.int .i64 3, .int .i64 z, .int .i64 v, .int .i64 g, .int .i64 a, .int .i64 n, .int .i64 i, .int .i64 p, .int .i64 k, .int .i64 t] 29)) [ra, rn, ri, rp, rk, rt] 27 (B := w.heap.size + 1) (by simp)
  replace X0 := X0.later hn1
  replace hB := below_step hB hn1
  clear hn0 hn1
  obtain ⟨x00, x01, x02, x03, x04, x05, x06, x07, x08, x09⟩ := X0.ten
  obtain ⟨x10, x11, x12, x13, x14, x15⟩ := X1.six
  replace T := T.later hB
  go_enter Tryd.func7, Tryd.ntmps7
  go_wp2_with fail
  refine (awake_any _ T).mono ?_
  rintro e w1 ⟨rfl, hb1⟩
  clear x00 x01 x02 x03 x04 x05 x06 x07 x08 x09
  clear x10 x11 x12 x13 x14 x15
  replace X0 := X0.later hb1
  replace X1 := X1.later hb1
  replace T := T.later hb1
  replace hB := below_step hB hb1
  clear hb1
  obtain ⟨x00, x01, x02, x03, x04, x05, x06, x07, x08, x09⟩ := X0.ten
  obtain ⟨x10, x11, x12, x13, x14, x15⟩ := X1.six
  go_wp2_with fail
  refine (cM _ T).mono ?_
  rintro e w2 ⟨rfl, hb2⟩
  clear x00 x01 x02 x03 x04 x05 x06 x07 x08 x09
  clear x10 x11 x12 x13 x14 x15
  replace X0 := X0.later hb2
  replace X1 := X1.later hb2
  replace T := T.later hb2
  replace hB := below_step hB hb2
  clear hb2
  obtain ⟨x00, x01, x02, x03, x04, x05, x06, x07, x08, x09⟩ := X0.ten
  obtain ⟨x10, x11, x12, x13, x14, x15⟩ := X1.six
  have hq0 := below_new w2 (.cells #[.int .i64 3, .int .i64 z, .int .i64 v, .int .i64 g, .int .i64 a, .int .i64 n, .int .i64 i, .int .i64 p, .int .i64 k, .int .i64 t] 29)
  obtain ⟨x0q0, x0q1, x0q2, x0q3, x0q4, x0q5, x0q6, x0q7, x0q8, x0q9⟩ := (X0.later hq0).ten
  obtain ⟨x1q0, x1q1, x1q2, x1q3, x1q4, x1q5⟩ := (X1.later hq0).six
  clear hq0
  have hv0 := below_new w2 (.cells #[.int .i64 3, .int .i64 z, .int .i64 v, .int .i64 g, .int .i64 ra, .int .i64 rn, .int .i64 ri, .int .i64 rp, .int .i64 rk, .int .i64 rt] 29)
  replace X0 := X0.later hv0
  replace X1 := X1.later hv0
  replace T := T.later hv0
  replace hB := below_step hB hv0
  clear hv0
  have V0 := Lies.new w2 [3, z, v, g, ra, rn, ri, rp, rk, rt] 29 (B := w2.heap.size) rfl
  obtain ⟨x00, x01, x02, x03, x04, x05, x06, x07, x08, x09⟩ := X0.ten
  obtain ⟨x10, x11, x12, x13, x14, x15⟩ := X1.six
  obtain ⟨v00, v01, v02, v03, v04, v05, v06, v07, v08, v09⟩ := V0.ten
  have hq1 := below_new (w2.alloc (.cells #[.int .i64 3, .int .i64 z, .int .i64 v, .int .i64 g, .int .i64 ra, .int .i64 rn, .int .i64 ri, .int .i64 rp, .int .i64 rk, .int .i64 rt] 29)) (.cells #[.int .i64 3, .int .i64 z, .int .i64 v, .int .i64 g, .int .i64 a, .int .i64 n, .int .i64 i, .int .i64 p, .int .i64 k, .int .i64 t] 29)
  obtain ⟨x0q0, x0q1, x0q2, x0q3, x0q4, x0q5, x0q6, x0q7, x0q8, x0q9⟩ := (X0.later hq1).ten
  obtain ⟨x1q0, x1q1, x1q2, x1q3, x1q4, x1q5⟩ := (X1.later hq1).six
  obtain ⟨v0q0, v0q1, v0q2, v0q3, v0q4, v0q5, v0q6, v0q7, v0q8, v0q9⟩ := (V0.later hq1).ten
  clear hq1
  have hv1 := below_new (w2.alloc (.cells #[.int .i64 3, .int .i64 z, .int .i64 v, .int .i64 g, .int .i64 ra, .int .i64 rn, .int .i64 ri, .int .i64 rp, .int .i64 rk, .int .i64 rt] 29)) (.cells #[.int .i64 3, .int .i64 z, .int .i64 v, .int .i64 7, .int .i64 a, .int .i64 n, .int .i64 i, .int .i64 p, .int .i64 k, .int .i64 t] 29)
  replace X0 := X0.later hv1
  replace X1 := X1.later hv1
  replace V0 := V0.later hv1
  replace T := T.later hv1
  replace hB := below_step hB hv1
  clear hv1
  have V1 := Lies.new (w2.alloc (.cells #[.int .i64 3, .int .i64 z, .int .i64 v, .int .i64 g, .int .i64 ra, .int .i64 rn, .int .i64 ri, .int .i64 rp, .int .i64 rk, .int .i64 rt] 29)) [3, z, v, 7, a, n, i, p, k, t] 29 (B := w2.heap.size + 1) (by simp)
  obtain ⟨x00, x01, x02, x03, x04, x05, x06, x07, x08, x09⟩ := X0.ten
  obtain ⟨x10, x11, x12, x13, x14, x15⟩ := X1.six
  obtain ⟨v00, v01, v02, v03, v04, v05, v06, v07, v08, v09⟩ := V0.ten
  obtain ⟨v10, v11, v12, v13, v14, v15, v16, v17, v18, v19⟩ := V1.ten
  have hq2 := below_new ((w2.alloc (.cells #[.int .i64 3, .int .i64 z, .int .i64 v, .int .i64 g, .int .i64 ra, .int .i64 rn, .int .i64 ri, .int .i64 rp, .int .i64 rk, .int .i64 rt] 29)).alloc (.cells #[.int .i64 3, .int .i64 z, .int .i64 v, .int .i64 7, .int .i64 a, .int .i64 n, .int .i64 i, .int .i64 p, .int .i64 k, .int .i64 t] 29)) (.cells #[.int .i64 3, .int .i64 z, .int .i64 v, .int .i64 g, .int .i64 a, .int .i64 n, .int .i64 i, .int .i64 p, .int .i64 k, .int .i64 t] 29)
  obtain ⟨x0q0, x0q1, x0q2, x0q3, x0q4, x0q5, x0q6, x0q7, x0q8, x0q9⟩ := (X0.later hq2).ten
  obtain ⟨x1q0, x1q1, x1q2, x1q3, x1q4, x1q5⟩ := (X1.later hq2).six
  obtain ⟨v0q0, v0q1, v0q2, v0q3, v0q4, v0q5, v0q6, v0q7, v0q8, v0q9⟩ := (V0.later hq2).ten
  obtain ⟨v1q0, v1q1, v1q2, v1q3, v1q4, v1q5, v1q6, v1q7, v1q8, v1q9⟩ := (V1.later hq2).ten
  clear hq2
  have hv2 := below_new ((w2.alloc (.cells #[.int .i64 3, .int .i64 z, .int .i64 v, .int .i64 g, .int .i64 ra, .int .i64 rn, .int .i64 ri, .int .i64 rp, .int .i64 rk, .int .i64 rt] 29)).alloc (.cells #[.int .i64 3, .int .i64 z, .int .i64 v, .int .i64 7, .int .i64 a, .int .i64 n, .int .i64 i, .int .i64 p, .int .i64 k, .int .i64 t] 29)) (.cells #[.int .i64 3, .int .i64 z, .int .i64 0, .int .i64 g, .int .i64 a, .int .i64 n, .int .i64 i, .int .i64 p, .int .i64 k, .int .i64 t] 29)
  replace X0 := X0.later hv2
  replace X1 := X1.later hv2
  replace V0 := V0.later hv2
  replace V1 := V1.later hv2
  replace T := T.later hv2
  replace hB := below_step hB hv2
  clear hv2
  have V2 := Lies.new ((w2.alloc (.cells #[.int .i64 3, .int .i64 z, .int .i64 v, .int .i64 g, .int .i64 ra, .int .i64 rn, .int .i64 ri, .int .i64 rp, .int .i64 rk, .int .i64 rt] 29)).alloc (.cells #[.int .i64 3, .int .i64 z, .int .i64 v, .int .i64 7, .int .i64 a, .int .i64 n, .int .i64 i, .int .i64 p, .int .i64 k, .int .i64 t] 29)) [3, z, 0, g, a, n, i, p, k, t] 29 (B := w2.heap.size + 1 + 1) (by simp)
  obtain ⟨x00, x01, x02, x03, x04, x05, x06, x07, x08, x09⟩ := X0.ten
  obtain ⟨x10, x11, x12, x13, x14, x15⟩ := X1.six
  obtain ⟨v00, v01, v02, v03, v04, v05, v06, v07, v08, v09⟩ := V0.ten
  obtain ⟨v10, v11, v12, v13, v14, v15, v16, v17, v18, v19⟩ := V1.ten
  obtain ⟨v20, v21, v22, v23, v24, v25, v26, v27, v28, v29⟩ := V2.ten
  have S0 : Below w.heap.size w (((w2.alloc (.cells #[.int .i64 3, .int .i64 z, .int .i64 v, .int .i64 g, .int .i64 ra, .int .i64 rn, .int .i64 ri, .int .i64 rp, .int .i64 rk, .int .i64 rt] 29)).alloc (.cells #[.int .i64 3, .int .i64 z, .int .i64 v, .int .i64 7, .int .i64 a, .int .i64 n, .int .i64 i, .int .i64 p, .int .i64 k, .int .i64 t] 29)).alloc (.cells #[.int .i64 3, .int .i64 z, .int .i64 0, .int .i64 g, .int .i64 a, .int .i64 n, .int .i64 i, .int .i64 p, .int .i64 k, .int .i64 t] 29)).drew ∧ Tab (((w2.alloc (.cells #[.int .i64 3, .int .i64 z, .int .i64 v, .int .i64 g, .int .i64 ra, .int .i64 rn, .int .i64 ri, .int .i64 rp, .int .i64 rk, .int .i64 rt] 29)).alloc (.cells #[.int .i64 3, .int .i64 z, .int .i64 v, .int .i64 7, .int .i64 a, .int .i64 n, .int .i64 i, .int .i64 p, .int .i64 k, .int .i64 t] 29)).alloc (.cells #[.int .i64 3, .int .i64 z, .int .i64 0, .int .i64 g, .int .i64 a, .int .i64 n, .int .i64 i, .int .i64 p, .int .i64 k, .int .i64 t] 29)).drew ∧ w.heap.size < (((w2.alloc (.cells #[.int .i64 3, .int .i64 z, .int .i64 v, .int .i64 g, .int .i64 ra, .int .i64 rn, .int .i64 ri, .int .i64 rp, .int .i64 rk, .int .i64 rt] 29)).alloc (.cells #[.int .i64 3, .int .i64 z, .int .i64 v, .int .i64 7, .int .i64 a, .int .i64 n, .int .i64 i, .int .i64 p, .int .i64 k, .int .i64 t] 29)).alloc (.cells #[.int .i64 3, .int .i64 z, .int .i64 0, .int .i64 g, .int .i64 a, .int .i64 n, .int .i64 i, .int .i64 p, .int .i64 k, .int .i64 t] 29)).drew.heap.size ∧ w2.heap.size < (((w2.alloc (.cells #[.int .i64 3, .int .i64 z, .int .i64 v, .int .i64 g, .int .i64 ra, .int .i64 rn, .int .i64 ri, .int .i64 rp, .int .i64 rk, .int .i64 rt] 29)).alloc (.cells #[.int .i64 3, .int .i64 z, .int .i64 v, .int .i64 7, .int .i64 a, .int .i64 n, .int .i64 i, .int .i64 p, .int .i64 k, .int .i64 t] 29)).alloc (.cells #[.int .i64 3, .int .i64 z, .int .i64 0, .int .i64 g, .int .i64 a, .int .i64 n, .int .i64 i, .int .i64 p, .int .i64 k, .int .i64 t] 29)).drew.heap.size ∧ w2.heap.size + 1 < (((w2.alloc (.cells #[.int .i64 3, .int .i64 z, .int .i64 v, .int .i64 g, .int .i64 ra, .int .i64 rn, .int .i64 ri, .int .i64 rp, .int .i64 rk, .int .i64 rt] 29)).alloc (.cells #[.int .i64 3, .int .i64 z, .int .i64 v, .int .i64 7, .int .i64 a, .int .i64 n, .int .i64 i, .int .i64 p, .int .i64 k, .int .i64 t] 29)).alloc (.cells #[.int .i64 3, .int .i64 z, .int .i64 0, .int .i64 g, .int .i64 a, .int .i64 n, .int .i64 i, .int .i64 p, .int .i64 k, .int .i64 t] 29)).drew.heap.size ∧ w2.heap.size + 1 + 1 < (((w2.alloc (.cells #[.int .i64 3, .int .i64 z, .int .i64 v, .int .i64 g, .int .i64 ra, .int .i64 rn, .int .i64 ri, .int .i64 rp, .int .i64 rk, .int .i64 rt] 29)).alloc (.cells #[.int .i64 3, .int .i64 z, .int .i64 v, .int .i64 7, .int .i64 a, .int .i64 n, .int .i64 i, .int .i64 p, .int .i64 k, .int .i64 t] 29)).alloc (.cells #[.int .i64 3, .int .i64 z, .int .i64 0, .int .i64 g, .int .i64 a, .int .i64 n, .int .i64 i, .int .i64 p, .int .i64 k, .int .i64 t] 29)).drew.heap.size ∧ (((w2.alloc (.cells #[.int .i64 3, .int .i64 z, .int .i64 v, .int .i64 g, .int .i64 ra, .int .i64 rn, .int .i64 ri, .int .i64 rp, .int .i64 rk, .int .i64 rt] 29)).alloc (.cells #[.int .i64 3, .int .i64 z, .int .i64 v, .int .i64 7, .int .i64 a, .int .i64 n, .int .i64 i, .int .i64 p, .int .i64 k, .int .i64 t] 29)).alloc (.cells #[.int .i64 3, .int .i64 z, .int .i64 0, .int .i64 g, .int .i64 a, .int .i64 n, .int .i64 i, .int .i64 p, .int .i64 k, .int .i64 t] 29)).drew.cell? ⟨w.heap.size, 0, none⟩ = some (.int .i64 3) ∧ (((w2.alloc (.cells #[.int .i64 3, .int .i64 z, .int .i64 v, .int .i64 g, .int .i64 ra, .int .i64 rn, .int .i64 ri, .int .i64 rp, .int .i64 rk, .int .i64 rt] 29)).alloc (.cells #[.int .i64 3, .int .i64 z, .int .i64 v, .int .i64 7, .int .i64 a, .int .i64 n, .int .i64 i, .int .i64 p, .int .i64 k, .int .i64 t] 29)).alloc (.cells #[.int .i64 3, .int .i64 z, .int .i64 0, .int .i64 g, .int .i64 a, .int .i64 n, .int .i64 i, .int .i64 p, .int .i64 k, .int .i64 t] 29)).drew.cell? ⟨w2.heap.size, 0, none⟩ = some (.int .i64 3) ∧ (((w2.alloc (.cells #[.int .i64 3, .int .i64 z, .int .i64 v, .int .i64 g, .int .i64 ra, .int .i64 rn, .int .i64 ri, .int .i64 rp, .int .i64 rk, .int .i64 rt] 29)).alloc (.cells #[.int .i64 3, .int .i64 z, .int .i64 v, .int .i64 7, .int .i64 a, .int .i64 n, .int .i64 i, .int .i64 p, .int .i64 k, .int .i64 t] 29)).alloc (.cells #[.int .i64 3, .int .i64 z, .int .i64 0, .int .i64 g, .int .i64 a, .int .i64 n, .int .i64 i, .int .i64 p, .int .i64 k, .int .i64 t] 29)).drew.cell? ⟨w2.heap.size, 1, none⟩ = some (.int .i64 z) ∧ (((w2.alloc (.cells #[.int .i64 3, .int .i64 z, .int .i64 v, .int .i64 g, .int .i64 ra, .int .i64 rn, .int .i64 ri, .int .i64 rp, .int .i64 rk, .int .i64 rt] 29)).alloc (.cells #[.int .i64 3, .int .i64 z, .int .i64 v, .int .i64 7, .int .i64 a, .int .i64 n, .int .i64 i, .int .i64 p, .int .i64 k, .int .i64 t] 29)).alloc (.cells #[.int .i64 3, .int .i64 z, .int .i64 0, .int .i64 g, .int .i64 a, .int .i64 n, .int .i64 i, .int .i64 p, .int .i64 k, .int .i64 t] 29)).drew.cell? ⟨w2.heap.size, 2, none⟩ = some (.int .i64 v) ∧ (((w2.alloc (.cells #[.int .i64 3, .int .i64 z, .int .i64 v, .int .i64 g, .int .i64 ra, .int .i64 rn, .int .i64 ri, .int .i64 rp, .int .i64 rk, .int .i64 rt] 29)).alloc (.cells #[.int .i64 3, .int .i64 z, .int .i64 v, .int .i64 7, .int .i64 a, .int .i64 n, .int .i64 i, .int .i64 p, .int .i64 k, .int .i64 t] 29)).alloc (.cells #[.int .i64 3, .int .i64 z, .int .i64 0, .int .i64 g, .int .i64 a, .int .i64 n, .int .i64 i, .int .i64 p, .int .i64 k, .int .i64 t] 29)).drew.cell? ⟨w2.heap.size, 3, none⟩ = some (.int .i64 g) ∧ (((w2.alloc (.cells #[.int .i64 3, .int .i64 z, .int .i64 v, .int .i64 g, .int .i64 ra, .int .i64 rn, .int .i64 ri, .int .i64 rp, .int .i64 rk, .int .i64 rt] 29)).alloc (.cells #[.int .i64 3, .int .i64 z, .int .i64 v, .int .i64 7, .int .i64 a, .int .i64 n, .int .i64 i, .int .i64 p, .int .i64 k, .int .i64 t] 29)).alloc (.cells #[.int .i64 3, .int .i64 z, .int .i64 0, .int .i64 g, .int .i64 a, .int .i64 n, .int .i64 i, .int .i64 p, .int .i64 k, .int .i64 t] 29)).drew.cell? ⟨w2.heap.size, 4, none⟩ = some (.int .i64 ra) ∧ (((w2.alloc (.cells #[.int .i64 3, .int .i64 z, .int .i64 v, .int .i64 g, .int .i64 ra, .int .i64 rn, .int .i64 ri, .int .i64 rp, .int .i64 rk, .int .i64 rt] 29)).alloc (.cells #[.int .i64 3, .int .i64 z, .int .i64 v, .int .i64 7, .int .i64 a, .int .i64 n, .int .i64 i, .int .i64 p, .int .i64 k, .int .i64 t] 29)).alloc (.cells #[.int .i64 3, .int .i64 z, .int .i64 0, .int .i64 g, .int .i64 a, .int .i64 n, .int .i64 i, .int .i64 p, .int .i64 k, .int .i64 t] 29)).drew.cell? ⟨w2.heap.size, 5, none⟩ = some (.int .i64 rn) ∧ (((w2.alloc (.cells #[.int .i64 3, .int .i64 z, .int .i64 v, .int .i64 g, .int .i64 ra, .int .i64 rn, .int .i64 ri, .int .i64 rp, .int .i64 rk, .int .i64 rt] 29)).alloc (.cells #[.int .i64 3, .int .i64 z, .int .i64 v, .int .i64 7, .int .i64 a, .int .i64 n, .int .i64 i, .int .i64 p, .int .i64 k, .int .i64 t] 29)).alloc (.cells #[.int .i64 3, .int .i64 z, .int .i64 0, .int .i64 g, .int .i64 a, .int .i64 n, .int .i64 i, .int .i64 p, .int .i64 k, .int .i64 t] 29)).drew.cell? ⟨w2.heap.size, 6, none⟩ = some (.int .i64 ri) ∧ (((w2.alloc (.cells #[.int .i64 3, .int .i64 z, .int .i64 v, .int .i64 g, .int .i64 ra, .int .i64 rn, .int .i64 ri, .int .i64 rp, .int .i64 rk, .int .i64 rt] 29)).alloc (.cells #[.int .i64 3, .int .i64 z, .int .i64 v, .int .i64 7, .int .i64 a, .int .i64 n, .int .i64 i, .int .i64 p, .int .i64 k, .int .i64 t] 29)).alloc (.cells #[.int .i64 3, .int .i64 z, .int .i64 0, .int .i64 g, .int .i64 a, .int .i64 n, .int .i64 i, .int .i64 p, .int .i64 k, .int .i64 t] 29)).drew.cell? ⟨w2.heap.size, 7, none⟩ = some (.int .i64 rp) ∧ (((w2.alloc (.cells #[.int .i64 3, .int .i64 z, .int .i64 v, .int .i64 g, .int .i64 ra, .int .i64 rn, .int .i64 ri, .int .i64 rp, .int .i64 rk, .int .i64 rt] 29)).alloc (.cells #[.int .i64 3, .int .i64 z, .int .i64 v, .int .i64 7, .int .i64 a, .int .i64 n, .int .i64 i, .int .i64 p, .int .i64 k, .int .i64 t] 29)).alloc (.cells #[.int .i64 3, .int .i64 z, .int .i64 0, .int .i64 g, .int .i64 a, .int .i64 n, .int .i64 i, .int .i64 p, .int .i64 k, .int .i64 t] 29)).drew.cell? ⟨w2.heap.size, 8, none⟩ = some (.int .i64 rk) ∧ (((w2.alloc (.cells #[.int .i64 3, .int .i64 z, .int .i64 v, .int .i64 g, .int .i64 ra, .int .i64 rn, .int .i64 ri, .int .i64 rp, .int .i64 rk, .int .i64 rt] 29)).alloc (.cells #[.int .i64 3, .int .i64 z, .int .i64 v, .int .i64 7, .int .i64 a, .int .i64 n, .int .i64 i, .int .i64 p, .int .i64 k, .int .i64 t] 29)).alloc (.cells #[.int .i64 3, .int .i64 z, .int .i64 0, .int .i64 g, .int .i64 a, .int .i64 n, .int .i64 i, .int .i64 p, .int .i64 k, .int .i64 t] 29)).drew.cell? ⟨w2.heap.size, 9, none⟩ = some (.int .i64 rt) ∧ (((w2.alloc (.cells #[.int .i64 3, .int .i64 z, .int .i64 v, .int .i64 g, .int .i64 ra, .int .i64 rn, .int .i64 ri, .int .i64 rp, .int .i64 rk, .int .i64 rt] 29)).alloc (.cells #[.int .i64 3, .int .i64 z, .int .i64 v, .int .i64 7, .int .i64 a, .int .i64 n, .int .i64 i, .int .i64 p, .int .i64 k, .int .i64 t] 29)).alloc (.cells #[.int .i64 3, .int .i64 z, .int .i64 0, .int .i64 g, .int .i64 a, .int .i64 n, .int .i64 i, .int .i64 p, .int .i64 k, .int .i64 t] 29)).drew.cell? ⟨w2.heap.size + 1, 0, none⟩ = some (.int .i64 3) ∧ (((w2.alloc (.cells #[.int .i64 3, .int .i64 z, .int .i64 v, .int .i64 g, .int .i64 ra, .int .i64 rn, .int .i64 ri, .int .i64 rp, .int .i64 rk, .int .i64 rt] 29)).alloc (.cells #[.int .i64 3, .int .i64 z, .int .i64 v, .int .i64 7, .int .i64 a, .int .i64 n, .int .i64 i, .int .i64 p, .int .i64 k, .int .i64 t] 29)).alloc (.cells #[.int .i64 3, .int .i64 z, .int .i64 0, .int .i64 g, .int .i64 a, .int .i64 n, .int .i64 i, .int .i64 p, .int .i64 k, .int .i64 t] 29)).drew.cell? ⟨w2.heap.size + 1, 1, none⟩ = some (.int .i64 z) ∧ (((w2.alloc (.cells #[.int .i64 3, .int .i64 z, .int .i64 v, .int .i64 g, .int .i64 ra, .int .i64 rn, .int .i64 ri, .int .i64 rp, .int .i64 rk, .int .i64 rt] 29)).alloc (.cells #[.int .i64 3, .int .i64 z, .int .i64 v, .int .i64 7, .int .i64 a, .int .i64 n, .int .i64 i, .int .i64 p, .int .i64 k, .int .i64 t] 29)).alloc (.cells #[.int .i64 3, .int .i64 z, .int .i64 0, .int .i64 g, .int .i64 a, .int .i64 n, .int .i64 i, .int .i64 p, .int .i64 k, .int .i64 t] 29)).drew.cell? ⟨w2.heap.size + 1, 2, none⟩ = some (.int .i64 v) ∧ (((w2.alloc (.cells #[.int .i64 3, .int .i64 z, .int .i64 v, .int .i64 g, .int .i64 ra, .int .i64 rn, .int .i64 ri, .int .i64 rp, .int .i64 rk, .int .i64 rt] 29)).alloc (.cells #[.int .i64 3, .int .i64 z, .int .i64 v, .int .i64 7, .int .i64 a, .int .i64 n, .int .i64 i, .int .i64 p, .int .i64 k, .int .i64 t] 29)).alloc (.cells #[.int .i64 3, .int .i64 z, .int .i64 0, .int .i64 g, .int .i64 a, .int .i64 n, .int .i64 i, .int .i64 p, .int .i64 k, .int .i64 t] 29)).drew.cell? ⟨w2.heap.size + 1, 3, none⟩ = some (.int .i64 7) ∧ (((w2.alloc (.cells #[.int .i64 3, .int .i64 z, .int .i64 v, .int .i64 g, .int .i64 ra, .int .i64 rn, .int .i64 ri, .int .i64 rp, .int .i64 rk, .int .i64 rt] 29)).alloc (.cells #[.int .i64 3, .int .i64 z, .int .i64 v, .int .i64 7, .int .i64 a, .int .i64 n, .int .i64 i, .int .i64 p, .int .i64 k, .int .i64 t] 29)).alloc (.cells #[.int .i64 3, .int .i64 z, .int .i64 0, .int .i64 g, .int .i64 a, .int .i64 n, .int .i64 i, .int .i64 p, .int .i64 k, .int .i64 t] 29)).drew.cell? ⟨w2.heap.size + 1, 4, none⟩ = some (.int .i64 a) ∧ (((w2.alloc (.cells #[.int .i64 3, .int .i64 z, .int .i64 v, .int .i64 g, .int .i64 ra, .int .i64 rn, .int .i64 ri, .int .i64 rp, .int .i64 rk, .int .i64 rt] 29)).alloc (.cells #[.int .i64 3, .int .i64 z, .int .i64 v, .int .i64 7, .int .i64 a, .int .i64 n, .int .i64 i, .int .i64 p, .int .i64 k, .int .i64 t] 29)).alloc (.cells #[.int .i64 3, .int .i64 z, .int .i64 0, .int .i64 g, .int .i64 a, .int .i64 n, .int .i64 i, .int .i64 p, .int .i64 k, .int .i64 t] 29)).drew.cell? ⟨w2.heap.size + 1, 5, none⟩ = some (.int .i64 n) ∧ (((w2.alloc (.cells #[.int .i64 3, .int .i64 z, .int .i64 v, .int .i64 g, .int .i64 ra, .int .i64 rn, .int .i64 ri, .int .i64 rp, .int .i64 rk, .int .i64 rt] 29)).alloc (.cells #[.int .i64 3, .int .i64 z, .int .i64 v, .int .i64 7, .int .i64 a, .int .i64 n, .int .i64 i, .int .i64 p, .int .i64 k, .int .i64 t] 29)).alloc (.cells #[.int .i64 3, .int .i64 z, .int .i64 0, .int .i64 g, .int .i64 a, .int .i64 n, .int .i64 i, .int .i64 p, .int .i64 k, .int .i64 t] 29)).drew.cell? ⟨w2.heap.size + 1, 6, none⟩ = some (.int .i64 i) ∧ (((w2.alloc (.cells #[.int .i64 3, .int .i64 z, .int .i64 v, .int .i64 g, .int .i64 ra, .int .i64 rn, .int .i64 ri, .int .i64 rp, .int .i64 rk, .int .i64 rt] 29)).alloc (.cells #[.int .i64 3, .int .i64 z, .int .i64 v, .int .i64 7, .int .i64 a, .int .i64 n, .int .i64 i, .int .i64 p, .int .i64 k, .int .i64 t] 29)).alloc (.cells #[.int .i64 3, .int .i64 z, .int .i64 0, .int .i64 g, .int .i64 a, .int .i64 n, .int .i64 i, .int .i64 p, .int .i64 k, .int .i64 t] 29)).drew.cell? ⟨w2.heap.size + 1, 7, none⟩ = some (.int .i64 p) ∧ (((w2.alloc (.cells #[.int .i64 3, .int .i64 z, .int .i64 v, .int .i64 g, .int .i64 ra, .int .i64 rn, .int .i64 ri, .int .i64 rp, .int .i64 rk, .int .i64 rt] 29)).alloc (.cells #[.int .i64 3, .int .i64 z, .int .i64 v, .int .i64 7, .int .i64 a, .int .i64 n, .int .i64 i, .int .i64 p, .int .i64 k, .int .i64 t] 29)).alloc (.cells #[.int .i64 3, .int .i64 z, .int .i64 0, .int .i64 g, .int .i64 a, .int .i64 n, .int .i64 i, .int .i64 p, .int .i64 k, .int .i64 t] 29)).drew.cell? ⟨w2.heap.size + 1, 8, none⟩ = some (.int .i64 k) ∧ (((w2.alloc (.cells #[.int .i64 3, .int .i64 z, .int .i64 v, .int .i64 g, .int .i64 ra, .int .i64 rn, .int .i64 ri, .int .i64 rp, .int .i64 rk, .int .i64 rt] 29)).alloc (.cells #[.int .i64 3, .int .i64 z, .int .i64 v, .int .i64 7, .int .i64 a, .int .i64 n, .int .i64 i, .int .i64 p, .int .i64 k, .int .i64 t] 29)).alloc (.cells #[.int .i64 3, .int .i64 z, .int .i64 0, .int .i64 g, .int .i64 a, .int .i64 n, .int .i64 i, .int .i64 p, .int .i64 k, .int .i64 t] 29)).drew.cell? ⟨w2.heap.size + 1, 9, none⟩ = some (.int .i64 t) ∧ (((w2.alloc (.cells #[.int .i64 3, .int .i64 z, .int .i64 v, .int .i64 g, .int .i64 ra, .int .i64 rn, .int .i64 ri, .int .i64 rp, .int .i64 rk, .int .i64 rt] 29)).alloc (.cells #[.int .i64 3, .int .i64 z, .int .i64 v, .int .i64 7, .int .i64 a, .int .i64 n, .int .i64 i, .int .i64 p, .int .i64 k, .int .i64 t] 29)).alloc (.cells #[.int .i64 3, .int .i64 z, .int .i64 0, .int .i64 g, .int .i64 a, .int .i64 n, .int .i64 i, .int .i64 p, .int .i64 k, .int .i64 t] 29)).drew.cell? ⟨w2.heap.size + 1 + 1, 0, none⟩ = some (.int .i64 3) ∧ (((w2.alloc (.cells #[.int .i64 3, .int .i64 z, .int .i64 v, .int .i64 g, .int .i64 ra, .int .i64 rn, .int .i64 ri, .int .i64 rp, .int .i64 rk, .int .i64 rt] 29)).alloc (.cells #[.int .i64 3, .int .i64 z, .int .i64 v, .int .i64 7, .int .i64 a, .int .i64 n, .int .i64 i, .int .i64 p, .int .i64 k, .int .i64 t] 29)).alloc (.cells #[.int .i64 3, .int .i64 z, .int .i64 0, .int .i64 g, .int .i64 a, .int .i64 n, .int .i64 i, .int .i64 p, .int .i64 k, .int .i64 t] 29)).drew.cell? ⟨w2.heap.size + 1 + 1, 1, none⟩ = some (.int .i64 z) ∧ (((w2.alloc (.cells #[.int .i64 3, .int .i64 z, .int .i64 v, .int .i64 g, .int .i64 ra, .int .i64 rn, .int .i64 ri, .int .i64 rp, .int .i64 rk, .int .i64 rt] 29)).alloc (.cells #[.int .i64 3, .int .i64 z, .int .i64 v, .int .i64 7, .int .i64 a, .int .i64 n, .int .i64 i, .int .i64 p, .int .i64 k, .int .i64 t] 29)).alloc (.cells #[.int .i64 3, .int .i64 z, .int .i64 0, .int .i64 g, .int .i64 a, .int .i64 n, .int .i64 i, .int .i64 p, .int .i64 k, .int .i64 t] 29)).drew.cell? ⟨w2.heap.size + 1 + 1, 2, none⟩ = some (.int .i64 0) ∧ (((w2.alloc (.cells #[.int .i64 3, .int .i64 z, .int .i64 v, .int .i64 g, .int .i64 ra, .int .i64 rn, .int .i64 ri, .int .i64 rp, .int .i64 rk, .int .i64 rt] 29)).alloc (.cells #[.int .i64 3, .int .i64 z, .int .i64 v, .int .i64 7, .int .i64 a, .int .i64 n, .int .i64 i, .int .i64 p, .int .i64 k, .int .i64 t] 29)).alloc (.cells #[.int .i64 3, .int .i64 z, .int .i64 0, .int .i64 g, .int .i64 a, .int .i64 n, .int .i64 i, .int .i64 p, .int .i64 k, .int .i64 t] 29)).drew.cell? ⟨w2.heap.size + 1 + 1, 3, none⟩ = some (.int .i64 g) ∧ (((w2.alloc (.cells #[.int .i64 3, .int .i64 z, .int .i64 v, .int .i64 g, .int .i64 ra, .int .i64 rn, .int .i64 ri, .int .i64 rp, .int .i64 rk, .int .i64 rt] 29)).alloc (.cells #[.int .i64 3, .int .i64 z, .int .i64 v, .int .i64 7, .int .i64 a, .int .i64 n, .int .i64 i, .int .i64 p, .int .i64 k, .int .i64 t] 29)).alloc (.cells #[.int .i64 3, .int .i64 z, .int .i64 0, .int .i64 g, .int .i64 a, .int .i64 n, .int .i64 i, .int .i64 p, .int .i64 k, .int .i64 t] 29)).drew.cell? ⟨w2.heap.size + 1 + 1, 4, none⟩ = some (.int .i64 a) ∧ (((w2.alloc (.cells #[.int .i64 3, .int .i64 z, .int .i64 v, .int .i64 g, .int .i64 ra, .int .i64 rn, .int .i64 ri, .int .i64 rp, .int .i64 rk, .int .i64 rt] 29)).alloc (.cells #[.int .i64 3, .int .i64 z, .int .i64 v, .int .i64 7, .int .i64 a, .int .i64 n, .int .i64 i, .int .i64 p, .int .i64 k, .int .i64 t] 29)).alloc (.cells #[.int .i64 3, .int .i64 z, .int .i64 0, .int .i64 g, .int .i64 a, .int .i64 n, .int .i64 i, .int .i64 p, .int .i64 k, .int .i64 t] 29)).drew.cell? ⟨w2.heap.size + 1 + 1, 5, none⟩ = some (.int .i64 n) ∧ (((w2.alloc (.cells #[.int .i64 3, .int .i64 z, .int .i64 v, .int .i64 g, .int .i64 ra, .int .i64 rn, .int .i64 ri, .int .i64 rp, .int .i64 rk, .int .i64 rt] 29)).alloc (.cells #[.int .i64 3, .int .i64 z, .int .i64 v, .int .i64 7, .int .i64 a, .int .i64 n, .int .i64 i, .int .i64 p, .int .i64 k, .int .i64 t] 29)).alloc (.cells #[.int .i64 3, .int .i64 z, .int .i64 0, .int .i64 g, .int .i64 a, .int .i64 n, .int .i64 i, .int .i64 p, .int .i64 k, .int .i64 t] 29)).drew.cell? ⟨w2.heap.size + 1 + 1, 6, none⟩ = some (.int .i64 i) ∧ (((w2.alloc (.cells #[.int .i64 3, .int .i64 z, .int .i64 v, .int .i64 g, .int .i64 ra, .int .i64 rn, .int .i64 ri, .int .i64 rp, .int .i64 rk, .int .i64 rt] 29)).alloc (.cells #[.int .i64 3, .int .i64 z, .int .i64 v, .int .i64 7, .int .i64 a, .int .i64 n, .int .i64 i, .int .i64 p, .int .i64 k, .int .i64 t] 29)).alloc (.cells #[.int .i64 3, .int .i64 z, .int .i64 0, .int .i64 g, .int .i64 a, .int .i64 n, .int .i64 i, .int .i64 p, .int .i64 k, .int .i64 t] 29)).drew.cell? ⟨w2.heap.size + 1 + 1, 7, none⟩ = some (.int .i64 p) ∧ (((w2.alloc (.cells #[.int .i64 3, .int .i64 z, .int .i64 v, .int .i64 g, .int .i64 ra, .int .i64 rn, .int .i64 ri, .int .i64 rp, .int .i64 rk, .int .i64 rt] 29)).alloc (.cells #[.int .i64 3, .int .i64 z, .int .i64 v, .int .i64 7, .int .i64 a, .int .i64 n, .int .i64 i, .int .i64 p, .int .i64 k, .int .i64 t] 29)).alloc (.cells #[.int .i64 3, .int .i64 z, .int .i64 0, .int .i64 g, .int .i64 a, .int .i64 n, .int .i64 i, .int .i64 p, .int .i64 k, .int .i64 t] 29)).drew.cell? ⟨w2.heap.size + 1 + 1, 8, none⟩ = some (.int .i64 k) ∧ (((w2.alloc (.cells #[.int .i64 3, .int .i64 z, .int .i64 v, .int .i64 g, .int .i64 ra, .int .i64 rn, .int .i64 ri, .int .i64 rp, .int .i64 rk, .int .i64 rt] 29)).alloc (.cells #[.int .i64 3, .int .i64 z, .int .i64 v, .int .i64 7, .int .i64 a, .int .i64 n, .int .i64 i, .int .i64 p, .int .i64 k, .int .i64 t] 29)).alloc (.cells #[.int .i64 3, .int .i64 z, .int .i64 0, .int .i64 g, .int .i64 a, .int .i64 n, .int .i64 i, .int .i64 p, .int .i64 k, .int .i64 t] 29)).drew.cell? ⟨w2.heap.size + 1 + 1, 9, none⟩ = some (.int .i64 t) := ⟨hB.drew, T.later (Below.refl _ _).drew, X0.lt, V0.lt, V1.lt, V2.lt, x00, v00, v01, v02, v03, v04, v05, v06, v07, v08, v09, v10, v11, v12, v13, v14, v15, v16, v17, v18, v19, v20, v21, v22, v23, v24, v25, v26, v27, v28, v29⟩
  clear X0 X1 V0 V1 V2
  go_wp2_with fail
  refine wp_region_noPanic ?_
  refine wp_region_held_drew (S := fun w' => Below w.heap.size w w' ∧ Tab w' ∧ w.heap.size < w'.heap.size ∧ w2.heap.size < w'.heap.size ∧ w2.heap.size + 1 < w'.heap.size ∧ w2.heap.size + 1 + 1 < w'.heap.size ∧ w'.cell? ⟨w.heap.size, 0, none⟩ = some (.int .i64 3) ∧ w'.cell? ⟨w2.heap.size, 0, none⟩ = some (.int .i64 3) ∧ w'.cell? ⟨w2.heap.size, 1, none⟩ = some (.int .i64 z) ∧ w'.cell? ⟨w2.heap.size, 2, none⟩ = some (.int .i64 v) ∧ w'.cell? ⟨w2.heap.size, 3, none⟩ = some (.int .i64 g) ∧ w'.cell? ⟨w2.heap.size, 4, none⟩ = some (.int .i64 ra) ∧ w'.cell? ⟨w2.heap.size, 5, none⟩ = some (.int .i64 rn) ∧ w'.cell? ⟨w2.heap.size, 6, none⟩ = some (.int .i64 ri) ∧ w'.cell? ⟨w2.heap.size, 7, none⟩ = some (.int .i64 rp) ∧ w'.cell? ⟨w2.heap.size, 8, none⟩ = some (.int .i64 rk) ∧ w'.cell? ⟨w2.heap.size, 9, none⟩ = some (.int .i64 rt) ∧ w'.cell? ⟨w2.heap.size + 1, 0, none⟩ = some (.int .i64 3) ∧ w'.cell? ⟨w2.heap.size + 1, 1, none⟩ = some (.int .i64 z) ∧ w'.cell? ⟨w2.heap.size + 1, 2, none⟩ = some (.int .i64 v) ∧ w'.cell? ⟨w2.heap.size + 1, 3, none⟩ = some (.int .i64 7) ∧ w'.cell? ⟨w2.heap.size + 1, 4, none⟩ = some (.int .i64 a) ∧ w'.cell? ⟨w2.heap.size + 1, 5, none⟩ = some (.int .i64 n) ∧ w'.cell? ⟨w2.heap.size + 1, 6, none⟩ = some (.int .i64 i) ∧ w'.cell? ⟨w2.heap.size + 1, 7, none⟩ = some (.int .i64 p) ∧ w'.cell? ⟨w2.heap.size + 1, 8, none⟩ = some (.int .i64 k) ∧ w'.cell? ⟨w2.heap.size + 1, 9, none⟩ = some (.int .i64 t) ∧ w'.cell? ⟨w2.heap.size + 1 + 1, 0, none⟩ = some (.int .i64 3) ∧ w'.cell? ⟨w2.heap.size + 1 + 1, 1, none⟩ = some (.int .i64 z) ∧ w'.cell? ⟨w2.heap.size + 1 + 1, 2, none⟩ = some (.int .i64 0) ∧ w'.cell? ⟨w2.heap.size + 1 + 1, 3, none⟩ = some (.int .i64 g) ∧ w'.cell? ⟨w2.heap.size + 1 + 1, 4, none⟩ = some (.int .i64 a) ∧ w'.cell? ⟨w2.heap.size + 1 + 1, 5, none⟩ = some (.int .i64 n) ∧ w'.cell? ⟨w2.heap.size + 1 + 1, 6, none⟩ = some (.int .i64 i) ∧ w'.cell? ⟨w2.heap.size + 1 + 1, 7, none⟩ = some (.int .i64 p) ∧ w'.cell? ⟨w2.heap.size + 1 + 1, 8, none⟩ = some (.int .i64 k) ∧ w'.cell? ⟨w2.heap.size + 1 + 1, 9, none⟩ = some (.int .i64 t)) (by kernel_rfl) S0 (fun hH => ?_)
  clear S0
  clear hB x00 x01 x02 x03 x04 x05 x06 x07 x08 x09 x10 x11 x12 x13 x14 x15 v00 v01 v02 v03 v04 v05 v06 v07 v08 v09 v10 v11 v12 v13 v14 v15 v16 v17 v18 v19 v20 v21 v22 v23 v24 v25 v26 v27 v28 v29
  refine wpAnyH_take (i := 0) (oi := { dst := some 30, op := _, type := _, pos := _, after := _, guard := _ }) (v := ?_) rfl (by kernel_rfl) (by kernel_rfl) (by kernel_rfl) (fun _ _ _ h => h) (Or.inl ⟨by rfl, ?_⟩) hH ?_
  rotate_left
  · intro wz hSw
    (try dsimp only at hSw)
    first | (go_simp; done) | (go_simp; with_reducible rfl)
  try simp only [Act.put, List.setIfInBounds_toArray, List.set_cons_zero, List.set_cons_succ]
  refine wpAnyH_take (i := 1) (oi := { dst := some 31, op := _, type := _, pos := _, after := _, guard := _ }) (v := ?_) rfl (by kernel_rfl) (by kernel_rfl) (by kernel_rfl) (fun _ _ _ h => h) (Or.inl ⟨by rfl, ?_⟩) hH ?_
  rotate_left
  · intro wz hSw
    (try dsimp only at hSw)
    first | (go_simp; done) | (go_simp; with_reducible rfl)
  try simp only [Act.put, List.setIfInBounds_toArray, List.set_cons_zero, List.set_cons_succ]
  refine wpAnyH_take (i := 2) (oi := { dst := some 32, op := _, type := _, pos := _, after := _, guard := _ }) (v := ?_) rfl (by kernel_rfl) (by kernel_rfl) (by kernel_rfl) (fun _ _ _ h => h) (Or.inl ⟨by rfl, ?_⟩) hH ?_
  rotate_left
  · intro wz hSw
    (try dsimp only at hSw)
    first | (go_simp; done) | (go_simp; with_reducible rfl)
  try simp only [Act.put, List.setIfInBounds_toArray, List.set_cons_zero, List.set_cons_succ]
  refine wpAnyH_take (i := 3) (oi := { dst := some 33, op := _, type := _, pos := _, after := _, guard := _ }) (v := ?_) rfl (by kernel_rfl) (by kernel_rfl) (by kernel_rfl) (fun _ _ _ h => h) (Or.inl ⟨by rfl, ?_⟩) hH ?_
  rotate_left
  · intro wz hSw
    (try dsimp only at hSw)
    first | (go_simp; done) | (go_simp; with_reducible rfl)
  try simp only [Act.put, List.setIfInBounds_toArray, List.set_cons_zero, List.set_cons_succ]
  refine wpAnyH_take (i := 4) (oi := { dst := some 34, op := _, type := _, pos := _, after := _, guard := _ }) (v := ?_) rfl (by kernel_rfl) (by kernel_rfl) (by kernel_rfl) (fun _ _ _ h => h) (Or.inl ⟨by rfl, ?_⟩) hH ?_
  rotate_left
  · intro wz hSw
    (try dsimp only at hSw)
    first | (go_simp; done) | (go_simp; with_reducible rfl)
  try simp only [Act.put, List.setIfInBounds_toArray, List.set_cons_zero, List.set_cons_succ]
  refine wpAnyH_ready (rs := [5]) (by kernel_rfl) (by simp) ?_
  refine AllReadyH.cons (o := { dst := some 35, op := _, type := _, pos := _, after := _, guard := _ }) rfl (fun K hK => ?_) AllReadyH.nil
  go_simp
  refine (mMay_any 3 z v g ra rn ri rp rk rt _ hH.2.1).mono ?_
  rw [hA]
  rintro e wq5 ⟨rfl, hbq⟩
  go_wp2_with fail
  refine hK.out _ _ (kept_kinds hH hbq) (fun hH2 => ?_)
  clear hK K hH hbq
  have hH := hH2
  clear hH2
  try simp only [Act.put, List.setIfInBounds_toArray, List.set_cons_zero, List.set_cons_succ]
  refine wpAnyH_take (i := 6) (oi := { dst := some 36, op := _, type := _, pos := _, after := _, guard := _ }) (v := ?_) rfl (by kernel_rfl) (by kernel_rfl) (by kernel_rfl) (fun _ _ _ h => h) (Or.inl ⟨by rfl, ?_⟩) hH ?_
  rotate_left
  · intro wz hSw
    (try dsimp only at hSw)
    first | (go_simp; done) | (go_simp; with_reducible rfl)
  try simp only [Act.put, List.setIfInBounds_toArray, List.set_cons_zero, List.set_cons_succ]
  refine wpAnyH_take (i := 7) (oi := { dst := some 37, op := _, type := _, pos := _, after := _, guard := _ }) (v := ?_) rfl (by kernel_rfl) (by kernel_rfl) (by kernel_rfl) (fun _ _ _ h => h) (Or.inl ⟨by rfl, ?_⟩) hH ?_
  rotate_left
  · intro wz hSw
    (try dsimp only at hSw)
    first | (go_simp; done) | (go_simp; with_reducible rfl)
  try simp only [Act.put, List.setIfInBounds_toArray, List.set_cons_zero, List.set_cons_succ]
  refine wpAnyH_take (i := 8) (oi := { dst := some 38, op := _, type := _, pos := _, after := _, guard := _ }) (v := ?_) rfl (by kernel_rfl) (by kernel_rfl) (by kernel_rfl) (fun _ _ _ h => h) (Or.inl ⟨by rfl, ?_⟩) hH ?_
  rotate_left
  · intro wz hSw
    (try dsimp only at hSw)
    first | (go_simp; done) | (go_simp; with_reducible rfl)
  try simp only [Act.put, List.setIfInBounds_toArray, List.set_cons_zero, List.set_cons_succ]
  refine wpAnyH_take (i := 9) (oi := { dst := some 39, op := _, type := _, pos := _, after := _, guard := _ }) (v := ?_) rfl (by kernel_rfl) (by kernel_rfl) (by kernel_rfl) (fun _ _ _ h => h) (Or.inl ⟨by rfl, ?_⟩) hH ?_
  rotate_left
  · intro wz hSw
    (try dsimp only at hSw)
    first | (go_simp; done) | (go_simp; with_reducible rfl)
  try simp only [Act.put, List.setIfInBounds_toArray, List.set_cons_zero, List.set_cons_succ]
  refine wpAnyH_take (i := 10) (oi := { dst := some 40, op := _, type := _, pos := _, after := _, guard := _ }) (v := ?_) rfl (by kernel_rfl) (by kernel_rfl) (by kernel_rfl) (fun _ _ _ h => h) (Or.inl ⟨by rfl, ?_⟩) hH ?_
  rotate_left
  · intro wz hSw
    (try dsimp only at hSw)
    first | (go_simp; done) | (go_simp; with_reducible rfl)
  try simp only [Act.put, List.setIfInBounds_toArray, List.set_cons_zero, List.set_cons_succ]
  refine wpAnyH_take (i := 11) (oi := { dst := some 41, op := _, type := _, pos := _, after := _, guard := _ }) (v := ?_) rfl (by kernel_rfl) (by kernel_rfl) (by kernel_rfl) (fun _ _ _ h => h) (Or.inl ⟨by rfl, ?_⟩) hH ?_
  rotate_left
  · intro wz hSw
    (try dsimp only at hSw)
    first | (go_simp; done) | (go_simp; with_reducible rfl)
  try simp only [Act.put, List.setIfInBounds_toArray, List.set_cons_zero, List.set_cons_succ]
  refine wpAnyH_take (i := 12) (oi := { dst := some 42, op := _, type := _, pos := _, after := _, guard := _ }) (v := ?_) rfl (by kernel_rfl) (by kernel_rfl) (by kernel_rfl) (fun _ _ _ h => h) (Or.inl ⟨by rfl, ?_⟩) hH ?_
  rotate_left
  · intro wz hSw
    (try dsimp only at hSw)
    first | (go_simp; done) | (go_simp; with_reducible rfl)
  try simp only [Act.put, List.setIfInBounds_toArray, List.set_cons_zero, List.set_cons_succ]
  refine wpAnyH_take (i := 13) (oi := { dst := some 43, op := _, type := _, pos := _, after := _, guard := _ }) (v := ?_) rfl (by kernel_rfl) (by kernel_rfl) (by kernel_rfl) (fun _ _ _ h => h) (Or.inl ⟨by rfl, ?_⟩) hH ?_
  rotate_left
  · intro wz hSw
    (try dsimp only at hSw)
    first | (go_simp; done) | (go_simp; with_reducible rfl)
  try simp only [Act.put, List.setIfInBounds_toArray, List.set_cons_zero, List.set_cons_succ]
  refine wpAnyH_take (i := 14) (oi := { dst := some 44, op := _, type := _, pos := _, after := _, guard := _ }) (v := ?_) rfl (by kernel_rfl) (by kernel_rfl) (by kernel_rfl) (fun _ _ _ h => h) (Or.inl ⟨by rfl, ?_⟩) hH ?_
  rotate_left
  · intro wz hSw
    (try dsimp only at hSw)
    first | (go_simp; done) | (go_simp; with_reducible rfl)
  try simp only [Act.put, List.setIfInBounds_toArray, List.set_cons_zero, List.set_cons_succ]
  refine wpAnyH_take (i := 15) (oi := { dst := some 45, op := _, type := _, pos := _, after := _, guard := _ }) (v := ?_) rfl (by kernel_rfl) (by kernel_rfl) (by kernel_rfl) (fun _ _ _ h => h) (Or.inl ⟨by rfl, ?_⟩) hH ?_
  rotate_left
  · intro wz hSw
    (try dsimp only at hSw)
    first | (go_simp; done) | (go_simp; with_reducible rfl)
  try simp only [Act.put, List.setIfInBounds_toArray, List.set_cons_zero, List.set_cons_succ]
  refine wpAnyH_take (i := 16) (oi := { dst := some 46, op := _, type := _, pos := _, after := _, guard := _ }) (v := ?_) rfl (by kernel_rfl) (by kernel_rfl) (by kernel_rfl) (fun _ _ _ h => h) (Or.inl ⟨by rfl, ?_⟩) hH ?_
  rotate_left
  · intro wz hSw
    (try dsimp only at hSw)
    first | (go_simp; done) | (go_simp; with_reducible rfl)
  try simp only [Act.put, List.setIfInBounds_toArray, List.set_cons_zero, List.set_cons_succ]
  refine wpAnyH_take (i := 17) (oi := { dst := some 47, op := _, type := _, pos := _, after := _, guard := _ }) (v := ?_) rfl (by kernel_rfl) (by kernel_rfl) (by kernel_rfl) (fun _ _ _ h => h) (Or.inl ⟨by rfl, ?_⟩) hH ?_
  rotate_left
  · intro wz hSw
    (try dsimp only at hSw)
    first | (go_simp; done) | (go_simp; with_reducible rfl)
  try simp only [Act.put, List.setIfInBounds_toArray, List.set_cons_zero, List.set_cons_succ]
  refine wpAnyH_take (i := 18) (oi := { dst := some 48, op := _, type := _, pos := _, after := _, guard := _ }) (v := undef) rfl (by kernel_rfl) (by kernel_rfl) (by kernel_rfl) (fun _ _ _ h => h) (Or.inr ⟨by rfl, rfl⟩) hH ?_
  try simp only [Act.put, List.setIfInBounds_toArray, List.set_cons_zero, List.set_cons_succ]
  refine wpAnyH_ready (rs := [19]) (by kernel_rfl) (by simp) ?_
  refine allReady_pass (o := { dst := some 49, op := _, type := _, pos := _, after := _, guard := _ }) rfl (by rfl) hH ?_ AllReadyH.nil
  try simp only [Act.put, List.setIfInBounds_toArray, List.set_cons_zero, List.set_cons_succ]
  refine wpAnyH_take (i := 20) (oi := { dst := some 50, op := _, type := _, pos := _, after := _, guard := _ }) (v := undef) rfl (by kernel_rfl) (by kernel_rfl) (by kernel_rfl) (fun _ _ _ h => h) (Or.inr ⟨by rfl, rfl⟩) hH ?_
  try simp only [Act.put, List.setIfInBounds_toArray, List.set_cons_zero, List.set_cons_succ]
  refine wpAnyH_take (i := 21) (oi := { dst := some 51, op := _, type := _, pos := _, after := _, guard := _ }) (v := ?_) rfl (by kernel_rfl) (by kernel_rfl) (by kernel_rfl) (fun _ _ _ h => h) (Or.inl ⟨by rfl, ?_⟩) hH ?_
  rotate_left
  · intro wz hSw
    (try dsimp only at hSw)
    first | (go_simp; done) | (go_simp; with_reducible rfl)
  try simp only [Act.put, List.setIfInBounds_toArray, List.set_cons_zero, List.set_cons_succ]
  refine wpAnyH_take (i := 22) (oi := { dst := some 52, op := _, type := _, pos := _, after := _, guard := _ }) (v := ?_) rfl (by kernel_rfl) (by kernel_rfl) (by kernel_rfl) (fun _ _ _ h => h) (Or.inl ⟨by rfl, ?_⟩) hH ?_
  rotate_left
  · intro wz hSw
    (try dsimp only at hSw)
    first | (go_simp; done) | (go_simp; with_reducible rfl)
  try simp only [Act.put, List.setIfInBounds_toArray, List.set_cons_zero, List.set_cons_succ]
  refine wpAnyH_take (i := 23) (oi := { dst := some 53, op := _, type := _, pos := _, after := _, guard := _ }) (v := ?_) rfl (by kernel_rfl) (by kernel_rfl) (by kernel_rfl) (fun _ _ _ h => h) (Or.inl ⟨by rfl, ?_⟩) hH ?_
  rotate_left
  · intro wz hSw
    (try dsimp only at hSw)
    first | (go_simp; done) | (go_simp; with_reducible rfl)
  try simp only [Act.put, List.setIfInBounds_toArray, List.set_cons_zero, List.set_cons_succ]
  refine wpAnyH_take (i := 24) (oi := { dst := some 54, op := _, type := _, pos := _, after := _, guard := _ }) (v := ?_) rfl (by kernel_rfl) (by kernel_rfl) (by kernel_rfl) (fun _ _ _ h => h) (Or.inl ⟨by rfl, ?_⟩) hH ?_
  rotate_left
  · intro wz hSw
    (try dsimp only at hSw)
    first | (go_simp; done) | (go_simp; with_reducible rfl)
  try simp only [Act.put, List.setIfInBounds_toArray, List.set_cons_zero, List.set_cons_succ]
  refine wpAnyH_take (i := 26) (oi := { dst := some 56, op := _, type := _, pos := _, after := _, guard := _ }) (v := ?_) rfl (by kernel_rfl) (by kernel_rfl) (by kernel_rfl) (fun _ _ _ h => h) (Or.inl ⟨by rfl, ?_⟩) hH ?_
  rotate_left
  · intro wz hSw
    (try dsimp only at hSw)
    first | (go_simp; done) | (go_simp; with_reducible rfl)
  try simp only [Act.put, List.setIfInBounds_toArray, List.set_cons_zero, List.set_cons_succ]
  refine wpAnyH_take (i := 27) (oi := { dst := some 57, op := _, type := _, pos := _, after := _, guard := _ }) (v := ?_) rfl (by kernel_rfl) (by kernel_rfl) (by kernel_rfl) (fun _ _ _ h => h) (Or.inl ⟨by rfl, ?_⟩) hH ?_
  rotate_left
  · intro wz hSw
    (try dsimp only at hSw)
    first | (go_simp; done) | (go_simp; with_reducible rfl)
  try simp only [Act.put, List.setIfInBounds_toArray, List.set_cons_zero, List.set_cons_succ]
  refine wpAnyH_take (i := 28) (oi := { dst := some 58, op := _, type := _, pos := _, after := _, guard := _ }) (v := ?_) rfl (by kernel_rfl) (by kernel_rfl) (by kernel_rfl) (fun _ _ _ h => h) (Or.inl ⟨by rfl, ?_⟩) hH ?_
  rotate_left
  · intro wz hSw
    (try dsimp only at hSw)
    first | (go_simp; done) | (go_simp; with_reducible rfl)
  try simp only [Act.put, List.setIfInBounds_toArray, List.set_cons_zero, List.set_cons_succ]
  refine wpAnyH_ready (rs := [25]) (by kernel_rfl) (by simp) ?_
  refine AllReadyH.cons (o := { dst := some 55, op := _, type := _, pos := _, after := _, guard := _ }) rfl (fun K hK => ?_) AllReadyH.nil
  go_simp
  refine (mMay_any 3 z 0 g a n i p k t _ hH.2.1).mono ?_
  rw [hS0]
  rintro e wq25 ⟨rfl, hbq⟩
  go_wp2_with fail
  refine hK.out _ _ (kept_kinds hH hbq) (fun hH2 => ?_)
  clear hK K hH hbq
  have hH := hH2
  clear hH2
  try simp only [Act.put, List.setIfInBounds_toArray, List.set_cons_zero, List.set_cons_succ]
  refine wpAnyH_take (i := 29) (oi := { dst := some 59, op := _, type := _, pos := _, after := _, guard := _ }) (v := ?_) rfl (by kernel_rfl) (by kernel_rfl) (by kernel_rfl) (fun _ _ _ h => h) (Or.inl ⟨by rfl, ?_⟩) hH ?_
  rotate_left
  · intro wz hSw
    (try dsimp only at hSw)
    first | (go_simp; done) | (go_simp; with_reducible rfl)
  try simp only [Act.put, List.setIfInBounds_toArray, List.set_cons_zero, List.set_cons_succ]
  refine wpAnyH_take (i := 30) (oi := { dst := some 60, op := _, type := _, pos := _, after := _, guard := _ }) (v := ?_) rfl (by kernel_rfl) (by kernel_rfl) (by kernel_rfl) (fun _ _ _ h => h) (Or.inl ⟨by rfl, ?_⟩) hH ?_
  rotate_left
  · intro wz hSw
    (try dsimp only at hSw)
    first | (go_simp; done) | (go_simp; with_reducible rfl)
  try simp only [Act.put, List.setIfInBounds_toArray, List.set_cons_zero, List.set_cons_succ]
  refine wpAnyH_take (i := 31) (oi := { dst := some 61, op := _, type := _, pos := _, after := _, guard := _ }) (v := ?_) rfl (by kernel_rfl) (by kernel_rfl) (by kernel_rfl) (fun _ _ _ h => h) (Or.inl ⟨by rfl, ?_⟩) hH ?_
  rotate_left
  · intro wz hSw
    (try dsimp only at hSw)
    first | (go_simp; done) | (go_simp; with_reducible rfl)
  try simp only [Act.put, List.setIfInBounds_toArray, List.set_cons_zero, List.set_cons_succ]
  refine wpAnyH_take (i := 32) (oi := { dst := some 62, op := _, type := _, pos := _, after := _, guard := _ }) (v := ?_) rfl (by kernel_rfl) (by kernel_rfl) (by kernel_rfl) (fun _ _ _ h => h) (Or.inl ⟨by rfl, ?_⟩) hH ?_
  rotate_left
  · intro wz hSw
    (try dsimp only at hSw)
    first | (go_simp; done) | (go_simp; with_reducible rfl)
  try simp only [Act.put, List.setIfInBounds_toArray, List.set_cons_zero, List.set_cons_succ]
  refine wpAnyH_take (i := 33) (oi := { dst := some 63, op := _, type := _, pos := _, after := _, guard := _ }) (v := ?_) rfl (by kernel_rfl) (by kernel_rfl) (by kernel_rfl) (fun _ _ _ h => h) (Or.inl ⟨by rfl, ?_⟩) hH ?_
  rotate_left
  · intro wz hSw
    (try dsimp only at hSw)
    first | (go_simp; done) | (go_simp; with_reducible rfl)
  try simp only [Act.put, List.setIfInBounds_toArray, List.set_cons_zero, List.set_cons_succ]
  refine wpAnyH_take (i := 34) (oi := { dst := some 64, op := _, type := _, pos := _, after := _, guard := _ }) (v := ?_) rfl (by kernel_rfl) (by kernel_rfl) (by kernel_rfl) (fun _ _ _ h => h) (Or.inl ⟨by rfl, ?_⟩) hH ?_
  rotate_left
  · intro wz hSw
    (try dsimp only at hSw)
    first | (go_simp; done) | (go_simp; with_reducible rfl)
  try simp only [Act.put, List.setIfInBounds_toArray, List.set_cons_zero, List.set_cons_succ]
  refine wpAnyH_take (i := 35) (oi := { dst := some 65, op := _, type := _, pos := _, after := _, guard := _ }) (v := ?_) rfl (by kernel_rfl) (by kernel_rfl) (by kernel_rfl) (fun _ _ _ h => h) (Or.inl ⟨by rfl, ?_⟩) hH ?_
  rotate_left
  · intro wz hSw
    (try dsimp only at hSw)
    first | (go_simp; done) | (go_simp; with_reducible rfl)
  try simp only [Act.put, List.setIfInBounds_toArray, List.set_cons_zero, List.set_cons_succ]
  refine wpAnyH_take (i := 36) (oi := { dst := some 4, op := _, type := _, pos := _, after := _, guard := _ }) (v := ?_) rfl (by kernel_rfl) (by kernel_rfl) (by kernel_rfl) (fun _ _ _ h => h) (Or.inl ⟨by rfl, ?_⟩) hH ?_
  rotate_left
  · intro wz hSw
    (try dsimp only at hSw)
    first | (go_simp; done) | (go_simp; with_reducible rfl)
  try simp only [Act.put, List.setIfInBounds_toArray, List.set_cons_zero, List.set_cons_succ]
  refine wpAnyH_done (by kernel_rfl) ?_ _
  refine NoPanic.normal ?_
  go_wp2_with fail
  go_ret
  exact ⟨rfl, hH.1⟩
set_option maxHeartbeats 4000000 in
theorem kinds_4 (z v g a n i p k t ra rn ri rp rk rt : Int) (w : World) (T : Tab w)
    (cM : ∀ w, Tab w → Calls Tryd.prog 13 #[.agg #[.int .i64 4, .int .i64 z, .int .i64 v, .int .i64 g, .int .i64 a, .int .i64 n, .int .i64 i, .int .i64 p, .int .i64 k, .int .i64 t]] w fun e w' => e = .returned (.bool true) ∧ Below w.heap.size w w')
    (hq : ∀ w, (binOp .eql 27 (.agg #[.int .i64 ra, .int .i64 rn, .int .i64 ri, .int .i64 rp, .int .i64 rk, .int .i64 rt]) (.agg #[.int .i64 0, .int .i64 0, .int .i64 0, .int .i64 0, .int .i64 0, .int .i64 0])).run Tryd.prog w = .ok (.bool false) w)
    (hA : okM 4 z v g ra rn ri rp rk rt = false)
    (hS0 : okM 4 z 0 g a n i p k t = false) :
    Calls Tryd.prog 7 #[.agg #[.int .i64 4, .int .i64 z, .int .i64 v, .int .i64 g, .int .i64 a, .int .i64 n, .int .i64 i, .int .i64 p, .int .i64 k, .int .i64 t], .agg #[.int .i64 ra, .int .i64 rn, .int .i64 ri, .int .i64 rp, .int .i64 rk, .int .i64 rt]] w fun e w' => e = .returned (.bool true) ∧ Below w.heap.size w w' := by
  have hn0 := below_new w (.cells #[.int .i64 4, .int .i64 z, .int .i64 v, .int .i64 g, .int .i64 a, .int .i64 n, .int .i64 i, .int .i64 p, .int .i64 k, .int .i64 t] 29)
  have X0 := Lies.new w [4, z, v, g, a, n, i, p, k, t] 29 (B := w.heap.size) rfl
  have hB := hn0
  have hn1 := below_new (w.alloc (.cells #[.int .i64 4, .int .i64 z, .int .i64 v, .int .i64 g, .int .i64 a, .int .i64 n, .int .i64 i, .int .i64 p, .int .i64 k, .int .i64 t] 29)) (.cells #[.int .i64 ra, .int .i64 rn, .int .i64 ri, .int .i64 rp, .int .i64 rk, .int .i64 rt] 27)
  have X1 := Lies.new (w.alloc (.cells #[.int .i64 4, .int .i64 z, .int .i64 v, .int .i64 g, .int .i64 a, .int .i64 n, .int .i64 i, .int .i64 p, .int .i64 k, .int .i64 t] 29)) [ra, rn, ri, rp, rk, rt] 27 (B := w.heap.size + 1) (by simp)
  replace X0 := X0.later hn1
  replace hB := below_step hB hn1
  clear hn0 hn1
  obtain ⟨x00, x01, x02, x03, x04, x05, x06, x07, x08, x09⟩ := X0.ten
  obtain ⟨x10, x11, x12, x13, x14, x15⟩ := X1.six
  replace T := T.later hB
  go_enter Tryd.func7, Tryd.ntmps7
  go_wp2_with fail
  refine (awake_any _ T).mono ?_
  rintro e w1 ⟨rfl, hb1⟩
  clear x00 x01 x02 x03 x04 x05 x06 x07 x08 x09
  clear x10 x11 x12 x13 x14 x15
  replace X0 := X0.later hb1
  replace X1 := X1.later hb1
  replace T := T.later hb1
  replace hB := below_step hB hb1
  clear hb1
  obtain ⟨x00, x01, x02, x03, x04, x05, x06, x07, x08, x09⟩ := X0.ten
  obtain ⟨x10, x11, x12, x13, x14, x15⟩ := X1.six
  go_wp2_with fail
  refine (cM _ T).mono ?_
  rintro e w2 ⟨rfl, hb2⟩
  clear x00 x01 x02 x03 x04 x05 x06 x07 x08 x09
  clear x10 x11 x12 x13 x14 x15
  replace X0 := X0.later hb2
  replace X1 := X1.later hb2
  replace T := T.later hb2
  replace hB := below_step hB hb2
  clear hb2
  obtain ⟨x00, x01, x02, x03, x04, x05, x06, x07, x08, x09⟩ := X0.ten
  obtain ⟨x10, x11, x12, x13, x14, x15⟩ := X1.six
  have hq0 := below_new w2 (.cells #[.int .i64 4, .int .i64 z, .int .i64 v, .int .i64 g, .int .i64 a, .int .i64 n, .int .i64 i, .int .i64 p, .int .i64 k, .int .i64 t] 29)
  obtain ⟨x0q0, x0q1, x0q2, x0q3, x0q4, x0q5, x0q6, x0q7, x0q8, x0q9⟩ := (X0.later hq0).ten
  obtain ⟨x1q0, x1q1, x1q2, x1q3, x1q4, x1q5⟩ := (X1.later hq0).six
  clear hq0
  have hv0 := below_new w2 (.cells #[.int .i64 4, .int .i64 z, .int .i64 v, .int .i64 g, .int .i64 ra, .int .i64 rn, .int .i64 ri, .int .i64 rp, .int .i64 rk, .int .i64 rt] 29)
  replace X0 := X0.later hv0
  replace X1 := X1.later hv0
  replace T := T.later hv0
  replace hB := below_step hB hv0
  clear hv0
  have V0 := Lies.new w2 [4, z, v, g, ra, rn, ri, rp, rk, rt] 29 (B := w2.heap.size) rfl
  obtain ⟨x00, x01, x02, x03, x04, x05, x06, x07, x08, x09⟩ := X0.ten
  obtain ⟨x10, x11, x12, x13, x14, x15⟩ := X1.six
  obtain ⟨v00, v01, v02, v03, v04, v05, v06, v07, v08, v09⟩ := V0.ten
  have hq1 := below_new (w2.alloc (.cells #[.int .i64 4, .int .i64 z, .int .i64 v, .int .i64 g, .int .i64 ra, .int .i64 rn, .int .i64 ri, .int .i64 rp, .int .i64 rk, .int .i64 rt] 29)) (.cells #[.int .i64 4, .int .i64 z, .int .i64 v, .int .i64 g, .int .i64 a, .int .i64 n, .int .i64 i, .int .i64 p, .int .i64 k, .int .i64 t] 29)
  obtain ⟨x0q0, x0q1, x0q2, x0q3, x0q4, x0q5, x0q6, x0q7, x0q8, x0q9⟩ := (X0.later hq1).ten
  obtain ⟨x1q0, x1q1, x1q2, x1q3, x1q4, x1q5⟩ := (X1.later hq1).six
  obtain ⟨v0q0, v0q1, v0q2, v0q3, v0q4, v0q5, v0q6, v0q7, v0q8, v0q9⟩ := (V0.later hq1).ten
  clear hq1
  have hv1 := below_new (w2.alloc (.cells #[.int .i64 4, .int .i64 z, .int .i64 v, .int .i64 g, .int .i64 ra, .int .i64 rn, .int .i64 ri, .int .i64 rp, .int .i64 rk, .int .i64 rt] 29)) (.cells #[.int .i64 4, .int .i64 z, .int .i64 v, .int .i64 7, .int .i64 a, .int .i64 n, .int .i64 i, .int .i64 p, .int .i64 k, .int .i64 t] 29)
  replace X0 := X0.later hv1
  replace X1 := X1.later hv1
  replace V0 := V0.later hv1
  replace T := T.later hv1
  replace hB := below_step hB hv1
  clear hv1
  have V1 := Lies.new (w2.alloc (.cells #[.int .i64 4, .int .i64 z, .int .i64 v, .int .i64 g, .int .i64 ra, .int .i64 rn, .int .i64 ri, .int .i64 rp, .int .i64 rk, .int .i64 rt] 29)) [4, z, v, 7, a, n, i, p, k, t] 29 (B := w2.heap.size + 1) (by simp)
  obtain ⟨x00, x01, x02, x03, x04, x05, x06, x07, x08, x09⟩ := X0.ten
  obtain ⟨x10, x11, x12, x13, x14, x15⟩ := X1.six
  obtain ⟨v00, v01, v02, v03, v04, v05, v06, v07, v08, v09⟩ := V0.ten
  obtain ⟨v10, v11, v12, v13, v14, v15, v16, v17, v18, v19⟩ := V1.ten
  have hq2 := below_new ((w2.alloc (.cells #[.int .i64 4, .int .i64 z, .int .i64 v, .int .i64 g, .int .i64 ra, .int .i64 rn, .int .i64 ri, .int .i64 rp, .int .i64 rk, .int .i64 rt] 29)).alloc (.cells #[.int .i64 4, .int .i64 z, .int .i64 v, .int .i64 7, .int .i64 a, .int .i64 n, .int .i64 i, .int .i64 p, .int .i64 k, .int .i64 t] 29)) (.cells #[.int .i64 4, .int .i64 z, .int .i64 v, .int .i64 g, .int .i64 a, .int .i64 n, .int .i64 i, .int .i64 p, .int .i64 k, .int .i64 t] 29)
  obtain ⟨x0q0, x0q1, x0q2, x0q3, x0q4, x0q5, x0q6, x0q7, x0q8, x0q9⟩ := (X0.later hq2).ten
  obtain ⟨x1q0, x1q1, x1q2, x1q3, x1q4, x1q5⟩ := (X1.later hq2).six
  obtain ⟨v0q0, v0q1, v0q2, v0q3, v0q4, v0q5, v0q6, v0q7, v0q8, v0q9⟩ := (V0.later hq2).ten
  obtain ⟨v1q0, v1q1, v1q2, v1q3, v1q4, v1q5, v1q6, v1q7, v1q8, v1q9⟩ := (V1.later hq2).ten
  clear hq2
  have hv2 := below_new ((w2.alloc (.cells #[.int .i64 4, .int .i64 z, .int .i64 v, .int .i64 g, .int .i64 ra, .int .i64 rn, .int .i64 ri, .int .i64 rp, .int .i64 rk, .int .i64 rt] 29)).alloc (.cells #[.int .i64 4, .int .i64 z, .int .i64 v, .int .i64 7, .int .i64 a, .int .i64 n, .int .i64 i, .int .i64 p, .int .i64 k, .int .i64 t] 29)) (.cells #[.int .i64 4, .int .i64 z, .int .i64 0, .int .i64 g, .int .i64 a, .int .i64 n, .int .i64 i, .int .i64 p, .int .i64 k, .int .i64 t] 29)
  replace X0 := X0.later hv2
  replace X1 := X1.later hv2
  replace V0 := V0.later hv2
  replace V1 := V1.later hv2
  replace T := T.later hv2
  replace hB := below_step hB hv2
  clear hv2
  have V2 := Lies.new ((w2.alloc (.cells #[.int .i64 4, .int .i64 z, .int .i64 v, .int .i64 g, .int .i64 ra, .int .i64 rn, .int .i64 ri, .int .i64 rp, .int .i64 rk, .int .i64 rt] 29)).alloc (.cells #[.int .i64 4, .int .i64 z, .int .i64 v, .int .i64 7, .int .i64 a, .int .i64 n, .int .i64 i, .int .i64 p, .int .i64 k, .int .i64 t] 29)) [4, z, 0, g, a, n, i, p, k, t] 29 (B := w2.heap.size + 1 + 1) (by simp)
  obtain ⟨x00, x01, x02, x03, x04, x05, x06, x07, x08, x09⟩ := X0.ten
  obtain ⟨x10, x11, x12, x13, x14, x15⟩ := X1.six
  obtain ⟨v00, v01, v02, v03, v04, v05, v06, v07, v08, v09⟩ := V0.ten
  obtain ⟨v10, v11, v12, v13, v14, v15, v16, v17, v18, v19⟩ := V1.ten
  obtain ⟨v20, v21, v22, v23, v24, v25, v26, v27, v28, v29⟩ := V2.ten
  have S0 : Below w.heap.size w (((w2.alloc (.cells #[.int .i64 4, .int .i64 z, .int .i64 v, .int .i64 g, .int .i64 ra, .int .i64 rn, .int .i64 ri, .int .i64 rp, .int .i64 rk, .int .i64 rt] 29)).alloc (.cells #[.int .i64 4, .int .i64 z, .int .i64 v, .int .i64 7, .int .i64 a, .int .i64 n, .int .i64 i, .int .i64 p, .int .i64 k, .int .i64 t] 29)).alloc (.cells #[.int .i64 4, .int .i64 z, .int .i64 0, .int .i64 g, .int .i64 a, .int .i64 n, .int .i64 i, .int .i64 p, .int .i64 k, .int .i64 t] 29)).drew ∧ Tab (((w2.alloc (.cells #[.int .i64 4, .int .i64 z, .int .i64 v, .int .i64 g, .int .i64 ra, .int .i64 rn, .int .i64 ri, .int .i64 rp, .int .i64 rk, .int .i64 rt] 29)).alloc (.cells #[.int .i64 4, .int .i64 z, .int .i64 v, .int .i64 7, .int .i64 a, .int .i64 n, .int .i64 i, .int .i64 p, .int .i64 k, .int .i64 t] 29)).alloc (.cells #[.int .i64 4, .int .i64 z, .int .i64 0, .int .i64 g, .int .i64 a, .int .i64 n, .int .i64 i, .int .i64 p, .int .i64 k, .int .i64 t] 29)).drew ∧ w.heap.size < (((w2.alloc (.cells #[.int .i64 4, .int .i64 z, .int .i64 v, .int .i64 g, .int .i64 ra, .int .i64 rn, .int .i64 ri, .int .i64 rp, .int .i64 rk, .int .i64 rt] 29)).alloc (.cells #[.int .i64 4, .int .i64 z, .int .i64 v, .int .i64 7, .int .i64 a, .int .i64 n, .int .i64 i, .int .i64 p, .int .i64 k, .int .i64 t] 29)).alloc (.cells #[.int .i64 4, .int .i64 z, .int .i64 0, .int .i64 g, .int .i64 a, .int .i64 n, .int .i64 i, .int .i64 p, .int .i64 k, .int .i64 t] 29)).drew.heap.size ∧ w2.heap.size < (((w2.alloc (.cells #[.int .i64 4, .int .i64 z, .int .i64 v, .int .i64 g, .int .i64 ra, .int .i64 rn, .int .i64 ri, .int .i64 rp, .int .i64 rk, .int .i64 rt] 29)).alloc (.cells #[.int .i64 4, .int .i64 z, .int .i64 v, .int .i64 7, .int .i64 a, .int .i64 n, .int .i64 i, .int .i64 p, .int .i64 k, .int .i64 t] 29)).alloc (.cells #[.int .i64 4, .int .i64 z, .int .i64 0, .int .i64 g, .int .i64 a, .int .i64 n, .int .i64 i, .int .i64 p, .int .i64 k, .int .i64 t] 29)).drew.heap.size ∧ w2.heap.size + 1 < (((w2.alloc (.cells #[.int .i64 4, .int .i64 z, .int .i64 v, .int .i64 g, .int .i64 ra, .int .i64 rn, .int .i64 ri, .int .i64 rp, .int .i64 rk, .int .i64 rt] 29)).alloc (.cells #[.int .i64 4, .int .i64 z, .int .i64 v, .int .i64 7, .int .i64 a, .int .i64 n, .int .i64 i, .int .i64 p, .int .i64 k, .int .i64 t] 29)).alloc (.cells #[.int .i64 4, .int .i64 z, .int .i64 0, .int .i64 g, .int .i64 a, .int .i64 n, .int .i64 i, .int .i64 p, .int .i64 k, .int .i64 t] 29)).drew.heap.size ∧ w2.heap.size + 1 + 1 < (((w2.alloc (.cells #[.int .i64 4, .int .i64 z, .int .i64 v, .int .i64 g, .int .i64 ra, .int .i64 rn, .int .i64 ri, .int .i64 rp, .int .i64 rk, .int .i64 rt] 29)).alloc (.cells #[.int .i64 4, .int .i64 z, .int .i64 v, .int .i64 7, .int .i64 a, .int .i64 n, .int .i64 i, .int .i64 p, .int .i64 k, .int .i64 t] 29)).alloc (.cells #[.int .i64 4, .int .i64 z, .int .i64 0, .int .i64 g, .int .i64 a, .int .i64 n, .int .i64 i, .int .i64 p, .int .i64 k, .int .i64 t] 29)).drew.heap.size ∧ (((w2.alloc (.cells #[.int .i64 4, .int .i64 z, .int .i64 v, .int .i64 g, .int .i64 ra, .int .i64 rn, .int .i64 ri, .int .i64 rp, .int .i64 rk, .int .i64 rt] 29)).alloc (.cells #[.int .i64 4, .int .i64 z, .int .i64 v, .int .i64 7, .int .i64 a, .int .i64 n, .int .i64 i, .int .i64 p, .int .i64 k, .int .i64 t] 29)).alloc (.cells #[.int .i64 4, .int .i64 z, .int .i64 0, .int .i64 g, .int .i64 a, .int .i64 n, .int .i64 i, .int .i64 p, .int .i64 k, .int .i64 t] 29)).drew.cell? ⟨w.heap.size, 0, none⟩ = some (.int .i64 4) ∧ (((w2.alloc (.cells #[.int .i64 4, .int .i64 z, .int .i64 v, .int .i64 g, .int .i64 ra, .int .i64 rn, .int .i64 ri, .int .i64 rp, .int .i64 rk, .int .i64 rt] 29)).alloc (.cells #[.int .i64 4, .int .i64 z, .int .i64 v, .int .i64 7, .int .i64 a, .int .i64 n, .int .i64 i, .int .i64 p, .int .i64 k, .int .i64 t] 29)).alloc (.cells #[.int .i64 4, .int .i64 z, .int .i64 0, .int .i64 g, .int .i64 a, .int .i64 n, .int .i64 i, .int .i64 p, .int .i64 k, .int .i64 t] 29)).drew.cell? ⟨w2.heap.size, 0, none⟩ = some (.int .i64 4) ∧ (((w2.alloc (.cells #[.int .i64 4, .int .i64 z, .int .i64 v, .int .i64 g, .int .i64 ra, .int .i64 rn, .int .i64 ri, .int .i64 rp, .int .i64 rk, .int .i64 rt] 29)).alloc (.cells #[.int .i64 4, .int .i64 z, .int .i64 v, .int .i64 7, .int .i64 a, .int .i64 n, .int .i64 i, .int .i64 p, .int .i64 k, .int .i64 t] 29)).alloc (.cells #[.int .i64 4, .int .i64 z, .int .i64 0, .int .i64 g, .int .i64 a, .int .i64 n, .int .i64 i, .int .i64 p, .int .i64 k, .int .i64 t] 29)).drew.cell? ⟨w2.heap.size, 1, none⟩ = some (.int .i64 z) ∧ (((w2.alloc (.cells #[.int .i64 4, .int .i64 z, .int .i64 v, .int .i64 g, .int .i64 ra, .int .i64 rn, .int .i64 ri, .int .i64 rp, .int .i64 rk, .int .i64 rt] 29)).alloc (.cells #[.int .i64 4, .int .i64 z, .int .i64 v, .int .i64 7, .int .i64 a, .int .i64 n, .int .i64 i, .int .i64 p, .int .i64 k, .int .i64 t] 29)).alloc (.cells #[.int .i64 4, .int .i64 z, .int .i64 0, .int .i64 g, .int .i64 a, .int .i64 n, .int .i64 i, .int .i64 p, .int .i64 k, .int .i64 t] 29)).drew.cell? ⟨w2.heap.size, 2, none⟩ = some (.int .i64 v) ∧ (((w2.alloc (.cells #[.int .i64 4, .int .i64 z, .int .i64 v, .int .i64 g, .int .i64 ra, .int .i64 rn, .int .i64 ri, .int .i64 rp, .int .i64 rk, .int .i64 rt] 29)).alloc (.cells #[.int .i64 4, .int .i64 z, .int .i64 v, .int .i64 7, .int .i64 a, .int .i64 n, .int .i64 i, .int .i64 p, .int .i64 k, .int .i64 t] 29)).alloc (.cells #[.int .i64 4, .int .i64 z, .int .i64 0, .int .i64 g, .int .i64 a, .int .i64 n, .int .i64 i, .int .i64 p, .int .i64 k, .int .i64 t] 29)).drew.cell? ⟨w2.heap.size, 3, none⟩ = some (.int .i64 g) ∧ (((w2.alloc (.cells #[.int .i64 4, .int .i64 z, .int .i64 v, .int .i64 g, .int .i64 ra, .int .i64 rn, .int .i64 ri, .int .i64 rp, .int .i64 rk, .int .i64 rt] 29)).alloc (.cells #[.int .i64 4, .int .i64 z, .int .i64 v, .int .i64 7, .int .i64 a, .int .i64 n, .int .i64 i, .int .i64 p, .int .i64 k, .int .i64 t] 29)).alloc (.cells #[.int .i64 4, .int .i64 z, .int .i64 0, .int .i64 g, .int .i64 a, .int .i64 n, .int .i64 i, .int .i64 p, .int .i64 k, .int .i64 t] 29)).drew.cell? ⟨w2.heap.size, 4, none⟩ = some (.int .i64 ra) ∧ (((w2.alloc (.cells #[.int .i64 4, .int .i64 z, .int .i64 v, .int .i64 g, .int .i64 ra, .int .i64 rn, .int .i64 ri, .int .i64 rp, .int .i64 rk, .int .i64 rt] 29)).alloc (.cells #[.int .i64 4, .int .i64 z, .int .i64 v, .int .i64 7, .int .i64 a, .int .i64 n, .int .i64 i, .int .i64 p, .int .i64 k, .int .i64 t] 29)).alloc (.cells #[.int .i64 4, .int .i64 z, .int .i64 0, .int .i64 g, .int .i64 a, .int .i64 n, .int .i64 i, .int .i64 p, .int .i64 k, .int .i64 t] 29)).drew.cell? ⟨w2.heap.size, 5, none⟩ = some (.int .i64 rn) ∧ (((w2.alloc (.cells #[.int .i64 4, .int .i64 z, .int .i64 v, .int .i64 g, .int .i64 ra, .int .i64 rn, .int .i64 ri, .int .i64 rp, .int .i64 rk, .int .i64 rt] 29)).alloc (.cells #[.int .i64 4, .int .i64 z, .int .i64 v, .int .i64 7, .int .i64 a, .int .i64 n, .int .i64 i, .int .i64 p, .int .i64 k, .int .i64 t] 29)).alloc (.cells #[.int .i64 4, .int .i64 z, .int .i64 0, .int .i64 g, .int .i64 a, .int .i64 n, .int .i64 i, .int .i64 p, .int .i64 k, .int .i64 t] 29)).drew.cell? ⟨w2.heap.size, 6, none⟩ = some (.int .i64 ri) ∧ (((w2.alloc (.cells #[.int .i64 4, .int .i64 z, .int .i64 v, .int .i64 g, .int .i64 ra, .int .i64 rn, .int .i64 ri, .int .i64 rp, .int .i64 rk, .int .i64 rt] 29)).alloc (.cells #[.int .i64 4, .int .i64 z, .int .i64 v, .int .i64 7, .int .i64 a, .int .i64 n, .int .i64 i, .int .i64 p, .int .i64 k, .int .i64 t] 29)).alloc (.cells #[.int .i64 4, .int .i64 z, .int .i64 0, .int .i64 g, .int .i64 a, .int .i64 n, .int .i64 i, .int .i64 p, .int .i64 k, .int .i64 t] 29)).drew.cell? ⟨w2.heap.size, 7, none⟩ = some (.int .i64 rp) ∧ (((w2.alloc (.cells #[.int .i64 4, .int .i64 z, .int .i64 v, .int .i64 g, .int .i64 ra, .int .i64 rn, .int .i64 ri, .int .i64 rp, .int .i64 rk, .int .i64 rt] 29)).alloc (.cells #[.int .i64 4, .int .i64 z, .int .i64 v, .int .i64 7, .int .i64 a, .int .i64 n, .int .i64 i, .int .i64 p, .int .i64 k, .int .i64 t] 29)).alloc (.cells #[.int .i64 4, .int .i64 z, .int .i64 0, .int .i64 g, .int .i64 a, .int .i64 n, .int .i64 i, .int .i64 p, .int .i64 k, .int .i64 t] 29)).drew.cell? ⟨w2.heap.size, 8, none⟩ = some (.int .i64 rk) ∧ (((w2.alloc (.cells #[.int .i64 4, .int .i64 z, .int .i64 v, .int .i64 g, .int .i64 ra, .int .i64 rn, .int .i64 ri, .int .i64 rp, .int .i64 rk, .int .i64 rt] 29)).alloc (.cells #[.int .i64 4, .int .i64 z, .int .i64 v, .int .i64 7, .int .i64 a, .int .i64 n, .int .i64 i, .int .i64 p, .int .i64 k, .int .i64 t] 29)).alloc (.cells #[.int .i64 4, .int .i64 z, .int .i64 0, .int .i64 g, .int .i64 a, .int .i64 n, .int .i64 i, .int .i64 p, .int .i64 k, .int .i64 t] 29)).drew.cell? ⟨w2.heap.size, 9, none⟩ = some (.int .i64 rt) ∧ (((w2.alloc (.cells #[.int .i64 4, .int .i64 z, .int .i64 v, .int .i64 g, .int .i64 ra, .int .i64 rn, .int .i64 ri, .int .i64 rp, .int .i64 rk, .int .i64 rt] 29)).alloc (.cells #[.int .i64 4, .int .i64 z, .int .i64 v, .int .i64 7, .int .i64 a, .int .i64 n, .int .i64 i, .int .i64 p, .int .i64 k, .int .i64 t] 29)).alloc (.cells #[.int .i64 4, .int .i64 z, .int .i64 0, .int .i64 g, .int .i64 a, .int .i64 n, .int .i64 i, .int .i64 p, .int .i64 k, .int .i64 t] 29)).drew.cell? ⟨w2.heap.size + 1, 0, none⟩ = some (.int .i64 4) ∧ (((w2.alloc (.cells #[.int .i64 4, .int .i64 z, .int .i64 v, .int .i64 g, .int .i64 ra, .int .i64 rn, .int .i64 ri, .int .i64 rp, .int .i64 rk, .int .i64 rt] 29)).alloc (.cells #[.int .i64 4, .int .i64 z, .int .i64 v, .int .i64 7, .int .i64 a, .int .i64 n, .int .i64 i, .int .i64 p, .int .i64 k, .int .i64 t] 29)).alloc (.cells #[.int .i64 4, .int .i64 z, .int .i64 0, .int .i64 g, .int .i64 a, .int .i64 n, .int .i64 i, .int .i64 p, .int .i64 k, .int .i64 t] 29)).drew.cell? ⟨w2.heap.size + 1, 1, none⟩ = some (.int .i64 z) ∧ (((w2.alloc (.cells #[.int .i64 4, .int .i64 z, .int .i64 v, .int .i64 g, .int .i64 ra, .int .i64 rn, .int .i64 ri, .int .i64 rp, .int .i64 rk, .int .i64 rt] 29)).alloc (.cells #[.int .i64 4, .int .i64 z, .int .i64 v, .int .i64 7, .int .i64 a, .int .i64 n, .int .i64 i, .int .i64 p, .int .i64 k, .int .i64 t] 29)).alloc (.cells #[.int .i64 4, .int .i64 z, .int .i64 0, .int .i64 g, .int .i64 a, .int .i64 n, .int .i64 i, .int .i64 p, .int .i64 k, .int .i64 t] 29)).drew.cell? ⟨w2.heap.size + 1, 2, none⟩ = some (.int .i64 v) ∧ (((w2.alloc (.cells #[.int .i64 4, .int .i64 z, .int .i64 v, .int .i64 g, .int .i64 ra, .int .i64 rn, .int .i64 ri, .int .i64 rp, .int .i64 rk, .int .i64 rt] 29)).alloc (.cells #[.int .i64 4, .int .i64 z, .int .i64 v, .int .i64 7, .int .i64 a, .int .i64 n, .int .i64 i, .int .i64 p, .int .i64 k, .int .i64 t] 29)).alloc (.cells #[.int .i64 4, .int .i64 z, .int .i64 0, .int .i64 g, .int .i64 a, .int .i64 n, .int .i64 i, .int .i64 p, .int .i64 k, .int .i64 t] 29)).drew.cell? ⟨w2.heap.size + 1, 3, none⟩ = some (.int .i64 7) ∧ (((w2.alloc (.cells #[.int .i64 4, .int .i64 z, .int .i64 v, .int .i64 g, .int .i64 ra, .int .i64 rn, .int .i64 ri, .int .i64 rp, .int .i64 rk, .int .i64 rt] 29)).alloc (.cells #[.int .i64 4, .int .i64 z, .int .i64 v, .int .i64 7, .int .i64 a, .int .i64 n, .int .i64 i, .int .i64 p, .int .i64 k, .int .i64 t] 29)).alloc (.cells #[.int .i64 4, .int .i64 z, .int .i64 0, .int .i64 g, .int .i64 a, .int .i64 n, .int .i64 i, .int .i64 p, .int .i64 k, .int .i64 t] 29)).drew.cell? ⟨w2.heap.size + 1, 4, none⟩ = some (.int .i64 a) ∧ (((w2.alloc (.cells #[.int .i64 4, .int .i64 z, .int .i64 v, .int .i64 g, .int .i64 ra, .int .i64 rn, .int .i64 ri, .int .i64 rp, .int .i64 rk, .int .i64 rt] 29)).alloc (.cells #[.int .i64 4, .int .i64 z, .int .i64 v, .int .i64 7, .int .i64 a, .int .i64 n, .int .i64 i, .int .i64 p, .int .i64 k, .int .i64 t] 29)).alloc (.cells #[.int .i64 4, .int .i64 z, .int .i64 0, .int .i64 g, .int .i64 a, .int .i64 n, .int .i64 i, .int .i64 p, .int .i64 k, .int .i64 t] 29)).drew.cell? ⟨w2.heap.size + 1, 5, none⟩ = some (.int .i64 n) ∧ (((w2.alloc (.cells #[.int .i64 4, .int .i64 z, .int .i64 v, .int .i64 g, .int .i64 ra, .int .i64 rn, .int .i64 ri, .int .i64 rp, .int .i64 rk, .int .i64 rt] 29)).alloc (.cells #[.int .i64 4, .int .i64 z, .int .i64 v, .int .i64 7, .int .i64 a, .int .i64 n, .int .i64 i, .int .i64 p, .int .i64 k, .int .i64 t] 29)).alloc (.cells #[.int .i64 4, .int .i64 z, .int .i64 0, .int .i64 g, .int .i64 a, .int .i64 n, .int .i64 i, .int .i64 p, .int .i64 k, .int .i64 t] 29)).drew.cell? ⟨w2.heap.size + 1, 6, none⟩ = some (.int .i64 i) ∧ (((w2.alloc (.cells #[.int .i64 4, .int .i64 z, .int .i64 v, .int .i64 g, .int .i64 ra, .int .i64 rn, .int .i64 ri, .int .i64 rp, .int .i64 rk, .int .i64 rt] 29)).alloc (.cells #[.int .i64 4, .int .i64 z, .int .i64 v, .int .i64 7, .int .i64 a, .int .i64 n, .int .i64 i, .int .i64 p, .int .i64 k, .int .i64 t] 29)).alloc (.cells #[.int .i64 4, .int .i64 z, .int .i64 0, .int .i64 g, .int .i64 a, .int .i64 n, .int .i64 i, .int .i64 p, .int .i64 k, .int .i64 t] 29)).drew.cell? ⟨w2.heap.size + 1, 7, none⟩ = some (.int .i64 p) ∧ (((w2.alloc (.cells #[.int .i64 4, .int .i64 z, .int .i64 v, .int .i64 g, .int .i64 ra, .int .i64 rn, .int .i64 ri, .int .i64 rp, .int .i64 rk, .int .i64 rt] 29)).alloc (.cells #[.int .i64 4, .int .i64 z, .int .i64 v, .int .i64 7, .int .i64 a, .int .i64 n, .int .i64 i, .int .i64 p, .int .i64 k, .int .i64 t] 29)).alloc (.cells #[.int .i64 4, .int .i64 z, .int .i64 0, .int .i64 g, .int .i64 a, .int .i64 n, .int .i64 i, .int .i64 p, .int .i64 k, .int .i64 t] 29)).drew.cell? ⟨w2.heap.size + 1, 8, none⟩ = some (.int .i64 k) ∧ (((w2.alloc (.cells #[.int .i64 4, .int .i64 z, .int .i64 v, .int .i64 g, .int .i64 ra, .int .i64 rn, .int .i64 ri, .int .i64 rp, .int .i64 rk, .int .i64 rt] 29)).alloc (.cells #[.int .i64 4, .int .i64 z, .int .i64 v, .int .i64 7, .int .i64 a, .int .i64 n, .int .i64 i, .int .i64 p, .int .i64 k, .int .i64 t] 29)).alloc (.cells #[.int .i64 4, .int .i64 z, .int .i64 0, .int .i64 g, .int .i64 a, .int .i64 n, .int .i64 i, .int .i64 p, .int .i64 k, .int .i64 t] 29)).drew.cell? ⟨w2.heap.size + 1, 9, none⟩ = some (.int .i64 t) ∧ (((w2.alloc (.cells #[.int .i64 4, .int .i64 z, .int .i64 v, .int .i64 g, .int .i64 ra, .int .i64 rn, .int .i64 ri, .int .i64 rp, .int .i64 rk, .int .i64 rt] 29)).alloc (.cells #[.int .i64 4, .int .i64 z, .int .i64 v, .int .i64 7, .int .i64 a, .int .i64 n, .int .i64 i, .int .i64 p, .int .i64 k, .int .i64 t] 29)).alloc (.cells #[.int .i64 4, .int .i64 z, .int .i64 0, .int .i64 g, .int .i64 a, .int .i64 n, .int .i64 i, .int .i64 p, .int .i64 k, .int .i64 t] 29)).drew.cell? ⟨w2.heap.size + 1 + 1, 0, none⟩ = some (.int .i64 4) ∧ (((w2.alloc (.cells #[.int .i64 4, .int .i64 z, .int .i64 v, .int .i64 g, .int .i64 ra, .int .i64 rn, .int .i64 ri, .int .i64 rp, .int .i64 rk, .int .i64 rt] 29)).alloc (.cells #[.int .i64 4, .int .i64 z, .int .i64 v, .int .i64 7, .int .i64 a, .int .i64 n, .int .i64 i, .int .i64 p, .int .i64 k, .int .i64 t] 29)).alloc (.cells #[.int .i64 4, .int .i64 z, .int .i64 0, .int .i64 g, .int .i64 a, .int .i64 n, .int .i64 i, .int .i64 p, .int .i64 k, .int .i64 t] 29)).drew.cell? ⟨w2.heap.size + 1 + 1, 1, none⟩ = some (.int .i64 z) ∧ (((w2.alloc (.cells #[.int .i64 4, .int .i64 z, .int .i64 v, .int .i64 g, .int .i64 ra, .int .i64 rn, .int .i64 ri, .int .i64 rp, .int .i64 rk, .int .i64 rt] 29)).alloc (.cells #[.int .i64 4, .int .i64 z, .int .i64 v, .int .i64 7, .int .i64 a, .int .i64 n, .int .i64 i, .int .i64 p, .int .i64 k, .int .i64 t] 29)).alloc (.cells #[.int .i64 4, .int .i64 z, .int .i64 0, .int .i64 g, .int .i64 a, .int .i64 n, .int .i64 i, .int .i64 p, .int .i64 k, .int .i64 t] 29)).drew.cell? ⟨w2.heap.size + 1 + 1, 2, none⟩ = some (.int .i64 0) ∧ (((w2.alloc (.cells #[.int .i64 4, .int .i64 z, .int .i64 v, .int .i64 g, .int .i64 ra, .int .i64 rn, .int .i64 ri, .int .i64 rp, .int .i64 rk, .int .i64 rt] 29)).alloc (.cells #[.int .i64 4, .int .i64 z, .int .i64 v, .int .i64 7, .int .i64 a, .int .i64 n, .int .i64 i, .int .i64 p, .int .i64 k, .int .i64 t] 29)).alloc (.cells #[.int .i64 4, .int .i64 z, .int .i64 0, .int .i64 g, .int .i64 a, .int .i64 n, .int .i64 i, .int .i64 p, .int .i64 k, .int .i64 t] 29)).drew.cell? ⟨w2.heap.size + 1 + 1, 3, none⟩ = some (.int .i64 g) ∧ (((w2.alloc (.cells #[.int .i64 4, .int .i64 z, .int .i64 v, .int .i64 g, .int .i64 ra, .int .i64 rn, .int .i64 ri, .int .i64 rp, .int .i64 rk, .int .i64 rt] 29)).alloc (.cells #[.int .i64 4, .int .i64 z, .int .i64 v, .int .i64 7, .int .i64 a, .int .i64 n, .int .i64 i, .int .i64 p, .int .i64 k, .int .i64 t] 29)).alloc (.cells #[.int .i64 4, .int .i64 z, .int .i64 0, .int .i64 g, .int .i64 a, .int .i64 n, .int .i64 i, .int .i64 p, .int .i64 k, .int .i64 t] 29)).drew.cell? ⟨w2.heap.size + 1 + 1, 4, none⟩ = some (.int .i64 a) ∧ (((w2.alloc (.cells #[.int .i64 4, .int .i64 z, .int .i64 v, .int .i64 g, .int .i64 ra, .int .i64 rn, .int .i64 ri, .int .i64 rp, .int .i64 rk, .int .i64 rt] 29)).alloc (.cells #[.int .i64 4, .int .i64 z, .int .i64 v, .int .i64 7, .int .i64 a, .int .i64 n, .int .i64 i, .int .i64 p, .int .i64 k, .int .i64 t] 29)).alloc (.cells #[.int .i64 4, .int .i64 z, .int .i64 0, .int .i64 g, .int .i64 a, .int .i64 n, .int .i64 i, .int .i64 p, .int .i64 k, .int .i64 t] 29)).drew.cell? ⟨w2.heap.size + 1 + 1, 5, none⟩ = some (.int .i64 n) ∧ (((w2.alloc (.cells #[.int .i64 4, .int .i64 z, .int .i64 v, .int .i64 g, .int .i64 ra, .int .i64 rn, .int .i64 ri, .int .i64 rp, .int .i64 rk, .int .i64 rt] 29)).alloc (.cells #[.int .i64 4, .int .i64 z, .int .i64 v, .int .i64 7, .int .i64 a, .int .i64 n, .int .i64 i, .int .i64 p, .int .i64 k, .int .i64 t] 29)).alloc (.cells #[.int .i64 4, .int .i64 z, .int .i64 0, .int .i64 g, .int .i64 a, .int .i64 n, .int .i64 i, .int .i64 p, .int .i64 k, .int .i64 t] 29)).drew.cell? ⟨w2.heap.size + 1 + 1, 6, none⟩ = some (.int .i64 i) ∧ (((w2.alloc (.cells #[.int .i64 4, .int .i64 z, .int .i64 v, .int .i64 g, .int .i64 ra, .int .i64 rn, .int .i64 ri, .int .i64 rp, .int .i64 rk, .int .i64 rt] 29)).alloc (.cells #[.int .i64 4, .int .i64 z, .int .i64 v, .int .i64 7, .int .i64 a, .int .i64 n, .int .i64 i, .int .i64 p, .int .i64 k, .int .i64 t] 29)).alloc (.cells #[.int .i64 4, .int .i64 z, .int .i64 0, .int .i64 g, .int .i64 a, .int .i64 n, .int .i64 i, .int .i64 p, .int .i64 k, .int .i64 t] 29)).drew.cell? ⟨w2.heap.size + 1 + 1, 7, none⟩ = some (.int .i64 p) ∧ (((w2.alloc (.cells #[.int .i64 4, .int .i64 z, .int .i64 v, .int .i64 g, .int .i64 ra, .int .i64 rn, .int .i64 ri, .int .i64 rp, .int .i64 rk, .int .i64 rt] 29)).alloc (.cells #[.int .i64 4, .int .i64 z, .int .i64 v, .int .i64 7, .int .i64 a, .int .i64 n, .int .i64 i, .int .i64 p, .int .i64 k, .int .i64 t] 29)).alloc (.cells #[.int .i64 4, .int .i64 z, .int .i64 0, .int .i64 g, .int .i64 a, .int .i64 n, .int .i64 i, .int .i64 p, .int .i64 k, .int .i64 t] 29)).drew.cell? ⟨w2.heap.size + 1 + 1, 8, none⟩ = some (.int .i64 k) ∧ (((w2.alloc (.cells #[.int .i64 4, .int .i64 z, .int .i64 v, .int .i64 g, .int .i64 ra, .int .i64 rn, .int .i64 ri, .int .i64 rp, .int .i64 rk, .int .i64 rt] 29)).alloc (.cells #[.int .i64 4, .int .i64 z, .int .i64 v, .int .i64 7, .int .i64 a, .int .i64 n, .int .i64 i, .int .i64 p, .int .i64 k, .int .i64 t] 29)).alloc (.cells #[.int .i64 4, .int .i64 z, .int .i64 0, .int .i64 g, .int .i64 a, .int .i64 n, .int .i64 i, .int .i64 p, .int .i64 k, .int .i64 t] 29)).drew.cell? ⟨w2.heap.size + 1 + 1, 9, none⟩ = some (.int .i64 t) := ⟨hB.drew, T.later (Below.refl _ _).drew, X0.lt, V0.lt, V1.lt, V2.lt, x00, v00, v01, v02, v03, v04, v05, v06, v07, v08, v09, v10, v11, v12, v13, v14, v15, v16, v17, v18, v19, v20, v21, v22, v23, v24, v25, v26, v27, v28, v29⟩
  clear X0 X1 V0 V1 V2
  go_wp2_with fail
  refine wp_region_noPanic ?_
  refine wp_region_held_drew (S := fun w' => Below w.heap.size w w' ∧ Tab w' ∧ w.heap.size < w'.heap.size ∧ w2.heap.size < w'.heap.size ∧ w2.heap.size + 1 < w'.heap.size ∧ w2.heap.size + 1 + 1 < w'.heap.size ∧ w'.cell? ⟨w.heap.size, 0, none⟩ = some (.int .i64 4) ∧ w'.cell? ⟨w2.heap.size, 0, none⟩ = some (.int .i64 4) ∧ w'.cell? ⟨w2.heap.size, 1, none⟩ = some (.int .i64 z) ∧ w'.cell? ⟨w2.heap.size, 2, none⟩ = some (.int .i64 v) ∧ w'.cell? ⟨w2.heap.size, 3, none⟩ = some (.int .i64 g) ∧ w'.cell? ⟨w2.heap.size, 4, none⟩ = some (.int .i64 ra) ∧ w'.cell? ⟨w2.heap.size, 5, none⟩ = some (.int .i64 rn) ∧ w'.cell? ⟨w2.heap.size, 6, none⟩ = some (.int .i64 ri) ∧ w'.cell? ⟨w2.heap.size, 7, none⟩ = some (.int .i64 rp) ∧ w'.cell? ⟨w2.heap.size, 8, none⟩ = some (.int .i64 rk) ∧ w'.cell? ⟨w2.heap.size, 9, none⟩ = some (.int .i64 rt) ∧ w'.cell? ⟨w2.heap.size + 1, 0, none⟩ = some (.int .i64 4) ∧ w'.cell? ⟨w2.heap.size + 1, 1, none⟩ = some (.int .i64 z) ∧ w'.cell? ⟨w2.heap.size + 1, 2, none⟩ = some (.int .i64 v) ∧ w'.cell? ⟨w2.heap.size + 1, 3, none⟩ = some (.int .i64 7) ∧ w'.cell? ⟨w2.heap.size + 1, 4, none⟩ = some (.int .i64 a) ∧ w'.cell? ⟨w2.heap.size + 1, 5, none⟩ = some (.int .i64 n) ∧ w'.cell? ⟨w2.heap.size + 1, 6, none⟩ = some (.int .i64 i) ∧ w'.cell? ⟨w2.heap.size + 1, 7, none⟩ = some (.int .i64 p) ∧ w'.cell? ⟨w2.heap.size + 1, 8, none⟩ = some (.int .i64 k) ∧ w'.cell? ⟨w2.heap.size + 1, 9, none⟩ = some (.int .i64 t) ∧ w'.cell? ⟨w2.heap.size + 1 + 1, 0, none⟩ = some (.int .i64 4) ∧ w'.cell? ⟨w2.heap.size + 1 + 1, 1, none⟩ = some (.int .i64 z) ∧ w'.cell? ⟨w2.heap.size + 1 + 1, 2, none⟩ = some (.int .i64 0) ∧ w'.cell? ⟨w2.heap.size + 1 + 1, 3, none⟩ = some (.int .i64 g) ∧ w'.cell? ⟨w2.heap.size + 1 + 1, 4, none⟩ = some (.int .i64 a) ∧ w'.cell? ⟨w2.heap.size + 1 + 1, 5, none⟩ = some (.int .i64 n) ∧ w'.cell? ⟨w2.heap.size + 1 + 1, 6, none⟩ = some (.int .i64 i) ∧ w'.cell? ⟨w2.heap.size + 1 + 1, 7, none⟩ = some (.int .i64 p) ∧ w'.cell? ⟨w2.heap.size + 1 + 1, 8, none⟩ = some (.int .i64 k) ∧ w'.cell? ⟨w2.heap.size + 1 + 1, 9, none⟩ = some (.int .i64 t)) (by kernel_rfl) S0 (fun hH => ?_)
  clear S0
  clear hB x00 x01 x02 x03 x04 x05 x06 x07 x08 x09 x10 x11 x12 x13 x14 x15 v00 v01 v02 v03 v04 v05 v06 v07 v08 v09 v10 v11 v12 v13 v14 v15 v16 v17 v18 v19 v20 v21 v22 v23 v24 v25 v26 v27 v28 v29
  refine wpAnyH_take (i := 0) (oi := { dst := some 30, op := _, type := _, pos := _, after := _, guard := _ }) (v := ?_) rfl (by kernel_rfl) (by kernel_rfl) (by kernel_rfl) (fun _ _ _ h => h) (Or.inl ⟨by rfl, ?_⟩) hH ?_
  rotate_left
  · intro wz hSw
    (try dsimp only at hSw)
    first | (go_simp; done) | (go_simp; with_reducible rfl)
  try simp only [Act.put, List.setIfInBounds_toArray, List.set_cons_zero, List.set_cons_succ]
  refine wpAnyH_take (i := 1) (oi := { dst := some 31, op := _, type := _, pos := _, after := _, guard := _ }) (v := ?_) rfl (by kernel_rfl) (by kernel_rfl) (by kernel_rfl) (fun _ _ _ h => h) (Or.inl ⟨by rfl, ?_⟩) hH ?_
  rotate_left
  · intro wz hSw
    (try dsimp only at hSw)
    first | (go_simp; done) | (go_simp; with_reducible rfl)
  try simp only [Act.put, List.setIfInBounds_toArray, List.set_cons_zero, List.set_cons_succ]
  refine wpAnyH_take (i := 2) (oi := { dst := some 32, op := _, type := _, pos := _, after := _, guard := _ }) (v := ?_) rfl (by kernel_rfl) (by kernel_rfl) (by kernel_rfl) (fun _ _ _ h => h) (Or.inl ⟨by rfl, ?_⟩) hH ?_
  rotate_left
  · intro wz hSw
    (try dsimp only at hSw)
    first | (go_simp; done) | (go_simp; with_reducible rfl)
  try simp only [Act.put, List.setIfInBounds_toArray, List.set_cons_zero, List.set_cons_succ]
  refine wpAnyH_take (i := 3) (oi := { dst := some 33, op := _, type := _, pos := _, after := _, guard := _ }) (v := ?_) rfl (by kernel_rfl) (by kernel_rfl) (by kernel_rfl) (fun _ _ _ h => h) (Or.inl ⟨by rfl, ?_⟩) hH ?_
  rotate_left
  · intro wz hSw
    (try dsimp only at hSw)
    first | (go_simp; done) | (go_simp; with_reducible rfl)
  try simp only [Act.put, List.setIfInBounds_toArray, List.set_cons_zero, List.set_cons_succ]
  refine wpAnyH_take (i := 4) (oi := { dst := some 34, op := _, type := _, pos := _, after := _, guard := _ }) (v := ?_) rfl (by kernel_rfl) (by kernel_rfl) (by kernel_rfl) (fun _ _ _ h => h) (Or.inl ⟨by rfl, ?_⟩) hH ?_
  rotate_left
  · intro wz hSw
    (try dsimp only at hSw)
    first | (go_simp; done) | (go_simp; with_reducible rfl)
  try simp only [Act.put, List.setIfInBounds_toArray, List.set_cons_zero, List.set_cons_succ]
  refine wpAnyH_ready (rs := [5]) (by kernel_rfl) (by simp) ?_
  refine AllReadyH.cons (o := { dst := some 35, op := _, type := _, pos := _, after := _, guard := _ }) rfl (fun K hK => ?_) AllReadyH.nil
  go_simp
  refine (mMay_any 4 z v g ra rn ri rp rk rt _ hH.2.1).mono ?_
  rw [hA]
  rintro e wq5 ⟨rfl, hbq⟩
  go_wp2_with fail
  refine hK.out _ _ (kept_kinds hH hbq) (fun hH2 => ?_)
  clear hK K hH hbq
  have hH := hH2
  clear hH2
  try simp only [Act.put, List.setIfInBounds_toArray, List.set_cons_zero, List.set_cons_succ]
  refine wpAnyH_take (i := 6) (oi := { dst := some 36, op := _, type := _, pos := _, after := _, guard := _ }) (v := ?_) rfl (by kernel_rfl) (by kernel_rfl) (by kernel_rfl) (fun _ _ _ h => h) (Or.inl ⟨by rfl, ?_⟩) hH ?_
  rotate_left
  · intro wz hSw
    (try dsimp only at hSw)
    first | (go_simp; done) | (go_simp; with_reducible rfl)
  try simp only [Act.put, List.setIfInBounds_toArray, List.set_cons_zero, List.set_cons_succ]
  refine wpAnyH_take (i := 7) (oi := { dst := some 37, op := _, type := _, pos := _, after := _, guard := _ }) (v := ?_) rfl (by kernel_rfl) (by kernel_rfl) (by kernel_rfl) (fun _ _ _ h => h) (Or.inl ⟨by rfl, ?_⟩) hH ?_
  rotate_left
  · intro wz hSw
    (try dsimp only at hSw)
    first | (go_simp; done) | (go_simp; with_reducible rfl)
  try simp only [Act.put, List.setIfInBounds_toArray, List.set_cons_zero, List.set_cons_succ]
  refine wpAnyH_take (i := 8) (oi := { dst := some 38, op := _, type := _, pos := _, after := _, guard := _ }) (v := ?_) rfl (by kernel_rfl) (by kernel_rfl) (by kernel_rfl) (fun _ _ _ h => h) (Or.inl ⟨by rfl, ?_⟩) hH ?_
  rotate_left
  · intro wz hSw
    (try dsimp only at hSw)
    first | (go_simp; done) | (go_simp; with_reducible rfl)
  try simp only [Act.put, List.setIfInBounds_toArray, List.set_cons_zero, List.set_cons_succ]
  refine wpAnyH_take (i := 9) (oi := { dst := some 39, op := _, type := _, pos := _, after := _, guard := _ }) (v := ?_) rfl (by kernel_rfl) (by kernel_rfl) (by kernel_rfl) (fun _ _ _ h => h) (Or.inl ⟨by rfl, ?_⟩) hH ?_
  rotate_left
  · intro wz hSw
    (try dsimp only at hSw)
    first | (go_simp; done) | (go_simp; with_reducible rfl)
  try simp only [Act.put, List.setIfInBounds_toArray, List.set_cons_zero, List.set_cons_succ]
  refine wpAnyH_take (i := 10) (oi := { dst := some 40, op := _, type := _, pos := _, after := _, guard := _ }) (v := ?_) rfl (by kernel_rfl) (by kernel_rfl) (by kernel_rfl) (fun _ _ _ h => h) (Or.inl ⟨by rfl, ?_⟩) hH ?_
  rotate_left
  · intro wz hSw
    (try dsimp only at hSw)
    first | (go_simp; done) | (go_simp; with_reducible rfl)
  try simp only [Act.put, List.setIfInBounds_toArray, List.set_cons_zero, List.set_cons_succ]
  refine wpAnyH_take (i := 11) (oi := { dst := some 41, op := _, type := _, pos := _, after := _, guard := _ }) (v := ?_) rfl (by kernel_rfl) (by kernel_rfl) (by kernel_rfl) (fun _ _ _ h => h) (Or.inl ⟨by rfl, ?_⟩) hH ?_
  rotate_left
  · intro wz hSw
    (try dsimp only at hSw)
    first | (go_simp; done) | (go_simp; with_reducible rfl)
  try simp only [Act.put, List.setIfInBounds_toArray, List.set_cons_zero, List.set_cons_succ]
  refine wpAnyH_take (i := 12) (oi := { dst := some 42, op := _, type := _, pos := _, after := _, guard := _ }) (v := ?_) rfl (by kernel_rfl) (by kernel_rfl) (by kernel_rfl) (fun _ _ _ h => h) (Or.inl ⟨by rfl, ?_⟩) hH ?_
  rotate_left
  · intro wz hSw
    (try dsimp only at hSw)
    first | (go_simp; done) | (go_simp; with_reducible rfl)
  try simp only [Act.put, List.setIfInBounds_toArray, List.set_cons_zero, List.set_cons_succ]
  refine wpAnyH_take (i := 13) (oi := { dst := some 43, op := _, type := _, pos := _, after := _, guard := _ }) (v := ?_) rfl (by kernel_rfl) (by kernel_rfl) (by kernel_rfl) (fun _ _ _ h => h) (Or.inl ⟨by rfl, ?_⟩) hH ?_
  rotate_left
  · intro wz hSw
    (try dsimp only at hSw)
    first | (go_simp; done) | (go_simp; with_reducible rfl)
  try simp only [Act.put, List.setIfInBounds_toArray, List.set_cons_zero, List.set_cons_succ]
  refine wpAnyH_take (i := 14) (oi := { dst := some 44, op := _, type := _, pos := _, after := _, guard := _ }) (v := ?_) rfl (by kernel_rfl) (by kernel_rfl) (by kernel_rfl) (fun _ _ _ h => h) (Or.inl ⟨by rfl, ?_⟩) hH ?_
  rotate_left
  · intro wz hSw
    (try dsimp only at hSw)
    first | (go_simp; done) | (go_simp; with_reducible rfl)
  try simp only [Act.put, List.setIfInBounds_toArray, List.set_cons_zero, List.set_cons_succ]
  refine wpAnyH_take (i := 15) (oi := { dst := some 45, op := _, type := _, pos := _, after := _, guard := _ }) (v := ?_) rfl (by kernel_rfl) (by kernel_rfl) (by kernel_rfl) (fun _ _ _ h => h) (Or.inl ⟨by rfl, ?_⟩) hH ?_
  rotate_left
  · intro wz hSw
    (try dsimp only at hSw)
    first | (go_simp; done) | (go_simp; with_reducible rfl)
  try simp only [Act.put, List.setIfInBounds_toArray, List.set_cons_zero, List.set_cons_succ]
  refine wpAnyH_take (i := 16) (oi := { dst := some 46, op := _, type := _, pos := _, after := _, guard := _ }) (v := ?_) rfl (by kernel_rfl) (by kernel_rfl) (by kernel_rfl) (fun _ _ _ h => h) (Or.inl ⟨by rfl, ?_⟩) hH ?_
  rotate_left
  · intro wz hSw
    (try dsimp only at hSw)
    first | (go_simp; done) | (go_simp; with_reducible rfl)
  try simp only [Act.put, List.setIfInBounds_toArray, List.set_cons_zero, List.set_cons_succ]
  refine wpAnyH_take (i := 17) (oi := { dst := some 47, op := _, type := _, pos := _, after := _, guard := _ }) (v := ?_) rfl (by kernel_rfl) (by kernel_rfl) (by kernel_rfl) (fun _ _ _ h => h) (Or.inl ⟨by rfl, ?_⟩) hH ?_
  rotate_left
  · intro wz hSw
    (try dsimp only at hSw)
    first | (go_simp; done) | (go_simp; with_reducible rfl)
  try simp only [Act.put, List.setIfInBounds_toArray, List.set_cons_zero, List.set_cons_succ]
  refine wpAnyH_take (i := 18) (oi := { dst := some 48, op := _, type := _, pos := _, after := _, guard := _ }) (v := undef) rfl (by kernel_rfl) (by kernel_rfl) (by kernel_rfl) (fun _ _ _ h => h) (Or.inr ⟨by rfl, rfl⟩) hH ?_
  try simp only [Act.put, List.setIfInBounds_toArray, List.set_cons_zero, List.set_cons_succ]
  refine wpAnyH_ready (rs := [19]) (by kernel_rfl) (by simp) ?_
  refine allReady_pass (o := { dst := some 49, op := _, type := _, pos := _, after := _, guard := _ }) rfl (by rfl) hH ?_ AllReadyH.nil
  try simp only [Act.put, List.setIfInBounds_toArray, List.set_cons_zero, List.set_cons_succ]
  refine wpAnyH_take (i := 20) (oi := { dst := some 50, op := _, type := _, pos := _, after := _, guard := _ }) (v := undef) rfl (by kernel_rfl) (by kernel_rfl) (by kernel_rfl) (fun _ _ _ h => h) (Or.inr ⟨by rfl, rfl⟩) hH ?_
  try simp only [Act.put, List.setIfInBounds_toArray, List.set_cons_zero, List.set_cons_succ]
  refine wpAnyH_take (i := 21) (oi := { dst := some 51, op := _, type := _, pos := _, after := _, guard := _ }) (v := ?_) rfl (by kernel_rfl) (by kernel_rfl) (by kernel_rfl) (fun _ _ _ h => h) (Or.inl ⟨by rfl, ?_⟩) hH ?_
  rotate_left
  · intro wz hSw
    (try dsimp only at hSw)
    first | (go_simp; done) | (go_simp; with_reducible rfl)
  try simp only [Act.put, List.setIfInBounds_toArray, List.set_cons_zero, List.set_cons_succ]
  refine wpAnyH_take (i := 22) (oi := { dst := some 52, op := _, type := _, pos := _, after := _, guard := _ }) (v := ?_) rfl (by kernel_rfl) (by kernel_rfl) (by kernel_rfl) (fun _ _ _ h => h) (Or.inl ⟨by rfl, ?_⟩) hH ?_
  rotate_left
  · intro wz hSw
    (try dsimp only at hSw)
    first | (go_simp; done) | (go_simp; with_reducible rfl)
  try simp only [Act.put, List.setIfInBounds_toArray, List.set_cons_zero, List.set_cons_succ]
  refine wpAnyH_take (i := 23) (oi := { dst := some 53, op := _, type := _, pos := _, after := _, guard := _ }) (v := ?_) rfl (by kernel_rfl) (by kernel_rfl) (by kernel_rfl) (fun _ _ _ h => h) (Or.inl ⟨by rfl, ?_⟩) hH ?_
  rotate_left
  · intro wz hSw
    (try dsimp only at hSw)
    first | (go_simp; done) | (go_simp; with_reducible rfl)
  try simp only [Act.put, List.setIfInBounds_toArray, List.set_cons_zero, List.set_cons_succ]
  refine wpAnyH_take (i := 24) (oi := { dst := some 54, op := _, type := _, pos := _, after := _, guard := _ }) (v := ?_) rfl (by kernel_rfl) (by kernel_rfl) (by kernel_rfl) (fun _ _ _ h => h) (Or.inl ⟨by rfl, ?_⟩) hH ?_
  rotate_left
  · intro wz hSw
    (try dsimp only at hSw)
    first | (go_simp; done) | (go_simp; with_reducible rfl)
  try simp only [Act.put, List.setIfInBounds_toArray, List.set_cons_zero, List.set_cons_succ]
  refine wpAnyH_take (i := 26) (oi := { dst := some 56, op := _, type := _, pos := _, after := _, guard := _ }) (v := ?_) rfl (by kernel_rfl) (by kernel_rfl) (by kernel_rfl) (fun _ _ _ h => h) (Or.inl ⟨by rfl, ?_⟩) hH ?_
  rotate_left
  · intro wz hSw
    (try dsimp only at hSw)
    first | (go_simp; done) | (go_simp; with_reducible rfl)
  try simp only [Act.put, List.setIfInBounds_toArray, List.set_cons_zero, List.set_cons_succ]
  refine wpAnyH_take (i := 27) (oi := { dst := some 57, op := _, type := _, pos := _, after := _, guard := _ }) (v := ?_) rfl (by kernel_rfl) (by kernel_rfl) (by kernel_rfl) (fun _ _ _ h => h) (Or.inl ⟨by rfl, ?_⟩) hH ?_
  rotate_left
  · intro wz hSw
    (try dsimp only at hSw)
    first | (go_simp; done) | (go_simp; with_reducible rfl)
  try simp only [Act.put, List.setIfInBounds_toArray, List.set_cons_zero, List.set_cons_succ]
  refine wpAnyH_take (i := 28) (oi := { dst := some 58, op := _, type := _, pos := _, after := _, guard := _ }) (v := ?_) rfl (by kernel_rfl) (by kernel_rfl) (by kernel_rfl) (fun _ _ _ h => h) (Or.inl ⟨by rfl, ?_⟩) hH ?_
  rotate_left
  · intro wz hSw
    (try dsimp only at hSw)
    first | (go_simp; done) | (go_simp; with_reducible rfl)
  try simp only [Act.put, List.setIfInBounds_toArray, List.set_cons_zero, List.set_cons_succ]
  refine wpAnyH_ready (rs := [25]) (by kernel_rfl) (by simp) ?_
  refine AllReadyH.cons (o := { dst := some 55, op := _, type := _, pos := _, after := _, guard := _ }) rfl (fun K hK => ?_) AllReadyH.nil
  go_simp
  refine (mMay_any 4 z 0 g a n i p k t _ hH.2.1).mono ?_
  rw [hS0]
  rintro e wq25 ⟨rfl, hbq⟩
  go_wp2_with fail
  refine hK.out _ _ (kept_kinds hH hbq) (fun hH2 => ?_)
  clear hK K hH hbq
  have hH := hH2
  clear hH2
  try simp only [Act.put, List.setIfInBounds_toArray, List.set_cons_zero, List.set_cons_succ]
  refine wpAnyH_take (i := 29) (oi := { dst := some 59, op := _, type := _, pos := _, after := _, guard := _ }) (v := ?_) rfl (by kernel_rfl) (by kernel_rfl) (by kernel_rfl) (fun _ _ _ h => h) (Or.inl ⟨by rfl, ?_⟩) hH ?_
  rotate_left
  · intro wz hSw
    (try dsimp only at hSw)
    first | (go_simp; done) | (go_simp; with_reducible rfl)
  try simp only [Act.put, List.setIfInBounds_toArray, List.set_cons_zero, List.set_cons_succ]
  refine wpAnyH_take (i := 30) (oi := { dst := some 60, op := _, type := _, pos := _, after := _, guard := _ }) (v := ?_) rfl (by kernel_rfl) (by kernel_rfl) (by kernel_rfl) (fun _ _ _ h => h) (Or.inl ⟨by rfl, ?_⟩) hH ?_
  rotate_left
  · intro wz hSw
    (try dsimp only at hSw)
    first | (go_simp; done) | (go_simp; with_reducible rfl)
  try simp only [Act.put, List.setIfInBounds_toArray, List.set_cons_zero, List.set_cons_succ]
  refine wpAnyH_take (i := 31) (oi := { dst := some 61, op := _, type := _, pos := _, after := _, guard := _ }) (v := ?_) rfl (by kernel_rfl) (by kernel_rfl) (by kernel_rfl) (fun _ _ _ h => h) (Or.inl ⟨by rfl, ?_⟩) hH ?_
  rotate_left
  · intro wz hSw
    (try dsimp only at hSw)
    first | (go_simp; done) | (go_simp; with_reducible rfl)
  try simp only [Act.put, List.setIfInBounds_toArray, List.set_cons_zero, List.set_cons_succ]
  refine wpAnyH_take (i := 32) (oi := { dst := some 62, op := _, type := _, pos := _, after := _, guard := _ }) (v := ?_) rfl (by kernel_rfl) (by kernel_rfl) (by kernel_rfl) (fun _ _ _ h => h) (Or.inl ⟨by rfl, ?_⟩) hH ?_
  rotate_left
  · intro wz hSw
    (try dsimp only at hSw)
    first | (go_simp; done) | (go_simp; with_reducible rfl)
  try simp only [Act.put, List.setIfInBounds_toArray, List.set_cons_zero, List.set_cons_succ]
  refine wpAnyH_take (i := 33) (oi := { dst := some 63, op := _, type := _, pos := _, after := _, guard := _ }) (v := ?_) rfl (by kernel_rfl) (by kernel_rfl) (by kernel_rfl) (fun _ _ _ h => h) (Or.inl ⟨by rfl, ?_⟩) hH ?_
  rotate_left
  · intro wz hSw
    (try dsimp only at hSw)
    first | (go_simp; done) | (go_simp; with_reducible rfl)
  try simp only [Act.put, List.setIfInBounds_toArray, List.set_cons_zero, List.set_cons_succ]
  refine wpAnyH_take (i := 34) (oi := { dst := some 64, op := _, type := _, pos := _, after := _, guard := _ }) (v := ?_) rfl (by kernel_rfl) (by kernel_rfl) (by kernel_rfl) (fun _ _ _ h => h) (Or.inl ⟨by rfl, ?_⟩) hH ?_
  rotate_left
  · intro wz hSw
    (try dsimp only at hSw)
    first | (go_simp; done) | (go_simp; with_reducible rfl)
  try simp only [Act.put, List.setIfInBounds_toArray, List.set_cons_zero, List.set_cons_succ]
  refine wpAnyH_take (i := 35) (oi := { dst := some 65, op := _, type := _, pos := _, after := _, guard := _ }) (v := ?_) rfl (by kernel_rfl) (by kernel_rfl) (by kernel_rfl) (fun _ _ _ h => h) (Or.inl ⟨by rfl, ?_⟩) hH ?_
  rotate_left
  · intro wz hSw
    (try dsimp only at hSw)
    first | (go_simp; done) | (go_simp; with_reducible rfl)
  try simp only [Act.put, List.setIfInBounds_toArray, List.set_cons_zero, List.set_cons_succ]
  refine wpAnyH_take (i := 36) (oi := { dst := some 4, op := _, type := _, pos := _, after := _, guard := _ }) (v := ?_) rfl (by kernel_rfl) (by kernel_rfl) (by kernel_rfl) (fun _ _ _ h => h) (Or.inl ⟨by rfl, ?_⟩) hH ?_
  rotate_left
  · intro wz hSw
    (try dsimp only at hSw)
    first | (go_simp; done) | (go_simp; with_reducible rfl)
  try simp only [Act.put, List.setIfInBounds_toArray, List.set_cons_zero, List.set_cons_succ]
  refine wpAnyH_done (by kernel_rfl) ?_ _
  refine NoPanic.normal ?_
  go_wp2_with fail
  go_ret
  exact ⟨rfl, hH.1⟩
set_option maxHeartbeats 4000000 in
theorem kinds_5 (z v g a n i p k t ra rn ri rp rk rt : Int) (w : World) (T : Tab w)
    (cM : ∀ w, Tab w → Calls Tryd.prog 13 #[.agg #[.int .i64 5, .int .i64 z, .int .i64 v, .int .i64 g, .int .i64 a, .int .i64 n, .int .i64 i, .int .i64 p, .int .i64 k, .int .i64 t]] w fun e w' => e = .returned (.bool true) ∧ Below w.heap.size w w')
    (hq : ∀ w, (binOp .eql 27 (.agg #[.int .i64 ra, .int .i64 rn, .int .i64 ri, .int .i64 rp, .int .i64 rk, .int .i64 rt]) (.agg #[.int .i64 0, .int .i64 0, .int .i64 0, .int .i64 0, .int .i64 0, .int .i64 0])).run Tryd.prog w = .ok (.bool false) w)
    (hA : okM 5 z v g ra rn ri rp rk rt = false)
    (hT7 : okM 5 z v 7 a n i p k t = false)
    (hS0 : okM 5 z 0 g a n i p k t = false) :
    Calls Tryd.prog 7 #[.agg #[.int .i64 5, .int .i64 z, .int .i64 v, .int .i64 g, .int .i64 a, .int .i64 n, .int .i64 i, .int .i64 p, .int .i64 k, .int .i64 t], .agg #[.int .i64 ra, .int .i64 rn, .int .i64 ri, .int .i64 rp, .int .i64 rk, .int .i64 rt]] w fun e w' => e = .returned (.bool true) ∧ Below w.heap.size w w' := by
  have hn0 := below_new w (.cells #[.int .i64 5, .int .i64 z, .int .i64 v, .int .i64 g, .int .i64 a, .int .i64 n, .int .i64 i, .int .i64 p, .int .i64 k, .int .i64 t] 29)
  have X0 := Lies.new w [5, z, v, g, a, n, i, p, k, t] 29 (B := w.heap.size) rfl
  have hB := hn0
  have hn1 := below_new (w.alloc (.cells #[.int .i64 5, .int .i64 z, .int .i64 v, .int .i64 g, .int .i64 a, .int .i64 n, .int .i64 i, .int .i64 p, .int .i64 k, .int .i64 t] 29)) (.cells #[.int .i64 ra, .int .i64 rn, .int .i64 ri, .int .i64 rp, .int .i64 rk, .int .i64 rt] 27)
  have X1 := Lies.new (w.alloc (.cells #[.int .i64 5, .int .i64 z, .int .i64 v, .int .i64 g, .int .i64 a, .int .i64 n, .int .i64 i, .int .i64 p, .int .i64 k, .int .i64 t] 29)) [ra, rn, ri, rp, rk, rt] 27 (B := w.heap.size + 1) (by simp)
  replace X0 := X0.later hn1
  replace hB := below_step hB hn1
  clear hn0 hn1
  obtain ⟨x00, x01, x02, x03, x04, x05, x06, x07, x08, x09⟩ := X0.ten
  obtain ⟨x10, x11, x12, x13, x14, x15⟩ := X1.six
  replace T := T.later hB
  go_enter Tryd.func7, Tryd.ntmps7
  go_wp2_with fail
  refine (awake_any _ T).mono ?_
  rintro e w1 ⟨rfl, hb1⟩
  clear x00 x01 x02 x03 x04 x05 x06 x07 x08 x09
  clear x10 x11 x12 x13 x14 x15
  replace X0 := X0.later hb1
  replace X1 := X1.later hb1
  replace T := T.later hb1
  replace hB := below_step hB hb1
  clear hb1
  obtain ⟨x00, x01, x02, x03, x04, x05, x06, x07, x08, x09⟩ := X0.ten
  obtain ⟨x10, x11, x12, x13, x14, x15⟩ := X1.six
  go_wp2_with fail
  refine (cM _ T).mono ?_
  rintro e w2 ⟨rfl, hb2⟩
  clear x00 x01 x02 x03 x04 x05 x06 x07 x08 x09
  clear x10 x11 x12 x13 x14 x15
  replace X0 := X0.later hb2
  replace X1 := X1.later hb2
  replace T := T.later hb2
  replace hB := below_step hB hb2
  clear hb2
  obtain ⟨x00, x01, x02, x03, x04, x05, x06, x07, x08, x09⟩ := X0.ten
  obtain ⟨x10, x11, x12, x13, x14, x15⟩ := X1.six
  have hq0 := below_new w2 (.cells #[.int .i64 5, .int .i64 z, .int .i64 v, .int .i64 g, .int .i64 a, .int .i64 n, .int .i64 i, .int .i64 p, .int .i64 k, .int .i64 t] 29)
  obtain ⟨x0q0, x0q1, x0q2, x0q3, x0q4, x0q5, x0q6, x0q7, x0q8, x0q9⟩ := (X0.later hq0).ten
  obtain ⟨x1q0, x1q1, x1q2, x1q3, x1q4, x1q5⟩ := (X1.later hq0).six
  clear hq0
  have hv0 := below_new w2 (.cells #[.int .i64 5, .int .i64 z, .int .i64 v, .int .i64 g, .int .i64 ra, .int .i64 rn, .int .i64 ri, .int .i64 rp, .int .i64 rk, .int .i64 rt] 29)
  replace X0 := X0.later hv0
  replace X1 := X1.later hv0
  replace T := T.later hv0
  replace hB := below_step hB hv0
  clear hv0
  have V0 := Lies.new w2 [5, z, v, g, ra, rn, ri, rp, rk, rt] 29 (B := w2.heap.size) rfl
  obtain ⟨x00, x01, x02, x03, x04, x05, x06, x07, x08, x09⟩ := X0.ten
  obtain ⟨x10, x11, x12, x13, x14, x15⟩ := X1.six
  obtain ⟨v00, v01, v02, v03, v04, v05, v06, v07, v08, v09⟩ := V0.ten
  have hq1 := below_new (w2.alloc (.cells #[.int .i64 5, .int .i64 z, .int .i64 v, .int .i64 g, .int .i64 ra, .int .i64 rn, .int .i64 ri, .int .i64 rp, .int .i64 rk, .int .i64 rt] 29)) (.cells #[.int .i64 5, .int .i64 z, .int .i64 v, .int .i64 g, .int .i64 a, .int .i64 n, .int .i64 i, .int .i64 p, .int .i64 k, .int .i64 t] 29)
  obtain ⟨x0q0, x0q1, x0q2, x0q3, x0q4, x0q5, x0q6, x0q7, x0q8, x0q9⟩ := (X0.later hq1).ten
  obtain ⟨x1q0, x1q1, x1q2, x1q3, x1q4, x1q5⟩ := (X1.later hq1).six
  obtain ⟨v0q0, v0q1, v0q2, v0q3, v0q4, v0q5, v0q6, v0q7, v0q8, v0q9⟩ := (V0.later hq1).ten
  clear hq1
  have hv1 := below_new (w2.alloc (.cells #[.int .i64 5, .int .i64 z, .int .i64 v, .int .i64 g, .int .i64 ra, .int .i64 rn, .int .i64 ri, .int .i64 rp, .int .i64 rk, .int .i64 rt] 29)) (.cells #[.int .i64 5, .int .i64 z, .int .i64 v, .int .i64 7, .int .i64 a, .int .i64 n, .int .i64 i, .int .i64 p, .int .i64 k, .int .i64 t] 29)
  replace X0 := X0.later hv1
  replace X1 := X1.later hv1
  replace V0 := V0.later hv1
  replace T := T.later hv1
  replace hB := below_step hB hv1
  clear hv1
  have V1 := Lies.new (w2.alloc (.cells #[.int .i64 5, .int .i64 z, .int .i64 v, .int .i64 g, .int .i64 ra, .int .i64 rn, .int .i64 ri, .int .i64 rp, .int .i64 rk, .int .i64 rt] 29)) [5, z, v, 7, a, n, i, p, k, t] 29 (B := w2.heap.size + 1) (by simp)
  obtain ⟨x00, x01, x02, x03, x04, x05, x06, x07, x08, x09⟩ := X0.ten
  obtain ⟨x10, x11, x12, x13, x14, x15⟩ := X1.six
  obtain ⟨v00, v01, v02, v03, v04, v05, v06, v07, v08, v09⟩ := V0.ten
  obtain ⟨v10, v11, v12, v13, v14, v15, v16, v17, v18, v19⟩ := V1.ten
  have hq2 := below_new ((w2.alloc (.cells #[.int .i64 5, .int .i64 z, .int .i64 v, .int .i64 g, .int .i64 ra, .int .i64 rn, .int .i64 ri, .int .i64 rp, .int .i64 rk, .int .i64 rt] 29)).alloc (.cells #[.int .i64 5, .int .i64 z, .int .i64 v, .int .i64 7, .int .i64 a, .int .i64 n, .int .i64 i, .int .i64 p, .int .i64 k, .int .i64 t] 29)) (.cells #[.int .i64 5, .int .i64 z, .int .i64 v, .int .i64 g, .int .i64 a, .int .i64 n, .int .i64 i, .int .i64 p, .int .i64 k, .int .i64 t] 29)
  obtain ⟨x0q0, x0q1, x0q2, x0q3, x0q4, x0q5, x0q6, x0q7, x0q8, x0q9⟩ := (X0.later hq2).ten
  obtain ⟨x1q0, x1q1, x1q2, x1q3, x1q4, x1q5⟩ := (X1.later hq2).six
  obtain ⟨v0q0, v0q1, v0q2, v0q3, v0q4, v0q5, v0q6, v0q7, v0q8, v0q9⟩ := (V0.later hq2).ten
  obtain ⟨v1q0, v1q1, v1q2, v1q3, v1q4, v1q5, v1q6, v1q7, v1q8, v1q9⟩ := (V1.later hq2).ten
  clear hq2
  have hv2 := below_new ((w2.alloc (.cells #[.int .i64 5, .int .i64 z, .int .i64 v, .int .i64 g, .int .i64 ra, .int .i64 rn, .int .i64 ri, .int .i64 rp, .int .i64 rk, .int .i64 rt] 29)).alloc (.cells #[.int .i64 5, .int .i64 z, .int .i64 v, .int .i64 7, .int .i64 a, .int .i64 n, .int .i64 i, .int .i64 p, .int .i64 k, .int .i64 t] 29)) (.cells #[.int .i64 5, .int .i64 z, .int .i64 0, .int .i64 g, .int .i64 a, .int .i64 n, .int .i64 i, .int .i64 p, .int .i64 k, .int .i64 t] 29)
  replace X0 := X0.later hv2
  replace X1 := X1.later hv2
  replace V0 := V0.later hv2
  replace V1 := V1.later hv2
  replace T := T.later hv2
  replace hB := below_step hB hv2
  clear hv2
  have V2 := Lies.new ((w2.alloc (.cells #[.int .i64 5, .int .i64 z, .int .i64 v, .int .i64 g, .int .i64 ra, .int .i64 rn, .int .i64 ri, .int .i64 rp, .int .i64 rk, .int .i64 rt] 29)).alloc (.cells #[.int .i64 5, .int .i64 z, .int .i64 v, .int .i64 7, .int .i64 a, .int .i64 n, .int .i64 i, .int .i64 p, .int .i64 k, .int .i64 t] 29)) [5, z, 0, g, a, n, i, p, k, t] 29 (B := w2.heap.size + 1 + 1) (by simp)
  obtain ⟨x00, x01, x02, x03, x04, x05, x06, x07, x08, x09⟩ := X0.ten
  obtain ⟨x10, x11, x12, x13, x14, x15⟩ := X1.six
  obtain ⟨v00, v01, v02, v03, v04, v05, v06, v07, v08, v09⟩ := V0.ten
  obtain ⟨v10, v11, v12, v13, v14, v15, v16, v17, v18, v19⟩ := V1.ten
  obtain ⟨v20, v21, v22, v23, v24, v25, v26, v27, v28, v29⟩ := V2.ten
  have S0 : Below w.heap.size w (((w2.alloc (.cells #[.int .i64 5, .int .i64 z, .int .i64 v, .int .i64 g, .int .i64 ra, .int .i64 rn, .int .i64 ri, .int .i64 rp, .int .i64 rk, .int .i64 rt] 29)).alloc (.cells #[.int .i64 5, .int .i64 z, .int .i64 v, .int .i64 7, .int .i64 a, .int .i64 n, .int .i64 i, .int .i64 p, .int .i64 k, .int .i64 t] 29)).alloc (.cells #[.int .i64 5, .int .i64 z, .int .i64 0, .int .i64 g, .int .i64 a, .int .i64 n, .int .i64 i, .int .i64 p, .int .i64 k, .int .i64 t] 29)).drew ∧ Tab (((w2.alloc (.cells #[.int .i64 5, .int .i64 z, .int .i64 v, .int .i64 g, .int .i64 ra, .int .i64 rn, .int .i64 ri, .int .i64 rp, .int .i64 rk, .int .i64 rt] 29)).alloc (.cells #[.int .i64 5, .int .i64 z, .int .i64 v, .int .i64 7, .int .i64 a, .int .i64 n, .int .i64 i, .int .i64 p, .int .i64 k, .int .i64 t] 29)).alloc (.cells #[.int .i64 5, .int .i64 z, .int .i64 0, .int .i64 g, .int .i64 a, .int .i64 n, .int .i64 i, .int .i64 p, .int .i64 k, .int .i64 t] 29)).drew ∧ w.heap.size < (((w2.alloc (.cells #[.int .i64 5, .int .i64 z, .int .i64 v, .int .i64 g, .int .i64 ra, .int .i64 rn, .int .i64 ri, .int .i64 rp, .int .i64 rk, .int .i64 rt] 29)).alloc (.cells #[.int .i64 5, .int .i64 z, .int .i64 v, .int .i64 7, .int .i64 a, .int .i64 n, .int .i64 i, .int .i64 p, .int .i64 k, .int .i64 t] 29)).alloc (.cells #[.int .i64 5, .int .i64 z, .int .i64 0, .int .i64 g, .int .i64 a, .int .i64 n, .int .i64 i, .int .i64 p, .int .i64 k, .int .i64 t] 29)).drew.heap.size ∧ w2.heap.size < (((w2.alloc (.cells #[.int .i64 5, .int .i64 z, .int .i64 v, .int .i64 g, .int .i64 ra, .int .i64 rn, .int .i64 ri, .int .i64 rp, .int .i64 rk, .int .i64 rt] 29)).alloc (.cells #[.int .i64 5, .int .i64 z, .int .i64 v, .int .i64 7, .int .i64 a, .int .i64 n, .int .i64 i, .int .i64 p, .int .i64 k, .int .i64 t] 29)).alloc (.cells #[.int .i64 5, .int .i64 z, .int .i64 0, .int .i64 g, .int .i64 a, .int .i64 n, .int .i64 i, .int .i64 p, .int .i64 k, .int .i64 t] 29)).drew.heap.size ∧ w2.heap.size + 1 < (((w2.alloc (.cells #[.int .i64 5, .int .i64 z, .int .i64 v, .int .i64 g, .int .i64 ra, .int .i64 rn, .int .i64 ri, .int .i64 rp, .int .i64 rk, .int .i64 rt] 29)).alloc (.cells #[.int .i64 5, .int .i64 z, .int .i64 v, .int .i64 7, .int .i64 a, .int .i64 n, .int .i64 i, .int .i64 p, .int .i64 k, .int .i64 t] 29)).alloc (.cells #[.int .i64 5, .int .i64 z, .int .i64 0, .int .i64 g, .int .i64 a, .int .i64 n, .int .i64 i, .int .i64 p, .int .i64 k, .int .i64 t] 29)).drew.heap.size ∧ w2.heap.size + 1 + 1 < (((w2.alloc (.cells #[.int .i64 5, .int .i64 z, .int .i64 v, .int .i64 g, .int .i64 ra, .int .i64 rn, .int .i64 ri, .int .i64 rp, .int .i64 rk, .int .i64 rt] 29)).alloc (.cells #[.int .i64 5, .int .i64 z, .int .i64 v, .int .i64 7, .int .i64 a, .int .i64 n, .int .i64 i, .int .i64 p, .int .i64 k, .int .i64 t] 29)).alloc (.cells #[.int .i64 5, .int .i64 z, .int .i64 0, .int .i64 g, .int .i64 a, .int .i64 n, .int .i64 i, .int .i64 p, .int .i64 k, .int .i64 t] 29)).drew.heap.size ∧ (((w2.alloc (.cells #[.int .i64 5, .int .i64 z, .int .i64 v, .int .i64 g, .int .i64 ra, .int .i64 rn, .int .i64 ri, .int .i64 rp, .int .i64 rk, .int .i64 rt] 29)).alloc (.cells #[.int .i64 5, .int .i64 z, .int .i64 v, .int .i64 7, .int .i64 a, .int .i64 n, .int .i64 i, .int .i64 p, .int .i64 k, .int .i64 t] 29)).alloc (.cells #[.int .i64 5, .int .i64 z, .int .i64 0, .int .i64 g, .int .i64 a, .int .i64 n, .int .i64 i, .int .i64 p, .int .i64 k, .int .i64 t] 29)).drew.cell? ⟨w.heap.size, 0, none⟩ = some (.int .i64 5) ∧ (((w2.alloc (.cells #[.int .i64 5, .int .i64 z, .int .i64 v, .int .i64 g, .int .i64 ra, .int .i64 rn, .int .i64 ri, .int .i64 rp, .int .i64 rk, .int .i64 rt] 29)).alloc (.cells #[.int .i64 5, .int .i64 z, .int .i64 v, .int .i64 7, .int .i64 a, .int .i64 n, .int .i64 i, .int .i64 p, .int .i64 k, .int .i64 t] 29)).alloc (.cells #[.int .i64 5, .int .i64 z, .int .i64 0, .int .i64 g, .int .i64 a, .int .i64 n, .int .i64 i, .int .i64 p, .int .i64 k, .int .i64 t] 29)).drew.cell? ⟨w2.heap.size, 0, none⟩ = some (.int .i64 5) ∧ (((w2.alloc (.cells #[.int .i64 5, .int .i64 z, .int .i64 v, .int .i64 g, .int .i64 ra, .int .i64 rn, .int .i64 ri, .int .i64 rp, .int .i64 rk, .int .i64 rt] 29)).alloc (.cells #[.int .i64 5, .int .i64 z, .int .i64 v, .int .i64 7, .int .i64 a, .int .i64 n, .int .i64 i, .int .i64 p, .int .i64 k, .int .i64 t] 29)).alloc (.cells #[.int .i64 5, .int .i64 z, .int .i64 0, .int .i64 g, .int .i64 a, .int .i64 n, .int .i64 i, .int .i64 p, .int .i64 k, .int .i64 t] 29)).drew.cell? ⟨w2.heap.size, 1, none⟩ = some (.int .i64 z) ∧ (((w2.alloc (.cells #[.int .i64 5, .int .i64 z, .int .i64 v, .int .i64 g, .int .i64 ra, .int .i64 rn, .int .i64 ri, .int .i64 rp, .int .i64 rk, .int .i64 rt] 29)).alloc (.cells #[.int .i64 5, .int .i64 z, .int .i64 v, .int .i64 7, .int .i64 a, .int .i64 n, .int .i64 i, .int .i64 p, .int .i64 k, .int .i64 t] 29)).alloc (.cells #[.int .i64 5, .int .i64 z, .int .i64 0, .int .i64 g, .int .i64 a, .int .i64 n, .int .i64 i, .int .i64 p, .int .i64 k, .int .i64 t] 29)).drew.cell? ⟨w2.heap.size, 2, none⟩ = some (.int .i64 v) ∧ (((w2.alloc (.cells #[.int .i64 5, .int .i64 z, .int .i64 v, .int .i64 g, .int .i64 ra, .int .i64 rn, .int .i64 ri, .int .i64 rp, .int .i64 rk, .int .i64 rt] 29)).alloc (.cells #[.int .i64 5, .int .i64 z, .int .i64 v, .int .i64 7, .int .i64 a, .int .i64 n, .int .i64 i, .int .i64 p, .int .i64 k, .int .i64 t] 29)).alloc (.cells #[.int .i64 5, .int .i64 z, .int .i64 0, .int .i64 g, .int .i64 a, .int .i64 n, .int .i64 i, .int .i64 p, .int .i64 k, .int .i64 t] 29)).drew.cell? ⟨w2.heap.size, 3, none⟩ = some (.int .i64 g) ∧ (((w2.alloc (.cells #[.int .i64 5, .int .i64 z, .int .i64 v, .int .i64 g, .int .i64 ra, .int .i64 rn, .int .i64 ri, .int .i64 rp, .int .i64 rk, .int .i64 rt] 29)).alloc (.cells #[.int .i64 5, .int .i64 z, .int .i64 v, .int .i64 7, .int .i64 a, .int .i64 n, .int .i64 i, .int .i64 p, .int .i64 k, .int .i64 t] 29)).alloc (.cells #[.int .i64 5, .int .i64 z, .int .i64 0, .int .i64 g, .int .i64 a, .int .i64 n, .int .i64 i, .int .i64 p, .int .i64 k, .int .i64 t] 29)).drew.cell? ⟨w2.heap.size, 4, none⟩ = some (.int .i64 ra) ∧ (((w2.alloc (.cells #[.int .i64 5, .int .i64 z, .int .i64 v, .int .i64 g, .int .i64 ra, .int .i64 rn, .int .i64 ri, .int .i64 rp, .int .i64 rk, .int .i64 rt] 29)).alloc (.cells #[.int .i64 5, .int .i64 z, .int .i64 v, .int .i64 7, .int .i64 a, .int .i64 n, .int .i64 i, .int .i64 p, .int .i64 k, .int .i64 t] 29)).alloc (.cells #[.int .i64 5, .int .i64 z, .int .i64 0, .int .i64 g, .int .i64 a, .int .i64 n, .int .i64 i, .int .i64 p, .int .i64 k, .int .i64 t] 29)).drew.cell? ⟨w2.heap.size, 5, none⟩ = some (.int .i64 rn) ∧ (((w2.alloc (.cells #[.int .i64 5, .int .i64 z, .int .i64 v, .int .i64 g, .int .i64 ra, .int .i64 rn, .int .i64 ri, .int .i64 rp, .int .i64 rk, .int .i64 rt] 29)).alloc (.cells #[.int .i64 5, .int .i64 z, .int .i64 v, .int .i64 7, .int .i64 a, .int .i64 n, .int .i64 i, .int .i64 p, .int .i64 k, .int .i64 t] 29)).alloc (.cells #[.int .i64 5, .int .i64 z, .int .i64 0, .int .i64 g, .int .i64 a, .int .i64 n, .int .i64 i, .int .i64 p, .int .i64 k, .int .i64 t] 29)).drew.cell? ⟨w2.heap.size, 6, none⟩ = some (.int .i64 ri) ∧ (((w2.alloc (.cells #[.int .i64 5, .int .i64 z, .int .i64 v, .int .i64 g, .int .i64 ra, .int .i64 rn, .int .i64 ri, .int .i64 rp, .int .i64 rk, .int .i64 rt] 29)).alloc (.cells #[.int .i64 5, .int .i64 z, .int .i64 v, .int .i64 7, .int .i64 a, .int .i64 n, .int .i64 i, .int .i64 p, .int .i64 k, .int .i64 t] 29)).alloc (.cells #[.int .i64 5, .int .i64 z, .int .i64 0, .int .i64 g, .int .i64 a, .int .i64 n, .int .i64 i, .int .i64 p, .int .i64 k, .int .i64 t] 29)).drew.cell? ⟨w2.heap.size, 7, none⟩ = some (.int .i64 rp) ∧ (((w2.alloc (.cells #[.int .i64 5, .int .i64 z, .int .i64 v, .int .i64 g, .int .i64 ra, .int .i64 rn, .int .i64 ri, .int .i64 rp, .int .i64 rk, .int .i64 rt] 29)).alloc (.cells #[.int .i64 5, .int .i64 z, .int .i64 v, .int .i64 7, .int .i64 a, .int .i64 n, .int .i64 i, .int .i64 p, .int .i64 k, .int .i64 t] 29)).alloc (.cells #[.int .i64 5, .int .i64 z, .int .i64 0, .int .i64 g, .int .i64 a, .int .i64 n, .int .i64 i, .int .i64 p, .int .i64 k, .int .i64 t] 29)).drew.cell? ⟨w2.heap.size, 8, none⟩ = some (.int .i64 rk) ∧ (((w2.alloc (.cells #[.int .i64 5, .int .i64 z, .int .i64 v, .int .i64 g, .int .i64 ra, .int .i64 rn, .int .i64 ri, .int .i64 rp, .int .i64 rk, .int .i64 rt] 29)).alloc (.cells #[.int .i64 5, .int .i64 z, .int .i64 v, .int .i64 7, .int .i64 a, .int .i64 n, .int .i64 i, .int .i64 p, .int .i64 k, .int .i64 t] 29)).alloc (.cells #[.int .i64 5, .int .i64 z, .int .i64 0, .int .i64 g, .int .i64 a, .int .i64 n, .int .i64 i, .int .i64 p, .int .i64 k, .int .i64 t] 29)).drew.cell? ⟨w2.heap.size, 9, none⟩ = some (.int .i64 rt) ∧ (((w2.alloc (.cells #[.int .i64 5, .int .i64 z, .int .i64 v, .int .i64 g, .int .i64 ra, .int .i64 rn, .int .i64 ri, .int .i64 rp, .int .i64 rk, .int .i64 rt] 29)).alloc (.cells #[.int .i64 5, .int .i64 z, .int .i64 v, .int .i64 7, .int .i64 a, .int .i64 n, .int .i64 i, .int .i64 p, .int .i64 k, .int .i64 t] 29)).alloc (.cells #[.int .i64 5, .int .i64 z, .int .i64 0, .int .i64 g, .int .i64 a, .int .i64 n, .int .i64 i, .int .i64 p, .int .i64 k, .int .i64 t] 29)).drew.cell? ⟨w2.heap.size + 1, 0, none⟩ = some (.int .i64 5) ∧ (((w2.alloc (.cells #[.int .i64 5, .int .i64 z, .int .i64 v, .int .i64 g, .int .i64 ra, .int .i64 rn, .int .i64 ri, .int .i64 rp, .int .i64 rk, .int .i64 rt] 29)).alloc (.cells #[.int .i64 5, .int .i64 z, .int .i64 v, .int .i64 7, .int .i64 a, .int .i64 n, .int .i64 i, .int .i64 p, .int .i64 k, .int .i64 t] 29)).alloc (.cells #[.int .i64 5, .int .i64 z, .int .i64 0, .int .i64 g, .int .i64 a, .int .i64 n, .int .i64 i, .int .i64 p, .int .i64 k, .int .i64 t] 29)).drew.cell? ⟨w2.heap.size + 1, 1, none⟩ = some (.int .i64 z) ∧ (((w2.alloc (.cells #[.int .i64 5, .int .i64 z, .int .i64 v, .int .i64 g, .int .i64 ra, .int .i64 rn, .int .i64 ri, .int .i64 rp, .int .i64 rk, .int .i64 rt] 29)).alloc (.cells #[.int .i64 5, .int .i64 z, .int .i64 v, .int .i64 7, .int .i64 a, .int .i64 n, .int .i64 i, .int .i64 p, .int .i64 k, .int .i64 t] 29)).alloc (.cells #[.int .i64 5, .int .i64 z, .int .i64 0, .int .i64 g, .int .i64 a, .int .i64 n, .int .i64 i, .int .i64 p, .int .i64 k, .int .i64 t] 29)).drew.cell? ⟨w2.heap.size + 1, 2, none⟩ = some (.int .i64 v) ∧ (((w2.alloc (.cells #[.int .i64 5, .int .i64 z, .int .i64 v, .int .i64 g, .int .i64 ra, .int .i64 rn, .int .i64 ri, .int .i64 rp, .int .i64 rk, .int .i64 rt] 29)).alloc (.cells #[.int .i64 5, .int .i64 z, .int .i64 v, .int .i64 7, .int .i64 a, .int .i64 n, .int .i64 i, .int .i64 p, .int .i64 k, .int .i64 t] 29)).alloc (.cells #[.int .i64 5, .int .i64 z, .int .i64 0, .int .i64 g, .int .i64 a, .int .i64 n, .int .i64 i, .int .i64 p, .int .i64 k, .int .i64 t] 29)).drew.cell? ⟨w2.heap.size + 1, 3, none⟩ = some (.int .i64 7) ∧ (((w2.alloc (.cells #[.int .i64 5, .int .i64 z, .int .i64 v, .int .i64 g, .int .i64 ra, .int .i64 rn, .int .i64 ri, .int .i64 rp, .int .i64 rk, .int .i64 rt] 29)).alloc (.cells #[.int .i64 5, .int .i64 z, .int .i64 v, .int .i64 7, .int .i64 a, .int .i64 n, .int .i64 i, .int .i64 p, .int .i64 k, .int .i64 t] 29)).alloc (.cells #[.int .i64 5, .int .i64 z, .int .i64 0, .int .i64 g, .int .i64 a, .int .i64 n, .int .i64 i, .int .i64 p, .int .i64 k, .int .i64 t] 29)).drew.cell? ⟨w2.heap.size + 1, 4, none⟩ = some (.int .i64 a) ∧ (((w2.alloc (.cells #[.int .i64 5, .int .i64 z, .int .i64 v, .int .i64 g, .int .i64 ra, .int .i64 rn, .int .i64 ri, .int .i64 rp, .int .i64 rk, .int .i64 rt] 29)).alloc (.cells #[.int .i64 5, .int .i64 z, .int .i64 v, .int .i64 7, .int .i64 a, .int .i64 n, .int .i64 i, .int .i64 p, .int .i64 k, .int .i64 t] 29)).alloc (.cells #[.int .i64 5, .int .i64 z, .int .i64 0, .int .i64 g, .int .i64 a, .int .i64 n, .int .i64 i, .int .i64 p, .int .i64 k, .int .i64 t] 29)).drew.cell? ⟨w2.heap.size + 1, 5, none⟩ = some (.int .i64 n) ∧ (((w2.alloc (.cells #[.int .i64 5, .int .i64 z, .int .i64 v, .int .i64 g, .int .i64 ra, .int .i64 rn, .int .i64 ri, .int .i64 rp, .int .i64 rk, .int .i64 rt] 29)).alloc (.cells #[.int .i64 5, .int .i64 z, .int .i64 v, .int .i64 7, .int .i64 a, .int .i64 n, .int .i64 i, .int .i64 p, .int .i64 k, .int .i64 t] 29)).alloc (.cells #[.int .i64 5, .int .i64 z, .int .i64 0, .int .i64 g, .int .i64 a, .int .i64 n, .int .i64 i, .int .i64 p, .int .i64 k, .int .i64 t] 29)).drew.cell? ⟨w2.heap.size + 1, 6, none⟩ = some (.int .i64 i) ∧ (((w2.alloc (.cells #[.int .i64 5, .int .i64 z, .int .i64 v, .int .i64 g, .int .i64 ra, .int .i64 rn, .int .i64 ri, .int .i64 rp, .int .i64 rk, .int .i64 rt] 29)).alloc (.cells #[.int .i64 5, .int .i64 z, .int .i64 v, .int .i64 7, .int .i64 a, .int .i64 n, .int .i64 i, .int .i64 p, .int .i64 k, .int .i64 t] 29)).alloc (.cells #[.int .i64 5, .int .i64 z, .int .i64 0, .int .i64 g, .int .i64 a, .int .i64 n, .int .i64 i, .int .i64 p, .int .i64 k, .int .i64 t] 29)).drew.cell? ⟨w2.heap.size + 1, 7, none⟩ = some (.int .i64 p) ∧ (((w2.alloc (.cells #[.int .i64 5, .int .i64 z, .int .i64 v, .int .i64 g, .int .i64 ra, .int .i64 rn, .int .i64 ri, .int .i64 rp, .int .i64 rk, .int .i64 rt] 29)).alloc (.cells #[.int .i64 5, .int .i64 z, .int .i64 v, .int .i64 7, .int .i64 a, .int .i64 n, .int .i64 i, .int .i64 p, .int .i64 k, .int .i64 t] 29)).alloc (.cells #[.int .i64 5, .int .i64 z, .int .i64 0, .int .i64 g, .int .i64 a, .int .i64 n, .int .i64 i, .int .i64 p, .int .i64 k, .int .i64 t] 29)).drew.cell? ⟨w2.heap.size + 1, 8, none⟩ = some (.int .i64 k) ∧ (((w2.alloc (.cells #[.int .i64 5, .int .i64 z, .int .i64 v, .int .i64 g, .int .i64 ra, .int .i64 rn, .int .i64 ri, .int .i64 rp, .int .i64 rk, .int .i64 rt] 29)).alloc (.cells #[.int .i64 5, .int .i64 z, .int .i64 v, .int .i64 7, .int .i64 a, .int .i64 n, .int .i64 i, .int .i64 p, .int .i64 k, .int .i64 t] 29)).alloc (.cells #[.int .i64 5, .int .i64 z, .int .i64 0, .int .i64 g, .int .i64 a, .int .i64 n, .int .i64 i, .int .i64 p, .int .i64 k, .int .i64 t] 29)).drew.cell? ⟨w2.heap.size + 1, 9, none⟩ = some (.int .i64 t) ∧ (((w2.alloc (.cells #[.int .i64 5, .int .i64 z, .int .i64 v, .int .i64 g, .int .i64 ra, .int .i64 rn, .int .i64 ri, .int .i64 rp, .int .i64 rk, .int .i64 rt] 29)).alloc (.cells #[.int .i64 5, .int .i64 z, .int .i64 v, .int .i64 7, .int .i64 a, .int .i64 n, .int .i64 i, .int .i64 p, .int .i64 k, .int .i64 t] 29)).alloc (.cells #[.int .i64 5, .int .i64 z, .int .i64 0, .int .i64 g, .int .i64 a, .int .i64 n, .int .i64 i, .int .i64 p, .int .i64 k, .int .i64 t] 29)).drew.cell? ⟨w2.heap.size + 1 + 1, 0, none⟩ = some (.int .i64 5) ∧ (((w2.alloc (.cells #[.int .i64 5, .int .i64 z, .int .i64 v, .int .i64 g, .int .i64 ra, .int .i64 rn, .int .i64 ri, .int .i64 rp, .int .i64 rk, .int .i64 rt] 29)).alloc (.cells #[.int .i64 5, .int .i64 z, .int .i64 v, .int .i64 7, .int .i64 a, .int .i64 n, .int .i64 i, .int .i64 p, .int .i64 k, .int .i64 t] 29)).alloc (.cells #[.int .i64 5, .int .i64 z, .int .i64 0, .int .i64 g, .int .i64 a, .int .i64 n, .int .i64 i, .int .i64 p, .int .i64 k, .int .i64 t] 29)).drew.cell? ⟨w2.heap.size + 1 + 1, 1, none⟩ = some (.int .i64 z) ∧ (((w2.alloc (.cells #[.int .i64 5, .int .i64 z, .int .i64 v, .int .i64 g, .int .i64 ra, .int .i64 rn, .int .i64 ri, .int .i64 rp, .int .i64 rk, .int .i64 rt] 29)).alloc (.cells #[.int .i64 5, .int .i64 z, .int .i64 v, .int .i64 7, .int .i64 a, .int .i64 n, .int .i64 i, .int .i64 p, .int .i64 k, .int .i64 t] 29)).alloc (.cells #[.int .i64 5, .int .i64 z, .int .i64 0, .int .i64 g, .int .i64 a, .int .i64 n, .int .i64 i, .int .i64 p, .int .i64 k, .int .i64 t] 29)).drew.cell? ⟨w2.heap.size + 1 + 1, 2, none⟩ = some (.int .i64 0) ∧ (((w2.alloc (.cells #[.int .i64 5, .int .i64 z, .int .i64 v, .int .i64 g, .int .i64 ra, .int .i64 rn, .int .i64 ri, .int .i64 rp, .int .i64 rk, .int .i64 rt] 29)).alloc (.cells #[.int .i64 5, .int .i64 z, .int .i64 v, .int .i64 7, .int .i64 a, .int .i64 n, .int .i64 i, .int .i64 p, .int .i64 k, .int .i64 t] 29)).alloc (.cells #[.int .i64 5, .int .i64 z, .int .i64 0, .int .i64 g, .int .i64 a, .int .i64 n, .int .i64 i, .int .i64 p, .int .i64 k, .int .i64 t] 29)).drew.cell? ⟨w2.heap.size + 1 + 1, 3, none⟩ = some (.int .i64 g) ∧ (((w2.alloc (.cells #[.int .i64 5, .int .i64 z, .int .i64 v, .int .i64 g, .int .i64 ra, .int .i64 rn, .int .i64 ri, .int .i64 rp, .int .i64 rk, .int .i64 rt] 29)).alloc (.cells #[.int .i64 5, .int .i64 z, .int .i64 v, .int .i64 7, .int .i64 a, .int .i64 n, .int .i64 i, .int .i64 p, .int .i64 k, .int .i64 t] 29)).alloc (.cells #[.int .i64 5, .int .i64 z, .int .i64 0, .int .i64 g, .int .i64 a, .int .i64 n, .int .i64 i, .int .i64 p, .int .i64 k, .int .i64 t] 29)).drew.cell? ⟨w2.heap.size + 1 + 1, 4, none⟩ = some (.int .i64 a) ∧ (((w2.alloc (.cells #[.int .i64 5, .int .i64 z, .int .i64 v, .int .i64 g, .int .i64 ra, .int .i64 rn, .int .i64 ri, .int .i64 rp, .int .i64 rk, .int .i64 rt] 29)).alloc (.cells #[.int .i64 5, .int .i64 z, .int .i64 v, .int .i64 7, .int .i64 a, .int .i64 n, .int .i64 i, .int .i64 p, .int .i64 k, .int .i64 t] 29)).alloc (.cells #[.int .i64 5, .int .i64 z, .int .i64 0, .int .i64 g, .int .i64 a, .int .i64 n, .int .i64 i, .int .i64 p, .int .i64 k, .int .i64 t] 29)).drew.cell? ⟨w2.heap.size + 1 + 1, 5, none⟩ = some (.int .i64 n) ∧ (((w2.alloc (.cells #[.int .i64 5, .int .i64 z, .int .i64 v, .int .i64 g, .int .i64 ra, .int .i64 rn, .int .i64 ri, .int .i64 rp, .int .i64 rk, .int .i64 rt] 29)).alloc (.cells #[.int .i64 5, .int .i64 z, .int .i64 v, .int .i64 7, .int .i64 a, .int .i64 n, .int .i64 i, .int .i64 p, .int .i64 k, .int .i64 t] 29)).alloc (.cells #[.int .i64 5, .int .i64 z, .int .i64 0, .int .i64 g, .int .i64 a, .int .i64 n, .int .i64 i, .int .i64 p, .int .i64 k, .int .i64 t] 29)).drew.cell? ⟨w2.heap.size + 1 + 1, 6, none⟩ = some (.int .i64 i) ∧ (((w2.alloc (.cells #[.int .i64 5, .int .i64 z, .int .i64 v, .int .i64 g, .int .i64 ra, .int .i64 rn, .int .i64 ri, .int .i64 rp, .int .i64 rk, .int .i64 rt] 29)).alloc (.cells #[.int .i64 5, .int .i64 z, .int .i64 v, .int .i64 7, .int .i64 a, .int .i64 n, .int .i64 i, .int .i64 p, .int .i64 k, .int .i64 t] 29)).alloc (.cells #[.int .i64 5, .int .i64 z, .int .i64 0, .int .i64 g, .int .i64 a, .int .i64 n, .int .i64 i, .int .i64 p, .int .i64 k, .int .i64 t] 29)).drew.cell? ⟨w2.heap.size + 1 + 1, 7, none⟩ = some (.int .i64 p) ∧ (((w2.alloc (.cells #[.int .i64 5, .int .i64 z, .int .i64 v, .int .i64 g, .int .i64 ra, .int .i64 rn, .int .i64 ri, .int .i64 rp, .int .i64 rk, .int .i64 rt] 29)).alloc (.cells #[.int .i64 5, .int .i64 z, .int .i64 v, .int .i64 7, .int .i64 a, .int .i64 n, .int .i64 i, .int .i64 p, .int .i64 k, .int .i64 t] 29)).alloc (.cells #[.int .i64 5, .int .i64 z, .int .i64 0, .int .i64 g, .int .i64 a, .int .i64 n, .int .i64 i, .int .i64 p, .int .i64 k, .int .i64 t] 29)).drew.cell? ⟨w2.heap.size + 1 + 1, 8, none⟩ = some (.int .i64 k) ∧ (((w2.alloc (.cells #[.int .i64 5, .int .i64 z, .int .i64 v, .int .i64 g, .int .i64 ra, .int .i64 rn, .int .i64 ri, .int .i64 rp, .int .i64 rk, .int .i64 rt] 29)).alloc (.cells #[.int .i64 5, .int .i64 z, .int .i64 v, .int .i64 7, .int .i64 a, .int .i64 n, .int .i64 i, .int .i64 p, .int .i64 k, .int .i64 t] 29)).alloc (.cells #[.int .i64 5, .int .i64 z, .int .i64 0, .int .i64 g, .int .i64 a, .int .i64 n, .int .i64 i, .int .i64 p, .int .i64 k, .int .i64 t] 29)).drew.cell? ⟨w2.heap.size + 1 + 1, 9, none⟩ = some (.int .i64 t) := ⟨hB.drew, T.later (Below.refl _ _).drew, X0.lt, V0.lt, V1.lt, V2.lt, x00, v00, v01, v02, v03, v04, v05, v06, v07, v08, v09, v10, v11, v12, v13, v14, v15, v16, v17, v18, v19, v20, v21, v22, v23, v24, v25, v26, v27, v28, v29⟩
  clear X0 X1 V0 V1 V2
  go_wp2_with fail
  refine wp_region_noPanic ?_
  refine wp_region_held_drew (S := fun w' => Below w.heap.size w w' ∧ Tab w' ∧ w.heap.size < w'.heap.size ∧ w2.heap.size < w'.heap.size ∧ w2.heap.size + 1 < w'.heap.size ∧ w2.heap.size + 1 + 1 < w'.heap.size ∧ w'.cell? ⟨w.heap.size, 0, none⟩ = some (.int .i64 5) ∧ w'.cell? ⟨w2.heap.size, 0, none⟩ = some (.int .i64 5) ∧ w'.cell? ⟨w2.heap.size, 1, none⟩ = some (.int .i64 z) ∧ w'.cell? ⟨w2.heap.size, 2, none⟩ = some (.int .i64 v) ∧ w'.cell? ⟨w2.heap.size, 3, none⟩ = some (.int .i64 g) ∧ w'.cell? ⟨w2.heap.size, 4, none⟩ = some (.int .i64 ra) ∧ w'.cell? ⟨w2.heap.size, 5, none⟩ = some (.int .i64 rn) ∧ w'.cell? ⟨w2.heap.size, 6, none⟩ = some (.int .i64 ri) ∧ w'.cell? ⟨w2.heap.size, 7, none⟩ = some (.int .i64 rp) ∧ w'.cell? ⟨w2.heap.size, 8, none⟩ = some (.int .i64 rk) ∧ w'.cell? ⟨w2.heap.size, 9, none⟩ = some (.int .i64 rt) ∧ w'.cell? ⟨w2.heap.size + 1, 0, none⟩ = some (.int .i64 5) ∧ w'.cell? ⟨w2.heap.size + 1, 1, none⟩ = some (.int .i64 z) ∧ w'.cell? ⟨w2.heap.size + 1, 2, none⟩ = some (.int .i64 v) ∧ w'.cell? ⟨w2.heap.size + 1, 3, none⟩ = some (.int .i64 7) ∧ w'.cell? ⟨w2.heap.size + 1, 4, none⟩ = some (.int .i64 a) ∧ w'.cell? ⟨w2.heap.size + 1, 5, none⟩ = some (.int .i64 n) ∧ w'.cell? ⟨w2.heap.size + 1, 6, none⟩ = some (.int .i64 i) ∧ w'.cell? ⟨w2.heap.size + 1, 7, none⟩ = some (.int .i64 p) ∧ w'.cell? ⟨w2.heap.size + 1, 8, none⟩ = some (.int .i64 k) ∧ w'.cell? ⟨w2.heap.size + 1, 9, none⟩ = some (.int .i64 t) ∧ w'.cell? ⟨w2.heap.size + 1 + 1, 0, none⟩ = some (.int .i64 5) ∧ w'.cell? ⟨w2.heap.size + 1 + 1, 1, none⟩ = some (.int .i64 z) ∧ w'.cell? ⟨w2.heap.size + 1 + 1, 2, none⟩ = some (.int .i64 0) ∧ w'.cell? ⟨w2.heap.size + 1 + 1, 3, none⟩ = some (.int .i64 g) ∧ w'.cell? ⟨w2.heap.size + 1 + 1, 4, none⟩ = some (.int .i64 a) ∧ w'.cell? ⟨w2.heap.size + 1 + 1, 5, none⟩ = some (.int .i64 n) ∧ w'.cell? ⟨w2.heap.size + 1 + 1, 6, none⟩ = some (.int .i64 i) ∧ w'.cell? ⟨w2.heap.size + 1 + 1, 7, none⟩ = some (.int .i64 p) ∧ w'.cell? ⟨w2.heap.size + 1 + 1, 8, none⟩ = some (.int .i64 k) ∧ w'.cell? ⟨w2.heap.size + 1 + 1, 9, none⟩ = some (.int .i64 t)) (by kernel_rfl) S0 (fun hH => ?_)
  clear S0
  clear hB x00 x01 x02 x03 x04 x05 x06 x07 x08 x09 x10 x11 x12 x13 x14 x15 v00 v01 v02 v03 v04 v05 v06 v07 v08 v09 v10 v11 v12 v13 v14 v15 v16 v17 v18 v19 v20 v21 v22 v23 v24 v25 v26 v27 v28 v29
  refine wpAnyH_take (i := 0) (oi := { dst := some 30, op := _, type := _, pos := _, after := _, guard := _ }) (v := ?_) rfl (by kernel_rfl) (by kernel_rfl) (by kernel_rfl) (fun _ _ _ h => h) (Or.inl ⟨by rfl, ?_⟩) hH ?_
  rotate_left
  · intro wz hSw
    (try dsimp only at hSw)
    first | (go_simp; done) | (go_simp; with_reducible rfl)
  try simp only [Act.put, List.setIfInBounds_toArray, List.set_cons_zero, List.set_cons_succ]
  refine wpAnyH_take (i := 1) (oi := { dst := some 31, op := _, type := _, pos := _, after := _, guard := _ }) (v := ?_) rfl (by kernel_rfl) (by kernel_rfl) (by kernel_rfl) (fun _ _ _ h => h) (Or.inl ⟨by rfl, ?_⟩) hH ?_
  rotate_left
  · intro wz hSw
    (try dsimp only at hSw)
    first | (go_simp; done) | (go_simp; with_reducible rfl)
  try simp only [Act.put, List.setIfInBounds_toArray, List.set_cons_zero, List.set_cons_succ]
  refine wpAnyH_take (i := 2) (oi := { dst := some 32, op := _, type := _, pos := _, after := _, guard := _ }) (v := ?_) rfl (by kernel_rfl) (by kernel_rfl) (by kernel_rfl) (fun _ _ _ h => h) (Or.inl ⟨by rfl, ?_⟩) hH ?_
  rotate_left
  · intro wz hSw
    (try dsimp only at hSw)
    first | (go_simp; done) | (go_simp; with_reducible rfl)
  try simp only [Act.put, List.setIfInBounds_toArray, List.set_cons_zero, List.set_cons_succ]
  refine wpAnyH_take (i := 3) (oi := { dst := some 33, op := _, type := _, pos := _, after := _, guard := _ }) (v := ?_) rfl (by kernel_rfl) (by kernel_rfl) (by kernel_rfl) (fun _ _ _ h => h) (Or.inl ⟨by rfl, ?_⟩) hH ?_
  rotate_left
  · intro wz hSw
    (try dsimp only at hSw)
    first | (go_simp; done) | (go_simp; with_reducible rfl)
  try simp only [Act.put, List.setIfInBounds_toArray, List.set_cons_zero, List.set_cons_succ]
  refine wpAnyH_take (i := 4) (oi := { dst := some 34, op := _, type := _, pos := _, after := _, guard := _ }) (v := ?_) rfl (by kernel_rfl) (by kernel_rfl) (by kernel_rfl) (fun _ _ _ h => h) (Or.inl ⟨by rfl, ?_⟩) hH ?_
  rotate_left
  · intro wz hSw
    (try dsimp only at hSw)
    first | (go_simp; done) | (go_simp; with_reducible rfl)
  try simp only [Act.put, List.setIfInBounds_toArray, List.set_cons_zero, List.set_cons_succ]
  refine wpAnyH_ready (rs := [5]) (by kernel_rfl) (by simp) ?_
  refine AllReadyH.cons (o := { dst := some 35, op := _, type := _, pos := _, after := _, guard := _ }) rfl (fun K hK => ?_) AllReadyH.nil
  go_simp
  refine (mMay_any 5 z v g ra rn ri rp rk rt _ hH.2.1).mono ?_
  rw [hA]
  rintro e wq5 ⟨rfl, hbq⟩
  go_wp2_with fail
  refine hK.out _ _ (kept_kinds hH hbq) (fun hH2 => ?_)
  clear hK K hH hbq
  have hH := hH2
  clear hH2
  try simp only [Act.put, List.setIfInBounds_toArray, List.set_cons_zero, List.set_cons_succ]
  refine wpAnyH_take (i := 6) (oi := { dst := some 36, op := _, type := _, pos := _, after := _, guard := _ }) (v := ?_) rfl (by kernel_rfl) (by kernel_rfl) (by kernel_rfl) (fun _ _ _ h => h) (Or.inl ⟨by rfl, ?_⟩) hH ?_
  rotate_left
  · intro wz hSw
    (try dsimp only at hSw)
    first | (go_simp; done) | (go_simp; with_reducible rfl)
  try simp only [Act.put, List.setIfInBounds_toArray, List.set_cons_zero, List.set_cons_succ]
  refine wpAnyH_take (i := 7) (oi := { dst := some 37, op := _, type := _, pos := _, after := _, guard := _ }) (v := ?_) rfl (by kernel_rfl) (by kernel_rfl) (by kernel_rfl) (fun _ _ _ h => h) (Or.inl ⟨by rfl, ?_⟩) hH ?_
  rotate_left
  · intro wz hSw
    (try dsimp only at hSw)
    first | (go_simp; done) | (go_simp; with_reducible rfl)
  try simp only [Act.put, List.setIfInBounds_toArray, List.set_cons_zero, List.set_cons_succ]
  refine wpAnyH_take (i := 8) (oi := { dst := some 38, op := _, type := _, pos := _, after := _, guard := _ }) (v := ?_) rfl (by kernel_rfl) (by kernel_rfl) (by kernel_rfl) (fun _ _ _ h => h) (Or.inl ⟨by rfl, ?_⟩) hH ?_
  rotate_left
  · intro wz hSw
    (try dsimp only at hSw)
    first | (go_simp; done) | (go_simp; with_reducible rfl)
  try simp only [Act.put, List.setIfInBounds_toArray, List.set_cons_zero, List.set_cons_succ]
  refine wpAnyH_take (i := 9) (oi := { dst := some 39, op := _, type := _, pos := _, after := _, guard := _ }) (v := ?_) rfl (by kernel_rfl) (by kernel_rfl) (by kernel_rfl) (fun _ _ _ h => h) (Or.inl ⟨by rfl, ?_⟩) hH ?_
  rotate_left
  · intro wz hSw
    (try dsimp only at hSw)
    first | (go_simp; done) | (go_simp; with_reducible rfl)
  try simp only [Act.put, List.setIfInBounds_toArray, List.set_cons_zero, List.set_cons_succ]
  refine wpAnyH_take (i := 10) (oi := { dst := some 40, op := _, type := _, pos := _, after := _, guard := _ }) (v := ?_) rfl (by kernel_rfl) (by kernel_rfl) (by kernel_rfl) (fun _ _ _ h => h) (Or.inl ⟨by rfl, ?_⟩) hH ?_
  rotate_left
  · intro wz hSw
    (try dsimp only at hSw)
    first | (go_simp; done) | (go_simp; with_reducible rfl)
  try simp only [Act.put, List.setIfInBounds_toArray, List.set_cons_zero, List.set_cons_succ]
  refine wpAnyH_take (i := 11) (oi := { dst := some 41, op := _, type := _, pos := _, after := _, guard := _ }) (v := ?_) rfl (by kernel_rfl) (by kernel_rfl) (by kernel_rfl) (fun _ _ _ h => h) (Or.inl ⟨by rfl, ?_⟩) hH ?_
  rotate_left
  · intro wz hSw
    (try dsimp only at hSw)
    first | (go_simp; done) | (go_simp; with_reducible rfl)
  try simp only [Act.put, List.setIfInBounds_toArray, List.set_cons_zero, List.set_cons_succ]
  refine wpAnyH_take (i := 12) (oi := { dst := some 42, op := _, type := _, pos := _, after := _, guard := _ }) (v := ?_) rfl (by kernel_rfl) (by kernel_rfl) (by kernel_rfl) (fun _ _ _ h => h) (Or.inl ⟨by rfl, ?_⟩) hH ?_
  rotate_left
  · intro wz hSw
    (try dsimp only at hSw)
    first | (go_simp; done) | (go_simp; with_reducible rfl)
  try simp only [Act.put, List.setIfInBounds_toArray, List.set_cons_zero, List.set_cons_succ]
  refine wpAnyH_take (i := 13) (oi := { dst := some 43, op := _, type := _, pos := _, after := _, guard := _ }) (v := ?_) rfl (by kernel_rfl) (by kernel_rfl) (by kernel_rfl) (fun _ _ _ h => h) (Or.inl ⟨by rfl, ?_⟩) hH ?_
  rotate_left
  · intro wz hSw
    (try dsimp only at hSw)
    first | (go_simp; done) | (go_simp; with_reducible rfl)
  try simp only [Act.put, List.setIfInBounds_toArray, List.set_cons_zero, List.set_cons_succ]
  refine wpAnyH_take (i := 14) (oi := { dst := some 44, op := _, type := _, pos := _, after := _, guard := _ }) (v := ?_) rfl (by kernel_rfl) (by kernel_rfl) (by kernel_rfl) (fun _ _ _ h => h) (Or.inl ⟨by rfl, ?_⟩) hH ?_
  rotate_left
  · intro wz hSw
    (try dsimp only at hSw)
    first | (go_simp; done) | (go_simp; with_reducible rfl)
  try simp only [Act.put, List.setIfInBounds_toArray, List.set_cons_zero, List.set_cons_succ]
  refine wpAnyH_take (i := 15) (oi := { dst := some 45, op := _, type := _, pos := _, after := _, guard := _ }) (v := ?_) rfl (by kernel_rfl) (by kernel_rfl) (by kernel_rfl) (fun _ _ _ h => h) (Or.inl ⟨by rfl, ?_⟩) hH ?_
  rotate_left
  · intro wz hSw
    (try dsimp only at hSw)
    first | (go_simp; done) | (go_simp; with_reducible rfl)
  try simp only [Act.put, List.setIfInBounds_toArray, List.set_cons_zero, List.set_cons_succ]
  refine wpAnyH_take (i := 16) (oi := { dst := some 46, op := _, type := _, pos := _, after := _, guard := _ }) (v := ?_) rfl (by kernel_rfl) (by kernel_rfl) (by kernel_rfl) (fun _ _ _ h => h) (Or.inl ⟨by rfl, ?_⟩) hH ?_
  rotate_left
  · intro wz hSw
    (try dsimp only at hSw)
    first | (go_simp; done) | (go_simp; with_reducible rfl)
  try simp only [Act.put, List.setIfInBounds_toArray, List.set_cons_zero, List.set_cons_succ]
  refine wpAnyH_take (i := 17) (oi := { dst := some 47, op := _, type := _, pos := _, after := _, guard := _ }) (v := ?_) rfl (by kernel_rfl) (by kernel_rfl) (by kernel_rfl) (fun _ _ _ h => h) (Or.inl ⟨by rfl, ?_⟩) hH ?_
  rotate_left
  · intro wz hSw
    (try dsimp only at hSw)
    first | (go_simp; done) | (go_simp; with_reducible rfl)
  try simp only [Act.put, List.setIfInBounds_toArray, List.set_cons_zero, List.set_cons_succ]
  refine wpAnyH_take (i := 18) (oi := { dst := some 48, op := _, type := _, pos := _, after := _, guard := _ }) (v := ?_) rfl (by kernel_rfl) (by kernel_rfl) (by kernel_rfl) (fun _ _ _ h => h) (Or.inl ⟨by rfl, ?_⟩) hH ?_
  rotate_left
  · intro wz hSw
    (try dsimp only at hSw)
    first | (go_simp; done) | (go_simp; with_reducible rfl)
  try simp only [Act.put, List.setIfInBounds_toArray, List.set_cons_zero, List.set_cons_succ]
  refine wpAnyH_ready (rs := [19]) (by kernel_rfl) (by simp) ?_
  refine AllReadyH.cons (o := { dst := some 49, op := _, type := _, pos := _, after := _, guard := _ }) rfl (fun K hK => ?_) AllReadyH.nil
  go_simp
  refine (mMay_any 5 z v 7 a n i p k t _ hH.2.1).mono ?_
  rw [hT7]
  rintro e wq19 ⟨rfl, hbq⟩
  go_wp2_with fail
  refine hK.out _ _ (kept_kinds hH hbq) (fun hH2 => ?_)
  clear hK K hH hbq
  have hH := hH2
  clear hH2
  try simp only [Act.put, List.setIfInBounds_toArray, List.set_cons_zero, List.set_cons_succ]
  refine wpAnyH_take (i := 20) (oi := { dst := some 50, op := _, type := _, pos := _, after := _, guard := _ }) (v := ?_) rfl (by kernel_rfl) (by kernel_rfl) (by kernel_rfl) (fun _ _ _ h => h) (Or.inl ⟨by rfl, ?_⟩) hH ?_
  rotate_left
  · intro wz hSw
    (try dsimp only at hSw)
    first | (go_simp; done) | (go_simp; with_reducible rfl)
  try simp only [Act.put, List.setIfInBounds_toArray, List.set_cons_zero, List.set_cons_succ]
  refine wpAnyH_take (i := 21) (oi := { dst := some 51, op := _, type := _, pos := _, after := _, guard := _ }) (v := ?_) rfl (by kernel_rfl) (by kernel_rfl) (by kernel_rfl) (fun _ _ _ h => h) (Or.inl ⟨by rfl, ?_⟩) hH ?_
  rotate_left
  · intro wz hSw
    (try dsimp only at hSw)
    first | (go_simp; done) | (go_simp; with_reducible rfl)
  try simp only [Act.put, List.setIfInBounds_toArray, List.set_cons_zero, List.set_cons_succ]
  refine wpAnyH_take (i := 22) (oi := { dst := some 52, op := _, type := _, pos := _, after := _, guard := _ }) (v := ?_) rfl (by kernel_rfl) (by kernel_rfl) (by kernel_rfl) (fun _ _ _ h => h) (Or.inl ⟨by rfl, ?_⟩) hH ?_
  rotate_left
  · intro wz hSw
    (try dsimp only at hSw)
    first | (go_simp; done) | (go_simp; with_reducible rfl)
  try simp only [Act.put, List.setIfInBounds_toArray, List.set_cons_zero, List.set_cons_succ]
  refine wpAnyH_take (i := 23) (oi := { dst := some 53, op := _, type := _, pos := _, after := _, guard := _ }) (v := ?_) rfl (by kernel_rfl) (by kernel_rfl) (by kernel_rfl) (fun _ _ _ h => h) (Or.inl ⟨by rfl, ?_⟩) hH ?_
  rotate_left
  · intro wz hSw
    (try dsimp only at hSw)
    first | (go_simp; done) | (go_simp; with_reducible rfl)
  try simp only [Act.put, List.setIfInBounds_toArray, List.set_cons_zero, List.set_cons_succ]
  refine wpAnyH_take (i := 24) (oi := { dst := some 54, op := _, type := _, pos := _, after := _, guard := _ }) (v := ?_) rfl (by kernel_rfl) (by kernel_rfl) (by kernel_rfl) (fun _ _ _ h => h) (Or.inl ⟨by rfl, ?_⟩) hH ?_
  rotate_left
  · intro wz hSw
    (try dsimp only at hSw)
    first | (go_simp; done) | (go_simp; with_reducible rfl)
  try simp only [Act.put, List.setIfInBounds_toArray, List.set_cons_zero, List.set_cons_succ]
  refine wpAnyH_take (i := 26) (oi := { dst := some 56, op := _, type := _, pos := _, after := _, guard := _ }) (v := ?_) rfl (by kernel_rfl) (by kernel_rfl) (by kernel_rfl) (fun _ _ _ h => h) (Or.inl ⟨by rfl, ?_⟩) hH ?_
  rotate_left
  · intro wz hSw
    (try dsimp only at hSw)
    first | (go_simp; done) | (go_simp; with_reducible rfl)
  try simp only [Act.put, List.setIfInBounds_toArray, List.set_cons_zero, List.set_cons_succ]
  refine wpAnyH_take (i := 27) (oi := { dst := some 57, op := _, type := _, pos := _, after := _, guard := _ }) (v := ?_) rfl (by kernel_rfl) (by kernel_rfl) (by kernel_rfl) (fun _ _ _ h => h) (Or.inl ⟨by rfl, ?_⟩) hH ?_
  rotate_left
  · intro wz hSw
    (try dsimp only at hSw)
    first | (go_simp; done) | (go_simp; with_reducible rfl)
  try simp only [Act.put, List.setIfInBounds_toArray, List.set_cons_zero, List.set_cons_succ]
  refine wpAnyH_take (i := 28) (oi := { dst := some 58, op := _, type := _, pos := _, after := _, guard := _ }) (v := ?_) rfl (by kernel_rfl) (by kernel_rfl) (by kernel_rfl) (fun _ _ _ h => h) (Or.inl ⟨by rfl, ?_⟩) hH ?_
  rotate_left
  · intro wz hSw
    (try dsimp only at hSw)
    first | (go_simp; done) | (go_simp; with_reducible rfl)
  try simp only [Act.put, List.setIfInBounds_toArray, List.set_cons_zero, List.set_cons_succ]
  refine wpAnyH_ready (rs := [25]) (by kernel_rfl) (by simp) ?_
  refine AllReadyH.cons (o := { dst := some 55, op := _, type := _, pos := _, after := _, guard := _ }) rfl (fun K hK => ?_) AllReadyH.nil
  go_simp
  refine (mMay_any 5 z 0 g a n i p k t _ hH.2.1).mono ?_
  rw [hS0]
  rintro e wq25 ⟨rfl, hbq⟩
  go_wp2_with fail
  refine hK.out _ _ (kept_kinds hH hbq) (fun hH2 => ?_)
  clear hK K hH hbq
  have hH := hH2
  clear hH2
  try simp only [Act.put, List.setIfInBounds_toArray, List.set_cons_zero, List.set_cons_succ]
  refine wpAnyH_take (i := 29) (oi := { dst := some 59, op := _, type := _, pos := _, after := _, guard := _ }) (v := ?_) rfl (by kernel_rfl) (by kernel_rfl) (by kernel_rfl) (fun _ _ _ h => h) (Or.inl ⟨by rfl, ?_⟩) hH ?_
  rotate_left
  · intro wz hSw
    (try dsimp only at hSw)
    first | (go_simp; done) | (go_simp; with_reducible rfl)
  try simp only [Act.put, List.setIfInBounds_toArray, List.set_cons_zero, List.set_cons_succ]
  refine wpAnyH_take (i := 30) (oi := { dst := some 60, op := _, type := _, pos := _, after := _, guard := _ }) (v := ?_) rfl (by kernel_rfl) (by kernel_rfl) (by kernel_rfl) (fun _ _ _ h => h) (Or.inl ⟨by rfl, ?_⟩) hH ?_
  rotate_left
  · intro wz hSw
    (try dsimp only at hSw)
    first | (go_simp; done) | (go_simp; with_reducible rfl)
  try simp only [Act.put, List.setIfInBounds_toArray, List.set_cons_zero, List.set_cons_succ]
  refine wpAnyH_take (i := 31) (oi := { dst := some 61, op := _, type := _, pos := _, after := _, guard := _ }) (v := ?_) rfl (by kernel_rfl) (by kernel_rfl) (by kernel_rfl) (fun _ _ _ h => h) (Or.inl ⟨by rfl, ?_⟩) hH ?_
  rotate_left
  · intro wz hSw
    (try dsimp only at hSw)
    first | (go_simp; done) | (go_simp; with_reducible rfl)
  try simp only [Act.put, List.setIfInBounds_toArray, List.set_cons_zero, List.set_cons_succ]
  refine wpAnyH_take (i := 32) (oi := { dst := some 62, op := _, type := _, pos := _, after := _, guard := _ }) (v := ?_) rfl (by kernel_rfl) (by kernel_rfl) (by kernel_rfl) (fun _ _ _ h => h) (Or.inl ⟨by rfl, ?_⟩) hH ?_
  rotate_left
  · intro wz hSw
    (try dsimp only at hSw)
    first | (go_simp; done) | (go_simp; with_reducible rfl)
  try simp only [Act.put, List.setIfInBounds_toArray, List.set_cons_zero, List.set_cons_succ]
  refine wpAnyH_take (i := 33) (oi := { dst := some 63, op := _, type := _, pos := _, after := _, guard := _ }) (v := ?_) rfl (by kernel_rfl) (by kernel_rfl) (by kernel_rfl) (fun _ _ _ h => h) (Or.inl ⟨by rfl, ?_⟩) hH ?_
  rotate_left
  · intro wz hSw
    (try dsimp only at hSw)
    first | (go_simp; done) | (go_simp; with_reducible rfl)
  try simp only [Act.put, List.setIfInBounds_toArray, List.set_cons_zero, List.set_cons_succ]
  refine wpAnyH_take (i := 34) (oi := { dst := some 64, op := _, type := _, pos := _, after := _, guard := _ }) (v := ?_) rfl (by kernel_rfl) (by kernel_rfl) (by kernel_rfl) (fun _ _ _ h => h) (Or.inl ⟨by rfl, ?_⟩) hH ?_
  rotate_left
  · intro wz hSw
    (try dsimp only at hSw)
    first | (go_simp; done) | (go_simp; with_reducible rfl)
  try simp only [Act.put, List.setIfInBounds_toArray, List.set_cons_zero, List.set_cons_succ]
  refine wpAnyH_take (i := 35) (oi := { dst := some 65, op := _, type := _, pos := _, after := _, guard := _ }) (v := ?_) rfl (by kernel_rfl) (by kernel_rfl) (by kernel_rfl) (fun _ _ _ h => h) (Or.inl ⟨by rfl, ?_⟩) hH ?_
  rotate_left
  · intro wz hSw
    (try dsimp only at hSw)
    first | (go_simp; done) | (go_simp; with_reducible rfl)
  try simp only [Act.put, List.setIfInBounds_toArray, List.set_cons_zero, List.set_cons_succ]
  refine wpAnyH_take (i := 36) (oi := { dst := some 4, op := _, type := _, pos := _, after := _, guard := _ }) (v := ?_) rfl (by kernel_rfl) (by kernel_rfl) (by kernel_rfl) (fun _ _ _ h => h) (Or.inl ⟨by rfl, ?_⟩) hH ?_
  rotate_left
  · intro wz hSw
    (try dsimp only at hSw)
    first | (go_simp; done) | (go_simp; with_reducible rfl)
  try simp only [Act.put, List.setIfInBounds_toArray, List.set_cons_zero, List.set_cons_succ]
  refine wpAnyH_done (by kernel_rfl) ?_ _
  refine NoPanic.normal ?_
  go_wp2_with fail
  go_ret
  exact ⟨rfl, hH.1⟩
theorem walk (y z v g a n i p k t ra rn ri rp rk rt : Int) (wy : (Lit.int .i64 y).wf = true) (wz : (Lit.int .i64 z).wf = true) (wv : (Lit.int .i64 v).wf = true) (wg : (Lit.int .i64 g).wf = true) (wa : (Lit.int .i64 a).wf = true) (wn : (Lit.int .i64 n).wf = true) (wi : (Lit.int .i64 i).wf = true) (wp : (Lit.int .i64 p).wf = true) (wk : (Lit.int .i64 k).wf = true) (wt : (Lit.int .i64 t).wf = true) (wra : (Lit.int .i64 ra).wf = true) (wrn : (Lit.int .i64 rn).wf = true) (wri : (Lit.int .i64 ri).wf = true) (wrp : (Lit.int .i64 rp).wf = true) (wrk : (Lit.int .i64 rk).wf = true) (wrt : (Lit.int .i64 rt).wf = true) (w : World) (T : Tab w) :
    Calls Tryd.prog 7 #[.agg #[.int .i64 y, .int .i64 z, .int .i64 v, .int .i64 g, .int .i64 a, .int .i64 n, .int .i64 i, .int .i64 p, .int .i64 k, .int .i64 t], .agg #[.int .i64 ra, .int .i64 rn, .int .i64 ri, .int .i64 rp, .int .i64 rk, .int .i64 rt]] w fun e w' => e = .returned (.bool true) ∧ Below w.heap.size w w' := by
  have cM := fun w T => mMay_any y z v g a n i p k t w T
  have hq := eq_zero ra rn ri rp rk rt
  cases hk : okM y z v g a n i p k t
  · rw [hk] at cM; exact kinds_no y z v g a n i p k t ra rn ri rp rk rt w T cM
  rw [hk] at cM
  cases hr : zeroR ra rn ri rp rk rt
  · rw [hr] at hq
    have hS := kind_seq hk
    rcases six_of (okM_bd hk).1 with rfl | rfl | rfl | rfl | rfl | rfl
    · exact kinds_0 z v g a n i p k t ra rn ri rp rk rt w T cM hq (kind_rule (by decide) hr) (kind_tag (by decide)) hS
    · exact kinds_1 z v g a n i p k t ra rn ri rp rk rt w T cM hq (kind_rule (by decide) hr) hS
    · exact kinds_2 z v g a n i p k t ra rn ri rp rk rt w T cM hq hS
    · exact kinds_3 z v g a n i p k t ra rn ri rp rk rt w T cM hq (kind_rule (by decide) hr) hS
    · exact kinds_4 z v g a n i p k t ra rn ri rp rk rt w T cM hq (kind_rule (by decide) hr) hS
    · exact kinds_5 z v g a n i p k t ra rn ri rp rk rt w T cM hq (kind_rule (by decide) hr) (kind_tag (by decide)) hS
  · rw [hr] at hq; exact kinds_zero y z v g a n i p k t ra rn ri rp rk rt w T cM hq

set_option maxRecDepth 100000 in
theorem lifted (os : Os) (started : os.Started) (H : Type) (enc : TypeId × Value → H) :
    ReturnsInHanded {} Tryd.checked os 7 .any (fun w args => (Rows.msgKindsSpec.pre enc Tryd.prog Tryd.f7 [] false w args ∧ laidMetH Tryd.prog [("wayfinder/msg.rows", Rows.laid_wayfinder_msg_rows)] w) ∧ sizedMet enc Tryd.prog Tryd.f7 (OpenSpec.ofChange Rows.msgKindsSpec) false w args) (Rows.msgKindsSpec.post enc Tryd.prog Tryd.f7 false true false false) := by
  refine returnsInHanded_of_change_and (C := Tryd.checked) (X := fun w _ => laidMetH Tryd.prog [("wayfinder/msg.rows", Rows.laid_wayfinder_msg_rows)] w) (fun _ _ _ hh h => h.of_heap hh) own started (by kernel_rfl) Tryd.func7
    (ChangeSpec.witness_shaped (enc := enc) (C := Tryd.checked) (os := os) (X := fun w _ => laidMetH Tryd.prog [("wayfinder/msg.rows", Rows.laid_wayfinder_msg_rows)] w) false (World.doorLaid Tryd.prog 400 os) #[.agg #[.int .i64 0, .int .i64 0, .int .i64 0, .int .i64 0, .int .i64 0, .int .i64 0, .int .i64 0, .int .i64 0, .int .i64 0, .int .i64 0], .agg #[.int .i64 0, .int .i64 0, .int .i64 0, .int .i64 0, .int .i64 0, .int .i64 0]] 8 rfl (World.shaped_of_RefB (by kernel_rfl) (by kernel_rfl)) (by kernel_rfl) (by kernel_rfl) (by kernel_rfl) (door_met os _)) ?_
  intro W base args ds gs before hval0 hW _ _ hL _
  have hval : ∀ (j : Nat) t v, Tryd.f7.params[j]? = some t → args[j]? = some v → Value.okWide Tryd.prog W .any base t v := hval0
  have hW' := hW
  obtain ⟨p, q, hA0, hV, rfl, hfz, hnd⟩ := hW
  have hA : DataW.TrodAll enc Tryd.prog W 0 (fun _ => true) true Tryd.f7.params.toList args.toList ds p := hA0
  rw [Tryd.params7] at hA hval
  obtain ⟨v0, vs0, d0, ds0, p0, q0, hargs, rfl, rfl, h0, r0⟩ := trodAll_cons hA
  obtain ⟨v1, vs1, d1, ds1, p1, q1, rfl, rfl, rfl, h1, r1⟩ := trodAll_cons r0
  obtain ⟨rfl, rfl, rfl⟩ := trodAll_nil r1
  obtain rfl : args = #[v0, v1] := by cases args; simp_all
  obtain ⟨rfl, rfl⟩ := trodVars_none hV
  have k0 := h0
  have lt0 : ∀ x ∈ p0, x.block < W.heap.size := by obtain ⟨m, hm⟩ := k0; exact DataW.trod_lt m _ _ _ hm
  have k1 := h1
  have lt1 : ∀ x ∈ p1, x.block < W.heap.size := by obtain ⟨m, hm⟩ := k1; exact DataW.trod_lt m _ _ _ hm
  obtain ⟨A0, B0, C0, D0, E0, F0, G0, H0, I0, J0, rfl, w0A, w0B, w0C, w0D, w0E, w0F, w0G, w0H, w0I, w0J⟩ := open_msg (hval 0 29 v0 rfl rfl) h0
  obtain ⟨a1, b1, c1, d1, e1, f1, rfl, w1a, w1b, w1c, w1d, w1e, w1f⟩ := open_rule (hval 1 27 v1 rfl rfl) h1
  clear hA0 hval0
  refine (walk A0 B0 C0 D0 E0 F0 G0 H0 I0 J0 a1 b1 c1 d1 e1 f1 w0A w0B w0C w0D w0E w0F w0G w0H w0I w0J w1a w1b w1c w1d w1e w1f W (tab_of_laid hL)).mono fun e W' ⟨he, bel⟩ => ?_
  subst he
  exact ⟨_, rfl, _, _, _, [], _, [], hW', trodAll_mk1 (shut_bool Tryd.underlying4 _), (trodAll_cons_mk (Below.trod laidOut (by kernel_rfl) (of_decide_eq_true (by kernel_rfl)) k0 bel lt0) (trodAll_cons_mk (Below.trod laidOut (by kernel_rfl) (of_decide_eq_true (by kernel_rfl)) k1 bel lt1) trodAll_mk0)), rfl, bel.frame _, fun h => by cases h⟩

theorem over : Rows.msgKindsRow.holds Tryd.pinned (OpenSpec.ofChange Rows.msgKindsSpec) :=
  OpenClaim.holds_of_wide 7 Tryd.f7 rfl rfl rfl rfl rfl rfl rfl ⟨rfl, rfl, rfl, rfl, rfl⟩ rfl rfl rfl rfl rfl (by kernel_rfl) Tryd.func7 (by kernel_rfl)
    (of_decide_eq_true (by kernel_rfl)) (by unfold Func.isWrapper; first | (rw [if_pos (by decide +kernel)]; kernel_rfl) | (rw [if_neg (by decide +kernel)]; exact ⟨rfl, rfl⟩))
    (fun os started H enc _ => lifted os started H enc)

theorem tied : Rows.MsgKindsCardSaid :=
  Claim7.holds_tied_plain_at .later [] [.data] true (true, "133d690c8e6f5b5e6d71bb0720a65f4d1d23939827a4eba1a95cd2c1b395ac52") false
    over (fun _ h => by cases h) (by kernel_rfl) (fun _ h => by cases h) msgKinds_row_tie rfl ⟨rfl, rfl⟩ (by kernel_rfl) rfl
    (fun f fn hf hfn => by
      obtain rfl : f = 7 := Option.some.inj ((show Tryd.prog.funcNamed Rows.msgKindsRow.func = some 7 by kernel_rfl).symm.trans hf) |>.symm
      obtain rfl : fn = Tryd.f7 := (Option.some.inj (Tryd.func7.symm.trans hfn)).symm
      exact ⟨by kernel_rfl, fun j t ht => by
        rw [Tryd.params7] at ht
        have hm : t ∈ [29, 27] := by simpa using Array.mem_of_getElem? ht
        have hall : ([29, 27].all fun u => !Tryd.prog.wantsStandIn u) = true := by kernel_rfl
        exact (show Tryd.prog.wantsStandIn t = false by simpa using List.all_eq_true.1 hall t hm)⟩)
    (by kernel_rfl)
end Go.Proofs.YtejaeidmamlkbaaDoor.msgKinds
namespace Go.Proofs.YtejaeidmamlkbaaDoor
theorem msgKinds_holds : Rows.MsgKindsCardSaid := msgKinds.tied
#print axioms msgKinds_holds
end Go.Proofs.YtejaeidmamlkbaaDoor
