/- Proved: for every message m the call MsgTells(m) returns true: whether a message may be, and its bytes, are what the document says. The table of package msg starts as the program's text lays it (the tie: of the pruned copy that the seat holds). -/
import Derived.Test.YtejaeidmamlkbaaDoorMsgLaid
import Derived.Test.YtejaeidmamlkbaaDoorMsgRefPut
import Derived.Test.YtejaeidmamlkbaaDoorTie
import Derived.Test.YtejaeidmamlkbaaDoorCards
import Derived.SevenTiedAt
import Derived.Lib.SmallJoins
namespace Go.Proofs.YtejaeidmamlkbaaDoor.msgTells
open Go.ChangeShapes Go.WideShapes Go.ChangeAt Go.RowKit R Q
set_option linter.unusedVariables false


set_option maxHeartbeats 2000000 in
theorem tells_ok (y z v g a n i p k t : Int) (w : World) (T : Tab w) (hk : okM y z v g a n i p k t = true) :
    Calls Tryd.prog 3 #[.agg #[.int .i64 y, .int .i64 z, .int .i64 v, .int .i64 g, .int .i64 a, .int .i64 n, .int .i64 i, .int .i64 p, .int .i64 k, .int .i64 t]] w fun e w' => e = .returned (.bool true) ∧ Below w.heap.size w w' := by
  have hn0 := below_new w (.cells #[.int .i64 y, .int .i64 z, .int .i64 v, .int .i64 g, .int .i64 a, .int .i64 n, .int .i64 i, .int .i64 p, .int .i64 k, .int .i64 t] 29)
  have X0 := Lies.new w [y, z, v, g, a, n, i, p, k, t] 29 (B := w.heap.size) rfl
  have hB := hn0
  clear hn0
  obtain ⟨x00, x01, x02, x03, x04, x05, x06, x07, x08, x09⟩ := X0.ten
  replace T := T.later hB
  have hl := bodyM_len hk
  go_enter Tryd.func3, Tryd.ntmps3
  go_wp2_with fail
  refine (awake_any _ T).mono ?_
  rintro e w1 ⟨rfl, hb1⟩
  clear x00 x01 x02 x03 x04 x05 x06 x07 x08 x09
  replace X0 := X0.later hb1
  replace T := T.later hb1
  replace hB := below_step hB hb1
  clear hb1
  obtain ⟨x00, x01, x02, x03, x04, x05, x06, x07, x08, x09⟩ := X0.ten
  go_wp2_with fail
  refine (mPut_ok hk _ T).mono ?_
  rintro e w2 ⟨a2, k2, rfl, R2, hb2⟩
  clear x00 x01 x02 x03 x04 x05 x06 x07 x08 x09
  replace X0 := X0.later hb2
  replace T := T.later hb2
  replace hB := below_step hB hb2
  clear hb2
  obtain ⟨x00, x01, x02, x03, x04, x05, x06, x07, x08, x09⟩ := X0.ten
  go_wp2_with fail
  refine (rmPut_ok hk _).mono ?_
  rintro e w3 ⟨a3, k3, rfl, R3, hb3⟩
  clear x00 x01 x02 x03 x04 x05 x06 x07 x08 x09
  replace X0 := X0.later hb3
  replace T := T.later hb3
  replace R2 := R2.later hb3
  replace hB := below_step hB hb3
  clear hb3
  obtain ⟨x00, x01, x02, x03, x04, x05, x06, x07, x08, x09⟩ := X0.ten
  go_wp2_with fail
  refine (rmMay_any y z v g a n i p k t _).mono ?_
  rintro e w4 ⟨rfl, hb4⟩
  clear x00 x01 x02 x03 x04 x05 x06 x07 x08 x09
  replace X0 := X0.later hb4
  replace T := T.later hb4
  replace R2 := R2.later hb4
  replace R3 := R3.later hb4
  replace hB := below_step hB hb4
  clear hb4
  obtain ⟨x00, x01, x02, x03, x04, x05, x06, x07, x08, x09⟩ := X0.ten
  have s1 := str_at R2 hl
  have s2 := str_at R3 hl
  go_wp2_with fail
  refine (mMay_any y z v g a n i p k t _ T).mono ?_
  rintro e w5 ⟨rfl, hb5⟩
  clear x00 x01 x02 x03 x04 x05 x06 x07 x08 x09
  replace X0 := X0.later hb5
  replace T := T.later hb5
  replace R2 := R2.later hb5
  replace R3 := R3.later hb5
  replace hB := below_step hB hb5
  clear hb5
  obtain ⟨x00, x01, x02, x03, x04, x05, x06, x07, x08, x09⟩ := X0.ten
  go_wp2_with fail
  go_ret
  exact ⟨rfl, hB⟩
set_option maxHeartbeats 2000000 in
theorem tells_bad (y z v g a n i p k t : Int) (w : World) (T : Tab w) (hk : okM y z v g a n i p k t = false) :
    Calls Tryd.prog 3 #[.agg #[.int .i64 y, .int .i64 z, .int .i64 v, .int .i64 g, .int .i64 a, .int .i64 n, .int .i64 i, .int .i64 p, .int .i64 k, .int .i64 t]] w fun e w' => e = .returned (.bool true) ∧ Below w.heap.size w w' := by
  have hn0 := below_new w (.cells #[.int .i64 y, .int .i64 z, .int .i64 v, .int .i64 g, .int .i64 a, .int .i64 n, .int .i64 i, .int .i64 p, .int .i64 k, .int .i64 t] 29)
  have X0 := Lies.new w [y, z, v, g, a, n, i, p, k, t] 29 (B := w.heap.size) rfl
  have hB := hn0
  clear hn0
  obtain ⟨x00, x01, x02, x03, x04, x05, x06, x07, x08, x09⟩ := X0.ten
  replace T := T.later hB
  go_enter Tryd.func3, Tryd.ntmps3
  go_wp2_with fail
  refine (awake_any _ T).mono ?_
  rintro e w1 ⟨rfl, hb1⟩
  clear x00 x01 x02 x03 x04 x05 x06 x07 x08 x09
  replace X0 := X0.later hb1
  replace T := T.later hb1
  replace hB := below_step hB hb1
  clear hb1
  obtain ⟨x00, x01, x02, x03, x04, x05, x06, x07, x08, x09⟩ := X0.ten
  go_wp2_with fail
  refine (mPut_bad hk _ T).mono ?_
  rintro e w2 ⟨rfl, hb2⟩
  clear x00 x01 x02 x03 x04 x05 x06 x07 x08 x09
  replace X0 := X0.later hb2
  replace T := T.later hb2
  replace hB := below_step hB hb2
  clear hb2
  obtain ⟨x00, x01, x02, x03, x04, x05, x06, x07, x08, x09⟩ := X0.ten
  go_wp2_with fail
  refine (rmPut_bad hk _).mono ?_
  rintro e w3 ⟨rfl, hb3⟩
  clear x00 x01 x02 x03 x04 x05 x06 x07 x08 x09
  replace X0 := X0.later hb3
  replace T := T.later hb3
  replace hB := below_step hB hb3
  clear hb3
  obtain ⟨x00, x01, x02, x03, x04, x05, x06, x07, x08, x09⟩ := X0.ten
  go_wp2_with fail
  refine (rmMay_any y z v g a n i p k t _).mono ?_
  rintro e w4 ⟨rfl, hb4⟩
  clear x00 x01 x02 x03 x04 x05 x06 x07 x08 x09
  replace X0 := X0.later hb4
  replace T := T.later hb4
  replace hB := below_step hB hb4
  clear hb4
  obtain ⟨x00, x01, x02, x03, x04, x05, x06, x07, x08, x09⟩ := X0.ten
  have s1 := str_at (Reads.none .u8 w4) (n := 0) rfl
  go_wp2_with fail
  refine (mMay_any y z v g a n i p k t _ T).mono ?_
  rintro e w5 ⟨rfl, hb5⟩
  clear x00 x01 x02 x03 x04 x05 x06 x07 x08 x09
  replace X0 := X0.later hb5
  replace T := T.later hb5
  replace hB := below_step hB hb5
  clear hb5
  obtain ⟨x00, x01, x02, x03, x04, x05, x06, x07, x08, x09⟩ := X0.ten
  go_wp2_with fail
  go_ret
  exact ⟨rfl, hB⟩
theorem walk (y z v g a n i p k t : Int) (wy : (Lit.int .i64 y).wf = true) (wz : (Lit.int .i64 z).wf = true) (wv : (Lit.int .i64 v).wf = true) (wg : (Lit.int .i64 g).wf = true) (wa : (Lit.int .i64 a).wf = true) (wn : (Lit.int .i64 n).wf = true) (wi : (Lit.int .i64 i).wf = true) (wp : (Lit.int .i64 p).wf = true) (wk : (Lit.int .i64 k).wf = true) (wt : (Lit.int .i64 t).wf = true) (w : World) (T : Tab w) :
    Calls Tryd.prog 3 #[.agg #[.int .i64 y, .int .i64 z, .int .i64 v, .int .i64 g, .int .i64 a, .int .i64 n, .int .i64 i, .int .i64 p, .int .i64 k, .int .i64 t]] w fun e w' => e = .returned (.bool true) ∧ Below w.heap.size w w' := by
  cases hk : okM y z v g a n i p k t
  · exact tells_bad y z v g a n i p k t w T hk
  · exact tells_ok y z v g a n i p k t w T hk

set_option maxRecDepth 100000 in
theorem lifted (os : Os) (started : os.Started) (H : Type) (enc : TypeId × Value → H) :
    ReturnsInHanded {} Tryd.checked os 3 .any (fun w args => (Rows.msgTellsSpec.pre enc Tryd.prog Tryd.f3 [] false w args ∧ laidMetH Tryd.prog [("wayfinder/msg.rows", Rows.laid_wayfinder_msg_rows)] w) ∧ sizedMet enc Tryd.prog Tryd.f3 (OpenSpec.ofChange Rows.msgTellsSpec) false w args) (Rows.msgTellsSpec.post enc Tryd.prog Tryd.f3 false true false false) := by
  refine returnsInHanded_of_change_and (C := Tryd.checked) (X := fun w _ => laidMetH Tryd.prog [("wayfinder/msg.rows", Rows.laid_wayfinder_msg_rows)] w) (fun _ _ _ hh h => h.of_heap hh) own started (by kernel_rfl) Tryd.func3
    (ChangeSpec.witness_shaped (enc := enc) (C := Tryd.checked) (os := os) (X := fun w _ => laidMetH Tryd.prog [("wayfinder/msg.rows", Rows.laid_wayfinder_msg_rows)] w) false (World.doorLaid Tryd.prog 400 os) #[.agg #[.int .i64 0, .int .i64 0, .int .i64 0, .int .i64 0, .int .i64 0, .int .i64 0, .int .i64 0, .int .i64 0, .int .i64 0, .int .i64 0]] 8 rfl (World.shaped_of_RefB (by kernel_rfl) (by kernel_rfl)) (by kernel_rfl) (by kernel_rfl) (by kernel_rfl) (door_met os _)) ?_
  intro W base args ds gs before hval0 hW _ _ hL _
  have hval : ∀ (j : Nat) t v, Tryd.f3.params[j]? = some t → args[j]? = some v → Value.okWide Tryd.prog W .any base t v := hval0
  have hW' := hW
  obtain ⟨p, q, hA0, hV, rfl, hfz, hnd⟩ := hW
  have hA : DataW.TrodAll enc Tryd.prog W 0 (fun _ => true) true Tryd.f3.params.toList args.toList ds p := hA0
  rw [Tryd.params3] at hA hval
  obtain ⟨v0, vs0, d0, ds0, p0, q0, hargs, rfl, rfl, h0, r0⟩ := trodAll_cons hA
  obtain ⟨rfl, rfl, rfl⟩ := trodAll_nil r0
  obtain rfl : args = #[v0] := by cases args; simp_all
  obtain ⟨rfl, rfl⟩ := trodVars_none hV
  have k0 := h0
  have lt0 : ∀ x ∈ p0, x.block < W.heap.size := by obtain ⟨m, hm⟩ := k0; exact DataW.trod_lt m _ _ _ hm
  obtain ⟨A0, B0, C0, D0, E0, F0, G0, H0, I0, J0, rfl, w0A, w0B, w0C, w0D, w0E, w0F, w0G, w0H, w0I, w0J⟩ := open_msg (hval 0 29 v0 rfl rfl) h0
  clear hA0 hval0
  refine (walk A0 B0 C0 D0 E0 F0 G0 H0 I0 J0 w0A w0B w0C w0D w0E w0F w0G w0H w0I w0J W (tab_of_laid hL)).mono fun e W' ⟨he, bel⟩ => ?_
  subst he
  exact ⟨_, rfl, _, _, _, [], _, [], hW', trodAll_mk1 (shut_bool Tryd.underlying4 _), (trodAll_cons_mk (Below.trod laidOut (by kernel_rfl) (of_decide_eq_true (by kernel_rfl)) k0 bel lt0) trodAll_mk0), rfl, bel.frame _, fun h => by cases h⟩

theorem over : Rows.msgTellsRow.holds Tryd.pinned (OpenSpec.ofChange Rows.msgTellsSpec) :=
  OpenClaim.holds_of_wide 3 Tryd.f3 rfl rfl rfl rfl rfl rfl rfl ⟨rfl, rfl, rfl, rfl, rfl⟩ rfl rfl rfl rfl rfl (by kernel_rfl) Tryd.func3 (by kernel_rfl)
    (of_decide_eq_true (by kernel_rfl)) (by unfold Func.isWrapper; first | (rw [if_pos (by decide +kernel)]; kernel_rfl) | (rw [if_neg (by decide +kernel)]; exact ⟨rfl, rfl⟩))
    (fun os started H enc _ => lifted os started H enc)

theorem tied : Rows.MsgTellsCardSaid :=
  Claim7.holds_tied_plain_at .later [] [.data] true (true, "133d690c8e6f5b5e6d71bb0720a65f4d1d23939827a4eba1a95cd2c1b395ac52") false
    over (fun _ h => by cases h) (by kernel_rfl) (fun _ h => by cases h) msgTells_row_tie rfl ⟨rfl, rfl⟩ (by kernel_rfl) rfl
    (fun f fn hf hfn => by
      obtain rfl : f = 3 := Option.some.inj ((show Tryd.prog.funcNamed Rows.msgTellsRow.func = some 3 by kernel_rfl).symm.trans hf) |>.symm
      obtain rfl : fn = Tryd.f3 := (Option.some.inj (Tryd.func3.symm.trans hfn)).symm
      exact ⟨by kernel_rfl, fun j t ht => by
        rw [Tryd.params3] at ht
        have hm : t ∈ [29] := by simpa using Array.mem_of_getElem? ht
        have hall : ([29].all fun u => !Tryd.prog.wantsStandIn u) = true := by kernel_rfl
        exact (show Tryd.prog.wantsStandIn t = false by simpa using List.all_eq_true.1 hall t hm)⟩)
    (by kernel_rfl)
end Go.Proofs.YtejaeidmamlkbaaDoor.msgTells
namespace Go.Proofs.YtejaeidmamlkbaaDoor
theorem msgTells_holds : Rows.MsgTellsCardSaid := msgTells.tied
#print axioms msgTells_holds
end Go.Proofs.YtejaeidmamlkbaaDoor
