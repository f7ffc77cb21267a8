/- Proved: for all bytes b the call MsgGets(b) returns true and leaves b as it was: the message of any bytes, or why there is none, is what the document says (of more than 3000 bytes nothing is asked). The table of package msg starts as the program's text lays it (the tie: of the pruned copy that the seat holds). -/
import Derived.Test.YtejaeidmamlkbaaDoorMsgLaid
import Derived.Test.YtejaeidmamlkbaaDoorMsgGet
import Derived.Test.YtejaeidmamlkbaaDoorMsgRefGet
import Derived.Test.YtejaeidmamlkbaaDoorTie
import Derived.Test.YtejaeidmamlkbaaDoorCards
import Derived.SevenTiedAt
import Derived.Lib.SmallJoins
namespace Go.Proofs.YtejaeidmamlkbaaDoor.msgGets
open Go.ChangeShapes Go.WideShapes Go.ChangeAt Go.RowKit R Q
set_option linter.unusedVariables false


set_option maxHeartbeats 2000000 in
theorem gets_main (x : Option Addr) (c : Nat) (s : List Int) (w : World) (R : Reads .u8 w x c s) (T : Tab w) (hl : s.length ≤ 3000) {y z v g a n i p k t zz : Int}
    (cG : Hid (∀ w1, Reads .u8 w1 x c s → Tab w1 → Calls Tryd.prog 14 #[.slice x s.length c] w1 fun e w' => e = .returned (.tuple #[.agg #[.int .i64 y, .int .i64 z, .int .i64 v, .int .i64 g, .int .i64 a, .int .i64 n, .int .i64 i, .int .i64 p, .int .i64 k, .int .i64 t], .int .i64 zz]) ∧ Below w1.heap.size w1 w'))
    (cR : Hid (∀ w1, Reads .u8 w1 x c s → Calls Tryd.prog 15 #[.slice x s.length c] w1 fun e w' => e = .returned (.tuple #[.agg #[.int .i64 y, .int .i64 z, .int .i64 v, .int .i64 g, .int .i64 a, .int .i64 n, .int .i64 i, .int .i64 p, .int .i64 k, .int .i64 t], .int .i64 zz]) ∧ Below w1.heap.size w1 w')) :
    Calls Tryd.prog 4 #[.slice x s.length c] w fun e w' => e = .returned (.bool true) ∧ Below w.heap.size w w' := by
  have hmx := Nat.le_trans R.le R.max
  unfold maxLen at hmx
  have hB := Below.refl w.heap.size w
  replace R := R.later hB
  replace T := T.later hB
  go_enter Tryd.func4, Tryd.ntmps4
  go_wp2_with fail
  refine (awake_any _ T).mono ?_
  rintro e w1 ⟨rfl, hb1⟩
  replace R := R.later hb1
  replace T := T.later hb1
  replace hB := below_step hB hb1
  clear hb1
  go_wp2_with fail
  refine (cG.out _ R T).mono ?_
  rintro e w2 ⟨rfl, hb2⟩
  replace R := R.later hb2
  replace T := T.later hb2
  replace hB := below_step hB hb2
  clear hb2
  have hv0 := below_new w2 (.cells #[.int .i64 y, .int .i64 z, .int .i64 v, .int .i64 g, .int .i64 a, .int .i64 n, .int .i64 i, .int .i64 p, .int .i64 k, .int .i64 t] 29)
  replace R := R.later hv0
  replace T := T.later hv0
  replace hB := below_step hB hv0
  clear hv0
  have V0 := Lies.new w2 [y, z, v, g, a, n, i, p, k, t] 29 (B := w2.heap.size) rfl
  obtain ⟨v00, v01, v02, v03, v04, v05, v06, v07, v08, v09⟩ := V0.ten
  go_wp2_with fail
  refine (cR.out _ R).mono ?_
  rintro e w3 ⟨rfl, hb3⟩
  clear v00 v01 v02 v03 v04 v05 v06 v07 v08 v09
  replace V0 := V0.later hb3
  replace R := R.later hb3
  replace T := T.later hb3
  replace hB := below_step hB hb3
  clear hb3
  obtain ⟨v00, v01, v02, v03, v04, v05, v06, v07, v08, v09⟩ := V0.ten
  have hv1 := below_new w3 (.cells #[.int .i64 y, .int .i64 z, .int .i64 v, .int .i64 g, .int .i64 a, .int .i64 n, .int .i64 i, .int .i64 p, .int .i64 k, .int .i64 t] 29)
  clear v00 v01 v02 v03 v04 v05 v06 v07 v08 v09
  replace V0 := V0.later hv1
  replace R := R.later hv1
  replace T := T.later hv1
  replace hB := below_step hB hv1
  clear hv1
  have V1 := Lies.new w3 [y, z, v, g, a, n, i, p, k, t] 29 (B := w3.heap.size) rfl
  obtain ⟨v00, v01, v02, v03, v04, v05, v06, v07, v08, v09⟩ := V0.ten
  obtain ⟨v10, v11, v12, v13, v14, v15, v16, v17, v18, v19⟩ := V1.ten
  go_wp2_with fail
  go_ret
  exact ⟨rfl, hB⟩
theorem walk (x : Option Addr) (c : Nat) (s : List Int) (w : World) (R : Reads .u8 w x c s) (T : Tab w) :
    Calls Tryd.prog 4 #[.slice x s.length c] w fun e w' => e = .returned (.bool true) ∧ Below w.heap.size w w' := by
  by_cases hl : 3000 < s.length
  · have hmx := Nat.le_trans R.le R.max
    unfold maxLen at hmx
    go_enter Tryd.func4, Tryd.ntmps4
    go_wp2_with fail
    refine (awake_any _ T).mono ?_
    rintro e w1 ⟨rfl, hb1⟩
    go_wp2_with fail
    go_ret
    exact ⟨rfl, hb1⟩
  · by_cases h0 : mgE s = 0
    · exact gets_main x c s w R T (by omega) (fun w1 R1 T1 => mGet_some w1 T1 R1 rfl (by omega) h0 ⟨rfl, rfl, rfl, rfl, rfl, rfl, rfl, rfl, rfl, rfl⟩) (fun w1 R1 => rmGet_some w1 R1 (by omega) h0 ⟨rfl, rfl, rfl, rfl, rfl, rfl, rfl, rfl, rfl, rfl⟩)
    · exact gets_main x c s w R T (by omega) (fun w1 R1 T1 => mGet_none w1 T1 R1 rfl (by omega) rfl h0) (fun w1 R1 => rmGet_none w1 R1 (by omega) rfl h0)

set_option maxRecDepth 100000 in
theorem lifted (os : Os) (started : os.Started) (H : Type) (enc : TypeId × Value → H) :
    ReturnsInHanded {} Tryd.checked os 4 .any (fun w args => (Rows.msgGetsSpec.pre enc Tryd.prog Tryd.f4 [] false w args ∧ laidMetH Tryd.prog [("wayfinder/msg.rows", Rows.laid_wayfinder_msg_rows)] w) ∧ sizedMet enc Tryd.prog Tryd.f4 (OpenSpec.ofChange Rows.msgGetsSpec) false w args) (Rows.msgGetsSpec.post enc Tryd.prog Tryd.f4 false true false false) := by
  refine returnsInHanded_of_change_and (C := Tryd.checked) (X := fun w _ => laidMetH Tryd.prog [("wayfinder/msg.rows", Rows.laid_wayfinder_msg_rows)] w) (fun _ _ _ hh h => h.of_heap hh) own started (by kernel_rfl) Tryd.func4
    (ChangeSpec.witness_shaped (enc := enc) (C := Tryd.checked) (os := os) (X := fun w _ => laidMetH Tryd.prog [("wayfinder/msg.rows", Rows.laid_wayfinder_msg_rows)] w) false (World.doorLaid Tryd.prog 400 os) #[.slice none 0 0] 8 rfl (World.shaped_of_RefB (by kernel_rfl) (by kernel_rfl)) (by kernel_rfl) (by kernel_rfl) (by kernel_rfl) (door_met os _)) ?_
  intro W base args ds gs before hval0 hW _ _ hL _
  have hval : ∀ (j : Nat) t v, Tryd.f4.params[j]? = some t → args[j]? = some v → Value.okWide Tryd.prog W .any base t v := hval0
  have hW' := hW
  obtain ⟨p, q, hA0, hV, rfl, hfz, hnd⟩ := hW
  have hA : DataW.TrodAll enc Tryd.prog W 0 (fun _ => true) true Tryd.f4.params.toList args.toList ds p := hA0
  rw [Tryd.params4] at hA hval
  obtain ⟨v0, vs0, d0, ds0, p0, q0, hargs, rfl, rfl, h0, r0⟩ := trodAll_cons hA
  obtain ⟨rfl, rfl, rfl⟩ := trodAll_nil r0
  obtain rfl : args = #[v0] := by cases args; simp_all
  obtain ⟨rfl, rfl⟩ := trodVars_none hV
  obtain ⟨a0, n0, c0, rfl⟩ := okWide_slice Tryd.underlying31 (hval 0 31 v0 rfl rfl)
  have k0 := h0
  have lt0 : ∀ x ∈ p0, x.block < W.heap.size := by obtain ⟨m, hm⟩ := k0; exact DataW.trod_lt m _ _ _ hm
  obtain ⟨l0, el0, R0⟩ : ∃ l, n0 = List.length l ∧ Reads .u8 W a0 c0 l := by
    obtain ⟨fuel, hf⟩ := h0
    rcases open_ints Tryd.underlying31 Tryd.underlying5 (by kernel_rfl) hf with ⟨hcs, _⟩ | ⟨x, l, c, zs, hcs, _, hl, hm, hz, _, hcell, hwz⟩
    · simp [Value.cells] at hcs
      obtain ⟨rfl, rfl, rfl⟩ := hcs
      exact ⟨[], rfl, Reads.none _ _⟩
    · simp [Value.cells] at hcs
      obtain ⟨rfl, rfl, rfl⟩ := hcs
      have hz2 : List.length zs = c0 := by simpa using hz
      exact ⟨List.take _ zs, by rw [List.length_take, hz2]; omega, reads_of_ints hl hm hz2 hcell hwz⟩
  subst el0
  clear hA0 hval0
  refine (walk a0 c0 l0  W R0 (tab_of_laid hL)).mono fun e W' ⟨he, bel⟩ => ?_
  subst he
  exact ⟨_, rfl, _, _, _, [], _, [], hW', trodAll_mk1 (shut_bool Tryd.underlying4 _), (trodAll_cons_mk (Below.trod laidOut (by kernel_rfl) (of_decide_eq_true (by kernel_rfl)) k0 bel lt0) trodAll_mk0), rfl, bel.frame _, fun h => by cases h⟩

theorem over : Rows.msgGetsRow.holds Tryd.pinned (OpenSpec.ofChange Rows.msgGetsSpec) :=
  OpenClaim.holds_of_wide 4 Tryd.f4 rfl rfl rfl rfl rfl rfl rfl ⟨rfl, rfl, rfl, rfl, rfl⟩ rfl rfl rfl rfl rfl (by kernel_rfl) Tryd.func4 (by kernel_rfl)
    (of_decide_eq_true (by kernel_rfl)) (by unfold Func.isWrapper; first | (rw [if_pos (by decide +kernel)]; kernel_rfl) | (rw [if_neg (by decide +kernel)]; exact ⟨rfl, rfl⟩))
    (fun os started H enc _ => lifted os started H enc)

theorem tied : Rows.MsgGetsCardSaid :=
  Claim7.holds_tied_plain_at .later [] [.data] true (true, "133d690c8e6f5b5e6d71bb0720a65f4d1d23939827a4eba1a95cd2c1b395ac52") false
    over (fun _ h => by cases h) (by kernel_rfl) (fun _ h => by cases h) msgGets_row_tie rfl ⟨rfl, rfl⟩ (by kernel_rfl) rfl
    (fun f fn hf hfn => by
      obtain rfl : f = 4 := Option.some.inj ((show Tryd.prog.funcNamed Rows.msgGetsRow.func = some 4 by kernel_rfl).symm.trans hf) |>.symm
      obtain rfl : fn = Tryd.f4 := (Option.some.inj (Tryd.func4.symm.trans hfn)).symm
      exact ⟨by kernel_rfl, fun j t ht => by
        rw [Tryd.params4] at ht
        have hm : t ∈ [31] := by simpa using Array.mem_of_getElem? ht
        have hall : ([31].all fun u => !Tryd.prog.wantsStandIn u) = true := by kernel_rfl
        exact (show Tryd.prog.wantsStandIn t = false by simpa using List.all_eq_true.1 hall t hm)⟩)
    (by kernel_rfl)
end Go.Proofs.YtejaeidmamlkbaaDoor.msgGets
namespace Go.Proofs.YtejaeidmamlkbaaDoor
theorem msgGets_holds : Rows.MsgGetsCardSaid := msgGets.tied
#print axioms msgGets_holds
end Go.Proofs.YtejaeidmamlkbaaDoor
