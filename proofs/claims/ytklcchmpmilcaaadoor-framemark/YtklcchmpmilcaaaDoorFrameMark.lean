/- Proved: for all bytes b and every byte c the call FrameMark(b, c) returns true and leaves b as it was: what does not begin as a frame is none, whatever stands behind (of more than 3000 bytes nothing is asked). The table of package msg starts as the program's text lays it (the tie: of the pruned copy that the seat holds). -/
import Derived.Test.YtklcchmpmilcaaaDoorFrameSeal
import Derived.Test.YtklcchmpmilcaaaDoorFrameOpen
import Derived.Test.YtklcchmpmilcaaaDoorMsgLaid
import Derived.Test.YtklcchmpmilcaaaDoorTie
import Derived.Test.YtklcchmpmilcaaaDoorCards
import Derived.SevenTiedAt
import Derived.Lib.SmallJoins
namespace Go.Proofs.YtklcchmpmilcaaaDoor.frameMark
open Go.ChangeShapes Go.WideShapes Go.ChangeAt Go.RowKit R Q Fr
set_option linter.unusedVariables false


theorem own_one (w : World) (z : Int) : (w.alloc (.cells #[.int .u8 z] 5)).ownsRow w.heap.size 5 1 (.slice (some ⟨w.heap.size, 0, none⟩) 1 1) 1 (([z] : List Int).map (Value.int .u8)) :=
  ⟨by simp, .inr ⟨w.heap.size, 1, _, rfl, Nat.le_refl _, heap_alloc_new w _, Nat.le_refl _, by unfold maxLen; omega, by simp, by simp⟩⟩
set_option maxHeartbeats 1000000 in
theorem mark_long (x : Option Addr) (c : Nat) (s : List Int) (cc : Int) (w : World) (R : Reads .u8 w x c s) (T : Tab w) (hl : 3000 < s.length) :
    Calls Tryd.prog 7 #[.slice x s.length c, .int .u8 cc] w fun e w' => e = .returned (.bool true) ∧ Below w.heap.size w w' := by
  have hmx := Nat.le_trans R.le R.max
  unfold maxLen at hmx
  have hB := Below.refl w.heap.size w
  replace T := T.later hB
  go_enter Tryd.func7, Tryd.ntmps7
  go_wp2_with fail
  refine (awake_any _ T).mono ?_
  rintro e w1 ⟨rfl, hb1⟩
  replace T := T.later hb1
  replace hB := below_step hB hb1
  clear hb1
  go_wp2_with fail
  go_ret
  exact ⟨rfl, hB⟩
set_option maxHeartbeats 1000000 in
theorem mark_is (x : Option Addr) (c : Nat) (s : List Int) (w : World) (R : Reads .u8 w x c s) (T : Tab w) (hl : s.length ≤ 3000) :
    Calls Tryd.prog 7 #[.slice x s.length c, .int .u8 197] w fun e w' => e = .returned (.bool true) ∧ Below w.heap.size w w' := by
  have hmx := Nat.le_trans R.le R.max
  unfold maxLen at hmx
  have hB := Below.refl w.heap.size w
  replace T := T.later hB
  go_enter Tryd.func7, Tryd.ntmps7
  go_wp2_with fail
  refine (awake_any _ T).mono ?_
  rintro e w1 ⟨rfl, hb1⟩
  replace T := T.later hb1
  replace hB := below_step hB hb1
  clear hb1
  go_wp2_with fail
  go_ret
  exact ⟨rfl, hB⟩
set_option maxHeartbeats 2000000 in
theorem mark_3 (x : Option Addr) (c : Nat) (s : List Int) (cc : Int) (w : World) (R : Reads .u8 w x c s) (T : Tab w) (hl : s.length ≤ 3000) (h3 : s.length < 3) (hc : (cc == 197) = false) (HO : Hid (O.Oct ([cc] ++ s))) (HE : Hid (foE ([cc] ++ s) = 3)) (hN : ([cc] ++ s).length = 1 + s.length) :
    Calls Tryd.prog 7 #[.slice x s.length c, .int .u8 cc] w fun e w' => e = .returned (.bool true) ∧ Below w.heap.size w w' := by
  have hmx := Nat.le_trans R.le R.max
  unfold maxLen at hmx
  have hB := Below.refl w.heap.size w
  go_enter Tryd.func7, Tryd.ntmps7
  go_wp2_with fail
  refine (awake_any _ T).mono ?_
  rintro e w1 ⟨rfl, hb1⟩
  replace R := R.later hb1
  replace T := T.later hb1
  have own1 := own_one w1 cc
  have hb2 := below_new w1 (.cells #[.int .u8 cc] 5)
  replace R := R.later hb2
  have hsz := hb2.size
  go_wp2_with (at_builtin; refine wpList_join rfl (.tmp 23) (.tmp 24) 30 rfl w1.heap.size 5 1 Tryd.underlying30 info8 rfl own1 rfl R rfl (by omega) (by omega) hsz ?_; intro v3 w3 own3 hg3; have hb3 := below_grow hb2 own1 hg3 hsz; obtain ⟨a3, k3, e3, R3, -⟩ := reads_of_owns own3 (u8_wf HO.out); (rw [hN] at e3); subst e3)
  refine (fOpen_none _ (T.later hb3) R3 hN (by omega) HE.out (by decide)).mono ?_
  rintro e w4 ⟨rfl, hb4⟩
  have hz4 := below_new w4 (.cells #[.int .i64 0, .int .i64 0, .int .i64 0, .int .i64 0, .int .i64 0, .int .i64 0, .int .i64 0, .int .i64 0, .int .i64 0, .int .i64 0] 29)
  have X4 := Lies.new w4 [0, 0, 0, 0, 0, 0, 0, 0, 0, 0] 29 rfl
  obtain ⟨x00, x01, x02, x03, x04, x05, x06, x07, x08, x09⟩ := X4.ten
  go_wp2_with fail
  go_ret
  exact ⟨rfl, below_step (below_step (below_step hb1 hb3) hb4) hz4⟩
set_option maxHeartbeats 2000000 in
theorem mark_2 (x : Option Addr) (c : Nat) (s : List Int) (cc : Int) (w : World) (R : Reads .u8 w x c s) (T : Tab w) (hl : s.length ≤ 3000) (h3 : 3 ≤ s.length) (hc : (cc == 197) = false) (HO : Hid (O.Oct ([cc] ++ s))) (HE : Hid (foE ([cc] ++ s) = 2)) (hN : ([cc] ++ s).length = 1 + s.length) :
    Calls Tryd.prog 7 #[.slice x s.length c, .int .u8 cc] w fun e w' => e = .returned (.bool true) ∧ Below w.heap.size w w' := by
  have hmx := Nat.le_trans R.le R.max
  unfold maxLen at hmx
  have hB := Below.refl w.heap.size w
  go_enter Tryd.func7, Tryd.ntmps7
  go_wp2_with fail
  refine (awake_any _ T).mono ?_
  rintro e w1 ⟨rfl, hb1⟩
  replace R := R.later hb1
  replace T := T.later hb1
  have own1 := own_one w1 cc
  have hb2 := below_new w1 (.cells #[.int .u8 cc] 5)
  replace R := R.later hb2
  have hsz := hb2.size
  go_wp2_with (at_builtin; refine wpList_join rfl (.tmp 23) (.tmp 24) 30 rfl w1.heap.size 5 1 Tryd.underlying30 info8 rfl own1 rfl R rfl (by omega) (by omega) hsz ?_; intro v3 w3 own3 hg3; have hb3 := below_grow hb2 own1 hg3 hsz; obtain ⟨a3, k3, e3, R3, -⟩ := reads_of_owns own3 (u8_wf HO.out); (rw [hN] at e3); subst e3)
  refine (fOpen_none _ (T.later hb3) R3 hN (by omega) HE.out (by decide)).mono ?_
  rintro e w4 ⟨rfl, hb4⟩
  have hz4 := below_new w4 (.cells #[.int .i64 0, .int .i64 0, .int .i64 0, .int .i64 0, .int .i64 0, .int .i64 0, .int .i64 0, .int .i64 0, .int .i64 0, .int .i64 0] 29)
  have X4 := Lies.new w4 [0, 0, 0, 0, 0, 0, 0, 0, 0, 0] 29 rfl
  obtain ⟨x00, x01, x02, x03, x04, x05, x06, x07, x08, x09⟩ := X4.ten
  go_wp2_with fail
  go_ret
  exact ⟨rfl, below_step (below_step (below_step hb1 hb3) hb4) hz4⟩
theorem walk (x : Option Addr) (c : Nat) (s : List Int) (cc : Int) (wcc : (Lit.int .u8 cc).wf = true) (w : World) (R : Reads .u8 w x c s) (T : Tab w) :
    Calls Tryd.prog 7 #[.slice x s.length c, .int .u8 cc] w fun e w' => e = .returned (.bool true) ∧ Below w.heap.size w w' := by
  by_cases hl : 3000 < s.length
  · exact mark_long x c s cc w R T hl
  by_cases hc : cc = 197
  · subst hc
    exact mark_is x c s w R T (by omega)
  have hO : O.Oct ([cc] ++ s) := oct_join (by intro z hz; rw [List.mem_singleton.1 hz]; exact wf_u8 wcc) R.oct
  have hN : ([cc] ++ s).length = 1 + s.length := by rw [List.length_append]; rfl
  by_cases h3 : s.length < 3
  · exact mark_3 x c s cc w R T (by omega) h3 (by simpa using hc) hO (mark_short (b := s) h3) hN
  · exact mark_2 x c s cc w R T (by omega) (by omega) (by simpa using hc) hO (mark_other (b := s) (by omega) hc) hN

set_option maxRecDepth 100000 in
theorem lifted (os : Os) (started : os.Started) (H : Type) (enc : TypeId × Value → H) :
    ReturnsInHanded {} Tryd.checked os 7 .any (fun w args => (Rows.frameMarkSpec.pre enc Tryd.prog Tryd.f7 [] false w args ∧ laidMetH Tryd.prog [("wayfinder/msg.rows", Rows.laid_wayfinder_msg_rows)] w) ∧ sizedMet enc Tryd.prog Tryd.f7 (OpenSpec.ofChange Rows.frameMarkSpec) false w args) (Rows.frameMarkSpec.post enc Tryd.prog Tryd.f7 false true false false) := by
  refine returnsInHanded_of_change_and (C := Tryd.checked) (X := fun w _ => laidMetH Tryd.prog [("wayfinder/msg.rows", Rows.laid_wayfinder_msg_rows)] w) (fun _ _ _ hh h => h.of_heap hh) own started (by kernel_rfl) Tryd.func7
    (ChangeSpec.witness_shaped (enc := enc) (C := Tryd.checked) (os := os) (X := fun w _ => laidMetH Tryd.prog [("wayfinder/msg.rows", Rows.laid_wayfinder_msg_rows)] w) false (World.doorLaid Tryd.prog 400 os) #[.slice none 0 0, .int .u8 0] 8 rfl (World.shaped_of_RefB (by kernel_rfl) (by kernel_rfl)) (by kernel_rfl) (by kernel_rfl) (by kernel_rfl) (door_met os _)) ?_
  intro W base args ds gs before hval0 hW _ _ hL _
  have hval : ∀ (j : Nat) t v, Tryd.f7.params[j]? = some t → args[j]? = some v → Value.okWide Tryd.prog W .any base t v := hval0
  have hW' := hW
  obtain ⟨p, q, hA0, hV, rfl, hfz, hnd⟩ := hW
  have hA : DataW.TrodAll enc Tryd.prog W 0 (fun _ => true) true Tryd.f7.params.toList args.toList ds p := hA0
  rw [Tryd.params7] at hA hval
  obtain ⟨v0, vs0, d0, ds0, p0, q0, hargs, rfl, rfl, h0, r0⟩ := trodAll_cons hA
  obtain ⟨v1, vs1, d1, ds1, p1, q1, rfl, rfl, rfl, h1, r1⟩ := trodAll_cons r0
  obtain ⟨rfl, rfl, rfl⟩ := trodAll_nil r1
  obtain rfl : args = #[v0, v1] := by cases args; simp_all
  obtain ⟨rfl, rfl⟩ := trodVars_none hV
  obtain ⟨a0, n0, c0, rfl⟩ := okWide_slice Tryd.underlying30 (hval 0 30 v0 rfl rfl)
  have k0 := h0
  have lt0 : ∀ x ∈ p0, x.block < W.heap.size := by obtain ⟨m, hm⟩ := k0; exact DataW.trod_lt m _ _ _ hm
  have k1 := h1
  have lt1 : ∀ x ∈ p1, x.block < W.heap.size := by obtain ⟨m, hm⟩ := k1; exact DataW.trod_lt m _ _ _ hm
  obtain ⟨l0, el0, R0⟩ : ∃ l, n0 = List.length l ∧ Reads .u8 W a0 c0 l := by
    obtain ⟨fuel, hf⟩ := h0
    rcases open_ints Tryd.underlying30 Tryd.underlying5 (by kernel_rfl) hf with ⟨hcs, _⟩ | ⟨x, l, c, zs, hcs, _, hl, hm, hz, _, hcell, hwz⟩
    · simp [Value.cells] at hcs
      obtain ⟨rfl, rfl, rfl⟩ := hcs
      exact ⟨[], rfl, Reads.none _ _⟩
    · simp [Value.cells] at hcs
      obtain ⟨rfl, rfl, rfl⟩ := hcs
      have hz2 : List.length zs = c0 := by simpa using hz
      exact ⟨List.take _ zs, by rw [List.length_take, hz2]; omega, reads_of_ints hl hm hz2 hcell hwz⟩
  subst el0
  obtain ⟨a1, rfl, rfl, hp1, w1⟩ := open_int Tryd.underlying5 (hval 1 5 v1 rfl rfl) h1
  clear hA0 hval0
  refine (walk a0 c0 l0 a1 w1 W R0 (tab_of_laid hL)).mono fun e W' ⟨he, bel⟩ => ?_
  subst he
  exact ⟨_, rfl, _, _, _, [], _, [], hW', trodAll_mk1 (shut_bool Tryd.underlying4 _), (trodAll_cons_mk (Below.trod laidOut (by kernel_rfl) (of_decide_eq_true (by kernel_rfl)) k0 bel lt0) (trodAll_cons_mk (Below.trod laidOut (by kernel_rfl) (of_decide_eq_true (by kernel_rfl)) k1 bel lt1) trodAll_mk0)), rfl, bel.frame _, fun h => by cases h⟩

theorem over : Rows.frameMarkRow.holds Tryd.pinned (OpenSpec.ofChange Rows.frameMarkSpec) :=
  OpenClaim.holds_of_wide 7 Tryd.f7 rfl rfl rfl rfl rfl rfl rfl ⟨rfl, rfl, rfl, rfl, rfl⟩ rfl rfl rfl rfl rfl (by kernel_rfl) Tryd.func7 (by kernel_rfl)
    (of_decide_eq_true (by kernel_rfl)) (by unfold Func.isWrapper; first | (rw [if_pos (by decide +kernel)]; kernel_rfl) | (rw [if_neg (by decide +kernel)]; exact ⟨rfl, rfl⟩))
    (fun os started H enc _ => lifted os started H enc)

theorem tied : Rows.FrameMarkCardSaid :=
  Claim7.holds_tied_plain_at .later [] [.data] true (true, "89fca54d1b1c7bea9430d3263157b11312abdc1532666bb1f924839e8ae9f569") false
    over (fun _ h => by cases h) (by kernel_rfl) (fun _ h => by cases h) frameMark_row_tie rfl ⟨rfl, rfl⟩ (by kernel_rfl) rfl
    (fun f fn hf hfn => by
      obtain rfl : f = 7 := Option.some.inj ((show Tryd.prog.funcNamed Rows.frameMarkRow.func = some 7 by kernel_rfl).symm.trans hf) |>.symm
      obtain rfl : fn = Tryd.f7 := (Option.some.inj (Tryd.func7.symm.trans hfn)).symm
      exact ⟨by kernel_rfl, fun j t ht => by
        rw [Tryd.params7] at ht
        have hm : t ∈ [30, 5] := by simpa using Array.mem_of_getElem? ht
        have hall : ([30, 5].all fun u => !Tryd.prog.wantsStandIn u) = true := by kernel_rfl
        exact (show Tryd.prog.wantsStandIn t = false by simpa using List.all_eq_true.1 hall t hm)⟩)
    (by kernel_rfl)
end Go.Proofs.YtklcchmpmilcaaaDoor.frameMark
namespace Go.Proofs.YtklcchmpmilcaaaDoor
theorem frameMark_holds : Rows.FrameMarkCardSaid := frameMark.tied
#print axioms frameMark_holds
end Go.Proofs.YtklcchmpmilcaaaDoor
