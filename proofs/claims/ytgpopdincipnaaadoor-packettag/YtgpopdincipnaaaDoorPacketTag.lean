/- Proved: for every packet p and every int tag the call PacketTag(p, tag) returns true: two packets that have other tags alone have other checksums. The table of fields starts as the program lays it (the card ties it to the text). No other condition. -/
import Derived.Test.YtgpopdincipnaaaDoorPktTwo
import Derived.Test.YtgpopdincipnaaaDoorPktLaid
import Derived.Test.YtgpopdincipnaaaDoorTie
import Derived.Test.YtgpopdincipnaaaDoorCards
import Derived.SevenTiedAt
import Derived.Lib.SmallJoins
namespace Go.Proofs.YtgpopdincipnaaaDoor.packetTag
open Go.ChangeShapes Go.WideShapes Go.ChangeAt Go.RowKit O
set_option linter.unusedVariables false


set_option maxHeartbeats 2000000 in
theorem tag_bad (i s d t g u : Int) (hw : W5 i s d t g) (hw2 : W5 i s d t u) (w : World) (T : Tab w) (hk : okPk i s d t g = false) :
    Calls Tryd.prog 8 #[.agg #[.int .i64 i, .int .i64 s, .int .i64 d, .int .i64 t, .int .i64 g], .int .i64 u] w fun e w' => e = .returned (.bool true) ∧ Below w.heap.size w w' := by
  have hb0 := below_new w (.cells #[.int .i64 i, .int .i64 s, .int .i64 d, .int .i64 t, .int .i64 g] 23)
  have X0 := Box.new w i s d t g
  have T0 := T.later hb0
  go_enter Tryd.func8, Tryd.ntmps8
  go_wp2_with (go_at_call 9; refine (awake_any _ T0).mono ?_; rintro e w1 ⟨rfl, hb1⟩; obtain ⟨_, c0, c1, c2, c3, c4, _⟩ := X0.later hb1)
  have hbt := below_new w1 (.cells #[.int .i64 i, .int .i64 s, .int .i64 d, .int .i64 t, .int .i64 u] 23)
  have hb1t := below_step hb1 hbt
  have X1 := X0.later hb1t
  have Y1 := Box.new w1 i s d t u
  have T1 := T0.later hb1t
  obtain ⟨_, e0, e1, e2, e3, e4, _⟩ := id X1
  refine (pput_bad2 hk hw _ T1).mono ?_
  rintro e w2 ⟨a2, k2, rfl, hb2⟩
  obtain ⟨_, f0, f1, f2, f3, f4, _⟩ := Y1.later hb2
  go_wp2_with fail
  refine (pput_any i s d t u hw2 _ (T1.later hb2)).mono ?_
  rintro e w3 ⟨a3, k3, rfl, _, hb3⟩
  go_wp2_with fail
  go_ret
  exact ⟨rfl, below_step (below_step (below_step hb0 hb1t) hb2) hb3⟩
set_option maxHeartbeats 2000000 in
theorem tag_bad2 (i s d t g u : Int) (hw : W5 i s d t g) (hw2 : W5 i s d t u) (w : World) (T : Tab w) (hk : okPk i s d t g = true) (hq : okPk i s d t u = false) :
    Calls Tryd.prog 8 #[.agg #[.int .i64 i, .int .i64 s, .int .i64 d, .int .i64 t, .int .i64 g], .int .i64 u] w fun e w' => e = .returned (.bool true) ∧ Below w.heap.size w w' := by
  have hb0 := below_new w (.cells #[.int .i64 i, .int .i64 s, .int .i64 d, .int .i64 t, .int .i64 g] 23)
  have X0 := Box.new w i s d t g
  have T0 := T.later hb0
  go_enter Tryd.func8, Tryd.ntmps8
  go_wp2_with (go_at_call 9; refine (awake_any _ T0).mono ?_; rintro e w1 ⟨rfl, hb1⟩; obtain ⟨_, c0, c1, c2, c3, c4, _⟩ := X0.later hb1)
  have hbt := below_new w1 (.cells #[.int .i64 i, .int .i64 s, .int .i64 d, .int .i64 t, .int .i64 u] 23)
  have hb1t := below_step hb1 hbt
  have X1 := X0.later hb1t
  have Y1 := Box.new w1 i s d t u
  have T1 := T0.later hb1t
  obtain ⟨_, e0, e1, e2, e3, e4, _⟩ := id X1
  refine (pput_good2 hk hw _ T1).mono ?_
  rintro e w2 ⟨a2, k2, rfl, _, hb2⟩
  obtain ⟨_, f0, f1, f2, f3, f4, _⟩ := Y1.later hb2
  go_wp2_with fail
  refine (pput_bad2 hq hw2 _ (T1.later hb2)).mono ?_
  rintro e w3 ⟨a3, k3, rfl, hb3⟩
  go_wp2_with fail
  go_ret
  exact ⟨rfl, below_step (below_step (below_step hb0 hb1t) hb2) hb3⟩
set_option maxHeartbeats 2000000 in
theorem tag_main (i s d t g u : Int) (hw : W5 i s d t g) (hw2 : W5 i s d t u) (w : World) (T : Tab w) (hk : okPk i s d t g = true) (hq : okPk i s d t u = true) :
    Calls Tryd.prog 8 #[.agg #[.int .i64 i, .int .i64 s, .int .i64 d, .int .i64 t, .int .i64 g], .int .i64 u] w fun e w' => e = .returned (.bool true) ∧ Below w.heap.size w w' := by
  have hL := pput_len hk
  have hL2 := pput_len hq
  obtain ⟨_, _, _, _, u5, u6⟩ := pput_parts hk
  obtain ⟨_, _, _, _, v5, v6⟩ := pput_parts hq
  have z6 := tag_same hk hq
  have l5 : (putL i 4 ++ (putL s 4 ++ (putL d 4 ++ putL t 2))).length = 14 := by rw [← u5, List.length_take, hL]; rfl
  have l6 : (putL (sumN (bodyL i s d t g)) 2).length = 2 := putL_len (ok_sum (body_oct _ _ _ _ _))
  have l7 : (putL (sumN (bodyL i s d t u)) 2).length = 2 := putL_len (ok_sum (body_oct _ _ _ _ _))
  have hb0 := below_new w (.cells #[.int .i64 i, .int .i64 s, .int .i64 d, .int .i64 t, .int .i64 g] 23)
  have X0 := Box.new w i s d t g
  have T0 := T.later hb0
  go_enter Tryd.func8, Tryd.ntmps8
  go_wp2_with (go_at_call 9; refine (awake_any _ T0).mono ?_; rintro e w1 ⟨rfl, hb1⟩; obtain ⟨_, c0, c1, c2, c3, c4, _⟩ := X0.later hb1)
  have hbt := below_new w1 (.cells #[.int .i64 i, .int .i64 s, .int .i64 d, .int .i64 t, .int .i64 u] 23)
  have hb1t := below_step hb1 hbt
  have X1 := X0.later hb1t
  have Y1 := Box.new w1 i s d t u
  have T1 := T0.later hb1t
  obtain ⟨_, e0, e1, e2, e3, e4, _⟩ := id X1
  refine (pput_good2 hk hw _ T1).mono ?_
  rintro e w2 ⟨a2, k2, rfl, R2, hb2⟩
  obtain ⟨_, f0, f1, f2, f3, f4, _⟩ := Y1.later hb2
  go_wp2_with fail
  refine (pput_good2 hq hw2 _ (T1.later hb2)).mono ?_
  rintro e w3 ⟨a3, k3, rfl, R3, hb3⟩
  have RR := R2.later hb3
  obtain ⟨x2, y2, rfl, _, _⟩ := RR.cells (by intro h; rw [h] at hL; cases hL)
  obtain ⟨x3, y3, rfl, _, _⟩ := R3.cells (by intro h; rw [h] at hL2; cases hL2)
  have hk2 : (18 : Int) ≤ (k2 : Int) := by have := RR.le; omega
  have hk3 : (18 : Int) ≤ (k3 : Int) := by have := R3.le; omega
  have A1 := RR.take 14
  have A2 := reads_from RR 16 (by omega)
  have B1 := R3.take 14
  have B2 := reads_from R3 16 (by omega)
  have hc2 : ¬ k2 = 16 := by omega
  have hc3 : ¬ k3 = 16 := by omega
  rw [u5] at A1
  rw [u6] at A2
  rw [v5] at B1
  rw [v6] at B2
  have r1 := strs_at A1 l5
  have r2 := strs_at A2 l6
  have r3 := strs_at B1 l5
  have r4 := strs_at B2 l7
  obtain ⟨_, g0, g1, g2, g3, g4, _⟩ := (X1.later hb2).later hb3
  have hbF := below_step (below_step (below_step hb0 hb1t) hb2) hb3
  clear c0 c1 c2 c3 c4 e0 e1 e2 e3 e4 f0 f1 f2 f3 f4 A1 A2 B1 B2 u5 u6 v5 v6 l5 l6 l7 R2 R3 RR hb1 hb2 hb3 X0 X1 Y1 T0 T1 hL hL2 hb1t hbt
  go_wp2_with fail
  go_quiet (fail)
  go_wp2_with fail
  go_ret
  exact ⟨rfl, hbF.trans (below_draws _ _ _)⟩

theorem walk (i s d t g u : Int) (wi : (Lit.int .i64 i).wf = true) (ws : (Lit.int .i64 s).wf = true) (wd : (Lit.int .i64 d).wf = true) (wt : (Lit.int .i64 t).wf = true) (wg : (Lit.int .i64 g).wf = true) (wu : (Lit.int .i64 u).wf = true) (w : World) (T : Tab w) :
    Calls Tryd.prog 8 #[.agg #[.int .i64 i, .int .i64 s, .int .i64 d, .int .i64 t, .int .i64 g], .int .i64 u] w fun e w' => e = .returned (.bool true) ∧ Below w.heap.size w w' := by
  have hw : W5 i s d t g := w5_mk wi ws wd wt wg
  have hw2 : W5 i s d t u := w5_mk wi ws wd wt wu
  cases hk : okPk i s d t g
  · exact tag_bad i s d t g u hw hw2 w T hk
  cases hq : okPk i s d t u
  · exact tag_bad2 i s d t g u hw hw2 w T hk hq
  exact tag_main i s d t g u hw hw2 w T hk hq

set_option maxRecDepth 100000 in
theorem lifted (os : Os) (started : os.Started) (H : Type) (enc : TypeId × Value → H) :
    ReturnsInHanded {} Tryd.checked os 8 .any (fun w args => (Rows.packetTagSpec.pre enc Tryd.prog Tryd.f8 [] false w args ∧ laidMetH Tryd.prog [("wayfinder/packet.fields", Rows.laid_wayfinder_packet_fields)] w) ∧ sizedMet enc Tryd.prog Tryd.f8 (OpenSpec.ofChange Rows.packetTagSpec) false w args) (Rows.packetTagSpec.post enc Tryd.prog Tryd.f8 false true false false) := by
  refine returnsInHanded_of_change_and (C := Tryd.checked) (X := fun w _ => laidMetH Tryd.prog [("wayfinder/packet.fields", Rows.laid_wayfinder_packet_fields)] w) (fun _ _ _ hh h => h.of_heap hh) own started (by kernel_rfl) Tryd.func8
    (ChangeSpec.witness_shaped (enc := enc) (C := Tryd.checked) (os := os) (X := fun w _ => laidMetH Tryd.prog [("wayfinder/packet.fields", Rows.laid_wayfinder_packet_fields)] w) false (World.doorLaid Tryd.prog 400 os) #[.agg #[.int .i64 0, .int .i64 0, .int .i64 0, .int .i64 0, .int .i64 0], .int .i64 0] 8 rfl (World.shaped_of_RefB (by kernel_rfl) (by kernel_rfl)) (by kernel_rfl) (by kernel_rfl) (by kernel_rfl) (door_met os _)) ?_
  intro W base args ds gs before hval0 hW _ _ hL _
  have hval : ∀ (j : Nat) t v, Tryd.f8.params[j]? = some t → args[j]? = some v → Value.okWide Tryd.prog W .any base t v := hval0
  have hW' := hW
  obtain ⟨p, q, hA0, hV, rfl, hfz, hnd⟩ := hW
  have hA : DataW.TrodAll enc Tryd.prog W 0 (fun _ => true) true Tryd.f8.params.toList args.toList ds p := hA0
  rw [Tryd.params8] at hA hval
  obtain ⟨v0, vs0, d0, ds0, p0, q0, hargs, rfl, rfl, h0, r0⟩ := trodAll_cons hA
  obtain ⟨v1, vs1, d1, ds1, p1, q1, rfl, rfl, rfl, h1, r1⟩ := trodAll_cons r0
  obtain ⟨rfl, rfl, rfl⟩ := trodAll_nil r1
  obtain rfl : args = #[v0, v1] := by cases args; simp_all
  obtain ⟨rfl, rfl⟩ := trodVars_none hV
  have k0 := h0
  have lt0 : ∀ x ∈ p0, x.block < W.heap.size := by obtain ⟨m, hm⟩ := k0; exact DataW.trod_lt m _ _ _ hm
  have k1 := h1
  have lt1 : ∀ x ∈ p1, x.block < W.heap.size := by obtain ⟨m, hm⟩ := k1; exact DataW.trod_lt m _ _ _ hm
  obtain ⟨x0a, x0b, x0c, x0d, x0e, y0a, y0b, y0c, y0d, y0e, n0, rfl, rfl, hp0, t0a, t0b, t0c, t0d, t0e⟩ := open_agg5 Tryd.underlying23 (by kernel_rfl) (by kernel_rfl) (hval 0 23 v0 rfl rfl) h0
  obtain ⟨a0, e0a, f0a, w0a⟩ := DataW.trod_int Tryd.underlying3 t0a
  obtain rfl : x0a = .int .i64 a0 := by simpa using e0a
  obtain ⟨b0, e0b, f0b, w0b⟩ := DataW.trod_int Tryd.underlying3 t0b
  obtain rfl : x0b = .int .i64 b0 := by simpa using e0b
  obtain ⟨c0, e0c, f0c, w0c⟩ := DataW.trod_int Tryd.underlying3 t0c
  obtain rfl : x0c = .int .i64 c0 := by simpa using e0c
  obtain ⟨d0, e0d, f0d, w0d⟩ := DataW.trod_int Tryd.underlying3 t0d
  obtain rfl : x0d = .int .i64 d0 := by simpa using e0d
  obtain ⟨e0, e0e, f0e, w0e⟩ := DataW.trod_int Tryd.underlying3 t0e
  obtain rfl : x0e = .int .i64 e0 := by simpa using e0e
  obtain ⟨a1, rfl, rfl, hp1, w1⟩ := open_int Tryd.underlying3 (hval 1 3 v1 rfl rfl) h1
  clear hA0 hval0
  refine (walk a0 b0 c0 d0 e0 a1 w0a w0b w0c w0d w0e w1 W (tab_of_laid hL)).mono fun e W' ⟨he, bel⟩ => ?_
  subst he
  exact ⟨_, rfl, _, _, _, [], _, [], hW', trodAll_mk1 (shut_bool Tryd.underlying4 _), (trodAll_cons_mk (Below.trod laidOut (by kernel_rfl) (of_decide_eq_true (by kernel_rfl)) k0 bel lt0) (trodAll_cons_mk (Below.trod laidOut (by kernel_rfl) (of_decide_eq_true (by kernel_rfl)) k1 bel lt1) trodAll_mk0)), rfl, bel.frame _, fun h => by cases h⟩

theorem over : Rows.packetTagRow.holds Tryd.pinned (OpenSpec.ofChange Rows.packetTagSpec) :=
  OpenClaim.holds_of_wide 8 Tryd.f8 rfl rfl rfl rfl rfl rfl rfl ⟨rfl, rfl, rfl, rfl, rfl⟩ rfl rfl rfl rfl rfl (by kernel_rfl) Tryd.func8 (by kernel_rfl)
    (of_decide_eq_true (by kernel_rfl)) (by unfold Func.isWrapper; first | (rw [if_pos (by decide +kernel)]; kernel_rfl) | (rw [if_neg (by decide +kernel)]; exact ⟨rfl, rfl⟩))
    (fun os started H enc _ => lifted os started H enc)

theorem tied : Rows.PacketTagCardSaid :=
  Claim7.holds_tied_plain_at .later [] [.data] true (true, "46527ee65b5e7be070ea704f30c9d9712f2079c6a769904d475dbcddb3d50cd1") false
    over (fun _ h => by cases h) (by kernel_rfl) (fun _ h => by cases h) packetTag_row_tie rfl ⟨rfl, rfl⟩ (by kernel_rfl) rfl
    (fun f fn hf hfn => by
      obtain rfl : f = 8 := Option.some.inj ((show Tryd.prog.funcNamed Rows.packetTagRow.func = some 8 by kernel_rfl).symm.trans hf) |>.symm
      obtain rfl : fn = Tryd.f8 := (Option.some.inj (Tryd.func8.symm.trans hfn)).symm
      exact ⟨by kernel_rfl, fun j t ht => by
        rw [Tryd.params8] at ht
        have hm : t ∈ [23, 3] := by simpa using Array.mem_of_getElem? ht
        have hall : ([23, 3].all fun u => !Tryd.prog.wantsStandIn u) = true := by kernel_rfl
        exact (show Tryd.prog.wantsStandIn t = false by simpa using List.all_eq_true.1 hall t hm)⟩)
    (by kernel_rfl)
end Go.Proofs.YtgpopdincipnaaaDoor.packetTag
namespace Go.Proofs.YtgpopdincipnaaaDoor
theorem packetTag_holds : Rows.PacketTagCardSaid := packetTag.tied
#print axioms packetTag_holds
end Go.Proofs.YtgpopdincipnaaaDoor
