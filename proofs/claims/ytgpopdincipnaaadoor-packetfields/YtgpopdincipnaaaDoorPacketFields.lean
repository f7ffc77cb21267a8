/- Proved: for all packets p and q the call PacketFields(p, q) returns true: two packets that are not the same have other bytes, and each field stands where it stands. The table of fields starts as the program lays it (the card ties it to the text). No other condition. -/
import Derived.Test.YtgpopdincipnaaaDoorPktTwo
import Derived.Test.YtgpopdincipnaaaDoorPktLaid
import Derived.Test.YtgpopdincipnaaaDoorTie
import Derived.Test.YtgpopdincipnaaaDoorCards
import Derived.SevenTiedAt
import Derived.Lib.SmallJoins
namespace Go.Proofs.YtgpopdincipnaaaDoor.packetFields
open Go.ChangeShapes Go.WideShapes Go.ChangeAt Go.RowKit O
set_option linter.unusedVariables false


set_option maxHeartbeats 2000000 in
theorem fields_bad (i s d t g i2 s2 d2 t2 g2 : Int) (hw : W5 i s d t g) (hw2 : W5 i2 s2 d2 t2 g2) (w : World) (T : Tab w) (hk : okPk i s d t g = false) :
    Calls Tryd.prog 6 #[.agg #[.int .i64 i, .int .i64 s, .int .i64 d, .int .i64 t, .int .i64 g], .agg #[.int .i64 i2, .int .i64 s2, .int .i64 d2, .int .i64 t2, .int .i64 g2]] w fun e w' => e = .returned (.bool true) ∧ Below w.heap.size w w' := by
  have hb0 := below_new w (.cells #[.int .i64 i, .int .i64 s, .int .i64 d, .int .i64 t, .int .i64 g] 23)
  have hb00 := below_new (w.alloc (.cells #[.int .i64 i, .int .i64 s, .int .i64 d, .int .i64 t, .int .i64 g] 23)) (.cells #[.int .i64 i2, .int .i64 s2, .int .i64 d2, .int .i64 t2, .int .i64 g2] 23)
  have hbs := below_step hb0 hb00
  have X0 := (Box.new w i s d t g).later hb00
  have Y0 := box_at (w.alloc (.cells #[.int .i64 i, .int .i64 s, .int .i64 d, .int .i64 t, .int .i64 g] 23)) i2 s2 d2 t2 g2 (B := w.heap.size + 1) (by simp)
  have T0 := T.later hbs
  clear hb0 hb00
  go_enter Tryd.func6, Tryd.ntmps6
  go_wp2_with (go_at_call 9; refine (awake_any _ T0).mono ?_; rintro e w1 ⟨rfl, hb1⟩; obtain ⟨_, c0, c1, c2, c3, c4, _⟩ := X0.later hb1)
  refine (pput_bad2 hk hw _ (T0.later hb1)).mono ?_
  rintro e w2 ⟨a2, k2, rfl, hb2⟩
  obtain ⟨_, qd0, qd1, qd2, qd3, qd4, _⟩ := (Y0.later hb1).later hb2
  go_wp2_with fail
  refine (pput_any i2 s2 d2 t2 g2 hw2 _ ((T0.later hb1).later hb2)).mono ?_
  rintro e w3 ⟨a3, k3, rfl, _, hb3⟩
  go_wp2_with fail
  go_ret
  exact ⟨rfl, below_step (below_step (below_step hbs hb1) hb2) hb3⟩
set_option maxHeartbeats 2000000 in
theorem fields_bad2 (i s d t g i2 s2 d2 t2 g2 : Int) (hw : W5 i s d t g) (hw2 : W5 i2 s2 d2 t2 g2) (w : World) (T : Tab w) (hk : okPk i s d t g = true) (hq : okPk i2 s2 d2 t2 g2 = false) :
    Calls Tryd.prog 6 #[.agg #[.int .i64 i, .int .i64 s, .int .i64 d, .int .i64 t, .int .i64 g], .agg #[.int .i64 i2, .int .i64 s2, .int .i64 d2, .int .i64 t2, .int .i64 g2]] w fun e w' => e = .returned (.bool true) ∧ Below w.heap.size w w' := by
  have hb0 := below_new w (.cells #[.int .i64 i, .int .i64 s, .int .i64 d, .int .i64 t, .int .i64 g] 23)
  have hb00 := below_new (w.alloc (.cells #[.int .i64 i, .int .i64 s, .int .i64 d, .int .i64 t, .int .i64 g] 23)) (.cells #[.int .i64 i2, .int .i64 s2, .int .i64 d2, .int .i64 t2, .int .i64 g2] 23)
  have hbs := below_step hb0 hb00
  have X0 := (Box.new w i s d t g).later hb00
  have Y0 := box_at (w.alloc (.cells #[.int .i64 i, .int .i64 s, .int .i64 d, .int .i64 t, .int .i64 g] 23)) i2 s2 d2 t2 g2 (B := w.heap.size + 1) (by simp)
  have T0 := T.later hbs
  clear hb0 hb00
  go_enter Tryd.func6, Tryd.ntmps6
  go_wp2_with (go_at_call 9; refine (awake_any _ T0).mono ?_; rintro e w1 ⟨rfl, hb1⟩; obtain ⟨_, c0, c1, c2, c3, c4, _⟩ := X0.later hb1)
  refine (pput_good2 hk hw _ (T0.later hb1)).mono ?_
  rintro e w2 ⟨a2, k2, rfl, _, hb2⟩
  obtain ⟨_, qd0, qd1, qd2, qd3, qd4, _⟩ := (Y0.later hb1).later hb2
  go_wp2_with fail
  refine (pput_bad2 hq hw2 _ ((T0.later hb1).later hb2)).mono ?_
  rintro e w3 ⟨a3, k3, rfl, hb3⟩
  go_wp2_with fail
  go_ret
  exact ⟨rfl, below_step (below_step (below_step hbs hb1) hb2) hb3⟩
set_option maxHeartbeats 4000000 in
theorem fields_main (i s d t g i2 s2 d2 t2 g2 : Int) (hw : W5 i s d t g) (hw2 : W5 i2 s2 d2 t2 g2) (w : World) (T : Tab w) (hk : okPk i s d t g = true) (hq : okPk i2 s2 d2 t2 g2 = true) :
    Calls Tryd.prog 6 #[.agg #[.int .i64 i, .int .i64 s, .int .i64 d, .int .i64 t, .int .i64 g], .agg #[.int .i64 i2, .int .i64 s2, .int .i64 d2, .int .i64 t2, .int .i64 g2]] w fun e w' => e = .returned (.bool true) ∧ Below w.heap.size w w' := by
  have hL := pput_len hk
  have hL2 := pput_len hq
  obtain ⟨u1, u2, u3, u4, _, _⟩ := pput_parts hk
  obtain ⟨v1, v2, v3, v4, _, _⟩ := pput_parts hq
  have b1 := okPk_of hk
  have b2 := okPk_of hq
  have z1 := body_same hk hq
  have z2 := put_same (okP_four b1.1) (okP_four b2.1)
  have z3 := put_same (okP_four b1.2.2.1) (okP_four b2.2.2.1)
  have z4 := put_same (okP_two (n := g) (by omega)) (okP_two (n := g2) (by omega))
  have l1 := body_len hk
  have l2 := body_len hq
  have l3 : (putL i 4).length = 4 := putL_len (okP_four b1.1)
  have l4 : (putL i2 4).length = 4 := putL_len (okP_four b2.1)
  have l5 : (putL d 4).length = 4 := putL_len (okP_four b1.2.2.1)
  have l6 : (putL d2 4).length = 4 := putL_len (okP_four b2.2.2.1)
  have l7 : (putL g 2).length = 2 := putL_len (okP_two (by omega))
  have l8 : (putL g2 2).length = 2 := putL_len (okP_two (by omega))
  clear b1 b2
  have heq := eq_packet i s d t g i2 s2 d2 t2 g2
  have hb0 := below_new w (.cells #[.int .i64 i, .int .i64 s, .int .i64 d, .int .i64 t, .int .i64 g] 23)
  have hb00 := below_new (w.alloc (.cells #[.int .i64 i, .int .i64 s, .int .i64 d, .int .i64 t, .int .i64 g] 23)) (.cells #[.int .i64 i2, .int .i64 s2, .int .i64 d2, .int .i64 t2, .int .i64 g2] 23)
  have hbs := below_step hb0 hb00
  have X0 := (Box.new w i s d t g).later hb00
  have Y0 := box_at (w.alloc (.cells #[.int .i64 i, .int .i64 s, .int .i64 d, .int .i64 t, .int .i64 g] 23)) i2 s2 d2 t2 g2 (B := w.heap.size + 1) (by simp)
  have T0 := T.later hbs
  clear hb0 hb00
  go_enter Tryd.func6, Tryd.ntmps6
  go_wp2_with (go_at_call 9; refine (awake_any _ T0).mono ?_; rintro e w1 ⟨rfl, hb1⟩; obtain ⟨_, c0, c1, c2, c3, c4, _⟩ := X0.later hb1)
  refine (pput_good2 hk hw _ (T0.later hb1)).mono ?_
  rintro e w2 ⟨a2, k2, rfl, R2, hb2⟩
  obtain ⟨_, qd0, qd1, qd2, qd3, qd4, _⟩ := (Y0.later hb1).later hb2
  go_wp2_with fail
  refine (pput_good2 hq hw2 _ ((T0.later hb1).later hb2)).mono ?_
  rintro e w3 ⟨a3, k3, rfl, R3, hb3⟩
  have RR := R2.later hb3
  obtain ⟨x2, y2, rfl, _, _⟩ := RR.cells (by intro h; rw [h] at hL; cases hL)
  obtain ⟨x3, y3, rfl, _, _⟩ := R3.cells (by intro h; rw [h] at hL2; cases hL2)
  have hk2 : (18 : Int) ≤ (k2 : Int) := by have := RR.le; omega
  have hk3 : (18 : Int) ≤ (k3 : Int) := by have := R3.le; omega
  have A1 := RR.take 16
  have A2 := RR.take 4
  have A3 := reads_cut RR 8 4 (by omega)
  have A4 := reads_cut RR 14 2 (by omega)
  have B1 := R3.take 16
  have B2 := R3.take 4
  have B3 := reads_cut R3 8 4 (by omega)
  have B4 := reads_cut R3 14 2 (by omega)
  rw [u1] at A1
  rw [u2] at A2
  rw [u3] at A3
  rw [u4] at A4
  rw [v1] at B1
  rw [v2] at B2
  rw [v3] at B3
  rw [v4] at B4
  have r1 := strs_at A1 l1
  have r2 := strs_at A2 l3
  have r3 := strs_at A3 l5
  have r4 := strs_at A4 l7
  have r5 := strs_at B1 l2
  have r6 := strs_at B2 l4
  have r7 := strs_at B3 l6
  have r8 := strs_at B4 l8
  obtain ⟨_, e0, e1, e2, e3, e4, _⟩ := ((X0.later hb1).later hb2).later hb3
  obtain ⟨_, f0, f1, f2, f3, f4, _⟩ := ((Y0.later hb1).later hb2).later hb3
  have hbF := below_step (below_step (below_step hbs hb1) hb2) hb3
  clear c0 c1 c2 c3 c4 qd0 qd1 qd2 qd3 qd4 A1 A2 A3 A4 B1 B2 B3 B4 u1 u2 u3 u4 v1 v2 v3 v4 l1 l2 l3 l4 l5 l6 l7 l8 R2 R3 RR hb1 hb2 hb3 X0 Y0 T0 hL hL2
  go_wp2_with fail
  go_quiet (fail)
  go_wp2_with fail
  go_ret
  exact ⟨rfl, hbF.trans (below_draws _ _ _)⟩

theorem walk (i s d t g i2 s2 d2 t2 g2 : Int) (wi : (Lit.int .i64 i).wf = true) (ws : (Lit.int .i64 s).wf = true) (wd : (Lit.int .i64 d).wf = true) (wt : (Lit.int .i64 t).wf = true) (wg : (Lit.int .i64 g).wf = true) (wi2 : (Lit.int .i64 i2).wf = true) (ws2 : (Lit.int .i64 s2).wf = true) (wd2 : (Lit.int .i64 d2).wf = true) (wt2 : (Lit.int .i64 t2).wf = true) (wg2 : (Lit.int .i64 g2).wf = true) (w : World) (T : Tab w) :
    Calls Tryd.prog 6 #[.agg #[.int .i64 i, .int .i64 s, .int .i64 d, .int .i64 t, .int .i64 g], .agg #[.int .i64 i2, .int .i64 s2, .int .i64 d2, .int .i64 t2, .int .i64 g2]] w fun e w' => e = .returned (.bool true) ∧ Below w.heap.size w w' := by
  have hw : W5 i s d t g := w5_mk wi ws wd wt wg
  have hw2 : W5 i2 s2 d2 t2 g2 := w5_mk wi2 ws2 wd2 wt2 wg2
  cases hk : okPk i s d t g
  · exact fields_bad i s d t g i2 s2 d2 t2 g2 hw hw2 w T hk
  cases hq : okPk i2 s2 d2 t2 g2
  · exact fields_bad2 i s d t g i2 s2 d2 t2 g2 hw hw2 w T hk hq
  exact fields_main i s d t g i2 s2 d2 t2 g2 hw hw2 w T hk hq

set_option maxRecDepth 100000 in
theorem lifted (os : Os) (started : os.Started) (H : Type) (enc : TypeId × Value → H) :
    ReturnsInHanded {} Tryd.checked os 6 .any (fun w args => (Rows.packetFieldsSpec.pre enc Tryd.prog Tryd.f6 [] false w args ∧ laidMetH Tryd.prog [("wayfinder/packet.fields", Rows.laid_wayfinder_packet_fields)] w) ∧ sizedMet enc Tryd.prog Tryd.f6 (OpenSpec.ofChange Rows.packetFieldsSpec) false w args) (Rows.packetFieldsSpec.post enc Tryd.prog Tryd.f6 false true false false) := by
  refine returnsInHanded_of_change_and (C := Tryd.checked) (X := fun w _ => laidMetH Tryd.prog [("wayfinder/packet.fields", Rows.laid_wayfinder_packet_fields)] w) (fun _ _ _ hh h => h.of_heap hh) own started (by kernel_rfl) Tryd.func6
    (ChangeSpec.witness_shaped (enc := enc) (C := Tryd.checked) (os := os) (X := fun w _ => laidMetH Tryd.prog [("wayfinder/packet.fields", Rows.laid_wayfinder_packet_fields)] w) false (World.doorLaid Tryd.prog 400 os) #[.agg #[.int .i64 0, .int .i64 0, .int .i64 0, .int .i64 0, .int .i64 0], .agg #[.int .i64 0, .int .i64 0, .int .i64 0, .int .i64 0, .int .i64 0]] 8 rfl (World.shaped_of_RefB (by kernel_rfl) (by kernel_rfl)) (by kernel_rfl) (by kernel_rfl) (by kernel_rfl) (door_met os _)) ?_
  intro W base args ds gs before hval0 hW _ _ hL _
  have hval : ∀ (j : Nat) t v, Tryd.f6.params[j]? = some t → args[j]? = some v → Value.okWide Tryd.prog W .any base t v := hval0
  have hW' := hW
  obtain ⟨p, q, hA0, hV, rfl, hfz, hnd⟩ := hW
  have hA : DataW.TrodAll enc Tryd.prog W 0 (fun _ => true) true Tryd.f6.params.toList args.toList ds p := hA0
  rw [Tryd.params6] at hA hval
  obtain ⟨v0, vs0, d0, ds0, p0, q0, hargs, rfl, rfl, h0, r0⟩ := trodAll_cons hA
  obtain ⟨v1, vs1, d1, ds1, p1, q1, rfl, rfl, rfl, h1, r1⟩ := trodAll_cons r0
  obtain ⟨rfl, rfl, rfl⟩ := trodAll_nil r1
  obtain rfl : args = #[v0, v1] := by cases args; simp_all
  obtain ⟨rfl, rfl⟩ := trodVars_none hV
  have k0 := h0
  have lt0 : ∀ x ∈ p0, x.block < W.heap.size := by obtain ⟨m, hm⟩ := k0; exact DataW.trod_lt m _ _ _ hm
  have k1 := h1
  have lt1 : ∀ x ∈ p1, x.block < W.heap.size := by obtain ⟨m, hm⟩ := k1; exact DataW.trod_lt m _ _ _ hm
  obtain ⟨x0a, x0b, x0c, x0d, x0e, y0a, y0b, y0c, y0d, y0e, n0, rfl, rfl, hp0, t0a, t0b, t0c, t0d, t0e⟩ := open_agg5 Tryd.underlying23 (by kernel_rfl) (by kernel_rfl) (hval 0 23 v0 rfl rfl) h0
  obtain ⟨a0, e0a, f0a, w0a⟩ := DataW.trod_int Tryd.underlying3 t0a
  obtain rfl : x0a = .int .i64 a0 := by simpa using e0a
  obtain ⟨b0, e0b, f0b, w0b⟩ := DataW.trod_int Tryd.underlying3 t0b
  obtain rfl : x0b = .int .i64 b0 := by simpa using e0b
  obtain ⟨c0, e0c, f0c, w0c⟩ := DataW.trod_int Tryd.underlying3 t0c
  obtain rfl : x0c = .int .i64 c0 := by simpa using e0c
  obtain ⟨d0, e0d, f0d, w0d⟩ := DataW.trod_int Tryd.underlying3 t0d
  obtain rfl : x0d = .int .i64 d0 := by simpa using e0d
  obtain ⟨e0, e0e, f0e, w0e⟩ := DataW.trod_int Tryd.underlying3 t0e
  obtain rfl : x0e = .int .i64 e0 := by simpa using e0e
  obtain ⟨x1a, x1b, x1c, x1d, x1e, y1a, y1b, y1c, y1d, y1e, n1, rfl, rfl, hp1, t1a, t1b, t1c, t1d, t1e⟩ := open_agg5 Tryd.underlying23 (by kernel_rfl) (by kernel_rfl) (hval 1 23 v1 rfl rfl) h1
  obtain ⟨a1, e1a, f1a, w1a⟩ := DataW.trod_int Tryd.underlying3 t1a
  obtain rfl : x1a = .int .i64 a1 := by simpa using e1a
  obtain ⟨b1, e1b, f1b, w1b⟩ := DataW.trod_int Tryd.underlying3 t1b
  obtain rfl : x1b = .int .i64 b1 := by simpa using e1b
  obtain ⟨c1, e1c, f1c, w1c⟩ := DataW.trod_int Tryd.underlying3 t1c
  obtain rfl : x1c = .int .i64 c1 := by simpa using e1c
  obtain ⟨d1, e1d, f1d, w1d⟩ := DataW.trod_int Tryd.underlying3 t1d
  obtain rfl : x1d = .int .i64 d1 := by simpa using e1d
  obtain ⟨e1, e1e, f1e, w1e⟩ := DataW.trod_int Tryd.underlying3 t1e
  obtain rfl : x1e = .int .i64 e1 := by simpa using e1e
  clear hA0 hval0
  refine (walk a0 b0 c0 d0 e0 a1 b1 c1 d1 e1 w0a w0b w0c w0d w0e w1a w1b w1c w1d w1e W (tab_of_laid hL)).mono fun e W' ⟨he, bel⟩ => ?_
  subst he
  exact ⟨_, rfl, _, _, _, [], _, [], hW', trodAll_mk1 (shut_bool Tryd.underlying4 _), (trodAll_cons_mk (Below.trod laidOut (by kernel_rfl) (of_decide_eq_true (by kernel_rfl)) k0 bel lt0) (trodAll_cons_mk (Below.trod laidOut (by kernel_rfl) (of_decide_eq_true (by kernel_rfl)) k1 bel lt1) trodAll_mk0)), rfl, bel.frame _, fun h => by cases h⟩

theorem over : Rows.packetFieldsRow.holds Tryd.pinned (OpenSpec.ofChange Rows.packetFieldsSpec) :=
  OpenClaim.holds_of_wide 6 Tryd.f6 rfl rfl rfl rfl rfl rfl rfl ⟨rfl, rfl, rfl, rfl, rfl⟩ rfl rfl rfl rfl rfl (by kernel_rfl) Tryd.func6 (by kernel_rfl)
    (of_decide_eq_true (by kernel_rfl)) (by unfold Func.isWrapper; first | (rw [if_pos (by decide +kernel)]; kernel_rfl) | (rw [if_neg (by decide +kernel)]; exact ⟨rfl, rfl⟩))
    (fun os started H enc _ => lifted os started H enc)

theorem tied : Rows.PacketFieldsCardSaid :=
  Claim7.holds_tied_plain_at .later [] [.data] true (true, "46527ee65b5e7be070ea704f30c9d9712f2079c6a769904d475dbcddb3d50cd1") false
    over (fun _ h => by cases h) (by kernel_rfl) (fun _ h => by cases h) packetFields_row_tie rfl ⟨rfl, rfl⟩ (by kernel_rfl) rfl
    (fun f fn hf hfn => by
      obtain rfl : f = 6 := Option.some.inj ((show Tryd.prog.funcNamed Rows.packetFieldsRow.func = some 6 by kernel_rfl).symm.trans hf) |>.symm
      obtain rfl : fn = Tryd.f6 := (Option.some.inj (Tryd.func6.symm.trans hfn)).symm
      exact ⟨by kernel_rfl, fun j t ht => by
        rw [Tryd.params6] at ht
        have hm : t ∈ [23, 23] := by simpa using Array.mem_of_getElem? ht
        have hall : ([23, 23].all fun u => !Tryd.prog.wantsStandIn u) = true := by kernel_rfl
        exact (show Tryd.prog.wantsStandIn t = false by simpa using List.all_eq_true.1 hall t hm)⟩)
    (by kernel_rfl)
end Go.Proofs.YtgpopdincipnaaaDoor.packetFields
namespace Go.Proofs.YtgpopdincipnaaaDoor
theorem packetFields_holds : Rows.PacketFieldsCardSaid := packetFields.tied
#print axioms packetFields_holds
end Go.Proofs.YtgpopdincipnaaaDoor
