/- Proved: for every packet p and all bytes b the call PacketTells(p, b) returns true and leaves b as it was: May, Put and Get answer as the document says (of more than 3000 bytes nothing is asked). The table of fields starts as the program lays it (the card ties it to the text). No other condition. -/
import Derived.Test.YtgpopdincipnaaaDoorPktAwake
import Derived.Test.YtgpopdincipnaaaDoorPktLaid
import Derived.Test.YtgpopdincipnaaaDoorPktRefs
import Derived.Test.YtgpopdincipnaaaDoorTie
import Derived.Test.YtgpopdincipnaaaDoorCards
import Derived.SevenTiedAt
import Derived.Lib.SmallJoins
namespace Go.Proofs.YtgpopdincipnaaaDoor.packetTells
open Go.ChangeShapes Go.WideShapes Go.ChangeAt Go.RowKit O
set_option linter.unusedVariables false


set_option maxHeartbeats 2000000 in
theorem walk (i s d t g : Int) (a : Option Addr) (c : Nat) (l : List Int) (wi : (Lit.int .i64 i).wf = true) (ws : (Lit.int .i64 s).wf = true) (wd : (Lit.int .i64 d).wf = true) (wt : (Lit.int .i64 t).wf = true) (wg : (Lit.int .i64 g).wf = true) (w : World) (R : Reads .u8 w a c l) (T : Tab w) :
    Calls Tryd.prog 3 #[.agg #[.int .i64 i, .int .i64 s, .int .i64 d, .int .i64 t, .int .i64 g], .slice a l.length c] w fun e w' => e = .returned (.bool true) ∧ Below w.heap.size w w' := by
  have hw : W5 i s d t g := w5_mk wi ws wd wt wg
  clear wi ws wd wt wg
  have hb0 := below_new w (.cells #[.int .i64 i, .int .i64 s, .int .i64 d, .int .i64 t, .int .i64 g] 23)
  have X0 := Box.new w i s d t g
  have T0 := T.later hb0
  have hmx := Nat.le_trans R.le R.max
  unfold maxLen at hmx
  by_cases hl : 3000 < l.length
  · go_enter Tryd.func3, Tryd.ntmps3
    go_wp2_with (go_at_call 9; refine (awake_any _ T0).mono ?_; rintro e w1 ⟨rfl, hb1⟩)
    go_ret
    exact ⟨rfl, below_step hb0 hb1⟩
  · have hl2 : l.length ≤ 100000 := by omega
    go_enter Tryd.func3, Tryd.ntmps3
    go_wp2_with (go_at_call 9; refine (awake_any _ T0).mono ?_; rintro e w1 ⟨rfl, hb1⟩; obtain ⟨_, c0, c1, c2, c3, c4, _⟩ := X0.later hb1)
    refine (pput_any i s d t g hw _ (T0.later hb1)).mono ?_
    rintro e w2 ⟨a2, k2, rfl, R2, hb2⟩
    obtain ⟨_, d0, d1, d2, d3, d4, _⟩ := (X0.later hb1).later hb2
    go_wp2_with fail
    refine (rpput_any i s d t g hw _).mono ?_
    rintro e w3 ⟨a3, k3, rfl, R3, hb3⟩
    have hbw3 := below_step (below_step (below_step hb0 hb1) hb2) hb3
    have RR3 := R.later hbw3
    have T3 := T.later hbw3
    have X3 := ((X0.later hb1).later hb2).later hb3
    have x3 := R2.later hb3
    clear c0 c1 c2 c3 c4 d0 d1 d2 d3 d4 R2 hb0 hb1 hb2 hb3 X0 T0
    go_wp2_with fail
    refine (pget_any _ RR3 hl2 T3).mono ?_
    rintro e w4 ⟨rfl, hb4⟩
    have n0 : ∃ z, z = pgF l 0 4 := ⟨_, rfl⟩
    obtain ⟨f0, h0⟩ := n0
    obtain ⟨f1, h1⟩ : ∃ z, z = pgF l 4 4 := ⟨_, rfl⟩
    obtain ⟨f2, h2⟩ : ∃ z, z = pgF l 8 4 := ⟨_, rfl⟩
    obtain ⟨f3, h3⟩ : ∃ z, z = pgF l 12 2 := ⟨_, rfl⟩
    obtain ⟨f4, h4⟩ : ∃ z, z = pgF l 14 2 := ⟨_, rfl⟩
    have hb5 := below_new w4 (.cells #[.int .i64 f0, .int .i64 f1, .int .i64 f2, .int .i64 f3, .int .i64 f4] 23)
    have hb45 := below_step hb4 hb5
    have cG := rpget_any (w4.alloc (.cells #[.int .i64 f0, .int .i64 f1, .int .i64 f2, .int .i64 f3, .int .i64 f4] 23)) (RR3.later hb45) hl2
    rw [← h0, ← h1, ← h2, ← h3, ← h4] at cG ⊢
    clear h0 h1 h2 h3 h4
    have Q5 := Box.new w4 f0 f1 f2 f3 f4
    go_wp2_with fail
    refine cG.mono ?_
    rintro e w6 ⟨rfl, hb6⟩
    have hb7 := below_new w6 (.cells #[.int .i64 f0, .int .i64 f1, .int .i64 f2, .int .i64 f3, .int .i64 f4] 23)
    have V7 := Box.new w6 f0 f1 f2 f3 f4
    have hb67 := below_step hb6 hb7
    have Q7 := Q5.later hb67
    have hb37 := below_step hb45 hb67
    have X7 := X3.later hb37
    obtain ⟨_, c0, c1, c2, c3, c4, _⟩ := id X7
    have hbw7 := below_step hbw3 hb37
    go_wp2_with fail
    refine (rmay_any i s d t g _).mono ?_
    rintro e w8 ⟨rfl, hb8⟩
    have hb38 := below_step hb37 hb8
    have s1 := run_str (x3.later hb38)
    have s2 := run_str (R3.later hb38)
    have T8 := T3.later hb38
    obtain ⟨_, p0, p1, p2, p3, p4, _⟩ := X7.later hb8
    obtain ⟨_, q0, q1, q2, q3, q4, _⟩ := Q7.later hb8
    obtain ⟨_, v0, v1, v2, v3, v4, _⟩ := V7.later hb8
    have hbw8 := below_step hbw7 hb8
    clear c0 c1 c2 c3 c4 Q5 V7 Q7 X7 hb37 hb67 hb45 hb4 hb5 hb6 hb7 hb8 hb38
    go_wp2_with (go_at_call 15; refine (may_any i s d t g hw _ T8).mono ?_; rintro e w9 ⟨rfl, hb9⟩)
    go_ret
    exact ⟨rfl, below_step hbw8 hb9⟩

set_option maxRecDepth 100000 in
theorem lifted (os : Os) (started : os.Started) (H : Type) (enc : TypeId × Value → H) :
    ReturnsInHanded {} Tryd.checked os 3 .any (fun w args => (Rows.packetTellsSpec.pre enc Tryd.prog Tryd.f3 [] false w args ∧ laidMetH Tryd.prog [("wayfinder/packet.fields", Rows.laid_wayfinder_packet_fields)] w) ∧ sizedMet enc Tryd.prog Tryd.f3 (OpenSpec.ofChange Rows.packetTellsSpec) false w args) (Rows.packetTellsSpec.post enc Tryd.prog Tryd.f3 false true false false) := by
  refine returnsInHanded_of_change_and (C := Tryd.checked) (X := fun w _ => laidMetH Tryd.prog [("wayfinder/packet.fields", Rows.laid_wayfinder_packet_fields)] w) (fun _ _ _ hh h => h.of_heap hh) own started (by kernel_rfl) Tryd.func3
    (ChangeSpec.witness_shaped (enc := enc) (C := Tryd.checked) (os := os) (X := fun w _ => laidMetH Tryd.prog [("wayfinder/packet.fields", Rows.laid_wayfinder_packet_fields)] w) false (World.doorLaid Tryd.prog 400 os) #[.agg #[.int .i64 0, .int .i64 0, .int .i64 0, .int .i64 0, .int .i64 0], .slice none 0 0] 8 rfl (World.shaped_of_RefB (by kernel_rfl) (by kernel_rfl)) (by kernel_rfl) (by kernel_rfl) (by kernel_rfl) (door_met os _)) ?_
  intro W base args ds gs before hval0 hW _ _ hL _
  have hval : ∀ (j : Nat) t v, Tryd.f3.params[j]? = some t → args[j]? = some v → Value.okWide Tryd.prog W .any base t v := hval0
  have hW' := hW
  obtain ⟨p, q, hA0, hV, rfl, hfz, hnd⟩ := hW
  have hA : DataW.TrodAll enc Tryd.prog W 0 (fun _ => true) true Tryd.f3.params.toList args.toList ds p := hA0
  rw [Tryd.params3] at hA hval
  obtain ⟨v0, vs0, d0, ds0, p0, q0, hargs, rfl, rfl, h0, r0⟩ := trodAll_cons hA
  obtain ⟨v1, vs1, d1, ds1, p1, q1, rfl, rfl, rfl, h1, r1⟩ := trodAll_cons r0
  obtain ⟨rfl, rfl, rfl⟩ := trodAll_nil r1
  obtain rfl : args = #[v0, v1] := by cases args; simp_all
  obtain ⟨rfl, rfl⟩ := trodVars_none hV
  have k0 := h0
  have lt0 : ∀ x ∈ p0, x.block < W.heap.size := by obtain ⟨m, hm⟩ := k0; exact DataW.trod_lt m _ _ _ hm
  obtain ⟨a1, n1, c1, rfl⟩ := okWide_slice Tryd.underlying24 (hval 1 24 v1 rfl rfl)
  have k1 := h1
  have lt1 : ∀ x ∈ p1, x.block < W.heap.size := by obtain ⟨m, hm⟩ := k1; exact DataW.trod_lt m _ _ _ hm
  obtain ⟨x0a, x0b, x0c, x0d, x0e, y0a, y0b, y0c, y0d, y0e, n0, rfl, rfl, hp0, t0a, t0b, t0c, t0d, t0e⟩ := open_agg5 Tryd.underlying23 (by kernel_rfl) (by kernel_rfl) (hval 0 23 v0 rfl rfl) h0
  obtain ⟨a0, e0a, f0a, w0a⟩ := DataW.trod_int Tryd.underlying3 t0a
  obtain rfl : x0a = .int .i64 a0 := by simpa using e0a
  obtain ⟨b0, e0b, f0b, w0b⟩ := DataW.trod_int Tryd.underlying3 t0b
  obtain rfl : x0b = .int .i64 b0 := by simpa using e0b
  obtain ⟨c0, e0c, f0c, w0c⟩ := DataW.trod_int Tryd.underlying3 t0c
  obtain rfl : x0c = .int .i64 c0 := by simpa using e0c
  obtain ⟨d0, e0d, f0d, w0d⟩ := DataW.trod_int Tryd.underlying3 t0d
  obtain rfl : x0d = .int .i64 d0 := by simpa using e0d
  obtain ⟨e0, e0e, f0e, w0e⟩ := DataW.trod_int Tryd.underlying3 t0e
  obtain rfl : x0e = .int .i64 e0 := by simpa using e0e
  obtain ⟨l1, el1, R1⟩ : ∃ l, n1 = List.length l ∧ Reads .u8 W a1 c1 l := by
    obtain ⟨fuel, hf⟩ := h1
    rcases open_ints Tryd.underlying24 Tryd.underlying5 (by kernel_rfl) hf with ⟨hcs, _⟩ | ⟨x, l, c, zs, hcs, _, hl, hm, hz, _, hcell, hwz⟩
    · simp [Value.cells] at hcs
      obtain ⟨rfl, rfl, rfl⟩ := hcs
      exact ⟨[], rfl, Reads.none _ _⟩
    · simp [Value.cells] at hcs
      obtain ⟨rfl, rfl, rfl⟩ := hcs
      have hz2 : List.length zs = c1 := by simpa using hz
      exact ⟨List.take _ zs, by rw [List.length_take, hz2]; omega, reads_of_ints hl hm hz2 hcell hwz⟩
  subst el1
  clear hA0 hval0
  refine (walk a0 b0 c0 d0 e0 a1 c1 l1 w0a w0b w0c w0d w0e W R1 (tab_of_laid hL)).mono fun e W' ⟨he, bel⟩ => ?_
  subst he
  exact ⟨_, rfl, _, _, _, [], _, [], hW', trodAll_mk1 (shut_bool Tryd.underlying4 _), (trodAll_cons_mk (Below.trod laidOut (by kernel_rfl) (of_decide_eq_true (by kernel_rfl)) k0 bel lt0) (trodAll_cons_mk (Below.trod laidOut (by kernel_rfl) (of_decide_eq_true (by kernel_rfl)) k1 bel lt1) trodAll_mk0)), rfl, bel.frame _, fun h => by cases h⟩

theorem over : Rows.packetTellsRow.holds Tryd.pinned (OpenSpec.ofChange Rows.packetTellsSpec) :=
  OpenClaim.holds_of_wide 3 Tryd.f3 rfl rfl rfl rfl rfl rfl rfl ⟨rfl, rfl, rfl, rfl, rfl⟩ rfl rfl rfl rfl rfl (by kernel_rfl) Tryd.func3 (by kernel_rfl)
    (of_decide_eq_true (by kernel_rfl)) (by unfold Func.isWrapper; first | (rw [if_pos (by decide +kernel)]; kernel_rfl) | (rw [if_neg (by decide +kernel)]; exact ⟨rfl, rfl⟩))
    (fun os started H enc _ => lifted os started H enc)

theorem tied : Rows.PacketTellsCardSaid :=
  Claim7.holds_tied_plain_at .later [] [.data] true (true, "46527ee65b5e7be070ea704f30c9d9712f2079c6a769904d475dbcddb3d50cd1") false
    over (fun _ h => by cases h) (by kernel_rfl) (fun _ h => by cases h) packetTells_row_tie rfl ⟨rfl, rfl⟩ (by kernel_rfl) rfl
    (fun f fn hf hfn => by
      obtain rfl : f = 3 := Option.some.inj ((show Tryd.prog.funcNamed Rows.packetTellsRow.func = some 3 by kernel_rfl).symm.trans hf) |>.symm
      obtain rfl : fn = Tryd.f3 := (Option.some.inj (Tryd.func3.symm.trans hfn)).symm
      exact ⟨by kernel_rfl, fun j t ht => by
        rw [Tryd.params3] at ht
        have hm : t ∈ [23, 24] := by simpa using Array.mem_of_getElem? ht
        have hall : ([23, 24].all fun u => !Tryd.prog.wantsStandIn u) = true := by kernel_rfl
        exact (show Tryd.prog.wantsStandIn t = false by simpa using List.all_eq_true.1 hall t hm)⟩)
    (by kernel_rfl)
end Go.Proofs.YtgpopdincipnaaaDoor.packetTells
namespace Go.Proofs.YtgpopdincipnaaaDoor
theorem packetTells_holds : Rows.PacketTellsCardSaid := packetTells.tied
#print axioms packetTells_holds
end Go.Proofs.YtgpopdincipnaaaDoor
