/- Proved: for every packet p, every int at and every byte mask the call PacketSpoilt(p, at, mask) returns true: one byte of the bytes of a packet that is another one, one more, and fewer, are none. The table of fields starts as the program lays it (the card ties it to the text). No other condition. -/
import Derived.Test.YtgpopdincipnaaaDoorPktMore
import Derived.Test.YtgpopdincipnaaaDoorPktLaid
import Derived.Test.YtgpopdincipnaaaDoorTie
import Derived.Test.YtgpopdincipnaaaDoorCards
import Derived.SevenTiedAt
import Derived.Lib.SmallJoins
namespace Go.Proofs.YtgpopdincipnaaaDoor.packetSpoilt
open Go.ChangeShapes Go.WideShapes Go.ChangeAt Go.RowKit O
set_option linter.unusedVariables false


set_option maxHeartbeats 2000000 in
theorem spoilt_bad (i s d t g q m : Int) (hw : W5 i s d t g) (w : World) (T : Tab w) (hk : okPk i s d t g = false) :
    Calls Tryd.prog 5 #[.agg #[.int .i64 i, .int .i64 s, .int .i64 d, .int .i64 t, .int .i64 g], .int .i64 q, .int .u8 m] w fun e w' => e = .returned (.bool true) ∧ Below w.heap.size w w' := by
  have hb0 := below_new w (.cells #[.int .i64 i, .int .i64 s, .int .i64 d, .int .i64 t, .int .i64 g] 23)
  have X0 := Box.new w i s d t g
  have T0 := T.later hb0
  go_enter Tryd.func5, Tryd.ntmps5
  go_wp2_with (go_at_call 9; refine (awake_any _ T0).mono ?_; rintro e w1 ⟨rfl, hb1⟩; obtain ⟨_, c0, c1, c2, c3, c4, _⟩ := X0.later hb1)
  refine (pput_bad hk hw _ (T0.later hb1)).mono ?_
  rintro e w2 ⟨a2, k2, rfl, hb2⟩
  go_wp2_with fail
  go_ret
  exact ⟨rfl, below_step (below_step hb0 hb1) hb2⟩
set_option maxHeartbeats 2000000 in
theorem spoilt_out (i s d t g q m : Int) (hw : W5 i s d t g) (w : World) (T : Tab w) (hk : okPk i s d t g = true) (h : q < 0 ∨ (0 ≤ q ∧ 18 ≤ q) ∨ (0 ≤ q ∧ q < 18 ∧ m = 0)) :
    Calls Tryd.prog 5 #[.agg #[.int .i64 i, .int .i64 s, .int .i64 d, .int .i64 t, .int .i64 g], .int .i64 q, .int .u8 m] w fun e w' => e = .returned (.bool true) ∧ Below w.heap.size w w' := by
  have hb0 := below_new w (.cells #[.int .i64 i, .int .i64 s, .int .i64 d, .int .i64 t, .int .i64 g] 23)
  have X0 := Box.new w i s d t g
  have T0 := T.later hb0
  rcases h with h | ⟨h, h1⟩ | ⟨h, h1, rfl⟩
  all_goals
    go_enter Tryd.func5, Tryd.ntmps5
    go_wp2_with (go_at_call 9; refine (awake_any _ T0).mono ?_; rintro e w1 ⟨rfl, hb1⟩; obtain ⟨_, c0, c1, c2, c3, c4, _⟩ := X0.later hb1)
    refine (pput_good hk hw _ (T0.later hb1)).mono ?_
    rintro e w2 ⟨a2, k2, rfl, R2, hb2⟩
    go_wp2_with fail
    go_ret
    exact ⟨rfl, below_step (below_step hb0 hb1) hb2⟩
set_option maxHeartbeats 4000000 in
theorem spoilt_main (i s d t g m x : Int) (q : Nat) (hw : W5 i s d t g) (w : World) (T : Tab w) (hk : okPk i s d t g = true) (hq : q < 18) (m0 : 0 ≤ m) (m1 : m ≤ 255) (hm : (m == 0) = false)
    (HX : Hid ((pputL i s d t g)[q]? = some x)) (HO2 : Oct ((pputL i s d t g).set q (bits .xor .u8 x m))) (HS : Hid (pgE ((pputL i s d t g).set q (bits .xor .u8 x m)) = 4)) :
    Calls Tryd.prog 5 #[.agg #[.int .i64 i, .int .i64 s, .int .i64 d, .int .i64 t, .int .i64 g], .int .i64 q, .int .u8 m] w fun e w' => e = .returned (.bool true) ∧ Below w.heap.size w w' := by
  have hb0 := below_new w (.cells #[.int .i64 i, .int .i64 s, .int .i64 d, .int .i64 t, .int .i64 g] 23)
  have X0 := Box.new w i s d t g
  have T0 := T.later hb0
  have hL := pput_len hk
  have hO := pput_oct i s d t g
  have hq1 : (q : Int) < 18 := by omega
  have HL2 : ((pputL i s d t g).set q (bits .xor .u8 x m)).length = 18 := by rw [List.length_set, hL]
  have HL3 : ((pputL i s d t g).take q).length = q := by rw [List.length_take, hL]; omega
  have HL4 : (pputL i s d t g ++ [m]).length = 19 := by rw [List.length_append, hL]; rfl
  have HO4 : Oct (pputL i s d t g ++ [m]) := oct_append hO (by intro z hz; simp at hz; subst hz; exact ⟨m0, m1⟩)
  have HP3 : Hid (pgE ((pputL i s d t g).take q) = 3) := pgE_short (by omega)
  have HP4 : Hid (pgE (pputL i s d t g ++ [m]) = 2) := pgE_long (by omega)
  go_enter Tryd.func5, Tryd.ntmps5
  go_wp2_with (go_at_call 9; refine (awake_any _ T0).mono ?_; rintro e w1 ⟨rfl, hb1⟩; obtain ⟨_, c0, c1, c2, c3, c4, _⟩ := X0.later hb1)
  refine (pput_good hk hw _ (T0.later hb1)).mono ?_
  rintro e w2 ⟨a2, k2, rfl, R2, hb2⟩
  have hbw2 := below_step (below_step hb0 hb1) hb2
  have T2 := T.later hbw2
  have hk2 : (18 : Int) ≤ (k2 : Int) := by have := R2.le; omega
  obtain ⟨b2, o2, rfl, _, _⟩ := R2.cells (by intro h; rw [h] at hL; cases hL)
  clear c0 c1 c2 c3 c4 X0 T0 hb0 hb1 hb2 T
  go_wp2_with (at_builtin; refine wpList_join rfl (.const (.slice none 0 0)) (.tmp 44) 24 rfl w2.heap.size 5 1 Tryd.underlying24 info8 (v := .slice none 0 0) (n := 0) (ys := []) rfl (World.ownsRow_nil _ _ _ _) rfl R2 hL (by omega) (by omega) (Nat.le_refl _) ?_; intro v3 w3 own3 hg3; obtain ⟨gb, cap, rfl, hg0, hglt⟩ := own3.form (by omega); (simp only [Nat.zero_add, List.nil_append] at own3); have hcq := own_cell own3 (by omega) HX.out; have hfq := own3.frozenAt q)
  have S4 := (own3.stored q (.int .u8 (bits .xor .u8 x m))).1
  rw [← List.map_set] at S4
  obtain ⟨R4, hn4⟩ := reads_own S4 (u8_wf HO2)
  have hb3 : Below w2.heap.size w2 (w3.setCell ⟨gb, q, none⟩ (.int .u8 (bits .xor .u8 x m))) := (below_fresh (B := w2.heap.size) hg3 (Nat.le_refl _)).setCell hg0 _
  refine (pget_none _ R4 hn4 (by omega) (T2.later hb3) HS.out (by decide)).mono ?_
  rintro e w5 ⟨rfl, hb5⟩
  have hz5 := below_new w5 (.cells #[.int .i64 0, .int .i64 0, .int .i64 0, .int .i64 0, .int .i64 0] 23)
  have hb25 := below_step (below_step hb3 hb5) hz5
  have T5 := T2.later hb25
  have R5 := R2.later hb25
  clear hcq hfq S4 R4 hn4 own3 hg3 hb3 hb5 hz5
  go_wp2_with fail
  refine (pget_none _ (R5.take q) HL3 (by omega) T5 HP3.out (by decide)).mono ?_
  rintro e w6 ⟨rfl, hb6⟩
  have hz6 := below_new w6 (.cells #[.int .i64 0, .int .i64 0, .int .i64 0, .int .i64 0, .int .i64 0] 23)
  have hb26 := below_step (below_step hb25 hb6) hz6
  have T6 := T2.later hb26
  have R6 := R2.later hb26
  clear T5 R5 hb25 hb6 hz6
  go_wp2_with (first | (at_builtin; refine wpList_join rfl (.const (.slice none 0 0)) (.tmp 68) 24 rfl (w6.alloc (.cells #[.int .i64 0, .int .i64 0, .int .i64 0, .int .i64 0, .int .i64 0] 23)).heap.size 5 1 Tryd.underlying24 info8 (v := .slice none 0 0) (n := 0) (ys := []) rfl (World.ownsRow_nil _ _ _ _) rfl R6 hL (by omega) (by omega) (Nat.le_refl _) ?_; intro v7 w7 own7 hg7; (simp only [Nat.zero_add, List.nil_append] at own7); have hb7 := below_fresh (B := (w6.alloc (.cells #[.int .i64 0, .int .i64 0, .int .i64 0, .int .i64 0, .int .i64 0] 23)).heap.size) hg7 (Nat.le_refl _)) | (at_builtin; refine wpList_one _ m 5 rfl rfl (.tmp 69) (.tmp 71) 24 rfl _ 1 Tryd.underlying24 info8 rfl own7 rfl (by omega) (by omega) hb7.size ?_; intro v8 w8 own8 hg8; have hb8 := below_grow (below_step hb7 (below_new w7 (.cells #[.int .u8 m] 5))) (own7.alloc _) hg8 (Nat.le_trans hb7.size (below_new w7 (.cells #[.int .u8 m] 5)).size); obtain ⟨a8, k8, rfl, R8, hn8⟩ := reads_of_owns own8 (u8_wf HO4)))
  refine (pget_none _ R8 HL4 (by omega) (T6.later hb8) HP4.out (by decide)).mono ?_
  rintro e w9 ⟨rfl, hb9⟩
  go_wp2_with fail
  go_ret
  exact ⟨rfl, below_step (below_step (below_step (below_step hbw2 hb26) hb8) hb9) (below_new w9 _)⟩

theorem walk (i s d t g q m : Int) (wi : (Lit.int .i64 i).wf = true) (ws : (Lit.int .i64 s).wf = true) (wd : (Lit.int .i64 d).wf = true) (wt : (Lit.int .i64 t).wf = true) (wg : (Lit.int .i64 g).wf = true) (wq : (Lit.int .i64 q).wf = true) (wm : (Lit.int .u8 m).wf = true) (w : World) (T : Tab w) :
    Calls Tryd.prog 5 #[.agg #[.int .i64 i, .int .i64 s, .int .i64 d, .int .i64 t, .int .i64 g], .int .i64 q, .int .u8 m] w fun e w' => e = .returned (.bool true) ∧ Below w.heap.size w w' := by
  have hw : W5 i s d t g := w5_mk wi ws wd wt wg
  obtain ⟨m0, m1⟩ := wf_u8 wm
  cases hk : okPk i s d t g
  · exact spoilt_bad i s d t g q m hw w T hk
  by_cases h : q < 0 ∨ (0 ≤ q ∧ 18 ≤ q) ∨ (0 ≤ q ∧ q < 18 ∧ m = 0)
  · exact spoilt_out i s d t g q m hw w T hk h
  have h5 : m ≠ 0 := by omega
  obtain ⟨q, rfl⟩ : ∃ n : Nat, q = n := ⟨q.toNat, by omega⟩
  have hq : q < 18 := by omega
  have HO := pput_oct i s d t g
  have hL := pput_len hk
  have hs : sumN (pputL i s d t g) = 0 := (pgE_zero (put_got hk).1).2.1
  have hxb := HO.at q
  obtain ⟨x0, x1, x2⟩ := xor_other hxb.1 hxb.2 m0 m1 h5
  exact spoilt_main i s d t g m ((pputL i s d t g).getD q 0) q hw w T hk hq m0 m1 (by simpa using h5) (getD_some (by omega) rfl) (oct_set HO x0 x1)
    (pgE_sum (by rw [List.length_set, hL]) (sum_changed HO hs (by omega) x0 x1 x2))

set_option maxRecDepth 100000 in
theorem lifted (os : Os) (started : os.Started) (H : Type) (enc : TypeId × Value → H) :
    ReturnsInHanded {} Tryd.checked os 5 .any (fun w args => (Rows.packetSpoiltSpec.pre enc Tryd.prog Tryd.f5 [] false w args ∧ laidMetH Tryd.prog [("wayfinder/packet.fields", Rows.laid_wayfinder_packet_fields)] w) ∧ sizedMet enc Tryd.prog Tryd.f5 (OpenSpec.ofChange Rows.packetSpoiltSpec) false w args) (Rows.packetSpoiltSpec.post enc Tryd.prog Tryd.f5 false true false false) := by
  refine returnsInHanded_of_change_and (C := Tryd.checked) (X := fun w _ => laidMetH Tryd.prog [("wayfinder/packet.fields", Rows.laid_wayfinder_packet_fields)] w) (fun _ _ _ hh h => h.of_heap hh) own started (by kernel_rfl) Tryd.func5
    (ChangeSpec.witness_shaped (enc := enc) (C := Tryd.checked) (os := os) (X := fun w _ => laidMetH Tryd.prog [("wayfinder/packet.fields", Rows.laid_wayfinder_packet_fields)] w) false (World.doorLaid Tryd.prog 400 os) #[.agg #[.int .i64 0, .int .i64 0, .int .i64 0, .int .i64 0, .int .i64 0], .int .i64 0, .int .u8 0] 8 rfl (World.shaped_of_RefB (by kernel_rfl) (by kernel_rfl)) (by kernel_rfl) (by kernel_rfl) (by kernel_rfl) (door_met os _)) ?_
  intro W base args ds gs before hval0 hW _ _ hL _
  have hval : ∀ (j : Nat) t v, Tryd.f5.params[j]? = some t → args[j]? = some v → Value.okWide Tryd.prog W .any base t v := hval0
  have hW' := hW
  obtain ⟨p, q, hA0, hV, rfl, hfz, hnd⟩ := hW
  have hA : DataW.TrodAll enc Tryd.prog W 0 (fun _ => true) true Tryd.f5.params.toList args.toList ds p := hA0
  rw [Tryd.params5] at hA hval
  obtain ⟨v0, vs0, d0, ds0, p0, q0, hargs, rfl, rfl, h0, r0⟩ := trodAll_cons hA
  obtain ⟨v1, vs1, d1, ds1, p1, q1, rfl, rfl, rfl, h1, r1⟩ := trodAll_cons r0
  obtain ⟨v2, vs2, d2, ds2, p2, q2, rfl, rfl, rfl, h2, r2⟩ := trodAll_cons r1
  obtain ⟨rfl, rfl, rfl⟩ := trodAll_nil r2
  obtain rfl : args = #[v0, v1, v2] := by cases args; simp_all
  obtain ⟨rfl, rfl⟩ := trodVars_none hV
  have k0 := h0
  have lt0 : ∀ x ∈ p0, x.block < W.heap.size := by obtain ⟨m, hm⟩ := k0; exact DataW.trod_lt m _ _ _ hm
  have k1 := h1
  have lt1 : ∀ x ∈ p1, x.block < W.heap.size := by obtain ⟨m, hm⟩ := k1; exact DataW.trod_lt m _ _ _ hm
  have k2 := h2
  have lt2 : ∀ x ∈ p2, x.block < W.heap.size := by obtain ⟨m, hm⟩ := k2; exact DataW.trod_lt m _ _ _ hm
  obtain ⟨x0a, x0b, x0c, x0d, x0e, y0a, y0b, y0c, y0d, y0e, n0, rfl, rfl, hp0, t0a, t0b, t0c, t0d, t0e⟩ := open_agg5 Tryd.underlying23 (by kernel_rfl) (by kernel_rfl) (hval 0 23 v0 rfl rfl) h0
  obtain ⟨a0, e0a, f0a, w0a⟩ := DataW.trod_int Tryd.underlying3 t0a
  obtain rfl : x0a = .int .i64 a0 := by simpa using e0a
  obtain ⟨b0, e0b, f0b, w0b⟩ := DataW.trod_int Tryd.underlying3 t0b
  obtain rfl : x0b = .int .i64 b0 := by simpa using e0b
  obtain ⟨c0, e0c, f0c, w0c⟩ := DataW.trod_int Tryd.underlying3 t0c
  obtain rfl : x0c = .int .i64 c0 := by simpa using e0c
  obtain ⟨d0, e0d, f0d, w0d⟩ := DataW.trod_int Tryd.underlying3 t0d
  obtain rfl : x0d = .int .i64 d0 := by simpa using e0d
  obtain ⟨e0, e0e, f0e, w0e⟩ := DataW.trod_int Tryd.underlying3 t0e
  obtain rfl : x0e = .int .i64 e0 := by simpa using e0e
  obtain ⟨a1, rfl, rfl, hp1, w1⟩ := open_int Tryd.underlying3 (hval 1 3 v1 rfl rfl) h1
  obtain ⟨a2, rfl, rfl, hp2, w2⟩ := open_int Tryd.underlying5 (hval 2 5 v2 rfl rfl) h2
  clear hA0 hval0
  refine (walk a0 b0 c0 d0 e0 a1 a2 w0a w0b w0c w0d w0e w1 w2 W (tab_of_laid hL)).mono fun e W' ⟨he, bel⟩ => ?_
  subst he
  exact ⟨_, rfl, _, _, _, [], _, [], hW', trodAll_mk1 (shut_bool Tryd.underlying4 _), (trodAll_cons_mk (Below.trod laidOut (by kernel_rfl) (of_decide_eq_true (by kernel_rfl)) k0 bel lt0) (trodAll_cons_mk (Below.trod laidOut (by kernel_rfl) (of_decide_eq_true (by kernel_rfl)) k1 bel lt1) (trodAll_cons_mk (Below.trod laidOut (by kernel_rfl) (of_decide_eq_true (by kernel_rfl)) k2 bel lt2) trodAll_mk0))), rfl, bel.frame _, fun h => by cases h⟩

theorem over : Rows.packetSpoiltRow.holds Tryd.pinned (OpenSpec.ofChange Rows.packetSpoiltSpec) :=
  OpenClaim.holds_of_wide 5 Tryd.f5 rfl rfl rfl rfl rfl rfl rfl ⟨rfl, rfl, rfl, rfl, rfl⟩ rfl rfl rfl rfl rfl (by kernel_rfl) Tryd.func5 (by kernel_rfl)
    (of_decide_eq_true (by kernel_rfl)) (by unfold Func.isWrapper; first | (rw [if_pos (by decide +kernel)]; kernel_rfl) | (rw [if_neg (by decide +kernel)]; exact ⟨rfl, rfl⟩))
    (fun os started H enc _ => lifted os started H enc)

theorem tied : Rows.PacketSpoiltCardSaid :=
  Claim7.holds_tied_plain_at .later [] [.data] true (true, "46527ee65b5e7be070ea704f30c9d9712f2079c6a769904d475dbcddb3d50cd1") false
    over (fun _ h => by cases h) (by kernel_rfl) (fun _ h => by cases h) packetSpoilt_row_tie rfl ⟨rfl, rfl⟩ (by kernel_rfl) rfl
    (fun f fn hf hfn => by
      obtain rfl : f = 5 := Option.some.inj ((show Tryd.prog.funcNamed Rows.packetSpoiltRow.func = some 5 by kernel_rfl).symm.trans hf) |>.symm
      obtain rfl : fn = Tryd.f5 := (Option.some.inj (Tryd.func5.symm.trans hfn)).symm
      exact ⟨by kernel_rfl, fun j t ht => by
        rw [Tryd.params5] at ht
        have hm : t ∈ [23, 3, 5] := by simpa using Array.mem_of_getElem? ht
        have hall : ([23, 3, 5].all fun u => !Tryd.prog.wantsStandIn u) = true := by kernel_rfl
        exact (show Tryd.prog.wantsStandIn t = false by simpa using List.all_eq_true.1 hall t hm)⟩)
    (by kernel_rfl)
end Go.Proofs.YtgpopdincipnaaaDoor.packetSpoilt
namespace Go.Proofs.YtgpopdincipnaaaDoor
theorem packetSpoilt_holds : Rows.PacketSpoiltCardSaid := packetSpoilt.tied
#print axioms packetSpoilt_holds
end Go.Proofs.YtgpopdincipnaaaDoor
