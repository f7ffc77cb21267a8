/- Proved: for all lists of numbers l and widths and all bytes rest the call OctetsBack(l, widths, rest) returns true and leaves the three as they were: what is put is got, whatever stands behind it, and what is got is put as these bytes (of more than 200 numbers or 3000 bytes nothing is asked). No condition. -/
import Derived.Test.YthclgoohhpdgkaaOctAwake
import Derived.Test.YthclgoohhpdgkaaOctSums
import Derived.Test.YthclgoohhpdgkaaOctAllRefs
import Derived.Lib.SmallJoins
namespace Go.Proofs.Ythclgoohhpdgkaa.octetsBack
open Go.ChangeShapes Go.WideShapes Go.ChangeAt Go.RowKit O
set_option linter.unusedVariables false


set_option maxHeartbeats 2000000 in
theorem walk (a1 : Option Addr) (c1 : Nat) (l : List Int) (a2 : Option Addr) (c2 : Nat) (ms : List Int) (a3 : Option Addr) (c3 : Nat) (b : List Int) (w : World) (R1 : Reads .i64 w a1 c1 l) (R2 : Reads .i64 w a2 c2 ms) (R3 : Reads .u8 w a3 c3 b) :
    Calls Try.prog 5 #[.slice a1 l.length c1, .slice a2 ms.length c2, .slice a3 b.length c3] w fun e w' => e = .returned (.bool true) ∧ Below w.heap.size w w' := by
  have m1 := Nat.le_trans R1.le R1.max
  have m2 := Nat.le_trans R2.le R2.max
  have m3 := Nat.le_trans R3.le R3.max
  have m4 := R3.max
  unfold maxLen at m1 m2 m3 m4
  by_cases hl1 : 200 < l.length
  · go_enter Try.func5, Try.ntmps5
    go_wp2_with (go_at_call 9; refine (awake_any _).mono ?_; rintro e w1 ⟨rfl, hb1⟩)
    go_ret
    exact ⟨rfl, hb1⟩
  by_cases hl2 : 200 < ms.length
  · go_enter Try.func5, Try.ntmps5
    go_wp2_with (go_at_call 9; refine (awake_any _).mono ?_; rintro e w1 ⟨rfl, hb1⟩)
    go_ret
    exact ⟨rfl, hb1⟩
  by_cases hl3 : 3000 < b.length
  · go_enter Try.func5, Try.ntmps5
    go_wp2_with (go_at_call 9; refine (awake_any _).mono ?_; rintro e w1 ⟨rfl, hb1⟩)
    go_ret
    exact ⟨rfl, hb1⟩
  have hpl := pallL_len l ms
  have hgl := gallL_len b ms
  rcases pall_vals l ms with e1 | e1
  · obtain ⟨g1, g2, g3⟩ := all_back e1 b
    rcases gaE_vals b ms with q1 | q1 | q1
    · obtain ⟨q2, q3⟩ := ga_end q1
      obtain ⟨p1, p2⟩ := got_back R3.oct q1
      have hk := gaK_le q1
      have hk1 : (gaK ms : Int) ≤ (b.length : Int) := by omega
      have hkt : (b.take (gaK ms)).length = gaK ms := by simp; omega
      go_enter Try.func5, Try.ntmps5
      go_wp2_with (go_at_call 9; refine (awake_any _).mono ?_; rintro e w1 ⟨rfl, hb1⟩)
      refine (putAll_any _ (R1.later hb1) (R2.later hb1) (by omega)).mono ?_
      rintro e w2 ⟨a4, c4, rfl, X4, hb2⟩
      have B2 := below_step hb1 hb2
      have R32 := R3.later B2
      go_wp2_with (first | (at_builtin; refine wpList_join rfl (.const (.slice none 0 0)) (.tmp 47) 22 rfl w.heap.size 5 1 Try.underlying22 info8 (v := .slice none 0 0) (n := 0) (ys := []) rfl (World.ownsRow_nil _ _ _ _) rfl X4 rfl (by omega) (by omega) B2.size ?_; intro v3 w3 hown3 hgrow3; have hb3 := below_fresh (B := w2.heap.size) hgrow3 (Nat.le_refl _); have R33 := R32.later hb3; have z3 := Nat.le_trans B2.size hb3.size) | (at_builtin; refine wpList_join rfl (.tmp 48) (.tmp 49) 22 rfl w.heap.size 5 1 Try.underlying22 info8 rfl hown3 rfl R33 rfl (by omega) (by omega) z3 ?_; intro v4 w4 hown4 hgrow4; have B4 := below_grow (below_step B2 hb3) hown3 hgrow4 z3; (simp only [List.nil_append] at hown4); obtain ⟨a6, c6, rfl, X6, hn6⟩ := reads_of_owns hown4 (u8_wf (oct_append (pallL_oct l ms) R3.oct))))
      refine (getAll_at _ X6 (R2.later B4) (by simp) rfl (by omega) (by simp; omega)).mono ?_
      rintro e w5 ⟨a7, c7, rfl, X7, hb5⟩
      have B5 := below_step B4 hb5
      rw [g2] at X7
      go_wp2_with fail
      refine (ints_any _ (R1.later B5) X7 (by omega)).mono ?_
      rintro e w6 ⟨rfl, hb6⟩
      have B6 := below_step B5 hb6
      go_wp2_with fail
      refine (getAll_any _ (R3.later B6) (R2.later B6) (by omega) (by omega)).mono ?_
      rintro e w8 ⟨a8, c8, rfl, X8, hb8⟩
      have B8 := below_step B6 hb8
      rw [q2] at X8
      go_wp2_with fail
      refine (putAll_at _ X8 (R2.later B8) rfl rfl (by rw [gaL_len]; omega)).mono ?_
      rintro e w9 ⟨a9, c9, rfl, X9, hb9⟩
      have B9 := below_step B8 hb9
      rw [p2] at X9
      have hk0 : (0 : Int) ≤ (gaK ms : Int) := by omega
      have hkc : (gaK ms : Int) ≤ (c3 : Int) := by have := R3.le; omega
      by_cases hbe : b = []
      · subst hbe
        have hz : gaK ms = 0 := by simpa using hk
        have hs := run_empty w9
        go_wp2_with fail
        go_quiet (fail)
        go_wp2_with fail
        go_ret
        exact ⟨rfl, B9.trans (below_draws _ _ _)⟩
      · have hs1 := run_strs X9
        have hs2 := run_strs ((R3.later B9).take (gaK ms))
        rw [hkt] at hs1 hs2
        obtain ⟨bb, oo, rfl, _, _⟩ := R3.cells hbe
        go_wp2_with fail
        go_quiet (fail)
        go_wp2_with fail
        go_ret
        exact ⟨rfl, B9.trans (below_draws _ _ _)⟩
    · obtain ⟨q2, q3⟩ := ga_bad (b := b) (ms := ms) (by rw [q1]; decide)
      go_enter Try.func5, Try.ntmps5
      go_wp2_with (go_at_call 9; refine (awake_any _).mono ?_; rintro e w1 ⟨rfl, hb1⟩)
      refine (putAll_any _ (R1.later hb1) (R2.later hb1) (by omega)).mono ?_
      rintro e w2 ⟨a4, c4, rfl, X4, hb2⟩
      have B2 := below_step hb1 hb2
      have R32 := R3.later B2
      go_wp2_with (first | (at_builtin; refine wpList_join rfl (.const (.slice none 0 0)) (.tmp 47) 22 rfl w.heap.size 5 1 Try.underlying22 info8 (v := .slice none 0 0) (n := 0) (ys := []) rfl (World.ownsRow_nil _ _ _ _) rfl X4 rfl (by omega) (by omega) B2.size ?_; intro v3 w3 hown3 hgrow3; have hb3 := below_fresh (B := w2.heap.size) hgrow3 (Nat.le_refl _); have R33 := R32.later hb3; have z3 := Nat.le_trans B2.size hb3.size) | (at_builtin; refine wpList_join rfl (.tmp 48) (.tmp 49) 22 rfl w.heap.size 5 1 Try.underlying22 info8 rfl hown3 rfl R33 rfl (by omega) (by omega) z3 ?_; intro v4 w4 hown4 hgrow4; have B4 := below_grow (below_step B2 hb3) hown3 hgrow4 z3; (simp only [List.nil_append] at hown4); obtain ⟨a6, c6, rfl, X6, hn6⟩ := reads_of_owns hown4 (u8_wf (oct_append (pallL_oct l ms) R3.oct))))
      refine (getAll_at _ X6 (R2.later B4) (by simp) rfl (by omega) (by simp; omega)).mono ?_
      rintro e w5 ⟨a7, c7, rfl, X7, hb5⟩
      have B5 := below_step B4 hb5
      rw [g2] at X7
      go_wp2_with fail
      refine (ints_any _ (R1.later B5) X7 (by omega)).mono ?_
      rintro e w6 ⟨rfl, hb6⟩
      have B6 := below_step B5 hb6
      go_wp2_with fail
      refine (getAll_any _ (R3.later B6) (R2.later B6) (by omega) (by omega)).mono ?_
      rintro e w8 ⟨a8, c8, rfl, X8, hb8⟩
      have B8 := below_step B6 hb8
      go_wp2_with fail
      go_ret
      exact ⟨rfl, B8⟩
    · obtain ⟨q2, q3⟩ := ga_bad (b := b) (ms := ms) (by rw [q1]; decide)
      go_enter Try.func5, Try.ntmps5
      go_wp2_with (go_at_call 9; refine (awake_any _).mono ?_; rintro e w1 ⟨rfl, hb1⟩)
      refine (putAll_any _ (R1.later hb1) (R2.later hb1) (by omega)).mono ?_
      rintro e w2 ⟨a4, c4, rfl, X4, hb2⟩
      have B2 := below_step hb1 hb2
      have R32 := R3.later B2
      go_wp2_with (first | (at_builtin; refine wpList_join rfl (.const (.slice none 0 0)) (.tmp 47) 22 rfl w.heap.size 5 1 Try.underlying22 info8 (v := .slice none 0 0) (n := 0) (ys := []) rfl (World.ownsRow_nil _ _ _ _) rfl X4 rfl (by omega) (by omega) B2.size ?_; intro v3 w3 hown3 hgrow3; have hb3 := below_fresh (B := w2.heap.size) hgrow3 (Nat.le_refl _); have R33 := R32.later hb3; have z3 := Nat.le_trans B2.size hb3.size) | (at_builtin; refine wpList_join rfl (.tmp 48) (.tmp 49) 22 rfl w.heap.size 5 1 Try.underlying22 info8 rfl hown3 rfl R33 rfl (by omega) (by omega) z3 ?_; intro v4 w4 hown4 hgrow4; have B4 := below_grow (below_step B2 hb3) hown3 hgrow4 z3; (simp only [List.nil_append] at hown4); obtain ⟨a6, c6, rfl, X6, hn6⟩ := reads_of_owns hown4 (u8_wf (oct_append (pallL_oct l ms) R3.oct))))
      refine (getAll_at _ X6 (R2.later B4) (by simp) rfl (by omega) (by simp; omega)).mono ?_
      rintro e w5 ⟨a7, c7, rfl, X7, hb5⟩
      have B5 := below_step B4 hb5
      rw [g2] at X7
      go_wp2_with fail
      refine (ints_any _ (R1.later B5) X7 (by omega)).mono ?_
      rintro e w6 ⟨rfl, hb6⟩
      have B6 := below_step B5 hb6
      go_wp2_with fail
      refine (getAll_any _ (R3.later B6) (R2.later B6) (by omega) (by omega)).mono ?_
      rintro e w8 ⟨a8, c8, rfl, X8, hb8⟩
      have B8 := below_step B6 hb8
      go_wp2_with fail
      go_ret
      exact ⟨rfl, B8⟩
  · rcases gaE_vals b ms with q1 | q1 | q1
    · obtain ⟨q2, q3⟩ := ga_end q1
      obtain ⟨p1, p2⟩ := got_back R3.oct q1
      have hk := gaK_le q1
      have hk1 : (gaK ms : Int) ≤ (b.length : Int) := by omega
      have hkt : (b.take (gaK ms)).length = gaK ms := by simp; omega
      go_enter Try.func5, Try.ntmps5
      go_wp2_with (go_at_call 9; refine (awake_any _).mono ?_; rintro e w1 ⟨rfl, hb1⟩)
      refine (putAll_any _ (R1.later hb1) (R2.later hb1) (by omega)).mono ?_
      rintro e w6 ⟨a4, c4, rfl, X4, hb2⟩
      have B6 := below_step hb1 hb2
      go_wp2_with fail
      refine (getAll_any _ (R3.later B6) (R2.later B6) (by omega) (by omega)).mono ?_
      rintro e w8 ⟨a8, c8, rfl, X8, hb8⟩
      have B8 := below_step B6 hb8
      rw [q2] at X8
      go_wp2_with fail
      refine (putAll_at _ X8 (R2.later B8) rfl rfl (by rw [gaL_len]; omega)).mono ?_
      rintro e w9 ⟨a9, c9, rfl, X9, hb9⟩
      have B9 := below_step B8 hb9
      rw [p2] at X9
      have hk0 : (0 : Int) ≤ (gaK ms : Int) := by omega
      have hkc : (gaK ms : Int) ≤ (c3 : Int) := by have := R3.le; omega
      by_cases hbe : b = []
      · subst hbe
        have hz : gaK ms = 0 := by simpa using hk
        have hs := run_empty w9
        go_wp2_with fail
        go_quiet (fail)
        go_wp2_with fail
        go_ret
        exact ⟨rfl, B9.trans (below_draws _ _ _)⟩
      · have hs1 := run_strs X9
        have hs2 := run_strs ((R3.later B9).take (gaK ms))
        rw [hkt] at hs1 hs2
        obtain ⟨bb, oo, rfl, _, _⟩ := R3.cells hbe
        go_wp2_with fail
        go_quiet (fail)
        go_wp2_with fail
        go_ret
        exact ⟨rfl, B9.trans (below_draws _ _ _)⟩
    · obtain ⟨q2, q3⟩ := ga_bad (b := b) (ms := ms) (by rw [q1]; decide)
      go_enter Try.func5, Try.ntmps5
      go_wp2_with (go_at_call 9; refine (awake_any _).mono ?_; rintro e w1 ⟨rfl, hb1⟩)
      refine (putAll_any _ (R1.later hb1) (R2.later hb1) (by omega)).mono ?_
      rintro e w6 ⟨a4, c4, rfl, X4, hb2⟩
      have B6 := below_step hb1 hb2
      go_wp2_with fail
      refine (getAll_any _ (R3.later B6) (R2.later B6) (by omega) (by omega)).mono ?_
      rintro e w8 ⟨a8, c8, rfl, X8, hb8⟩
      have B8 := below_step B6 hb8
      go_wp2_with fail
      go_ret
      exact ⟨rfl, B8⟩
    · obtain ⟨q2, q3⟩ := ga_bad (b := b) (ms := ms) (by rw [q1]; decide)
      go_enter Try.func5, Try.ntmps5
      go_wp2_with (go_at_call 9; refine (awake_any _).mono ?_; rintro e w1 ⟨rfl, hb1⟩)
      refine (putAll_any _ (R1.later hb1) (R2.later hb1) (by omega)).mono ?_
      rintro e w6 ⟨a4, c4, rfl, X4, hb2⟩
      have B6 := below_step hb1 hb2
      go_wp2_with fail
      refine (getAll_any _ (R3.later B6) (R2.later B6) (by omega) (by omega)).mono ?_
      rintro e w8 ⟨a8, c8, rfl, X8, hb8⟩
      have B8 := below_step B6 hb8
      go_wp2_with fail
      go_ret
      exact ⟨rfl, B8⟩

theorem own : ownKnob Try.prog.godebug = none := by kernel_rfl
theorem laidOut : laidOutB Try.prog = true := by kernel_rfl
set_option maxRecDepth 100000 in
theorem lifted (os : Os) (started : os.Started) (H : Type) (enc : TypeId × Value → H) :
    ReturnsInHanded {} Try.checked os 5 .any (Rows.octetsBackSpec.pre6 enc Try.prog Try.f5 Rows.octetsBackRow.domain false) (Rows.octetsBackSpec.post enc Try.prog Try.f5 false true false false) := by
  refine returnsInHanded_of_change (C := Try.checked) own started (by kernel_rfl) Try.func5
    (ChangeSpec.witness6 (enc := enc) (C := Try.checked) false ⟨#[], #[.slice none 0 0, .slice none 0 0, .slice none 0 0], []⟩ 8 (by kernel_rfl) (by kernel_rfl) (by kernel_rfl) (by kernel_rfl)) ?_
  intro W base args ds gs before hval0 hW hcnd _
  have hval : ∀ (j : Nat) t v, Try.f5.params[j]? = some t → args[j]? = some v → Value.okWide Try.prog W .any base t v := hval0
  have hW' := hW
  obtain ⟨p, q, hA0, hV, rfl, hfz, hnd⟩ := hW
  have hA : DataW.TrodAll enc Try.prog W 0 (fun _ => true) true Try.f5.params.toList args.toList ds p := hA0
  rw [Try.params5] at hA hval
  obtain ⟨v0, vs0, d0, ds0, p0, q0, hargs, rfl, rfl, h0, r0⟩ := trodAll_cons hA
  obtain ⟨v1, vs1, d1, ds1, p1, q1, rfl, rfl, rfl, h1, r1⟩ := trodAll_cons r0
  obtain ⟨v2, vs2, d2, ds2, p2, q2, rfl, rfl, rfl, h2, r2⟩ := trodAll_cons r1
  obtain ⟨rfl, rfl, rfl⟩ := trodAll_nil r2
  obtain rfl : args = #[v0, v1, v2] := by cases args; simp_all
  obtain ⟨rfl, rfl⟩ := trodVars_none hV
  obtain ⟨a0, n0, c0, rfl⟩ := okWide_slice Try.underlying31 (hval 0 31 v0 rfl rfl)
  have k0 := h0
  have lt0 : ∀ x ∈ p0, x.block < W.heap.size := by obtain ⟨m, hm⟩ := k0; exact DataW.trod_lt m _ _ _ hm
  obtain ⟨a1, n1, c1, rfl⟩ := okWide_slice Try.underlying31 (hval 1 31 v1 rfl rfl)
  have k1 := h1
  have lt1 : ∀ x ∈ p1, x.block < W.heap.size := by obtain ⟨m, hm⟩ := k1; exact DataW.trod_lt m _ _ _ hm
  obtain ⟨a2, n2, c2, rfl⟩ := okWide_slice Try.underlying22 (hval 2 22 v2 rfl rfl)
  have k2 := h2
  have lt2 : ∀ x ∈ p2, x.block < W.heap.size := by obtain ⟨m, hm⟩ := k2; exact DataW.trod_lt m _ _ _ hm
  obtain ⟨l0, el0, R0⟩ : ∃ l, n0 = List.length l ∧ Reads .i64 W a0 c0 l := by
    obtain ⟨fuel, hf⟩ := h0
    rcases open_ints Try.underlying31 Try.underlying3 (by kernel_rfl) hf with ⟨hcs, _⟩ | ⟨x, l, c, zs, hcs, _, hl, hm, hz, _, hcell, hwz⟩
    · simp [Value.cells] at hcs
      obtain ⟨rfl, rfl, rfl⟩ := hcs
      exact ⟨[], rfl, Reads.none _ _⟩
    · simp [Value.cells] at hcs
      obtain ⟨rfl, rfl, rfl⟩ := hcs
      have hz2 : List.length zs = c0 := by simpa using hz
      exact ⟨List.take _ zs, by rw [List.length_take, hz2]; omega, reads_of_ints hl hm hz2 hcell hwz⟩
  subst el0
  obtain ⟨l1, el1, R1⟩ : ∃ l, n1 = List.length l ∧ Reads .i64 W a1 c1 l := by
    obtain ⟨fuel, hf⟩ := h1
    rcases open_ints Try.underlying31 Try.underlying3 (by kernel_rfl) hf with ⟨hcs, _⟩ | ⟨x, l, c, zs, hcs, _, hl, hm, hz, _, hcell, hwz⟩
    · simp [Value.cells] at hcs
      obtain ⟨rfl, rfl, rfl⟩ := hcs
      exact ⟨[], rfl, Reads.none _ _⟩
    · simp [Value.cells] at hcs
      obtain ⟨rfl, rfl, rfl⟩ := hcs
      have hz2 : List.length zs = c1 := by simpa using hz
      exact ⟨List.take _ zs, by rw [List.length_take, hz2]; omega, reads_of_ints hl hm hz2 hcell hwz⟩
  subst el1
  obtain ⟨l2, el2, R2⟩ : ∃ l, n2 = List.length l ∧ Reads .u8 W a2 c2 l := by
    obtain ⟨fuel, hf⟩ := h2
    rcases open_ints Try.underlying22 Try.underlying5 (by kernel_rfl) hf with ⟨hcs, _⟩ | ⟨x, l, c, zs, hcs, _, hl, hm, hz, _, hcell, hwz⟩
    · simp [Value.cells] at hcs
      obtain ⟨rfl, rfl, rfl⟩ := hcs
      exact ⟨[], rfl, Reads.none _ _⟩
    · simp [Value.cells] at hcs
      obtain ⟨rfl, rfl, rfl⟩ := hcs
      have hz2 : List.length zs = c2 := by simpa using hz
      exact ⟨List.take _ zs, by rw [List.length_take, hz2]; omega, reads_of_ints hl hm hz2 hcell hwz⟩
  subst el2
  clear hA0 hval0
  refine (walk a0 c0 l0 a1 c1 l1 a2 c2 l2  W R0 R1 R2).mono fun e W' ⟨he, bel⟩ => ?_
  subst he
  exact ⟨_, rfl, _, _, _, [], _, [], hW', trodAll_mk1 (shut_bool Try.underlying4 _), (trodAll_cons_mk (Below.trod laidOut (by kernel_rfl) (of_decide_eq_true (by kernel_rfl)) k0 bel lt0) (trodAll_cons_mk (Below.trod laidOut (by kernel_rfl) (of_decide_eq_true (by kernel_rfl)) k1 bel lt1) (trodAll_cons_mk (Below.trod laidOut (by kernel_rfl) (of_decide_eq_true (by kernel_rfl)) k2 bel lt2) trodAll_mk0))), rfl, bel.frame _, fun h => by cases h⟩

theorem over : Rows.octetsBackRow.holds Try.pinned (OpenSpec.ofChange Rows.octetsBackSpec) :=
  OpenClaim.holds_of_wide 5 Try.f5 rfl rfl rfl rfl rfl rfl rfl ⟨rfl, rfl, rfl, rfl, rfl⟩ rfl rfl rfl rfl rfl (by kernel_rfl) Try.func5 (by kernel_rfl)
    (of_decide_eq_true (by kernel_rfl)) (by unfold Func.isWrapper; first | (rw [if_pos (by decide +kernel)]; kernel_rfl) | (rw [if_neg (by decide +kernel)]; exact ⟨rfl, rfl⟩))
    (fun os started H enc _ => lifted os started H enc)
end Go.Proofs.Ythclgoohhpdgkaa.octetsBack
namespace Go.Proofs.Ythclgoohhpdgkaa
theorem octetsBack_holds : Rows.OctetsBackSaid := octetsBack.over
#print axioms octetsBack_holds
end Go.Proofs.Ythclgoohhpdgkaa
