/- Proved: for all bytes b, every int at and every byte mask the call OctetsSum(b, at, mask) returns true and leaves b as it was: bytes of an even number, whose checksum stands behind them, have the checksum 0, and one byte that is another one makes it another one (of more than 3000 bytes nothing is asked). No condition. -/
import Derived.Test.YthclgoohhpdgkaaOctAwake
import Derived.Test.YthclgoohhpdgkaaOctAppend
import Derived.Test.YthclgoohhpdgkaaOctSums
import Derived.Lib.SmallJoins
namespace Go.Proofs.Ythclgoohhpdgkaa.octetsSum
open Go.ChangeShapes Go.WideShapes Go.ChangeAt Go.RowKit O
set_option linter.unusedVariables false


set_option maxHeartbeats 2000000 in
theorem walk (a : Option Addr) (c : Nat) (l : List Int) (p m : Int) (wp : (Lit.int .i64 p).wf = true) (wm : (Lit.int .u8 m).wf = true) (w : World) (R : Reads .u8 w a c l) :
    Calls Try.prog 6 #[.slice a l.length c, .int .i64 p, .int .u8 m] w fun e w' => e = .returned (.bool true) ∧ Below w.heap.size w w' := by
  obtain ⟨m0, m1⟩ := wf_u8 wm
  clear wp wm
  have hmx := Nat.le_trans R.le R.max
  unfold maxLen at hmx
  by_cases hl : 3000 < l.length
  · go_enter Try.func6, Try.ntmps6
    go_wp2_with (go_at_call 9; refine (awake_any _).mono ?_; rintro e w1 ⟨rfl, hb1⟩)
    go_ret
    exact ⟨rfl, hb1⟩
  by_cases h2 : l.length % 2 = 0
  case neg =>
    have h2' : (l.length : Int) % 2 = 1 := by omega
    go_enter Try.func6, Try.ntmps6
    go_wp2_with (go_at_call 9; refine (awake_any _).mono ?_; rintro e w1 ⟨rfl, hb1⟩)
    go_ret
    exact ⟨rfl, hb1⟩
  have h2' : (l.length : Int) % 2 = 0 := by omega
  have hl2 : l.length ≤ 100000 := by omega
  have hE := putE_yes (ok_sum R.oct)
  have hp2 : (putL (sumN l) 2).length = 2 := putL_len (ok_sum R.oct)
  have hz0 := sum_append R.oct h2
  have HO : Oct (l ++ putL (sumN l) 2) := oct_append R.oct (putL_bd _ _)
  have HL : (l ++ putL (sumN l) 2).length = l.length + 2 := by simp [hp2]
  by_cases h3 : p < 0
  · go_enter Try.func6, Try.ntmps6
    go_wp2_with (go_at_call 9; refine (awake_any _).mono ?_; rintro e w1 ⟨rfl, hb1⟩)
    have R1 := R.later hb1
    refine (sum_any _ R1 hl2).mono ?_
    rintro e w' ⟨rfl, rfl⟩
    go_wp2_with fail
    refine (put_any (sumN l) 2 _).mono ?_
    rintro e w2 ⟨a2, c2, rfl, X2, hb2⟩
    have R2 := R1.later hb2
    have hz2 : w.heap.size ≤ w2.heap.size := Nat.le_trans hb1.size hb2.size
    go_wp2_with (first | (at_builtin; refine wpList_join rfl (.const (.slice none 0 0)) (.tmp 34) 22 rfl w.heap.size 5 1 Try.underlying22 info8 (v := .slice none 0 0) (n := 0) (ys := []) rfl (World.ownsRow_nil _ _ _ _) rfl R2 rfl (by omega) (by omega) hz2 ?_; intro v3 w3 hown3 hgrow3; have hb3 := below_fresh (B := w2.heap.size) hgrow3 (Nat.le_refl _); have X3 := X2.later hb3; have hz3 : w.heap.size ≤ w3.heap.size := Nat.le_trans hz2 hb3.size) | (at_builtin; refine wpList_join rfl (.tmp 35) (.tmp 36) 22 rfl w.heap.size 5 1 Try.underlying22 info8 rfl hown3 rfl X3 hp2 (by omega) (by omega) hz3 ?_; intro v4 w4 hown4 hgrow4; have hb4 := below_grow (below_step hb1 (below_step hb2 hb3)) hown3 hgrow4 hz3; obtain ⟨g, cap, rfl, hg0, hglt⟩ := hown4.form (by omega)))
    simp only [Nat.zero_add, List.nil_append] at hown4
    obtain ⟨R4, hn4⟩ := reads_own hown4 (u8_wf HO)
    refine (sum_at _ R4 hn4 (by omega)).mono ?_
    rintro e w' ⟨rfl, rfl⟩
    go_wp2_with fail
    go_ret
    exact ⟨rfl, hb4⟩
  by_cases h4 : (l.length : Int) ≤ p
  · go_enter Try.func6, Try.ntmps6
    go_wp2_with (go_at_call 9; refine (awake_any _).mono ?_; rintro e w1 ⟨rfl, hb1⟩)
    have R1 := R.later hb1
    refine (sum_any _ R1 hl2).mono ?_
    rintro e w' ⟨rfl, rfl⟩
    go_wp2_with fail
    refine (put_any (sumN l) 2 _).mono ?_
    rintro e w2 ⟨a2, c2, rfl, X2, hb2⟩
    have R2 := R1.later hb2
    have hz2 : w.heap.size ≤ w2.heap.size := Nat.le_trans hb1.size hb2.size
    go_wp2_with (first | (at_builtin; refine wpList_join rfl (.const (.slice none 0 0)) (.tmp 34) 22 rfl w.heap.size 5 1 Try.underlying22 info8 (v := .slice none 0 0) (n := 0) (ys := []) rfl (World.ownsRow_nil _ _ _ _) rfl R2 rfl (by omega) (by omega) hz2 ?_; intro v3 w3 hown3 hgrow3; have hb3 := below_fresh (B := w2.heap.size) hgrow3 (Nat.le_refl _); have X3 := X2.later hb3; have hz3 : w.heap.size ≤ w3.heap.size := Nat.le_trans hz2 hb3.size) | (at_builtin; refine wpList_join rfl (.tmp 35) (.tmp 36) 22 rfl w.heap.size 5 1 Try.underlying22 info8 rfl hown3 rfl X3 hp2 (by omega) (by omega) hz3 ?_; intro v4 w4 hown4 hgrow4; have hb4 := below_grow (below_step hb1 (below_step hb2 hb3)) hown3 hgrow4 hz3; obtain ⟨g, cap, rfl, hg0, hglt⟩ := hown4.form (by omega)))
    simp only [Nat.zero_add, List.nil_append] at hown4
    obtain ⟨R4, hn4⟩ := reads_own hown4 (u8_wf HO)
    refine (sum_at _ R4 hn4 (by omega)).mono ?_
    rintro e w' ⟨rfl, rfl⟩
    go_wp2_with fail
    go_ret
    exact ⟨rfl, hb4⟩
  by_cases h5 : m = 0
  · subst h5
    go_enter Try.func6, Try.ntmps6
    go_wp2_with (go_at_call 9; refine (awake_any _).mono ?_; rintro e w1 ⟨rfl, hb1⟩)
    have R1 := R.later hb1
    refine (sum_any _ R1 hl2).mono ?_
    rintro e w' ⟨rfl, rfl⟩
    go_wp2_with fail
    refine (put_any (sumN l) 2 _).mono ?_
    rintro e w2 ⟨a2, c2, rfl, X2, hb2⟩
    have R2 := R1.later hb2
    have hz2 : w.heap.size ≤ w2.heap.size := Nat.le_trans hb1.size hb2.size
    go_wp2_with (first | (at_builtin; refine wpList_join rfl (.const (.slice none 0 0)) (.tmp 34) 22 rfl w.heap.size 5 1 Try.underlying22 info8 (v := .slice none 0 0) (n := 0) (ys := []) rfl (World.ownsRow_nil _ _ _ _) rfl R2 rfl (by omega) (by omega) hz2 ?_; intro v3 w3 hown3 hgrow3; have hb3 := below_fresh (B := w2.heap.size) hgrow3 (Nat.le_refl _); have X3 := X2.later hb3; have hz3 : w.heap.size ≤ w3.heap.size := Nat.le_trans hz2 hb3.size) | (at_builtin; refine wpList_join rfl (.tmp 35) (.tmp 36) 22 rfl w.heap.size 5 1 Try.underlying22 info8 rfl hown3 rfl X3 hp2 (by omega) (by omega) hz3 ?_; intro v4 w4 hown4 hgrow4; have hb4 := below_grow (below_step hb1 (below_step hb2 hb3)) hown3 hgrow4 hz3; obtain ⟨g, cap, rfl, hg0, hglt⟩ := hown4.form (by omega)))
    simp only [Nat.zero_add, List.nil_append] at hown4
    obtain ⟨R4, hn4⟩ := reads_own hown4 (u8_wf HO)
    refine (sum_at _ R4 hn4 (by omega)).mono ?_
    rintro e w' ⟨rfl, rfl⟩
    go_wp2_with fail
    go_ret
    exact ⟨rfl, hb4⟩
  obtain ⟨q, rfl⟩ : ∃ q : Nat, p = q := ⟨p.toNat, by omega⟩
  have hq : q < l.length := by omega
  have hq1 : (q : Int) < (l.length : Int) + 2 := by omega
  have hq2 : q < (l ++ putL (sumN l) 2).length := by omega
  obtain ⟨x, hx⟩ : ∃ x, (l ++ putL (sumN l) 2).getD q 0 = x := ⟨_, rfl⟩
  have hxb := HO.at q
  rw [hx] at hxb
  obtain ⟨x0, x1, x2⟩ := xor_other hxb.1 hxb.2 m0 m1 h5
  have HS : Hid (sumN ((l ++ putL (sumN l) 2).set q (bits .xor .u8 x m)) ≠ 0) := sum_changed HO hz0 hq2 x0 x1 (by rw [hx]; exact x2)
  have HO2 : Oct ((l ++ putL (sumN l) 2).set q (bits .xor .u8 x m)) := oct_set HO x0 x1
  have HX : Hid ((l ++ putL (sumN l) 2)[q]? = some x) := by unfold Hid; rw [List.getElem?_eq_getElem hq2, ← hx]; simp only [List.getD, List.getElem?_eq_getElem hq2, Option.getD_some]
  clear hx x2
  have h5' : (m == 0) = false := by simpa using h5
  go_enter Try.func6, Try.ntmps6
  go_wp2_with (go_at_call 9; refine (awake_any _).mono ?_; rintro e w1 ⟨rfl, hb1⟩)
  have R1 := R.later hb1
  refine (sum_any _ R1 hl2).mono ?_
  rintro e w' ⟨rfl, rfl⟩
  go_wp2_with fail
  refine (put_any (sumN l) 2 _).mono ?_
  rintro e w2 ⟨a2, c2, rfl, X2, hb2⟩
  have R2 := R1.later hb2
  have hz2 : w.heap.size ≤ w2.heap.size := Nat.le_trans hb1.size hb2.size
  go_wp2_with (first | (at_builtin; refine wpList_join rfl (.const (.slice none 0 0)) (.tmp 34) 22 rfl w.heap.size 5 1 Try.underlying22 info8 (v := .slice none 0 0) (n := 0) (ys := []) rfl (World.ownsRow_nil _ _ _ _) rfl R2 rfl (by omega) (by omega) hz2 ?_; intro v3 w3 hown3 hgrow3; have hb3 := below_fresh (B := w2.heap.size) hgrow3 (Nat.le_refl _); have X3 := X2.later hb3; have hz3 : w.heap.size ≤ w3.heap.size := Nat.le_trans hz2 hb3.size) | (at_builtin; refine wpList_join rfl (.tmp 35) (.tmp 36) 22 rfl w.heap.size 5 1 Try.underlying22 info8 rfl hown3 rfl X3 hp2 (by omega) (by omega) hz3 ?_; intro v4 w4 hown4 hgrow4; have hb4 := below_grow (below_step hb1 (below_step hb2 hb3)) hown3 hgrow4 hz3; obtain ⟨g, cap, rfl, hg0, hglt⟩ := hown4.form (by omega)))
  simp only [Nat.zero_add, List.nil_append] at hown4
  obtain ⟨R4, hn4⟩ := reads_own hown4 (u8_wf HO)
  refine (sum_at _ R4 hn4 (by omega)).mono ?_
  rintro e w' ⟨rfl, rfl⟩
  have hcq : w'.cell? ⟨g, q, none⟩ = some (.int .u8 x) := by
    rw [hown4.cellAt q (by omega), List.getElem?_map, HX.out]; rfl
  have hfq := hown4.frozenAt q
  go_wp2_with fail
  have S5 := (hown4.stored q (.int .u8 (bits .xor .u8 x m))).1
  rw [← List.map_set] at S5
  obtain ⟨R5, hn5⟩ := reads_own S5 (u8_wf HO2)
  refine (sum_at _ R5 hn5 (by omega)).mono ?_
  rintro e w' ⟨rfl, rfl⟩
  go_wp2_with fail
  go_ret
  exact ⟨ret_bool (by have HT := HS.out; rw [List.set_append_left _ _ hq] at HT; first | exact bne_iff_ne.2 HT | exact bne_iff_ne.2 HS.out), hb4.setCell hg0 _⟩

theorem own : ownKnob Try.prog.godebug = none := by kernel_rfl
theorem laidOut : laidOutB Try.prog = true := by kernel_rfl
set_option maxRecDepth 100000 in
theorem lifted (os : Os) (started : os.Started) (H : Type) (enc : TypeId × Value → H) :
    ReturnsInHanded {} Try.checked os 6 .any (Rows.octetsSumSpec.pre6 enc Try.prog Try.f6 Rows.octetsSumRow.domain false) (Rows.octetsSumSpec.post enc Try.prog Try.f6 false true false false) := by
  refine returnsInHanded_of_change (C := Try.checked) own started (by kernel_rfl) Try.func6
    (ChangeSpec.witness6 (enc := enc) (C := Try.checked) false ⟨#[], #[.slice none 0 0, .int .i64 0, .int .u8 0], []⟩ 8 (by kernel_rfl) (by kernel_rfl) (by kernel_rfl) (by kernel_rfl)) ?_
  intro W base args ds gs before hval0 hW hcnd _
  have hval : ∀ (j : Nat) t v, Try.f6.params[j]? = some t → args[j]? = some v → Value.okWide Try.prog W .any base t v := hval0
  have hW' := hW
  obtain ⟨p, q, hA0, hV, rfl, hfz, hnd⟩ := hW
  have hA : DataW.TrodAll enc Try.prog W 0 (fun _ => true) true Try.f6.params.toList args.toList ds p := hA0
  rw [Try.params6] at hA hval
  obtain ⟨v0, vs0, d0, ds0, p0, q0, hargs, rfl, rfl, h0, r0⟩ := trodAll_cons hA
  obtain ⟨v1, vs1, d1, ds1, p1, q1, rfl, rfl, rfl, h1, r1⟩ := trodAll_cons r0
  obtain ⟨v2, vs2, d2, ds2, p2, q2, rfl, rfl, rfl, h2, r2⟩ := trodAll_cons r1
  obtain ⟨rfl, rfl, rfl⟩ := trodAll_nil r2
  obtain rfl : args = #[v0, v1, v2] := by cases args; simp_all
  obtain ⟨rfl, rfl⟩ := trodVars_none hV
  obtain ⟨a0, n0, c0, rfl⟩ := okWide_slice Try.underlying22 (hval 0 22 v0 rfl rfl)
  have k0 := h0
  have lt0 : ∀ x ∈ p0, x.block < W.heap.size := by obtain ⟨m, hm⟩ := k0; exact DataW.trod_lt m _ _ _ hm
  have k1 := h1
  have lt1 : ∀ x ∈ p1, x.block < W.heap.size := by obtain ⟨m, hm⟩ := k1; exact DataW.trod_lt m _ _ _ hm
  have k2 := h2
  have lt2 : ∀ x ∈ p2, x.block < W.heap.size := by obtain ⟨m, hm⟩ := k2; exact DataW.trod_lt m _ _ _ hm
  obtain ⟨l0, el0, R0⟩ : ∃ l, n0 = List.length l ∧ Reads .u8 W a0 c0 l := by
    obtain ⟨fuel, hf⟩ := h0
    rcases open_ints Try.underlying22 Try.underlying5 (by kernel_rfl) hf with ⟨hcs, _⟩ | ⟨x, l, c, zs, hcs, _, hl, hm, hz, _, hcell, hwz⟩
    · simp [Value.cells] at hcs
      obtain ⟨rfl, rfl, rfl⟩ := hcs
      exact ⟨[], rfl, Reads.none _ _⟩
    · simp [Value.cells] at hcs
      obtain ⟨rfl, rfl, rfl⟩ := hcs
      have hz2 : List.length zs = c0 := by simpa using hz
      exact ⟨List.take _ zs, by rw [List.length_take, hz2]; omega, reads_of_ints hl hm hz2 hcell hwz⟩
  subst el0
  obtain ⟨a1, rfl, rfl, hp1, w1⟩ := open_int Try.underlying3 (hval 1 3 v1 rfl rfl) h1
  obtain ⟨a2, rfl, rfl, hp2, w2⟩ := open_int Try.underlying5 (hval 2 5 v2 rfl rfl) h2
  clear hA0 hval0
  refine (walk a0 c0 l0 a1 a2 w1 w2 W R0).mono fun e W' ⟨he, bel⟩ => ?_
  subst he
  exact ⟨_, rfl, _, _, _, [], _, [], hW', trodAll_mk1 (shut_bool Try.underlying4 _), (trodAll_cons_mk (Below.trod laidOut (by kernel_rfl) (of_decide_eq_true (by kernel_rfl)) k0 bel lt0) (trodAll_cons_mk (Below.trod laidOut (by kernel_rfl) (of_decide_eq_true (by kernel_rfl)) k1 bel lt1) (trodAll_cons_mk (Below.trod laidOut (by kernel_rfl) (of_decide_eq_true (by kernel_rfl)) k2 bel lt2) trodAll_mk0))), rfl, bel.frame _, fun h => by cases h⟩

theorem over : Rows.octetsSumRow.holds Try.pinned (OpenSpec.ofChange Rows.octetsSumSpec) :=
  OpenClaim.holds_of_wide 6 Try.f6 rfl rfl rfl rfl rfl rfl rfl ⟨rfl, rfl, rfl, rfl, rfl⟩ rfl rfl rfl rfl rfl (by kernel_rfl) Try.func6 (by kernel_rfl)
    (of_decide_eq_true (by kernel_rfl)) (by unfold Func.isWrapper; first | (rw [if_pos (by decide +kernel)]; kernel_rfl) | (rw [if_neg (by decide +kernel)]; exact ⟨rfl, rfl⟩))
    (fun os started H enc _ => lifted os started H enc)
end Go.Proofs.Ythclgoohhpdgkaa.octetsSum
namespace Go.Proofs.Ythclgoohhpdgkaa
theorem octetsSum_holds : Rows.OctetsSumSaid := octetsSum.over
#print axioms octetsSum_holds
end Go.Proofs.Ythclgoohhpdgkaa
