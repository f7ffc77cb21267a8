/- Proved: for all bytes b and all ints i and k the call OctetsTurn(b, i, k) returns true and leaves b as it was: where two bytes stand two by two does not matter to the checksum (of more than 3000 bytes nothing is asked). No condition. -/
import Derived.Test.YthclgoohhpdgkaaOctAwake
import Derived.Test.YthclgoohhpdgkaaOctAppend
import Derived.Test.YthclgoohhpdgkaaOctSums
import Derived.Lib.SmallJoins
namespace Go.Proofs.Ythclgoohhpdgkaa.octetsTurn
open Go.ChangeShapes Go.WideShapes Go.ChangeAt Go.RowKit O
set_option linter.unusedVariables false


set_option maxHeartbeats 2000000 in
theorem walk (a : Option Addr) (c : Nat) (l : List Int) (i k : Int) (wi : (Lit.int .i64 i).wf = true) (wk : (Lit.int .i64 k).wf = true) (w : World) (R : Reads .u8 w a c l) :
    Calls Try.prog 8 #[.slice a l.length c, .int .i64 i, .int .i64 k] w fun e w' => e = .returned (.bool true) ∧ Below w.heap.size w w' := by
  clear wi wk
  have hmx := Nat.le_trans R.le R.max
  unfold maxLen at hmx
  by_cases hl : 3000 < l.length
  · go_enter Try.func8, Try.ntmps8
    go_wp2_with (go_at_call 9; refine (awake_any _).mono ?_; rintro e w1 ⟨rfl, hb1⟩)
    go_ret
    exact ⟨rfl, hb1⟩
  by_cases h1 : i < 0
  · go_enter Try.func8, Try.ntmps8
    go_wp2_with (go_at_call 9; refine (awake_any _).mono ?_; rintro e w1 ⟨rfl, hb1⟩)
    go_ret
    exact ⟨rfl, hb1⟩
  by_cases h2 : k < 0
  · go_enter Try.func8, Try.ntmps8
    go_wp2_with (go_at_call 9; refine (awake_any _).mono ?_; rintro e w1 ⟨rfl, hb1⟩)
    go_ret
    exact ⟨rfl, hb1⟩
  by_cases h3 : 1500 < i
  · go_enter Try.func8, Try.ntmps8
    go_wp2_with (go_at_call 9; refine (awake_any _).mono ?_; rintro e w1 ⟨rfl, hb1⟩)
    go_ret
    exact ⟨rfl, hb1⟩
  by_cases h4 : 1500 < k
  · go_enter Try.func8, Try.ntmps8
    go_wp2_with (go_at_call 9; refine (awake_any _).mono ?_; rintro e w1 ⟨rfl, hb1⟩)
    go_ret
    exact ⟨rfl, hb1⟩
  by_cases h5 : (l.length : Int) ≤ 2 * i + 1
  · go_enter Try.func8, Try.ntmps8
    go_wp2_with (go_at_call 9; refine (awake_any _).mono ?_; rintro e w1 ⟨rfl, hb1⟩)
    go_ret
    exact ⟨rfl, hb1⟩
  by_cases h6 : (l.length : Int) ≤ 2 * k + 1
  · go_enter Try.func8, Try.ntmps8
    go_wp2_with (go_at_call 9; refine (awake_any _).mono ?_; rintro e w1 ⟨rfl, hb1⟩)
    go_ret
    exact ⟨rfl, hb1⟩
  obtain ⟨I, rfl⟩ : ∃ I : Nat, i = I := ⟨i.toNat, by omega⟩
  obtain ⟨K, rfl⟩ : ∃ K : Nat, k = K := ⟨k.toNat, by omega⟩
  have hi : 2 * I + 1 < l.length := by omega
  have hk : 2 * K + 1 < l.length := by omega
  have hl2 : l.length ≤ 100000 := by omega
  have T : Hid (sumN (turn l I K) = sumN l) := sum_turn l I K hi hk
  obtain ⟨x, hx⟩ : ∃ x, l.getD (2 * I) 0 = x := ⟨_, rfl⟩
  obtain ⟨y, hy⟩ : ∃ y, l.getD (2 * I + 1) 0 = y := ⟨_, rfl⟩
  obtain ⟨u, hu⟩ : ∃ u, l.getD (2 * K) 0 = u := ⟨_, rfl⟩
  obtain ⟨v, hv⟩ : ∃ v, l.getD (2 * K + 1) 0 = v := ⟨_, rfl⟩
  have X : Hid (l[2 * I]? = some x) := getD_some (by omega) hx
  have Y : Hid (l[2 * I + 1]? = some y) := getD_some (by omega) hy
  have U : Hid (l[2 * K]? = some u) := getD_some (by omega) hu
  have V : Hid (l[2 * K + 1]? = some v) := getD_some (by omega) hv
  have TL : Hid (turn l I K = (((l.set (2 * I) u).set (2 * I + 1) v).set (2 * K) x).set (2 * K + 1) y) := by unfold Hid turn; rw [hx, hy, hu, hv]
  have TO : Hid (Oct (turn l I K)) := oct_turn R.oct
  clear hx hy hu hv
  have n1 : ¬ 2 * K + 1 = 2 * I := by omega
  have n2 : ¬ 2 * I = 2 * K + 1 := by omega
  have n3 : ¬ 2 * I + 1 = 2 * K := by omega
  have n4 : ¬ 2 * K = 2 * I + 1 := by omega
  by_cases hIK : I = K
  · subst hIK
    have hux : u = x := Option.some.inj (U.out.symm.trans X.out)
    have hvy : v = y := Option.some.inj (V.out.symm.trans Y.out)
    subst hux hvy
    go_enter Try.func8, Try.ntmps8
    go_wp2_with (first | (go_at_call 9; refine (awake_any _).mono ?_; rintro e w1 ⟨rfl, hb1⟩; have R1 := R.later hb1) | (at_builtin; refine wpList_join rfl (.const (.slice none 0 0)) (.tmp 52) 22 rfl w.heap.size 5 1 Try.underlying22 info8 (v := .slice none 0 0) (n := 0) (ys := []) rfl (World.ownsRow_nil _ _ _ _) rfl R1 rfl (by omega) (by omega) hb1.size ?_; intro v3 w3 hown3 hgrow3; (simp only [Nat.zero_add, List.nil_append] at hown3); have hb3 := below_fresh (B := w1.heap.size) hgrow3 (Nat.le_refl _); obtain ⟨g, cap, rfl, hg0, hglt⟩ := hown3.form (by omega); have cX := own_cell hown3 (by omega) X.out; have cY := own_cell hown3 (by omega) Y.out; have cU := own_cell hown3 (by omega) U.out; have cV := own_cell hown3 (by omega) V.out; have hf := hown3.frozenAt))
    have S3 := own_turn hown3 TL.out
    obtain ⟨R5, hn5⟩ := reads_own S3 (u8_wf TO.out)
    have HB := below_turn I I u v u v (below_step hb1 hb3) hg0
    refine (sum_any _ (R.later HB) hl2).mono ?_
    rintro e w' ⟨rfl, rfl⟩
    go_wp2_with fail
    refine (sum_at _ R5 hn5 (by omega)).mono ?_
    rintro e w' ⟨rfl, rfl⟩
    go_wp2_with fail
    go_ret
    exact ⟨ret_bool (by rw [T.out]; simp), HB⟩
  · have n5 : ¬ K = I := fun h => hIK h.symm
    go_enter Try.func8, Try.ntmps8
    go_wp2_with (first | (go_at_call 9; refine (awake_any _).mono ?_; rintro e w1 ⟨rfl, hb1⟩; have R1 := R.later hb1) | (at_builtin; refine wpList_join rfl (.const (.slice none 0 0)) (.tmp 52) 22 rfl w.heap.size 5 1 Try.underlying22 info8 (v := .slice none 0 0) (n := 0) (ys := []) rfl (World.ownsRow_nil _ _ _ _) rfl R1 rfl (by omega) (by omega) hb1.size ?_; intro v3 w3 hown3 hgrow3; (simp only [Nat.zero_add, List.nil_append] at hown3); have hb3 := below_fresh (B := w1.heap.size) hgrow3 (Nat.le_refl _); obtain ⟨g, cap, rfl, hg0, hglt⟩ := hown3.form (by omega); have cX := own_cell hown3 (by omega) X.out; have cY := own_cell hown3 (by omega) Y.out; have cU := own_cell hown3 (by omega) U.out; have cV := own_cell hown3 (by omega) V.out; have hf := hown3.frozenAt))
    have S3 := own_turn hown3 TL.out
    obtain ⟨R5, hn5⟩ := reads_own S3 (u8_wf TO.out)
    have HB := below_turn I K u v x y (below_step hb1 hb3) hg0
    refine (sum_any _ (R.later HB) hl2).mono ?_
    rintro e w' ⟨rfl, rfl⟩
    go_wp2_with fail
    refine (sum_at _ R5 hn5 (by omega)).mono ?_
    rintro e w' ⟨rfl, rfl⟩
    go_wp2_with fail
    go_ret
    exact ⟨ret_bool (by rw [T.out]; simp), HB⟩

theorem own : ownKnob Try.prog.godebug = none := by kernel_rfl
theorem laidOut : laidOutB Try.prog = true := by kernel_rfl
set_option maxRecDepth 100000 in
theorem lifted (os : Os) (started : os.Started) (H : Type) (enc : TypeId × Value → H) :
    ReturnsInHanded {} Try.checked os 8 .any (Rows.octetsTurnSpec.pre6 enc Try.prog Try.f8 Rows.octetsTurnRow.domain false) (Rows.octetsTurnSpec.post enc Try.prog Try.f8 false true false false) := by
  refine returnsInHanded_of_change (C := Try.checked) own started (by kernel_rfl) Try.func8
    (ChangeSpec.witness6 (enc := enc) (C := Try.checked) false ⟨#[], #[.slice none 0 0, .int .i64 0, .int .i64 0], []⟩ 8 (by kernel_rfl) (by kernel_rfl) (by kernel_rfl) (by kernel_rfl)) ?_
  intro W base args ds gs before hval0 hW hcnd _
  have hval : ∀ (j : Nat) t v, Try.f8.params[j]? = some t → args[j]? = some v → Value.okWide Try.prog W .any base t v := hval0
  have hW' := hW
  obtain ⟨p, q, hA0, hV, rfl, hfz, hnd⟩ := hW
  have hA : DataW.TrodAll enc Try.prog W 0 (fun _ => true) true Try.f8.params.toList args.toList ds p := hA0
  rw [Try.params8] at hA hval
  obtain ⟨v0, vs0, d0, ds0, p0, q0, hargs, rfl, rfl, h0, r0⟩ := trodAll_cons hA
  obtain ⟨v1, vs1, d1, ds1, p1, q1, rfl, rfl, rfl, h1, r1⟩ := trodAll_cons r0
  obtain ⟨v2, vs2, d2, ds2, p2, q2, rfl, rfl, rfl, h2, r2⟩ := trodAll_cons r1
  obtain ⟨rfl, rfl, rfl⟩ := trodAll_nil r2
  obtain rfl : args = #[v0, v1, v2] := by cases args; simp_all
  obtain ⟨rfl, rfl⟩ := trodVars_none hV
  obtain ⟨a0, n0, c0, rfl⟩ := okWide_slice Try.underlying22 (hval 0 22 v0 rfl rfl)
  have k0 := h0
  have lt0 : ∀ x ∈ p0, x.block < W.heap.size := by obtain ⟨m, hm⟩ := k0; exact DataW.trod_lt m _ _ _ hm
  have k1 := h1
  have lt1 : ∀ x ∈ p1, x.block < W.heap.size := by obtain ⟨m, hm⟩ := k1; exact DataW.trod_lt m _ _ _ hm
  have k2 := h2
  have lt2 : ∀ x ∈ p2, x.block < W.heap.size := by obtain ⟨m, hm⟩ := k2; exact DataW.trod_lt m _ _ _ hm
  obtain ⟨l0, el0, R0⟩ : ∃ l, n0 = List.length l ∧ Reads .u8 W a0 c0 l := by
    obtain ⟨fuel, hf⟩ := h0
    rcases open_ints Try.underlying22 Try.underlying5 (by kernel_rfl) hf with ⟨hcs, _⟩ | ⟨x, l, c, zs, hcs, _, hl, hm, hz, _, hcell, hwz⟩
    · simp [Value.cells] at hcs
      obtain ⟨rfl, rfl, rfl⟩ := hcs
      exact ⟨[], rfl, Reads.none _ _⟩
    · simp [Value.cells] at hcs
      obtain ⟨rfl, rfl, rfl⟩ := hcs
      have hz2 : List.length zs = c0 := by simpa using hz
      exact ⟨List.take _ zs, by rw [List.length_take, hz2]; omega, reads_of_ints hl hm hz2 hcell hwz⟩
  subst el0
  obtain ⟨a1, rfl, rfl, hp1, w1⟩ := open_int Try.underlying3 (hval 1 3 v1 rfl rfl) h1
  obtain ⟨a2, rfl, rfl, hp2, w2⟩ := open_int Try.underlying3 (hval 2 3 v2 rfl rfl) h2
  clear hA0 hval0
  refine (walk a0 c0 l0 a1 a2 w1 w2 W R0).mono fun e W' ⟨he, bel⟩ => ?_
  subst he
  exact ⟨_, rfl, _, _, _, [], _, [], hW', trodAll_mk1 (shut_bool Try.underlying4 _), (trodAll_cons_mk (Below.trod laidOut (by kernel_rfl) (of_decide_eq_true (by kernel_rfl)) k0 bel lt0) (trodAll_cons_mk (Below.trod laidOut (by kernel_rfl) (of_decide_eq_true (by kernel_rfl)) k1 bel lt1) (trodAll_cons_mk (Below.trod laidOut (by kernel_rfl) (of_decide_eq_true (by kernel_rfl)) k2 bel lt2) trodAll_mk0))), rfl, bel.frame _, fun h => by cases h⟩

theorem over : Rows.octetsTurnRow.holds Try.pinned (OpenSpec.ofChange Rows.octetsTurnSpec) :=
  OpenClaim.holds_of_wide 8 Try.f8 rfl rfl rfl rfl rfl rfl rfl ⟨rfl, rfl, rfl, rfl, rfl⟩ rfl rfl rfl rfl rfl (by kernel_rfl) Try.func8 (by kernel_rfl)
    (of_decide_eq_true (by kernel_rfl)) (by unfold Func.isWrapper; first | (rw [if_pos (by decide +kernel)]; kernel_rfl) | (rw [if_neg (by decide +kernel)]; exact ⟨rfl, rfl⟩))
    (fun os started H enc _ => lifted os started H enc)
end Go.Proofs.Ythclgoohhpdgkaa.octetsTurn
namespace Go.Proofs.Ythclgoohhpdgkaa
theorem octetsTurn_holds : Rows.OctetsTurnSaid := octetsTurn.over
#print axioms octetsTurn_holds
end Go.Proofs.Ythclgoohhpdgkaa
