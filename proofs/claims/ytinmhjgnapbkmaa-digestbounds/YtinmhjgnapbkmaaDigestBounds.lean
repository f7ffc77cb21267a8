/- Proved: for all tags and rules the call DigestBounds(tag, l) returns true and leaves l as it was (of more than 60 rules nothing is asked). -/
import Derived.Test.YtinmhjgnapbkmaaDigAwake
import Derived.Lib.SmallJoins
namespace Go.Proofs.Ytinmhjgnapbkmaa.digestBounds
open Go.ChangeShapes Go.WideShapes Go.ChangeAt Go.RowKit O Dg Pk Tb R
set_option linter.unusedVariables false
set_option linter.unusedSimpArgs false

theorem infoR10 : (Try.prog.info? 35).map (fun i => (i.zero, i.size, i.bytes)) = some (some (.agg #[.int .i64 0, .int .i64 0, .int .i64 0, .int .i64 0, .int .i64 0, .int .i64 0]), 6, 48) := by kernel_rfl
theorem rusB_keep (l : List Rl) : rusB (l.filter mayR) = rusB l := by
  induction l with
  | nil => rfl
  | cons r l ih =>
    cases h : mayR r
    · rw [List.filter_cons_of_neg (by simp [h]), ih, rusB_cons, ruB_no h, List.nil_append]
    · rw [List.filter_cons_of_pos (by simp [h]), rusB_cons, rusB_cons, ih]
theorem ofN_keep (t : Int) (l : List Rl) : ofN t (l.filter mayR) = ofN t l := by
  have h : (sortL l).filter mayR = sortL (l.filter mayR) := sort_is ((sort_perm l).filter _) ((sort_ord l).filter _)
  unfold ofN ofL
  rw [← h, rusB_keep]
theorem keep_take {l : List Rl} {k : Nat} (hk : k < l.length) : (l.take (k + 1)).filter mayR = if mayR (l.getD k default) = true then (l.take k).filter mayR ++ [l.getD k default] else (l.take k).filter mayR := by
  rw [List.take_add_one, getD_at hk, List.filter_append]
  generalize l.getD k default = r
  cases h : mayR r <;> simp [h]
set_option maxRecDepth 100000 in
set_option maxHeartbeats 4000000 in
theorem walk (t : Int) (a : Option Addr) (c : Nat) (l : List Rl) (wt : (Lit.int .i64 t).wf = true) (w : World) (R : Rds fR 6 w a c l) :
    Calls Try.prog 5 #[.int .i64 t, .slice a l.length c] w fun e w' => e = .returned (.bool true) ∧ Below w.heap.size w w' := by
  have hmx := Nat.le_trans R.le R.max
  unfold maxLen at hmx
  by_cases hl : 60 < l.length
  · go_enter Try.func5, Try.ntmps5
    go_wp2_with fail
    refine (dawake_any _).mono ?_
    rintro e w1 ⟨rfl, hb1⟩
    go_wp2_with fail
    go_ret
    exact ⟨rfl, hb1⟩
  have hlz : decide ((60 : Int) < (l.length : Int)) = false := decide_eq_false (by omega)
  have HL : Hid (l.length ≤ 60) := by show _ ≤ _; omega
  clear hl hmx
  go_enter Try.func5, Try.ntmps5
  go_wp2_with fail
  refine (dawake_any _).mono ?_
  rintro e w1 ⟨rfl, hb1⟩
  have R1 := R.later hb1
  go_wp2_with fail
  go_loopw [6, 7] (fun vm vi wr => ∃ k : Nat, vi = .int .i64 (k : Nat) ∧ Hid (k ≤ l.length) ∧ Hid (wr.ownsRow w1.heap.size 35 6 vm ((l.take k).filter mayR).length (flatV fR ((l.take k).filter mayR))) ∧ Hid (Below w1.heap.size w1 wr)) (fun _ vi _ => l.length - (intOf vi).toNat)
  case atStart => exact ⟨0, rfl, Nat.zero_le _, (show World.ownsRow _ _ _ _ _ _ _ from World.ownsRow_nil _ _ _ _), Below.refl _ _⟩
  case round =>
    obtain ⟨k, rfl, HK, HW, HB⟩ := hrel
    by_cases hlt : k < l.length
    · have hkz : (k : Int) < (l.length : Int) := Int.ofNat_lt.2 hlt
      obtain ⟨b, o, rfl, hbb, hc⟩ := (R1.later HB.out).at (getD_at hlt)
      have NX : Hid ((l.take (k + 1)).filter mayR = if mayR (l.getD k default) = true then (l.take k).filter mayR ++ [l.getD k default] else (l.take k).filter mayR) := keep_take hlt
      have hcl : ((l.take k).filter mayR).length ≤ 60 := Nat.le_trans (List.length_filter_le _ _) (by rw [List.length_take]; have := HL.out; omega)
      have HLT : Hid (k < l.length) := hlt
      have hk60 : k ≤ 60 := by have := HL.out; omega
      clear hlt
      generalize (l.take k).filter mayR = O at HW NX hcl
      generalize l.getD k default = r at hc NX
      obtain ⟨ra, rn, ri, rp, rk, rt⟩ := r
      have x0 := hc 0 _ rfl
      have x1 := hc 1 _ rfl
      have x2 := hc 2 _ rfl
      have x3 := hc 3 _ rfl
      have x4 := hc 4 _ rfl
      have x5 := hc 5 _ rfl
      rw [Nat.add_zero] at x0
      clear hc
      have own := HW.out
      obtain ⟨yv, cv, rfl⟩ := own_slice own
      have hs1 := HB.out.size
      have cM := ruMay_any ra rn ri rp rk rt wr
      cases hm : okR ra rn ri rp rk rt with
      | false =>
        rw [hm] at cM
        have N2 : Hid ((l.take (k + 1)).filter mayR = O) := by
          show _ = _
          rw [NX.out, if_neg (by show ¬ okR ra rn ri rp rk rt = true; rw [hm]; decide)]
        clear NX hm
        go_wp2_with fail
        refine cM.mono ?_
        clear cM
        rintro e w2 ⟨rfl, hb2⟩
        go_wp2_with fail
        go_roundw
        case rel => exact ⟨k + 1, by go_num, HLT.out, (show World.ownsRow _ _ _ _ _ _ _ by rw [N2.out]; exact own_laterR own hb2), below_step HB.out hb2⟩
        case measure => have h := HLT.out; simp [intOf]; omega
      | true =>
        rw [hm] at cM
        have N2 : Hid ((l.take (k + 1)).filter mayR = O ++ [⟨ra, rn, ri, rp, rk, rt⟩]) := by
          show _ = _
          rw [NX.out, if_pos (by show okR ra rn ri rp rk rt = true; exact hm)]
        clear NX hm
        go_wp2_with fail
        refine cM.mono ?_
        clear cM
        rintro e w2 ⟨rfl, hb2⟩
        have y0 := (hb2.cell (p := ⟨b, o + k * 6, none⟩) hbb).trans x0
        have y1 := (hb2.cell (p := ⟨b, o + k * 6 + 1, none⟩) hbb).trans x1
        have y2 := (hb2.cell (p := ⟨b, o + k * 6 + 2, none⟩) hbb).trans x2
        have y3 := (hb2.cell (p := ⟨b, o + k * 6 + 3, none⟩) hbb).trans x3
        have y4 := (hb2.cell (p := ⟨b, o + k * 6 + 4, none⟩) hbb).trans x4
        have y5 := (hb2.cell (p := ⟨b, o + k * 6 + 5, none⟩) hbb).trans x5
        have ow2 := own_laterR own hb2
        have hb3 := below_step HB.out hb2
        have hs2 := hb3.size
        clear x0 x1 x2 x3 x4 x5 own hb2
        go_wp2_with (at_builtin; refine wpRds_one fR_len (by decide) _ ⟨ra, rn, ri, rp, rk, rt⟩ 35 rfl rfl _ _ 22 rfl w1.heap.size 48 _ Try.underlying22 infoR10 rfl rfl ow2 rfl (by omega) (by omega) hs2 ?_; intro v9 w9 own9 hg9)
        have hb5 := below_growR (hb3.alloc hs2 (.cells ((fR ⟨ra, rn, ri, rp, rk, rt⟩).map (Value.int .i64)).toArray 35)) (ow2.alloc _) hg9 (Nat.le_trans hs2 (below_new _ _).size)
        go_roundw
        case rel => exact ⟨k + 1, by go_num, HLT.out, (show World.ownsRow _ _ _ _ _ _ _ by rw [N2.out]; simpa using own9), hb5⟩
        case measure => have h := HLT.out; simp [intOf]; omega
    · have hke : k = l.length := by have h := HK.out; omega
      have hkz : ¬ (k : Int) < (l.length : Int) := by omega
      have own := HW.out
      rw [hke, List.take_length] at own
      have hwf : ∀ r ∈ l.filter mayR, ∀ z ∈ fR r, (Lit.int .i64 z).wf = true := fun r hr => R1.wf r ((List.mem_filter.1 hr).1)
      have hlm : (l.filter mayR).length ≤ 100 := Nat.le_trans (List.length_filter_le _ _) (by have := HL.out; omega)
      have HQ : Hid (ofN t (l.filter mayR) = ofN t l) := ofN_keep t l
      clear hke hlt HK HW
      generalize l.filter mayR = M at own hwf hlm HQ
      obtain ⟨am, cm, rfl, RM⟩ := rds_of_owns fR_len own rfl hwf
      have cA := of_any t wr (R1.later HB.out) (Nat.le_trans HL.out (by decide))
      have hbd := ofN_bd t l
      have cB := fun w' (h : Below wr.heap.size wr w') => of_any t w' (RM.later h) hlm
      rw [HQ.out] at cB
      generalize ofN t l = n at cA cB hbd
      obtain ⟨h0, h1⟩ := hbd
      clear own hwf
      go_wp2_with fail
      refine cA.mono ?_
      clear cA
      rintro e w2 ⟨rfl, hb2⟩
      go_wp2_with fail
      refine (cB _ hb2).mono ?_
      clear cB
      rintro e w3 ⟨rfl, hb3⟩
      go_wp2_with fail
      go_ret
      exact ⟨rfl, below_step (below_step (below_step hb1 HB.out) hb2) hb3⟩

theorem own : ownKnob Try.prog.godebug = none := by kernel_rfl
theorem laidOut : laidOutB Try.prog = true := by kernel_rfl
set_option maxRecDepth 100000 in
theorem lifted (os : Os) (started : os.Started) (H : Type) (enc : TypeId × Value → H) :
    ReturnsInHanded {} Try.checked os 5 .any (Rows.digestBoundsSpec.pre6 enc Try.prog Try.f5 Rows.digestBoundsRow.domain false) (Rows.digestBoundsSpec.post enc Try.prog Try.f5 false true false false) := by
  refine returnsInHanded_of_change (C := Try.checked) own started (by kernel_rfl) Try.func5
    (ChangeSpec.witness6 (enc := enc) (C := Try.checked) false ⟨#[], #[.int .i64 0, .slice none 0 0], []⟩ 8 (by kernel_rfl) (by kernel_rfl) (by kernel_rfl) (by kernel_rfl)) ?_
  intro W base args ds gs before hval0 hW hcnd _
  have hval : ∀ (j : Nat) t v, Try.f5.params[j]? = some t → args[j]? = some v → Value.okWide Try.prog W .any base t v := hval0
  have hW' := hW
  obtain ⟨p, q, hA0, hV, rfl, hfz, hnd⟩ := hW
  have hA : DataW.TrodAll enc Try.prog W 0 (fun _ => true) true Try.f5.params.toList args.toList ds p := hA0
  rw [Try.params5] at hA hval
  obtain ⟨v0, vs0, d0, ds0, p0, q0, hargs, rfl, rfl, h0, r0⟩ := trodAll_cons hA
  obtain ⟨v1, vs1, d1, ds1, p1, q1, rfl, rfl, rfl, h1, r1⟩ := trodAll_cons r0
  obtain ⟨rfl, rfl, rfl⟩ := trodAll_nil r1
  obtain rfl : args = #[v0, v1] := by cases args; simp_all
  obtain ⟨rfl, rfl⟩ := trodVars_none hV
  have k0 := h0
  have lt0 : ∀ x ∈ p0, x.block < W.heap.size := by obtain ⟨m, hm⟩ := k0; exact DataW.trod_lt m _ _ _ hm
  obtain ⟨a1, n1, c1, rfl⟩ := okWide_slice Try.underlying22 (hval 1 22 v1 rfl rfl)
  have k1 := h1
  have lt1 : ∀ x ∈ p1, x.block < W.heap.size := by obtain ⟨m, hm⟩ := k1; exact DataW.trod_lt m _ _ _ hm
  obtain ⟨a0, rfl, rfl, hp0, w0⟩ := open_int Try.underlying3 (hval 0 3 v0 rfl rfl) h0
  obtain ⟨l1, el1, R1⟩ : ∃ l : List Pk.Rl, n1 = List.length l ∧ Rds fR 6 W a1 c1 l := by
    obtain ⟨fuel, hf⟩ := h1
    exact rds_of_trod Try.underlying22 (by kernel_rfl) (fun _ => rfl) (by decide) fR_len elemR (by simpa [Value.cells] using hf)
  subst el1
  clear hA0 hval0
  refine (walk a0 a1 c1 l1 w0 W R1).mono fun e W' ⟨he, bel⟩ => ?_
  subst he
  exact ⟨_, rfl, _, _, _, [], _, [], hW', trodAll_mk1 (shut_bool Try.underlying4 _), (trodAll_cons_mk (Below.trod laidOut (by kernel_rfl) (of_decide_eq_true (by kernel_rfl)) k0 bel lt0) (trodAll_cons_mk (Below.trod laidOut (by kernel_rfl) (of_decide_eq_true (by kernel_rfl)) k1 bel lt1) trodAll_mk0)), rfl, bel.frame _, fun h => by cases h⟩

theorem over : Rows.digestBoundsRow.holds Try.pinned (OpenSpec.ofChange Rows.digestBoundsSpec) :=
  OpenClaim.holds_of_wide 5 Try.f5 rfl rfl rfl rfl rfl rfl rfl ⟨rfl, rfl, rfl, rfl, rfl⟩ rfl rfl rfl rfl rfl (by kernel_rfl) Try.func5 (by kernel_rfl)
    (of_decide_eq_true (by kernel_rfl)) (by unfold Func.isWrapper; first | (rw [if_pos (by decide +kernel)]; kernel_rfl) | (rw [if_neg (by decide +kernel)]; exact ⟨rfl, rfl⟩))
    (fun os started H enc _ => lifted os started H enc)
end Go.Proofs.Ytinmhjgnapbkmaa.digestBounds
namespace Go.Proofs.Ytinmhjgnapbkmaa
theorem digestBounds_holds : Rows.DigestBoundsSaid := digestBounds.over
#print axioms digestBounds_holds
end Go.Proofs.Ytinmhjgnapbkmaa
