/- Proved: for all rules l, ports and destinations the call PickOnly(l, in, dst) returns true and leaves l as it was (of more than 60 nothing is asked). -/
import Derived.Test.YtbjgnlednkegiaaPickOpen
import Derived.Test.YtbjgnlednkegiaaPickPlain
import Derived.Lib.SmallJoins
namespace Go.Proofs.Ytbjgnlednkegiaa.pickOnly
open Go.ChangeShapes Go.WideShapes Go.ChangeAt Go.RowKit Pk R
set_option linter.unusedVariables false


theorem infoR : (Try.prog.info? 34).map (fun i => (i.zero, i.size, i.bytes)) = some (some (.agg #[.int .i64 0, .int .i64 0, .int .i64 0, .int .i64 0, .int .i64 0, .int .i64 0]), 6, 48) := by kernel_rfl
def OutR (B : Nat) (w : World) (v : Value) (O : List Rl) : Prop := w.ownsRow B 34 6 v O.length (flatV fR O)
theorem eq_same (a n i p k t : Int) (w : World) : (binOp .eql 34 (.agg #[.int .i64 a, .int .i64 n, .int .i64 i, .int .i64 p, .int .i64 k, .int .i64 t]) (.agg #[.int .i64 a, .int .i64 n, .int .i64 i, .int .i64 p, .int .i64 k, .int .i64 t])).run Try.prog w = .ok (.bool true) w := by go_simp
set_option maxRecDepth 100000 in
theorem walk_long (a : Option Addr) (c : Nat) (l : List Rl) (x d : Int) (w : World) (R : Rds fR 6 w a c l) (hl : 60 < l.length) :
    Calls Try.prog 8 #[.slice a l.length c, .int .i64 x, .int .i64 d] w fun e w' => e = .returned (.bool true) ∧ Below w.heap.size w w' := by
  have hmx := Nat.le_trans R.le R.max
  unfold maxLen at hmx
  go_enter Try.func8, Try.ntmps8
  go_wp2_with fail
  refine (awake_any _).mono ?_
  rintro e w1 ⟨rfl, hb1⟩
  go_wp2_with fail
  go_ret
  exact ⟨rfl, hb1⟩
set_option maxRecDepth 100000 in
set_option maxHeartbeats 4000000 in
theorem walk_short (a : Option Addr) (c : Nat) (l : List Rl) (x d : Int) (w : World) (R : Rds fR 6 w a c l) (hl : l.length ≤ 60) :
    Calls Try.prog 8 #[.slice a l.length c, .int .i64 x, .int .i64 d] w fun e w' => e = .returned (.bool true) ∧ Below w.heap.size w w' := by
  have hmx := Nat.le_trans R.le R.max
  unfold maxLen at hmx
  have hlz : decide ((60 : Int) < (l.length : Int)) = false := decide_eq_false (by omega)
  have HK2 : Hid ((firstL x d l = -1 ∧ keepK x d l = [] ∧ firstL x d (keepK x d l) = -1) ∨
    (∃ q p : Nat, q < l.length ∧ p < (keepK x d l).length ∧ firstL x d l = (q : Int) ∧ firstL x d (keepK x d l) = (p : Int) ∧ (keepK x d l).getD p default = l.getD q default)) := firstL_keep x d l
  go_enter Try.func8, Try.ntmps8
  go_wp2_with fail
  refine (awake_any _).mono ?_
  rintro e w1 ⟨rfl, hb1⟩
  have R1 := R.later hb1
  go_wp2_with fail
  go_loopg [9, 8] l.length (fun g v m wr => ∃ k : Nat, k + g = l.length ∧ v = .int .i64 (k : Nat) ∧ OutR w1.heap.size wr m (keepK x d (l.take k)) ∧ Below w1.heap.size w1 wr)
  case atStart => exact ⟨0, by omega, rfl, World.ownsRow_nil _ _ _ _, Below.refl _ _⟩
  case round =>
    obtain ⟨k, hk, rfl, own, hbr⟩ := hrel
    have HK : Hid (k + gk = l.length) := hk
    have hk : k ≤ l.length := by omega
    unfold OutR at own
    have hcl : (keepK x d (l.take k)).length ≤ k := by
      have h1 : (keepK x d (l.take k)).length ≤ (l.take k).length := List.length_filter_le _ _
      have h2 : (l.take k).length ≤ k := by simp; omega
      omega
    by_cases hlt : k < l.length
    · have hkz : (k : Int) < (l.length : Int) := by omega
      obtain ⟨b, o, rfl, hbb, hc⟩ := (R1.later hbr).at (getD_at hlt)
      have NX : Hid (keepK x d (l.take (k + 1)) = if fits x d (l.getD k default) = true then keepK x d (l.take k) ++ [l.getD k default] else keepK x d (l.take k)) := keepK_take x d l k hlt
      generalize keepK x d (l.take k) = O at own NX hcl
      generalize l.getD k default = r at hc NX
      obtain ⟨ra, rn, ri, rp, rk, rt⟩ := r
      have x0 := hc 0 _ rfl
      have x1 := hc 1 _ rfl
      have x2 := hc 2 _ rfl
      have x3 := hc 3 _ rfl
      have x4 := hc 4 _ rfl
      have x5 := hc 5 _ rfl
      rw [Nat.add_zero] at x0
      clear hc
      have hs1 := hbr.size
      have cF := ruFits_any ra rn ri rp rk rt x d wr
      cases hfit : fitB ra rn ri x d with
      | false =>
        rw [hfit] at cF
        have N2 : Hid (keepK x d (l.take (k + 1)) = O) := by
          show _ = _
          rw [NX.out, if_neg (by show ¬ fitB ra rn ri x d = true; rw [hfit]; decide)]
        clear NX hfit
        go_wp2_with fail
        refine cF.mono ?_
        clear cF
        rintro e w2 ⟨rfl, hb2⟩
        go_wp2_with fail
        go_roundg (gk - 1)
        case rel => exact ⟨k + 1, by have := HK.out; omega, by go_num, by unfold OutR; rw [N2.out]; exact own_laterR own hb2, below_step hbr hb2⟩
        case measure => have := HK.out; omega
      | true =>
        rw [hfit] at cF
        have N2 : Hid (keepK x d (l.take (k + 1)) = O ++ [⟨ra, rn, ri, rp, rk, rt⟩]) := by
          show _ = _
          rw [NX.out, if_pos (by show fitB ra rn ri x d = true; exact hfit)]
        clear NX hfit
        go_wp2_with fail
        refine cF.mono ?_
        clear cF
        rintro e w2 ⟨rfl, hb2⟩
        have y0 := (hb2.cell (p := ⟨b, o + k * 6, none⟩) hbb).trans x0
        have y1 := (hb2.cell (p := ⟨b, o + k * 6 + 1, none⟩) hbb).trans x1
        have y2 := (hb2.cell (p := ⟨b, o + k * 6 + 2, none⟩) hbb).trans x2
        have y3 := (hb2.cell (p := ⟨b, o + k * 6 + 3, none⟩) hbb).trans x3
        have y4 := (hb2.cell (p := ⟨b, o + k * 6 + 4, none⟩) hbb).trans x4
        have y5 := (hb2.cell (p := ⟨b, o + k * 6 + 5, none⟩) hbb).trans x5
        have ow2 := own_laterR own hb2
        have hb3 := below_step hbr hb2
        have hs2 := hb3.size
        clear x0 x1 x2 x3 x4 x5 own hb2
        go_wp2_with (at_builtin; refine wpRds_one fR_len (by decide) _ ⟨ra, rn, ri, rp, rk, rt⟩ 34 rfl rfl (.tmp 34) (.tmp 39) 22 rfl w1.heap.size 48 _ Try.underlying22 infoR rfl rfl ow2 rfl (by omega) (by omega) hs2 ?_; intro v9 w9 own9 hg9)
        have hb5 := below_growR (hb3.alloc hs2 (.cells ((fR ⟨ra, rn, ri, rp, rk, rt⟩).map (Value.int .i64)).toArray 34)) (ow2.alloc _) hg9 (Nat.le_trans hs2 (below_new _ _).size)
        go_roundg (gk - 1)
        case rel => exact ⟨k + 1, by have := HK.out; omega, by go_num, by unfold OutR; rw [N2.out]; simpa using own9, hb5⟩
        case measure => have := HK.out; omega
    · have hkl : k = l.length := by omega
      have e1 : keepK x d (l.take k) = keepK x d l := by rw [hkl, List.take_length]
      rw [e1] at own hcl
      have hwO : ∀ x' ∈ keepK x d l, ∀ z ∈ fR x', (Lit.int .i64 z).wf = true := fun x' hx => R.wf x' (List.mem_filter.1 hx).1
      clear e1 HK
      have R2 := R1.later hbr
      subst hkl
      rcases HK2.out with ⟨f1, f2, f3⟩ | ⟨q, p, hq, hp, f1, f2, f3⟩
      · rw [f2] at own f3
        obtain ⟨x3, k3, rfl, R3⟩ := rds_of_owns fR_len own rfl (by intro x' hx; cases hx)
        have c1 := first_any wr R2 x d
        rw [f1] at c1
        clear f1 f2 own hwO hcl HK2
        go_wp2_with fail
        refine c1.mono ?_
        clear c1
        rintro e w2 ⟨rfl, hb2⟩
        have c2 : Calls Try.prog 13 #[.slice x3 0 k3, .int .i64 x, .int .i64 d] w2 fun e w' => e = .returned (.int .i64 (-1)) ∧ Below w2.heap.size w2 w' := by rw [← f3]; exact first_any w2 (R3.later hb2) x d
        clear f3
        go_wp2_with fail
        refine c2.mono ?_
        clear c2
        rintro e w3 ⟨rfl, hb3⟩
        have hb4 := below_step (below_step (below_step hb1 hbr) hb2) hb3
        go_wp2_with fail
        go_ret
        exact ⟨rfl, hb4⟩
      · generalize keepK x d l = O at own hcl hwO hp f2 f3
        obtain ⟨x3, k3, rfl, R3⟩ := rds_of_owns fR_len own rfl hwO
        have gq : l[q]? = some (l.getD q default) := getD_at hq
        have gp : O[p]? = some (l.getD q default) := by rw [← f3]; exact getD_at hp
        generalize l.getD q default = s at gq gp
        obtain ⟨sa, sn, si, sp, sk, st⟩ := s
        have c1 := first_any wr R2 x d
        rw [f1] at c1
        have hqz : (q : Int) < (l.length : Int) := by omega
        have hpz : (p : Int) < (O.length : Int) := by omega
        have hq1 : decide ((q : Int) < 0) = false := decide_eq_false (by omega)
        have hp1 : decide ((p : Int) < 0) = false := decide_eq_false (by omega)
        have hq2 : decide (l.length ≤ q) = false := decide_eq_false (by omega)
        have hp2 : decide (O.length ≤ p) = false := decide_eq_false (by omega)
        have heq := eq_same sa sn si sp sk st
        clear f1 f3 own hwO hcl HK2
        go_wp2_with fail
        refine c1.mono ?_
        clear c1
        rintro e w2 ⟨rfl, hb2⟩
        have c2 := first_any w2 (R3.later hb2) x d
        rw [f2] at c2
        clear f2
        go_wp2_with fail
        refine c2.mono ?_
        clear c2
        rintro e w3 ⟨rfl, hb3⟩
        have hb4 := below_step (below_step (below_step hb1 hbr) hb2) hb3
        obtain ⟨b, o, rfl, hbb, hc⟩ := (R2.later (below_step hb2 hb3)).at gq
        obtain ⟨b2, o2, rfl, hbb2, hd⟩ := (R3.later (below_step hb2 hb3)).at gp
        have x0 := hc 0 _ rfl
        have x1 := hc 1 _ rfl
        have x2 := hc 2 _ rfl
        have x3 := hc 3 _ rfl
        have x4 := hc 4 _ rfl
        have x5 := hc 5 _ rfl
        rw [Nat.add_zero] at x0
        have y0 := hd 0 _ rfl
        have y1 := hd 1 _ rfl
        have y2 := hd 2 _ rfl
        have y3 := hd 3 _ rfl
        have y4 := hd 4 _ rfl
        have y5 := hd 5 _ rfl
        rw [Nat.add_zero] at y0
        clear hc hd R2 R3 R1 gq gp hb1 hbr hb2 hb3
        go_wp2_with fail
        go_quiet (fail)
        go_wp2_with fail
        go_ret
        exact ⟨rfl, hb4.trans (below_draws _ _ _)⟩
theorem walk (a : Option Addr) (c : Nat) (l : List Rl) (x d : Int) (wx : (Lit.int .i64 x).wf = true) (wd : (Lit.int .i64 d).wf = true) (w : World) (R : Rds fR 6 w a c l) :
    Calls Try.prog 8 #[.slice a l.length c, .int .i64 x, .int .i64 d] w fun e w' => e = .returned (.bool true) ∧ Below w.heap.size w w' := by
  by_cases hl : 60 < l.length
  · exact walk_long a c l x d w R hl
  · exact walk_short a c l x d w R (by omega)

theorem own : ownKnob Try.prog.godebug = none := by kernel_rfl
theorem laidOut : laidOutB Try.prog = true := by kernel_rfl
set_option maxRecDepth 100000 in
theorem lifted (os : Os) (started : os.Started) (H : Type) (enc : TypeId × Value → H) :
    ReturnsInHanded {} Try.checked os 8 .any (Rows.pickOnlySpec.pre6 enc Try.prog Try.f8 Rows.pickOnlyRow.domain false) (Rows.pickOnlySpec.post enc Try.prog Try.f8 false true false false) := by
  refine returnsInHanded_of_change (C := Try.checked) own started (by kernel_rfl) Try.func8
    (ChangeSpec.witness6 (enc := enc) (C := Try.checked) false ⟨#[], #[.slice none 0 0, .int .i64 0, .int .i64 0], []⟩ 8 (by kernel_rfl) (by kernel_rfl) (by kernel_rfl) (by kernel_rfl)) ?_
  intro W base args ds gs before hval0 hW hcnd _
  have hval : ∀ (j : Nat) t v, Try.f8.params[j]? = some t → args[j]? = some v → Value.okWide Try.prog W .any base t v := hval0
  have hW' := hW
  obtain ⟨p, q, hA0, hV, rfl, hfz, hnd⟩ := hW
  have hA : DataW.TrodAll enc Try.prog W 0 (fun _ => true) true Try.f8.params.toList args.toList ds p := hA0
  rw [Try.params8] at hA hval
  obtain ⟨v0, vs0, d0, ds0, p0, q0, hargs, rfl, rfl, h0, r0⟩ := trodAll_cons hA
  obtain ⟨v1, vs1, d1, ds1, p1, q1, rfl, rfl, rfl, h1, r1⟩ := trodAll_cons r0
  obtain ⟨v2, vs2, d2, ds2, p2, q2, rfl, rfl, rfl, h2, r2⟩ := trodAll_cons r1
  obtain ⟨rfl, rfl, rfl⟩ := trodAll_nil r2
  obtain rfl : args = #[v0, v1, v2] := by cases args; simp_all
  obtain ⟨rfl, rfl⟩ := trodVars_none hV
  obtain ⟨a0, n0, c0, rfl⟩ := okWide_slice Try.underlying22 (hval 0 22 v0 rfl rfl)
  have k0 := h0
  have lt0 : ∀ x ∈ p0, x.block < W.heap.size := by obtain ⟨m, hm⟩ := k0; exact DataW.trod_lt m _ _ _ hm
  have k1 := h1
  have lt1 : ∀ x ∈ p1, x.block < W.heap.size := by obtain ⟨m, hm⟩ := k1; exact DataW.trod_lt m _ _ _ hm
  have k2 := h2
  have lt2 : ∀ x ∈ p2, x.block < W.heap.size := by obtain ⟨m, hm⟩ := k2; exact DataW.trod_lt m _ _ _ hm
  obtain ⟨l0, el0, R0⟩ : ∃ l : List Pk.Rl, n0 = List.length l ∧ Rds fR 6 W a0 c0 l := by
    obtain ⟨fuel, hf⟩ := h0
    exact rds_of_trod Try.underlying22 (by kernel_rfl) (fun _ => rfl) (by decide) fR_len elemR (by simpa [Value.cells] using hf)
  subst el0
  obtain ⟨a1, rfl, rfl, hp1, w1⟩ := open_int Try.underlying3 (hval 1 3 v1 rfl rfl) h1
  obtain ⟨a2, rfl, rfl, hp2, w2⟩ := open_int Try.underlying3 (hval 2 3 v2 rfl rfl) h2
  clear hA0 hval0
  refine (walk a0 c0 l0 a1 a2 w1 w2 W R0).mono fun e W' ⟨he, bel⟩ => ?_
  subst he
  exact ⟨_, rfl, _, _, _, [], _, [], hW', trodAll_mk1 (shut_bool Try.underlying4 _), (trodAll_cons_mk (Below.trod laidOut (by kernel_rfl) (of_decide_eq_true (by kernel_rfl)) k0 bel lt0) (trodAll_cons_mk (Below.trod laidOut (by kernel_rfl) (of_decide_eq_true (by kernel_rfl)) k1 bel lt1) (trodAll_cons_mk (Below.trod laidOut (by kernel_rfl) (of_decide_eq_true (by kernel_rfl)) k2 bel lt2) trodAll_mk0))), rfl, bel.frame _, fun h => by cases h⟩

theorem over : Rows.pickOnlyRow.holds Try.pinned (OpenSpec.ofChange Rows.pickOnlySpec) :=
  OpenClaim.holds_of_wide 8 Try.f8 rfl rfl rfl rfl rfl rfl rfl ⟨rfl, rfl, rfl, rfl, rfl⟩ rfl rfl rfl rfl rfl (by kernel_rfl) Try.func8 (by kernel_rfl)
    (of_decide_eq_true (by kernel_rfl)) (by unfold Func.isWrapper; first | (rw [if_pos (by decide +kernel)]; kernel_rfl) | (rw [if_neg (by decide +kernel)]; exact ⟨rfl, rfl⟩))
    (fun os started H enc _ => lifted os started H enc)
end Go.Proofs.Ytbjgnlednkegiaa.pickOnly
namespace Go.Proofs.Ytbjgnlednkegiaa
theorem pickOnly_holds : Rows.PickOnlySaid := pickOnly.over
#print axioms pickOnly_holds
end Go.Proofs.Ytbjgnlednkegiaa
