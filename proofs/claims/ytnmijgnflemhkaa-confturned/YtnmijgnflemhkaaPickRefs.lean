/- What the document's answers on which rule counts come to: the contracts of its Same, before, First, Order. -/
import Derived.Test.YtnmijgnflemhkaaRuleRefTwo
import Derived.Test.YtnmijgnflemhkaaPickPlain
import Derived.Test.YtnmijgnflemhkaaMaths
namespace Go.Proofs.Ytnmijgnflemhkaa
open Go.ChangeShapes Go.WideShapes Go.ChangeAt Go.RowKit Pk R
set_option linter.unusedVariables false
set_option linter.unusedSimpArgs false

theorem ne_rl (ra rn ri rp rk rt sa sn si sp sk st : Int) (w : World) : (binOp .neq 42 (.agg #[.int .i64 ra, .int .i64 rn, .int .i64 ri, .int .i64 rp, .int .i64 rk, .int .i64 rt]) (.agg #[.int .i64 sa, .int .i64 sn, .int .i64 si, .int .i64 sp, .int .i64 sk, .int .i64 st])).run Try.prog w = .ok (.bool (!((ra == sa && rn == sn) && (ri == si && (rp == sp && (rk == sk && rt == st)))))) w := by
  cases h0 : (ra == sa)
  · go_simp
  cases h1 : (rn == sn)
  · go_simp
  cases h2 : (ri == si)
  · go_simp
  cases h3 : (rp == sp)
  · go_simp
  cases h4 : (rk == sk)
  · go_simp
  cases h5 : (rt == st)
  · go_simp
  go_simp
theorem rule_eqb {ra rn ri rp rk rt sa sn si sp sk st : Int} : ((ra == sa && rn == sn) && (ri == si && (rp == sp && (rk == sk && rt == st)))) = decide ((⟨ra, rn, ri, rp, rk, rt⟩ : Rl) = ⟨sa, sn, si, sp, sk, st⟩) := by
  rw [Bool.eq_iff_iff]
  simp [Bool.and_eq_true, Rl.mk.injEq, and_assoc]
theorem sameR_take {l m : List Rl} {k : Nat} (h : l.take k = m.take k) (hl : k < l.length) (hm : k < m.length) (he : l[k] = m[k]) : l.take (k + 1) = m.take (k + 1) := by
  rw [List.take_succ_eq_append_getElem hl, List.take_succ_eq_append_getElem hm, h, he]
set_option maxHeartbeats 2000000 in
theorem rsame8_any (w : World) {a b : Option Addr} {c d : Nat} {l m : List Rl} (R : Rds fR 6 w a c l) (Q : Rds fR 6 w b d m) :
    Calls Try.prog 13 #[.slice a l.length c, .slice b m.length d] w fun e w' => e = .returned (.bool (decide (l = m))) ∧ Below w.heap.size w w' := by
  have hmx := Nat.le_trans R.le R.max
  have hmy := Nat.le_trans Q.le Q.max
  unfold maxLen at hmx hmy
  by_cases hlen : l.length = m.length
  case neg =>
    have hne : decide (l = m) = false := decide_eq_false fun e => hlen (by rw [e])
    have hi : ¬ (l.length : Int) = (m.length : Int) := by omega
    have hb : ((l.length : Int) != (m.length : Int)) = true := by simpa using hi
    rw [hne]
    clear hne hlen hi hmx hmy
    go_enter Try.func13, Try.ntmps13
    go_wp2
    go_ret
    exact ⟨rfl, Below.refl _ _⟩
  have HL : Hid (l.length = m.length) := hlen
  rw [← hlen]
  have hk2 : (((l.length : Nat) : Int) != ((l.length : Nat) : Int)) = false := by simp
  have HMX : Hid (l.length ≤ 140737488355327 ∨ True) := .inr trivial
  clear hlen hmy
  go_enter Try.func13, Try.ntmps13
  go_wp2
  go_loopw [5] (fun i wr => ∃ k : Nat, k ≤ l.length ∧ i = .int .i64 k ∧ Below w.heap.size w wr ∧ Hid (l.take k = m.take k)) (fun i _ => l.length - (intOf i).toNat)
  case atStart => exact ⟨0, by omega, rfl, Below.refl _ _, rfl⟩
  case round =>
    obtain ⟨k, hk, rfl, hbr, HA⟩ := hrel
    by_cases hlt : k < l.length
    · have hlm : k < m.length := by rw [← HL.out]; exact hlt
      have gl : l[k]? = some l[k] := List.getElem?_eq_getElem hlt
      have gm : m[k]? = some m[k] := List.getElem?_eq_getElem hlm
      obtain ⟨b1, o1, rfl, hbb, hc⟩ := (R.later hbr).at gl
      obtain ⟨b2, o2, rfl, hbb2, hd⟩ := (Q.later hbr).at gm
      have NX : Hid (l[k] = m[k] → l.take (k + 1) = m.take (k + 1)) := fun he => sameR_take HA.out hlt hlm he
      have NE : Hid (l[k] ≠ m[k] → decide (l = m) = false) := fun he => decide_eq_false fun e => he (by subst e; rfl)
      generalize l[k] = r at hc NX NE
      generalize m[k] = s at hd NX NE
      obtain ⟨ra, rn, ri, rp, rk, rt⟩ := r
      obtain ⟨sa, sn, si, sp, sk, st⟩ := s
      have c0 := hc 0 _ rfl
      have d0 := hd 0 _ rfl
      have c1 := hc 1 _ rfl
      have d1 := hd 1 _ rfl
      have c2 := hc 2 _ rfl
      have d2 := hd 2 _ rfl
      have c3 := hc 3 _ rfl
      have d3 := hd 3 _ rfl
      have c4 := hc 4 _ rfl
      have d4 := hd 4 _ rfl
      have c5 := hc 5 _ rfl
      have d5 := hd 5 _ rfl
      rw [Nat.add_zero] at c0 d0
      have hi : (k : Int) < (l.length : Int) := by omega
      have hq := fun w => ne_rl ra rn ri rp rk rt sa sn si sp sk st w
      by_cases he : (⟨ra, rn, ri, rp, rk, rt⟩ : Rl) = ⟨sa, sn, si, sp, sk, st⟩
      · have N2 := show Hid _ from NX.out he
        rw [show ((ra == sa && rn == sn) && (ri == si && (rp == sp && (rk == sk && rt == st)))) = true by rw [rule_eqb]; exact decide_eq_true he] at hq
        clear he NX NE hc hd gl gm hlm
        go_wp2_with fail
        go_quiet (fail)
        go_wp2_with fail
        go_roundw
        case rel => exact ⟨k + 1, by omega, by go_num, hbr.trans (below_draws _ _ _), N2⟩
        case measure => simp [intOf]; omega
      · have N2 := show Hid _ from NE.out he
        rw [show ((ra == sa && rn == sn) && (ri == si && (rp == sp && (rk == sk && rt == st)))) = false by rw [rule_eqb]; exact decide_eq_false he] at hq
        clear he NX NE hc hd gl gm hlm
        go_wp2_with fail
        go_quiet (fail)
        go_wp2_with fail
        go_ret
        exact ⟨ret_bool N2.out.symm, hbr.trans (below_draws _ _ _)⟩
    · have hkl : k = l.length := by omega
      have heq : l = m := by
        have := HA.out
        rw [hkl, List.take_length] at this
        rw [HL.out, List.take_length] at this
        exact this
      go_wp2_with fail
      go_ret
      exact ⟨ret_bool (decide_eq_true heq).symm, hbr⟩
theorem bef_dec (r s : Rl) : decide (bef r s) = if Pk.ahead r s = true then true else if Pk.ahead s r = true then false else if r.a = s.a then (if r.k = s.k then decide (r.t < s.t) else decide (r.k < s.k)) else decide (r.a < s.a) := by
  rw [Bool.eq_iff_iff]
  by_cases h1 : Pk.ahead r s = true
  · rw [if_pos h1]
    rw [ahead_iff] at h1
    simp only [decide_eq_true_eq, iff_true]
    unfold bef; omega
  · rw [if_neg h1]
    rw [ahead_iff] at h1
    by_cases h2 : Pk.ahead s r = true
    · rw [if_pos h2]
      rw [ahead_iff] at h2
      simp only [decide_eq_true_eq, Bool.false_eq_true, iff_false]
      unfold bef; omega
    · rw [if_neg h2]
      rw [ahead_iff] at h2
      split
      · split
        · simp only [decide_eq_true_eq]; unfold bef; omega
        · simp only [decide_eq_true_eq]; unfold bef; omega
      · simp only [decide_eq_true_eq]; unfold bef; omega
set_option maxHeartbeats 2000000 in
theorem rbefore_any (ra rn ri rp rk rt sa sn si sp sk st : Int) (w : World) :
    Calls Try.prog 33 #[.agg #[.int .i64 ra, .int .i64 rn, .int .i64 ri, .int .i64 rp, .int .i64 rk, .int .i64 rt], .agg #[.int .i64 sa, .int .i64 sn, .int .i64 si, .int .i64 sp, .int .i64 sk, .int .i64 st]] w fun e w' => e = .returned (.bool (decide (bef ⟨ra, rn, ri, rp, rk, rt⟩ ⟨sa, sn, si, sp, sk, st⟩))) ∧ Below w.heap.size w w' := by
  have HG0 := show Hid _ from bef_dec ⟨ra, rn, ri, rp, rk, rt⟩ ⟨sa, sn, si, sp, sk, st⟩
  generalize decide (bef ⟨ra, rn, ri, rp, rk, rt⟩ ⟨sa, sn, si, sp, sk, st⟩) = g at HG0 ⊢
  have hb0 := below_step (below_new w (.cells #[.int .i64 ra, .int .i64 rn, .int .i64 ri, .int .i64 rp, .int .i64 rk, .int .i64 rt] 42)) (below_new (w.alloc (.cells #[.int .i64 ra, .int .i64 rn, .int .i64 ri, .int .i64 rp, .int .i64 rk, .int .i64 rt] 42)) (.cells #[.int .i64 sa, .int .i64 sn, .int .i64 si, .int .i64 sp, .int .i64 sk, .int .i64 st] 42))
  have X := (Lies.new w [ra, rn, ri, rp, rk, rt] 42 rfl).later (below_new _ (.cells #[.int .i64 sa, .int .i64 sn, .int .i64 si, .int .i64 sp, .int .i64 sk, .int .i64 st] 42))
  have Y : Lies ((w.alloc (.cells #[.int .i64 ra, .int .i64 rn, .int .i64 ri, .int .i64 rp, .int .i64 rk, .int .i64 rt] 42)).alloc (.cells #[.int .i64 sa, .int .i64 sn, .int .i64 si, .int .i64 sp, .int .i64 sk, .int .i64 st] 42)) (w.heap.size + 1) [sa, sn, si, sp, sk, st] := Lies.new (w.alloc (.cells #[.int .i64 ra, .int .i64 rn, .int .i64 ri, .int .i64 rp, .int .i64 rk, .int .i64 rt] 42)) [sa, sn, si, sp, sk, st] 42 (by simp)
  have c1 := fun w => rrAhead_any ra rn ri rp rk rt sa sn si sp sk st w
  have c2 := fun w => rrAhead_any sa sn si sp sk st ra rn ri rp rk rt w
  generalize hu : ahB rn rp ri sn sp si = u at c1
  generalize hv : ahB sn sp si rn rp ri = v at c2
  have HU : Hid (Pk.ahead ⟨ra, rn, ri, rp, rk, rt⟩ ⟨sa, sn, si, sp, sk, st⟩ = u ∧ Pk.ahead ⟨sa, sn, si, sp, sk, st⟩ ⟨ra, rn, ri, rp, rk, rt⟩ = v) := ⟨hu, hv⟩
  have HG : Hid (g = (if u = true then true else if v = true then false else if ra = sa then if rk = sk then decide (rt < st) else decide (rk < sk) else decide (ra < sa))) := by
    show _ = _
    rw [HG0.out, HU.out.1, HU.out.2]
  clear hu hv HU HG0
  cases u with
  | true =>
    cases v with
    | true =>
      have HE : Hid (g = true) := by show _ = _; rw [HG.out]; simp
      clear HG
      go_enter Try.func33, Try.ntmps33
      go_wp2_with fail
      refine (c1 _).mono ?_
      rintro e w1 ⟨rfl, hb1⟩
      have Z1 := below_step hb0 hb1
      obtain ⟨x0, x1, x2, x3, x4, x5⟩ := (X.later hb1).six
      obtain ⟨y0, y1, y2, y3, y4, y5⟩ := (Y.later hb1).six
      go_wp2_with fail
      refine (c2 _).mono ?_
      rintro e w2 ⟨rfl, hb2⟩
      have Z2 := below_step Z1 hb2
      obtain ⟨u0, u1, u2, u3, u4, u5⟩ := ((X.later hb1).later hb2).six
      obtain ⟨v0, v1, v2, v3, v4, v5⟩ := ((Y.later hb1).later hb2).six
      clear x0 x1 x2 x3 x4 x5 y0 y1 y2 y3 y4 y5 c1 c2
      go_wp2_with fail
      go_ret
      exact ⟨ret_bool HE.out.symm, Z2⟩
    | false =>
      have HE : Hid (g = true) := by show _ = _; rw [HG.out]; simp
      clear HG
      go_enter Try.func33, Try.ntmps33
      go_wp2_with fail
      refine (c1 _).mono ?_
      rintro e w1 ⟨rfl, hb1⟩
      have Z1 := below_step hb0 hb1
      obtain ⟨x0, x1, x2, x3, x4, x5⟩ := (X.later hb1).six
      obtain ⟨y0, y1, y2, y3, y4, y5⟩ := (Y.later hb1).six
      go_wp2_with fail
      refine (c2 _).mono ?_
      rintro e w2 ⟨rfl, hb2⟩
      have Z2 := below_step Z1 hb2
      obtain ⟨u0, u1, u2, u3, u4, u5⟩ := ((X.later hb1).later hb2).six
      obtain ⟨v0, v1, v2, v3, v4, v5⟩ := ((Y.later hb1).later hb2).six
      clear x0 x1 x2 x3 x4 x5 y0 y1 y2 y3 y4 y5 c1 c2
      go_wp2_with fail
      go_ret
      exact ⟨ret_bool HE.out.symm, Z2⟩
  | false =>
    cases v with
    | true =>
      have HE : Hid (g = false) := by show _ = _; rw [HG.out]; simp
      clear HG
      go_enter Try.func33, Try.ntmps33
      go_wp2_with fail
      refine (c1 _).mono ?_
      rintro e w1 ⟨rfl, hb1⟩
      have Z1 := below_step hb0 hb1
      obtain ⟨x0, x1, x2, x3, x4, x5⟩ := (X.later hb1).six
      obtain ⟨y0, y1, y2, y3, y4, y5⟩ := (Y.later hb1).six
      go_wp2_with fail
      refine (c2 _).mono ?_
      rintro e w2 ⟨rfl, hb2⟩
      have Z2 := below_step Z1 hb2
      obtain ⟨u0, u1, u2, u3, u4, u5⟩ := ((X.later hb1).later hb2).six
      obtain ⟨v0, v1, v2, v3, v4, v5⟩ := ((Y.later hb1).later hb2).six
      clear x0 x1 x2 x3 x4 x5 y0 y1 y2 y3 y4 y5 c1 c2
      go_wp2_with fail
      go_ret
      exact ⟨ret_bool HE.out.symm, Z2⟩
    | false =>
      by_cases ha : ra = sa
      · have hab : (ra != sa) = false := by simp [ha]
        by_cases hk : rk = sk
        · have hkb : (rk != sk) = false := by simp [hk]
          have HE : Hid (g = decide (rt < st)) := by show _ = _; rw [HG.out]; simp [ha, hk]
          clear HG
          clear ha hk
          go_enter Try.func33, Try.ntmps33
          go_wp2_with fail
          refine (c1 _).mono ?_
          rintro e w1 ⟨rfl, hb1⟩
          have Z1 := below_step hb0 hb1
          obtain ⟨x0, x1, x2, x3, x4, x5⟩ := (X.later hb1).six
          obtain ⟨y0, y1, y2, y3, y4, y5⟩ := (Y.later hb1).six
          go_wp2_with fail
          refine (c2 _).mono ?_
          rintro e w2 ⟨rfl, hb2⟩
          have Z2 := below_step Z1 hb2
          obtain ⟨u0, u1, u2, u3, u4, u5⟩ := ((X.later hb1).later hb2).six
          obtain ⟨v0, v1, v2, v3, v4, v5⟩ := ((Y.later hb1).later hb2).six
          clear x0 x1 x2 x3 x4 x5 y0 y1 y2 y3 y4 y5 c1 c2
          go_wp2_with fail
          go_ret
          exact ⟨ret_bool HE.out.symm, Z2⟩
        · have hkb : (rk != sk) = true := by simp [hk]
          have HE : Hid (g = decide (rk < sk)) := by show _ = _; rw [HG.out]; simp [ha, hk]
          clear HG
          clear ha hk
          go_enter Try.func33, Try.ntmps33
          go_wp2_with fail
          refine (c1 _).mono ?_
          rintro e w1 ⟨rfl, hb1⟩
          have Z1 := below_step hb0 hb1
          obtain ⟨x0, x1, x2, x3, x4, x5⟩ := (X.later hb1).six
          obtain ⟨y0, y1, y2, y3, y4, y5⟩ := (Y.later hb1).six
          go_wp2_with fail
          refine (c2 _).mono ?_
          rintro e w2 ⟨rfl, hb2⟩
          have Z2 := below_step Z1 hb2
          obtain ⟨u0, u1, u2, u3, u4, u5⟩ := ((X.later hb1).later hb2).six
          obtain ⟨v0, v1, v2, v3, v4, v5⟩ := ((Y.later hb1).later hb2).six
          clear x0 x1 x2 x3 x4 x5 y0 y1 y2 y3 y4 y5 c1 c2
          go_wp2_with fail
          go_ret
          exact ⟨ret_bool HE.out.symm, Z2⟩
      · have hab : (ra != sa) = true := by simp [ha]
        have HE : Hid (g = decide (ra < sa)) := by show _ = _; rw [HG.out]; simp [ha]
        clear HG
        clear ha
        go_enter Try.func33, Try.ntmps33
        go_wp2_with fail
        refine (c1 _).mono ?_
        rintro e w1 ⟨rfl, hb1⟩
        have Z1 := below_step hb0 hb1
        obtain ⟨x0, x1, x2, x3, x4, x5⟩ := (X.later hb1).six
        obtain ⟨y0, y1, y2, y3, y4, y5⟩ := (Y.later hb1).six
        go_wp2_with fail
        refine (c2 _).mono ?_
        rintro e w2 ⟨rfl, hb2⟩
        have Z2 := below_step Z1 hb2
        obtain ⟨u0, u1, u2, u3, u4, u5⟩ := ((X.later hb1).later hb2).six
        obtain ⟨v0, v1, v2, v3, v4, v5⟩ := ((Y.later hb1).later hb2).six
        clear x0 x1 x2 x3 x4 x5 y0 y1 y2 y3 y4 y5 c1 c2
        go_wp2_with fail
        go_ret
        exact ⟨ret_bool HE.out.symm, Z2⟩
end Go.Proofs.Ytnmijgnflemhkaa
