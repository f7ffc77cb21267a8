/- What the document's answers on which rule counts come to: the contracts of its Same, before, First, Order. -/
import Derived.Test.YtinmhjgnapbkmaaRuleRefTwo
import Derived.Test.YtinmhjgnapbkmaaPickPlain
import Derived.Test.YtinmhjgnapbkmaaMaths
namespace Go.Proofs.Ytinmhjgnapbkmaa
open Go.ChangeShapes Go.WideShapes Go.ChangeAt Go.RowKit Pk R
set_option linter.unusedVariables false
set_option linter.unusedSimpArgs false

theorem ne_rl (ra rn ri rp rk rt sa sn si sp sk st : Int) (w : World) : (binOp .neq 35 (.agg #[.int .i64 ra, .int .i64 rn, .int .i64 ri, .int .i64 rp, .int .i64 rk, .int .i64 rt]) (.agg #[.int .i64 sa, .int .i64 sn, .int .i64 si, .int .i64 sp, .int .i64 sk, .int .i64 st])).run Try.prog w = .ok (.bool (!((ra == sa && rn == sn) && (ri == si && (rp == sp && (rk == sk && rt == st)))))) w := by
  cases h0 : (ra == sa)
  · go_simp
  cases h1 : (rn == sn)
  · go_simp
  cases h2 : (ri == si)
  · go_simp
  cases h3 : (rp == sp)
  · go_simp
  cases h4 : (rk == sk)
  · go_simp
  cases h5 : (rt == st)
  · go_simp
  go_simp
theorem rule_eqb {ra rn ri rp rk rt sa sn si sp sk st : Int} : ((ra == sa && rn == sn) && (ri == si && (rp == sp && (rk == sk && rt == st)))) = decide ((⟨ra, rn, ri, rp, rk, rt⟩ : Rl) = ⟨sa, sn, si, sp, sk, st⟩) := by
  rw [Bool.eq_iff_iff]
  simp [Bool.and_eq_true, Rl.mk.injEq, and_assoc]
theorem sameR_take {l m : List Rl} {k : Nat} (h : l.take k = m.take k) (hl : k < l.length) (hm : k < m.length) (he : l[k] = m[k]) : l.take (k + 1) = m.take (k + 1) := by
  rw [List.take_succ_eq_append_getElem hl, List.take_succ_eq_append_getElem hm, h, he]
theorem bef_dec (r s : Rl) : decide (bef r s) = if Pk.ahead r s = true then true else if Pk.ahead s r = true then false else if r.a = s.a then (if r.k = s.k then decide (r.t < s.t) else decide (r.k < s.k)) else decide (r.a < s.a) := by
  rw [Bool.eq_iff_iff]
  by_cases h1 : Pk.ahead r s = true
  · rw [if_pos h1]
    rw [ahead_iff] at h1
    simp only [decide_eq_true_eq, iff_true]
    unfold bef; omega
  · rw [if_neg h1]
    rw [ahead_iff] at h1
    by_cases h2 : Pk.ahead s r = true
    · rw [if_pos h2]
      rw [ahead_iff] at h2
      simp only [decide_eq_true_eq, Bool.false_eq_true, iff_false]
      unfold bef; omega
    · rw [if_neg h2]
      rw [ahead_iff] at h2
      split
      · split
        · simp only [decide_eq_true_eq]; unfold bef; omega
        · simp only [decide_eq_true_eq]; unfold bef; omega
      · simp only [decide_eq_true_eq]; unfold bef; omega
set_option maxHeartbeats 2000000 in
theorem rbefore_any (ra rn ri rp rk rt sa sn si sp sk st : Int) (w : World) :
    Calls Try.prog 33 #[.agg #[.int .i64 ra, .int .i64 rn, .int .i64 ri, .int .i64 rp, .int .i64 rk, .int .i64 rt], .agg #[.int .i64 sa, .int .i64 sn, .int .i64 si, .int .i64 sp, .int .i64 sk, .int .i64 st]] w fun e w' => e = .returned (.bool (decide (bef ⟨ra, rn, ri, rp, rk, rt⟩ ⟨sa, sn, si, sp, sk, st⟩))) ∧ Below w.heap.size w w' := by
  have HG0 := show Hid _ from bef_dec ⟨ra, rn, ri, rp, rk, rt⟩ ⟨sa, sn, si, sp, sk, st⟩
  generalize decide (bef ⟨ra, rn, ri, rp, rk, rt⟩ ⟨sa, sn, si, sp, sk, st⟩) = g at HG0 ⊢
  have hb0 := below_step (below_new w (.cells #[.int .i64 ra, .int .i64 rn, .int .i64 ri, .int .i64 rp, .int .i64 rk, .int .i64 rt] 35)) (below_new (w.alloc (.cells #[.int .i64 ra, .int .i64 rn, .int .i64 ri, .int .i64 rp, .int .i64 rk, .int .i64 rt] 35)) (.cells #[.int .i64 sa, .int .i64 sn, .int .i64 si, .int .i64 sp, .int .i64 sk, .int .i64 st] 35))
  have X := (Lies.new w [ra, rn, ri, rp, rk, rt] 35 rfl).later (below_new _ (.cells #[.int .i64 sa, .int .i64 sn, .int .i64 si, .int .i64 sp, .int .i64 sk, .int .i64 st] 35))
  have Y : Lies ((w.alloc (.cells #[.int .i64 ra, .int .i64 rn, .int .i64 ri, .int .i64 rp, .int .i64 rk, .int .i64 rt] 35)).alloc (.cells #[.int .i64 sa, .int .i64 sn, .int .i64 si, .int .i64 sp, .int .i64 sk, .int .i64 st] 35)) (w.heap.size + 1) [sa, sn, si, sp, sk, st] := Lies.new (w.alloc (.cells #[.int .i64 ra, .int .i64 rn, .int .i64 ri, .int .i64 rp, .int .i64 rk, .int .i64 rt] 35)) [sa, sn, si, sp, sk, st] 35 (by simp)
  have c1 := fun w => rrAhead_any ra rn ri rp rk rt sa sn si sp sk st w
  have c2 := fun w => rrAhead_any sa sn si sp sk st ra rn ri rp rk rt w
  generalize hu : ahB rn rp ri sn sp si = u at c1
  generalize hv : ahB sn sp si rn rp ri = v at c2
  have HU : Hid (Pk.ahead ⟨ra, rn, ri, rp, rk, rt⟩ ⟨sa, sn, si, sp, sk, st⟩ = u ∧ Pk.ahead ⟨sa, sn, si, sp, sk, st⟩ ⟨ra, rn, ri, rp, rk, rt⟩ = v) := ⟨hu, hv⟩
  have HG : Hid (g = (if u = true then true else if v = true then false else if ra = sa then if rk = sk then decide (rt < st) else decide (rk < sk) else decide (ra < sa))) := by
    show _ = _
    rw [HG0.out, HU.out.1, HU.out.2]
  clear hu hv HU HG0
  cases u with
  | true =>
    cases v with
    | true =>
      have HE : Hid (g = true) := by show _ = _; rw [HG.out]; simp
      clear HG
      go_enter Try.func33, Try.ntmps33
      go_wp2_with fail
      refine (c1 _).mono ?_
      rintro e w1 ⟨rfl, hb1⟩
      have Z1 := below_step hb0 hb1
      obtain ⟨x0, x1, x2, x3, x4, x5⟩ := (X.later hb1).six
      obtain ⟨y0, y1, y2, y3, y4, y5⟩ := (Y.later hb1).six
      go_wp2_with fail
      refine (c2 _).mono ?_
      rintro e w2 ⟨rfl, hb2⟩
      have Z2 := below_step Z1 hb2
      obtain ⟨u0, u1, u2, u3, u4, u5⟩ := ((X.later hb1).later hb2).six
      obtain ⟨v0, v1, v2, v3, v4, v5⟩ := ((Y.later hb1).later hb2).six
      clear x0 x1 x2 x3 x4 x5 y0 y1 y2 y3 y4 y5 c1 c2
      go_wp2_with fail
      go_ret
      exact ⟨ret_bool HE.out.symm, Z2⟩
    | false =>
      have HE : Hid (g = true) := by show _ = _; rw [HG.out]; simp
      clear HG
      go_enter Try.func33, Try.ntmps33
      go_wp2_with fail
      refine (c1 _).mono ?_
      rintro e w1 ⟨rfl, hb1⟩
      have Z1 := below_step hb0 hb1
      obtain ⟨x0, x1, x2, x3, x4, x5⟩ := (X.later hb1).six
      obtain ⟨y0, y1, y2, y3, y4, y5⟩ := (Y.later hb1).six
      go_wp2_with fail
      refine (c2 _).mono ?_
      rintro e w2 ⟨rfl, hb2⟩
      have Z2 := below_step Z1 hb2
      obtain ⟨u0, u1, u2, u3, u4, u5⟩ := ((X.later hb1).later hb2).six
      obtain ⟨v0, v1, v2, v3, v4, v5⟩ := ((Y.later hb1).later hb2).six
      clear x0 x1 x2 x3 x4 x5 y0 y1 y2 y3 y4 y5 c1 c2
      go_wp2_with fail
      go_ret
      exact ⟨ret_bool HE.out.symm, Z2⟩
  | false =>
    cases v with
    | true =>
      have HE : Hid (g = false) := by show _ = _; rw [HG.out]; simp
      clear HG
      go_enter Try.func33, Try.ntmps33
      go_wp2_with fail
      refine (c1 _).mono ?_
      rintro e w1 ⟨rfl, hb1⟩
      have Z1 := below_step hb0 hb1
      obtain ⟨x0, x1, x2, x3, x4, x5⟩ := (X.later hb1).six
      obtain ⟨y0, y1, y2, y3, y4, y5⟩ := (Y.later hb1).six
      go_wp2_with fail
      refine (c2 _).mono ?_
      rintro e w2 ⟨rfl, hb2⟩
      have Z2 := below_step Z1 hb2
      obtain ⟨u0, u1, u2, u3, u4, u5⟩ := ((X.later hb1).later hb2).six
      obtain ⟨v0, v1, v2, v3, v4, v5⟩ := ((Y.later hb1).later hb2).six
      clear x0 x1 x2 x3 x4 x5 y0 y1 y2 y3 y4 y5 c1 c2
      go_wp2_with fail
      go_ret
      exact ⟨ret_bool HE.out.symm, Z2⟩
    | false =>
      by_cases ha : ra = sa
      · have hab : (ra != sa) = false := by simp [ha]
        by_cases hk : rk = sk
        · have hkb : (rk != sk) = false := by simp [hk]
          have HE : Hid (g = decide (rt < st)) := by show _ = _; rw [HG.out]; simp [ha, hk]
          clear HG
          clear ha hk
          go_enter Try.func33, Try.ntmps33
          go_wp2_with fail
          refine (c1 _).mono ?_
          rintro e w1 ⟨rfl, hb1⟩
          have Z1 := below_step hb0 hb1
          obtain ⟨x0, x1, x2, x3, x4, x5⟩ := (X.later hb1).six
          obtain ⟨y0, y1, y2, y3, y4, y5⟩ := (Y.later hb1).six
          go_wp2_with fail
          refine (c2 _).mono ?_
          rintro e w2 ⟨rfl, hb2⟩
          have Z2 := below_step Z1 hb2
          obtain ⟨u0, u1, u2, u3, u4, u5⟩ := ((X.later hb1).later hb2).six
          obtain ⟨v0, v1, v2, v3, v4, v5⟩ := ((Y.later hb1).later hb2).six
          clear x0 x1 x2 x3 x4 x5 y0 y1 y2 y3 y4 y5 c1 c2
          go_wp2_with fail
          go_ret
          exact ⟨ret_bool HE.out.symm, Z2⟩
        · have hkb : (rk != sk) = true := by simp [hk]
          have HE : Hid (g = decide (rk < sk)) := by show _ = _; rw [HG.out]; simp [ha, hk]
          clear HG
          clear ha hk
          go_enter Try.func33, Try.ntmps33
          go_wp2_with fail
          refine (c1 _).mono ?_
          rintro e w1 ⟨rfl, hb1⟩
          have Z1 := below_step hb0 hb1
          obtain ⟨x0, x1, x2, x3, x4, x5⟩ := (X.later hb1).six
          obtain ⟨y0, y1, y2, y3, y4, y5⟩ := (Y.later hb1).six
          go_wp2_with fail
          refine (c2 _).mono ?_
          rintro e w2 ⟨rfl, hb2⟩
          have Z2 := below_step Z1 hb2
          obtain ⟨u0, u1, u2, u3, u4, u5⟩ := ((X.later hb1).later hb2).six
          obtain ⟨v0, v1, v2, v3, v4, v5⟩ := ((Y.later hb1).later hb2).six
          clear x0 x1 x2 x3 x4 x5 y0 y1 y2 y3 y4 y5 c1 c2
          go_wp2_with fail
          go_ret
          exact ⟨ret_bool HE.out.symm, Z2⟩
      · have hab : (ra != sa) = true := by simp [ha]
        have HE : Hid (g = decide (ra < sa)) := by show _ = _; rw [HG.out]; simp [ha]
        clear HG
        clear ha
        go_enter Try.func33, Try.ntmps33
        go_wp2_with fail
        refine (c1 _).mono ?_
        rintro e w1 ⟨rfl, hb1⟩
        have Z1 := below_step hb0 hb1
        obtain ⟨x0, x1, x2, x3, x4, x5⟩ := (X.later hb1).six
        obtain ⟨y0, y1, y2, y3, y4, y5⟩ := (Y.later hb1).six
        go_wp2_with fail
        refine (c2 _).mono ?_
        rintro e w2 ⟨rfl, hb2⟩
        have Z2 := below_step Z1 hb2
        obtain ⟨u0, u1, u2, u3, u4, u5⟩ := ((X.later hb1).later hb2).six
        obtain ⟨v0, v1, v2, v3, v4, v5⟩ := ((Y.later hb1).later hb2).six
        clear x0 x1 x2 x3 x4 x5 y0 y1 y2 y3 y4 y5 c1 c2
        go_wp2_with fail
        go_ret
        exact ⟨ret_bool HE.out.symm, Z2⟩
end Go.Proofs.Ytinmhjgnapbkmaa
