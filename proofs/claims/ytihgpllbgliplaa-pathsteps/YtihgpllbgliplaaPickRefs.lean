/- What the document's answers on which rule counts come to: the contracts of its Same, before, First, Order. -/
import Derived.Test.YtihgpllbgliplaaRuleRefTwo
import Derived.Test.YtihgpllbgliplaaPickPlain
import Derived.Test.YtihgpllbgliplaaMaths
namespace Go.Proofs.Ytihgpllbgliplaa
open Go.ChangeShapes Go.WideShapes Go.ChangeAt Go.RowKit Pk R
set_option linter.unusedVariables false
set_option linter.unusedSimpArgs false

theorem ne_rl (ra rn ri rp rk rt sa sn si sp sk st : Int) (w : World) : (binOp .neq 60 (.agg #[.int .i64 ra, .int .i64 rn, .int .i64 ri, .int .i64 rp, .int .i64 rk, .int .i64 rt]) (.agg #[.int .i64 sa, .int .i64 sn, .int .i64 si, .int .i64 sp, .int .i64 sk, .int .i64 st])).run Try.prog w = .ok (.bool (!((ra == sa && rn == sn) && (ri == si && (rp == sp && (rk == sk && rt == st)))))) w := by
  cases h0 : (ra == sa)
  · go_simp
  cases h1 : (rn == sn)
  · go_simp
  cases h2 : (ri == si)
  · go_simp
  cases h3 : (rp == sp)
  · go_simp
  cases h4 : (rk == sk)
  · go_simp
  cases h5 : (rt == st)
  · go_simp
  go_simp
theorem rule_eqb {ra rn ri rp rk rt sa sn si sp sk st : Int} : ((ra == sa && rn == sn) && (ri == si && (rp == sp && (rk == sk && rt == st)))) = decide ((⟨ra, rn, ri, rp, rk, rt⟩ : Rl) = ⟨sa, sn, si, sp, sk, st⟩) := by
  rw [Bool.eq_iff_iff]
  simp [Bool.and_eq_true, Rl.mk.injEq, and_assoc]
theorem sameR_take {l m : List Rl} {k : Nat} (h : l.take k = m.take k) (hl : k < l.length) (hm : k < m.length) (he : l[k] = m[k]) : l.take (k + 1) = m.take (k + 1) := by
  rw [List.take_succ_eq_append_getElem hl, List.take_succ_eq_append_getElem hm, h, he]
theorem bef_dec (r s : Rl) : decide (bef r s) = if Pk.ahead r s = true then true else if Pk.ahead s r = true then false else if r.a = s.a then (if r.k = s.k then decide (r.t < s.t) else decide (r.k < s.k)) else decide (r.a < s.a) := by
  rw [Bool.eq_iff_iff]
  by_cases h1 : Pk.ahead r s = true
  · rw [if_pos h1]
    rw [ahead_iff] at h1
    simp only [decide_eq_true_eq, iff_true]
    unfold bef; omega
  · rw [if_neg h1]
    rw [ahead_iff] at h1
    by_cases h2 : Pk.ahead s r = true
    · rw [if_pos h2]
      rw [ahead_iff] at h2
      simp only [decide_eq_true_eq, Bool.false_eq_true, iff_false]
      unfold bef; omega
    · rw [if_neg h2]
      rw [ahead_iff] at h2
      split
      · split
        · simp only [decide_eq_true_eq]; unfold bef; omega
        · simp only [decide_eq_true_eq]; unfold bef; omega
      · simp only [decide_eq_true_eq]; unfold bef; omega
set_option maxRecDepth 100000 in
set_option maxHeartbeats 4000000 in
theorem rfirst8_any (w : World) {a : Option Addr} {c : Nat} {l : List Rl} (R : Rds fR 6 w a c l) (x d : Int) :
    Calls Try.prog 23 #[.slice a l.length c, .int .i64 x, .int .i64 d] w fun e w' => e = .returned (.int .i64 (firstL x d l)) ∧ Below w.heap.size w w' := by
  have hmx := Nat.le_trans R.le R.max
  unfold maxLen at hmx
  have HF : Hid (firstL x d l = firstK x d l l.length) := rfl
  generalize firstL x d l = res at HF
  go_enter Try.func23, Try.ntmps23
  go_wp2_with fail
  go_loopw [8, 7] (fun v f wr => ∃ k : Nat, k ≤ l.length ∧ v = .int .i64 (k : Nat) ∧ f = .int .i64 (firstK x d l k) ∧ Below w.heap.size w wr) (fun v _ _ => l.length - (intOf v).toNat)
  case atStart => exact ⟨0, by omega, rfl, rfl, Below.refl _ _⟩
  case round =>
    obtain ⟨k, hk, rfl, rfl, hbr⟩ := hrel
    by_cases hlt : k < l.length
    · have hkz : (k : Int) < (l.length : Int) := by omega
      obtain ⟨b, o, rfl, hbr1, hc⟩ := (R.later hbr).at (getD_at hlt)
      have hbd := firstK_bd x d l k
      have NX : Hid (firstK x d l (k + 1) = if fits x d (l.getD k default) = true then (if firstK x d l k = -1 then (k : Int) else if Pk.ahead (l.getD k default) (l.getD (firstK x d l k).toNat default) = true then (k : Int) else firstK x d l k) else firstK x d l k) := rfl
      have gk := getD_at hlt
      generalize hrk : l.getD k default = r at hc NX gk
      obtain ⟨ra, rn, ri, rp, rk, rt⟩ := r
      have v0 := hc 0 _ rfl
      have v1 := hc 1 _ rfl
      have v2 := hc 2 _ rfl
      have v3 := hc 3 _ rfl
      have v4 := hc 4 _ rfl
      have v5 := hc 5 _ rfl
      rw [Nat.add_zero] at v0
      clear hc hrk
      have cF := fun u => rrFits_any ra rn ri rp rk rt x d u
      generalize hfk : firstK x d l k = f at hbd NX
      clear hfk
      cases hfit : fitB ra rn ri x d with
      | false =>
        rw [hfit] at cF
        have N2 : Hid (firstK x d l (k + 1) = f) := by
          show _ = _
          rw [NX.out, if_neg (by show ¬ fitB ra rn ri x d = true; rw [hfit]; decide)]
        clear NX hbd hfit
        go_wp2_with fail
        refine (cF _).mono ?_
        rintro e w2 ⟨rfl, hb2⟩
        go_wp2_with fail
        go_roundw
        case rel => exact ⟨k + 1, by omega, by go_num, by rw [N2.out], below_step hbr hb2⟩
        case measure => simp [intOf]; omega
      | true =>
        rw [hfit] at cF
        have N2 : Hid (firstK x d l (k + 1) = if f = -1 then (k : Int) else if Pk.ahead ⟨ra, rn, ri, rp, rk, rt⟩ (l.getD f.toNat default) = true then (k : Int) else f) := by
          show _ = _
          rw [NX.out, if_pos (by show fitB ra rn ri x d = true; exact hfit)]
        clear NX hfit
        by_cases hf : f = -1
        · subst hf
          have N3 : Hid (firstK x d l (k + 1) = (k : Int)) := by show _ = _; rw [N2.out, if_pos rfl]
          clear N2 hbd
          go_wp2_with fail
          refine (cF _).mono ?_
          rintro e w2 ⟨rfl, hb2⟩
          go_wp2_with fail
          go_roundw
          case rel => exact ⟨k + 1, by omega, by go_num, by rw [N3.out], below_step hbr hb2⟩
          case measure => simp [intOf]; omega
        · obtain ⟨q, rfl⟩ : ∃ q : Nat, f = (q : Int) := ⟨f.toNat, by omega⟩
          have hq : q < l.length := by omega
          have hqz : (q : Int) < (l.length : Int) := by omega
          have hq0 : ¬ (q : Int) < 0 := by omega
          rw [if_neg hf, Int.toNat_natCast] at N2
          have gq := getD_at hq
          generalize l.getD q default = s at N2 gq
          obtain ⟨sa, sn, si, sp, sk, st⟩ := s
          have cA := fun u => rrAhead_any ra rn ri rp rk rt sa sn si sp sk st u
          clear hf hbd
          go_wp2_with fail
          refine (cF _).mono ?_
          rintro e w2 ⟨rfl, hb2⟩
          have hbw := below_step hbr hb2
          obtain ⟨b1, o1, e1, hl1, hc1⟩ := (R.later hbw).at gk
          cases e1
          obtain ⟨b2, o2, e2, hl2, hc2⟩ := (R.later hbw).at gq
          cases e2
          have x0 := hc1 0 _ rfl
          have x1 := hc1 1 _ rfl
          have x2 := hc1 2 _ rfl
          have x3 := hc1 3 _ rfl
          have x4 := hc1 4 _ rfl
          have x5 := hc1 5 _ rfl
          have y0 := hc2 0 _ rfl
          have y1 := hc2 1 _ rfl
          have y2 := hc2 2 _ rfl
          have y3 := hc2 3 _ rfl
          have y4 := hc2 4 _ rfl
          have y5 := hc2 5 _ rfl
          rw [Nat.add_zero] at x0 y0
          have z0 := cell_bw (a := ⟨b, o + k * 6, none⟩) hl1 x0
          have t0 := cell_bw (a := ⟨b, o + q * 6, none⟩) hl1 y0
          have z1 := cell_bw (a := ⟨b, o + k * 6 + 1, none⟩) hl1 x1
          have t1 := cell_bw (a := ⟨b, o + q * 6 + 1, none⟩) hl1 y1
          have z2 := cell_bw (a := ⟨b, o + k * 6 + 2, none⟩) hl1 x2
          have t2 := cell_bw (a := ⟨b, o + q * 6 + 2, none⟩) hl1 y2
          have z3 := cell_bw (a := ⟨b, o + k * 6 + 3, none⟩) hl1 x3
          have t3 := cell_bw (a := ⟨b, o + q * 6 + 3, none⟩) hl1 y3
          have z4 := cell_bw (a := ⟨b, o + k * 6 + 4, none⟩) hl1 x4
          have t4 := cell_bw (a := ⟨b, o + q * 6 + 4, none⟩) hl1 y4
          have z5 := cell_bw (a := ⟨b, o + k * 6 + 5, none⟩) hl1 x5
          have t5 := cell_bw (a := ⟨b, o + q * 6 + 5, none⟩) hl1 y5
          have cA := fun p : BW w2 => calls_bw (p := p) (rrAhead_any ra rn ri rp rk rt sa sn si sp sk st p.w)
          clear hc1 hc2 v0 v1 v2 v3 v4 v5 cF x0 x1 x2 x3 x4 x5 y0 y1 y2 y3 y4 y5
          cases hA : ahB rn rp ri sn sp si with
          | true =>
            rw [hA] at cA
            have N3 : Hid (firstK x d l (k + 1) = (k : Int)) := by
              show _ = _
              rw [N2.out, if_pos (show Pk.ahead ⟨ra, rn, ri, rp, rk, rt⟩ ⟨sa, sn, si, sp, sk, st⟩ = true from hA)]
            clear N2 hA
            go_wp2_with fail
            refine wp_region_below (by kernel_rfl) (by kernel_rfl) ?_
            repeat (quiet_step ((go_at_call 34; exact cA _)))
            refine wpQuiet_nil ?_
            rintro _ ⟨bw, rfl⟩
            have hb3 := below_step hbw bw.hb
            clear cA z0 z1 z2 z3 z4 z5 t0 t1 t2 t3 t4 t5
            generalize bw.w = w3 at hb3 ⊢
            go_wp2_with fail
            go_roundw
            case rel => exact ⟨k + 1, by omega, by go_num, by rw [N3.out], hb3⟩
            case measure => simp [intOf]; omega
          | false =>
            rw [hA] at cA
            have N3 : Hid (firstK x d l (k + 1) = (q : Int)) := by
              show _ = _
              rw [N2.out, if_neg (show ¬ Pk.ahead ⟨ra, rn, ri, rp, rk, rt⟩ ⟨sa, sn, si, sp, sk, st⟩ = true from fun h => by have h2 : ahB rn rp ri sn sp si = true := h; rw [hA] at h2; cases h2)]
            clear N2 hA
            go_wp2_with fail
            refine wp_region_below (by kernel_rfl) (by kernel_rfl) ?_
            repeat (quiet_step ((go_at_call 34; exact cA _)))
            refine wpQuiet_nil ?_
            rintro _ ⟨bw, rfl⟩
            have hb3 := below_step hbw bw.hb
            clear cA z0 z1 z2 z3 z4 z5 t0 t1 t2 t3 t4 t5
            generalize bw.w = w3 at hb3 ⊢
            go_wp2_with fail
            go_roundw
            case rel => exact ⟨k + 1, by omega, by go_num, by rw [N3.out], hb3⟩
            case measure => simp [intOf]; omega
    · have hke : k = l.length := by omega
      subst hke
      go_wp2_with fail
      go_ret
      exact ⟨congrArg (fun z => Ending.returned (.int .i64 z)) HF.out.symm, hbr⟩
end Go.Proofs.Ytihgpllbgliplaa
