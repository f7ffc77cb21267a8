/- Proved: for all rules l, ports and destinations the call PickOrders(l, in, dst) returns true and leaves l as it was (of more than 60 nothing is asked). -/
import Derived.Test.YtbjgnlednkegiaaPickOpen
import Derived.Test.YtbjgnlednkegiaaPickAll
import Derived.Test.YtbjgnlednkegiaaPickRefs
import Derived.Test.YtbjgnlednkegiaaPickTurn
import Derived.Lib.SmallJoins
namespace Go.Proofs.Ytbjgnlednkegiaa.pickOrders
open Go.ChangeShapes Go.WideShapes Go.ChangeAt Go.RowKit Pk R
set_option linter.unusedVariables false


theorem eq_rl (ra rn ri rp rk rt sa sn si sp sk st : Int) (w : World) : (binOp .eql 34 (.agg #[.int .i64 ra, .int .i64 rn, .int .i64 ri, .int .i64 rp, .int .i64 rk, .int .i64 rt]) (.agg #[.int .i64 sa, .int .i64 sn, .int .i64 si, .int .i64 sp, .int .i64 sk, .int .i64 st])).run Try.prog w = .ok (.bool ((ra == sa && rn == sn) && (ri == si && (rp == sp && (rk == sk && rt == st))))) w := by
  cases h0 : (ra == sa)
  · go_simp
  cases h1 : (rn == sn)
  · go_simp
  cases h2 : (ri == si)
  · go_simp
  cases h3 : (rp == sp)
  · go_simp
  cases h4 : (rk == sk)
  · go_simp
  cases h5 : (rt == st)
  · go_simp
  go_simp
theorem cbw {w : World} {b o j : Nat} {v : Value} (hl : b < w.heap.size) (h : w.cell? ⟨b, o + j, none⟩ = some v) : ∀ u : BW w, u.w.cell? ⟨b, o + j, none⟩ = some v := fun u => cell_bw (a := ⟨b, o + j, none⟩) hl h u
set_option maxRecDepth 100000 in
theorem walk_long (a : Option Addr) (c : Nat) (l : List Rl) (x d : Int) (w : World) (R : Rds fR 6 w a c l) (hl : 60 < l.length) :
    Calls Try.prog 5 #[.slice a l.length c, .int .i64 x, .int .i64 d] w fun e w' => e = .returned (.bool true) ∧ Below w.heap.size w w' := by
  have hmx := Nat.le_trans R.le R.max
  unfold maxLen at hmx
  go_enter Try.func5, Try.ntmps5
  go_wp2_with fail
  refine (awake_any _).mono ?_
  rintro e w1 ⟨rfl, hb1⟩
  go_wp2_with fail
  go_ret
  exact ⟨rfl, hb1⟩
set_option maxRecDepth 100000 in
set_option maxHeartbeats 8000000 in
theorem walk_short (a : Option Addr) (c : Nat) (l : List Rl) (x d : Int) (w : World) (R : Rds fR 6 w a c l) (hl : l.length ≤ 60) :
    Calls Try.prog 5 #[.slice a l.length c, .int .i64 x, .int .i64 d] w fun e w' => e = .returned (.bool true) ∧ Below w.heap.size w w' := by
  have hlz : decide ((60 : Int) < (l.length : Int)) = false := decide_eq_false (by omega)
  have HL : Hid (l.length ≤ 60) := hl
  clear hl
  have hmx := Nat.le_trans R.le R.max
  unfold maxLen at hmx
  go_enter Try.func5, Try.ntmps5
  go_wp2_with fail
  refine (awake_any _).mono ?_
  rintro e w1 ⟨rfl, hb1⟩
  have R1 := R.later hb1
  have c1 := order_any sortsTo_100 (by omega) w1 R1 (Nat.le_trans HL.out (by decide))
  rw [sort_len] at c1
  clear hmx
  go_wp2_with fail
  refine c1.mono ?_
  clear c1
  rintro e w2 ⟨x2, k2, rfl, ⟨Ro, -⟩, hb2⟩
  have c2 := order_any sortsTo_100 (by omega) w2 Ro (by rw [sort_len]; exact Nat.le_trans HL.out (by decide))
  rw [sort_sort, sort_len] at c2
  go_wp2_with fail
  refine c2.mono ?_
  clear c2
  rintro e w3 ⟨x3, k3, rfl, ⟨Ro3, -⟩, hb3⟩
  have c3 := rsame8_any w3 Ro3 (Ro.later hb3)
  rw [decide_eq_true (rfl : sortL l = sortL l), sort_len] at c3
  go_wp2_with fail
  refine c3.mono ?_
  clear c3
  rintro e w4 ⟨rfl, hb4⟩
  have hb5 := below_step (below_step hb1 hb2) (below_step hb3 hb4)
  have R4 := R.later hb5
  have Ro4 := Ro.later (below_step hb3 hb4)
  have HS : Hid ((sortL l).Perm l ∧ Pk.Ord (sortL l)) := ⟨sort_perm l, sort_ord l⟩
  have hSL : Hid ((sortL l).length = l.length) := sort_len l
  clear R R1 hb1 hb2 hb3 hb4 Ro Ro3
  generalize sortL l = S at Ro4 HS hSL
  have hk2 : ((l.length : Int) != (l.length : Int)) = false := by simp
  go_wp2_with fail
  go_loopw [10] (fun v wr => ∃ i : Nat, i ≤ l.length ∧ v = .int .i64 (i : Nat) ∧ Below w4.heap.size w4 wr) (fun v _ => l.length - (intOf v).toNat)
  case atStart => exact ⟨0, Nat.zero_le _, rfl, Below.refl _ _⟩
  case round =>
    obtain ⟨i, hi, rfl, hbr⟩ := hrel
    by_cases hlt : i < l.length
    · have hiz : (i : Int) < (l.length : Int) := Int.ofNat_lt.2 hlt
      have gi := getD_at hlt
      have HIL : Hid (i < l.length) := hlt
      have hi60 : i ≤ 60 := Nat.le_trans hi HL.out
      generalize l.getD i default = r at gi
      obtain ⟨ra, rn, ri, rp, rk, rt⟩ := r
      clear hlt hi
      go_wp2_with fail
      go_loopw [13, 11, 12] (fun v va vb wr => ∃ k p q : Nat, v = .int .i64 (k : Nat) ∧ va = .int .i64 (p : Nat) ∧ vb = .int .i64 (q : Nat) ∧ Hid (k ≤ l.length ∧ p = cntL ⟨ra, rn, ri, rp, rk, rt⟩ (l.take k) ∧ q = cntL ⟨ra, rn, ri, rp, rk, rt⟩ (S.take k)) ∧ Below w4.heap.size w4 wr) (fun v _ _ _ => l.length - (intOf v).toNat)
      case atStart => exact ⟨0, 0, 0, rfl, rfl, rfl, ⟨Nat.zero_le _, rfl, rfl⟩, hbr⟩
      case round =>
        obtain ⟨k, p, q, rfl, rfl, rfl, HK, hbk⟩ := hrel
        by_cases hlt : k < l.length
        · have hkz : (k : Int) < (l.length : Int) := Int.ofNat_lt.2 hlt
          have hls : k < S.length := by rw [hSL.out]; exact hlt
          have gk := getD_at hlt
          have gs := getD_at hls
          have HLT : Hid (k < l.length) := hlt
          have hk60 : k ≤ 60 := Nat.le_trans (Nat.le_of_lt hlt) HL.out
          have hp60 : p ≤ 60 := Nat.le_trans (by rw [HK.out.2.1]; exact cntL_le _ _ _) hk60
          have hq60 : q ≤ 60 := Nat.le_trans (by rw [HK.out.2.2]; exact cntL_le _ _ _) hk60
          have NP : Hid ((if decide (l.getD k default = ⟨ra, rn, ri, rp, rk, rt⟩) = true then p + 1 else p) = cntL ⟨ra, rn, ri, rp, rk, rt⟩ (l.take (k + 1))) := by
            show _ = _
            by_cases e : l.getD k default = ⟨ra, rn, ri, rp, rk, rt⟩
            · rw [if_pos (decide_eq_true e), cntL_yes hlt e, ← HK.out.2.1]
            · rw [if_neg (by simpa using e), cntL_no hlt e, ← HK.out.2.1]
          have NQ : Hid ((if decide (S.getD k default = ⟨ra, rn, ri, rp, rk, rt⟩) = true then q + 1 else q) = cntL ⟨ra, rn, ri, rp, rk, rt⟩ (S.take (k + 1))) := by
            show _ = _
            by_cases e : S.getD k default = ⟨ra, rn, ri, rp, rk, rt⟩
            · rw [if_pos (decide_eq_true e), cntL_yes hls e, ← HK.out.2.2]
            · rw [if_neg (by simpa using e), cntL_no hls e, ← HK.out.2.2]
          clear hlt hls HK
          generalize l.getD k default = s at gk NP
          generalize S.getD k default = u at gs NQ
          generalize hd1 : decide (s = (⟨ra, rn, ri, rp, rk, rt⟩ : Rl)) = d1 at NP
          generalize hd2 : decide (u = (⟨ra, rn, ri, rp, rk, rt⟩ : Rl)) = d2 at NQ
          obtain ⟨sa, sn, si, sp, sk, st⟩ := s
          obtain ⟨ua, un, ui, up, uk, ut⟩ := u
          have q1 := fun w => eq_rl sa sn si sp sk st ra rn ri rp rk rt w
          have q2 := fun w => eq_rl ua un ui up uk ut ra rn ri rp rk rt w
          simp only [rule_eqb] at q1 q2
          rw [hd1] at q1
          rw [hd2] at q2
          clear hd1 hd2
          cases d1 with
          | true =>
            obtain ⟨bby, ooy, eey, hly, hcy⟩ := (R4.later hbk).at gi
            cases eey
            have y0 := cbw hly (hcy 0 _ rfl)
            have y1 := cbw hly (hcy 1 _ rfl)
            have y2 := cbw hly (hcy 2 _ rfl)
            have y3 := cbw hly (hcy 3 _ rfl)
            have y4 := cbw hly (hcy 4 _ rfl)
            have y5 := cbw hly (hcy 5 _ rfl)
            simp only [Nat.add_zero] at y0
            clear hcy hly
            obtain ⟨bbz, ooz, eez, hlz, hcz⟩ := (R4.later hbk).at gk
            cases eez
            have z0 := cbw hlz (hcz 0 _ rfl)
            have z1 := cbw hlz (hcz 1 _ rfl)
            have z2 := cbw hlz (hcz 2 _ rfl)
            have z3 := cbw hlz (hcz 3 _ rfl)
            have z4 := cbw hlz (hcz 4 _ rfl)
            have z5 := cbw hlz (hcz 5 _ rfl)
            simp only [Nat.add_zero] at z0
            clear hcz hlz
            go_wp2_with fail
            refine wp_region_below (by kernel_rfl) (by kernel_rfl) ?_
            repeat (quiet_step (fail))
            refine wpQuiet_nil ?_
            rintro _ ⟨bw, rfl⟩
            have hb5 := below_step hbk bw.hb
            clear y0 y1 y2 y3 y4 y5 z0 z1 z2 z3 z4 z5 q1
            generalize bw.w = w5 at hb5 ⊢
            clear bw
            cases d2 with
            | true =>
              obtain ⟨bby, ooy, eey, hly, hcy⟩ := (R4.later hb5).at gi
              cases eey
              have y0 := cbw hly (hcy 0 _ rfl)
              have y1 := cbw hly (hcy 1 _ rfl)
              have y2 := cbw hly (hcy 2 _ rfl)
              have y3 := cbw hly (hcy 3 _ rfl)
              have y4 := cbw hly (hcy 4 _ rfl)
              have y5 := cbw hly (hcy 5 _ rfl)
              simp only [Nat.add_zero] at y0
              clear hcy hly
              obtain ⟨bbz, ooz, eez, hlz, hcz⟩ := (Ro4.later hb5).at gs
              cases eez
              have z0 := cbw hlz (hcz 0 _ rfl)
              have z1 := cbw hlz (hcz 1 _ rfl)
              have z2 := cbw hlz (hcz 2 _ rfl)
              have z3 := cbw hlz (hcz 3 _ rfl)
              have z4 := cbw hlz (hcz 4 _ rfl)
              have z5 := cbw hlz (hcz 5 _ rfl)
              simp only [Nat.add_zero] at z0
              clear hcz hlz
              go_wp2_with fail
              refine wp_region_below (by kernel_rfl) (by kernel_rfl) ?_
              repeat (quiet_step (fail))
              refine wpQuiet_nil ?_
              rintro _ ⟨bw, rfl⟩
              have hb6 := below_step hb5 bw.hb
              clear y0 y1 y2 y3 y4 y5 z0 z1 z2 z3 z4 z5 q2
              generalize bw.w = w6 at hb6 ⊢
              clear bw
              go_wp2_with fail
              go_roundw
              case rel => exact ⟨k + 1, p + 1, q + 1, by go_num, by go_num, by go_num, ⟨HLT.out, by have h := NP.out; simpa using h, by have h := NQ.out; simpa using h⟩, hb6⟩
              case measure => simp [intOf]; omega
            | false =>
              obtain ⟨bby, ooy, eey, hly, hcy⟩ := (R4.later hb5).at gi
              cases eey
              have y0 := cbw hly (hcy 0 _ rfl)
              have y1 := cbw hly (hcy 1 _ rfl)
              have y2 := cbw hly (hcy 2 _ rfl)
              have y3 := cbw hly (hcy 3 _ rfl)
              have y4 := cbw hly (hcy 4 _ rfl)
              have y5 := cbw hly (hcy 5 _ rfl)
              simp only [Nat.add_zero] at y0
              clear hcy hly
              obtain ⟨bbz, ooz, eez, hlz, hcz⟩ := (Ro4.later hb5).at gs
              cases eez
              have z0 := cbw hlz (hcz 0 _ rfl)
              have z1 := cbw hlz (hcz 1 _ rfl)
              have z2 := cbw hlz (hcz 2 _ rfl)
              have z3 := cbw hlz (hcz 3 _ rfl)
              have z4 := cbw hlz (hcz 4 _ rfl)
              have z5 := cbw hlz (hcz 5 _ rfl)
              simp only [Nat.add_zero] at z0
              clear hcz hlz
              go_wp2_with fail
              refine wp_region_below (by kernel_rfl) (by kernel_rfl) ?_
              repeat (quiet_step (fail))
              refine wpQuiet_nil ?_
              rintro _ ⟨bw, rfl⟩
              have hb6 := below_step hb5 bw.hb
              clear y0 y1 y2 y3 y4 y5 z0 z1 z2 z3 z4 z5 q2
              generalize bw.w = w6 at hb6 ⊢
              clear bw
              go_wp2_with fail
              go_roundw
              case rel => exact ⟨k + 1, p + 1, q, by go_num, by go_num, by go_num, ⟨HLT.out, by have h := NP.out; simpa using h, by have h := NQ.out; simpa using h⟩, hb6⟩
              case measure => simp [intOf]; omega
          | false =>
            obtain ⟨bby, ooy, eey, hly, hcy⟩ := (R4.later hbk).at gi
            cases eey
            have y0 := cbw hly (hcy 0 _ rfl)
            have y1 := cbw hly (hcy 1 _ rfl)
            have y2 := cbw hly (hcy 2 _ rfl)
            have y3 := cbw hly (hcy 3 _ rfl)
            have y4 := cbw hly (hcy 4 _ rfl)
            have y5 := cbw hly (hcy 5 _ rfl)
            simp only [Nat.add_zero] at y0
            clear hcy hly
            obtain ⟨bbz, ooz, eez, hlz, hcz⟩ := (R4.later hbk).at gk
            cases eez
            have z0 := cbw hlz (hcz 0 _ rfl)
            have z1 := cbw hlz (hcz 1 _ rfl)
            have z2 := cbw hlz (hcz 2 _ rfl)
            have z3 := cbw hlz (hcz 3 _ rfl)
            have z4 := cbw hlz (hcz 4 _ rfl)
            have z5 := cbw hlz (hcz 5 _ rfl)
            simp only [Nat.add_zero] at z0
            clear hcz hlz
            go_wp2_with fail
            refine wp_region_below (by kernel_rfl) (by kernel_rfl) ?_
            repeat (quiet_step (fail))
            refine wpQuiet_nil ?_
            rintro _ ⟨bw, rfl⟩
            have hb5 := below_step hbk bw.hb
            clear y0 y1 y2 y3 y4 y5 z0 z1 z2 z3 z4 z5 q1
            generalize bw.w = w5 at hb5 ⊢
            clear bw
            cases d2 with
            | true =>
              obtain ⟨bby, ooy, eey, hly, hcy⟩ := (R4.later hb5).at gi
              cases eey
              have y0 := cbw hly (hcy 0 _ rfl)
              have y1 := cbw hly (hcy 1 _ rfl)
              have y2 := cbw hly (hcy 2 _ rfl)
              have y3 := cbw hly (hcy 3 _ rfl)
              have y4 := cbw hly (hcy 4 _ rfl)
              have y5 := cbw hly (hcy 5 _ rfl)
              simp only [Nat.add_zero] at y0
              clear hcy hly
              obtain ⟨bbz, ooz, eez, hlz, hcz⟩ := (Ro4.later hb5).at gs
              cases eez
              have z0 := cbw hlz (hcz 0 _ rfl)
              have z1 := cbw hlz (hcz 1 _ rfl)
              have z2 := cbw hlz (hcz 2 _ rfl)
              have z3 := cbw hlz (hcz 3 _ rfl)
              have z4 := cbw hlz (hcz 4 _ rfl)
              have z5 := cbw hlz (hcz 5 _ rfl)
              simp only [Nat.add_zero] at z0
              clear hcz hlz
              go_wp2_with fail
              refine wp_region_below (by kernel_rfl) (by kernel_rfl) ?_
              repeat (quiet_step (fail))
              refine wpQuiet_nil ?_
              rintro _ ⟨bw, rfl⟩
              have hb6 := below_step hb5 bw.hb
              clear y0 y1 y2 y3 y4 y5 z0 z1 z2 z3 z4 z5 q2
              generalize bw.w = w6 at hb6 ⊢
              clear bw
              go_wp2_with fail
              go_roundw
              case rel => exact ⟨k + 1, p, q + 1, by go_num, by go_num, by go_num, ⟨HLT.out, by have h := NP.out; simpa using h, by have h := NQ.out; simpa using h⟩, hb6⟩
              case measure => simp [intOf]; omega
            | false =>
              obtain ⟨bby, ooy, eey, hly, hcy⟩ := (R4.later hb5).at gi
              cases eey
              have y0 := cbw hly (hcy 0 _ rfl)
              have y1 := cbw hly (hcy 1 _ rfl)
              have y2 := cbw hly (hcy 2 _ rfl)
              have y3 := cbw hly (hcy 3 _ rfl)
              have y4 := cbw hly (hcy 4 _ rfl)
              have y5 := cbw hly (hcy 5 _ rfl)
              simp only [Nat.add_zero] at y0
              clear hcy hly
              obtain ⟨bbz, ooz, eez, hlz, hcz⟩ := (Ro4.later hb5).at gs
              cases eez
              have z0 := cbw hlz (hcz 0 _ rfl)
              have z1 := cbw hlz (hcz 1 _ rfl)
              have z2 := cbw hlz (hcz 2 _ rfl)
              have z3 := cbw hlz (hcz 3 _ rfl)
              have z4 := cbw hlz (hcz 4 _ rfl)
              have z5 := cbw hlz (hcz 5 _ rfl)
              simp only [Nat.add_zero] at z0
              clear hcz hlz
              go_wp2_with fail
              refine wp_region_below (by kernel_rfl) (by kernel_rfl) ?_
              repeat (quiet_step (fail))
              refine wpQuiet_nil ?_
              rintro _ ⟨bw, rfl⟩
              have hb6 := below_step hb5 bw.hb
              clear y0 y1 y2 y3 y4 y5 z0 z1 z2 z3 z4 z5 q2
              generalize bw.w = w6 at hb6 ⊢
              clear bw
              go_wp2_with fail
              go_roundw
              case rel => exact ⟨k + 1, p, q, by go_num, by go_num, by go_num, ⟨HLT.out, by have h := NP.out; simpa using h, by have h := NQ.out; simpa using h⟩, hb6⟩
              case measure => simp [intOf]; omega
        · have hke : k = l.length := by have h := HK.out.1; omega
          have hpq : p = q := by
            rw [HK.out.2.1, HK.out.2.2, hke, List.take_length, ← hSL.out, List.take_length]
            exact (cntL_perm HS.out.1).symm
          subst hpq
          have hkz : ¬ (k : Int) < (l.length : Int) := by omega
          have hpp : ((p : Int) != (p : Int)) = false := by simp
          clear hke hlt HK
          go_wp2_with fail
          go_roundw
          case rel => exact ⟨i + 1, HIL.out, by go_num, hbk⟩
          case measure => have h := HIL.out; simp [intOf]; omega
    · have hiz : ¬ (i : Int) < (l.length : Int) := by omega
      have cA := first_any wr (R4.later hbr) x d
      clear hlt hi
      go_wp2_with fail
      refine cA.mono ?_
      clear cA
      rintro e w5 ⟨rfl, hb6⟩
      have hb7 := below_step hbr hb6
      clear hb6 hbr
      have HF : Hid (∃ n, firstL x d l = n) := ⟨_, rfl⟩
      obtain ⟨n, hn⟩ := HF.out
      rw [hn]
      have HN : Hid (firstL x d l = n) := hn
      clear hn HF
      go_wp2_with fail
      go_loopw [15] (fun v wr => ∃ i : Nat, v = .int .i64 (i : Nat) ∧ Hid (i ≤ l.length ∧ ∀ j, j < i → fits x d (S.getD j default) = false) ∧ Below w4.heap.size w4 wr) (fun v _ => l.length - (intOf v).toNat)
      case atStart => exact ⟨0, rfl, ⟨Nat.zero_le _, fun j hj => absurd hj (Nat.not_lt_zero _)⟩, hb7⟩
      case round =>
        obtain ⟨k, rfl, HK, hbk⟩ := hrel
        by_cases hlt : k < l.length
        · have hkz : (k : Int) < (l.length : Int) := Int.ofNat_lt.2 hlt
          have hls : k < S.length := by rw [hSL.out]; exact hlt
          have gs := getD_at hls
          have HLT : Hid (k < l.length) := hlt
          have hk60 : k ≤ 60 := Nat.le_trans (Nat.le_of_lt hlt) HL.out
          have NY : Hid (fits x d (S.getD k default) = true → ∃ q : Nat, q < l.length ∧ firstL x d l = (q : Int) ∧ Pk.ahead (l.getD q default) (S.getD k default) = false ∧ Pk.ahead (S.getD k default) (l.getD q default) = false) := fun hf => first_of HS.out.1 HS.out.2 hls hf HK.out.2
          have NN : Hid (fits x d (S.getD k default) = false → ∀ j, j < k + 1 → fits x d (S.getD j default) = false) := fun hf j hj => by
            rcases Nat.lt_or_ge j k with h | h
            · exact HK.out.2 j h
            · rw [show j = k by omega]; exact hf
          clear hlt hls HK
          generalize S.getD k default = u at gs NY NN
          generalize hfit : fits x d u = b at NY NN
          obtain ⟨ua, un, ui, up, uk, ut⟩ := u
          obtain ⟨bbz, ooz, eez, hlz, hcz⟩ := (Ro4.later hbk).at gs
          cases eez
          have z0 := hcz 0 _ rfl
          have z1 := hcz 1 _ rfl
          have z2 := hcz 2 _ rfl
          have z3 := hcz 3 _ rfl
          have z4 := hcz 4 _ rfl
          have z5 := hcz 5 _ rfl
          rw [Nat.add_zero] at z0
          clear hcz hlz
          have cF := ruFits_any ua un ui up uk ut x d wr
          rw [show fitB ua un ui x d = b from hfit] at cF
          clear hfit
          cases b with
          | false =>
            have N2 := show Hid _ from NN.out rfl
            clear NY NN
            go_wp2_with fail
            refine cF.mono ?_
            clear cF
            rintro e w5 ⟨rfl, hb8⟩
            have hb9 := below_step hbk hb8
            clear hb8 hbk z0 z1 z2 z3 z4 z5
            go_wp2_with fail
            go_roundw
            case rel => exact ⟨k + 1, by go_num, ⟨HLT.out, N2.out⟩, hb9⟩
            case measure => have h := HLT.out; simp [intOf]; omega
          | true =>
            obtain ⟨q, hq, hnq, ha1, ha2⟩ := NY.out rfl
            rw [HN.out] at hnq
            subst hnq
            have gq := getD_at hq
            have hqz : (q : Int) < (l.length : Int) := Int.ofNat_lt.2 hq
            have hq60 : q ≤ 60 := Nat.le_trans (Nat.le_of_lt hq) HL.out
            have hq0 : (0 : Int) ≤ (q : Int) := by omega
            clear hq NY NN
            generalize l.getD q default = s at gq ha1 ha2
            obtain ⟨sa, sn, si, sp, sk, st⟩ := s
            go_wp2_with fail
            refine cF.mono ?_
            clear cF
            rintro e w5 ⟨rfl, hb8⟩
            have hb9 := below_step hbk hb8
            clear hb8 hbk z0 z1 z2 z3 z4 z5
            obtain ⟨bby, ooy, eey, hly, hcy⟩ := (R4.later hb9).at gq
            cases eey
            have y0 := cbw hly (hcy 0 _ rfl)
            have y1 := cbw hly (hcy 1 _ rfl)
            have y2 := cbw hly (hcy 2 _ rfl)
            have y3 := cbw hly (hcy 3 _ rfl)
            have y4 := cbw hly (hcy 4 _ rfl)
            have y5 := cbw hly (hcy 5 _ rfl)
            simp only [Nat.add_zero] at y0
            clear hcy hly
            obtain ⟨bbz, ooz, eez, hlz, hcz⟩ := (Ro4.later hb9).at gs
            cases eez
            have z0 := cbw hlz (hcz 0 _ rfl)
            have z1 := cbw hlz (hcz 1 _ rfl)
            have z2 := cbw hlz (hcz 2 _ rfl)
            have z3 := cbw hlz (hcz 3 _ rfl)
            have z4 := cbw hlz (hcz 4 _ rfl)
            have z5 := cbw hlz (hcz 5 _ rfl)
            simp only [Nat.add_zero] at z0
            clear hcz hlz
            have cA := fun u : BW w5 => calls_bw (p := u) (ruAhead_any sa sn si sp sk st ua un ui up uk ut u.w)
            have cB := fun u : BW w5 => calls_bw (p := u) (ruAhead_any ua un ui up uk ut sa sn si sp sk st u.w)
            rw [show ahB sn sp si un up ui = false from ha1] at cA
            rw [show ahB un up ui sn sp si = false from ha2] at cB
            clear ha1 ha2
            go_wp2_with fail
            refine wp_region_below (by kernel_rfl) (by kernel_rfl) ?_
            iterate 17 (quiet_step (fail))
            quiet_step ((go_at_call 16; exact cA _))
            iterate 11 (quiet_step (fail))
            quiet_step ((go_at_call 16; exact cB _))
            repeat (quiet_step (fail))
            refine wpQuiet_nil ?_
            rintro _ ⟨bw, rfl⟩
            have hb10 := below_step hb5 (below_step hb9 bw.hb)
            clear cA cB y0 y1 y2 y3 y4 y5 z0 z1 z2 z3 z4 z5
            generalize bw.w = w6 at hb10 ⊢
            go_wp2_with fail
            go_ret
            exact ⟨rfl, hb10⟩
        · have hke : k = l.length := by have h := HK.out.1; omega
          have hnn : n = -1 := by
            rw [← HN.out]
            exact first_not HS.out.1 (fun j hj => HK.out.2 j (by rw [hke, ← hSL.out]; exact hj))
          subst hnn
          have hkz : ¬ (k : Int) < (l.length : Int) := by omega
          clear hke hlt HK
          go_wp2_with fail
          go_ret
          exact ⟨rfl, below_step hb5 hbk⟩
theorem walk (a : Option Addr) (c : Nat) (l : List Rl) (x d : Int) (wx : (Lit.int .i64 x).wf = true) (wd : (Lit.int .i64 d).wf = true) (w : World) (R : Rds fR 6 w a c l) :
    Calls Try.prog 5 #[.slice a l.length c, .int .i64 x, .int .i64 d] w fun e w' => e = .returned (.bool true) ∧ Below w.heap.size w w' := by
  by_cases hl : 60 < l.length
  · exact walk_long a c l x d w R hl
  · exact walk_short a c l x d w R (by omega)

theorem own : ownKnob Try.prog.godebug = none := by kernel_rfl
theorem laidOut : laidOutB Try.prog = true := by kernel_rfl
set_option maxRecDepth 100000 in
theorem lifted (os : Os) (started : os.Started) (H : Type) (enc : TypeId × Value → H) :
    ReturnsInHanded {} Try.checked os 5 .any (Rows.pickOrdersSpec.pre6 enc Try.prog Try.f5 Rows.pickOrdersRow.domain false) (Rows.pickOrdersSpec.post enc Try.prog Try.f5 false true false false) := by
  refine returnsInHanded_of_change (C := Try.checked) own started (by kernel_rfl) Try.func5
    (ChangeSpec.witness6 (enc := enc) (C := Try.checked) false ⟨#[], #[.slice none 0 0, .int .i64 0, .int .i64 0], []⟩ 8 (by kernel_rfl) (by kernel_rfl) (by kernel_rfl) (by kernel_rfl)) ?_
  intro W base args ds gs before hval0 hW hcnd _
  have hval : ∀ (j : Nat) t v, Try.f5.params[j]? = some t → args[j]? = some v → Value.okWide Try.prog W .any base t v := hval0
  have hW' := hW
  obtain ⟨p, q, hA0, hV, rfl, hfz, hnd⟩ := hW
  have hA : DataW.TrodAll enc Try.prog W 0 (fun _ => true) true Try.f5.params.toList args.toList ds p := hA0
  rw [Try.params5] at hA hval
  obtain ⟨v0, vs0, d0, ds0, p0, q0, hargs, rfl, rfl, h0, r0⟩ := trodAll_cons hA
  obtain ⟨v1, vs1, d1, ds1, p1, q1, rfl, rfl, rfl, h1, r1⟩ := trodAll_cons r0
  obtain ⟨v2, vs2, d2, ds2, p2, q2, rfl, rfl, rfl, h2, r2⟩ := trodAll_cons r1
  obtain ⟨rfl, rfl, rfl⟩ := trodAll_nil r2
  obtain rfl : args = #[v0, v1, v2] := by cases args; simp_all
  obtain ⟨rfl, rfl⟩ := trodVars_none hV
  obtain ⟨a0, n0, c0, rfl⟩ := okWide_slice Try.underlying22 (hval 0 22 v0 rfl rfl)
  have k0 := h0
  have lt0 : ∀ x ∈ p0, x.block < W.heap.size := by obtain ⟨m, hm⟩ := k0; exact DataW.trod_lt m _ _ _ hm
  have k1 := h1
  have lt1 : ∀ x ∈ p1, x.block < W.heap.size := by obtain ⟨m, hm⟩ := k1; exact DataW.trod_lt m _ _ _ hm
  have k2 := h2
  have lt2 : ∀ x ∈ p2, x.block < W.heap.size := by obtain ⟨m, hm⟩ := k2; exact DataW.trod_lt m _ _ _ hm
  obtain ⟨l0, el0, R0⟩ : ∃ l : List Pk.Rl, n0 = List.length l ∧ Rds fR 6 W a0 c0 l := by
    obtain ⟨fuel, hf⟩ := h0
    exact rds_of_trod Try.underlying22 (by kernel_rfl) (fun _ => rfl) (by decide) fR_len elemR (by simpa [Value.cells] using hf)
  subst el0
  obtain ⟨a1, rfl, rfl, hp1, w1⟩ := open_int Try.underlying3 (hval 1 3 v1 rfl rfl) h1
  obtain ⟨a2, rfl, rfl, hp2, w2⟩ := open_int Try.underlying3 (hval 2 3 v2 rfl rfl) h2
  clear hA0 hval0
  refine (walk a0 c0 l0 a1 a2 w1 w2 W R0).mono fun e W' ⟨he, bel⟩ => ?_
  subst he
  exact ⟨_, rfl, _, _, _, [], _, [], hW', trodAll_mk1 (shut_bool Try.underlying4 _), (trodAll_cons_mk (Below.trod laidOut (by kernel_rfl) (of_decide_eq_true (by kernel_rfl)) k0 bel lt0) (trodAll_cons_mk (Below.trod laidOut (by kernel_rfl) (of_decide_eq_true (by kernel_rfl)) k1 bel lt1) (trodAll_cons_mk (Below.trod laidOut (by kernel_rfl) (of_decide_eq_true (by kernel_rfl)) k2 bel lt2) trodAll_mk0))), rfl, bel.frame _, fun h => by cases h⟩

theorem over : Rows.pickOrdersRow.holds Try.pinned (OpenSpec.ofChange Rows.pickOrdersSpec) :=
  OpenClaim.holds_of_wide 5 Try.f5 rfl rfl rfl rfl rfl rfl rfl ⟨rfl, rfl, rfl, rfl, rfl⟩ rfl rfl rfl rfl rfl (by kernel_rfl) Try.func5 (by kernel_rfl)
    (of_decide_eq_true (by kernel_rfl)) (by unfold Func.isWrapper; first | (rw [if_pos (by decide +kernel)]; kernel_rfl) | (rw [if_neg (by decide +kernel)]; exact ⟨rfl, rfl⟩))
    (fun os started H enc _ => lifted os started H enc)
end Go.Proofs.Ytbjgnlednkegiaa.pickOrders
namespace Go.Proofs.Ytbjgnlednkegiaa
theorem pickOrders_holds : Rows.PickOrdersSaid := pickOrders.over
#print axioms pickOrders_holds
end Go.Proofs.Ytbjgnlednkegiaa
