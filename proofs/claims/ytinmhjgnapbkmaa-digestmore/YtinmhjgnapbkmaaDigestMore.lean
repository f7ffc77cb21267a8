/- Proved: for all numbers and rules the call DigestMore(tag, r, port) returns true (where tag is not from 1 to 100, r may not be or has another prefix than that of all, or port is not from 1 to 7, nothing is asked). -/
import Derived.Test.YtinmhjgnapbkmaaDigAwake
import Derived.Test.YtinmhjgnapbkmaaDigOne
import Derived.Lib.SmallJoins
import Derived.Deep.RegionHeld3
namespace Go.Proofs.Ytinmhjgnapbkmaa.digestMore
open Go.ChangeShapes Go.WideShapes Go.ChangeAt Go.RowKit O Dg Pk Tb R
set_option linter.unusedVariables false
set_option linter.unusedSimpArgs false

theorem ne_prefix (a b c d : Int) (w : World) : (binOp .neq 31 (.agg #[.int .i64 a, .int .i64 b]) (.agg #[.int .i64 c, .int .i64 d])).run Try.prog w = .ok (.bool (!(a == c && b == d))) w := by
  cases h1 : (a == c) <;> cases h2 : (b == d) <;> go_simp
theorem more_ne {t ri rp rk rt q m : Int} (h0 : 1 ≤ t) (h1 : t ≤ 100) (hr : okR 0 0 ri rp rk rt = true) (hs : okR 0 0 ri q 1 m = true) (hm : 1 ≤ m) : ofN t [⟨0, 0, ri, rp, rk, rt⟩] ≠ ofN t [⟨0, 0, ri, rp, rk, rt⟩, ⟨0, 0, ri, q, 1, m⟩] := by
  rw [ofN_is t _ (by omega) (by omega), ofN_is t _ (by omega) (by omega)]
  have g1 : mayR ⟨0, 0, ri, rp, rk, rt⟩ = true := hr
  have g2 : mayR ⟨0, 0, ri, q, 1, m⟩ = true := hs
  have k1 := wR_bd g1
  have k2 := wR_bd g2
  have e2 := wR_is g2
  have hb := okR_bd hs
  simp only [sumW, Int.add_zero] at *
  intro h
  have h3 := (fo_same (a := t + (wR ⟨0, 0, ri, rp, rk, rt⟩ + wR ⟨0, 0, ri, q, 1, m⟩)) (b := t + wR ⟨0, 0, ri, rp, rk, rt⟩) (by omega) (by omega)).1 (by omega)
  have h4 : 256 * (q + m) + (ri + 2) = 65535 := by omega
  omega
set_option maxRecDepth 100000 in
set_option maxHeartbeats 8000000 in
theorem walk_yes (t ri rp rk rt m : Int) (h0 : 1 ≤ t) (h1 : t ≤ 100) (hm : okR 0 0 ri rp rk rt = true) (h2 : 1 ≤ m) (h3 : m ≤ 7) (w : World) :
    Calls Try.prog 8 #[.int .i64 t, .agg #[.int .i64 0, .int .i64 0, .int .i64 ri, .int .i64 rp, .int .i64 rk, .int .i64 rt], .int .i64 m] w fun e w' => e = .returned (.bool true) ∧ Below w.heap.size w w' := by
  have hn := below_new w (.cells #[.int .i64 0, .int .i64 0, .int .i64 ri, .int .i64 rp, .int .i64 rk, .int .i64 rt] 35)
  have X := Lies.new w [0, 0, ri, rp, rk, rt] 35 rfl
  have hne := ne_prefix
  have hbd := okR_bd hm
  have hp0 : 0 ≤ rp := hbd.2.2.2.1.1
  have hp1 : rp ≤ 255 := hbd.2.2.2.1.2
  clear hbd
  have d0 : decide (t < 1) = false := decide_eq_false (by omega)
  have d1 : decide (100 < t) = false := decide_eq_false (by omega)
  have d2 : decide (m < 1) = false := decide_eq_false (by omega)
  have d3 : decide (7 < m) = false := decide_eq_false (by omega)
  have e1 : wrap64 (rp + 1) = rp + 1 := by unfold wrap64; omega
  obtain ⟨q, hq, hq0, hq1⟩ : ∃ q, (rp + 1) % 256 = q ∧ 0 ≤ q ∧ q ≤ 255 := ⟨_, rfl, by omega, by omega⟩
  have e2 : (rp + 1).tmod 256 = q := by rw [Int.tmod_eq_emod_of_nonneg (by omega)]; exact hq
  have e3 : wrap64 q = q := by unfold wrap64; omega
  have hs : okR 0 0 ri q 1 m = true := by
    have g := okR_of hm
    unfold okR
    rw [g.1, decide_eq_true g.2.1, decide_eq_true (show 0 ≤ q ∧ q ≤ 255 from ⟨hq0, hq1⟩)]
    unfold actB
    rw [if_neg (by decide), if_pos rfl, decide_eq_true (show 0 ≤ m ∧ m ≤ 7 by omega)]
    rfl
  have HN : Hid (ofN t [⟨0, 0, ri, rp, rk, rt⟩] ≠ ofN t [⟨0, 0, ri, rp, rk, rt⟩, ⟨0, 0, ri, q, 1, m⟩]) := more_ne h0 h1 hm hs h2
  have hw1 : ∀ x ∈ [(⟨0, 0, ri, rp, rk, rt⟩ : Rl)], ∀ z ∈ fR x, (Lit.int .i64 z).wf = true := fun x hx => by rw [List.mem_singleton.1 hx]; exact may_wf hm
  have hw2 : ∀ x ∈ [(⟨0, 0, ri, rp, rk, rt⟩ : Rl), (⟨0, 0, ri, q, 1, m⟩ : Rl)], ∀ z ∈ fR x, (Lit.int .i64 z).wf = true := fun x hx => by
    rcases List.mem_cons.1 hx with h | h
    · rw [h]; exact may_wf hm
    · rw [List.mem_singleton.1 h]; exact may_wf hs
  clear hq hq0 hq1 hp0 hp1
  go_enter Try.func8, Try.ntmps8
  go_wp2_with fail
  refine (dawake_any _).mono ?_
  rintro e w1 ⟨rfl, hb1⟩
  have hbA := below_step hn hb1
  replace X := X.later hb1
  obtain ⟨x0, x1, x2, x3, x4, x5⟩ := X.six
  have cM := ruMay_any 0 0 ri rp rk rt w1
  rw [hm] at cM
  go_wp2_with fail
  refine cM.mono ?_
  clear cM x0 x1 x2 x3 x4 x5
  rintro e w2 ⟨rfl, hb2⟩
  have hbB := below_step hbA hb2
  replace X := X.later hb2
  obtain ⟨x0, x1, x2, x3, x4, x5⟩ := X.six
  have hb3 := below_new w2 (.cells #[.int .i64 0, .int .i64 0, .int .i64 ri, .int .i64 rp, .int .i64 1, .int .i64 m] 35)
  obtain ⟨y0, y1, y2, y3, y4, y5⟩ := (X.later hb3).six
  go_wp2_with fail
  have hbC := below_new w2 (.cells #[.int .i64 0, .int .i64 0, .int .i64 ri, .int .i64 q, .int .i64 1, .int .i64 m] 35)
  have XW := X.later hbC
  have YW := Lies.new w2 [0, 0, ri, q, 1, m] 35 rfl
  have hbW := below_step hbB hbC
  clear x0 x1 x2 x3 x4 x5 y0 y1 y2 y3 y4 y5 X hb3 hbC hbB hbA hb1 hb2 hn
  obtain ⟨W, hW⟩ : ∃ W, w2.alloc (.cells #[.int .i64 0, .int .i64 0, .int .i64 ri, .int .i64 q, .int .i64 1, .int .i64 m] 35) = W := ⟨_, rfl⟩
  obtain ⟨C, hC⟩ : ∃ C, w2.heap.size = C := ⟨_, rfl⟩
  obtain ⟨B, hB⟩ : ∃ B, w.heap.size = B := ⟨_, rfl⟩
  have hbW : Below w.heap.size w W := by rw [← hW]; exact hbW
  have XW : Lies W B [0, 0, ri, rp, rk, rt] := by rw [← hB, ← hW]; exact XW
  have YW : Lies W C [0, 0, ri, q, 1, m] := by rw [← hC, ← hW]; exact YW
  rw [hW, hC, hB]
  clear hW hC
  have S0 : Below W.heap.size W W.drew ∧ Lies W.drew B [0, 0, ri, rp, rk, rt] ∧ Lies W.drew C [0, 0, ri, q, 1, m] := ⟨(Below.refl _ _).drew, XW.later (Below.refl _ _).drew, YW.later (Below.refl _ _).drew⟩
  clear XW YW
  obtain ⟨n1, hx1⟩ : ∃ n, ofN t [⟨0, 0, ri, rp, rk, rt⟩] = n := ⟨_, rfl⟩
  obtain ⟨n2, hx2⟩ : ∃ n, ofN t [⟨0, 0, ri, rp, rk, rt⟩, ⟨0, 0, ri, q, 1, m⟩] = n := ⟨_, rfl⟩
  have hnn : (n1 == n2) = false := by
    have h := HN.out
    rw [hx1, hx2] at h
    exact beq_eq_false_iff_ne.2 h
  have hnn2 : (n1 != n2) = true := by unfold bne; rw [hnn]; rfl
  clear HN
  refine wp_region_noPanic ?_
  refine wp_region_held_drew (S := fun w' => Below W.heap.size W w' ∧ Lies w' B [0, 0, ri, rp, rk, rt] ∧ Lies w' C [0, 0, ri, q, 1, m]) (by kernel_rfl) S0 (fun hH => ?_)
  clear S0
  generalize W.drew = Wd at hH ⊢
  refine wpAnyH_take (i := 0) (oi := { dst := some 49, op := _, type := _, pos := _, after := _, guard := _ }) (v := ?_) rfl (by kernel_rfl) (by kernel_rfl) (by kernel_rfl) (fun _ _ _ h => h) (Or.inl ⟨by rfl, ?_⟩) hH ?_
  rotate_left
  · intro wz hSw
    (try dsimp only at hSw)
    first | (go_simp; done) | (go_simp; with_reducible rfl)
  try simp only [Act.put, List.setIfInBounds_toArray, List.set_cons_zero, List.set_cons_succ]
  refine wpAnyH_take (i := 1) (oi := { dst := some 50, op := _, type := _, pos := _, after := _, guard := _ }) (v := ?_) rfl (by kernel_rfl) (by kernel_rfl) (by kernel_rfl) (fun _ _ _ h => h) (Or.inl ⟨by rfl, ?_⟩) hH ?_
  rotate_left
  · intro wz hSw
    (try dsimp only at hSw)
    obtain ⟨-, XS, YS⟩ := hSw
    obtain ⟨z0, z1, z2, z3, z4, z5⟩ := XS.six
    obtain ⟨u0, u1, u2, u3, u4, u5⟩ := YS.six
    first | (go_simp; done) | (go_simp; with_reducible rfl)
  try simp only [Act.put, List.setIfInBounds_toArray, List.set_cons_zero, List.set_cons_succ]
  refine wpAnyH_take (i := 4) (oi := { dst := some 53, op := _, type := _, pos := _, after := _, guard := _ }) (v := ?_) rfl (by kernel_rfl) (by kernel_rfl) (by kernel_rfl) (fun _ _ _ h => h) (Or.inl ⟨by rfl, ?_⟩) hH ?_
  rotate_left
  · intro wz hSw
    (try dsimp only at hSw)
    first | (go_simp; done) | (go_simp; with_reducible rfl)
  try simp only [Act.put, List.setIfInBounds_toArray, List.set_cons_zero, List.set_cons_succ]
  refine wpAnyH_take (i := 5) (oi := { dst := some 54, op := _, type := _, pos := _, after := _, guard := _ }) (v := ?_) rfl (by kernel_rfl) (by kernel_rfl) (by kernel_rfl) (fun _ _ _ h => h) (Or.inl ⟨by rfl, ?_⟩) hH ?_
  rotate_left
  · intro wz hSw
    (try dsimp only at hSw)
    obtain ⟨-, XS, YS⟩ := hSw
    obtain ⟨z0, z1, z2, z3, z4, z5⟩ := XS.six
    obtain ⟨u0, u1, u2, u3, u4, u5⟩ := YS.six
    first | (go_simp; done) | (go_simp; with_reducible rfl)
  try simp only [Act.put, List.setIfInBounds_toArray, List.set_cons_zero, List.set_cons_succ]
  refine wpAnyH_take (i := 6) (oi := { dst := some 55, op := _, type := _, pos := _, after := _, guard := _ }) (v := ?_) rfl (by kernel_rfl) (by kernel_rfl) (by kernel_rfl) (fun _ _ _ h => h) (Or.inl ⟨by rfl, ?_⟩) hH ?_
  rotate_left
  · intro wz hSw
    (try dsimp only at hSw)
    obtain ⟨-, XS, YS⟩ := hSw
    obtain ⟨z0, z1, z2, z3, z4, z5⟩ := XS.six
    obtain ⟨u0, u1, u2, u3, u4, u5⟩ := YS.six
    first | (go_simp; done) | (go_simp; with_reducible rfl)
  try simp only [Act.put, List.setIfInBounds_toArray, List.set_cons_zero, List.set_cons_succ]
  refine wpAnyH_ready (rs := [2, 7]) (by kernel_rfl) (by simp) ?_
  refine (AllReadyH.cons (o := { dst := some 51, op := _, type := _, pos := _, after := _, guard := _ }) rfl (fun K hK => ?_) (AllReadyH.cons (o := { dst := some 56, op := _, type := _, pos := _, after := _, guard := _ }) rfl (fun K hK => ?_) AllReadyH.nil))
  · go_simp
    have hn : Below Wd.heap.size Wd (Wd.alloc (.cells #[.int .i64 0, .int .i64 0, .int .i64 ri, .int .i64 rp, .int .i64 rk, .int .i64 rt] 35)) := below_new Wd (.cells #[.int .i64 0, .int .i64 0, .int .i64 ri, .int .i64 rp, .int .i64 rk, .int .i64 rt] 35)
    have RY2 : Rds fR 6 (Wd.alloc (.cells #[.int .i64 0, .int .i64 0, .int .i64 ri, .int .i64 rp, .int .i64 rk, .int .i64 rt] 35)) (some ⟨Wd.heap.size, 0, none⟩) 1 [(⟨0, 0, ri, rp, rk, rt⟩ : Rl)] := rds_newl Wd [(⟨0, 0, ri, rp, rk, rt⟩ : Rl)] 35 hw1 rfl
    generalize Wd.alloc (.cells #[.int .i64 0, .int .i64 0, .int .i64 ri, .int .i64 rp, .int .i64 rk, .int .i64 rt] 35) = W2 at hn RY2 ⊢
    refine hK.out _ _ (kept_two hH hn) (fun hH2 => ?_)
    clear hK K hH hn
    have hH := hH2
    clear hH2
    try simp only [Act.put, List.setIfInBounds_toArray, List.set_cons_zero, List.set_cons_succ]
    refine wpAnyH_ready (rs := [3, 7]) (by kernel_rfl) (by simp) ?_
    refine (AllReadyH.cons (o := { dst := some 52, op := _, type := _, pos := _, after := _, guard := _ }) rfl (fun K hK => ?_) (AllReadyH.cons (o := { dst := some 56, op := _, type := _, pos := _, after := _, guard := _ }) rfl (fun K hK => ?_) AllReadyH.nil))
    · go_simp
      refine (of_at t _ RY2 rfl (by simp)).mono ?_
      rw [hx1]
      rintro e wq3 ⟨rfl, hn⟩
      go_wp2_with fail
      replace RY2 := RY2.later hn
      refine hK.out _ _ (kept_two hH hn) (fun hH2 => ?_)
      clear hK K hH hn
      have hH := hH2
      clear hH2
      try simp only [Act.put, List.setIfInBounds_toArray, List.set_cons_zero, List.set_cons_succ]
      refine wpAnyH_ready (rs := [7]) (by kernel_rfl) (by simp) ?_
      refine (AllReadyH.cons (o := { dst := some 56, op := _, type := _, pos := _, after := _, guard := _ }) rfl (fun K hK => ?_) AllReadyH.nil)
      go_simp
      have hn : Below wq3.heap.size wq3 (wq3.alloc (.cells #[.int .i64 0, .int .i64 0, .int .i64 ri, .int .i64 rp, .int .i64 rk, .int .i64 rt, .int .i64 0, .int .i64 0, .int .i64 ri, .int .i64 q, .int .i64 1, .int .i64 m] 35)) := below_new wq3 (.cells #[.int .i64 0, .int .i64 0, .int .i64 ri, .int .i64 rp, .int .i64 rk, .int .i64 rt, .int .i64 0, .int .i64 0, .int .i64 ri, .int .i64 q, .int .i64 1, .int .i64 m] 35)
      have RY7 : Rds fR 6 (wq3.alloc (.cells #[.int .i64 0, .int .i64 0, .int .i64 ri, .int .i64 rp, .int .i64 rk, .int .i64 rt, .int .i64 0, .int .i64 0, .int .i64 ri, .int .i64 q, .int .i64 1, .int .i64 m] 35)) (some ⟨wq3.heap.size, 0, none⟩) 2 [(⟨0, 0, ri, rp, rk, rt⟩ : Rl), (⟨0, 0, ri, q, 1, m⟩ : Rl)] := rds_newl wq3 [(⟨0, 0, ri, rp, rk, rt⟩ : Rl), (⟨0, 0, ri, q, 1, m⟩ : Rl)] 35 hw2 rfl
      generalize wq3.alloc (.cells #[.int .i64 0, .int .i64 0, .int .i64 ri, .int .i64 rp, .int .i64 rk, .int .i64 rt, .int .i64 0, .int .i64 0, .int .i64 ri, .int .i64 q, .int .i64 1, .int .i64 m] 35) = W7 at hn RY7 ⊢
      replace RY2 := RY2.later hn
      refine hK.out _ _ (kept_two hH hn) (fun hH2 => ?_)
      clear hK K hH hn
      have hH := hH2
      clear hH2
      try simp only [Act.put, List.setIfInBounds_toArray, List.set_cons_zero, List.set_cons_succ]
      refine wpAnyH_ready (rs := [8]) (by kernel_rfl) (by simp) ?_
      refine (AllReadyH.cons (o := { dst := some 57, op := _, type := _, pos := _, after := _, guard := _ }) rfl (fun K hK => ?_) AllReadyH.nil)
      go_simp
      refine (of_at t _ RY7 rfl (by simp)).mono ?_
      rw [hx2]
      rintro e wq8 ⟨rfl, hn⟩
      go_wp2_with fail
      replace RY2 := RY2.later hn
      replace RY7 := RY7.later hn
      refine hK.out _ _ (kept_two hH hn) (fun hH2 => ?_)
      clear hK K hH hn
      have hH := hH2
      clear hH2
      try simp only [Act.put, List.setIfInBounds_toArray, List.set_cons_zero, List.set_cons_succ]
      refine wpAnyH_take (i := 9) (oi := { dst := some 58, op := _, type := _, pos := _, after := _, guard := _ }) (v := ?_) rfl (by kernel_rfl) (by kernel_rfl) (by kernel_rfl) (fun _ _ _ h => h) (Or.inl ⟨by rfl, ?_⟩) hH ?_
      rotate_left
      · intro wz hSw
        (try dsimp only at hSw)
        first | (go_simp; done) | (go_simp; with_reducible rfl)
      try simp only [Act.put, List.setIfInBounds_toArray, List.set_cons_zero, List.set_cons_succ]
      refine wpAnyH_take (i := 10) (oi := { dst := some 6, op := _, type := _, pos := _, after := _, guard := _ }) (v := ?_) rfl (by kernel_rfl) (by kernel_rfl) (by kernel_rfl) (fun _ _ _ h => h) (Or.inl ⟨by rfl, ?_⟩) hH ?_
      rotate_left
      · intro wz hSw
        (try dsimp only at hSw)
        first | (go_simp; done) | (go_simp; with_reducible rfl)
      try simp only [Act.put, List.setIfInBounds_toArray, List.set_cons_zero, List.set_cons_succ]
      refine wpAnyH_done (by kernel_rfl) ?_ _
      refine NoPanic.normal ?_
      have hbZ := below_step hbW hH.1
      go_wp2_with fail
      go_ret
      exact ⟨rfl, hbZ⟩
    · go_simp
      have hn : Below W2.heap.size W2 (W2.alloc (.cells #[.int .i64 0, .int .i64 0, .int .i64 ri, .int .i64 rp, .int .i64 rk, .int .i64 rt, .int .i64 0, .int .i64 0, .int .i64 ri, .int .i64 q, .int .i64 1, .int .i64 m] 35)) := below_new W2 (.cells #[.int .i64 0, .int .i64 0, .int .i64 ri, .int .i64 rp, .int .i64 rk, .int .i64 rt, .int .i64 0, .int .i64 0, .int .i64 ri, .int .i64 q, .int .i64 1, .int .i64 m] 35)
      have RY7 : Rds fR 6 (W2.alloc (.cells #[.int .i64 0, .int .i64 0, .int .i64 ri, .int .i64 rp, .int .i64 rk, .int .i64 rt, .int .i64 0, .int .i64 0, .int .i64 ri, .int .i64 q, .int .i64 1, .int .i64 m] 35)) (some ⟨W2.heap.size, 0, none⟩) 2 [(⟨0, 0, ri, rp, rk, rt⟩ : Rl), (⟨0, 0, ri, q, 1, m⟩ : Rl)] := rds_newl W2 [(⟨0, 0, ri, rp, rk, rt⟩ : Rl), (⟨0, 0, ri, q, 1, m⟩ : Rl)] 35 hw2 rfl
      generalize W2.alloc (.cells #[.int .i64 0, .int .i64 0, .int .i64 ri, .int .i64 rp, .int .i64 rk, .int .i64 rt, .int .i64 0, .int .i64 0, .int .i64 ri, .int .i64 q, .int .i64 1, .int .i64 m] 35) = W7 at hn RY7 ⊢
      replace RY2 := RY2.later hn
      refine hK.out _ _ (kept_two hH hn) (fun hH2 => ?_)
      clear hK K hH hn
      have hH := hH2
      clear hH2
      try simp only [Act.put, List.setIfInBounds_toArray, List.set_cons_zero, List.set_cons_succ]
      refine wpAnyH_ready (rs := [3]) (by kernel_rfl) (by simp) ?_
      refine (AllReadyH.cons (o := { dst := some 52, op := _, type := _, pos := _, after := _, guard := _ }) rfl (fun K hK => ?_) AllReadyH.nil)
      go_simp
      refine (of_at t _ RY2 rfl (by simp)).mono ?_
      rw [hx1]
      rintro e wq3 ⟨rfl, hn⟩
      go_wp2_with fail
      replace RY2 := RY2.later hn
      replace RY7 := RY7.later hn
      refine hK.out _ _ (kept_two hH hn) (fun hH2 => ?_)
      clear hK K hH hn
      have hH := hH2
      clear hH2
      try simp only [Act.put, List.setIfInBounds_toArray, List.set_cons_zero, List.set_cons_succ]
      refine wpAnyH_ready (rs := [8]) (by kernel_rfl) (by simp) ?_
      refine (AllReadyH.cons (o := { dst := some 57, op := _, type := _, pos := _, after := _, guard := _ }) rfl (fun K hK => ?_) AllReadyH.nil)
      go_simp
      refine (of_at t _ RY7 rfl (by simp)).mono ?_
      rw [hx2]
      rintro e wq8 ⟨rfl, hn⟩
      go_wp2_with fail
      replace RY2 := RY2.later hn
      replace RY7 := RY7.later hn
      refine hK.out _ _ (kept_two hH hn) (fun hH2 => ?_)
      clear hK K hH hn
      have hH := hH2
      clear hH2
      try simp only [Act.put, List.setIfInBounds_toArray, List.set_cons_zero, List.set_cons_succ]
      refine wpAnyH_take (i := 9) (oi := { dst := some 58, op := _, type := _, pos := _, after := _, guard := _ }) (v := ?_) rfl (by kernel_rfl) (by kernel_rfl) (by kernel_rfl) (fun _ _ _ h => h) (Or.inl ⟨by rfl, ?_⟩) hH ?_
      rotate_left
      · intro wz hSw
        (try dsimp only at hSw)
        first | (go_simp; done) | (go_simp; with_reducible rfl)
      try simp only [Act.put, List.setIfInBounds_toArray, List.set_cons_zero, List.set_cons_succ]
      refine wpAnyH_take (i := 10) (oi := { dst := some 6, op := _, type := _, pos := _, after := _, guard := _ }) (v := ?_) rfl (by kernel_rfl) (by kernel_rfl) (by kernel_rfl) (fun _ _ _ h => h) (Or.inl ⟨by rfl, ?_⟩) hH ?_
      rotate_left
      · intro wz hSw
        (try dsimp only at hSw)
        first | (go_simp; done) | (go_simp; with_reducible rfl)
      try simp only [Act.put, List.setIfInBounds_toArray, List.set_cons_zero, List.set_cons_succ]
      refine wpAnyH_done (by kernel_rfl) ?_ _
      refine NoPanic.normal ?_
      have hbZ := below_step hbW hH.1
      go_wp2_with fail
      go_ret
      exact ⟨rfl, hbZ⟩
  · go_simp
    have hn : Below Wd.heap.size Wd (Wd.alloc (.cells #[.int .i64 0, .int .i64 0, .int .i64 ri, .int .i64 rp, .int .i64 rk, .int .i64 rt, .int .i64 0, .int .i64 0, .int .i64 ri, .int .i64 q, .int .i64 1, .int .i64 m] 35)) := below_new Wd (.cells #[.int .i64 0, .int .i64 0, .int .i64 ri, .int .i64 rp, .int .i64 rk, .int .i64 rt, .int .i64 0, .int .i64 0, .int .i64 ri, .int .i64 q, .int .i64 1, .int .i64 m] 35)
    have RY7 : Rds fR 6 (Wd.alloc (.cells #[.int .i64 0, .int .i64 0, .int .i64 ri, .int .i64 rp, .int .i64 rk, .int .i64 rt, .int .i64 0, .int .i64 0, .int .i64 ri, .int .i64 q, .int .i64 1, .int .i64 m] 35)) (some ⟨Wd.heap.size, 0, none⟩) 2 [(⟨0, 0, ri, rp, rk, rt⟩ : Rl), (⟨0, 0, ri, q, 1, m⟩ : Rl)] := rds_newl Wd [(⟨0, 0, ri, rp, rk, rt⟩ : Rl), (⟨0, 0, ri, q, 1, m⟩ : Rl)] 35 hw2 rfl
    generalize Wd.alloc (.cells #[.int .i64 0, .int .i64 0, .int .i64 ri, .int .i64 rp, .int .i64 rk, .int .i64 rt, .int .i64 0, .int .i64 0, .int .i64 ri, .int .i64 q, .int .i64 1, .int .i64 m] 35) = W7 at hn RY7 ⊢
    refine hK.out _ _ (kept_two hH hn) (fun hH2 => ?_)
    clear hK K hH hn
    have hH := hH2
    clear hH2
    try simp only [Act.put, List.setIfInBounds_toArray, List.set_cons_zero, List.set_cons_succ]
    refine wpAnyH_ready (rs := [2]) (by kernel_rfl) (by simp) ?_
    refine (AllReadyH.cons (o := { dst := some 51, op := _, type := _, pos := _, after := _, guard := _ }) rfl (fun K hK => ?_) AllReadyH.nil)
    go_simp
    have hn : Below W7.heap.size W7 (W7.alloc (.cells #[.int .i64 0, .int .i64 0, .int .i64 ri, .int .i64 rp, .int .i64 rk, .int .i64 rt] 35)) := below_new W7 (.cells #[.int .i64 0, .int .i64 0, .int .i64 ri, .int .i64 rp, .int .i64 rk, .int .i64 rt] 35)
    have RY2 : Rds fR 6 (W7.alloc (.cells #[.int .i64 0, .int .i64 0, .int .i64 ri, .int .i64 rp, .int .i64 rk, .int .i64 rt] 35)) (some ⟨W7.heap.size, 0, none⟩) 1 [(⟨0, 0, ri, rp, rk, rt⟩ : Rl)] := rds_newl W7 [(⟨0, 0, ri, rp, rk, rt⟩ : Rl)] 35 hw1 rfl
    generalize W7.alloc (.cells #[.int .i64 0, .int .i64 0, .int .i64 ri, .int .i64 rp, .int .i64 rk, .int .i64 rt] 35) = W2 at hn RY2 ⊢
    replace RY7 := RY7.later hn
    refine hK.out _ _ (kept_two hH hn) (fun hH2 => ?_)
    clear hK K hH hn
    have hH := hH2
    clear hH2
    try simp only [Act.put, List.setIfInBounds_toArray, List.set_cons_zero, List.set_cons_succ]
    refine wpAnyH_ready (rs := [3]) (by kernel_rfl) (by simp) ?_
    refine (AllReadyH.cons (o := { dst := some 52, op := _, type := _, pos := _, after := _, guard := _ }) rfl (fun K hK => ?_) AllReadyH.nil)
    go_simp
    refine (of_at t _ RY2 rfl (by simp)).mono ?_
    rw [hx1]
    rintro e wq3 ⟨rfl, hn⟩
    go_wp2_with fail
    replace RY7 := RY7.later hn
    replace RY2 := RY2.later hn
    refine hK.out _ _ (kept_two hH hn) (fun hH2 => ?_)
    clear hK K hH hn
    have hH := hH2
    clear hH2
    try simp only [Act.put, List.setIfInBounds_toArray, List.set_cons_zero, List.set_cons_succ]
    refine wpAnyH_ready (rs := [8]) (by kernel_rfl) (by simp) ?_
    refine (AllReadyH.cons (o := { dst := some 57, op := _, type := _, pos := _, after := _, guard := _ }) rfl (fun K hK => ?_) AllReadyH.nil)
    go_simp
    refine (of_at t _ RY7 rfl (by simp)).mono ?_
    rw [hx2]
    rintro e wq8 ⟨rfl, hn⟩
    go_wp2_with fail
    replace RY7 := RY7.later hn
    replace RY2 := RY2.later hn
    refine hK.out _ _ (kept_two hH hn) (fun hH2 => ?_)
    clear hK K hH hn
    have hH := hH2
    clear hH2
    try simp only [Act.put, List.setIfInBounds_toArray, List.set_cons_zero, List.set_cons_succ]
    refine wpAnyH_take (i := 9) (oi := { dst := some 58, op := _, type := _, pos := _, after := _, guard := _ }) (v := ?_) rfl (by kernel_rfl) (by kernel_rfl) (by kernel_rfl) (fun _ _ _ h => h) (Or.inl ⟨by rfl, ?_⟩) hH ?_
    rotate_left
    · intro wz hSw
      (try dsimp only at hSw)
      first | (go_simp; done) | (go_simp; with_reducible rfl)
    try simp only [Act.put, List.setIfInBounds_toArray, List.set_cons_zero, List.set_cons_succ]
    refine wpAnyH_take (i := 10) (oi := { dst := some 6, op := _, type := _, pos := _, after := _, guard := _ }) (v := ?_) rfl (by kernel_rfl) (by kernel_rfl) (by kernel_rfl) (fun _ _ _ h => h) (Or.inl ⟨by rfl, ?_⟩) hH ?_
    rotate_left
    · intro wz hSw
      (try dsimp only at hSw)
      first | (go_simp; done) | (go_simp; with_reducible rfl)
    try simp only [Act.put, List.setIfInBounds_toArray, List.set_cons_zero, List.set_cons_succ]
    refine wpAnyH_done (by kernel_rfl) ?_ _
    refine NoPanic.normal ?_
    have hbZ := below_step hbW hH.1
    go_wp2_with fail
    go_ret
    exact ⟨rfl, hbZ⟩
set_option maxRecDepth 100000 in
theorem walk_may (t ra rn ri rp rk rt m : Int) (hm : okR ra rn ri rp rk rt = false)  (w : World) :
    Calls Try.prog 8 #[.int .i64 t, .agg #[.int .i64 ra, .int .i64 rn, .int .i64 ri, .int .i64 rp, .int .i64 rk, .int .i64 rt], .int .i64 m] w fun e w' => e = .returned (.bool true) ∧ Below w.heap.size w w' := by
  have hn := below_new w (.cells #[.int .i64 ra, .int .i64 rn, .int .i64 ri, .int .i64 rp, .int .i64 rk, .int .i64 rt] 35)
  have X := Lies.new w [ra, rn, ri, rp, rk, rt] 35 rfl
  have hne := ne_prefix
  go_enter Try.func8, Try.ntmps8
  go_wp2_with fail
  refine (dawake_any _).mono ?_
  rintro e w1 ⟨rfl, hb1⟩
  have hbA := below_step hn hb1
  replace X := X.later hb1
  obtain ⟨x0, x1, x2, x3, x4, x5⟩ := X.six
  have cM := ruMay_any ra rn ri rp rk rt w1
  rw [hm] at cM
  go_wp2_with fail
  refine cM.mono ?_
  clear cM x0 x1 x2 x3 x4 x5
  rintro e w2 ⟨rfl, hb2⟩
  have hbB := below_step hbA hb2
  replace X := X.later hb2
  obtain ⟨x0, x1, x2, x3, x4, x5⟩ := X.six
  go_wp2_with fail
  go_ret
  exact ⟨rfl, hbB⟩
set_option maxRecDepth 100000 in
theorem walk_low (t ra rn ri rp rk rt m : Int) (hm : okR ra rn ri rp rk rt = true) (h : t < 1) (w : World) :
    Calls Try.prog 8 #[.int .i64 t, .agg #[.int .i64 ra, .int .i64 rn, .int .i64 ri, .int .i64 rp, .int .i64 rk, .int .i64 rt], .int .i64 m] w fun e w' => e = .returned (.bool true) ∧ Below w.heap.size w w' := by
  have hn := below_new w (.cells #[.int .i64 ra, .int .i64 rn, .int .i64 ri, .int .i64 rp, .int .i64 rk, .int .i64 rt] 35)
  have X := Lies.new w [ra, rn, ri, rp, rk, rt] 35 rfl
  have hne := ne_prefix
  have d0 : decide (t < 1) = true := decide_eq_true (by omega)
  go_enter Try.func8, Try.ntmps8
  go_wp2_with fail
  refine (dawake_any _).mono ?_
  rintro e w1 ⟨rfl, hb1⟩
  have hbA := below_step hn hb1
  replace X := X.later hb1
  obtain ⟨x0, x1, x2, x3, x4, x5⟩ := X.six
  have cM := ruMay_any ra rn ri rp rk rt w1
  rw [hm] at cM
  go_wp2_with fail
  refine cM.mono ?_
  clear cM x0 x1 x2 x3 x4 x5
  rintro e w2 ⟨rfl, hb2⟩
  have hbB := below_step hbA hb2
  replace X := X.later hb2
  obtain ⟨x0, x1, x2, x3, x4, x5⟩ := X.six
  go_wp2_with fail
  go_ret
  exact ⟨rfl, hbB⟩
set_option maxRecDepth 100000 in
theorem walk_high (t ra rn ri rp rk rt m : Int) (hm : okR ra rn ri rp rk rt = true) (h0 : 1 ≤ t) (h : 100 < t) (w : World) :
    Calls Try.prog 8 #[.int .i64 t, .agg #[.int .i64 ra, .int .i64 rn, .int .i64 ri, .int .i64 rp, .int .i64 rk, .int .i64 rt], .int .i64 m] w fun e w' => e = .returned (.bool true) ∧ Below w.heap.size w w' := by
  have hn := below_new w (.cells #[.int .i64 ra, .int .i64 rn, .int .i64 ri, .int .i64 rp, .int .i64 rk, .int .i64 rt] 35)
  have X := Lies.new w [ra, rn, ri, rp, rk, rt] 35 rfl
  have hne := ne_prefix
  have d0 : decide (t < 1) = false := decide_eq_false (by omega)
  have d1 : decide (100 < t) = true := decide_eq_true (by omega)
  go_enter Try.func8, Try.ntmps8
  go_wp2_with fail
  refine (dawake_any _).mono ?_
  rintro e w1 ⟨rfl, hb1⟩
  have hbA := below_step hn hb1
  replace X := X.later hb1
  obtain ⟨x0, x1, x2, x3, x4, x5⟩ := X.six
  have cM := ruMay_any ra rn ri rp rk rt w1
  rw [hm] at cM
  go_wp2_with fail
  refine cM.mono ?_
  clear cM x0 x1 x2 x3 x4 x5
  rintro e w2 ⟨rfl, hb2⟩
  have hbB := below_step hbA hb2
  replace X := X.later hb2
  obtain ⟨x0, x1, x2, x3, x4, x5⟩ := X.six
  go_wp2_with fail
  go_ret
  exact ⟨rfl, hbB⟩
set_option maxRecDepth 100000 in
theorem walk_pre (t ra rn ri rp rk rt m : Int) (hm : okR ra rn ri rp rk rt = true) (h0 : 1 ≤ t) (h1 : t ≤ 100) (h : (ra == 0 && rn == 0) = false) (w : World) :
    Calls Try.prog 8 #[.int .i64 t, .agg #[.int .i64 ra, .int .i64 rn, .int .i64 ri, .int .i64 rp, .int .i64 rk, .int .i64 rt], .int .i64 m] w fun e w' => e = .returned (.bool true) ∧ Below w.heap.size w w' := by
  have hn := below_new w (.cells #[.int .i64 ra, .int .i64 rn, .int .i64 ri, .int .i64 rp, .int .i64 rk, .int .i64 rt] 35)
  have X := Lies.new w [ra, rn, ri, rp, rk, rt] 35 rfl
  have hne := ne_prefix
  have d0 : decide (t < 1) = false := decide_eq_false (by omega)
  have d1 : decide (100 < t) = false := decide_eq_false (by omega)
  go_enter Try.func8, Try.ntmps8
  go_wp2_with fail
  refine (dawake_any _).mono ?_
  rintro e w1 ⟨rfl, hb1⟩
  have hbA := below_step hn hb1
  replace X := X.later hb1
  obtain ⟨x0, x1, x2, x3, x4, x5⟩ := X.six
  have cM := ruMay_any ra rn ri rp rk rt w1
  rw [hm] at cM
  go_wp2_with fail
  refine cM.mono ?_
  clear cM x0 x1 x2 x3 x4 x5
  rintro e w2 ⟨rfl, hb2⟩
  have hbB := below_step hbA hb2
  replace X := X.later hb2
  obtain ⟨x0, x1, x2, x3, x4, x5⟩ := X.six
  go_wp2_with fail
  go_ret
  exact ⟨rfl, hbB⟩
set_option maxRecDepth 100000 in
theorem walk_few (t ra rn ri rp rk rt m : Int) (hm : okR ra rn ri rp rk rt = true) (h0 : 1 ≤ t) (h1 : t ≤ 100) (h : (ra == 0 && rn == 0) = true) (g : m < 1) (w : World) :
    Calls Try.prog 8 #[.int .i64 t, .agg #[.int .i64 ra, .int .i64 rn, .int .i64 ri, .int .i64 rp, .int .i64 rk, .int .i64 rt], .int .i64 m] w fun e w' => e = .returned (.bool true) ∧ Below w.heap.size w w' := by
  have hn := below_new w (.cells #[.int .i64 ra, .int .i64 rn, .int .i64 ri, .int .i64 rp, .int .i64 rk, .int .i64 rt] 35)
  have X := Lies.new w [ra, rn, ri, rp, rk, rt] 35 rfl
  have hne := ne_prefix
  have d0 : decide (t < 1) = false := decide_eq_false (by omega)
  have d1 : decide (100 < t) = false := decide_eq_false (by omega)
  have d2 : decide (m < 1) = true := decide_eq_true (by omega)
  go_enter Try.func8, Try.ntmps8
  go_wp2_with fail
  refine (dawake_any _).mono ?_
  rintro e w1 ⟨rfl, hb1⟩
  have hbA := below_step hn hb1
  replace X := X.later hb1
  obtain ⟨x0, x1, x2, x3, x4, x5⟩ := X.six
  have cM := ruMay_any ra rn ri rp rk rt w1
  rw [hm] at cM
  go_wp2_with fail
  refine cM.mono ?_
  clear cM x0 x1 x2 x3 x4 x5
  rintro e w2 ⟨rfl, hb2⟩
  have hbB := below_step hbA hb2
  replace X := X.later hb2
  obtain ⟨x0, x1, x2, x3, x4, x5⟩ := X.six
  go_wp2_with fail
  go_ret
  exact ⟨rfl, hbB⟩
set_option maxRecDepth 100000 in
theorem walk_much (t ra rn ri rp rk rt m : Int) (hm : okR ra rn ri rp rk rt = true) (h0 : 1 ≤ t) (h1 : t ≤ 100) (h : (ra == 0 && rn == 0) = true) (g0 : 1 ≤ m) (g : 7 < m) (w : World) :
    Calls Try.prog 8 #[.int .i64 t, .agg #[.int .i64 ra, .int .i64 rn, .int .i64 ri, .int .i64 rp, .int .i64 rk, .int .i64 rt], .int .i64 m] w fun e w' => e = .returned (.bool true) ∧ Below w.heap.size w w' := by
  have hn := below_new w (.cells #[.int .i64 ra, .int .i64 rn, .int .i64 ri, .int .i64 rp, .int .i64 rk, .int .i64 rt] 35)
  have X := Lies.new w [ra, rn, ri, rp, rk, rt] 35 rfl
  have hne := ne_prefix
  have d0 : decide (t < 1) = false := decide_eq_false (by omega)
  have d1 : decide (100 < t) = false := decide_eq_false (by omega)
  have d2 : decide (m < 1) = false := decide_eq_false (by omega)
  have d3 : decide (7 < m) = true := decide_eq_true (by omega)
  go_enter Try.func8, Try.ntmps8
  go_wp2_with fail
  refine (dawake_any _).mono ?_
  rintro e w1 ⟨rfl, hb1⟩
  have hbA := below_step hn hb1
  replace X := X.later hb1
  obtain ⟨x0, x1, x2, x3, x4, x5⟩ := X.six
  have cM := ruMay_any ra rn ri rp rk rt w1
  rw [hm] at cM
  go_wp2_with fail
  refine cM.mono ?_
  clear cM x0 x1 x2 x3 x4 x5
  rintro e w2 ⟨rfl, hb2⟩
  have hbB := below_step hbA hb2
  replace X := X.later hb2
  obtain ⟨x0, x1, x2, x3, x4, x5⟩ := X.six
  go_wp2_with fail
  go_ret
  exact ⟨rfl, hbB⟩

theorem walk (t ra rn ri rp rk rt m : Int) (wt : (Lit.int .i64 t).wf = true) (w0 : (Lit.int .i64 ra).wf = true) (w1 : (Lit.int .i64 rn).wf = true) (w2 : (Lit.int .i64 ri).wf = true) (w3 : (Lit.int .i64 rp).wf = true) (w4 : (Lit.int .i64 rk).wf = true) (w5 : (Lit.int .i64 rt).wf = true) (w6 : (Lit.int .i64 m).wf = true) (w : World) :
    Calls Try.prog 8 #[.int .i64 t, .agg #[.int .i64 ra, .int .i64 rn, .int .i64 ri, .int .i64 rp, .int .i64 rk, .int .i64 rt], .int .i64 m] w fun e w' => e = .returned (.bool true) ∧ Below w.heap.size w w' := by
  cases hm : okR ra rn ri rp rk rt
  · exact walk_may t ra rn ri rp rk rt m hm w
  by_cases h0 : t < 1
  · exact walk_low t ra rn ri rp rk rt m hm h0 w
  by_cases h1 : 100 < t
  · exact walk_high t ra rn ri rp rk rt m hm (by omega) h1 w
  cases hp : (ra == 0 && rn == 0)
  · exact walk_pre t ra rn ri rp rk rt m hm (by omega) (by omega) hp w
  by_cases h2 : m < 1
  · exact walk_few t ra rn ri rp rk rt m hm (by omega) (by omega) hp h2 w
  by_cases h3 : 7 < m
  · exact walk_much t ra rn ri rp rk rt m hm (by omega) (by omega) hp (by omega) h3 w
  simp only [Bool.and_eq_true, beq_iff_eq] at hp
  obtain ⟨rfl, rfl⟩ := hp
  exact walk_yes t ri rp rk rt m (by omega) (by omega) hm (by omega) (by omega) w

theorem own : ownKnob Try.prog.godebug = none := by kernel_rfl
theorem laidOut : laidOutB Try.prog = true := by kernel_rfl
set_option maxRecDepth 100000 in
theorem lifted (os : Os) (started : os.Started) (H : Type) (enc : TypeId × Value → H) :
    ReturnsInHanded {} Try.checked os 8 .any (Rows.digestMoreSpec.pre6 enc Try.prog Try.f8 Rows.digestMoreRow.domain false) (Rows.digestMoreSpec.post enc Try.prog Try.f8 false true false false) := by
  refine returnsInHanded_of_change (C := Try.checked) own started (by kernel_rfl) Try.func8
    (ChangeSpec.witness6 (enc := enc) (C := Try.checked) false ⟨#[], #[.int .i64 0, .agg #[.int .i64 0, .int .i64 0, .int .i64 0, .int .i64 0, .int .i64 0, .int .i64 0], .int .i64 0], []⟩ 8 (by kernel_rfl) (by kernel_rfl) (by kernel_rfl) (by kernel_rfl)) ?_
  intro W base args ds gs before hval0 hW hcnd _
  have hval : ∀ (j : Nat) t v, Try.f8.params[j]? = some t → args[j]? = some v → Value.okWide Try.prog W .any base t v := hval0
  have hW' := hW
  obtain ⟨p, q, hA0, hV, rfl, hfz, hnd⟩ := hW
  have hA : DataW.TrodAll enc Try.prog W 0 (fun _ => true) true Try.f8.params.toList args.toList ds p := hA0
  rw [Try.params8] at hA hval
  obtain ⟨v0, vs0, d0, ds0, p0, q0, hargs, rfl, rfl, h0, r0⟩ := trodAll_cons hA
  obtain ⟨v1, vs1, d1, ds1, p1, q1, rfl, rfl, rfl, h1, r1⟩ := trodAll_cons r0
  obtain ⟨v2, vs2, d2, ds2, p2, q2, rfl, rfl, rfl, h2, r2⟩ := trodAll_cons r1
  obtain ⟨rfl, rfl, rfl⟩ := trodAll_nil r2
  obtain rfl : args = #[v0, v1, v2] := by cases args; simp_all
  obtain ⟨rfl, rfl⟩ := trodVars_none hV
  have k0 := h0
  have lt0 : ∀ x ∈ p0, x.block < W.heap.size := by obtain ⟨m, hm⟩ := k0; exact DataW.trod_lt m _ _ _ hm
  have k1 := h1
  have lt1 : ∀ x ∈ p1, x.block < W.heap.size := by obtain ⟨m, hm⟩ := k1; exact DataW.trod_lt m _ _ _ hm
  have k2 := h2
  have lt2 : ∀ x ∈ p2, x.block < W.heap.size := by obtain ⟨m, hm⟩ := k2; exact DataW.trod_lt m _ _ _ hm
  obtain ⟨a0, rfl, rfl, hp0, w0⟩ := open_int Try.underlying3 (hval 0 3 v0 rfl rfl) h0
  obtain ⟨a1, b1, c1, d1, e1, f1, rfl, w1a, w1b, w1c, w1d, w1e, w1f⟩ := open_rule (hval 1 35 v1 rfl rfl) h1
  obtain ⟨a2, rfl, rfl, hp2, w2⟩ := open_int Try.underlying3 (hval 2 3 v2 rfl rfl) h2
  clear hA0 hval0
  refine (walk a0 a1 b1 c1 d1 e1 f1 a2 w0 w1a w1b w1c w1d w1e w1f w2 W ).mono fun e W' ⟨he, bel⟩ => ?_
  subst he
  exact ⟨_, rfl, _, _, _, [], _, [], hW', trodAll_mk1 (shut_bool Try.underlying4 _), (trodAll_cons_mk (Below.trod laidOut (by kernel_rfl) (of_decide_eq_true (by kernel_rfl)) k0 bel lt0) (trodAll_cons_mk (Below.trod laidOut (by kernel_rfl) (of_decide_eq_true (by kernel_rfl)) k1 bel lt1) (trodAll_cons_mk (Below.trod laidOut (by kernel_rfl) (of_decide_eq_true (by kernel_rfl)) k2 bel lt2) trodAll_mk0))), rfl, bel.frame _, fun h => by cases h⟩

theorem over : Rows.digestMoreRow.holds Try.pinned (OpenSpec.ofChange Rows.digestMoreSpec) :=
  OpenClaim.holds_of_wide 8 Try.f8 rfl rfl rfl rfl rfl rfl rfl ⟨rfl, rfl, rfl, rfl, rfl⟩ rfl rfl rfl rfl rfl (by kernel_rfl) Try.func8 (by kernel_rfl)
    (of_decide_eq_true (by kernel_rfl)) (by unfold Func.isWrapper; first | (rw [if_pos (by decide +kernel)]; kernel_rfl) | (rw [if_neg (by decide +kernel)]; exact ⟨rfl, rfl⟩))
    (fun os started H enc _ => lifted os started H enc)
end Go.Proofs.Ytinmhjgnapbkmaa.digestMore
namespace Go.Proofs.Ytinmhjgnapbkmaa
theorem digestMore_holds : Rows.DigestMoreSaid := digestMore.over
#print axioms digestMore_holds
end Go.Proofs.Ytinmhjgnapbkmaa
