/- Proved: for all numbers and rules the call DigestOne(tag, other, r, port, prio) returns true (where r may not be, or a number is no tag, port or priority, nothing is asked). -/
import Derived.Test.YtinmhjgnapbkmaaDigAwake
import Derived.Test.YtinmhjgnapbkmaaDigOne
import Derived.Lib.SmallJoins
import Derived.Deep.RegionHeld3
namespace Go.Proofs.Ytinmhjgnapbkmaa.digestOne
open Go.ChangeShapes Go.WideShapes Go.ChangeAt Go.RowKit O Dg Pk Tb R
set_option linter.unusedVariables false
set_option linter.unusedSimpArgs false

theorem may_prio {a n i p k t q : Int} (h : okR a n i p k t = true) (h0 : 0 ≤ q) (h1 : q ≤ 255) : okR a n i q k t = true := by
  have g := okR_of h
  unfold okR
  rw [g.1, decide_eq_true g.2.1, decide_eq_true (show 0 ≤ q ∧ q ≤ 255 from ⟨h0, h1⟩), g.2.2.2]
  rfl
theorem may_act {a n i p k t m : Int} (h : okR a n i p k t = true) (h0 : 0 ≤ m) (h1 : m ≤ 7) : okR a n i p 1 m = true := by
  have g := okR_of h
  unfold okR
  rw [g.1, decide_eq_true g.2.1, decide_eq_true g.2.2.1]
  unfold actB
  rw [if_neg (by decide), if_pos rfl, decide_eq_true (show 0 ≤ m ∧ m ≤ 7 from ⟨h0, h1⟩)]
  rfl
theorem one_prio {t a n i p k s q : Int} (ht : 1 ≤ t ∧ t ≤ 4095) (h : okR a n i p k s = true) (h0 : 0 ≤ q) (h1 : q ≤ 255) : (ofN t [⟨a, n, i, q, k, s⟩] == ofN t [⟨a, n, i, p, k, s⟩]) = (q == p) := by
  have g1 : mayR ⟨a, n, i, p, k, s⟩ = true := h
  have g2 : mayR ⟨a, n, i, q, k, s⟩ = true := may_prio h h0 h1
  have hb := okR_bd h
  rw [Bool.eq_iff_iff, beq_iff_eq, beq_iff_eq, one_same ht ht g2 g1, wR_is g1, wR_is g2]
  simp only []
  omega
theorem one_port {t a n i p k s m : Int} (ht : 1 ≤ t ∧ t ≤ 4095) (h : okR a n i p k s = true) (h0 : 0 ≤ m) (h1 : m ≤ 7) (hk : k = 1) : (ofN t [⟨a, n, i, p, 1, m⟩] == ofN t [⟨a, n, i, p, k, s⟩]) = (m == s) := by
  subst hk
  have g1 : mayR ⟨a, n, i, p, 1, s⟩ = true := h
  have g2 : mayR ⟨a, n, i, p, 1, m⟩ = true := may_act h h0 h1
  have hb := okR_bd h
  rw [Bool.eq_iff_iff, beq_iff_eq, beq_iff_eq, one_same ht ht g2 g1, wR_is g1, wR_is g2]
  simp only []
  omega
theorem one_tag {t u a n i p k s : Int} (ht : 1 ≤ t ∧ t ≤ 4095) (hu : 1 ≤ u ∧ u ≤ 4095) (h : okR a n i p k s = true) : (ofN u [⟨a, n, i, p, k, s⟩] == ofN t [⟨a, n, i, p, k, s⟩]) = (u == t) := by
  have g1 : mayR ⟨a, n, i, p, k, s⟩ = true := h
  rw [Bool.eq_iff_iff, beq_iff_eq, beq_iff_eq, one_same hu ht g1 g1]
  omega
set_option maxRecDepth 100000 in
set_option maxHeartbeats 8000000 in
theorem walk_fwd (t u ra rn ri rp rt m q : Int) (hm : okR ra rn ri rp 1 rt = true) (g0 : ¬ t < 1) (g1 : ¬ 4095 < t) (g2 : ¬ u < 1) (g3 : ¬ 4095 < u) (g4 : ¬ q < 0) (g5 : ¬ 255 < q) (g6 : ¬ m < 0) (g7 : ¬ 7 < m)  (w : World) :
    Calls Try.prog 6 #[.int .i64 t, .int .i64 u, .agg #[.int .i64 ra, .int .i64 rn, .int .i64 ri, .int .i64 rp, .int .i64 1, .int .i64 rt], .int .i64 m, .int .i64 q] w fun e w' => e = .returned (.bool true) ∧ Below w.heap.size w w' := by
  have hn := below_new w (.cells #[.int .i64 ra, .int .i64 rn, .int .i64 ri, .int .i64 rp, .int .i64 1, .int .i64 rt] 35)
  have X := Lies.new w [ra, rn, ri, rp, 1, rt] 35 rfl
  have d0 : decide (t < 1) = false := decide_eq_false (by omega)
  have d1 : decide (4095 < t) = false := decide_eq_false (by omega)
  have d2 : decide (u < 1) = false := decide_eq_false (by omega)
  have d3 : decide (4095 < u) = false := decide_eq_false (by omega)
  have d4 : decide (q < 0) = false := decide_eq_false (by omega)
  have d5 : decide (255 < q) = false := decide_eq_false (by omega)
  have d6 : decide (m < 0) = false := decide_eq_false (by omega)
  have d7 : decide (7 < m) = false := decide_eq_false (by omega)
  have hkb : (1 != 1) = false := by rfl
  have hwr : ∀ x ∈ [(⟨ra, rn, ri, rp, 1, rt⟩ : Rl)], ∀ z ∈ fR x, (Lit.int .i64 z).wf = true := fun x hx => by rw [List.mem_singleton.1 hx]; exact may_wf hm
  have hwa : ∀ x ∈ [(⟨ra, rn, ri, q, 1, rt⟩ : Rl)], ∀ z ∈ fR x, (Lit.int .i64 z).wf = true := fun x hx => by rw [List.mem_singleton.1 hx]; exact may_wf (may_prio hm (by omega) (by omega))
  have hwb : ∀ x ∈ [(⟨ra, rn, ri, rp, 1, m⟩ : Rl)], ∀ z ∈ fR x, (Lit.int .i64 z).wf = true := fun x hx => by rw [List.mem_singleton.1 hx]; exact may_wf (may_act hm (by omega) (by omega))
  have HB1 : Hid ((ofN t [⟨ra, rn, ri, q, 1, rt⟩] == ofN t [⟨ra, rn, ri, rp, 1, rt⟩]) = (q == rp)) := one_prio ⟨by omega, by omega⟩ hm (by omega) (by omega)
  have HB3 : Hid ((ofN u [⟨ra, rn, ri, rp, 1, rt⟩] == ofN t [⟨ra, rn, ri, rp, 1, rt⟩]) = (u == t)) := one_tag ⟨by omega, by omega⟩ ⟨by omega, by omega⟩ hm
  have HB2 : Hid ((ofN t [⟨ra, rn, ri, rp, 1, m⟩] == ofN t [⟨ra, rn, ri, rp, 1, rt⟩]) = (m == rt)) := one_port ⟨by omega, by omega⟩ hm (by omega) (by omega) rfl
  clear g0 g1 g2 g3 g4 g5 g6 g7
  go_enter Try.func6, Try.ntmps6
  go_wp2_with fail
  refine (dawake_any _).mono ?_
  rintro e w1 ⟨rfl, hb1⟩
  have hbA := below_step hn hb1
  replace X := X.later hb1
  obtain ⟨x0, x1, x2, x3, x4, x5⟩ := X.six
  have cM := ruMay_any ra rn ri rp 1 rt w1
  rw [hm] at cM
  go_wp2_with fail
  refine cM.mono ?_
  clear cM x0 x1 x2 x3 x4 x5
  rintro e w2 ⟨rfl, hb2⟩
  have hbB := below_step hbA hb2
  replace X := X.later hb2
  obtain ⟨x0, x1, x2, x3, x4, x5⟩ := X.six
  have hb3 := below_new w2 (.cells #[.int .i64 ra, .int .i64 rn, .int .i64 ri, .int .i64 q, .int .i64 1, .int .i64 rt] 35)
  have hb4 := below_new (w2.alloc (.cells #[.int .i64 ra, .int .i64 rn, .int .i64 ri, .int .i64 q, .int .i64 1, .int .i64 rt] 35)) (.cells #[.int .i64 ra, .int .i64 rn, .int .i64 ri, .int .i64 rp, .int .i64 1, .int .i64 m] 35)
  obtain ⟨y0, y1, y2, y3, y4, y5⟩ := (X.later hb3).six
  obtain ⟨v0, v1, v2, v3, v4, v5⟩ := ((X.later hb3).later hb4).six
  have RX : Rds fR 6 (((w2.alloc (.cells #[.int .i64 ra, .int .i64 rn, .int .i64 ri, .int .i64 q, .int .i64 1, .int .i64 rt] 35)).alloc (.cells #[.int .i64 ra, .int .i64 rn, .int .i64 ri, .int .i64 rp, .int .i64 1, .int .i64 m] 35)).alloc (.cells #[.int .i64 ra, .int .i64 rn, .int .i64 ri, .int .i64 rp, .int .i64 1, .int .i64 rt] 35)) (some ⟨w2.heap.size + 1 + 1, 0, none⟩) 1 [(⟨ra, rn, ri, rp, 1, rt⟩ : Rl)] := rds_newl ((w2.alloc (.cells #[.int .i64 ra, .int .i64 rn, .int .i64 ri, .int .i64 q, .int .i64 1, .int .i64 rt] 35)).alloc (.cells #[.int .i64 ra, .int .i64 rn, .int .i64 ri, .int .i64 rp, .int .i64 1, .int .i64 m] 35)) [(⟨ra, rn, ri, rp, 1, rt⟩ : Rl)] 35 hwr (by simp)
  have cX := of_at t _ (n := 1) RX rfl (by simp)
  have hb5 := below_new ((w2.alloc (.cells #[.int .i64 ra, .int .i64 rn, .int .i64 ri, .int .i64 q, .int .i64 1, .int .i64 rt] 35)).alloc (.cells #[.int .i64 ra, .int .i64 rn, .int .i64 ri, .int .i64 rp, .int .i64 1, .int .i64 m] 35)) (.cells #[.int .i64 ra, .int .i64 rn, .int .i64 ri, .int .i64 rp, .int .i64 1, .int .i64 rt] 35)
  go_wp2_with fail
  refine cX.mono ?_
  clear cX RX
  rintro e w3 ⟨rfl, hb6⟩
  go_wp2_with fail
  have hbC := below_step (below_step (below_step (below_step hbB hb3) hb4) hb5) hb6
  have XW := (((X.later hb3).later hb4).later hb5).later hb6
  have YW := (((Lies.new w2 [ra, rn, ri, q, 1, rt] 35 rfl).later hb4).later hb5).later hb6
  have ZW := ((Lies.new (w2.alloc (.cells #[.int .i64 ra, .int .i64 rn, .int .i64 ri, .int .i64 q, .int .i64 1, .int .i64 rt] 35)) [ra, rn, ri, rp, 1, m] 35 (B := w2.heap.size + 1) (by simp)).later hb5).later hb6
  clear x0 x1 x2 x3 x4 x5 y0 y1 y2 y3 y4 y5 v0 v1 v2 v3 v4 v5 X hb3 hb4 hb5 hb6 hbB hbA hb1 hb2 hn
  have hbW : Below w.heap.size w w3 := hbC
  clear hbC
  generalize w2.heap.size + 1 = D at ZW ⊢
  generalize w2.heap.size = C at YW ⊢
  obtain ⟨B, hB⟩ : ∃ B, w.heap.size = B := ⟨_, rfl⟩
  rw [hB] at XW ⊢
  generalize w3 = W at hbW XW YW ZW ⊢
  have S0 : Below W.heap.size W W.drew ∧ Lies W.drew B [ra, rn, ri, rp, 1, rt] ∧ Lies W.drew C [ra, rn, ri, q, 1, rt] ∧ Lies W.drew D [ra, rn, ri, rp, 1, m] := ⟨(Below.refl _ _).drew, XW.later (Below.refl _ _).drew, YW.later (Below.refl _ _).drew, ZW.later (Below.refl _ _).drew⟩
  clear XW YW ZW
  obtain ⟨n1, hn1⟩ : ∃ n, ofN t [⟨ra, rn, ri, q, 1, rt⟩] = n := ⟨_, rfl⟩
  obtain ⟨n2, hn2⟩ : ∃ n, ofN t [⟨ra, rn, ri, rp, 1, m⟩] = n := ⟨_, rfl⟩
  obtain ⟨n3, hn3⟩ : ∃ n, ofN u [⟨ra, rn, ri, rp, 1, rt⟩] = n := ⟨_, rfl⟩
  have h1 := HB1.out
  have h3 := HB3.out
  have h2 := HB2.out
  rw [hn1] at h1
  rw [hn3] at h3
  rw [hn2] at h2
  clear HB1 HB3 HB2
  generalize ofN t [⟨ra, rn, ri, rp, 1, rt⟩] = x at h1 h3 h2 ⊢
  obtain ⟨b1, e1⟩ : ∃ b, (q == rp) = b := ⟨_, rfl⟩
  obtain ⟨b3, e3⟩ : ∃ b, (u == t) = b := ⟨_, rfl⟩
  rw [e1] at h1
  rw [e3] at h3
  obtain ⟨b2, e2⟩ : ∃ b, (m == rt) = b := ⟨_, rfl⟩
  rw [e2] at h2
  refine wp_region_noPanic ?_
  refine wp_region_held_drew (S := fun w' => Below W.heap.size W w' ∧ Lies w' B [ra, rn, ri, rp, 1, rt] ∧ Lies w' C [ra, rn, ri, q, 1, rt] ∧ Lies w' D [ra, rn, ri, rp, 1, m]) (by kernel_rfl) S0 (fun hH => ?_)
  clear S0
  generalize W.drew = Wd at hH ⊢
  refine wpAnyH_take (i := 0) (oi := { dst := some 67, op := _, type := _, pos := _, after := _, guard := _ }) (v := ?_) rfl (by kernel_rfl) (by kernel_rfl) (by kernel_rfl) (fun _ _ _ h => h) (Or.inl ⟨by rfl, ?_⟩) hH ?_
  rotate_left
  · intro wz hSw
    (try dsimp only at hSw)
    first | (go_simp; done) | (go_simp; with_reducible rfl)
  try simp only [Act.put, List.setIfInBounds_toArray, List.set_cons_zero, List.set_cons_succ]
  refine wpAnyH_take (i := 1) (oi := { dst := some 68, op := _, type := _, pos := _, after := _, guard := _ }) (v := ?_) rfl (by kernel_rfl) (by kernel_rfl) (by kernel_rfl) (fun _ _ _ h => h) (Or.inl ⟨by rfl, ?_⟩) hH ?_
  rotate_left
  · intro wz hSw
    (try dsimp only at hSw)
    obtain ⟨-, XS, YS, ZS⟩ := hSw
    obtain ⟨z0, z1, z2, z3, z4, z5⟩ := YS.six
    first | (go_simp; done) | (go_simp; with_reducible rfl)
  try simp only [Act.put, List.setIfInBounds_toArray, List.set_cons_zero, List.set_cons_succ]
  refine wpAnyH_take (i := 4) (oi := { dst := some 71, op := _, type := _, pos := _, after := _, guard := _ }) (v := ?_) rfl (by kernel_rfl) (by kernel_rfl) (by kernel_rfl) (fun _ _ _ h => h) (Or.inl ⟨by rfl, ?_⟩) hH ?_
  rotate_left
  · intro wz hSw
    (try dsimp only at hSw)
    first | (go_simp; done) | (go_simp; with_reducible rfl)
  try simp only [Act.put, List.setIfInBounds_toArray, List.set_cons_zero, List.set_cons_succ]
  refine wpAnyH_take (i := 6) (oi := { dst := some 73, op := _, type := _, pos := _, after := _, guard := _ }) (v := ?_) rfl (by kernel_rfl) (by kernel_rfl) (by kernel_rfl) (fun _ _ _ h => h) (Or.inl ⟨by rfl, ?_⟩) hH ?_
  rotate_left
  · intro wz hSw
    (try dsimp only at hSw)
    first | (go_simp; done) | (go_simp; with_reducible rfl)
  try simp only [Act.put, List.setIfInBounds_toArray, List.set_cons_zero, List.set_cons_succ]
  refine wpAnyH_take (i := 7) (oi := { dst := some 74, op := _, type := _, pos := _, after := _, guard := _ }) (v := ?_) rfl (by kernel_rfl) (by kernel_rfl) (by kernel_rfl) (fun _ _ _ h => h) (Or.inl ⟨by rfl, ?_⟩) hH ?_
  rotate_left
  · intro wz hSw
    (try dsimp only at hSw)
    first | (go_simp; done) | (go_simp; with_reducible rfl)
  try simp only [Act.put, List.setIfInBounds_toArray, List.set_cons_zero, List.set_cons_succ]
  refine wpAnyH_take (i := 8) (oi := { dst := some 75, op := _, type := _, pos := _, after := _, guard := _ }) (v := ?_) rfl (by kernel_rfl) (by kernel_rfl) (by kernel_rfl) (fun _ _ _ h => h) (Or.inl ⟨by rfl, ?_⟩) hH ?_
  rotate_left
  · intro wz hSw
    (try dsimp only at hSw)
    obtain ⟨-, XS, YS, ZS⟩ := hSw
    obtain ⟨z0, z1, z2, z3, z4, z5⟩ := XS.six
    first | (go_simp; done) | (go_simp; with_reducible rfl)
  try simp only [Act.put, List.setIfInBounds_toArray, List.set_cons_zero, List.set_cons_succ]
  refine wpAnyH_take (i := 9) (oi := { dst := some 76, op := _, type := _, pos := _, after := _, guard := _ }) (v := ?_) rfl (by kernel_rfl) (by kernel_rfl) (by kernel_rfl) (fun _ _ _ h => h) (Or.inl ⟨by rfl, ?_⟩) hH ?_
  rotate_left
  · intro wz hSw
    (try dsimp only at hSw)
    first | (go_simp; done) | (go_simp; with_reducible rfl)
  try simp only [Act.put, List.setIfInBounds_toArray, List.set_cons_zero, List.set_cons_succ]
  refine wpAnyH_ready (rs := [2]) (by kernel_rfl) (by simp) ?_
  refine (AllReadyH.cons (o := { dst := some 69, op := _, type := _, pos := _, after := _, guard := _ }) rfl (fun K hK => ?_) AllReadyH.nil)
  go_simp
  have hn : Below Wd.heap.size Wd (Wd.alloc (.cells #[.int .i64 ra, .int .i64 rn, .int .i64 ri, .int .i64 q, .int .i64 1, .int .i64 rt] 35)) := below_new Wd (.cells #[.int .i64 ra, .int .i64 rn, .int .i64 ri, .int .i64 q, .int .i64 1, .int .i64 rt] 35)
  have RY2 : Rds fR 6 (Wd.alloc (.cells #[.int .i64 ra, .int .i64 rn, .int .i64 ri, .int .i64 q, .int .i64 1, .int .i64 rt] 35)) (some ⟨Wd.heap.size, 0, none⟩) 1 [(⟨ra, rn, ri, q, 1, rt⟩ : Rl)] := rds_newl Wd [(⟨ra, rn, ri, q, 1, rt⟩ : Rl)] 35 hwa rfl
  generalize Wd.alloc (.cells #[.int .i64 ra, .int .i64 rn, .int .i64 ri, .int .i64 q, .int .i64 1, .int .i64 rt] 35) = W2 at hn RY2 ⊢
  refine hK.out _ _ (kept_three hH hn) (fun hH2 => ?_)
  clear hK K hH hn
  have hH := hH2
  clear hH2
  try simp only [Act.put, List.setIfInBounds_toArray, List.set_cons_zero, List.set_cons_succ]
  refine wpAnyH_ready (rs := [3]) (by kernel_rfl) (by simp) ?_
  refine (AllReadyH.cons (o := { dst := some 70, op := _, type := _, pos := _, after := _, guard := _ }) rfl (fun K hK => ?_) AllReadyH.nil)
  go_simp
  refine (of_at t _ RY2 rfl (by simp)).mono ?_
  rw [hn1]
  rintro e wq3 ⟨rfl, hn⟩
  go_wp2_with fail
  replace RY2 := RY2.later hn
  refine hK.out _ _ (kept_three hH hn) (fun hH2 => ?_)
  clear hK K hH hn
  have hH := hH2
  clear hH2
  try simp only [Act.put, List.setIfInBounds_toArray, List.set_cons_zero, List.set_cons_succ]
  refine wpAnyH_take (i := 5) (oi := { dst := some 72, op := _, type := _, pos := _, after := _, guard := _ }) (v := ?_) rfl (by kernel_rfl) (by kernel_rfl) (by kernel_rfl) (fun _ _ _ h => h) (Or.inl ⟨by rfl, ?_⟩) hH ?_
  rotate_left
  · intro wz hSw
    (try dsimp only at hSw)
    first | (go_simp; done) | (go_simp; with_reducible rfl)
  try simp only [Act.put, List.setIfInBounds_toArray, List.set_cons_zero, List.set_cons_succ]
  refine wpAnyH_take (i := 10) (oi := { dst := some 77, op := _, type := _, pos := _, after := _, guard := _ }) (v := ?_) rfl (by kernel_rfl) (by kernel_rfl) (by kernel_rfl) (fun _ _ _ h => h) (Or.inl ⟨by rfl, ?_⟩) hH ?_
  rotate_left
  · intro wz hSw
    (try dsimp only at hSw)
    first | (go_simp; done) | (go_simp; with_reducible rfl)
  try simp only [Act.put, List.setIfInBounds_toArray, List.set_cons_zero, List.set_cons_succ]
  refine wpAnyH_take (i := 11) (oi := { dst := some 78, op := _, type := _, pos := _, after := _, guard := _ }) (v := ?_) rfl (by kernel_rfl) (by kernel_rfl) (by kernel_rfl) (fun _ _ _ h => h) (Or.inl ⟨by rfl, ?_⟩) hH ?_
  rotate_left
  · intro wz hSw
    (try dsimp only at hSw)
    first | (go_simp; done) | (go_simp; with_reducible rfl)
  try simp only [Act.put, List.setIfInBounds_toArray, List.set_cons_zero, List.set_cons_succ]
  refine wpAnyH_take (i := 12) (oi := { dst := some 79, op := _, type := _, pos := _, after := _, guard := _ }) (v := ?_) rfl (by kernel_rfl) (by kernel_rfl) (by kernel_rfl) (fun _ _ _ h => h) (Or.inl ⟨by rfl, ?_⟩) hH ?_
  rotate_left
  · intro wz hSw
    (try dsimp only at hSw)
    first | (go_simp; done) | (go_simp; with_reducible rfl)
  try simp only [Act.put, List.setIfInBounds_toArray, List.set_cons_zero, List.set_cons_succ]
  refine wpAnyH_take (i := 13) (oi := { dst := some 80, op := _, type := _, pos := _, after := _, guard := _ }) (v := ?_) rfl (by kernel_rfl) (by kernel_rfl) (by kernel_rfl) (fun _ _ _ h => h) (Or.inl ⟨by rfl, ?_⟩) hH ?_
  rotate_left
  · intro wz hSw
    (try dsimp only at hSw)
    first | (go_simp; done) | (go_simp; with_reducible rfl)
  try simp only [Act.put, List.setIfInBounds_toArray, List.set_cons_zero, List.set_cons_succ]
  refine wpAnyH_take (i := 14) (oi := { dst := some 81, op := _, type := _, pos := _, after := _, guard := _ }) (v := ?_) rfl (by kernel_rfl) (by kernel_rfl) (by kernel_rfl) (fun _ _ _ h => h) (Or.inl ⟨by rfl, ?_⟩) hH ?_
  rotate_left
  · intro wz hSw
    (try dsimp only at hSw)
    obtain ⟨-, XS, YS, ZS⟩ := hSw
    obtain ⟨z0, z1, z2, z3, z4, z5⟩ := XS.six
    first | (go_simp; done) | (go_simp; with_reducible rfl)
  try simp only [Act.put, List.setIfInBounds_toArray, List.set_cons_zero, List.set_cons_succ]
  refine wpAnyH_take (i := 15) (oi := { dst := some 82, op := _, type := _, pos := _, after := _, guard := _ }) (v := ?_) rfl (by kernel_rfl) (by kernel_rfl) (by kernel_rfl) (fun _ _ _ h => h) (Or.inl ⟨by rfl, ?_⟩) hH ?_
  rotate_left
  · intro wz hSw
    (try dsimp only at hSw)
    first | (go_simp; done) | (go_simp; with_reducible rfl)
  try simp only [Act.put, List.setIfInBounds_toArray, List.set_cons_zero, List.set_cons_succ]
  refine wpAnyH_take (i := 16) (oi := { dst := some 83, op := _, type := _, pos := _, after := _, guard := _ }) (v := ?_) rfl (by kernel_rfl) (by kernel_rfl) (by kernel_rfl) (fun _ _ _ h => h) (Or.inl ⟨by rfl, ?_⟩) hH ?_
  rotate_left
  · intro wz hSw
    (try dsimp only at hSw)
    first | (go_simp; done) | (go_simp; with_reducible rfl)
  try simp only [Act.put, List.setIfInBounds_toArray, List.set_cons_zero, List.set_cons_succ]
  refine wpAnyH_take (i := 17) (oi := { dst := some 84, op := _, type := _, pos := _, after := _, guard := _ }) (v := ?_) rfl (by kernel_rfl) (by kernel_rfl) (by kernel_rfl) (fun _ _ _ h => h) (Or.inl ⟨by rfl, ?_⟩) hH ?_
  rotate_left
  · intro wz hSw
    (try dsimp only at hSw)
    first | (go_simp; done) | (go_simp; with_reducible rfl)
  try simp only [Act.put, List.setIfInBounds_toArray, List.set_cons_zero, List.set_cons_succ]
  refine wpAnyH_take (i := 18) (oi := { dst := some 85, op := _, type := _, pos := _, after := _, guard := _ }) (v := ?_) rfl (by kernel_rfl) (by kernel_rfl) (by kernel_rfl) (fun _ _ _ h => h) (Or.inl ⟨by rfl, ?_⟩) hH ?_
  rotate_left
  · intro wz hSw
    (try dsimp only at hSw)
    obtain ⟨-, XS, YS, ZS⟩ := hSw
    obtain ⟨z0, z1, z2, z3, z4, z5⟩ := ZS.six
    first | (go_simp; done) | (go_simp; with_reducible rfl)
  try simp only [Act.put, List.setIfInBounds_toArray, List.set_cons_zero, List.set_cons_succ]
  refine wpAnyH_take (i := 21) (oi := { dst := some 88, op := _, type := _, pos := _, after := _, guard := _ }) (v := ?_) rfl (by kernel_rfl) (by kernel_rfl) (by kernel_rfl) (fun _ _ _ h => h) (Or.inl ⟨by rfl, ?_⟩) hH ?_
  rotate_left
  · intro wz hSw
    (try dsimp only at hSw)
    first | (go_simp; done) | (go_simp; with_reducible rfl)
  try simp only [Act.put, List.setIfInBounds_toArray, List.set_cons_zero, List.set_cons_succ]
  refine wpAnyH_take (i := 23) (oi := { dst := some 90, op := _, type := _, pos := _, after := _, guard := _ }) (v := ?_) rfl (by kernel_rfl) (by kernel_rfl) (by kernel_rfl) (fun _ _ _ h => h) (Or.inl ⟨by rfl, ?_⟩) hH ?_
  rotate_left
  · intro wz hSw
    (try dsimp only at hSw)
    first | (go_simp; done) | (go_simp; with_reducible rfl)
  try simp only [Act.put, List.setIfInBounds_toArray, List.set_cons_zero, List.set_cons_succ]
  refine wpAnyH_take (i := 24) (oi := { dst := some 91, op := _, type := _, pos := _, after := _, guard := _ }) (v := ?_) rfl (by kernel_rfl) (by kernel_rfl) (by kernel_rfl) (fun _ _ _ h => h) (Or.inl ⟨by rfl, ?_⟩) hH ?_
  rotate_left
  · intro wz hSw
    (try dsimp only at hSw)
    first | (go_simp; done) | (go_simp; with_reducible rfl)
  try simp only [Act.put, List.setIfInBounds_toArray, List.set_cons_zero, List.set_cons_succ]
  refine wpAnyH_take (i := 25) (oi := { dst := some 92, op := _, type := _, pos := _, after := _, guard := _ }) (v := ?_) rfl (by kernel_rfl) (by kernel_rfl) (by kernel_rfl) (fun _ _ _ h => h) (Or.inl ⟨by rfl, ?_⟩) hH ?_
  rotate_left
  · intro wz hSw
    (try dsimp only at hSw)
    first | (go_simp; done) | (go_simp; with_reducible rfl)
  try simp only [Act.put, List.setIfInBounds_toArray, List.set_cons_zero, List.set_cons_succ]
  refine wpAnyH_take (i := 26) (oi := { dst := some 93, op := _, type := _, pos := _, after := _, guard := _ }) (v := ?_) rfl (by kernel_rfl) (by kernel_rfl) (by kernel_rfl) (fun _ _ _ h => h) (Or.inl ⟨by rfl, ?_⟩) hH ?_
  rotate_left
  · intro wz hSw
    (try dsimp only at hSw)
    obtain ⟨-, XS, YS, ZS⟩ := hSw
    obtain ⟨z0, z1, z2, z3, z4, z5⟩ := XS.six
    first | (go_simp; done) | (go_simp; with_reducible rfl)
  try simp only [Act.put, List.setIfInBounds_toArray, List.set_cons_zero, List.set_cons_succ]
  refine wpAnyH_take (i := 27) (oi := { dst := some 94, op := _, type := _, pos := _, after := _, guard := _ }) (v := ?_) rfl (by kernel_rfl) (by kernel_rfl) (by kernel_rfl) (fun _ _ _ h => h) (Or.inl ⟨by rfl, ?_⟩) hH ?_
  rotate_left
  · intro wz hSw
    (try dsimp only at hSw)
    first | (go_simp; done) | (go_simp; with_reducible rfl)
  try simp only [Act.put, List.setIfInBounds_toArray, List.set_cons_zero, List.set_cons_succ]
  refine wpAnyH_ready (rs := [19]) (by kernel_rfl) (by simp) ?_
  refine (AllReadyH.cons (o := { dst := some 86, op := _, type := _, pos := _, after := _, guard := _ }) rfl (fun K hK => ?_) AllReadyH.nil)
  go_simp
  have hn : Below wq3.heap.size wq3 (wq3.alloc (.cells #[.int .i64 ra, .int .i64 rn, .int .i64 ri, .int .i64 rp, .int .i64 1, .int .i64 m] 35)) := below_new wq3 (.cells #[.int .i64 ra, .int .i64 rn, .int .i64 ri, .int .i64 rp, .int .i64 1, .int .i64 m] 35)
  have RY19 : Rds fR 6 (wq3.alloc (.cells #[.int .i64 ra, .int .i64 rn, .int .i64 ri, .int .i64 rp, .int .i64 1, .int .i64 m] 35)) (some ⟨wq3.heap.size, 0, none⟩) 1 [(⟨ra, rn, ri, rp, 1, m⟩ : Rl)] := rds_newl wq3 [(⟨ra, rn, ri, rp, 1, m⟩ : Rl)] 35 hwb rfl
  generalize wq3.alloc (.cells #[.int .i64 ra, .int .i64 rn, .int .i64 ri, .int .i64 rp, .int .i64 1, .int .i64 m] 35) = W19 at hn RY19 ⊢
  replace RY2 := RY2.later hn
  refine hK.out _ _ (kept_three hH hn) (fun hH2 => ?_)
  clear hK K hH hn
  have hH := hH2
  clear hH2
  try simp only [Act.put, List.setIfInBounds_toArray, List.set_cons_zero, List.set_cons_succ]
  refine wpAnyH_ready (rs := [20]) (by kernel_rfl) (by simp) ?_
  refine (AllReadyH.cons (o := { dst := some 87, op := _, type := _, pos := _, after := _, guard := _ }) rfl (fun K hK => ?_) AllReadyH.nil)
  go_simp
  refine (of_at t _ RY19 rfl (by simp)).mono ?_
  rw [hn2]
  rintro e wq20 ⟨rfl, hn⟩
  go_wp2_with fail
  replace RY2 := RY2.later hn
  replace RY19 := RY19.later hn
  refine hK.out _ _ (kept_three hH hn) (fun hH2 => ?_)
  clear hK K hH hn
  have hH := hH2
  clear hH2
  try simp only [Act.put, List.setIfInBounds_toArray, List.set_cons_zero, List.set_cons_succ]
  refine wpAnyH_take (i := 22) (oi := { dst := some 89, op := _, type := _, pos := _, after := _, guard := _ }) (v := ?_) rfl (by kernel_rfl) (by kernel_rfl) (by kernel_rfl) (fun _ _ _ h => h) (Or.inl ⟨by rfl, ?_⟩) hH ?_
  rotate_left
  · intro wz hSw
    (try dsimp only at hSw)
    first | (go_simp; done) | (go_simp; with_reducible rfl)
  try simp only [Act.put, List.setIfInBounds_toArray, List.set_cons_zero, List.set_cons_succ]
  refine wpAnyH_take (i := 28) (oi := { dst := some 95, op := _, type := _, pos := _, after := _, guard := _ }) (v := ?_) rfl (by kernel_rfl) (by kernel_rfl) (by kernel_rfl) (fun _ _ _ h => h) (Or.inl ⟨by rfl, ?_⟩) hH ?_
  rotate_left
  · intro wz hSw
    (try dsimp only at hSw)
    first | (go_simp; done) | (go_simp; with_reducible rfl)
  try simp only [Act.put, List.setIfInBounds_toArray, List.set_cons_zero, List.set_cons_succ]
  refine wpAnyH_take (i := 29) (oi := { dst := some 96, op := _, type := _, pos := _, after := _, guard := _ }) (v := ?_) rfl (by kernel_rfl) (by kernel_rfl) (by kernel_rfl) (fun _ _ _ h => h) (Or.inl ⟨by rfl, ?_⟩) hH ?_
  rotate_left
  · intro wz hSw
    (try dsimp only at hSw)
    first | (go_simp; done) | (go_simp; with_reducible rfl)
  try simp only [Act.put, List.setIfInBounds_toArray, List.set_cons_zero, List.set_cons_succ]
  refine wpAnyH_take (i := 30) (oi := { dst := some 97, op := _, type := _, pos := _, after := _, guard := _ }) (v := ?_) rfl (by kernel_rfl) (by kernel_rfl) (by kernel_rfl) (fun _ _ _ h => h) (Or.inl ⟨by rfl, ?_⟩) hH ?_
  rotate_left
  · intro wz hSw
    (try dsimp only at hSw)
    first | (go_simp; done) | (go_simp; with_reducible rfl)
  try simp only [Act.put, List.setIfInBounds_toArray, List.set_cons_zero, List.set_cons_succ]
  refine wpAnyH_take (i := 31) (oi := { dst := some 98, op := _, type := _, pos := _, after := _, guard := _ }) (v := ?_) rfl (by kernel_rfl) (by kernel_rfl) (by kernel_rfl) (fun _ _ _ h => h) (Or.inl ⟨by rfl, ?_⟩) hH ?_
  rotate_left
  · intro wz hSw
    (try dsimp only at hSw)
    first | (go_simp; done) | (go_simp; with_reducible rfl)
  try simp only [Act.put, List.setIfInBounds_toArray, List.set_cons_zero, List.set_cons_succ]
  refine wpAnyH_take (i := 32) (oi := { dst := some 99, op := _, type := _, pos := _, after := _, guard := _ }) (v := ?_) rfl (by kernel_rfl) (by kernel_rfl) (by kernel_rfl) (fun _ _ _ h => h) (Or.inl ⟨by rfl, ?_⟩) hH ?_
  rotate_left
  · intro wz hSw
    (try dsimp only at hSw)
    first | (go_simp; done) | (go_simp; with_reducible rfl)
  try simp only [Act.put, List.setIfInBounds_toArray, List.set_cons_zero, List.set_cons_succ]
  refine wpAnyH_take (i := 33) (oi := { dst := some 100, op := _, type := _, pos := _, after := _, guard := _ }) (v := ?_) rfl (by kernel_rfl) (by kernel_rfl) (by kernel_rfl) (fun _ _ _ h => h) (Or.inl ⟨by rfl, ?_⟩) hH ?_
  rotate_left
  · intro wz hSw
    (try dsimp only at hSw)
    obtain ⟨-, XS, YS, ZS⟩ := hSw
    obtain ⟨z0, z1, z2, z3, z4, z5⟩ := XS.six
    first | (go_simp; done) | (go_simp; with_reducible rfl)
  try simp only [Act.put, List.setIfInBounds_toArray, List.set_cons_zero, List.set_cons_succ]
  refine wpAnyH_take (i := 36) (oi := { dst := some 103, op := _, type := _, pos := _, after := _, guard := _ }) (v := ?_) rfl (by kernel_rfl) (by kernel_rfl) (by kernel_rfl) (fun _ _ _ h => h) (Or.inl ⟨by rfl, ?_⟩) hH ?_
  rotate_left
  · intro wz hSw
    (try dsimp only at hSw)
    first | (go_simp; done) | (go_simp; with_reducible rfl)
  try simp only [Act.put, List.setIfInBounds_toArray, List.set_cons_zero, List.set_cons_succ]
  refine wpAnyH_take (i := 38) (oi := { dst := some 105, op := _, type := _, pos := _, after := _, guard := _ }) (v := ?_) rfl (by kernel_rfl) (by kernel_rfl) (by kernel_rfl) (fun _ _ _ h => h) (Or.inl ⟨by rfl, ?_⟩) hH ?_
  rotate_left
  · intro wz hSw
    (try dsimp only at hSw)
    first | (go_simp; done) | (go_simp; with_reducible rfl)
  try simp only [Act.put, List.setIfInBounds_toArray, List.set_cons_zero, List.set_cons_succ]
  refine wpAnyH_take (i := 39) (oi := { dst := some 106, op := _, type := _, pos := _, after := _, guard := _ }) (v := ?_) rfl (by kernel_rfl) (by kernel_rfl) (by kernel_rfl) (fun _ _ _ h => h) (Or.inl ⟨by rfl, ?_⟩) hH ?_
  rotate_left
  · intro wz hSw
    (try dsimp only at hSw)
    first | (go_simp; done) | (go_simp; with_reducible rfl)
  try simp only [Act.put, List.setIfInBounds_toArray, List.set_cons_zero, List.set_cons_succ]
  refine wpAnyH_take (i := 40) (oi := { dst := some 107, op := _, type := _, pos := _, after := _, guard := _ }) (v := ?_) rfl (by kernel_rfl) (by kernel_rfl) (by kernel_rfl) (fun _ _ _ h => h) (Or.inl ⟨by rfl, ?_⟩) hH ?_
  rotate_left
  · intro wz hSw
    (try dsimp only at hSw)
    first | (go_simp; done) | (go_simp; with_reducible rfl)
  try simp only [Act.put, List.setIfInBounds_toArray, List.set_cons_zero, List.set_cons_succ]
  refine wpAnyH_ready (rs := [34]) (by kernel_rfl) (by simp) ?_
  refine (AllReadyH.cons (o := { dst := some 101, op := _, type := _, pos := _, after := _, guard := _ }) rfl (fun K hK => ?_) AllReadyH.nil)
  go_simp
  have hn : Below wq20.heap.size wq20 (wq20.alloc (.cells #[.int .i64 ra, .int .i64 rn, .int .i64 ri, .int .i64 rp, .int .i64 1, .int .i64 rt] 35)) := below_new wq20 (.cells #[.int .i64 ra, .int .i64 rn, .int .i64 ri, .int .i64 rp, .int .i64 1, .int .i64 rt] 35)
  have RY34 : Rds fR 6 (wq20.alloc (.cells #[.int .i64 ra, .int .i64 rn, .int .i64 ri, .int .i64 rp, .int .i64 1, .int .i64 rt] 35)) (some ⟨wq20.heap.size, 0, none⟩) 1 [(⟨ra, rn, ri, rp, 1, rt⟩ : Rl)] := rds_newl wq20 [(⟨ra, rn, ri, rp, 1, rt⟩ : Rl)] 35 hwr rfl
  generalize wq20.alloc (.cells #[.int .i64 ra, .int .i64 rn, .int .i64 ri, .int .i64 rp, .int .i64 1, .int .i64 rt] 35) = W34 at hn RY34 ⊢
  replace RY2 := RY2.later hn
  replace RY19 := RY19.later hn
  refine hK.out _ _ (kept_three hH hn) (fun hH2 => ?_)
  clear hK K hH hn
  have hH := hH2
  clear hH2
  try simp only [Act.put, List.setIfInBounds_toArray, List.set_cons_zero, List.set_cons_succ]
  refine wpAnyH_ready (rs := [35]) (by kernel_rfl) (by simp) ?_
  refine (AllReadyH.cons (o := { dst := some 102, op := _, type := _, pos := _, after := _, guard := _ }) rfl (fun K hK => ?_) AllReadyH.nil)
  go_simp
  refine (of_at u _ RY34 rfl (by simp)).mono ?_
  rw [hn3]
  rintro e wq35 ⟨rfl, hn⟩
  go_wp2_with fail
  replace RY2 := RY2.later hn
  replace RY19 := RY19.later hn
  replace RY34 := RY34.later hn
  refine hK.out _ _ (kept_three hH hn) (fun hH2 => ?_)
  clear hK K hH hn
  have hH := hH2
  clear hH2
  try simp only [Act.put, List.setIfInBounds_toArray, List.set_cons_zero, List.set_cons_succ]
  refine wpAnyH_take (i := 37) (oi := { dst := some 104, op := _, type := _, pos := _, after := _, guard := _ }) (v := ?_) rfl (by kernel_rfl) (by kernel_rfl) (by kernel_rfl) (fun _ _ _ h => h) (Or.inl ⟨by rfl, ?_⟩) hH ?_
  rotate_left
  · intro wz hSw
    (try dsimp only at hSw)
    first | (go_simp; done) | (go_simp; with_reducible rfl)
  try simp only [Act.put, List.setIfInBounds_toArray, List.set_cons_zero, List.set_cons_succ]
  refine wpAnyH_take (i := 41) (oi := { dst := some 108, op := _, type := _, pos := _, after := _, guard := _ }) (v := ?_) rfl (by kernel_rfl) (by kernel_rfl) (by kernel_rfl) (fun _ _ _ h => h) (Or.inl ⟨by rfl, ?_⟩) hH ?_
  rotate_left
  · intro wz hSw
    (try dsimp only at hSw)
    first | (go_simp; done) | (go_simp; with_reducible rfl)
  try simp only [Act.put, List.setIfInBounds_toArray, List.set_cons_zero, List.set_cons_succ]
  refine wpAnyH_take (i := 42) (oi := { dst := some 109, op := _, type := _, pos := _, after := _, guard := _ }) (v := ?_) rfl (by kernel_rfl) (by kernel_rfl) (by kernel_rfl) (fun _ _ _ h => h) (Or.inl ⟨by rfl, ?_⟩) hH ?_
  rotate_left
  · intro wz hSw
    (try dsimp only at hSw)
    first | (go_simp; done) | (go_simp; with_reducible rfl)
  try simp only [Act.put, List.setIfInBounds_toArray, List.set_cons_zero, List.set_cons_succ]
  refine wpAnyH_take (i := 43) (oi := { dst := some 10, op := _, type := _, pos := _, after := _, guard := _ }) (v := ?_) rfl (by kernel_rfl) (by kernel_rfl) (by kernel_rfl) (fun _ _ _ h => h) (Or.inl ⟨by rfl, ?_⟩) hH ?_
  rotate_left
  · intro wz hSw
    (try dsimp only at hSw)
    first | (go_simp; done) | (go_simp; with_reducible rfl)
  try simp only [Act.put, List.setIfInBounds_toArray, List.set_cons_zero, List.set_cons_succ]
  refine wpAnyH_done (by kernel_rfl) ?_ _
  refine NoPanic.normal ?_
  have hbZ := below_step hbW hH.1
  go_wp2_with fail
  go_ret
  exact ⟨rfl, hbZ⟩
set_option maxRecDepth 100000 in
set_option maxHeartbeats 8000000 in
theorem walk_drop (t u ra rn ri rp rk rt m q : Int) (hm : okR ra rn ri rp rk rt = true) (g0 : ¬ t < 1) (g1 : ¬ 4095 < t) (g2 : ¬ u < 1) (g3 : ¬ 4095 < u) (g4 : ¬ q < 0) (g5 : ¬ 255 < q) (g6 : ¬ m < 0) (g7 : ¬ 7 < m) (hk : ¬ rk = 1) (w : World) :
    Calls Try.prog 6 #[.int .i64 t, .int .i64 u, .agg #[.int .i64 ra, .int .i64 rn, .int .i64 ri, .int .i64 rp, .int .i64 rk, .int .i64 rt], .int .i64 m, .int .i64 q] w fun e w' => e = .returned (.bool true) ∧ Below w.heap.size w w' := by
  have hn := below_new w (.cells #[.int .i64 ra, .int .i64 rn, .int .i64 ri, .int .i64 rp, .int .i64 rk, .int .i64 rt] 35)
  have X := Lies.new w [ra, rn, ri, rp, rk, rt] 35 rfl
  have d0 : decide (t < 1) = false := decide_eq_false (by omega)
  have d1 : decide (4095 < t) = false := decide_eq_false (by omega)
  have d2 : decide (u < 1) = false := decide_eq_false (by omega)
  have d3 : decide (4095 < u) = false := decide_eq_false (by omega)
  have d4 : decide (q < 0) = false := decide_eq_false (by omega)
  have d5 : decide (255 < q) = false := decide_eq_false (by omega)
  have d6 : decide (m < 0) = false := decide_eq_false (by omega)
  have d7 : decide (7 < m) = false := decide_eq_false (by omega)
  have hkb : (rk != 1) = true := by exact bne_iff_ne.2 hk
  have hwr : ∀ x ∈ [(⟨ra, rn, ri, rp, rk, rt⟩ : Rl)], ∀ z ∈ fR x, (Lit.int .i64 z).wf = true := fun x hx => by rw [List.mem_singleton.1 hx]; exact may_wf hm
  have hwa : ∀ x ∈ [(⟨ra, rn, ri, q, rk, rt⟩ : Rl)], ∀ z ∈ fR x, (Lit.int .i64 z).wf = true := fun x hx => by rw [List.mem_singleton.1 hx]; exact may_wf (may_prio hm (by omega) (by omega))
  have hwb : ∀ x ∈ [(⟨ra, rn, ri, rp, 1, m⟩ : Rl)], ∀ z ∈ fR x, (Lit.int .i64 z).wf = true := fun x hx => by rw [List.mem_singleton.1 hx]; exact may_wf (may_act hm (by omega) (by omega))
  have HB1 : Hid ((ofN t [⟨ra, rn, ri, q, rk, rt⟩] == ofN t [⟨ra, rn, ri, rp, rk, rt⟩]) = (q == rp)) := one_prio ⟨by omega, by omega⟩ hm (by omega) (by omega)
  have HB3 : Hid ((ofN u [⟨ra, rn, ri, rp, rk, rt⟩] == ofN t [⟨ra, rn, ri, rp, rk, rt⟩]) = (u == t)) := one_tag ⟨by omega, by omega⟩ ⟨by omega, by omega⟩ hm
  clear g0 g1 g2 g3 g4 g5 g6 g7 hk
  go_enter Try.func6, Try.ntmps6
  go_wp2_with fail
  refine (dawake_any _).mono ?_
  rintro e w1 ⟨rfl, hb1⟩
  have hbA := below_step hn hb1
  replace X := X.later hb1
  obtain ⟨x0, x1, x2, x3, x4, x5⟩ := X.six
  have cM := ruMay_any ra rn ri rp rk rt w1
  rw [hm] at cM
  go_wp2_with fail
  refine cM.mono ?_
  clear cM x0 x1 x2 x3 x4 x5
  rintro e w2 ⟨rfl, hb2⟩
  have hbB := below_step hbA hb2
  replace X := X.later hb2
  obtain ⟨x0, x1, x2, x3, x4, x5⟩ := X.six
  have hb3 := below_new w2 (.cells #[.int .i64 ra, .int .i64 rn, .int .i64 ri, .int .i64 q, .int .i64 rk, .int .i64 rt] 35)
  have hb4 := below_new (w2.alloc (.cells #[.int .i64 ra, .int .i64 rn, .int .i64 ri, .int .i64 q, .int .i64 rk, .int .i64 rt] 35)) (.cells #[.int .i64 ra, .int .i64 rn, .int .i64 ri, .int .i64 rp, .int .i64 1, .int .i64 m] 35)
  obtain ⟨y0, y1, y2, y3, y4, y5⟩ := (X.later hb3).six
  obtain ⟨v0, v1, v2, v3, v4, v5⟩ := ((X.later hb3).later hb4).six
  have RX : Rds fR 6 (((w2.alloc (.cells #[.int .i64 ra, .int .i64 rn, .int .i64 ri, .int .i64 q, .int .i64 rk, .int .i64 rt] 35)).alloc (.cells #[.int .i64 ra, .int .i64 rn, .int .i64 ri, .int .i64 rp, .int .i64 1, .int .i64 m] 35)).alloc (.cells #[.int .i64 ra, .int .i64 rn, .int .i64 ri, .int .i64 rp, .int .i64 rk, .int .i64 rt] 35)) (some ⟨w2.heap.size + 1 + 1, 0, none⟩) 1 [(⟨ra, rn, ri, rp, rk, rt⟩ : Rl)] := rds_newl ((w2.alloc (.cells #[.int .i64 ra, .int .i64 rn, .int .i64 ri, .int .i64 q, .int .i64 rk, .int .i64 rt] 35)).alloc (.cells #[.int .i64 ra, .int .i64 rn, .int .i64 ri, .int .i64 rp, .int .i64 1, .int .i64 m] 35)) [(⟨ra, rn, ri, rp, rk, rt⟩ : Rl)] 35 hwr (by simp)
  have cX := of_at t _ (n := 1) RX rfl (by simp)
  have hb5 := below_new ((w2.alloc (.cells #[.int .i64 ra, .int .i64 rn, .int .i64 ri, .int .i64 q, .int .i64 rk, .int .i64 rt] 35)).alloc (.cells #[.int .i64 ra, .int .i64 rn, .int .i64 ri, .int .i64 rp, .int .i64 1, .int .i64 m] 35)) (.cells #[.int .i64 ra, .int .i64 rn, .int .i64 ri, .int .i64 rp, .int .i64 rk, .int .i64 rt] 35)
  go_wp2_with fail
  refine cX.mono ?_
  clear cX RX
  rintro e w3 ⟨rfl, hb6⟩
  go_wp2_with fail
  have hbC := below_step (below_step (below_step (below_step hbB hb3) hb4) hb5) hb6
  have XW := (((X.later hb3).later hb4).later hb5).later hb6
  have YW := (((Lies.new w2 [ra, rn, ri, q, rk, rt] 35 rfl).later hb4).later hb5).later hb6
  have ZW := ((Lies.new (w2.alloc (.cells #[.int .i64 ra, .int .i64 rn, .int .i64 ri, .int .i64 q, .int .i64 rk, .int .i64 rt] 35)) [ra, rn, ri, rp, 1, m] 35 (B := w2.heap.size + 1) (by simp)).later hb5).later hb6
  clear x0 x1 x2 x3 x4 x5 y0 y1 y2 y3 y4 y5 v0 v1 v2 v3 v4 v5 X hb3 hb4 hb5 hb6 hbB hbA hb1 hb2 hn
  have hbW : Below w.heap.size w w3 := hbC
  clear hbC
  generalize w2.heap.size + 1 = D at ZW ⊢
  generalize w2.heap.size = C at YW ⊢
  obtain ⟨B, hB⟩ : ∃ B, w.heap.size = B := ⟨_, rfl⟩
  rw [hB] at XW ⊢
  generalize w3 = W at hbW XW YW ZW ⊢
  have S0 : Below W.heap.size W W.drew ∧ Lies W.drew B [ra, rn, ri, rp, rk, rt] ∧ Lies W.drew C [ra, rn, ri, q, rk, rt] ∧ Lies W.drew D [ra, rn, ri, rp, 1, m] := ⟨(Below.refl _ _).drew, XW.later (Below.refl _ _).drew, YW.later (Below.refl _ _).drew, ZW.later (Below.refl _ _).drew⟩
  clear XW YW ZW
  obtain ⟨n1, hn1⟩ : ∃ n, ofN t [⟨ra, rn, ri, q, rk, rt⟩] = n := ⟨_, rfl⟩
  have hn2 : True := trivial
  obtain ⟨n3, hn3⟩ : ∃ n, ofN u [⟨ra, rn, ri, rp, rk, rt⟩] = n := ⟨_, rfl⟩
  have h1 := HB1.out
  have h3 := HB3.out
  have h2 := hn2
  rw [hn1] at h1
  rw [hn3] at h3

  clear HB1 HB3
  generalize ofN t [⟨ra, rn, ri, rp, rk, rt⟩] = x at h1 h3 ⊢
  obtain ⟨b1, e1⟩ : ∃ b, (q == rp) = b := ⟨_, rfl⟩
  obtain ⟨b3, e3⟩ : ∃ b, (u == t) = b := ⟨_, rfl⟩
  rw [e1] at h1
  rw [e3] at h3


  refine wp_region_noPanic ?_
  refine wp_region_held_drew (S := fun w' => Below W.heap.size W w' ∧ Lies w' B [ra, rn, ri, rp, rk, rt] ∧ Lies w' C [ra, rn, ri, q, rk, rt] ∧ Lies w' D [ra, rn, ri, rp, 1, m]) (by kernel_rfl) S0 (fun hH => ?_)
  clear S0
  generalize W.drew = Wd at hH ⊢
  refine wpAnyH_take (i := 0) (oi := { dst := some 67, op := _, type := _, pos := _, after := _, guard := _ }) (v := ?_) rfl (by kernel_rfl) (by kernel_rfl) (by kernel_rfl) (fun _ _ _ h => h) (Or.inl ⟨by rfl, ?_⟩) hH ?_
  rotate_left
  · intro wz hSw
    (try dsimp only at hSw)
    first | (go_simp; done) | (go_simp; with_reducible rfl)
  try simp only [Act.put, List.setIfInBounds_toArray, List.set_cons_zero, List.set_cons_succ]
  refine wpAnyH_take (i := 1) (oi := { dst := some 68, op := _, type := _, pos := _, after := _, guard := _ }) (v := ?_) rfl (by kernel_rfl) (by kernel_rfl) (by kernel_rfl) (fun _ _ _ h => h) (Or.inl ⟨by rfl, ?_⟩) hH ?_
  rotate_left
  · intro wz hSw
    (try dsimp only at hSw)
    obtain ⟨-, XS, YS, ZS⟩ := hSw
    obtain ⟨z0, z1, z2, z3, z4, z5⟩ := YS.six
    first | (go_simp; done) | (go_simp; with_reducible rfl)
  try simp only [Act.put, List.setIfInBounds_toArray, List.set_cons_zero, List.set_cons_succ]
  refine wpAnyH_take (i := 4) (oi := { dst := some 71, op := _, type := _, pos := _, after := _, guard := _ }) (v := ?_) rfl (by kernel_rfl) (by kernel_rfl) (by kernel_rfl) (fun _ _ _ h => h) (Or.inl ⟨by rfl, ?_⟩) hH ?_
  rotate_left
  · intro wz hSw
    (try dsimp only at hSw)
    first | (go_simp; done) | (go_simp; with_reducible rfl)
  try simp only [Act.put, List.setIfInBounds_toArray, List.set_cons_zero, List.set_cons_succ]
  refine wpAnyH_take (i := 6) (oi := { dst := some 73, op := _, type := _, pos := _, after := _, guard := _ }) (v := ?_) rfl (by kernel_rfl) (by kernel_rfl) (by kernel_rfl) (fun _ _ _ h => h) (Or.inl ⟨by rfl, ?_⟩) hH ?_
  rotate_left
  · intro wz hSw
    (try dsimp only at hSw)
    first | (go_simp; done) | (go_simp; with_reducible rfl)
  try simp only [Act.put, List.setIfInBounds_toArray, List.set_cons_zero, List.set_cons_succ]
  refine wpAnyH_take (i := 7) (oi := { dst := some 74, op := _, type := _, pos := _, after := _, guard := _ }) (v := ?_) rfl (by kernel_rfl) (by kernel_rfl) (by kernel_rfl) (fun _ _ _ h => h) (Or.inl ⟨by rfl, ?_⟩) hH ?_
  rotate_left
  · intro wz hSw
    (try dsimp only at hSw)
    first | (go_simp; done) | (go_simp; with_reducible rfl)
  try simp only [Act.put, List.setIfInBounds_toArray, List.set_cons_zero, List.set_cons_succ]
  refine wpAnyH_take (i := 8) (oi := { dst := some 75, op := _, type := _, pos := _, after := _, guard := _ }) (v := ?_) rfl (by kernel_rfl) (by kernel_rfl) (by kernel_rfl) (fun _ _ _ h => h) (Or.inl ⟨by rfl, ?_⟩) hH ?_
  rotate_left
  · intro wz hSw
    (try dsimp only at hSw)
    obtain ⟨-, XS, YS, ZS⟩ := hSw
    obtain ⟨z0, z1, z2, z3, z4, z5⟩ := XS.six
    first | (go_simp; done) | (go_simp; with_reducible rfl)
  try simp only [Act.put, List.setIfInBounds_toArray, List.set_cons_zero, List.set_cons_succ]
  refine wpAnyH_take (i := 9) (oi := { dst := some 76, op := _, type := _, pos := _, after := _, guard := _ }) (v := ?_) rfl (by kernel_rfl) (by kernel_rfl) (by kernel_rfl) (fun _ _ _ h => h) (Or.inl ⟨by rfl, ?_⟩) hH ?_
  rotate_left
  · intro wz hSw
    (try dsimp only at hSw)
    first | (go_simp; done) | (go_simp; with_reducible rfl)
  try simp only [Act.put, List.setIfInBounds_toArray, List.set_cons_zero, List.set_cons_succ]
  refine wpAnyH_ready (rs := [2]) (by kernel_rfl) (by simp) ?_
  refine (AllReadyH.cons (o := { dst := some 69, op := _, type := _, pos := _, after := _, guard := _ }) rfl (fun K hK => ?_) AllReadyH.nil)
  go_simp
  have hn : Below Wd.heap.size Wd (Wd.alloc (.cells #[.int .i64 ra, .int .i64 rn, .int .i64 ri, .int .i64 q, .int .i64 rk, .int .i64 rt] 35)) := below_new Wd (.cells #[.int .i64 ra, .int .i64 rn, .int .i64 ri, .int .i64 q, .int .i64 rk, .int .i64 rt] 35)
  have RY2 : Rds fR 6 (Wd.alloc (.cells #[.int .i64 ra, .int .i64 rn, .int .i64 ri, .int .i64 q, .int .i64 rk, .int .i64 rt] 35)) (some ⟨Wd.heap.size, 0, none⟩) 1 [(⟨ra, rn, ri, q, rk, rt⟩ : Rl)] := rds_newl Wd [(⟨ra, rn, ri, q, rk, rt⟩ : Rl)] 35 hwa rfl
  generalize Wd.alloc (.cells #[.int .i64 ra, .int .i64 rn, .int .i64 ri, .int .i64 q, .int .i64 rk, .int .i64 rt] 35) = W2 at hn RY2 ⊢
  refine hK.out _ _ (kept_three hH hn) (fun hH2 => ?_)
  clear hK K hH hn
  have hH := hH2
  clear hH2
  try simp only [Act.put, List.setIfInBounds_toArray, List.set_cons_zero, List.set_cons_succ]
  refine wpAnyH_ready (rs := [3]) (by kernel_rfl) (by simp) ?_
  refine (AllReadyH.cons (o := { dst := some 70, op := _, type := _, pos := _, after := _, guard := _ }) rfl (fun K hK => ?_) AllReadyH.nil)
  go_simp
  refine (of_at t _ RY2 rfl (by simp)).mono ?_
  rw [hn1]
  rintro e wq3 ⟨rfl, hn⟩
  go_wp2_with fail
  replace RY2 := RY2.later hn
  refine hK.out _ _ (kept_three hH hn) (fun hH2 => ?_)
  clear hK K hH hn
  have hH := hH2
  clear hH2
  try simp only [Act.put, List.setIfInBounds_toArray, List.set_cons_zero, List.set_cons_succ]
  refine wpAnyH_take (i := 5) (oi := { dst := some 72, op := _, type := _, pos := _, after := _, guard := _ }) (v := ?_) rfl (by kernel_rfl) (by kernel_rfl) (by kernel_rfl) (fun _ _ _ h => h) (Or.inl ⟨by rfl, ?_⟩) hH ?_
  rotate_left
  · intro wz hSw
    (try dsimp only at hSw)
    first | (go_simp; done) | (go_simp; with_reducible rfl)
  try simp only [Act.put, List.setIfInBounds_toArray, List.set_cons_zero, List.set_cons_succ]
  refine wpAnyH_take (i := 10) (oi := { dst := some 77, op := _, type := _, pos := _, after := _, guard := _ }) (v := ?_) rfl (by kernel_rfl) (by kernel_rfl) (by kernel_rfl) (fun _ _ _ h => h) (Or.inl ⟨by rfl, ?_⟩) hH ?_
  rotate_left
  · intro wz hSw
    (try dsimp only at hSw)
    first | (go_simp; done) | (go_simp; with_reducible rfl)
  try simp only [Act.put, List.setIfInBounds_toArray, List.set_cons_zero, List.set_cons_succ]
  refine wpAnyH_take (i := 11) (oi := { dst := some 78, op := _, type := _, pos := _, after := _, guard := _ }) (v := ?_) rfl (by kernel_rfl) (by kernel_rfl) (by kernel_rfl) (fun _ _ _ h => h) (Or.inl ⟨by rfl, ?_⟩) hH ?_
  rotate_left
  · intro wz hSw
    (try dsimp only at hSw)
    first | (go_simp; done) | (go_simp; with_reducible rfl)
  try simp only [Act.put, List.setIfInBounds_toArray, List.set_cons_zero, List.set_cons_succ]
  refine wpAnyH_take (i := 12) (oi := { dst := some 79, op := _, type := _, pos := _, after := _, guard := _ }) (v := ?_) rfl (by kernel_rfl) (by kernel_rfl) (by kernel_rfl) (fun _ _ _ h => h) (Or.inl ⟨by rfl, ?_⟩) hH ?_
  rotate_left
  · intro wz hSw
    (try dsimp only at hSw)
    first | (go_simp; done) | (go_simp; with_reducible rfl)
  try simp only [Act.put, List.setIfInBounds_toArray, List.set_cons_zero, List.set_cons_succ]
  refine wpAnyH_take (i := 13) (oi := { dst := some 80, op := _, type := _, pos := _, after := _, guard := _ }) (v := ?_) rfl (by kernel_rfl) (by kernel_rfl) (by kernel_rfl) (fun _ _ _ h => h) (Or.inl ⟨by rfl, ?_⟩) hH ?_
  rotate_left
  · intro wz hSw
    (try dsimp only at hSw)
    first | (go_simp; done) | (go_simp; with_reducible rfl)
  try simp only [Act.put, List.setIfInBounds_toArray, List.set_cons_zero, List.set_cons_succ]
  refine wpAnyH_take (i := 14) (oi := { dst := some 81, op := _, type := _, pos := _, after := _, guard := _ }) (v := ?_) rfl (by kernel_rfl) (by kernel_rfl) (by kernel_rfl) (fun _ _ _ h => h) (Or.inl ⟨by rfl, ?_⟩) hH ?_
  rotate_left
  · intro wz hSw
    (try dsimp only at hSw)
    obtain ⟨-, XS, YS, ZS⟩ := hSw
    obtain ⟨z0, z1, z2, z3, z4, z5⟩ := XS.six
    first | (go_simp; done) | (go_simp; with_reducible rfl)
  try simp only [Act.put, List.setIfInBounds_toArray, List.set_cons_zero, List.set_cons_succ]
  refine wpAnyH_take (i := 15) (oi := { dst := some 82, op := _, type := _, pos := _, after := _, guard := _ }) (v := ?_) rfl (by kernel_rfl) (by kernel_rfl) (by kernel_rfl) (fun _ _ _ h => h) (Or.inl ⟨by rfl, ?_⟩) hH ?_
  rotate_left
  · intro wz hSw
    (try dsimp only at hSw)
    first | (go_simp; done) | (go_simp; with_reducible rfl)
  try simp only [Act.put, List.setIfInBounds_toArray, List.set_cons_zero, List.set_cons_succ]
  refine wpAnyH_take (i := 16) (oi := { dst := some 83, op := _, type := _, pos := _, after := _, guard := _ }) (v := ?_) rfl (by kernel_rfl) (by kernel_rfl) (by kernel_rfl) (fun _ _ _ h => h) (Or.inl ⟨by rfl, ?_⟩) hH ?_
  rotate_left
  · intro wz hSw
    (try dsimp only at hSw)
    first | (go_simp; done) | (go_simp; with_reducible rfl)
  try simp only [Act.put, List.setIfInBounds_toArray, List.set_cons_zero, List.set_cons_succ]
  refine wpAnyH_take (i := 17) (oi := { dst := some 84, op := _, type := _, pos := _, after := _, guard := _ }) (v := undef) rfl (by kernel_rfl) (by kernel_rfl) (by kernel_rfl) (fun _ _ _ h => h) (Or.inr ⟨by rfl, rfl⟩) hH ?_
  try simp only [Act.put, List.setIfInBounds_toArray, List.set_cons_zero, List.set_cons_succ]
  refine wpAnyH_take (i := 18) (oi := { dst := some 85, op := _, type := _, pos := _, after := _, guard := _ }) (v := undef) rfl (by kernel_rfl) (by kernel_rfl) (by kernel_rfl) (fun _ _ _ h => h) (Or.inr ⟨by rfl, rfl⟩) hH ?_
  try simp only [Act.put, List.setIfInBounds_toArray, List.set_cons_zero, List.set_cons_succ]
  refine wpAnyH_take (i := 21) (oi := { dst := some 88, op := _, type := _, pos := _, after := _, guard := _ }) (v := undef) rfl (by kernel_rfl) (by kernel_rfl) (by kernel_rfl) (fun _ _ _ h => h) (Or.inr ⟨by rfl, rfl⟩) hH ?_
  try simp only [Act.put, List.setIfInBounds_toArray, List.set_cons_zero, List.set_cons_succ]
  refine wpAnyH_take (i := 23) (oi := { dst := some 90, op := _, type := _, pos := _, after := _, guard := _ }) (v := undef) rfl (by kernel_rfl) (by kernel_rfl) (by kernel_rfl) (fun _ _ _ h => h) (Or.inr ⟨by rfl, rfl⟩) hH ?_
  try simp only [Act.put, List.setIfInBounds_toArray, List.set_cons_zero, List.set_cons_succ]
  refine wpAnyH_take (i := 24) (oi := { dst := some 91, op := _, type := _, pos := _, after := _, guard := _ }) (v := undef) rfl (by kernel_rfl) (by kernel_rfl) (by kernel_rfl) (fun _ _ _ h => h) (Or.inr ⟨by rfl, rfl⟩) hH ?_
  try simp only [Act.put, List.setIfInBounds_toArray, List.set_cons_zero, List.set_cons_succ]
  refine wpAnyH_take (i := 25) (oi := { dst := some 92, op := _, type := _, pos := _, after := _, guard := _ }) (v := undef) rfl (by kernel_rfl) (by kernel_rfl) (by kernel_rfl) (fun _ _ _ h => h) (Or.inr ⟨by rfl, rfl⟩) hH ?_
  try simp only [Act.put, List.setIfInBounds_toArray, List.set_cons_zero, List.set_cons_succ]
  refine wpAnyH_take (i := 26) (oi := { dst := some 93, op := _, type := _, pos := _, after := _, guard := _ }) (v := undef) rfl (by kernel_rfl) (by kernel_rfl) (by kernel_rfl) (fun _ _ _ h => h) (Or.inr ⟨by rfl, rfl⟩) hH ?_
  try simp only [Act.put, List.setIfInBounds_toArray, List.set_cons_zero, List.set_cons_succ]
  refine wpAnyH_take (i := 27) (oi := { dst := some 94, op := _, type := _, pos := _, after := _, guard := _ }) (v := undef) rfl (by kernel_rfl) (by kernel_rfl) (by kernel_rfl) (fun _ _ _ h => h) (Or.inr ⟨by rfl, rfl⟩) hH ?_
  try simp only [Act.put, List.setIfInBounds_toArray, List.set_cons_zero, List.set_cons_succ]
  refine wpAnyH_ready (rs := [19]) (by kernel_rfl) (by simp) ?_
  refine allReady_pass (o := { dst := some 86, op := _, type := _, pos := _, after := _, guard := _ }) rfl (by rfl) hH ?_ AllReadyH.nil
  try simp only [Act.put, List.setIfInBounds_toArray, List.set_cons_zero, List.set_cons_succ]
  refine wpAnyH_ready (rs := [20]) (by kernel_rfl) (by simp) ?_
  refine allReady_pass (o := { dst := some 87, op := _, type := _, pos := _, after := _, guard := _ }) rfl (by rfl) hH ?_ AllReadyH.nil
  try simp only [Act.put, List.setIfInBounds_toArray, List.set_cons_zero, List.set_cons_succ]
  refine wpAnyH_take (i := 22) (oi := { dst := some 89, op := _, type := _, pos := _, after := _, guard := _ }) (v := undef) rfl (by kernel_rfl) (by kernel_rfl) (by kernel_rfl) (fun _ _ _ h => h) (Or.inr ⟨by rfl, rfl⟩) hH ?_
  try simp only [Act.put, List.setIfInBounds_toArray, List.set_cons_zero, List.set_cons_succ]
  refine wpAnyH_take (i := 28) (oi := { dst := some 95, op := _, type := _, pos := _, after := _, guard := _ }) (v := undef) rfl (by kernel_rfl) (by kernel_rfl) (by kernel_rfl) (fun _ _ _ h => h) (Or.inr ⟨by rfl, rfl⟩) hH ?_
  try simp only [Act.put, List.setIfInBounds_toArray, List.set_cons_zero, List.set_cons_succ]
  refine wpAnyH_take (i := 29) (oi := { dst := some 96, op := _, type := _, pos := _, after := _, guard := _ }) (v := ?_) rfl (by kernel_rfl) (by kernel_rfl) (by kernel_rfl) (fun _ _ _ h => h) (Or.inl ⟨by rfl, ?_⟩) hH ?_
  rotate_left
  · intro wz hSw
    (try dsimp only at hSw)
    first | (go_simp; done) | (go_simp; with_reducible rfl)
  try simp only [Act.put, List.setIfInBounds_toArray, List.set_cons_zero, List.set_cons_succ]
  refine wpAnyH_take (i := 30) (oi := { dst := some 97, op := _, type := _, pos := _, after := _, guard := _ }) (v := ?_) rfl (by kernel_rfl) (by kernel_rfl) (by kernel_rfl) (fun _ _ _ h => h) (Or.inl ⟨by rfl, ?_⟩) hH ?_
  rotate_left
  · intro wz hSw
    (try dsimp only at hSw)
    first | (go_simp; done) | (go_simp; with_reducible rfl)
  try simp only [Act.put, List.setIfInBounds_toArray, List.set_cons_zero, List.set_cons_succ]
  refine wpAnyH_take (i := 31) (oi := { dst := some 98, op := _, type := _, pos := _, after := _, guard := _ }) (v := ?_) rfl (by kernel_rfl) (by kernel_rfl) (by kernel_rfl) (fun _ _ _ h => h) (Or.inl ⟨by rfl, ?_⟩) hH ?_
  rotate_left
  · intro wz hSw
    (try dsimp only at hSw)
    first | (go_simp; done) | (go_simp; with_reducible rfl)
  try simp only [Act.put, List.setIfInBounds_toArray, List.set_cons_zero, List.set_cons_succ]
  refine wpAnyH_take (i := 32) (oi := { dst := some 99, op := _, type := _, pos := _, after := _, guard := _ }) (v := ?_) rfl (by kernel_rfl) (by kernel_rfl) (by kernel_rfl) (fun _ _ _ h => h) (Or.inl ⟨by rfl, ?_⟩) hH ?_
  rotate_left
  · intro wz hSw
    (try dsimp only at hSw)
    first | (go_simp; done) | (go_simp; with_reducible rfl)
  try simp only [Act.put, List.setIfInBounds_toArray, List.set_cons_zero, List.set_cons_succ]
  refine wpAnyH_take (i := 33) (oi := { dst := some 100, op := _, type := _, pos := _, after := _, guard := _ }) (v := ?_) rfl (by kernel_rfl) (by kernel_rfl) (by kernel_rfl) (fun _ _ _ h => h) (Or.inl ⟨by rfl, ?_⟩) hH ?_
  rotate_left
  · intro wz hSw
    (try dsimp only at hSw)
    obtain ⟨-, XS, YS, ZS⟩ := hSw
    obtain ⟨z0, z1, z2, z3, z4, z5⟩ := XS.six
    first | (go_simp; done) | (go_simp; with_reducible rfl)
  try simp only [Act.put, List.setIfInBounds_toArray, List.set_cons_zero, List.set_cons_succ]
  refine wpAnyH_take (i := 36) (oi := { dst := some 103, op := _, type := _, pos := _, after := _, guard := _ }) (v := ?_) rfl (by kernel_rfl) (by kernel_rfl) (by kernel_rfl) (fun _ _ _ h => h) (Or.inl ⟨by rfl, ?_⟩) hH ?_
  rotate_left
  · intro wz hSw
    (try dsimp only at hSw)
    first | (go_simp; done) | (go_simp; with_reducible rfl)
  try simp only [Act.put, List.setIfInBounds_toArray, List.set_cons_zero, List.set_cons_succ]
  refine wpAnyH_take (i := 38) (oi := { dst := some 105, op := _, type := _, pos := _, after := _, guard := _ }) (v := ?_) rfl (by kernel_rfl) (by kernel_rfl) (by kernel_rfl) (fun _ _ _ h => h) (Or.inl ⟨by rfl, ?_⟩) hH ?_
  rotate_left
  · intro wz hSw
    (try dsimp only at hSw)
    first | (go_simp; done) | (go_simp; with_reducible rfl)
  try simp only [Act.put, List.setIfInBounds_toArray, List.set_cons_zero, List.set_cons_succ]
  refine wpAnyH_take (i := 39) (oi := { dst := some 106, op := _, type := _, pos := _, after := _, guard := _ }) (v := ?_) rfl (by kernel_rfl) (by kernel_rfl) (by kernel_rfl) (fun _ _ _ h => h) (Or.inl ⟨by rfl, ?_⟩) hH ?_
  rotate_left
  · intro wz hSw
    (try dsimp only at hSw)
    first | (go_simp; done) | (go_simp; with_reducible rfl)
  try simp only [Act.put, List.setIfInBounds_toArray, List.set_cons_zero, List.set_cons_succ]
  refine wpAnyH_take (i := 40) (oi := { dst := some 107, op := _, type := _, pos := _, after := _, guard := _ }) (v := ?_) rfl (by kernel_rfl) (by kernel_rfl) (by kernel_rfl) (fun _ _ _ h => h) (Or.inl ⟨by rfl, ?_⟩) hH ?_
  rotate_left
  · intro wz hSw
    (try dsimp only at hSw)
    first | (go_simp; done) | (go_simp; with_reducible rfl)
  try simp only [Act.put, List.setIfInBounds_toArray, List.set_cons_zero, List.set_cons_succ]
  refine wpAnyH_ready (rs := [34]) (by kernel_rfl) (by simp) ?_
  refine (AllReadyH.cons (o := { dst := some 101, op := _, type := _, pos := _, after := _, guard := _ }) rfl (fun K hK => ?_) AllReadyH.nil)
  go_simp
  have hn : Below wq3.heap.size wq3 (wq3.alloc (.cells #[.int .i64 ra, .int .i64 rn, .int .i64 ri, .int .i64 rp, .int .i64 rk, .int .i64 rt] 35)) := below_new wq3 (.cells #[.int .i64 ra, .int .i64 rn, .int .i64 ri, .int .i64 rp, .int .i64 rk, .int .i64 rt] 35)
  have RY34 : Rds fR 6 (wq3.alloc (.cells #[.int .i64 ra, .int .i64 rn, .int .i64 ri, .int .i64 rp, .int .i64 rk, .int .i64 rt] 35)) (some ⟨wq3.heap.size, 0, none⟩) 1 [(⟨ra, rn, ri, rp, rk, rt⟩ : Rl)] := rds_newl wq3 [(⟨ra, rn, ri, rp, rk, rt⟩ : Rl)] 35 hwr rfl
  generalize wq3.alloc (.cells #[.int .i64 ra, .int .i64 rn, .int .i64 ri, .int .i64 rp, .int .i64 rk, .int .i64 rt] 35) = W34 at hn RY34 ⊢
  replace RY2 := RY2.later hn
  refine hK.out _ _ (kept_three hH hn) (fun hH2 => ?_)
  clear hK K hH hn
  have hH := hH2
  clear hH2
  try simp only [Act.put, List.setIfInBounds_toArray, List.set_cons_zero, List.set_cons_succ]
  refine wpAnyH_ready (rs := [35]) (by kernel_rfl) (by simp) ?_
  refine (AllReadyH.cons (o := { dst := some 102, op := _, type := _, pos := _, after := _, guard := _ }) rfl (fun K hK => ?_) AllReadyH.nil)
  go_simp
  refine (of_at u _ RY34 rfl (by simp)).mono ?_
  rw [hn3]
  rintro e wq35 ⟨rfl, hn⟩
  go_wp2_with fail
  replace RY2 := RY2.later hn
  replace RY34 := RY34.later hn
  refine hK.out _ _ (kept_three hH hn) (fun hH2 => ?_)
  clear hK K hH hn
  have hH := hH2
  clear hH2
  try simp only [Act.put, List.setIfInBounds_toArray, List.set_cons_zero, List.set_cons_succ]
  refine wpAnyH_take (i := 37) (oi := { dst := some 104, op := _, type := _, pos := _, after := _, guard := _ }) (v := ?_) rfl (by kernel_rfl) (by kernel_rfl) (by kernel_rfl) (fun _ _ _ h => h) (Or.inl ⟨by rfl, ?_⟩) hH ?_
  rotate_left
  · intro wz hSw
    (try dsimp only at hSw)
    first | (go_simp; done) | (go_simp; with_reducible rfl)
  try simp only [Act.put, List.setIfInBounds_toArray, List.set_cons_zero, List.set_cons_succ]
  refine wpAnyH_take (i := 41) (oi := { dst := some 108, op := _, type := _, pos := _, after := _, guard := _ }) (v := ?_) rfl (by kernel_rfl) (by kernel_rfl) (by kernel_rfl) (fun _ _ _ h => h) (Or.inl ⟨by rfl, ?_⟩) hH ?_
  rotate_left
  · intro wz hSw
    (try dsimp only at hSw)
    first | (go_simp; done) | (go_simp; with_reducible rfl)
  try simp only [Act.put, List.setIfInBounds_toArray, List.set_cons_zero, List.set_cons_succ]
  refine wpAnyH_take (i := 42) (oi := { dst := some 109, op := _, type := _, pos := _, after := _, guard := _ }) (v := ?_) rfl (by kernel_rfl) (by kernel_rfl) (by kernel_rfl) (fun _ _ _ h => h) (Or.inl ⟨by rfl, ?_⟩) hH ?_
  rotate_left
  · intro wz hSw
    (try dsimp only at hSw)
    first | (go_simp; done) | (go_simp; with_reducible rfl)
  try simp only [Act.put, List.setIfInBounds_toArray, List.set_cons_zero, List.set_cons_succ]
  refine wpAnyH_take (i := 43) (oi := { dst := some 10, op := _, type := _, pos := _, after := _, guard := _ }) (v := ?_) rfl (by kernel_rfl) (by kernel_rfl) (by kernel_rfl) (fun _ _ _ h => h) (Or.inl ⟨by rfl, ?_⟩) hH ?_
  rotate_left
  · intro wz hSw
    (try dsimp only at hSw)
    first | (go_simp; done) | (go_simp; with_reducible rfl)
  try simp only [Act.put, List.setIfInBounds_toArray, List.set_cons_zero, List.set_cons_succ]
  refine wpAnyH_done (by kernel_rfl) ?_ _
  refine NoPanic.normal ?_
  have hbZ := below_step hbW hH.1
  go_wp2_with fail
  go_ret
  exact ⟨rfl, hbZ⟩
set_option maxRecDepth 100000 in
theorem walk_may (t u ra rn ri rp rk rt m q : Int) (hm : okR ra rn ri rp rk rt = false)  (w : World) :
    Calls Try.prog 6 #[.int .i64 t, .int .i64 u, .agg #[.int .i64 ra, .int .i64 rn, .int .i64 ri, .int .i64 rp, .int .i64 rk, .int .i64 rt], .int .i64 m, .int .i64 q] w fun e w' => e = .returned (.bool true) ∧ Below w.heap.size w w' := by
  have hn := below_new w (.cells #[.int .i64 ra, .int .i64 rn, .int .i64 ri, .int .i64 rp, .int .i64 rk, .int .i64 rt] 35)
  have X := Lies.new w [ra, rn, ri, rp, rk, rt] 35 rfl
  go_enter Try.func6, Try.ntmps6
  go_wp2_with fail
  refine (dawake_any _).mono ?_
  rintro e w1 ⟨rfl, hb1⟩
  have hbA := below_step hn hb1
  replace X := X.later hb1
  obtain ⟨x0, x1, x2, x3, x4, x5⟩ := X.six
  have cM := ruMay_any ra rn ri rp rk rt w1
  rw [hm] at cM
  go_wp2_with fail
  refine cM.mono ?_
  clear cM x0 x1 x2 x3 x4 x5
  rintro e w2 ⟨rfl, hb2⟩
  have hbB := below_step hbA hb2
  replace X := X.later hb2
  obtain ⟨x0, x1, x2, x3, x4, x5⟩ := X.six
  go_wp2_with fail
  go_ret
  exact ⟨rfl, hbB⟩
set_option maxRecDepth 100000 in
theorem walk_no0 (t u ra rn ri rp rk rt m q : Int) (hm : okR ra rn ri rp rk rt = true) (g0 : t < 1) (w : World) :
    Calls Try.prog 6 #[.int .i64 t, .int .i64 u, .agg #[.int .i64 ra, .int .i64 rn, .int .i64 ri, .int .i64 rp, .int .i64 rk, .int .i64 rt], .int .i64 m, .int .i64 q] w fun e w' => e = .returned (.bool true) ∧ Below w.heap.size w w' := by
  have hn := below_new w (.cells #[.int .i64 ra, .int .i64 rn, .int .i64 ri, .int .i64 rp, .int .i64 rk, .int .i64 rt] 35)
  have X := Lies.new w [ra, rn, ri, rp, rk, rt] 35 rfl
  have d0 : decide (t < 1) = true := decide_eq_true (by omega)
  go_enter Try.func6, Try.ntmps6
  go_wp2_with fail
  refine (dawake_any _).mono ?_
  rintro e w1 ⟨rfl, hb1⟩
  have hbA := below_step hn hb1
  replace X := X.later hb1
  obtain ⟨x0, x1, x2, x3, x4, x5⟩ := X.six
  have cM := ruMay_any ra rn ri rp rk rt w1
  rw [hm] at cM
  go_wp2_with fail
  refine cM.mono ?_
  clear cM x0 x1 x2 x3 x4 x5
  rintro e w2 ⟨rfl, hb2⟩
  have hbB := below_step hbA hb2
  replace X := X.later hb2
  obtain ⟨x0, x1, x2, x3, x4, x5⟩ := X.six
  go_wp2_with fail
  go_ret
  exact ⟨rfl, hbB⟩
set_option maxRecDepth 100000 in
theorem walk_no1 (t u ra rn ri rp rk rt m q : Int) (hm : okR ra rn ri rp rk rt = true) (g0 : ¬ t < 1) (g1 : 4095 < t) (w : World) :
    Calls Try.prog 6 #[.int .i64 t, .int .i64 u, .agg #[.int .i64 ra, .int .i64 rn, .int .i64 ri, .int .i64 rp, .int .i64 rk, .int .i64 rt], .int .i64 m, .int .i64 q] w fun e w' => e = .returned (.bool true) ∧ Below w.heap.size w w' := by
  have hn := below_new w (.cells #[.int .i64 ra, .int .i64 rn, .int .i64 ri, .int .i64 rp, .int .i64 rk, .int .i64 rt] 35)
  have X := Lies.new w [ra, rn, ri, rp, rk, rt] 35 rfl
  have d0 : decide (t < 1) = false := decide_eq_false (by omega)
  have d1 : decide (4095 < t) = true := decide_eq_true (by omega)
  go_enter Try.func6, Try.ntmps6
  go_wp2_with fail
  refine (dawake_any _).mono ?_
  rintro e w1 ⟨rfl, hb1⟩
  have hbA := below_step hn hb1
  replace X := X.later hb1
  obtain ⟨x0, x1, x2, x3, x4, x5⟩ := X.six
  have cM := ruMay_any ra rn ri rp rk rt w1
  rw [hm] at cM
  go_wp2_with fail
  refine cM.mono ?_
  clear cM x0 x1 x2 x3 x4 x5
  rintro e w2 ⟨rfl, hb2⟩
  have hbB := below_step hbA hb2
  replace X := X.later hb2
  obtain ⟨x0, x1, x2, x3, x4, x5⟩ := X.six
  go_wp2_with fail
  go_ret
  exact ⟨rfl, hbB⟩
set_option maxRecDepth 100000 in
theorem walk_no2 (t u ra rn ri rp rk rt m q : Int) (hm : okR ra rn ri rp rk rt = true) (g0 : ¬ t < 1) (g1 : ¬ 4095 < t) (g2 : u < 1) (w : World) :
    Calls Try.prog 6 #[.int .i64 t, .int .i64 u, .agg #[.int .i64 ra, .int .i64 rn, .int .i64 ri, .int .i64 rp, .int .i64 rk, .int .i64 rt], .int .i64 m, .int .i64 q] w fun e w' => e = .returned (.bool true) ∧ Below w.heap.size w w' := by
  have hn := below_new w (.cells #[.int .i64 ra, .int .i64 rn, .int .i64 ri, .int .i64 rp, .int .i64 rk, .int .i64 rt] 35)
  have X := Lies.new w [ra, rn, ri, rp, rk, rt] 35 rfl
  have d0 : decide (t < 1) = false := decide_eq_false (by omega)
  have d1 : decide (4095 < t) = false := decide_eq_false (by omega)
  have d2 : decide (u < 1) = true := decide_eq_true (by omega)
  go_enter Try.func6, Try.ntmps6
  go_wp2_with fail
  refine (dawake_any _).mono ?_
  rintro e w1 ⟨rfl, hb1⟩
  have hbA := below_step hn hb1
  replace X := X.later hb1
  obtain ⟨x0, x1, x2, x3, x4, x5⟩ := X.six
  have cM := ruMay_any ra rn ri rp rk rt w1
  rw [hm] at cM
  go_wp2_with fail
  refine cM.mono ?_
  clear cM x0 x1 x2 x3 x4 x5
  rintro e w2 ⟨rfl, hb2⟩
  have hbB := below_step hbA hb2
  replace X := X.later hb2
  obtain ⟨x0, x1, x2, x3, x4, x5⟩ := X.six
  go_wp2_with fail
  go_ret
  exact ⟨rfl, hbB⟩
set_option maxRecDepth 100000 in
theorem walk_no3 (t u ra rn ri rp rk rt m q : Int) (hm : okR ra rn ri rp rk rt = true) (g0 : ¬ t < 1) (g1 : ¬ 4095 < t) (g2 : ¬ u < 1) (g3 : 4095 < u) (w : World) :
    Calls Try.prog 6 #[.int .i64 t, .int .i64 u, .agg #[.int .i64 ra, .int .i64 rn, .int .i64 ri, .int .i64 rp, .int .i64 rk, .int .i64 rt], .int .i64 m, .int .i64 q] w fun e w' => e = .returned (.bool true) ∧ Below w.heap.size w w' := by
  have hn := below_new w (.cells #[.int .i64 ra, .int .i64 rn, .int .i64 ri, .int .i64 rp, .int .i64 rk, .int .i64 rt] 35)
  have X := Lies.new w [ra, rn, ri, rp, rk, rt] 35 rfl
  have d0 : decide (t < 1) = false := decide_eq_false (by omega)
  have d1 : decide (4095 < t) = false := decide_eq_false (by omega)
  have d2 : decide (u < 1) = false := decide_eq_false (by omega)
  have d3 : decide (4095 < u) = true := decide_eq_true (by omega)
  go_enter Try.func6, Try.ntmps6
  go_wp2_with fail
  refine (dawake_any _).mono ?_
  rintro e w1 ⟨rfl, hb1⟩
  have hbA := below_step hn hb1
  replace X := X.later hb1
  obtain ⟨x0, x1, x2, x3, x4, x5⟩ := X.six
  have cM := ruMay_any ra rn ri rp rk rt w1
  rw [hm] at cM
  go_wp2_with fail
  refine cM.mono ?_
  clear cM x0 x1 x2 x3 x4 x5
  rintro e w2 ⟨rfl, hb2⟩
  have hbB := below_step hbA hb2
  replace X := X.later hb2
  obtain ⟨x0, x1, x2, x3, x4, x5⟩ := X.six
  go_wp2_with fail
  go_ret
  exact ⟨rfl, hbB⟩
set_option maxRecDepth 100000 in
theorem walk_no4 (t u ra rn ri rp rk rt m q : Int) (hm : okR ra rn ri rp rk rt = true) (g0 : ¬ t < 1) (g1 : ¬ 4095 < t) (g2 : ¬ u < 1) (g3 : ¬ 4095 < u) (g4 : q < 0) (w : World) :
    Calls Try.prog 6 #[.int .i64 t, .int .i64 u, .agg #[.int .i64 ra, .int .i64 rn, .int .i64 ri, .int .i64 rp, .int .i64 rk, .int .i64 rt], .int .i64 m, .int .i64 q] w fun e w' => e = .returned (.bool true) ∧ Below w.heap.size w w' := by
  have hn := below_new w (.cells #[.int .i64 ra, .int .i64 rn, .int .i64 ri, .int .i64 rp, .int .i64 rk, .int .i64 rt] 35)
  have X := Lies.new w [ra, rn, ri, rp, rk, rt] 35 rfl
  have d0 : decide (t < 1) = false := decide_eq_false (by omega)
  have d1 : decide (4095 < t) = false := decide_eq_false (by omega)
  have d2 : decide (u < 1) = false := decide_eq_false (by omega)
  have d3 : decide (4095 < u) = false := decide_eq_false (by omega)
  have d4 : decide (q < 0) = true := decide_eq_true (by omega)
  go_enter Try.func6, Try.ntmps6
  go_wp2_with fail
  refine (dawake_any _).mono ?_
  rintro e w1 ⟨rfl, hb1⟩
  have hbA := below_step hn hb1
  replace X := X.later hb1
  obtain ⟨x0, x1, x2, x3, x4, x5⟩ := X.six
  have cM := ruMay_any ra rn ri rp rk rt w1
  rw [hm] at cM
  go_wp2_with fail
  refine cM.mono ?_
  clear cM x0 x1 x2 x3 x4 x5
  rintro e w2 ⟨rfl, hb2⟩
  have hbB := below_step hbA hb2
  replace X := X.later hb2
  obtain ⟨x0, x1, x2, x3, x4, x5⟩ := X.six
  go_wp2_with fail
  go_ret
  exact ⟨rfl, hbB⟩
set_option maxRecDepth 100000 in
theorem walk_no5 (t u ra rn ri rp rk rt m q : Int) (hm : okR ra rn ri rp rk rt = true) (g0 : ¬ t < 1) (g1 : ¬ 4095 < t) (g2 : ¬ u < 1) (g3 : ¬ 4095 < u) (g4 : ¬ q < 0) (g5 : 255 < q) (w : World) :
    Calls Try.prog 6 #[.int .i64 t, .int .i64 u, .agg #[.int .i64 ra, .int .i64 rn, .int .i64 ri, .int .i64 rp, .int .i64 rk, .int .i64 rt], .int .i64 m, .int .i64 q] w fun e w' => e = .returned (.bool true) ∧ Below w.heap.size w w' := by
  have hn := below_new w (.cells #[.int .i64 ra, .int .i64 rn, .int .i64 ri, .int .i64 rp, .int .i64 rk, .int .i64 rt] 35)
  have X := Lies.new w [ra, rn, ri, rp, rk, rt] 35 rfl
  have d0 : decide (t < 1) = false := decide_eq_false (by omega)
  have d1 : decide (4095 < t) = false := decide_eq_false (by omega)
  have d2 : decide (u < 1) = false := decide_eq_false (by omega)
  have d3 : decide (4095 < u) = false := decide_eq_false (by omega)
  have d4 : decide (q < 0) = false := decide_eq_false (by omega)
  have d5 : decide (255 < q) = true := decide_eq_true (by omega)
  go_enter Try.func6, Try.ntmps6
  go_wp2_with fail
  refine (dawake_any _).mono ?_
  rintro e w1 ⟨rfl, hb1⟩
  have hbA := below_step hn hb1
  replace X := X.later hb1
  obtain ⟨x0, x1, x2, x3, x4, x5⟩ := X.six
  have cM := ruMay_any ra rn ri rp rk rt w1
  rw [hm] at cM
  go_wp2_with fail
  refine cM.mono ?_
  clear cM x0 x1 x2 x3 x4 x5
  rintro e w2 ⟨rfl, hb2⟩
  have hbB := below_step hbA hb2
  replace X := X.later hb2
  obtain ⟨x0, x1, x2, x3, x4, x5⟩ := X.six
  go_wp2_with fail
  go_ret
  exact ⟨rfl, hbB⟩
set_option maxRecDepth 100000 in
theorem walk_no6 (t u ra rn ri rp rk rt m q : Int) (hm : okR ra rn ri rp rk rt = true) (g0 : ¬ t < 1) (g1 : ¬ 4095 < t) (g2 : ¬ u < 1) (g3 : ¬ 4095 < u) (g4 : ¬ q < 0) (g5 : ¬ 255 < q) (g6 : m < 0) (w : World) :
    Calls Try.prog 6 #[.int .i64 t, .int .i64 u, .agg #[.int .i64 ra, .int .i64 rn, .int .i64 ri, .int .i64 rp, .int .i64 rk, .int .i64 rt], .int .i64 m, .int .i64 q] w fun e w' => e = .returned (.bool true) ∧ Below w.heap.size w w' := by
  have hn := below_new w (.cells #[.int .i64 ra, .int .i64 rn, .int .i64 ri, .int .i64 rp, .int .i64 rk, .int .i64 rt] 35)
  have X := Lies.new w [ra, rn, ri, rp, rk, rt] 35 rfl
  have d0 : decide (t < 1) = false := decide_eq_false (by omega)
  have d1 : decide (4095 < t) = false := decide_eq_false (by omega)
  have d2 : decide (u < 1) = false := decide_eq_false (by omega)
  have d3 : decide (4095 < u) = false := decide_eq_false (by omega)
  have d4 : decide (q < 0) = false := decide_eq_false (by omega)
  have d5 : decide (255 < q) = false := decide_eq_false (by omega)
  have d6 : decide (m < 0) = true := decide_eq_true (by omega)
  go_enter Try.func6, Try.ntmps6
  go_wp2_with fail
  refine (dawake_any _).mono ?_
  rintro e w1 ⟨rfl, hb1⟩
  have hbA := below_step hn hb1
  replace X := X.later hb1
  obtain ⟨x0, x1, x2, x3, x4, x5⟩ := X.six
  have cM := ruMay_any ra rn ri rp rk rt w1
  rw [hm] at cM
  go_wp2_with fail
  refine cM.mono ?_
  clear cM x0 x1 x2 x3 x4 x5
  rintro e w2 ⟨rfl, hb2⟩
  have hbB := below_step hbA hb2
  replace X := X.later hb2
  obtain ⟨x0, x1, x2, x3, x4, x5⟩ := X.six
  go_wp2_with fail
  go_ret
  exact ⟨rfl, hbB⟩
set_option maxRecDepth 100000 in
theorem walk_no7 (t u ra rn ri rp rk rt m q : Int) (hm : okR ra rn ri rp rk rt = true) (g0 : ¬ t < 1) (g1 : ¬ 4095 < t) (g2 : ¬ u < 1) (g3 : ¬ 4095 < u) (g4 : ¬ q < 0) (g5 : ¬ 255 < q) (g6 : ¬ m < 0) (g7 : 7 < m) (w : World) :
    Calls Try.prog 6 #[.int .i64 t, .int .i64 u, .agg #[.int .i64 ra, .int .i64 rn, .int .i64 ri, .int .i64 rp, .int .i64 rk, .int .i64 rt], .int .i64 m, .int .i64 q] w fun e w' => e = .returned (.bool true) ∧ Below w.heap.size w w' := by
  have hn := below_new w (.cells #[.int .i64 ra, .int .i64 rn, .int .i64 ri, .int .i64 rp, .int .i64 rk, .int .i64 rt] 35)
  have X := Lies.new w [ra, rn, ri, rp, rk, rt] 35 rfl
  have d0 : decide (t < 1) = false := decide_eq_false (by omega)
  have d1 : decide (4095 < t) = false := decide_eq_false (by omega)
  have d2 : decide (u < 1) = false := decide_eq_false (by omega)
  have d3 : decide (4095 < u) = false := decide_eq_false (by omega)
  have d4 : decide (q < 0) = false := decide_eq_false (by omega)
  have d5 : decide (255 < q) = false := decide_eq_false (by omega)
  have d6 : decide (m < 0) = false := decide_eq_false (by omega)
  have d7 : decide (7 < m) = true := decide_eq_true (by omega)
  go_enter Try.func6, Try.ntmps6
  go_wp2_with fail
  refine (dawake_any _).mono ?_
  rintro e w1 ⟨rfl, hb1⟩
  have hbA := below_step hn hb1
  replace X := X.later hb1
  obtain ⟨x0, x1, x2, x3, x4, x5⟩ := X.six
  have cM := ruMay_any ra rn ri rp rk rt w1
  rw [hm] at cM
  go_wp2_with fail
  refine cM.mono ?_
  clear cM x0 x1 x2 x3 x4 x5
  rintro e w2 ⟨rfl, hb2⟩
  have hbB := below_step hbA hb2
  replace X := X.later hb2
  obtain ⟨x0, x1, x2, x3, x4, x5⟩ := X.six
  go_wp2_with fail
  go_ret
  exact ⟨rfl, hbB⟩
theorem walk (t u ra rn ri rp rk rt m q : Int) (wt : (Lit.int .i64 t).wf = true) (wu : (Lit.int .i64 u).wf = true) (w0 : (Lit.int .i64 ra).wf = true) (w1 : (Lit.int .i64 rn).wf = true) (w2 : (Lit.int .i64 ri).wf = true) (w3 : (Lit.int .i64 rp).wf = true) (w4 : (Lit.int .i64 rk).wf = true) (w5 : (Lit.int .i64 rt).wf = true) (w6 : (Lit.int .i64 m).wf = true) (w7 : (Lit.int .i64 q).wf = true) (w : World) :
    Calls Try.prog 6 #[.int .i64 t, .int .i64 u, .agg #[.int .i64 ra, .int .i64 rn, .int .i64 ri, .int .i64 rp, .int .i64 rk, .int .i64 rt], .int .i64 m, .int .i64 q] w fun e w' => e = .returned (.bool true) ∧ Below w.heap.size w w' := by
  cases hm : okR ra rn ri rp rk rt
  · exact walk_may t u ra rn ri rp rk rt m q hm w
  by_cases g0 : t < 1
  · exact walk_no0 t u ra rn ri rp rk rt m q hm g0 w
  by_cases g1 : 4095 < t
  · exact walk_no1 t u ra rn ri rp rk rt m q hm g0 g1 w
  by_cases g2 : u < 1
  · exact walk_no2 t u ra rn ri rp rk rt m q hm g0 g1 g2 w
  by_cases g3 : 4095 < u
  · exact walk_no3 t u ra rn ri rp rk rt m q hm g0 g1 g2 g3 w
  by_cases g4 : q < 0
  · exact walk_no4 t u ra rn ri rp rk rt m q hm g0 g1 g2 g3 g4 w
  by_cases g5 : 255 < q
  · exact walk_no5 t u ra rn ri rp rk rt m q hm g0 g1 g2 g3 g4 g5 w
  by_cases g6 : m < 0
  · exact walk_no6 t u ra rn ri rp rk rt m q hm g0 g1 g2 g3 g4 g5 g6 w
  by_cases g7 : 7 < m
  · exact walk_no7 t u ra rn ri rp rk rt m q hm g0 g1 g2 g3 g4 g5 g6 g7 w
  by_cases hk : rk = 1
  · subst hk
    exact walk_fwd t u ra rn ri rp rt m q hm g0 g1 g2 g3 g4 g5 g6 g7 w
  · exact walk_drop t u ra rn ri rp rk rt m q hm g0 g1 g2 g3 g4 g5 g6 g7 hk w
theorem own : ownKnob Try.prog.godebug = none := by kernel_rfl
theorem laidOut : laidOutB Try.prog = true := by kernel_rfl
set_option maxRecDepth 100000 in
theorem lifted (os : Os) (started : os.Started) (H : Type) (enc : TypeId × Value → H) :
    ReturnsInHanded {} Try.checked os 6 .any (Rows.digestOneSpec.pre6 enc Try.prog Try.f6 Rows.digestOneRow.domain false) (Rows.digestOneSpec.post enc Try.prog Try.f6 false true false false) := by
  refine returnsInHanded_of_change (C := Try.checked) own started (by kernel_rfl) Try.func6
    (ChangeSpec.witness6 (enc := enc) (C := Try.checked) false ⟨#[], #[.int .i64 0, .int .i64 0, .agg #[.int .i64 0, .int .i64 0, .int .i64 0, .int .i64 0, .int .i64 0, .int .i64 0], .int .i64 0, .int .i64 0], []⟩ 8 (by kernel_rfl) (by kernel_rfl) (by kernel_rfl) (by kernel_rfl)) ?_
  intro W base args ds gs before hval0 hW hcnd _
  have hval : ∀ (j : Nat) t v, Try.f6.params[j]? = some t → args[j]? = some v → Value.okWide Try.prog W .any base t v := hval0
  have hW' := hW
  obtain ⟨p, q, hA0, hV, rfl, hfz, hnd⟩ := hW
  have hA : DataW.TrodAll enc Try.prog W 0 (fun _ => true) true Try.f6.params.toList args.toList ds p := hA0
  rw [Try.params6] at hA hval
  obtain ⟨v0, vs0, d0, ds0, p0, q0, hargs, rfl, rfl, h0, r0⟩ := trodAll_cons hA
  obtain ⟨v1, vs1, d1, ds1, p1, q1, rfl, rfl, rfl, h1, r1⟩ := trodAll_cons r0
  obtain ⟨v2, vs2, d2, ds2, p2, q2, rfl, rfl, rfl, h2, r2⟩ := trodAll_cons r1
  obtain ⟨v3, vs3, d3, ds3, p3, q3, rfl, rfl, rfl, h3, r3⟩ := trodAll_cons r2
  obtain ⟨v4, vs4, d4, ds4, p4, q4, rfl, rfl, rfl, h4, r4⟩ := trodAll_cons r3
  obtain ⟨rfl, rfl, rfl⟩ := trodAll_nil r4
  obtain rfl : args = #[v0, v1, v2, v3, v4] := by cases args; simp_all
  obtain ⟨rfl, rfl⟩ := trodVars_none hV
  have k0 := h0
  have lt0 : ∀ x ∈ p0, x.block < W.heap.size := by obtain ⟨m, hm⟩ := k0; exact DataW.trod_lt m _ _ _ hm
  have k1 := h1
  have lt1 : ∀ x ∈ p1, x.block < W.heap.size := by obtain ⟨m, hm⟩ := k1; exact DataW.trod_lt m _ _ _ hm
  have k2 := h2
  have lt2 : ∀ x ∈ p2, x.block < W.heap.size := by obtain ⟨m, hm⟩ := k2; exact DataW.trod_lt m _ _ _ hm
  have k3 := h3
  have lt3 : ∀ x ∈ p3, x.block < W.heap.size := by obtain ⟨m, hm⟩ := k3; exact DataW.trod_lt m _ _ _ hm
  have k4 := h4
  have lt4 : ∀ x ∈ p4, x.block < W.heap.size := by obtain ⟨m, hm⟩ := k4; exact DataW.trod_lt m _ _ _ hm
  obtain ⟨a0, rfl, rfl, hp0, w0⟩ := open_int Try.underlying3 (hval 0 3 v0 rfl rfl) h0
  obtain ⟨a1, rfl, rfl, hp1, w1⟩ := open_int Try.underlying3 (hval 1 3 v1 rfl rfl) h1
  obtain ⟨a2, b2, c2, d2, e2, f2, rfl, w2a, w2b, w2c, w2d, w2e, w2f⟩ := open_rule (hval 2 35 v2 rfl rfl) h2
  obtain ⟨a3, rfl, rfl, hp3, w3⟩ := open_int Try.underlying3 (hval 3 3 v3 rfl rfl) h3
  obtain ⟨a4, rfl, rfl, hp4, w4⟩ := open_int Try.underlying3 (hval 4 3 v4 rfl rfl) h4
  clear hA0 hval0
  refine (walk a0 a1 a2 b2 c2 d2 e2 f2 a3 a4 w0 w1 w2a w2b w2c w2d w2e w2f w3 w4 W ).mono fun e W' ⟨he, bel⟩ => ?_
  subst he
  exact ⟨_, rfl, _, _, _, [], _, [], hW', trodAll_mk1 (shut_bool Try.underlying4 _), (trodAll_cons_mk (Below.trod laidOut (by kernel_rfl) (of_decide_eq_true (by kernel_rfl)) k0 bel lt0) (trodAll_cons_mk (Below.trod laidOut (by kernel_rfl) (of_decide_eq_true (by kernel_rfl)) k1 bel lt1) (trodAll_cons_mk (Below.trod laidOut (by kernel_rfl) (of_decide_eq_true (by kernel_rfl)) k2 bel lt2) (trodAll_cons_mk (Below.trod laidOut (by kernel_rfl) (of_decide_eq_true (by kernel_rfl)) k3 bel lt3) (trodAll_cons_mk (Below.trod laidOut (by kernel_rfl) (of_decide_eq_true (by kernel_rfl)) k4 bel lt4) trodAll_mk0))))), rfl, bel.frame _, fun h => by cases h⟩

theorem over : Rows.digestOneRow.holds Try.pinned (OpenSpec.ofChange Rows.digestOneSpec) :=
  OpenClaim.holds_of_wide 6 Try.f6 rfl rfl rfl rfl rfl rfl rfl ⟨rfl, rfl, rfl, rfl, rfl⟩ rfl rfl rfl rfl rfl (by kernel_rfl) Try.func6 (by kernel_rfl)
    (of_decide_eq_true (by kernel_rfl)) (by unfold Func.isWrapper; first | (rw [if_pos (by decide +kernel)]; kernel_rfl) | (rw [if_neg (by decide +kernel)]; exact ⟨rfl, rfl⟩))
    (fun os started H enc _ => lifted os started H enc)
end Go.Proofs.Ytinmhjgnapbkmaa.digestOne
namespace Go.Proofs.Ytinmhjgnapbkmaa
theorem digestOne_holds : Rows.DigestOneSaid := digestOne.over
#print axioms digestOne_holds
end Go.Proofs.Ytinmhjgnapbkmaa
