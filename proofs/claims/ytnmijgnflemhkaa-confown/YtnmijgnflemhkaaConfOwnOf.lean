/- The statement ConfOwn, over whatever the code is (CCode). -/
import Derived.Test.YtnmijgnflemhkaaConfIf
import Derived.Test.YtnmijgnflemhkaaRuleWalks
namespace Go.Proofs.Ytnmijgnflemhkaa
open Go.ChangeShapes Go.WideShapes Go.ChangeAt Go.RowKit Pk Cf R
set_option linter.unusedVariables false
set_option linter.unusedSimpArgs false

theorem wrap_ne {p : Int} (h : (Lit.int .i64 p).wf = true) : ¬ wrap64 (p + 1) = p := by
  have := wf_i64 h
  unfold wrap64
  omega
theorem like_up {a n i p q : Int} (h : ¬ q = p) : likeB a n i q a n i p = false := by
  have hb : (q == p) = false := by simpa using h
  rw [like_is, hb]
  simp
theorem eq_same12 (a n i p k t : Int) (w : World) : (binOp .eql 42 (.agg #[.int .i64 a, .int .i64 n, .int .i64 i, .int .i64 p, .int .i64 k, .int .i64 t]) (.agg #[.int .i64 a, .int .i64 n, .int .i64 i, .int .i64 p, .int .i64 k, .int .i64 t])).run Try.prog w = .ok (.bool true) w := by go_simp
set_option maxRecDepth 100000 in
set_option maxHeartbeats 4000000 in
theorem confOwn_of (C : CCode) (a : Option Addr) (k : Nat) (A : Cnf) (sw : Int) (w : World) (V : Lists w a k A) :
    Calls Try.prog 6 #[.slice a A.length k, .int .i64 sw] w fun e w' => e = .returned (.bool true) ∧ Below w.heap.size w w' := by
  have hB := Below.refl w.heap.size w
  have hmx := Nat.le_trans V.le V.max
  unfold maxLen at hmx
  have cFa := fun w (V : Lists w a k A) => few_any w V
  cases hA : fewB A with
  | false =>
    rw [hA] at cFa
    go_enter Try.func6, Try.ntmps6
    go_wp2_with fail
    refine (cawake_any C _).mono ?_
    rintro e w1 ⟨rfl, hb⟩
    replace V := V.later hb
    replace hB := below_step hB hb
    clear hb
    go_wp2_with fail
    refine (cFa _ V).mono ?_
    rintro e w' ⟨rfl, hww⟩
    obtain rfl := hww
    go_wp2_with fail
    go_ret
    exact ⟨rfl, hB⟩
  | true =>
    rw [hA] at cFa
    have bA := (few_iff A).1 hA
    clear hA
    have cA := fun w (V : Lists w a k A) => C.at' w V bA.2 sw
    by_cases h0 : sw < 0
    case pos =>
      rw [at_out (.inl h0)] at cA
      clear bA
      go_enter Try.func6, Try.ntmps6
      go_wp2_with fail
      refine (cawake_any C _).mono ?_
      rintro e w1 ⟨rfl, hb⟩
      replace V := V.later hb
      replace hB := below_step hB hb
      clear hb
      go_wp2_with fail
      refine (cFa _ V).mono ?_
      rintro e w' ⟨rfl, hww⟩
      obtain rfl := hww
      go_wp2_with fail
      refine (cA _ V).mono ?_
      rintro e w2 ⟨y, j, rfl, R1, -, hb⟩
      replace V := V.later hb
      replace hB := below_step hB hb
      clear hb
      go_wp2_with fail
      go_ret
      exact ⟨rfl, hB⟩
    by_cases h1 : (A.length : Int) ≤ sw
    case pos =>
      rw [at_out (.inr h1)] at cA
      clear bA
      go_enter Try.func6, Try.ntmps6
      go_wp2_with fail
      refine (cawake_any C _).mono ?_
      rintro e w1 ⟨rfl, hb⟩
      replace V := V.later hb
      replace hB := below_step hB hb
      clear hb
      go_wp2_with fail
      refine (cFa _ V).mono ?_
      rintro e w' ⟨rfl, hww⟩
      obtain rfl := hww
      go_wp2_with fail
      refine (cA _ V).mono ?_
      rintro e w2 ⟨y, j, rfl, R1, -, hb⟩
      replace V := V.later hb
      replace hB := below_step hB hb
      clear hb
      go_wp2_with fail
      go_ret
      exact ⟨rfl, hB⟩
    obtain ⟨q, rfl⟩ : ∃ q : Nat, sw = (q : Int) := ⟨sw.toNat, by omega⟩
    have hq : q < A.length := by omega
    have hqz : (q : Int) < (A.length : Int) := by omega
    obtain ⟨l, hl⟩ := getC hq
    rw [at_in hl] at cA
    obtain ⟨b, o, x1, m1, rfl, hbb, c0, RL⟩ := V.at hl
    have hl60 := bA.2 l (List.mem_of_getElem? hl)
    clear hq hl bA
    have hmy := Nat.le_trans RL.le RL.max
    unfold maxLen at hmy
    by_cases hle : l.length = 0
    case pos =>
      have hz : ((l.length : Int) == 0) = true := by rw [beq_iff_eq]; omega
      have hz2 : (l.length : Int) = 0 := by omega
      clear RL hle hz
      go_enter Try.func6, Try.ntmps6
      go_wp2_with fail
      refine (cawake_any C _).mono ?_
      rintro e w1 ⟨rfl, hb⟩
      replace c0 := (hb.cell (p := ⟨b, o + q, none⟩) hbb).trans c0
      replace hbb := Nat.lt_of_lt_of_le hbb hb.size
      replace V := V.later hb
      replace hB := below_step hB hb
      clear hb
      go_wp2_with fail
      refine (cFa _ V).mono ?_
      rintro e w' ⟨rfl, hww⟩
      obtain rfl := hww
      clear cFa
      go_wp2_with fail
      refine (cA _ V).mono ?_
      rintro e w2 ⟨y, j, rfl, R1, -, hb⟩
      replace c0 := (hb.cell (p := ⟨b, o + q, none⟩) hbb).trans c0
      replace hbb := Nat.lt_of_lt_of_le hbb hb.size
      replace V := V.later hb
      replace hB := below_step hB hb
      clear hb
      go_wp2_with fail
      go_ret
      exact ⟨rfl, hB⟩
    have hz : ((l.length : Int) == 0) = false := by rw [beq_eq_false_iff_ne]; omega
    have hz0 : (0 : Int) < (l.length : Int) := by omega
    obtain ⟨r, hr⟩ := getC (L := l) (k := 0) (by omega)
    have hne : l ≠ [] := by intro e; rw [e] at hr; cases hr
    have hwr := RL.wf r (List.mem_of_getElem? hr)
    obtain ⟨b1, o1, rfl, hb1, hc⟩ := RL.at hr
    have HR : Hid (l[0]? = some r) := hr
    obtain ⟨ra, rn, ri, rp, rk, rt⟩ := r
    have v0 := hc 0 _ rfl
    have v1 := hc 1 _ rfl
    have v2 := hc 2 _ rfl
    have v3 := hc 3 _ rfl
    have v4 := hc 4 _ rfl
    have v5 := hc 5 _ rfl
    simp only [Nat.zero_mul, Nat.add_zero] at v0 v1 v2 v3 v4 v5
    have HQ : Hid (¬ wrap64 (rp + 1) = rp) := wrap_ne (hwr rp (by simp [fR]))
    have HNE : Hid (l ≠ []) := hne
    clear hc hr hwr hne hle RL
    go_enter Try.func6, Try.ntmps6
    go_wp2_with fail
    refine (cawake_any C _).mono ?_
    rintro e w1 ⟨rfl, hb⟩
    replace c0 := (hb.cell (p := ⟨b, o + q, none⟩) hbb).trans c0
    replace v0 := (hb.cell (p := ⟨b1, o1, none⟩) hb1).trans v0
    replace v1 := (hb.cell (p := ⟨b1, o1 + 1, none⟩) hb1).trans v1
    replace v2 := (hb.cell (p := ⟨b1, o1 + 2, none⟩) hb1).trans v2
    replace v3 := (hb.cell (p := ⟨b1, o1 + 3, none⟩) hb1).trans v3
    replace v4 := (hb.cell (p := ⟨b1, o1 + 4, none⟩) hb1).trans v4
    replace v5 := (hb.cell (p := ⟨b1, o1 + 5, none⟩) hb1).trans v5
    replace hbb := Nat.lt_of_lt_of_le hbb hb.size
    replace hb1 := Nat.lt_of_lt_of_le hb1 hb.size
    replace V := V.later hb
    replace hB := below_step hB hb
    clear hb
    go_wp2_with fail
    refine (cFa _ V).mono ?_
    rintro e w' ⟨rfl, hww⟩
    obtain rfl := hww
    clear cFa
    have hpre := c0
    go_wp2_with fail
    have hbb0 := hbb
    have hb10 := hb1
    have hB2 := hB.size
    refine (cA _ V).mono ?_
    clear cA hpre
    rintro e w2 ⟨y, j, rfl, R1, hfr, hb⟩
    replace c0 := (hb.cell (p := ⟨b, o + q, none⟩) hbb).trans c0
    replace v0 := (hb.cell (p := ⟨b1, o1, none⟩) hb1).trans v0
    replace v1 := (hb.cell (p := ⟨b1, o1 + 1, none⟩) hb1).trans v1
    replace v2 := (hb.cell (p := ⟨b1, o1 + 2, none⟩) hb1).trans v2
    replace v3 := (hb.cell (p := ⟨b1, o1 + 3, none⟩) hb1).trans v3
    replace v4 := (hb.cell (p := ⟨b1, o1 + 4, none⟩) hb1).trans v4
    replace v5 := (hb.cell (p := ⟨b1, o1 + 5, none⟩) hb1).trans v5
    replace hbb := Nat.lt_of_lt_of_le hbb hb.size
    replace hb1 := Nat.lt_of_lt_of_le hb1 hb.size
    replace V := V.later hb
    replace hB := below_step hB hb
    clear hb
    obtain ⟨b2, o2, rfl, hb2, hc⟩ := R1.at HR.out
    obtain ⟨hge, hfz⟩ := hfr _ rfl HNE.out
    have u0 := hc 0 _ rfl
    have u1 := hc 1 _ rfl
    have u2 := hc 2 _ rfl
    have u3 := hc 3 _ rfl
    have u4 := hc 4 _ rfl
    have u5 := hc 5 _ rfl
    simp only [Nat.zero_mul, Nat.add_zero] at u0 u1 u2 u3 u4 u5
    have f3 := hfz (o2 + 3)
    have hne1 : b ≠ b2 := by have h := hbb0; have h2 : _ ≤ b2 := hge; omega
    have hne2 : b1 ≠ b2 := by have h := hb10; have h2 : _ ≤ b2 := hge; omega
    clear hc hfr hfz R1 HR HNE
    have hbA := below_new w2 (.cells #[.int .i64 ra, .int .i64 rn, .int .i64 ri, .int .i64 rp, .int .i64 rk, .int .i64 rt] 42)
    have p0 := (hbA.cell (p := ⟨b2, o2, none⟩) hb2).trans u0
    have p1 := (hbA.cell (p := ⟨b2, o2 + 1, none⟩) hb2).trans u1
    have p2 := (hbA.cell (p := ⟨b2, o2 + 2, none⟩) hb2).trans u2
    have p3 := (hbA.cell (p := ⟨b2, o2 + 3, none⟩) hb2).trans u3
    have p4 := (hbA.cell (p := ⟨b2, o2 + 4, none⟩) hb2).trans u4
    have p5 := (hbA.cell (p := ⟨b2, o2 + 5, none⟩) hb2).trans u5
    have pf := (hbA.frozen (p := ⟨b2, o2 + 3, none⟩) hb2).trans f3
    have s0 := c0
    have r0 := (hbA.cell (p := ⟨b, o + q, none⟩) hbb).trans c0
    have s1 := v0
    have s2 := v1
    have s3 := v2
    have s4 := v3
    have s5 := v4
    have s6 := v5
    clear hbA
    have hzN : 0 < l.length := by omega
    go_wp2_with fail
    clear s0 s1 s2 s3 s4 s5 s6 r0 p0 p1 p2 p3 p4 p5 pf V
    replace c0 := (World.cell?_setCell_other w2 ⟨b2, o2 + 3, none⟩ ⟨b, o + q, none⟩ (.int .i64 (wrap64 (rp + 1))) (by intro h; injection h with h1 h2; exact hne1 h1.symm)).trans c0
    replace v0 := (World.cell?_setCell_other w2 ⟨b2, o2 + 3, none⟩ ⟨b1, o1, none⟩ (.int .i64 (wrap64 (rp + 1))) (by intro h; injection h with h1 h2; exact hne2 h1.symm)).trans v0
    replace v1 := (World.cell?_setCell_other w2 ⟨b2, o2 + 3, none⟩ ⟨b1, o1 + 1, none⟩ (.int .i64 (wrap64 (rp + 1))) (by intro h; injection h with h1 h2; exact hne2 h1.symm)).trans v1
    replace v2 := (World.cell?_setCell_other w2 ⟨b2, o2 + 3, none⟩ ⟨b1, o1 + 2, none⟩ (.int .i64 (wrap64 (rp + 1))) (by intro h; injection h with h1 h2; exact hne2 h1.symm)).trans v2
    replace v3 := (World.cell?_setCell_other w2 ⟨b2, o2 + 3, none⟩ ⟨b1, o1 + 3, none⟩ (.int .i64 (wrap64 (rp + 1))) (by intro h; injection h with h1 h2; exact hne2 h1.symm)).trans v3
    replace v4 := (World.cell?_setCell_other w2 ⟨b2, o2 + 3, none⟩ ⟨b1, o1 + 4, none⟩ (.int .i64 (wrap64 (rp + 1))) (by intro h; injection h with h1 h2; exact hne2 h1.symm)).trans v4
    replace v5 := (World.cell?_setCell_other w2 ⟨b2, o2 + 3, none⟩ ⟨b1, o1 + 5, none⟩ (.int .i64 (wrap64 (rp + 1))) (by intro h; injection h with h1 h2; exact hne2 h1.symm)).trans v5
    replace u0 := (World.cell?_setCell_other w2 ⟨b2, o2 + 3, none⟩ ⟨b2, o2, none⟩ (.int .i64 (wrap64 (rp + 1))) (by intro h; injection h with h1 h2; omega)).trans u0
    replace u1 := (World.cell?_setCell_other w2 ⟨b2, o2 + 3, none⟩ ⟨b2, o2 + 1, none⟩ (.int .i64 (wrap64 (rp + 1))) (by intro h; injection h with h1 h2; omega)).trans u1
    replace u2 := (World.cell?_setCell_other w2 ⟨b2, o2 + 3, none⟩ ⟨b2, o2 + 2, none⟩ (.int .i64 (wrap64 (rp + 1))) (by intro h; injection h with h1 h2; omega)).trans u2
    replace u3 := World.cell?_setCell_same' w2 ⟨b2, o2 + 3, none⟩ (.int .i64 (wrap64 (rp + 1))) (by rw [u3]; rfl)
    replace u4 := (World.cell?_setCell_other w2 ⟨b2, o2 + 3, none⟩ ⟨b2, o2 + 4, none⟩ (.int .i64 (wrap64 (rp + 1))) (by intro h; injection h with h1 h2; omega)).trans u4
    replace u5 := (World.cell?_setCell_other w2 ⟨b2, o2 + 3, none⟩ ⟨b2, o2 + 5, none⟩ (.int .i64 (wrap64 (rp + 1))) (by intro h; injection h with h1 h2; omega)).trans u5
    have hBs : Below w.heap.size w (w2.setCell ⟨b2, o2 + 3, none⟩ (.int .i64 (wrap64 (rp + 1)))) := hB.setCell (p := ⟨b2, o2 + 3, none⟩) (by have h := hB2; show w.heap.size ≤ b2; omega) _
    have lt1 : b < (w2.setCell ⟨b2, o2 + 3, none⟩ (.int .i64 (wrap64 (rp + 1)))).heap.size := by rw [World.size_setCell]; exact hbb
    have lt2 : b1 < (w2.setCell ⟨b2, o2 + 3, none⟩ (.int .i64 (wrap64 (rp + 1)))).heap.size := by rw [World.size_setCell]; exact hb1
    have lt3 : b2 < (w2.setCell ⟨b2, o2 + 3, none⟩ (.int .i64 (wrap64 (rp + 1)))).heap.size := by rw [World.size_setCell]; exact hb2
    have hN : (w2.setCell ⟨b2, o2 + 3, none⟩ (.int .i64 (wrap64 (rp + 1)))).heap.size = w2.heap.size := World.size_setCell ..
    clear hB f3 hbb hb1 hb2
    have hlk := like_up (a := ra) (n := rn) (i := ri) HQ.out
    generalize (w2.setCell ⟨b2, o2 + 3, none⟩ (.int .i64 (wrap64 (rp + 1)))) = WS at c0 v0 v1 v2 v3 v4 v5 u0 u1 u2 u3 u4 u5 hBs lt1 lt2 lt3 hN ⊢
    generalize w2.heap.size = N at hN ⊢
    generalize wrap64 (rp + 1) = pq at u3 HQ hlk ⊢
    have hbA := below_new WS (.cells #[.int .i64 ra, .int .i64 rn, .int .i64 ri, .int .i64 rp, .int .i64 rk, .int .i64 rt] 42)
    have X : Lies (WS.alloc (.cells #[.int .i64 ra, .int .i64 rn, .int .i64 ri, .int .i64 rp, .int .i64 rk, .int .i64 rt] 42)) N [ra, rn, ri, rp, rk, rt] := Lies.new WS [ra, rn, ri, rp, rk, rt] 42 hN
    have z0 := X.cells 0 _ rfl
    have z1 := X.cells 1 _ rfl
    have z2 := X.cells 2 _ rfl
    have z3 := X.cells 3 _ rfl
    have z4 := X.cells 4 _ rfl
    have z5 := X.cells 5 _ rfl
    have lt4 := X.lt
    replace c0 := (hbA.cell (p := ⟨b, o + q, none⟩) lt1).trans c0
    replace v0 := (hbA.cell (p := ⟨b1, o1, none⟩) lt2).trans v0
    have p0 := (hbA.cell (p := ⟨b2, o2, none⟩) lt3).trans u0
    replace v1 := (hbA.cell (p := ⟨b1, o1 + 1, none⟩) lt2).trans v1
    have p1 := (hbA.cell (p := ⟨b2, o2 + 1, none⟩) lt3).trans u1
    replace v2 := (hbA.cell (p := ⟨b1, o1 + 2, none⟩) lt2).trans v2
    have p2 := (hbA.cell (p := ⟨b2, o2 + 2, none⟩) lt3).trans u2
    replace v3 := (hbA.cell (p := ⟨b1, o1 + 3, none⟩) lt2).trans v3
    have p3 := (hbA.cell (p := ⟨b2, o2 + 3, none⟩) lt3).trans u3
    replace v4 := (hbA.cell (p := ⟨b1, o1 + 4, none⟩) lt2).trans v4
    have p4 := (hbA.cell (p := ⟨b2, o2 + 4, none⟩) lt3).trans u4
    replace v5 := (hbA.cell (p := ⟨b1, o1 + 5, none⟩) lt2).trans v5
    have p5 := (hbA.cell (p := ⟨b2, o2 + 5, none⟩) lt3).trans u5
    replace hBs := below_step hBs hbA
    replace lt1 := Nat.lt_of_lt_of_le lt1 hbA.size
    replace lt2 := Nat.lt_of_lt_of_le lt2 hbA.size
    replace lt3 := Nat.lt_of_lt_of_le lt3 hbA.size
    clear hbA X u0 u1 u2 u3 u4 u5 hN
    generalize WS.alloc (.cells #[.int .i64 ra, .int .i64 rn, .int .i64 ri, .int .i64 rp, .int .i64 rk, .int .i64 rt] 42) = WZ at c0 v0 v1 v2 v3 v4 v5 z0 z1 z2 z3 z4 z5 p0 p1 p2 p3 p4 p5 hBs lt1 lt2 lt3 lt4 ⊢
    have cL := fun w => ruAlike_any ra rn ri pq rk rt ra rn ri rp rk rt w
    rw [hlk] at cL
    have heq := fun w => eq_same12 ra rn ri rp rk rt w
    clear hlk HQ
    have S0 : Below WZ.heap.size WZ WZ.drew := (Below.refl _ _).drew
    refine wp_region_noPanic ?_
    refine wp_region_held_drew (S := fun w' => Below WZ.heap.size WZ w') (by kernel_rfl) S0 (fun hH => ?_)
    clear S0
    generalize WZ.drew = WZd at hH  ⊢
    refine wpAnyH_take (i := 0) (oi := { dst := some 68, op := _, type := _, pos := _, after := _, guard := _ }) (v := ?_) rfl (by kernel_rfl) (by kernel_rfl) (by kernel_rfl) (fun _ _ _ h => h) (Or.inl ⟨by rfl, ?_⟩) hH ?_
    rotate_left
    · intro wz hSw
      (try dsimp only at hSw)
      first | (go_simp; done) | (go_simp; with_reducible rfl)
    try simp only [Act.put, List.setIfInBounds_toArray, List.set_cons_zero, List.set_cons_succ]
    refine wpAnyH_take (i := 1) (oi := { dst := some 69, op := _, type := _, pos := _, after := _, guard := _ }) (v := ?_) rfl (by kernel_rfl) (by kernel_rfl) (by kernel_rfl) (fun _ _ _ h => h) (Or.inl ⟨by rfl, ?_⟩) hH ?_
    rotate_left
    · intro wz hSw
      (try dsimp only at hSw)
      first | (go_simp; done) | (go_simp; with_reducible rfl)
    try simp only [Act.put, List.setIfInBounds_toArray, List.set_cons_zero, List.set_cons_succ]
    refine wpAnyH_take (i := 6) (oi := { dst := some 74, op := _, type := _, pos := _, after := _, guard := _ }) (v := ?_) rfl (by kernel_rfl) (by kernel_rfl) (by kernel_rfl) (fun _ _ _ h => h) (Or.inl ⟨by rfl, ?_⟩) hH ?_
    rotate_left
    · intro wz hSw
      (try dsimp only at hSw)
      have k0 := (hSw.cell (p := ⟨N, 0, none⟩) lt4).trans z0
      have k1 := (hSw.cell (p := ⟨N, 1, none⟩) lt4).trans z1
      have k2 := (hSw.cell (p := ⟨N, 2, none⟩) lt4).trans z2
      have k3 := (hSw.cell (p := ⟨N, 3, none⟩) lt4).trans z3
      have k4 := (hSw.cell (p := ⟨N, 4, none⟩) lt4).trans z4
      have k5 := (hSw.cell (p := ⟨N, 5, none⟩) lt4).trans z5
      first | (go_simp; done) | (go_simp; with_reducible rfl)
    try simp only [Act.put, List.setIfInBounds_toArray, List.set_cons_zero, List.set_cons_succ]
    refine wpAnyH_take (i := 2) (oi := { dst := some 70, op := _, type := _, pos := _, after := _, guard := _ }) (v := ?_) rfl (by kernel_rfl) (by kernel_rfl) (by kernel_rfl) (fun _ _ _ h => h) (Or.inl ⟨by rfl, ?_⟩) hH ?_
    rotate_left
    · intro wz hSw
      (try dsimp only at hSw)
      first | (go_simp; done) | (go_simp; with_reducible rfl)
    try simp only [Act.put, List.setIfInBounds_toArray, List.set_cons_zero, List.set_cons_succ]
    refine wpAnyH_take (i := 3) (oi := { dst := some 71, op := _, type := _, pos := _, after := _, guard := _ }) (v := ?_) rfl (by kernel_rfl) (by kernel_rfl) (by kernel_rfl) (fun _ _ _ h => h) (Or.inl ⟨by rfl, ?_⟩) hH ?_
    rotate_left
    · intro wz hSw
      (try dsimp only at hSw)
      have k0 := (hSw.cell (p := ⟨b, o + q, none⟩) lt1).trans c0
      first | (go_simp; done) | (go_simp; with_reducible rfl)
    try simp only [Act.put, List.setIfInBounds_toArray, List.set_cons_zero, List.set_cons_succ]
    refine wpAnyH_take (i := 4) (oi := { dst := some 72, op := _, type := _, pos := _, after := _, guard := _ }) (v := ?_) rfl (by kernel_rfl) (by kernel_rfl) (by kernel_rfl) (fun _ _ _ h => h) (Or.inl ⟨by rfl, ?_⟩) hH ?_
    rotate_left
    · intro wz hSw
      (try dsimp only at hSw)
      first | (go_simp; done) | (go_simp; with_reducible rfl)
    try simp only [Act.put, List.setIfInBounds_toArray, List.set_cons_zero, List.set_cons_succ]
    refine wpAnyH_take (i := 5) (oi := { dst := some 73, op := _, type := _, pos := _, after := _, guard := _ }) (v := ?_) rfl (by kernel_rfl) (by kernel_rfl) (by kernel_rfl) (fun _ _ _ h => h) (Or.inl ⟨by rfl, ?_⟩) hH ?_
    rotate_left
    · intro wz hSw
      (try dsimp only at hSw)
      have k0 := (hSw.cell (p := ⟨b1, o1, none⟩) lt2).trans v0
      have k1 := (hSw.cell (p := ⟨b1, o1 + 1, none⟩) lt2).trans v1
      have k2 := (hSw.cell (p := ⟨b1, o1 + 2, none⟩) lt2).trans v2
      have k3 := (hSw.cell (p := ⟨b1, o1 + 3, none⟩) lt2).trans v3
      have k4 := (hSw.cell (p := ⟨b1, o1 + 4, none⟩) lt2).trans v4
      have k5 := (hSw.cell (p := ⟨b1, o1 + 5, none⟩) lt2).trans v5
      first | (go_simp; done) | (go_simp; with_reducible rfl)
    try simp only [Act.put, List.setIfInBounds_toArray, List.set_cons_zero, List.set_cons_succ]
    refine wpAnyH_take (i := 7) (oi := { dst := some 75, op := _, type := _, pos := _, after := _, guard := _ }) (v := ?_) rfl (by kernel_rfl) (by kernel_rfl) (by kernel_rfl) (fun _ _ _ h => h) (Or.inl ⟨by rfl, ?_⟩) hH ?_
    rotate_left
    · intro wz hSw
      (try dsimp only at hSw)
      first | (go_simp; done) | (go_simp; with_reducible rfl)
    try simp only [Act.put, List.setIfInBounds_toArray, List.set_cons_zero, List.set_cons_succ]
    refine wpAnyH_take (i := 8) (oi := { dst := some 76, op := _, type := _, pos := _, after := _, guard := _ }) (v := ?_) rfl (by kernel_rfl) (by kernel_rfl) (by kernel_rfl) (fun _ _ _ h => h) (Or.inl ⟨by rfl, ?_⟩) hH ?_
    rotate_left
    · intro wz hSw
      (try dsimp only at hSw)
      first | (go_simp; done) | (go_simp; with_reducible rfl)
    try simp only [Act.put, List.setIfInBounds_toArray, List.set_cons_zero, List.set_cons_succ]
    refine wpAnyH_take (i := 9) (oi := { dst := some 77, op := _, type := _, pos := _, after := _, guard := _ }) (v := ?_) rfl (by kernel_rfl) (by kernel_rfl) (by kernel_rfl) (fun _ _ _ h => h) (Or.inl ⟨by rfl, ?_⟩) hH ?_
    rotate_left
    · intro wz hSw
      (try dsimp only at hSw)
      first | (go_simp; done) | (go_simp; with_reducible rfl)
    try simp only [Act.put, List.setIfInBounds_toArray, List.set_cons_zero, List.set_cons_succ]
    refine wpAnyH_take (i := 12) (oi := { dst := some 80, op := _, type := _, pos := _, after := _, guard := _ }) (v := ?_) rfl (by kernel_rfl) (by kernel_rfl) (by kernel_rfl) (fun _ _ _ h => h) (Or.inl ⟨by rfl, ?_⟩) hH ?_
    rotate_left
    · intro wz hSw
      (try dsimp only at hSw)
      have k0 := (hSw.cell (p := ⟨N, 0, none⟩) lt4).trans z0
      have k1 := (hSw.cell (p := ⟨N, 1, none⟩) lt4).trans z1
      have k2 := (hSw.cell (p := ⟨N, 2, none⟩) lt4).trans z2
      have k3 := (hSw.cell (p := ⟨N, 3, none⟩) lt4).trans z3
      have k4 := (hSw.cell (p := ⟨N, 4, none⟩) lt4).trans z4
      have k5 := (hSw.cell (p := ⟨N, 5, none⟩) lt4).trans z5
      first | (go_simp; done) | (go_simp; with_reducible rfl)
    try simp only [Act.put, List.setIfInBounds_toArray, List.set_cons_zero, List.set_cons_succ]
    refine wpAnyH_take (i := 10) (oi := { dst := some 78, op := _, type := _, pos := _, after := _, guard := _ }) (v := ?_) rfl (by kernel_rfl) (by kernel_rfl) (by kernel_rfl) (fun _ _ _ h => h) (Or.inl ⟨by rfl, ?_⟩) hH ?_
    rotate_left
    · intro wz hSw
      (try dsimp only at hSw)
      first | (go_simp; done) | (go_simp; with_reducible rfl)
    try simp only [Act.put, List.setIfInBounds_toArray, List.set_cons_zero, List.set_cons_succ]
    refine wpAnyH_take (i := 11) (oi := { dst := some 79, op := _, type := _, pos := _, after := _, guard := _ }) (v := ?_) rfl (by kernel_rfl) (by kernel_rfl) (by kernel_rfl) (fun _ _ _ h => h) (Or.inl ⟨by rfl, ?_⟩) hH ?_
    rotate_left
    · intro wz hSw
      (try dsimp only at hSw)
      have k0 := (hSw.cell (p := ⟨b2, o2, none⟩) lt3).trans p0
      have k1 := (hSw.cell (p := ⟨b2, o2 + 1, none⟩) lt3).trans p1
      have k2 := (hSw.cell (p := ⟨b2, o2 + 2, none⟩) lt3).trans p2
      have k3 := (hSw.cell (p := ⟨b2, o2 + 3, none⟩) lt3).trans p3
      have k4 := (hSw.cell (p := ⟨b2, o2 + 4, none⟩) lt3).trans p4
      have k5 := (hSw.cell (p := ⟨b2, o2 + 5, none⟩) lt3).trans p5
      first | (go_simp; done) | (go_simp; with_reducible rfl)
    try simp only [Act.put, List.setIfInBounds_toArray, List.set_cons_zero, List.set_cons_succ]
    refine wpAnyH_ready (rs := [13]) (by kernel_rfl) (by simp) ?_
    refine (AllReadyH.cons (o := { dst := some 81, op := _, type := _, pos := _, after := _, guard := _ }) rfl (fun K hK => ?_) AllReadyH.nil)
    go_simp
    refine (cL _).mono ?_
    rintro e WZ13x0 ⟨rfl, hb⟩
    have hn : Below WZ.heap.size WZ WZ13x0 := below_step hH hb
    clear hb
    go_wp2_with fail
    refine hK.out _ _ hn (fun hH2 => ?_)
    clear hK K hH hn
    have hH := hH2
    clear hH2
    try simp only [Act.put, List.setIfInBounds_toArray, List.set_cons_zero, List.set_cons_succ]
    refine wpAnyH_take (i := 14) (oi := { dst := some 82, op := _, type := _, pos := _, after := _, guard := _ }) (v := ?_) rfl (by kernel_rfl) (by kernel_rfl) (by kernel_rfl) (fun _ _ _ h => h) (Or.inl ⟨by rfl, ?_⟩) hH ?_
    rotate_left
    · intro wz hSw
      (try dsimp only at hSw)
      first | (go_simp; done) | (go_simp; with_reducible rfl)
    try simp only [Act.put, List.setIfInBounds_toArray, List.set_cons_zero, List.set_cons_succ]
    refine wpAnyH_take (i := 15) (oi := { dst := some 83, op := _, type := _, pos := _, after := _, guard := _ }) (v := ?_) rfl (by kernel_rfl) (by kernel_rfl) (by kernel_rfl) (fun _ _ _ h => h) (Or.inl ⟨by rfl, ?_⟩) hH ?_
    rotate_left
    · intro wz hSw
      (try dsimp only at hSw)
      first | (go_simp; done) | (go_simp; with_reducible rfl)
    try simp only [Act.put, List.setIfInBounds_toArray, List.set_cons_zero, List.set_cons_succ]
    refine wpAnyH_take (i := 16) (oi := { dst := some 4, op := _, type := _, pos := _, after := _, guard := _ }) (v := ?_) rfl (by kernel_rfl) (by kernel_rfl) (by kernel_rfl) (fun _ _ _ h => h) (Or.inl ⟨by rfl, ?_⟩) hH ?_
    rotate_left
    · intro wz hSw
      (try dsimp only at hSw)
      first | (go_simp; done) | (go_simp; with_reducible rfl)
    try simp only [Act.put, List.setIfInBounds_toArray, List.set_cons_zero, List.set_cons_succ]
    refine wpAnyH_done (by kernel_rfl) ?_ _
    refine NoPanic.normal ?_
    have hB := below_step hBs hH
    go_wp2_with fail
    go_ret
    exact ⟨rfl, hB⟩
end Go.Proofs.Ytnmijgnflemhkaa
