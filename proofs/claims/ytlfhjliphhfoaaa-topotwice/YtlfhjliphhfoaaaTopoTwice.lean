/- Proved: for every topology the call TopoTwice(t) returns true (where the topology may not be, nothing is asked). -/
import Derived.Test.YtlfhjliphhfoaaaTopOpen
import Derived.Test.YtlfhjliphhfoaaaTopBuilt
import Derived.Lib.SmallJoins
namespace Go.Proofs.Ytlfhjliphhfoaaa.topoTwice
open Go.ChangeShapes Go.WideShapes Go.ChangeAt Go.RowKit Go.Maps Tp
set_option linter.unusedVariables false
set_option linter.unusedSimpArgs false

set_option maxRecDepth 100000 in
set_option maxHeartbeats 4000000 in
theorem walk (s n : Int) (x : Option Addr) (c : Nat) (l : List Lk)  (w0a : (Lit.int .i64 s).wf = true) (w0b : (Lit.int .i64 n).wf = true)  (w : World) (R : Rds fK 4 w x c l) :
    Calls Try.prog 8 #[.agg #[.int .i64 s, .int .i64 n, .slice x l.length c]] w fun e w' => e = .returned (.bool true) ∧ Below w.heap.size w w' := by
  have hB := below_new w (.cells #[.int .i64 s, .int .i64 n, .slice x l.length c] 24)
  obtain ⟨t0, t1, t2⟩ := box3 w (.int .i64 s) (.int .i64 n) (.slice x l.length c) 24
  have hBT : w.heap.size < (w.alloc (.cells #[.int .i64 s, .int .i64 n, .slice x l.length c] 24)).heap.size := by simp
  replace R := R.later hB
  clear w0a w0b
  have cM := fun w (R : Rds fK 4 w x c l) => may_any s n w R
  cases hm : mayT s n l with
  | false =>
    rw [hm] at cM
    clear hm
    go_enter Try.func8, Try.ntmps8
    go_wp2_with fail
    refine (tawake_any _).mono ?_
    rintro e w1 ⟨rfl, hb⟩
    replace t0 := (hb.cell (p := ⟨w.heap.size, 0, none⟩) hBT).trans t0
    replace t1 := (hb.cell (p := ⟨w.heap.size, 1, none⟩) hBT).trans t1
    replace t2 := (hb.cell (p := ⟨w.heap.size, 2, none⟩) hBT).trans t2
    replace hBT := Nat.lt_of_lt_of_le hBT hb.size
    replace R := R.later hb
    replace hB := below_step hB hb
    clear hb
    go_wp2_with fail
    refine (cM _ R).mono ?_
    rintro e w2 ⟨rfl, hb⟩
    replace t0 := (hb.cell (p := ⟨w.heap.size, 0, none⟩) hBT).trans t0
    replace t1 := (hb.cell (p := ⟨w.heap.size, 1, none⟩) hBT).trans t1
    replace t2 := (hb.cell (p := ⟨w.heap.size, 2, none⟩) hBT).trans t2
    replace hBT := Nat.lt_of_lt_of_le hBT hb.size
    replace R := R.later hb
    replace hB := below_step hB hb
    clear hb
    go_wp2_with fail
    go_ret
    exact ⟨rfl, hB⟩
  | true =>
    rw [hm] at cM
    have hok := ok_of_may hm
    have hlen := hok.2
    have hP0 : 0 ≤ s * n := Int.mul_nonneg (by omega) (by omega)
    have hP1 : s * n ≤ 6 * 8 := Int.mul_le_mul (by omega) (by omega) (by omega) (by omega)
    have hmN := may_none hm
    have hEN := edges_len hmN
    have cN : ∀ w, Calls Try.prog 16 #[.agg #[.int .i64 s, .int .i64 n, .slice none 0 0]] w fun e w' => e = .returned (.bool true) ∧ Below w.heap.size w w' := fun w => by
      have h := may_at s n w (Rds.none fK 4 w) (k := 0) rfl
      rw [hmN] at h
      exact h
    have cEN := fun w => edges_at s n w (Rds.none fK 4 w) (k := 0) rfl (by decide)
    generalize edges s n [] = LN at hEN cEN
    generalize hP : s * n = P at hP0 hP1 hEN
    have HE : Hid ((LN.length : Int) = P) := by show _ = _; rw [hEN]; simp
    clear hEN hmN hok
    by_cases hl0 : l.length = 0
    case pos =>
      have hz : ((l.length : Int) == 0) = true := by rw [beq_iff_eq]; omega
      have hz2 : (l.length : Int) = 0 := by omega
      have HZ : Hid (l.length = 0) := hl0
      clear hl0 hz
      go_enter Try.func8, Try.ntmps8
      go_wp2_with fail
      refine (tawake_any _).mono ?_
      rintro e w1 ⟨rfl, hb⟩
      replace t0 := (hb.cell (p := ⟨w.heap.size, 0, none⟩) hBT).trans t0
      replace t1 := (hb.cell (p := ⟨w.heap.size, 1, none⟩) hBT).trans t1
      replace t2 := (hb.cell (p := ⟨w.heap.size, 2, none⟩) hBT).trans t2
      replace hBT := Nat.lt_of_lt_of_le hBT hb.size
      replace R := R.later hb
      replace hB := below_step hB hb
      clear hb
      go_wp2_with fail
      refine (cM _ R).mono ?_
      clear cM
      rintro e w2 ⟨rfl, hb⟩
      replace t0 := (hb.cell (p := ⟨w.heap.size, 0, none⟩) hBT).trans t0
      replace t1 := (hb.cell (p := ⟨w.heap.size, 1, none⟩) hBT).trans t1
      replace t2 := (hb.cell (p := ⟨w.heap.size, 2, none⟩) hBT).trans t2
      replace hBT := Nat.lt_of_lt_of_le hBT hb.size
      replace R := R.later hb
      replace hB := below_step hB hb
      clear hb
      have Xn := Tbox.new w2 s n (.slice none 0 0) 24
      have hb := below_new w2 (.cells #[.int .i64 s, .int .i64 n, .slice none 0 0] 24)
      go_wp2_with fail
      replace t0 := (hb.cell (p := ⟨w.heap.size, 0, none⟩) hBT).trans t0
      replace t1 := (hb.cell (p := ⟨w.heap.size, 1, none⟩) hBT).trans t1
      replace t2 := (hb.cell (p := ⟨w.heap.size, 2, none⟩) hBT).trans t2
      replace hBT := Nat.lt_of_lt_of_le hBT hb.size
      replace R := R.later hb
      replace hB := below_step hB hb
      clear hb
      generalize w2.alloc (.cells #[.int .i64 s, .int .i64 n, .slice none 0 0] 24) = W6 at Xn t0 t1 t2 hBT R hB ⊢
      generalize w2.heap.size = N at Xn ⊢
      have S0 : Below W6.heap.size W6 W6.drew := (Below.refl _ _).drew
      refine wp_region_noPanic ?_
      refine wp_region_held_drew (S := fun w' => Below W6.heap.size W6 w') (by kernel_rfl) S0 (fun hH => ?_)
      clear S0
      generalize W6.drew = W6d at hH  ⊢
      refine wpAnyH_take (i := 0) (oi := { dst := some 17, op := _, type := _, pos := _, after := _, guard := _ }) (v := ?_) rfl (by kernel_rfl) (by kernel_rfl) (by kernel_rfl) (fun _ _ _ h => h) (Or.inl ⟨by rfl, ?_⟩) hH ?_
      rotate_left
      · intro wz hSw
        (try dsimp only at hSw)
        have zX := Xn.later hSw
        have z0 := zX.c0
        have z1 := zX.c1
        have z2 := zX.c2
        clear zX
        first | (go_simp; done) | (go_simp; with_reducible rfl)
      try simp only [Act.put, List.setIfInBounds_toArray, List.set_cons_zero, List.set_cons_succ]
      refine wpAnyH_ready (rs := [1]) (by kernel_rfl) (by simp) ?_
      refine (AllReadyH.cons (o := { dst := some 18, op := _, type := _, pos := _, after := _, guard := _ }) rfl (fun K hK => ?_) AllReadyH.nil)
      go_simp
      refine (cN _).mono ?_
      rintro e W61x0 ⟨rfl, hb⟩
      have hn : Below W6.heap.size W6 W61x0 := below_step hH hb
      clear hb
      go_wp2_with fail
      refine hK.out _ _ hn (fun hH2 => ?_)
      clear hK K hH hn
      have hH := hH2
      clear hH2
      try simp only [Act.put, List.setIfInBounds_toArray, List.set_cons_zero, List.set_cons_succ]
      refine wpAnyH_take (i := 2) (oi := { dst := some 19, op := _, type := _, pos := _, after := _, guard := _ }) (v := ?_) rfl (by kernel_rfl) (by kernel_rfl) (by kernel_rfl) (fun _ _ _ h => h) (Or.inl ⟨by rfl, ?_⟩) hH ?_
      rotate_left
      · intro wz hSw
        (try dsimp only at hSw)
        first | (go_simp; done) | (go_simp; with_reducible rfl)
      try simp only [Act.put, List.setIfInBounds_toArray, List.set_cons_zero, List.set_cons_succ]
      refine wpAnyH_take (i := 3) (oi := { dst := some 20, op := _, type := _, pos := _, after := _, guard := _ }) (v := ?_) rfl (by kernel_rfl) (by kernel_rfl) (by kernel_rfl) (fun _ _ _ h => h) (Or.inl ⟨by rfl, ?_⟩) hH ?_
      rotate_left
      · intro wz hSw
        (try dsimp only at hSw)
        first | (go_simp; done) | (go_simp; with_reducible rfl)
      try simp only [Act.put, List.setIfInBounds_toArray, List.set_cons_zero, List.set_cons_succ]
      refine wpAnyH_take (i := 4) (oi := { dst := some 21, op := _, type := _, pos := _, after := _, guard := _ }) (v := ?_) rfl (by kernel_rfl) (by kernel_rfl) (by kernel_rfl) (fun _ _ _ h => h) (Or.inl ⟨by rfl, ?_⟩) hH ?_
      rotate_left
      · intro wz hSw
        (try dsimp only at hSw)
        have zX := Xn.later hSw
        have z0 := zX.c0
        have z1 := zX.c1
        have z2 := zX.c2
        clear zX
        first | (go_simp; done) | (go_simp; with_reducible rfl)
      try simp only [Act.put, List.setIfInBounds_toArray, List.set_cons_zero, List.set_cons_succ]
      refine wpAnyH_take (i := 7) (oi := { dst := some 24, op := _, type := _, pos := _, after := _, guard := _ }) (v := ?_) rfl (by kernel_rfl) (by kernel_rfl) (by kernel_rfl) (fun _ _ _ h => h) (Or.inl ⟨by rfl, ?_⟩) hH ?_
      rotate_left
      · intro wz hSw
        (try dsimp only at hSw)
        first | (go_simp; done) | (go_simp; with_reducible rfl)
      try simp only [Act.put, List.setIfInBounds_toArray, List.set_cons_zero, List.set_cons_succ]
      refine wpAnyH_take (i := 9) (oi := { dst := some 26, op := _, type := _, pos := _, after := _, guard := _ }) (v := ?_) rfl (by kernel_rfl) (by kernel_rfl) (by kernel_rfl) (fun _ _ _ h => h) (Or.inl ⟨by rfl, ?_⟩) hH ?_
      rotate_left
      · intro wz hSw
        (try dsimp only at hSw)
        first | (go_simp; done) | (go_simp; with_reducible rfl)
      try simp only [Act.put, List.setIfInBounds_toArray, List.set_cons_zero, List.set_cons_succ]
      refine wpAnyH_take (i := 8) (oi := { dst := some 25, op := _, type := _, pos := _, after := _, guard := _ }) (v := ?_) rfl (by kernel_rfl) (by kernel_rfl) (by kernel_rfl) (fun _ _ _ h => h) (Or.inl ⟨by rfl, ?_⟩) hH ?_
      rotate_left
      · intro wz hSw
        (try dsimp only at hSw)
        have z0 := (hSw.cell (p := ⟨w.heap.size, 0, none⟩) hBT).trans t0
        first | (go_simp; done) | (go_simp; with_reducible rfl)
      try simp only [Act.put, List.setIfInBounds_toArray, List.set_cons_zero, List.set_cons_succ]
      refine wpAnyH_take (i := 10) (oi := { dst := some 27, op := _, type := _, pos := _, after := _, guard := _ }) (v := ?_) rfl (by kernel_rfl) (by kernel_rfl) (by kernel_rfl) (fun _ _ _ h => h) (Or.inl ⟨by rfl, ?_⟩) hH ?_
      rotate_left
      · intro wz hSw
        (try dsimp only at hSw)
        have z1 := (hSw.cell (p := ⟨w.heap.size, 1, none⟩) hBT).trans t1
        first | (go_simp; done) | (go_simp; with_reducible rfl)
      try simp only [Act.put, List.setIfInBounds_toArray, List.set_cons_zero, List.set_cons_succ]
      refine wpAnyH_take (i := 11) (oi := { dst := some 28, op := _, type := _, pos := _, after := _, guard := _ }) (v := ?_) rfl (by kernel_rfl) (by kernel_rfl) (by kernel_rfl) (fun _ _ _ h => h) (Or.inl ⟨by rfl, ?_⟩) hH ?_
      rotate_left
      · intro wz hSw
        (try dsimp only at hSw)
        first | (go_simp; done) | (go_simp; with_reducible rfl)
      try simp only [Act.put, List.setIfInBounds_toArray, List.set_cons_zero, List.set_cons_succ]
      refine wpAnyH_ready (rs := [5]) (by kernel_rfl) (by simp) ?_
      refine (AllReadyH.cons (o := { dst := some 22, op := _, type := _, pos := _, after := _, guard := _ }) rfl (fun K hK => ?_) AllReadyH.nil)
      go_simp
      refine (cEN _).mono ?_
      rintro e W65x1 ⟨y, k, rfl, hb⟩
      have hn : Below W6.heap.size W6 W65x1 := below_step hH hb
      clear hb
      go_wp2_with fail
      refine hK.out _ _ hn (fun hH2 => ?_)
      clear hK K hH hn
      have hH := hH2
      clear hH2
      try simp only [Act.put, List.setIfInBounds_toArray, List.set_cons_zero, List.set_cons_succ]
      refine wpAnyH_take (i := 6) (oi := { dst := some 23, op := _, type := _, pos := _, after := _, guard := _ }) (v := ?_) rfl (by kernel_rfl) (by kernel_rfl) (by kernel_rfl) (fun _ _ _ h => h) (Or.inl ⟨by rfl, ?_⟩) hH ?_
      rotate_left
      · intro wz hSw
        (try dsimp only at hSw)
        first | (go_simp; done) | (go_simp; with_reducible rfl)
      try simp only [Act.put, List.setIfInBounds_toArray, List.set_cons_zero, List.set_cons_succ]
      refine wpAnyH_take (i := 12) (oi := { dst := some 29, op := _, type := _, pos := _, after := _, guard := _ }) (v := ?_) rfl (by kernel_rfl) (by kernel_rfl) (by kernel_rfl) (fun _ _ _ h => h) (Or.inl ⟨by rfl, ?_⟩) hH ?_
      rotate_left
      · intro wz hSw
        (try dsimp only at hSw)
        have hE := HE.out
        have k1 : IntKind.i64.wrap P = P := by rw [IntKind.wrap_i64]; omega
        first | (go_simp; done) | (go_simp; with_reducible rfl)
      try simp only [Act.put, List.setIfInBounds_toArray, List.set_cons_zero, List.set_cons_succ]
      refine wpAnyH_take (i := 13) (oi := { dst := some 30, op := _, type := _, pos := _, after := _, guard := _ }) (v := ?_) rfl (by kernel_rfl) (by kernel_rfl) (by kernel_rfl) (fun _ _ _ h => h) (Or.inl ⟨by rfl, ?_⟩) hH ?_
      rotate_left
      · intro wz hSw
        (try dsimp only at hSw)
        first | (go_simp; done) | (go_simp; with_reducible rfl)
      try simp only [Act.put, List.setIfInBounds_toArray, List.set_cons_zero, List.set_cons_succ]
      refine wpAnyH_done (by kernel_rfl) ?_ _
      refine NoPanic.normal ?_
      have hb := hH
      generalize W65x1 = V6 at hb ⊢
      clear hH
      replace t0 := (hb.cell (p := ⟨w.heap.size, 0, none⟩) hBT).trans t0
      replace t1 := (hb.cell (p := ⟨w.heap.size, 1, none⟩) hBT).trans t1
      replace t2 := (hb.cell (p := ⟨w.heap.size, 2, none⟩) hBT).trans t2
      replace hBT := Nat.lt_of_lt_of_le hBT hb.size
      replace R := R.later hb
      replace hB := below_step hB hb
      clear hb Xn cN cEN
      have hE := HE.out
      have k1 : IntKind.i64.wrap P = P := by rw [IntKind.wrap_i64]; omega
      go_wp2_with fail
      go_ret
      exact ⟨rfl, hB⟩
    case neg =>
      have hz : ((l.length : Int) == 0) = false := by rw [beq_eq_false_iff_ne]; omega
      have hpos : 0 < l.length := by omega
      have HW : Hid (mayT s n l = true) := hm
      clear hl0
      go_enter Try.func8, Try.ntmps8
      go_wp2_with fail
      refine (tawake_any _).mono ?_
      rintro e w1 ⟨rfl, hb⟩
      replace t0 := (hb.cell (p := ⟨w.heap.size, 0, none⟩) hBT).trans t0
      replace t1 := (hb.cell (p := ⟨w.heap.size, 1, none⟩) hBT).trans t1
      replace t2 := (hb.cell (p := ⟨w.heap.size, 2, none⟩) hBT).trans t2
      replace hBT := Nat.lt_of_lt_of_le hBT hb.size
      replace R := R.later hb
      replace hB := below_step hB hb
      clear hb
      go_wp2_with fail
      refine (cM _ R).mono ?_
      clear cM
      rintro e w2 ⟨rfl, hb⟩
      replace t0 := (hb.cell (p := ⟨w.heap.size, 0, none⟩) hBT).trans t0
      replace t1 := (hb.cell (p := ⟨w.heap.size, 1, none⟩) hBT).trans t1
      replace t2 := (hb.cell (p := ⟨w.heap.size, 2, none⟩) hBT).trans t2
      replace hBT := Nat.lt_of_lt_of_le hBT hb.size
      replace R := R.later hb
      replace hB := below_step hB hb
      clear hb
      have Xn := Tbox.new w2 s n (.slice none 0 0) 24
      have hb := below_new w2 (.cells #[.int .i64 s, .int .i64 n, .slice none 0 0] 24)
      go_wp2_with fail
      replace t0 := (hb.cell (p := ⟨w.heap.size, 0, none⟩) hBT).trans t0
      replace t1 := (hb.cell (p := ⟨w.heap.size, 1, none⟩) hBT).trans t1
      replace t2 := (hb.cell (p := ⟨w.heap.size, 2, none⟩) hBT).trans t2
      replace hBT := Nat.lt_of_lt_of_le hBT hb.size
      replace R := R.later hb
      replace hB := below_step hB hb
      clear hb
      generalize w2.alloc (.cells #[.int .i64 s, .int .i64 n, .slice none 0 0] 24) = W6 at Xn t0 t1 t2 hBT R hB ⊢
      generalize w2.heap.size = N at Xn ⊢
      have S0 : Below W6.heap.size W6 W6.drew := (Below.refl _ _).drew
      refine wp_region_noPanic ?_
      refine wp_region_held_drew (S := fun w' => Below W6.heap.size W6 w') (by kernel_rfl) S0 (fun hH => ?_)
      clear S0
      generalize W6.drew = W6d at hH  ⊢
      refine wpAnyH_take (i := 0) (oi := { dst := some 17, op := _, type := _, pos := _, after := _, guard := _ }) (v := ?_) rfl (by kernel_rfl) (by kernel_rfl) (by kernel_rfl) (fun _ _ _ h => h) (Or.inl ⟨by rfl, ?_⟩) hH ?_
      rotate_left
      · intro wz hSw
        (try dsimp only at hSw)
        have zX := Xn.later hSw
        have z0 := zX.c0
        have z1 := zX.c1
        have z2 := zX.c2
        clear zX
        first | (go_simp; done) | (go_simp; with_reducible rfl)
      try simp only [Act.put, List.setIfInBounds_toArray, List.set_cons_zero, List.set_cons_succ]
      refine wpAnyH_ready (rs := [1]) (by kernel_rfl) (by simp) ?_
      refine (AllReadyH.cons (o := { dst := some 18, op := _, type := _, pos := _, after := _, guard := _ }) rfl (fun K hK => ?_) AllReadyH.nil)
      go_simp
      refine (cN _).mono ?_
      rintro e W61x0 ⟨rfl, hb⟩
      have hn : Below W6.heap.size W6 W61x0 := below_step hH hb
      clear hb
      go_wp2_with fail
      refine hK.out _ _ hn (fun hH2 => ?_)
      clear hK K hH hn
      have hH := hH2
      clear hH2
      try simp only [Act.put, List.setIfInBounds_toArray, List.set_cons_zero, List.set_cons_succ]
      refine wpAnyH_take (i := 2) (oi := { dst := some 19, op := _, type := _, pos := _, after := _, guard := _ }) (v := ?_) rfl (by kernel_rfl) (by kernel_rfl) (by kernel_rfl) (fun _ _ _ h => h) (Or.inl ⟨by rfl, ?_⟩) hH ?_
      rotate_left
      · intro wz hSw
        (try dsimp only at hSw)
        first | (go_simp; done) | (go_simp; with_reducible rfl)
      try simp only [Act.put, List.setIfInBounds_toArray, List.set_cons_zero, List.set_cons_succ]
      refine wpAnyH_take (i := 3) (oi := { dst := some 20, op := _, type := _, pos := _, after := _, guard := _ }) (v := ?_) rfl (by kernel_rfl) (by kernel_rfl) (by kernel_rfl) (fun _ _ _ h => h) (Or.inl ⟨by rfl, ?_⟩) hH ?_
      rotate_left
      · intro wz hSw
        (try dsimp only at hSw)
        first | (go_simp; done) | (go_simp; with_reducible rfl)
      try simp only [Act.put, List.setIfInBounds_toArray, List.set_cons_zero, List.set_cons_succ]
      refine wpAnyH_take (i := 4) (oi := { dst := some 21, op := _, type := _, pos := _, after := _, guard := _ }) (v := ?_) rfl (by kernel_rfl) (by kernel_rfl) (by kernel_rfl) (fun _ _ _ h => h) (Or.inl ⟨by rfl, ?_⟩) hH ?_
      rotate_left
      · intro wz hSw
        (try dsimp only at hSw)
        have zX := Xn.later hSw
        have z0 := zX.c0
        have z1 := zX.c1
        have z2 := zX.c2
        clear zX
        first | (go_simp; done) | (go_simp; with_reducible rfl)
      try simp only [Act.put, List.setIfInBounds_toArray, List.set_cons_zero, List.set_cons_succ]
      refine wpAnyH_take (i := 7) (oi := { dst := some 24, op := _, type := _, pos := _, after := _, guard := _ }) (v := ?_) rfl (by kernel_rfl) (by kernel_rfl) (by kernel_rfl) (fun _ _ _ h => h) (Or.inl ⟨by rfl, ?_⟩) hH ?_
      rotate_left
      · intro wz hSw
        (try dsimp only at hSw)
        first | (go_simp; done) | (go_simp; with_reducible rfl)
      try simp only [Act.put, List.setIfInBounds_toArray, List.set_cons_zero, List.set_cons_succ]
      refine wpAnyH_take (i := 9) (oi := { dst := some 26, op := _, type := _, pos := _, after := _, guard := _ }) (v := ?_) rfl (by kernel_rfl) (by kernel_rfl) (by kernel_rfl) (fun _ _ _ h => h) (Or.inl ⟨by rfl, ?_⟩) hH ?_
      rotate_left
      · intro wz hSw
        (try dsimp only at hSw)
        first | (go_simp; done) | (go_simp; with_reducible rfl)
      try simp only [Act.put, List.setIfInBounds_toArray, List.set_cons_zero, List.set_cons_succ]
      refine wpAnyH_take (i := 8) (oi := { dst := some 25, op := _, type := _, pos := _, after := _, guard := _ }) (v := ?_) rfl (by kernel_rfl) (by kernel_rfl) (by kernel_rfl) (fun _ _ _ h => h) (Or.inl ⟨by rfl, ?_⟩) hH ?_
      rotate_left
      · intro wz hSw
        (try dsimp only at hSw)
        have z0 := (hSw.cell (p := ⟨w.heap.size, 0, none⟩) hBT).trans t0
        first | (go_simp; done) | (go_simp; with_reducible rfl)
      try simp only [Act.put, List.setIfInBounds_toArray, List.set_cons_zero, List.set_cons_succ]
      refine wpAnyH_take (i := 10) (oi := { dst := some 27, op := _, type := _, pos := _, after := _, guard := _ }) (v := ?_) rfl (by kernel_rfl) (by kernel_rfl) (by kernel_rfl) (fun _ _ _ h => h) (Or.inl ⟨by rfl, ?_⟩) hH ?_
      rotate_left
      · intro wz hSw
        (try dsimp only at hSw)
        have z1 := (hSw.cell (p := ⟨w.heap.size, 1, none⟩) hBT).trans t1
        first | (go_simp; done) | (go_simp; with_reducible rfl)
      try simp only [Act.put, List.setIfInBounds_toArray, List.set_cons_zero, List.set_cons_succ]
      refine wpAnyH_take (i := 11) (oi := { dst := some 28, op := _, type := _, pos := _, after := _, guard := _ }) (v := ?_) rfl (by kernel_rfl) (by kernel_rfl) (by kernel_rfl) (fun _ _ _ h => h) (Or.inl ⟨by rfl, ?_⟩) hH ?_
      rotate_left
      · intro wz hSw
        (try dsimp only at hSw)
        first | (go_simp; done) | (go_simp; with_reducible rfl)
      try simp only [Act.put, List.setIfInBounds_toArray, List.set_cons_zero, List.set_cons_succ]
      refine wpAnyH_ready (rs := [5]) (by kernel_rfl) (by simp) ?_
      refine (AllReadyH.cons (o := { dst := some 22, op := _, type := _, pos := _, after := _, guard := _ }) rfl (fun K hK => ?_) AllReadyH.nil)
      go_simp
      refine (cEN _).mono ?_
      rintro e W65x1 ⟨y, k, rfl, hb⟩
      have hn : Below W6.heap.size W6 W65x1 := below_step hH hb
      clear hb
      go_wp2_with fail
      refine hK.out _ _ hn (fun hH2 => ?_)
      clear hK K hH hn
      have hH := hH2
      clear hH2
      try simp only [Act.put, List.setIfInBounds_toArray, List.set_cons_zero, List.set_cons_succ]
      refine wpAnyH_take (i := 6) (oi := { dst := some 23, op := _, type := _, pos := _, after := _, guard := _ }) (v := ?_) rfl (by kernel_rfl) (by kernel_rfl) (by kernel_rfl) (fun _ _ _ h => h) (Or.inl ⟨by rfl, ?_⟩) hH ?_
      rotate_left
      · intro wz hSw
        (try dsimp only at hSw)
        first | (go_simp; done) | (go_simp; with_reducible rfl)
      try simp only [Act.put, List.setIfInBounds_toArray, List.set_cons_zero, List.set_cons_succ]
      refine wpAnyH_take (i := 12) (oi := { dst := some 29, op := _, type := _, pos := _, after := _, guard := _ }) (v := ?_) rfl (by kernel_rfl) (by kernel_rfl) (by kernel_rfl) (fun _ _ _ h => h) (Or.inl ⟨by rfl, ?_⟩) hH ?_
      rotate_left
      · intro wz hSw
        (try dsimp only at hSw)
        have hE := HE.out
        have k1 : IntKind.i64.wrap P = P := by rw [IntKind.wrap_i64]; omega
        first | (go_simp; done) | (go_simp; with_reducible rfl)
      try simp only [Act.put, List.setIfInBounds_toArray, List.set_cons_zero, List.set_cons_succ]
      refine wpAnyH_take (i := 13) (oi := { dst := some 30, op := _, type := _, pos := _, after := _, guard := _ }) (v := ?_) rfl (by kernel_rfl) (by kernel_rfl) (by kernel_rfl) (fun _ _ _ h => h) (Or.inl ⟨by rfl, ?_⟩) hH ?_
      rotate_left
      · intro wz hSw
        (try dsimp only at hSw)
        first | (go_simp; done) | (go_simp; with_reducible rfl)
      try simp only [Act.put, List.setIfInBounds_toArray, List.set_cons_zero, List.set_cons_succ]
      refine wpAnyH_done (by kernel_rfl) ?_ _
      refine NoPanic.normal ?_
      have hb := hH
      generalize W65x1 = V6 at hb ⊢
      clear hH
      replace t0 := (hb.cell (p := ⟨w.heap.size, 0, none⟩) hBT).trans t0
      replace t1 := (hb.cell (p := ⟨w.heap.size, 1, none⟩) hBT).trans t1
      replace t2 := (hb.cell (p := ⟨w.heap.size, 2, none⟩) hBT).trans t2
      replace hBT := Nat.lt_of_lt_of_le hBT hb.size
      replace R := R.later hb
      replace hB := below_step hB hb
      clear hb Xn cN cEN
      have hE := HE.out
      have k1 : IntKind.i64.wrap P = P := by rw [IntKind.wrap_i64]; omega
      go_wp2_with fail
      clear k1 hE HE hP0 hP1 hP hz
      obtain ⟨r, hr⟩ : ∃ r, l[0]? = some r := ⟨l[0], List.getElem?_eq_getElem hpos⟩
      have HT : Hid (mayT s n (l ++ [r]) = false) := may_twice s n l (List.mem_of_getElem? hr)
      have hwr := R.wf r (List.mem_of_getElem? hr)
      have hwa : ∀ y ∈ l ++ [r], ∀ z ∈ fK y, (Lit.int .i64 z).wf = true := by
        intro y hy
        rcases List.mem_append.1 hy with hy | hy
        · exact R.wf y hy
        · rw [List.mem_singleton.1 hy]; exact hwr
      obtain ⟨b, o, rfl, hbb, hc⟩ := R.at hr
      obtain ⟨ka, kp, kb, kq⟩ := r
      have v0 := hc 0 _ rfl
      have v1 := hc 1 _ rfl
      have v2 := hc 2 _ rfl
      have v3 := hc 3 _ rfl
      simp only [Nat.zero_mul, Nat.add_zero] at v0 v1 v2 v3
      clear hc hr hm HW
      have hz0 : (0 : Int) < (l.length : Int) := by omega
      have hn0 := below_new V6 (.cells #[.int .i64 s, .int .i64 n, .slice (some ⟨b, o, none⟩) l.length c] 24)
      have X := Tbox.new V6 s n (.slice (some ⟨b, o, none⟩) l.length c) 24
      have RW := R.later hn0
      have hU : V6.heap.size ≤ V6.heap.size := Nat.le_refl _
      generalize V6.alloc (.cells #[.int .i64 s, .int .i64 n, .slice (some ⟨b, o, none⟩) l.length c] 24) = W at hn0 X RW ⊢
      have S0 : Below V6.heap.size V6 W.drew := hn0.drew
      have hX : Below W.heap.size W W.drew := (Below.refl _ _).drew
      refine wp_region_noPanic ?_
      refine wp_region_held_drew (S := fun w' => Below V6.heap.size V6 w') (by kernel_rfl) S0 (fun hH => ?_)
      clear S0
      generalize W.drew = Wd at hH hX ⊢
      refine wpAnyH_take (i := 0) (oi := { dst := some 36, op := _, type := _, pos := _, after := _, guard := _ }) (v := ?_) rfl (by kernel_rfl) (by kernel_rfl) (by kernel_rfl) (fun _ _ _ h => h) (Or.inl ⟨by rfl, ?_⟩) hH ?_
      rotate_left
      · intro wz hSw
        (try dsimp only at hSw)
        first | (go_simp; done) | (go_simp; with_reducible rfl)
      try simp only [Act.put, List.setIfInBounds_toArray, List.set_cons_zero, List.set_cons_succ]
      refine wpAnyH_take (i := 1) (oi := { dst := some 37, op := _, type := _, pos := _, after := _, guard := _ }) (v := ?_) rfl (by kernel_rfl) (by kernel_rfl) (by kernel_rfl) (fun _ _ _ h => h) (Or.inl ⟨by rfl, ?_⟩) hH ?_
      rotate_left
      · intro wz hSw
        (try dsimp only at hSw)
        have z2 := (hSw.cell (p := ⟨w.heap.size, 2, none⟩) hBT).trans t2
        first | (go_simp; done) | (go_simp; with_reducible rfl)
      try simp only [Act.put, List.setIfInBounds_toArray, List.set_cons_zero, List.set_cons_succ]
      refine wpAnyH_take (i := 3) (oi := { dst := some 39, op := _, type := _, pos := _, after := _, guard := _ }) (v := ?_) rfl (by kernel_rfl) (by kernel_rfl) (by kernel_rfl) (fun _ _ _ h => h) (Or.inl ⟨by rfl, ?_⟩) hH ?_
      rotate_left
      · intro wz hSw
        (try dsimp only at hSw)
        first | (go_simp; done) | (go_simp; with_reducible rfl)
      try simp only [Act.put, List.setIfInBounds_toArray, List.set_cons_zero, List.set_cons_succ]
      refine wpAnyH_take (i := 4) (oi := { dst := some 40, op := _, type := _, pos := _, after := _, guard := _ }) (v := ?_) rfl (by kernel_rfl) (by kernel_rfl) (by kernel_rfl) (fun _ _ _ h => h) (Or.inl ⟨by rfl, ?_⟩) hH ?_
      rotate_left
      · intro wz hSw
        (try dsimp only at hSw)
        have z2 := (hSw.cell (p := ⟨w.heap.size, 2, none⟩) hBT).trans t2
        first | (go_simp; done) | (go_simp; with_reducible rfl)
      try simp only [Act.put, List.setIfInBounds_toArray, List.set_cons_zero, List.set_cons_succ]
      refine wpAnyH_take (i := 5) (oi := { dst := some 41, op := _, type := _, pos := _, after := _, guard := _ }) (v := ?_) rfl (by kernel_rfl) (by kernel_rfl) (by kernel_rfl) (fun _ _ _ h => h) (Or.inl ⟨by rfl, ?_⟩) hH ?_
      rotate_left
      · intro wz hSw
        (try dsimp only at hSw)
        first | (go_simp; done) | (go_simp; with_reducible rfl)
      try simp only [Act.put, List.setIfInBounds_toArray, List.set_cons_zero, List.set_cons_succ]
      refine wpAnyH_take (i := 6) (oi := { dst := some 42, op := _, type := _, pos := _, after := _, guard := _ }) (v := ?_) rfl (by kernel_rfl) (by kernel_rfl) (by kernel_rfl) (fun _ _ _ h => h) (Or.inl ⟨by rfl, ?_⟩) hH ?_
      rotate_left
      · intro wz hSw
        (try dsimp only at hSw)
        have y0 := (hSw.cell (p := ⟨b, o, none⟩) hbb).trans v0
        have y1 := (hSw.cell (p := ⟨b, o + 1, none⟩) hbb).trans v1
        have y2 := (hSw.cell (p := ⟨b, o + 2, none⟩) hbb).trans v2
        have y3 := (hSw.cell (p := ⟨b, o + 3, none⟩) hbb).trans v3
        first | (go_simp; done) | (go_simp; with_reducible rfl)
      try simp only [Act.put, List.setIfInBounds_toArray, List.set_cons_zero, List.set_cons_succ]
      refine wpAnyH_ready (rs := [2, 7]) (by kernel_rfl) (by simp) ?_
      refine (AllReadyH.cons (o := { dst := some 38, op := _, type := _, pos := _, after := _, guard := _ }) rfl (fun K hK => ?_) (AllReadyH.cons (o := { dst := some 43, op := _, type := _, pos := _, after := _, guard := _ }) rfl (fun K hK => ?_) AllReadyH.nil))
      · have hsz := hX.size
        refine stepRds_join fK_len (by decide) (by rfl) (.const (.slice none 0 0)) (.tmp 37) 22 (by rfl) W.heap.size 34 32 _ Try.underlying22 infoK rfl (v := .slice none 0 0) (n := 0) (ys := []) (by rfl) (World.ownsRow_nil _ _ _ _) (by rfl) (RW.later hX) rfl (by omega) (by decide) hsz ?_
        intro vV2 V2 ownV2 hgV2
        simp only [Nat.zero_add, List.nil_append] at ownV2
        have hb := below_fresh (B := Wd.heap.size) hgV2 (Nat.le_refl _)
        have hn := below_step hH hb
        clear hgV2
        replace hX := below_step hX hb
        clear hb
        refine hK.out _ _ hn (fun hH2 => ?_)
        clear hK K hH hn
        have hH := hH2
        clear hH2
        try simp only [Act.put, List.setIfInBounds_toArray, List.set_cons_zero, List.set_cons_succ]
        refine wpAnyH_ready (rs := [7]) (by kernel_rfl) (by simp) ?_
        refine (AllReadyH.cons (o := { dst := some 43, op := _, type := _, pos := _, after := _, guard := _ }) rfl (fun K hK => ?_) AllReadyH.nil)
        go_simp
        have hb := below_new V2 (.cells #[.int .i64 ka, .int .i64 kp, .int .i64 kb, .int .i64 kq] 34)
        have hn := below_step hH hb
        have RB : Rds fK 4 (V2.alloc (.cells #[.int .i64 ka, .int .i64 kp, .int .i64 kb, .int .i64 kq] 34)) (some ⟨V2.heap.size, 0, none⟩) 1 [⟨ka, kp, kb, kq⟩] := rds_new fK_len V2 ⟨ka, kp, kb, kq⟩ 34 hwr rfl
        replace ownV2 := own_laterR ownV2 hb
        replace hX := below_step hX hb
        clear hb
        generalize V2.alloc (.cells #[.int .i64 ka, .int .i64 kp, .int .i64 kb, .int .i64 kq] 34) = V7 at hn RB ownV2 hX ⊢
        refine hK.out _ _ hn (fun hH2 => ?_)
        clear hK K hH hn
        have hH := hH2
        clear hH2
        try simp only [Act.put, List.setIfInBounds_toArray, List.set_cons_zero, List.set_cons_succ]
        refine wpAnyH_ready (rs := [8]) (by kernel_rfl) (by simp) ?_
        refine (AllReadyH.cons (o := { dst := some 44, op := _, type := _, pos := _, after := _, guard := _ }) rfl (fun K hK => ?_) AllReadyH.nil)
        have hsz := hX.size
        refine stepRds_join fK_len (by decide) (by rfl) (.tmp 38) (.tmp 43) 22 (by rfl) W.heap.size 34 32 _ Try.underlying22 infoK rfl (by rfl) ownV2 (m := 1) (by rfl) RB rfl (by omega) (by decide) hsz ?_
        intro vV8 V8 ownV8 hgV8
        have hX2 := below_growR hX ownV2 hgV8 hsz
        have hn := below_step hn0 hX2
        clear hgV8
        replace hX := hX2
        clear hX2
        refine hK.out _ _ hn (fun hH2 => ?_)
        clear hK K hH hn
        have hH := hH2
        clear hH2
        try simp only [Act.put, List.setIfInBounds_toArray, List.set_cons_zero, List.set_cons_succ]
        refine wpAnyH_take (i := 9) (oi := { dst := some 45, op := _, type := _, pos := _, after := _, guard := _ }) (v := ?_) rfl (by kernel_rfl) (by kernel_rfl) (by kernel_rfl) (fun _ _ _ h => h) (Or.inl ⟨by rfl, ?_⟩) hH ?_
        rotate_left
        · intro wz hSw
          (try dsimp only at hSw)
          first | (go_simp; done) | (go_simp; with_reducible rfl)
        try simp only [Act.put, List.setIfInBounds_toArray, List.set_cons_zero, List.set_cons_succ]
        refine wpAnyH_ready (rs := [10]) (by kernel_rfl) (by simp) ?_
        refine (AllReadyH.cons (o := { dst := none, op := _, type := _, pos := _, after := _, guard := _ }) rfl (fun K hK => ?_) AllReadyH.nil)
        obtain ⟨a8, k8, rfl, R8, hx8⟩ := rds_of_owns2 fK_len ownV8 (by simp) hwa
        have XC := X.later hX
        obtain ⟨xl, x0, x1, x2, xf⟩ := XC
        go_simp
        have hn : Below V6.heap.size V6 (V8.setCell ⟨V6.heap.size, 2, none⟩ (.slice a8 (l.length + 1) k8)) := (below_step hn0 hX).setCell (p := ⟨V6.heap.size, 2, none⟩) hU _
        have X9 := (X.later hX).put (.slice a8 (l.length + 1) k8)
        replace R8 := rds_setCell (U := V6.heap.size) (j := 2) R8 (fun y hy => by have h := (hx8 y hy).1; have h2 := X.lt; omega) (.slice a8 (l.length + 1) k8)
        clear x0 x1 x2 xf xl hx8 ownV8
        generalize V8.setCell ⟨V6.heap.size, 2, none⟩ (.slice a8 (l.length + 1) k8) = V9 at hn X9 R8 ⊢
        clear hX
        refine hK.out _ _ hn (fun hH2 => ?_)
        clear hK K hH hn
        have hH := hH2
        clear hH2
        try simp only [Act.put, List.setIfInBounds_toArray, List.set_cons_zero, List.set_cons_succ]
        refine wpAnyH_done (by kernel_rfl) ?_ _
        refine NoPanic.normal ?_
        replace hB := below_step hB hH
        have cT := may_at s n _ R8 (k := l.length + 1) (by simp)
        rw [HT.out] at cT
        obtain ⟨xl, x0, x1, x2, xf⟩ := X9
        clear R8 hwa hwr
        go_wp2_with fail
        refine cT.mono ?_
        clear cT
        rintro e w9 ⟨rfl, hb⟩
        replace hB := below_step hB hb
        go_wp2_with fail
        go_ret
        exact ⟨rfl, hB⟩
      · go_simp
        have hb := below_new Wd (.cells #[.int .i64 ka, .int .i64 kp, .int .i64 kb, .int .i64 kq] 34)
        have hn := below_step hH hb
        have RB : Rds fK 4 (Wd.alloc (.cells #[.int .i64 ka, .int .i64 kp, .int .i64 kb, .int .i64 kq] 34)) (some ⟨Wd.heap.size, 0, none⟩) 1 [⟨ka, kp, kb, kq⟩] := rds_new fK_len Wd ⟨ka, kp, kb, kq⟩ 34 hwr rfl
        replace hX := below_step hX hb
        clear hb
        generalize Wd.alloc (.cells #[.int .i64 ka, .int .i64 kp, .int .i64 kb, .int .i64 kq] 34) = V7 at hn RB hX ⊢
        refine hK.out _ _ hn (fun hH2 => ?_)
        clear hK K hH hn
        have hH := hH2
        clear hH2
        try simp only [Act.put, List.setIfInBounds_toArray, List.set_cons_zero, List.set_cons_succ]
        refine wpAnyH_ready (rs := [2]) (by kernel_rfl) (by simp) ?_
        refine (AllReadyH.cons (o := { dst := some 38, op := _, type := _, pos := _, after := _, guard := _ }) rfl (fun K hK => ?_) AllReadyH.nil)
        have hsz := hX.size
        refine stepRds_join fK_len (by decide) (by rfl) (.const (.slice none 0 0)) (.tmp 37) 22 (by rfl) W.heap.size 34 32 _ Try.underlying22 infoK rfl (v := .slice none 0 0) (n := 0) (ys := []) (by rfl) (World.ownsRow_nil _ _ _ _) (by rfl) (RW.later hX) rfl (by omega) (by decide) hsz ?_
        intro vV2 V2 ownV2 hgV2
        simp only [Nat.zero_add, List.nil_append] at ownV2
        have hb := below_fresh (B := V7.heap.size) hgV2 (Nat.le_refl _)
        have hn := below_step hH hb
        clear hgV2
        replace RB := RB.later hb
        replace hX := below_step hX hb
        clear hb
        refine hK.out _ _ hn (fun hH2 => ?_)
        clear hK K hH hn
        have hH := hH2
        clear hH2
        try simp only [Act.put, List.setIfInBounds_toArray, List.set_cons_zero, List.set_cons_succ]
        refine wpAnyH_ready (rs := [8]) (by kernel_rfl) (by simp) ?_
        refine (AllReadyH.cons (o := { dst := some 44, op := _, type := _, pos := _, after := _, guard := _ }) rfl (fun K hK => ?_) AllReadyH.nil)
        have hsz := hX.size
        refine stepRds_join fK_len (by decide) (by rfl) (.tmp 38) (.tmp 43) 22 (by rfl) W.heap.size 34 32 _ Try.underlying22 infoK rfl (by rfl) ownV2 (m := 1) (by rfl) RB rfl (by omega) (by decide) hsz ?_
        intro vV8 V8 ownV8 hgV8
        have hX2 := below_growR hX ownV2 hgV8 hsz
        have hn := below_step hn0 hX2
        clear hgV8
        replace hX := hX2
        clear hX2
        refine hK.out _ _ hn (fun hH2 => ?_)
        clear hK K hH hn
        have hH := hH2
        clear hH2
        try simp only [Act.put, List.setIfInBounds_toArray, List.set_cons_zero, List.set_cons_succ]
        refine wpAnyH_take (i := 9) (oi := { dst := some 45, op := _, type := _, pos := _, after := _, guard := _ }) (v := ?_) rfl (by kernel_rfl) (by kernel_rfl) (by kernel_rfl) (fun _ _ _ h => h) (Or.inl ⟨by rfl, ?_⟩) hH ?_
        rotate_left
        · intro wz hSw
          (try dsimp only at hSw)
          first | (go_simp; done) | (go_simp; with_reducible rfl)
        try simp only [Act.put, List.setIfInBounds_toArray, List.set_cons_zero, List.set_cons_succ]
        refine wpAnyH_ready (rs := [10]) (by kernel_rfl) (by simp) ?_
        refine (AllReadyH.cons (o := { dst := none, op := _, type := _, pos := _, after := _, guard := _ }) rfl (fun K hK => ?_) AllReadyH.nil)
        obtain ⟨a8, k8, rfl, R8, hx8⟩ := rds_of_owns2 fK_len ownV8 (by simp) hwa
        have XC := X.later hX
        obtain ⟨xl, x0, x1, x2, xf⟩ := XC
        go_simp
        have hn : Below V6.heap.size V6 (V8.setCell ⟨V6.heap.size, 2, none⟩ (.slice a8 (l.length + 1) k8)) := (below_step hn0 hX).setCell (p := ⟨V6.heap.size, 2, none⟩) hU _
        have X9 := (X.later hX).put (.slice a8 (l.length + 1) k8)
        replace R8 := rds_setCell (U := V6.heap.size) (j := 2) R8 (fun y hy => by have h := (hx8 y hy).1; have h2 := X.lt; omega) (.slice a8 (l.length + 1) k8)
        clear x0 x1 x2 xf xl hx8 ownV8
        generalize V8.setCell ⟨V6.heap.size, 2, none⟩ (.slice a8 (l.length + 1) k8) = V9 at hn X9 R8 ⊢
        clear hX
        refine hK.out _ _ hn (fun hH2 => ?_)
        clear hK K hH hn
        have hH := hH2
        clear hH2
        try simp only [Act.put, List.setIfInBounds_toArray, List.set_cons_zero, List.set_cons_succ]
        refine wpAnyH_done (by kernel_rfl) ?_ _
        refine NoPanic.normal ?_
        replace hB := below_step hB hH
        have cT := may_at s n _ R8 (k := l.length + 1) (by simp)
        rw [HT.out] at cT
        obtain ⟨xl, x0, x1, x2, xf⟩ := X9
        clear R8 hwa hwr
        go_wp2_with fail
        refine cT.mono ?_
        clear cT
        rintro e w9 ⟨rfl, hb⟩
        replace hB := below_step hB hb
        go_wp2_with fail
        go_ret
        exact ⟨rfl, hB⟩
theorem own : ownKnob Try.prog.godebug = none := by kernel_rfl
theorem laidOut : laidOutB Try.prog = true := by kernel_rfl
set_option maxRecDepth 100000 in
theorem lifted (os : Os) (started : os.Started) (H : Type) (enc : TypeId × Value → H) :
    ReturnsInHanded {} Try.checked os 8 .any (Rows.topoTwiceSpec.pre6 enc Try.prog Try.f8 Rows.topoTwiceRow.domain false) (Rows.topoTwiceSpec.post enc Try.prog Try.f8 false true false false) := by
  refine returnsInHanded_of_change (C := Try.checked) own started (by kernel_rfl) Try.func8
    (ChangeSpec.witness6 (enc := enc) (C := Try.checked) false ⟨#[], #[.agg #[.int .i64 0, .int .i64 0, .slice none 0 0]], []⟩ 8 (by kernel_rfl) (by kernel_rfl) (by kernel_rfl) (by kernel_rfl)) ?_
  intro W base args ds gs before hval0 hW hcnd _
  have hval : ∀ (j : Nat) t v, Try.f8.params[j]? = some t → args[j]? = some v → Value.okWide Try.prog W .any base t v := hval0
  have hW' := hW
  obtain ⟨p, q, hA0, hV, rfl, hfz, hnd⟩ := hW
  have hA : DataW.TrodAll enc Try.prog W 0 (fun _ => true) true Try.f8.params.toList args.toList ds p := hA0
  rw [Try.params8] at hA hval
  obtain ⟨v0, vs0, d0, ds0, p0, q0, hargs, rfl, rfl, h0, r0⟩ := trodAll_cons hA
  obtain ⟨rfl, rfl, rfl⟩ := trodAll_nil r0
  obtain rfl : args = #[v0] := by cases args; simp_all
  obtain ⟨rfl, rfl⟩ := trodVars_none hV
  have k0 := h0
  have lt0 : ∀ x ∈ p0, x.block < W.heap.size := by obtain ⟨m, hm⟩ := k0; exact DataW.trod_lt m _ _ _ hm
  obtain ⟨a0, b0, x0, c0, l0, rfl, w0a, w0b, R0⟩ := open_topo (fun _ => rfl) (hval 0 24 v0 rfl rfl) h0
  clear hA0 hval0
  refine (walk a0 b0 x0 c0 l0 w0a w0b W R0).mono fun e W' ⟨he, bel⟩ => ?_
  subst he
  exact ⟨_, rfl, _, _, _, [], _, [], hW', trodAll_mk1 (shut_bool Try.underlying4 _), (trodAll_cons_mk (Below.trod laidOut (by kernel_rfl) (of_decide_eq_true (by kernel_rfl)) k0 bel lt0) trodAll_mk0), rfl, bel.frame _, fun h => by cases h⟩

theorem over : Rows.topoTwiceRow.holds Try.pinned (OpenSpec.ofChange Rows.topoTwiceSpec) :=
  OpenClaim.holds_of_wide 8 Try.f8 rfl rfl rfl rfl rfl rfl rfl ⟨rfl, rfl, rfl, rfl, rfl⟩ rfl rfl rfl rfl rfl (by kernel_rfl) Try.func8 (by kernel_rfl)
    (of_decide_eq_true (by kernel_rfl)) (by unfold Func.isWrapper; first | (rw [if_pos (by decide +kernel)]; kernel_rfl) | (rw [if_neg (by decide +kernel)]; exact ⟨rfl, rfl⟩))
    (fun os started H enc _ => lifted os started H enc)
end Go.Proofs.Ytlfhjliphhfoaaa.topoTwice
namespace Go.Proofs.Ytlfhjliphhfoaaa
theorem topoTwice_holds : Rows.TopoTwiceSaid := topoTwice.over
#print axioms topoTwice_holds
end Go.Proofs.Ytlfhjliphhfoaaa
