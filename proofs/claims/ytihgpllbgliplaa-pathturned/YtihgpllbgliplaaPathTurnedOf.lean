/- The statement PathTurned, over whatever the code is (PCode). -/
import Derived.Test.YtihgpllbgliplaaPathIf
import Derived.Test.YtihgpllbgliplaaPathSame
import Derived.Test.YtihgpllbgliplaaConfIf
namespace Go.Proofs.Ytihgpllbgliplaa
open Go.ChangeShapes Go.WideShapes Go.ChangeAt Go.RowKit Pk Cf Pa
set_option linter.unusedVariables false
set_option linter.unusedSimpArgs false

set_option maxRecDepth 100000 in
set_option maxHeartbeats 8000000 in
theorem pathTurned_of (P : PCode) (C : CCode) (s n : Int) (x : Option Addr) (c : Nat) (l : List Tp.Lk) (a : Option Addr) (k : Nat) (A : Cnf) (a2 : Option Addr) (k2 : Nat) (B : Cnf) (fi fs fd ft fg fw fp : Int) (w : World) (RT : Rds Tp.fK 4 w x c l) (V : Lists w a k A) (V2 : Lists w a2 k2 B) (hf : WfF ⟨fi, fs, fd, ft, fg, fw, fp⟩) :
    Calls Try.prog 6 #[.agg #[.int .i64 s, .int .i64 n, .slice x l.length c], .slice a A.length k, .slice a2 B.length k2, .agg #[.int .i64 fi, .int .i64 fs, .int .i64 fd, .int .i64 ft, .int .i64 fg, .int .i64 fw, .int .i64 fp]] w fun e w' => e = .returned (.bool true) ∧ Below w.heap.size w w' := by
  have hB := below_new w (.cells #[.int .i64 s, .int .i64 n, .slice x l.length c] 24)
  obtain ⟨t0, t1, t2⟩ := box3 w (.int .i64 s) (.int .i64 n) (.slice x l.length c) 24
  have hBT : w.heap.size < (w.alloc (.cells #[.int .i64 s, .int .i64 n, .slice x l.length c] 24)).heap.size := by simp
  have X : Lies ((w.alloc (.cells #[.int .i64 s, .int .i64 n, .slice x l.length c] 24)).alloc (.cells #[.int .i64 fi, .int .i64 fs, .int .i64 fd, .int .i64 ft, .int .i64 fg, .int .i64 fw, .int .i64 fp] 30)) (w.heap.size + 1) [fi, fs, fd, ft, fg, fw, fp] := Lies.new (w.alloc (.cells #[.int .i64 s, .int .i64 n, .slice x l.length c] 24)) [fi, fs, fd, ft, fg, fw, fp] 30 (by simp)
  have hb := below_new (w.alloc (.cells #[.int .i64 s, .int .i64 n, .slice x l.length c] 24)) (.cells #[.int .i64 fi, .int .i64 fs, .int .i64 fd, .int .i64 ft, .int .i64 fg, .int .i64 fw, .int .i64 fp] 30)
  replace RT := RT.later hB
  replace V := V.later hB
  replace V2 := V2.later hB
  replace t0 := (hb.cell (p := ⟨w.heap.size, 0, none⟩) hBT).trans t0
  replace t1 := (hb.cell (p := ⟨w.heap.size, 1, none⟩) hBT).trans t1
  replace t2 := (hb.cell (p := ⟨w.heap.size, 2, none⟩) hBT).trans t2
  replace hBT := Nat.lt_of_lt_of_le hBT hb.size
  replace RT := RT.later hb
  replace V := V.later hb
  replace V2 := V2.later hb
  replace hB := below_step hB hb
  clear hb
  have cA := fun w (RT : Rds Tp.fK 4 w x c l) (V : Lists w a k A) => C.may s n w RT V
  have cB := fun w (RT : Rds Tp.fK 4 w x c l) (V2 : Lists w a2 k2 B) => C.may s n w RT V2
  cases hA : mayC s n l A with
  | false =>
    rw [hA] at cA
    go_enter Try.func6, Try.ntmps6
    go_wp2_with fail
    refine (pawake_any P _).mono ?_
    rintro e w1 ⟨rfl, hb⟩
    replace t0 := (hb.cell (p := ⟨w.heap.size, 0, none⟩) hBT).trans t0
    replace t1 := (hb.cell (p := ⟨w.heap.size, 1, none⟩) hBT).trans t1
    replace t2 := (hb.cell (p := ⟨w.heap.size, 2, none⟩) hBT).trans t2
    replace hBT := Nat.lt_of_lt_of_le hBT hb.size
    replace RT := RT.later hb
    replace V := V.later hb
    replace V2 := V2.later hb
    replace X := X.later hb
    replace hB := below_step hB hb
    clear hb
    go_wp2_with fail
    refine (cA _ RT V).mono ?_
    rintro e w2 ⟨rfl, hb⟩
    replace t0 := (hb.cell (p := ⟨w.heap.size, 0, none⟩) hBT).trans t0
    replace t1 := (hb.cell (p := ⟨w.heap.size, 1, none⟩) hBT).trans t1
    replace t2 := (hb.cell (p := ⟨w.heap.size, 2, none⟩) hBT).trans t2
    replace hBT := Nat.lt_of_lt_of_le hBT hb.size
    replace RT := RT.later hb
    replace V := V.later hb
    replace V2 := V2.later hb
    replace X := X.later hb
    replace hB := below_step hB hb
    clear hb
    go_wp2_with fail
    go_ret
    exact ⟨rfl, hB⟩
  | true =>
    rw [hA] at cA
    cases hBm : mayC s n l B with
    | false =>
      rw [hBm] at cB
      go_enter Try.func6, Try.ntmps6
      go_wp2_with fail
      refine (pawake_any P _).mono ?_
      rintro e w1 ⟨rfl, hb⟩
      replace t0 := (hb.cell (p := ⟨w.heap.size, 0, none⟩) hBT).trans t0
      replace t1 := (hb.cell (p := ⟨w.heap.size, 1, none⟩) hBT).trans t1
      replace t2 := (hb.cell (p := ⟨w.heap.size, 2, none⟩) hBT).trans t2
      replace hBT := Nat.lt_of_lt_of_le hBT hb.size
      replace RT := RT.later hb
      replace V := V.later hb
      replace V2 := V2.later hb
      replace X := X.later hb
      replace hB := below_step hB hb
      clear hb
      go_wp2_with fail
      refine (cA _ RT V).mono ?_
      rintro e w2 ⟨rfl, hb⟩
      replace t0 := (hb.cell (p := ⟨w.heap.size, 0, none⟩) hBT).trans t0
      replace t1 := (hb.cell (p := ⟨w.heap.size, 1, none⟩) hBT).trans t1
      replace t2 := (hb.cell (p := ⟨w.heap.size, 2, none⟩) hBT).trans t2
      replace hBT := Nat.lt_of_lt_of_le hBT hb.size
      replace RT := RT.later hb
      replace V := V.later hb
      replace V2 := V2.later hb
      replace X := X.later hb
      replace hB := below_step hB hb
      clear hb
      go_wp2_with fail
      refine (cB _ RT V2).mono ?_
      rintro e w3 ⟨rfl, hb⟩
      replace t0 := (hb.cell (p := ⟨w.heap.size, 0, none⟩) hBT).trans t0
      replace t1 := (hb.cell (p := ⟨w.heap.size, 1, none⟩) hBT).trans t1
      replace t2 := (hb.cell (p := ⟨w.heap.size, 2, none⟩) hBT).trans t2
      replace hBT := Nat.lt_of_lt_of_le hBT hb.size
      replace RT := RT.later hb
      replace V := V.later hb
      replace V2 := V2.later hb
      replace X := X.later hb
      replace hB := below_step hB hb
      clear hb
      go_wp2_with fail
      go_ret
      exact ⟨rfl, hB⟩
    | true =>
      rw [hBm] at cB
      have bA := may_bd hA
      have bB := may_bd hBm
      have b1 : ∀ r ∈ A, r.length ≤ 60 := fun r hr => Nat.le_trans (bA.1.2 r hr) (by decide)
      have b2 : ∀ r ∈ B, r.length ≤ 60 := fun r hr => Nat.le_trans (bB.1.2 r hr) (by decide)
      have hl60 : l.length ≤ 60 := Nat.le_trans bA.2.1 (by decide)
      have cS := fun w (V : Lists w a k A) (V2 : Lists w a2 k2 B) => C.same w V V2 b1 b2
      cases hS : sameC A B with
      | false =>
        rw [hS] at cS
        clear bA bB
        go_enter Try.func6, Try.ntmps6
        go_wp2_with fail
        refine (pawake_any P _).mono ?_
        rintro e w1 ⟨rfl, hb⟩
        replace t0 := (hb.cell (p := ⟨w.heap.size, 0, none⟩) hBT).trans t0
        replace t1 := (hb.cell (p := ⟨w.heap.size, 1, none⟩) hBT).trans t1
        replace t2 := (hb.cell (p := ⟨w.heap.size, 2, none⟩) hBT).trans t2
        replace hBT := Nat.lt_of_lt_of_le hBT hb.size
        replace RT := RT.later hb
        replace V := V.later hb
        replace V2 := V2.later hb
        replace X := X.later hb
        replace hB := below_step hB hb
        clear hb
        go_wp2_with fail
        refine (cA _ RT V).mono ?_
        rintro e w2 ⟨rfl, hb⟩
        replace t0 := (hb.cell (p := ⟨w.heap.size, 0, none⟩) hBT).trans t0
        replace t1 := (hb.cell (p := ⟨w.heap.size, 1, none⟩) hBT).trans t1
        replace t2 := (hb.cell (p := ⟨w.heap.size, 2, none⟩) hBT).trans t2
        replace hBT := Nat.lt_of_lt_of_le hBT hb.size
        replace RT := RT.later hb
        replace V := V.later hb
        replace V2 := V2.later hb
        replace X := X.later hb
        replace hB := below_step hB hb
        clear hb
        go_wp2_with fail
        refine (cB _ RT V2).mono ?_
        rintro e w3 ⟨rfl, hb⟩
        replace t0 := (hb.cell (p := ⟨w.heap.size, 0, none⟩) hBT).trans t0
        replace t1 := (hb.cell (p := ⟨w.heap.size, 1, none⟩) hBT).trans t1
        replace t2 := (hb.cell (p := ⟨w.heap.size, 2, none⟩) hBT).trans t2
        replace hBT := Nat.lt_of_lt_of_le hBT hb.size
        replace RT := RT.later hb
        replace V := V.later hb
        replace V2 := V2.later hb
        replace X := X.later hb
        replace hB := below_step hB hb
        clear hb
        go_wp2_with fail
        refine (cS _ V V2).mono ?_
        rintro e w4 ⟨rfl, hb⟩
        replace t0 := (hb.cell (p := ⟨w.heap.size, 0, none⟩) hBT).trans t0
        replace t1 := (hb.cell (p := ⟨w.heap.size, 1, none⟩) hBT).trans t1
        replace t2 := (hb.cell (p := ⟨w.heap.size, 2, none⟩) hBT).trans t2
        replace hBT := Nat.lt_of_lt_of_le hBT hb.size
        replace RT := RT.later hb
        replace V := V.later hb
        replace V2 := V2.later hb
        replace X := X.later hb
        replace hB := below_step hB hb
        clear hb
        go_wp2_with fail
        go_ret
        exact ⟨rfl, hB⟩
      | true =>
        rw [hS] at cS
        have hw := walk_wf (s := s) (n := n) (l := l) (C := A) (f := ⟨fi, fs, fd, ft, fg, fw, fp⟩) (fun k hk => RT.wf k hk) (lists_wf V) hf
        have c1 := fun w (RT : Rds Tp.fK 4 w x c l) (V : Lists w a k A) => P.walk s n w RT V hl60 b1 ⟨fi, fs, fd, ft, fg, fw, fp⟩ hf
        have c2 := fun w (RT : Rds Tp.fK 4 w x c l) (V2 : Lists w a2 k2 B) => P.walk s n w RT V2 hl60 b2 ⟨fi, fs, fd, ft, fg, fw, fp⟩ hf
        simp only [← walk_same hA hS] at c2
        generalize walkP s n l A ⟨fi, fs, fd, ft, fg, fw, fp⟩ = R at c1 c2 hw
        have HW : Hid (∀ h ∈ R, ∀ z ∈ fH h, (Lit.int .i64 z).wf = true) := hw
        clear hw bA bB b1 b2 hl60 hA hBm hS
        go_enter Try.func6, Try.ntmps6
        go_wp2_with fail
        refine (pawake_any P _).mono ?_
        rintro e w1 ⟨rfl, hb⟩
        replace t0 := (hb.cell (p := ⟨w.heap.size, 0, none⟩) hBT).trans t0
        replace t1 := (hb.cell (p := ⟨w.heap.size, 1, none⟩) hBT).trans t1
        replace t2 := (hb.cell (p := ⟨w.heap.size, 2, none⟩) hBT).trans t2
        replace hBT := Nat.lt_of_lt_of_le hBT hb.size
        replace RT := RT.later hb
        replace V := V.later hb
        replace V2 := V2.later hb
        replace X := X.later hb
        replace hB := below_step hB hb
        clear hb
        go_wp2_with fail
        refine (cA _ RT V).mono ?_
        clear cA
        rintro e w2 ⟨rfl, hb⟩
        replace t0 := (hb.cell (p := ⟨w.heap.size, 0, none⟩) hBT).trans t0
        replace t1 := (hb.cell (p := ⟨w.heap.size, 1, none⟩) hBT).trans t1
        replace t2 := (hb.cell (p := ⟨w.heap.size, 2, none⟩) hBT).trans t2
        replace hBT := Nat.lt_of_lt_of_le hBT hb.size
        replace RT := RT.later hb
        replace V := V.later hb
        replace V2 := V2.later hb
        replace X := X.later hb
        replace hB := below_step hB hb
        clear hb
        go_wp2_with fail
        refine (cB _ RT V2).mono ?_
        clear cB
        rintro e w3 ⟨rfl, hb⟩
        replace t0 := (hb.cell (p := ⟨w.heap.size, 0, none⟩) hBT).trans t0
        replace t1 := (hb.cell (p := ⟨w.heap.size, 1, none⟩) hBT).trans t1
        replace t2 := (hb.cell (p := ⟨w.heap.size, 2, none⟩) hBT).trans t2
        replace hBT := Nat.lt_of_lt_of_le hBT hb.size
        replace RT := RT.later hb
        replace V := V.later hb
        replace V2 := V2.later hb
        replace X := X.later hb
        replace hB := below_step hB hb
        clear hb
        go_wp2_with fail
        refine (cS _ V V2).mono ?_
        clear cS
        rintro e w4 ⟨rfl, hb⟩
        replace t0 := (hb.cell (p := ⟨w.heap.size, 0, none⟩) hBT).trans t0
        replace t1 := (hb.cell (p := ⟨w.heap.size, 1, none⟩) hBT).trans t1
        replace t2 := (hb.cell (p := ⟨w.heap.size, 2, none⟩) hBT).trans t2
        replace hBT := Nat.lt_of_lt_of_le hBT hb.size
        replace RT := RT.later hb
        replace V := V.later hb
        replace V2 := V2.later hb
        replace X := X.later hb
        replace hB := below_step hB hb
        clear hb
        go_wp2_with fail
        have S0 : Below w4.heap.size w4 w4.drew := (Below.refl _ _).drew
        have RTD := RT.later S0
        have VD := V.later S0
        have V2D := V2.later S0
        clear RT
        clear V
        clear V2
        have RT := RTD
        have V := VD
        have V2 := V2D
        clear RTD
        clear VD
        clear V2D
        refine wp_region_noPanic ?_
        refine wp_region_held_drew (S := fun w' => Below w4.heap.size w4 w') (by kernel_rfl) S0 (fun hH => ?_)
        clear S0
        generalize w4.drew = w4d at hH RT V V2 ⊢
        refine wpAnyH_take (i := 0) (oi := { dst := some 33, op := _, type := _, pos := _, after := _, guard := _ }) (v := ?_) rfl (by kernel_rfl) (by kernel_rfl) (by kernel_rfl) (fun _ _ _ h => h) (Or.inl ⟨by rfl, ?_⟩) hH ?_
        rotate_left
        · intro wz hSw
          (try dsimp only at hSw)
          have z0 := (hSw.cell (p := ⟨w.heap.size, 0, none⟩) hBT).trans t0
          have z1 := (hSw.cell (p := ⟨w.heap.size, 1, none⟩) hBT).trans t1
          have z2 := (hSw.cell (p := ⟨w.heap.size, 2, none⟩) hBT).trans t2
          first | (go_simp; done) | (go_simp; with_reducible rfl)
        try simp only [Act.put, List.setIfInBounds_toArray, List.set_cons_zero, List.set_cons_succ]
        refine wpAnyH_take (i := 1) (oi := { dst := some 34, op := _, type := _, pos := _, after := _, guard := _ }) (v := ?_) rfl (by kernel_rfl) (by kernel_rfl) (by kernel_rfl) (fun _ _ _ h => h) (Or.inl ⟨by rfl, ?_⟩) hH ?_
        rotate_left
        · intro wz hSw
          (try dsimp only at hSw)
          first | (go_simp; done) | (go_simp; with_reducible rfl)
        try simp only [Act.put, List.setIfInBounds_toArray, List.set_cons_zero, List.set_cons_succ]
        refine wpAnyH_take (i := 2) (oi := { dst := some 35, op := _, type := _, pos := _, after := _, guard := _ }) (v := ?_) rfl (by kernel_rfl) (by kernel_rfl) (by kernel_rfl) (fun _ _ _ h => h) (Or.inl ⟨by rfl, ?_⟩) hH ?_
        rotate_left
        · intro wz hSw
          (try dsimp only at hSw)
          obtain ⟨r0, r1, r2, r3, r4, r5, r6⟩ := (X.later hSw).seven
          first | (go_simp; done) | (go_simp; with_reducible rfl)
        try simp only [Act.put, List.setIfInBounds_toArray, List.set_cons_zero, List.set_cons_succ]
        refine wpAnyH_take (i := 4) (oi := { dst := some 37, op := _, type := _, pos := _, after := _, guard := _ }) (v := ?_) rfl (by kernel_rfl) (by kernel_rfl) (by kernel_rfl) (fun _ _ _ h => h) (Or.inl ⟨by rfl, ?_⟩) hH ?_
        rotate_left
        · intro wz hSw
          (try dsimp only at hSw)
          have z0 := (hSw.cell (p := ⟨w.heap.size, 0, none⟩) hBT).trans t0
          have z1 := (hSw.cell (p := ⟨w.heap.size, 1, none⟩) hBT).trans t1
          have z2 := (hSw.cell (p := ⟨w.heap.size, 2, none⟩) hBT).trans t2
          first | (go_simp; done) | (go_simp; with_reducible rfl)
        try simp only [Act.put, List.setIfInBounds_toArray, List.set_cons_zero, List.set_cons_succ]
        refine wpAnyH_take (i := 5) (oi := { dst := some 38, op := _, type := _, pos := _, after := _, guard := _ }) (v := ?_) rfl (by kernel_rfl) (by kernel_rfl) (by kernel_rfl) (fun _ _ _ h => h) (Or.inl ⟨by rfl, ?_⟩) hH ?_
        rotate_left
        · intro wz hSw
          (try dsimp only at hSw)
          first | (go_simp; done) | (go_simp; with_reducible rfl)
        try simp only [Act.put, List.setIfInBounds_toArray, List.set_cons_zero, List.set_cons_succ]
        refine wpAnyH_take (i := 6) (oi := { dst := some 39, op := _, type := _, pos := _, after := _, guard := _ }) (v := ?_) rfl (by kernel_rfl) (by kernel_rfl) (by kernel_rfl) (fun _ _ _ h => h) (Or.inl ⟨by rfl, ?_⟩) hH ?_
        rotate_left
        · intro wz hSw
          (try dsimp only at hSw)
          obtain ⟨r0, r1, r2, r3, r4, r5, r6⟩ := (X.later hSw).seven
          first | (go_simp; done) | (go_simp; with_reducible rfl)
        try simp only [Act.put, List.setIfInBounds_toArray, List.set_cons_zero, List.set_cons_succ]
        refine wpAnyH_ready (rs := [3]) (by kernel_rfl) (by simp) ?_
        refine (AllReadyH.cons (o := { dst := some 36, op := _, type := _, pos := _, after := _, guard := _ }) rfl (fun K hK => ?_) AllReadyH.nil)
        go_simp
        refine (c1 _ RT V).mono ?_
        rintro e w43x0 ⟨u1, rfl, own1, hb⟩
        obtain ⟨y1, j1, rfl, S1⟩ := rds_of_owns fH_len own1 rfl HW.out
        clear own1
        have hn : Below w4.heap.size w4 w43x0 := below_step hH hb
        replace RT := RT.later hb
        replace V := V.later hb
        replace V2 := V2.later hb
        clear hb
        go_wp2_with fail
        refine hK.out _ _ hn (fun hH2 => ?_)
        clear hK K hH hn
        have hH := hH2
        clear hH2
        try simp only [Act.put, List.setIfInBounds_toArray, List.set_cons_zero, List.set_cons_succ]
        refine wpAnyH_ready (rs := [7]) (by kernel_rfl) (by simp) ?_
        refine (AllReadyH.cons (o := { dst := some 40, op := _, type := _, pos := _, after := _, guard := _ }) rfl (fun K hK => ?_) AllReadyH.nil)
        go_simp
        refine (c2 _ RT V2).mono ?_
        rintro e w47x1 ⟨u2, rfl, own2, hb⟩
        obtain ⟨y2, j2, rfl, S2⟩ := rds_of_owns fH_len own2 rfl HW.out
        clear own2
        have hn : Below w4.heap.size w4 w47x1 := below_step hH hb
        replace RT := RT.later hb
        replace V := V.later hb
        replace V2 := V2.later hb
        replace S1 := S1.later hb
        clear hb
        go_wp2_with fail
        refine hK.out _ _ hn (fun hH2 => ?_)
        clear hK K hH hn
        have hH := hH2
        clear hH2
        try simp only [Act.put, List.setIfInBounds_toArray, List.set_cons_zero, List.set_cons_succ]
        refine wpAnyH_ready (rs := [8]) (by kernel_rfl) (by simp) ?_
        refine (AllReadyH.cons (o := { dst := some 41, op := _, type := _, pos := _, after := _, guard := _ }) rfl (fun K hK => ?_) AllReadyH.nil)
        go_simp
        refine (rsame13_any _ S1 S2).mono ?_
        rintro e w48x2 ⟨rfl, hb⟩
        have hn : Below w4.heap.size w4 w48x2 := below_step hH hb
        replace RT := RT.later hb
        replace V := V.later hb
        replace V2 := V2.later hb
        replace S1 := S1.later hb
        replace S2 := S2.later hb
        clear hb
        go_wp2_with fail
        refine hK.out _ _ hn (fun hH2 => ?_)
        clear hK K hH hn
        have hH := hH2
        clear hH2
        try simp only [Act.put, List.setIfInBounds_toArray, List.set_cons_zero, List.set_cons_succ]
        refine wpAnyH_take (i := 9) (oi := { dst := some 10, op := _, type := _, pos := _, after := _, guard := _ }) (v := ?_) rfl (by kernel_rfl) (by kernel_rfl) (by kernel_rfl) (fun _ _ _ h => h) (Or.inl ⟨by rfl, ?_⟩) hH ?_
        rotate_left
        · intro wz hSw
          (try dsimp only at hSw)
          first | (go_simp; done) | (go_simp; with_reducible rfl)
        try simp only [Act.put, List.setIfInBounds_toArray, List.set_cons_zero, List.set_cons_succ]
        refine wpAnyH_done (by kernel_rfl) ?_ _
        refine NoPanic.normal ?_
        have hB := below_step hB hH
        go_wp2_with fail
        go_ret
        exact ⟨ret_bool (by simp), hB⟩
end Go.Proofs.Ytihgpllbgliplaa
