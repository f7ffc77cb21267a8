/- The statement ConfPorts, over whatever the code is (CCode). -/
import Derived.Test.YtnmijgnflemhkaaConfIf
namespace Go.Proofs.Ytnmijgnflemhkaa
open Go.ChangeShapes Go.WideShapes Go.ChangeAt Go.RowKit Pk Cf R
set_option linter.unusedVariables false
set_option linter.unusedSimpArgs false

set_option maxRecDepth 100000 in
set_option maxHeartbeats 4000000 in
theorem confPorts_of (C : CCode) (s n : Int) (x : Option Addr) (c : Nat) (l : List Tp.Lk) (a : Option Addr) (k : Nat) (A : Cnf) (w : World) (RT : Rds Tp.fK 4 w x c l) (V : Lists w a k A) :
    Calls Try.prog 8 #[.agg #[.int .i64 s, .int .i64 n, .slice x l.length c], .slice a A.length k] w fun e w' => e = .returned (.bool true) ∧ Below w.heap.size w w' := by
  have hB := below_new w (.cells #[.int .i64 s, .int .i64 n, .slice x l.length c] 24)
  obtain ⟨t0, t1, t2⟩ := box3 w (.int .i64 s) (.int .i64 n) (.slice x l.length c) 24
  have hBT : w.heap.size < (w.alloc (.cells #[.int .i64 s, .int .i64 n, .slice x l.length c] 24)).heap.size := by simp
  replace RT := RT.later hB
  replace V := V.later hB
  have cM := fun w (R : Rds Tp.fK 4 w x c l) (V : Lists w a k A) => C.may s n w R V
  cases hm : mayC s n l A with
  | false =>
    rw [hm] at cM
    clear hm
    go_enter Try.func8, Try.ntmps8
    go_wp2_with fail
    refine (cawake_any C _).mono ?_
    rintro e w1 ⟨rfl, hb⟩
    replace t0 := (hb.cell (p := ⟨w.heap.size, 0, none⟩) hBT).trans t0
    replace t1 := (hb.cell (p := ⟨w.heap.size, 1, none⟩) hBT).trans t1
    replace t2 := (hb.cell (p := ⟨w.heap.size, 2, none⟩) hBT).trans t2
    replace hBT := Nat.lt_of_lt_of_le hBT hb.size
    replace RT := RT.later hb
    replace V := V.later hb
    replace hB := below_step hB hb
    clear hb
    go_wp2_with fail
    refine (cM _ RT V).mono ?_
    rintro e w2 ⟨rfl, hb⟩
    replace t0 := (hb.cell (p := ⟨w.heap.size, 0, none⟩) hBT).trans t0
    replace t1 := (hb.cell (p := ⟨w.heap.size, 1, none⟩) hBT).trans t1
    replace t2 := (hb.cell (p := ⟨w.heap.size, 2, none⟩) hBT).trans t2
    replace hBT := Nat.lt_of_lt_of_le hBT hb.size
    replace RT := RT.later hb
    replace V := V.later hb
    replace hB := below_step hB hb
    clear hb
    go_wp2_with fail
    go_ret
    exact ⟨rfl, hB⟩
  | true =>
    rw [hm] at cM
    have hb6 := may_bd hm
    have c1 := fun w (R : Rds Tp.fK 4 w x c l) (V : Lists w a k A) => C.may s 8 w R V
    rw [may_ports hm] at c1
    have c2 : ∀ w, Lists w a k A → Calls Try.prog 16 #[.agg #[.int .i64 s, .int .i64 n, .slice none 0 0], .slice a A.length k] w fun e w' => e = .returned (.bool true) ∧ Below w.heap.size w w' := fun w V => by
      have h := C.may s n w (Rds.none Tp.fK 4 w) V
      rw [may_nolinks hm] at h
      exact h
    have c3 := fun w (R : Rds Tp.fK 4 w x c l) (V : Lists w a k A) => C.may (s + 1) n w R V
    rw [may_more hm] at c3
    obtain ⟨-, -, hs1, hs6, -, -⟩ := hb6
    clear hm
    go_enter Try.func8, Try.ntmps8
    go_wp2_with fail
    refine (cawake_any C _).mono ?_
    rintro e w1 ⟨rfl, hb⟩
    replace t0 := (hb.cell (p := ⟨w.heap.size, 0, none⟩) hBT).trans t0
    replace t1 := (hb.cell (p := ⟨w.heap.size, 1, none⟩) hBT).trans t1
    replace t2 := (hb.cell (p := ⟨w.heap.size, 2, none⟩) hBT).trans t2
    replace hBT := Nat.lt_of_lt_of_le hBT hb.size
    replace RT := RT.later hb
    replace V := V.later hb
    replace hB := below_step hB hb
    clear hb
    go_wp2_with fail
    refine (cM _ RT V).mono ?_
    clear cM
    rintro e w2 ⟨rfl, hb⟩
    replace t0 := (hb.cell (p := ⟨w.heap.size, 0, none⟩) hBT).trans t0
    replace t1 := (hb.cell (p := ⟨w.heap.size, 1, none⟩) hBT).trans t1
    replace t2 := (hb.cell (p := ⟨w.heap.size, 2, none⟩) hBT).trans t2
    replace hBT := Nat.lt_of_lt_of_le hBT hb.size
    replace RT := RT.later hb
    replace V := V.later hb
    replace hB := below_step hB hb
    clear hb
    have h1 := below_new w2 (.cells #[.int .i64 s, .int .i64 8, .slice x l.length c] 24)
    have h2 := below_step h1 (below_new (w2.alloc (.cells #[.int .i64 s, .int .i64 8, .slice x l.length c] 24)) (.cells #[.int .i64 s, .int .i64 n, .slice none 0 0] 24))
    have h30 := below_step h2 (below_new ((w2.alloc (.cells #[.int .i64 s, .int .i64 8, .slice x l.length c] 24)).alloc (.cells #[.int .i64 s, .int .i64 n, .slice none 0 0] 24)) (.cells #[.int .i64 s, .int .i64 n, .slice x l.length c] 24))
    have h3 := below_step h2 (below_new ((w2.alloc (.cells #[.int .i64 s, .int .i64 8, .slice x l.length c] 24)).alloc (.cells #[.int .i64 s, .int .i64 n, .slice none 0 0] 24)) (.cells #[.int .i64 (s + 1), .int .i64 n, .slice x l.length c] 24))
    have p0 := (h1.cell (p := ⟨w.heap.size, 0, none⟩) hBT).trans t0
    have p1 := (h1.cell (p := ⟨w.heap.size, 1, none⟩) hBT).trans t1
    have p2 := (h1.cell (p := ⟨w.heap.size, 2, none⟩) hBT).trans t2
    have q0 := (h2.cell (p := ⟨w.heap.size, 0, none⟩) hBT).trans t0
    have q1 := (h2.cell (p := ⟨w.heap.size, 1, none⟩) hBT).trans t1
    have q2 := (h2.cell (p := ⟨w.heap.size, 2, none⟩) hBT).trans t2
    have r0 := (h30.cell (p := ⟨w.heap.size, 0, none⟩) hBT).trans t0
    have r1 := (h30.cell (p := ⟨w.heap.size, 1, none⟩) hBT).trans t1
    have r2 := (h30.cell (p := ⟨w.heap.size, 2, none⟩) hBT).trans t2
    obtain ⟨x0, x1, x2⟩ := box3 w2 (.int .i64 s) (.int .i64 8) (.slice x l.length c) 24
    have hX : w2.heap.size < (w2.alloc (.cells #[.int .i64 s, .int .i64 8, .slice x l.length c] 24)).heap.size := by simp
    obtain ⟨y0, y1, y2⟩ := box3 (w2.alloc (.cells #[.int .i64 s, .int .i64 8, .slice x l.length c] 24)) (.int .i64 s) (.int .i64 n) (.slice none 0 0) 24
    have hY : w2.heap.size + 1 < ((w2.alloc (.cells #[.int .i64 s, .int .i64 8, .slice x l.length c] 24)).alloc (.cells #[.int .i64 s, .int .i64 n, .slice none 0 0] 24)).heap.size := by simp
    obtain ⟨z0, z1, z2⟩ := box3 ((w2.alloc (.cells #[.int .i64 s, .int .i64 8, .slice x l.length c] 24)).alloc (.cells #[.int .i64 s, .int .i64 n, .slice none 0 0] 24)) (.int .i64 (s + 1)) (.int .i64 n) (.slice x l.length c) 24
    have hZ : w2.heap.size + 1 + 1 < (((w2.alloc (.cells #[.int .i64 s, .int .i64 8, .slice x l.length c] 24)).alloc (.cells #[.int .i64 s, .int .i64 n, .slice none 0 0] 24)).alloc (.cells #[.int .i64 (s + 1), .int .i64 n, .slice x l.length c] 24)).heap.size := by simp
    simp only [World.size_alloc] at y0 y1 y2 z0 z1 z2
    have k2 := below_new (w2.alloc (.cells #[.int .i64 s, .int .i64 8, .slice x l.length c] 24)) (.cells #[.int .i64 s, .int .i64 n, .slice none 0 0] 24)
    have k3 := below_new ((w2.alloc (.cells #[.int .i64 s, .int .i64 8, .slice x l.length c] 24)).alloc (.cells #[.int .i64 s, .int .i64 n, .slice none 0 0] 24)) (.cells #[.int .i64 (s + 1), .int .i64 n, .slice x l.length c] 24)
    replace x0 := (k3.cell (p := ⟨w2.heap.size, 0, none⟩) (Nat.lt_of_lt_of_le hX k2.size)).trans ((k2.cell (p := ⟨w2.heap.size, 0, none⟩) hX).trans x0)
    replace x1 := (k3.cell (p := ⟨w2.heap.size, 1, none⟩) (Nat.lt_of_lt_of_le hX k2.size)).trans ((k2.cell (p := ⟨w2.heap.size, 1, none⟩) hX).trans x1)
    replace x2 := (k3.cell (p := ⟨w2.heap.size, 2, none⟩) (Nat.lt_of_lt_of_le hX k2.size)).trans ((k2.cell (p := ⟨w2.heap.size, 2, none⟩) hX).trans x2)
    replace y0 := (k3.cell (p := ⟨w2.heap.size + 1, 0, none⟩) hY).trans y0
    replace y1 := (k3.cell (p := ⟨w2.heap.size + 1, 1, none⟩) hY).trans y1
    replace y2 := (k3.cell (p := ⟨w2.heap.size + 1, 2, none⟩) hY).trans y2
    replace hX := Nat.lt_of_lt_of_le (Nat.lt_of_lt_of_le hX k2.size) k3.size
    replace hY := Nat.lt_of_lt_of_le hY k3.size
    clear k2 k3 h1 h2 h30
    go_wp2_with fail
    clear p0 p1 p2 q0 q1 q2 r0 r1 r2
    replace t0 := (h3.cell (p := ⟨w.heap.size, 0, none⟩) hBT).trans t0
    replace t1 := (h3.cell (p := ⟨w.heap.size, 1, none⟩) hBT).trans t1
    replace t2 := (h3.cell (p := ⟨w.heap.size, 2, none⟩) hBT).trans t2
    replace hBT := Nat.lt_of_lt_of_le hBT h3.size
    replace RT := RT.later h3
    replace V := V.later h3
    replace hB := below_step hB h3
    clear h3
    generalize (((w2.alloc (.cells #[.int .i64 s, .int .i64 8, .slice x l.length c] 24)).alloc (.cells #[.int .i64 s, .int .i64 n, .slice none 0 0] 24)).alloc (.cells #[.int .i64 (s + 1), .int .i64 n, .slice x l.length c] 24)) = W at RT V hB hBT t0 t1 t2 x0 x1 x2 y0 y1 y2 z0 z1 z2 hX hY hZ ⊢
    generalize w2.heap.size = N at x0 x1 x2 y0 y1 y2 z0 z1 z2 hX hY hZ ⊢
    go_wp2_with fail
    refine (c1 _ RT V).mono ?_
    clear c1
    rintro e w3 ⟨rfl, hb⟩
    replace t0 := (hb.cell (p := ⟨w.heap.size, 0, none⟩) hBT).trans t0
    replace t1 := (hb.cell (p := ⟨w.heap.size, 1, none⟩) hBT).trans t1
    replace t2 := (hb.cell (p := ⟨w.heap.size, 2, none⟩) hBT).trans t2
    replace hBT := Nat.lt_of_lt_of_le hBT hb.size
    replace x0 := (hb.cell (p := ⟨N, 0, none⟩) hX).trans x0
    replace x1 := (hb.cell (p := ⟨N, 1, none⟩) hX).trans x1
    replace x2 := (hb.cell (p := ⟨N, 2, none⟩) hX).trans x2
    replace y0 := (hb.cell (p := ⟨N + 1, 0, none⟩) hY).trans y0
    replace y1 := (hb.cell (p := ⟨N + 1, 1, none⟩) hY).trans y1
    replace y2 := (hb.cell (p := ⟨N + 1, 2, none⟩) hY).trans y2
    replace z0 := (hb.cell (p := ⟨N + 1 + 1, 0, none⟩) hZ).trans z0
    replace z1 := (hb.cell (p := ⟨N + 1 + 1, 1, none⟩) hZ).trans z1
    replace z2 := (hb.cell (p := ⟨N + 1 + 1, 2, none⟩) hZ).trans z2
    replace hX := Nat.lt_of_lt_of_le hX hb.size
    replace hY := Nat.lt_of_lt_of_le hY hb.size
    replace hZ := Nat.lt_of_lt_of_le hZ hb.size
    replace RT := RT.later hb
    replace V := V.later hb
    replace hB := below_step hB hb
    clear hb
    go_wp2_with fail
    refine (c2 _ V).mono ?_
    clear c2
    rintro e w4 ⟨rfl, hb⟩
    replace t0 := (hb.cell (p := ⟨w.heap.size, 0, none⟩) hBT).trans t0
    replace t1 := (hb.cell (p := ⟨w.heap.size, 1, none⟩) hBT).trans t1
    replace t2 := (hb.cell (p := ⟨w.heap.size, 2, none⟩) hBT).trans t2
    replace hBT := Nat.lt_of_lt_of_le hBT hb.size
    replace x0 := (hb.cell (p := ⟨N, 0, none⟩) hX).trans x0
    replace x1 := (hb.cell (p := ⟨N, 1, none⟩) hX).trans x1
    replace x2 := (hb.cell (p := ⟨N, 2, none⟩) hX).trans x2
    replace y0 := (hb.cell (p := ⟨N + 1, 0, none⟩) hY).trans y0
    replace y1 := (hb.cell (p := ⟨N + 1, 1, none⟩) hY).trans y1
    replace y2 := (hb.cell (p := ⟨N + 1, 2, none⟩) hY).trans y2
    replace z0 := (hb.cell (p := ⟨N + 1 + 1, 0, none⟩) hZ).trans z0
    replace z1 := (hb.cell (p := ⟨N + 1 + 1, 1, none⟩) hZ).trans z1
    replace z2 := (hb.cell (p := ⟨N + 1 + 1, 2, none⟩) hZ).trans z2
    replace hX := Nat.lt_of_lt_of_le hX hb.size
    replace hY := Nat.lt_of_lt_of_le hY hb.size
    replace hZ := Nat.lt_of_lt_of_le hZ hb.size
    replace RT := RT.later hb
    replace V := V.later hb
    replace hB := below_step hB hb
    clear hb
    go_wp2_with fail
    refine (c3 _ RT V).mono ?_
    clear c3
    rintro e w5 ⟨rfl, hb⟩
    replace t0 := (hb.cell (p := ⟨w.heap.size, 0, none⟩) hBT).trans t0
    replace t1 := (hb.cell (p := ⟨w.heap.size, 1, none⟩) hBT).trans t1
    replace t2 := (hb.cell (p := ⟨w.heap.size, 2, none⟩) hBT).trans t2
    replace hBT := Nat.lt_of_lt_of_le hBT hb.size
    replace x0 := (hb.cell (p := ⟨N, 0, none⟩) hX).trans x0
    replace x1 := (hb.cell (p := ⟨N, 1, none⟩) hX).trans x1
    replace x2 := (hb.cell (p := ⟨N, 2, none⟩) hX).trans x2
    replace y0 := (hb.cell (p := ⟨N + 1, 0, none⟩) hY).trans y0
    replace y1 := (hb.cell (p := ⟨N + 1, 1, none⟩) hY).trans y1
    replace y2 := (hb.cell (p := ⟨N + 1, 2, none⟩) hY).trans y2
    replace z0 := (hb.cell (p := ⟨N + 1 + 1, 0, none⟩) hZ).trans z0
    replace z1 := (hb.cell (p := ⟨N + 1 + 1, 1, none⟩) hZ).trans z1
    replace z2 := (hb.cell (p := ⟨N + 1 + 1, 2, none⟩) hZ).trans z2
    replace hX := Nat.lt_of_lt_of_le hX hb.size
    replace hY := Nat.lt_of_lt_of_le hY hb.size
    replace hZ := Nat.lt_of_lt_of_le hZ hb.size
    replace RT := RT.later hb
    replace V := V.later hb
    replace hB := below_step hB hb
    clear hb
    go_wp2_with fail
    go_ret
    exact ⟨rfl, hB⟩
end Go.Proofs.Ytnmijgnflemhkaa
