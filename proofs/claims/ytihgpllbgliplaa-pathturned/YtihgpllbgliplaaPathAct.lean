/- What the code's action and sent answer. -/
import Derived.Test.YtihgpllbgliplaaPathIf
import Derived.Test.YtihgpllbgliplaaPickFirst
import Derived.Test.YtihgpllbgliplaaTopFar
import Derived.Test.YtihgpllbgliplaaConfCAt
import Derived.Deep.RegionHeld3
namespace Go.Proofs.Ytihgpllbgliplaa
open Go.ChangeShapes Go.WideShapes Go.ChangeAt Go.RowKit Pk Cf Pa
set_option linter.unusedVariables false
set_option linter.unusedSimpArgs false

section
variable (w : World) {a : Option Addr} {k : Nat} {C : Cnf}
set_option maxRecDepth 100000 in
set_option maxHeartbeats 4000000 in
theorem action_none (fi fs fd ft fg fw fp : Int) (hf : firstL fp fd (atC C fw) = -1) (V : Lists w a k C) (hb60 : ∀ r ∈ C, r.length ≤ 60) :
    Calls Try.prog 20 #[.slice a C.length k, .agg #[.int .i64 fi, .int .i64 fs, .int .i64 fd, .int .i64 ft, .int .i64 fg, .int .i64 fw, .int .i64 fp]] w fun e w' => e = .returned (.tuple #[.agg #[.int .i64 0, .int .i64 0], .bool false]) ∧ Below w.heap.size w w' := by
  obtain ⟨W, hW⟩ : ∃ W, W = (w.alloc (.cells #[.int .i64 fi, .int .i64 fs, .int .i64 fd, .int .i64 ft, .int .i64 fg, .int .i64 fw, .int .i64 fp] 30)).alloc (.cells #[.int .i64 0, .int .i64 0] 50) := ⟨_, rfl⟩
  have h1 := below_new w (.cells #[.int .i64 fi, .int .i64 fs, .int .i64 fd, .int .i64 ft, .int .i64 fg, .int .i64 fw, .int .i64 fp] 30)
  have h2 := below_new (w.alloc (.cells #[.int .i64 fi, .int .i64 fs, .int .i64 fd, .int .i64 ft, .int .i64 fg, .int .i64 fw, .int .i64 fp] 30)) (.cells #[.int .i64 0, .int .i64 0] 50)
  have X1 : Lies (w.alloc (.cells #[.int .i64 fi, .int .i64 fs, .int .i64 fd, .int .i64 ft, .int .i64 fg, .int .i64 fw, .int .i64 fp] 30)) w.heap.size [fi, fs, fd, ft, fg, fw, fp] := Lies.new w [fi, fs, fd, ft, fg, fw, fp] 30 rfl
  have X2 : Lies ((w.alloc (.cells #[.int .i64 fi, .int .i64 fs, .int .i64 fd, .int .i64 ft, .int .i64 fg, .int .i64 fw, .int .i64 fp] 30)).alloc (.cells #[.int .i64 0, .int .i64 0] 50)) (w.heap.size + 1) [0, 0] := Lies.new (w.alloc (.cells #[.int .i64 fi, .int .i64 fs, .int .i64 fd, .int .i64 ft, .int .i64 fg, .int .i64 fw, .int .i64 fp] 30)) [0, 0] 50 (by simp)
  replace X1 := X1.later h2
  have hB := below_step h1 h2
  rw [← hW] at X1 X2 hB
  have cA := cat_any W (V.later hB) hb60 fw
  clear h1 h2 V
  go_enter Try.func20, Try.ntmps20
  go_wp2_with fail
  rw [← hW]
  clear hW
  obtain ⟨r0, r1, r2, r3, r4, r5, r6⟩ := X1.seven
  go_wp2_with fail
  refine cA.mono ?_
  clear cA r0 r1 r2 r3 r4 r5 r6
  rintro e w1 ⟨y, j, rfl, R1, -, hb1⟩
  replace X1 := X1.later hb1
  replace X2 := X2.later hb1
  replace hB := below_step hB hb1
  clear hb1
  have cF := first_any w1 R1 fp fd
  rw [hf] at cF
  clear R1
  obtain ⟨r0, r1, r2, r3, r4, r5, r6⟩ := X1.seven
  go_wp2_with fail
  refine cF.mono ?_
  clear cF r0 r1 r2 r3 r4 r5 r6 X1
  rintro e w2 ⟨rfl, hb2⟩
  replace X2 := X2.later hb2
  replace hB := below_step hB hb2
  clear hb2
  have c0 := X2.cells 0 _ rfl
  have c1 := X2.cells 1 _ rfl
  have z := X2.fz
  go_wp2_with fail
  have hS := (hB.setCell (p := ⟨w.heap.size + 1, 0, none⟩) (by show w.heap.size ≤ w.heap.size + 1; omega) (.int .i64 0)).setCell (p := ⟨w.heap.size + 1, 1, none⟩) (by show w.heap.size ≤ w.heap.size + 1; omega) (.int .i64 0)
  replace X2 := (X2.set1 (j := 0) (by simp) 0).set1 (j := 1) (by simp) 0
  clear c0 c1 z hB
  generalize (w2.setCell ⟨w.heap.size + 1, 0, none⟩ (.int .i64 0)).setCell ⟨w.heap.size + 1, 1, none⟩ (.int .i64 0) = w3 at hS X2 ⊢
  have c0 := X2.cells 0 _ rfl
  have c1 := X2.cells 1 _ rfl
  refine bodyPost_ret (v := .tuple #[.agg #[.int .i64 0, .int .i64 0], .bool false]) (by simp [results, Try.results20, go_sem, c0, c1]) rfl ?_
  exact ⟨rfl, hS⟩
set_option maxRecDepth 100000 in
set_option maxHeartbeats 4000000 in
theorem action_some (fi fs fd ft fg fw fp : Int) {q : Nat} (hq : q < (atC C fw).length) (hf : firstL fp fd (atC C fw) = (q : Int)) (ra rn ri rp rk rt : Int) (hr : (atC C fw).getD q default = (⟨ra, rn, ri, rp, rk, rt⟩ : Rl)) (V : Lists w a k C) (hb60 : ∀ r ∈ C, r.length ≤ 60) :
    Calls Try.prog 20 #[.slice a C.length k, .agg #[.int .i64 fi, .int .i64 fs, .int .i64 fd, .int .i64 ft, .int .i64 fg, .int .i64 fw, .int .i64 fp]] w fun e w' => e = .returned (.tuple #[.agg #[.int .i64 rk, .int .i64 rt], .bool true]) ∧ Below w.heap.size w w' := by
  obtain ⟨W, hW⟩ : ∃ W, W = (w.alloc (.cells #[.int .i64 fi, .int .i64 fs, .int .i64 fd, .int .i64 ft, .int .i64 fg, .int .i64 fw, .int .i64 fp] 30)).alloc (.cells #[.int .i64 0, .int .i64 0] 50) := ⟨_, rfl⟩
  have h1 := below_new w (.cells #[.int .i64 fi, .int .i64 fs, .int .i64 fd, .int .i64 ft, .int .i64 fg, .int .i64 fw, .int .i64 fp] 30)
  have h2 := below_new (w.alloc (.cells #[.int .i64 fi, .int .i64 fs, .int .i64 fd, .int .i64 ft, .int .i64 fg, .int .i64 fw, .int .i64 fp] 30)) (.cells #[.int .i64 0, .int .i64 0] 50)
  have X1 : Lies (w.alloc (.cells #[.int .i64 fi, .int .i64 fs, .int .i64 fd, .int .i64 ft, .int .i64 fg, .int .i64 fw, .int .i64 fp] 30)) w.heap.size [fi, fs, fd, ft, fg, fw, fp] := Lies.new w [fi, fs, fd, ft, fg, fw, fp] 30 rfl
  have X2 : Lies ((w.alloc (.cells #[.int .i64 fi, .int .i64 fs, .int .i64 fd, .int .i64 ft, .int .i64 fg, .int .i64 fw, .int .i64 fp] 30)).alloc (.cells #[.int .i64 0, .int .i64 0] 50)) (w.heap.size + 1) [0, 0] := Lies.new (w.alloc (.cells #[.int .i64 fi, .int .i64 fs, .int .i64 fd, .int .i64 ft, .int .i64 fg, .int .i64 fw, .int .i64 fp] 30)) [0, 0] 50 (by simp)
  replace X1 := X1.later h2
  have hB := below_step h1 h2
  rw [← hW] at X1 X2 hB
  have cA := cat_any W (V.later hB) hb60 fw
  clear h1 h2 V
  go_enter Try.func20, Try.ntmps20
  go_wp2_with fail
  rw [← hW]
  clear hW
  obtain ⟨r0, r1, r2, r3, r4, r5, r6⟩ := X1.seven
  go_wp2_with fail
  refine cA.mono ?_
  clear cA r0 r1 r2 r3 r4 r5 r6
  rintro e w1 ⟨y, j, rfl, R1, -, hb1⟩
  replace X1 := X1.later hb1
  replace X2 := X2.later hb1
  replace hB := below_step hB hb1
  clear hb1
  have cF := first_any w1 R1 fp fd
  rw [hf] at cF
  obtain ⟨r0, r1, r2, r3, r4, r5, r6⟩ := X1.seven
  go_wp2_with fail
  refine cF.mono ?_
  clear cF r0 r1 r2 r3 r4 r5 r6 X1
  rintro e w2 ⟨rfl, hb2⟩
  replace X2 := X2.later hb2
  replace R1 := R1.later hb2
  replace hB := below_step hB hb2
  clear hb2
  have hq0 : ¬ (q : Int) < 0 := by omega
  have hqz : (q : Int) < ((atC C fw).length : Int) := by omega
  have hmx := Nat.le_trans R1.le R1.max
  unfold maxLen at hmx
  obtain ⟨b, o, rfl, hbb, hc⟩ := R1.at (getD_at hq)
  rw [hr] at hc
  have v4 := hc 4 _ rfl
  have v5 := hc 5 _ rfl
  clear hc hr R1
  have c0 := X2.cells 0 _ rfl
  have c1 := X2.cells 1 _ rfl
  have z := X2.fz
  go_wp2_with fail
  have hS := (hB.setCell (p := ⟨w.heap.size + 1, 0, none⟩) (by show w.heap.size ≤ w.heap.size + 1; omega) (.int .i64 rk)).setCell (p := ⟨w.heap.size + 1, 1, none⟩) (by show w.heap.size ≤ w.heap.size + 1; omega) (.int .i64 rt)
  replace X2 := (X2.set1 (j := 0) (by simp) rk).set1 (j := 1) (by simp) rt
  clear c0 c1 z hB v4 v5
  generalize (w2.setCell ⟨w.heap.size + 1, 0, none⟩ (.int .i64 rk)).setCell ⟨w.heap.size + 1, 1, none⟩ (.int .i64 rt) = w3 at hS X2 ⊢
  have c0 := X2.cells 0 _ rfl
  have c1 := X2.cells 1 _ rfl
  refine bodyPost_ret (v := .tuple #[.agg #[.int .i64 rk, .int .i64 rt], .bool true]) (by simp [results, Try.results20, go_sem, c0, c1]) rfl ?_
  exact ⟨rfl, hS⟩
end
section
variable (s n : Int) (w : World) {x : Option Addr} {c : Nat} {l : List Tp.Lk}
theorem boxesS (w : World) (s n : Int) (x : Option Addr) (l : List Tp.Lk) (c : Nat) (fi fs fd ft fg fw fp : Int) :
    ∃ W, W = (((w.alloc (.cells #[.int .i64 s, .int .i64 n, .slice x l.length c] 24)).alloc (.cells #[.int .i64 fi, .int .i64 fs, .int .i64 fd, .int .i64 ft, .int .i64 fg, .int .i64 fw, .int .i64 fp] 30)).alloc (.cells #[.int .i64 0, .int .i64 0, .int .i64 0, .int .i64 0, .int .i64 0, .int .i64 0, .int .i64 0] 30)) ∧ Below w.heap.size w W ∧ W.cell? ⟨w.heap.size, 0, none⟩ = some (.int .i64 s) ∧ W.cell? ⟨w.heap.size, 1, none⟩ = some (.int .i64 n) ∧ W.cell? ⟨w.heap.size, 2, none⟩ = some (.slice x l.length c) ∧
      Lies W (w.heap.size + 1) [fi, fs, fd, ft, fg, fw, fp] ∧ Lies W (w.heap.size + 1 + 1) [0, 0, 0, 0, 0, 0, 0] := by
  refine ⟨_, rfl, ?_⟩
  have h0 := below_new w (.cells #[.int .i64 s, .int .i64 n, .slice x l.length c] 24)
  obtain ⟨t0, t1, t2⟩ := box3 w (.int .i64 s) (.int .i64 n) (.slice x l.length c) 24
  have lt : w.heap.size < (w.alloc (.cells #[.int .i64 s, .int .i64 n, .slice x l.length c] 24)).heap.size := by simp
  have h1 := below_new (w.alloc (.cells #[.int .i64 s, .int .i64 n, .slice x l.length c] 24)) (.cells #[.int .i64 fi, .int .i64 fs, .int .i64 fd, .int .i64 ft, .int .i64 fg, .int .i64 fw, .int .i64 fp] 30)
  have X1 : Lies ((w.alloc (.cells #[.int .i64 s, .int .i64 n, .slice x l.length c] 24)).alloc (.cells #[.int .i64 fi, .int .i64 fs, .int .i64 fd, .int .i64 ft, .int .i64 fg, .int .i64 fw, .int .i64 fp] 30)) (w.heap.size + 1) [fi, fs, fd, ft, fg, fw, fp] := Lies.new (w.alloc (.cells #[.int .i64 s, .int .i64 n, .slice x l.length c] 24)) [fi, fs, fd, ft, fg, fw, fp] 30 (by simp)
  have h2 := below_new ((w.alloc (.cells #[.int .i64 s, .int .i64 n, .slice x l.length c] 24)).alloc (.cells #[.int .i64 fi, .int .i64 fs, .int .i64 fd, .int .i64 ft, .int .i64 fg, .int .i64 fw, .int .i64 fp] 30)) (.cells #[.int .i64 0, .int .i64 0, .int .i64 0, .int .i64 0, .int .i64 0, .int .i64 0, .int .i64 0] 30)
  have X2 : Lies (((w.alloc (.cells #[.int .i64 s, .int .i64 n, .slice x l.length c] 24)).alloc (.cells #[.int .i64 fi, .int .i64 fs, .int .i64 fd, .int .i64 ft, .int .i64 fg, .int .i64 fw, .int .i64 fp] 30)).alloc (.cells #[.int .i64 0, .int .i64 0, .int .i64 0, .int .i64 0, .int .i64 0, .int .i64 0, .int .i64 0] 30)) (w.heap.size + 1 + 1) [0, 0, 0, 0, 0, 0, 0] := Lies.new ((w.alloc (.cells #[.int .i64 s, .int .i64 n, .slice x l.length c] 24)).alloc (.cells #[.int .i64 fi, .int .i64 fs, .int .i64 fd, .int .i64 ft, .int .i64 fg, .int .i64 fw, .int .i64 fp] 30)) [0, 0, 0, 0, 0, 0, 0] 30 (by simp)
  replace t0 := (h1.cell (p := ⟨w.heap.size, 0, none⟩) lt).trans t0
  replace t1 := (h1.cell (p := ⟨w.heap.size, 1, none⟩) lt).trans t1
  replace t2 := (h1.cell (p := ⟨w.heap.size, 2, none⟩) lt).trans t2
  replace lt := Nat.lt_of_lt_of_le lt h1.size
  replace t0 := (h2.cell (p := ⟨w.heap.size, 0, none⟩) lt).trans t0
  replace t1 := (h2.cell (p := ⟨w.heap.size, 1, none⟩) lt).trans t1
  replace t2 := (h2.cell (p := ⟨w.heap.size, 2, none⟩) lt).trans t2
  exact ⟨below_step (below_step h0 h1) h2, t0, t1, t2, X1.later h2, X2⟩
set_option maxRecDepth 100000 in
set_option maxHeartbeats 4000000 in
theorem sent_none (fi fs fd ft fg fw fp p : Int) (hfar : Tp.far s n l (fw, p) = none) (hwe : We (fw, p)) (hl : l.length ≤ 100) (RT : Rds Tp.fK 4 w x c l) :
    Calls Try.prog 21 #[.agg #[.int .i64 s, .int .i64 n, .slice x l.length c], .agg #[.int .i64 fi, .int .i64 fs, .int .i64 fd, .int .i64 ft, .int .i64 fg, .int .i64 fw, .int .i64 fp], .int .i64 p] w fun e w' => e = .returned (.tuple #[.int .i64 1, .agg #[.int .i64 0, .int .i64 0, .int .i64 0, .int .i64 0, .int .i64 0, .int .i64 0, .int .i64 0]]) ∧ Below w.heap.size w w' := by
  obtain ⟨W, hW, hB, t0, t1, t2, X1, X2⟩ := boxesS w s n x l c fi fs fd ft fg fw fp
  have cG := far_any s n W (RT.later hB) hl fw p hwe
  rw [hfar] at cG
  dsimp only [other, Option.getD_some, Option.getD_none, Option.isSome_some, Option.isSome_none] at cG
  clear RT hwe hfar
  go_enter Try.func21, Try.ntmps21
  go_wp2_with fail
  rw [← hW]
  clear hW
  obtain ⟨r0, r1, r2, r3, r4, r5, r6⟩ := X1.seven
  go_wp2_with fail
  refine cG.mono ?_
  clear cG r0 r1 r2 r3 r4 r5 r6 X1 t0 t1 t2
  rintro e w1 ⟨rfl, hb1⟩
  replace X2 := X2.later hb1
  replace hB := below_step hB hb1
  clear hb1
  obtain ⟨r0, r1, r2, r3, r4, r5, r6⟩ := X2.seven
  have z := X2.fz
  have lt := X2.lt
  go_wp2_with fail
  have hS := below_lay7 hB (b := w.heap.size + 1 + 1) (by omega) 0 0 0 0 0 0 0
  replace X2 := X2.put7 0 0 0 0 0 0 0
  clear r0 r1 r2 r3 r4 r5 r6 z lt hB
  generalize hV : lay7 w1 (w.heap.size + 1 + 1) 0 0 0 0 0 0 0 = V at hS X2
  unfold lay7 at hV
  rw [hV]
  clear hV
  obtain ⟨r0, r1, r2, r3, r4, r5, r6⟩ := X2.seven
  refine bodyPost_ret (v := .tuple #[.int .i64 1, .agg #[.int .i64 0, .int .i64 0, .int .i64 0, .int .i64 0, .int .i64 0, .int .i64 0, .int .i64 0]]) (by simp [results, Try.results21, go_sem, r0, r1, r2, r3, r4, r5, r6]) rfl ?_
  exact ⟨rfl, hS⟩
set_option maxRecDepth 100000 in
set_option maxHeartbeats 8000000 in
theorem sent_some (fi fs fd ft fg fw fp p ex ey : Int) (hfar : Tp.far s n l (fw, p) = some (ex, ey)) (hwe : We (fw, p)) (hl : l.length ≤ 100) (ht : 1 ≤ ft) (ht2 : ft ≤ 9223372036854775807) (RT : Rds Tp.fK 4 w x c l) :
    Calls Try.prog 21 #[.agg #[.int .i64 s, .int .i64 n, .slice x l.length c], .agg #[.int .i64 fi, .int .i64 fs, .int .i64 fd, .int .i64 ft, .int .i64 fg, .int .i64 fw, .int .i64 fp], .int .i64 p] w fun e w' => e = .returned (.tuple #[.int .i64 0, .agg #[.int .i64 fi, .int .i64 fs, .int .i64 fd, .int .i64 (ft - 1), .int .i64 fg, .int .i64 ex, .int .i64 ey]]) ∧ Below w.heap.size w w' := by
  obtain ⟨W, hW, hB, t0, t1, t2, X1, X2⟩ := boxesS w s n x l c fi fs fd ft fg fw fp
  have cG := far_any s n W (RT.later hB) hl fw p hwe
  rw [hfar] at cG
  dsimp only [other, Option.getD_some, Option.getD_none, Option.isSome_some, Option.isSome_none] at cG
  clear RT hwe hfar
  go_enter Try.func21, Try.ntmps21
  go_wp2_with fail
  rw [← hW]
  clear hW
  obtain ⟨r0, r1, r2, r3, r4, r5, r6⟩ := X1.seven
  go_wp2_with fail
  refine cG.mono ?_
  clear cG r0 r1 r2 r3 r4 r5 r6 t0 t1 t2
  rintro e w1 ⟨rfl, hb1⟩
  replace X1 := X1.later hb1
  replace X2 := X2.later hb1
  replace hB := below_step hB hb1
  clear hb1
  obtain ⟨r0, r1, r2, r3, r4, r5, r6⟩ := X1.seven
  have z := X1.fz
  have lt := X1.lt
  go_wp2_with fail
  have hS := ((hB.setCell (p := ⟨w.heap.size + 1, 3, none⟩) (by show w.heap.size ≤ w.heap.size + 1; omega) (.int .i64 (ft - 1))).setCell (p := ⟨w.heap.size + 1, 5, none⟩) (by show w.heap.size ≤ w.heap.size + 1; omega) (.int .i64 ex)).setCell (p := ⟨w.heap.size + 1, 6, none⟩) (by show w.heap.size ≤ w.heap.size + 1; omega) (.int .i64 ey)
  replace X1 := ((X1.set1 (j := 3) (by simp) (ft - 1)).set1 (j := 5) (by simp) ex).set1 (j := 6) (by simp) ey
  replace X2 := ((X2.far1 (b := w.heap.size + 1) (by omega) 3 (.int .i64 (ft - 1))).far1 (b := w.heap.size + 1) (by omega) 5 (.int .i64 ex)).far1 (b := w.heap.size + 1) (by omega) 6 (.int .i64 ey)
  clear r0 r1 r2 r3 r4 r5 r6 z lt hB
  generalize (((w1.setCell ⟨w.heap.size + 1, 3, none⟩ (.int .i64 (ft - 1))).setCell ⟨w.heap.size + 1, 5, none⟩ (.int .i64 ex)).setCell ⟨w.heap.size + 1, 6, none⟩ (.int .i64 ey)) = W3 at hS X1 X2 ⊢
  simp only [List.set_cons_succ, List.set_cons_zero] at X1
  have S0 : Below w.heap.size w W3.drew ∧ Lies W3.drew (w.heap.size + 1) [fi, fs, fd, ft - 1, fg, ex, ey] := ⟨hS.drew, X1.later (Below.refl _ _).drew⟩
  replace X2 := X2.later (Below.refl W3.heap.size W3).drew
  clear X1 hS
  refine wp_region_noPanic ?_
  refine wp_region_held_drew (S := fun w' => Below w.heap.size w w' ∧ Lies w' (w.heap.size + 1) [fi, fs, fd, ft - 1, fg, ex, ey]) (by kernel_rfl) S0 (fun hH => ?_)
  clear S0
  generalize W3.drew = V0 at hH X2 ⊢
  refine wpAnyH_take (i := 0) (oi := { dst := some 33, op := _, type := _, pos := _, after := _, guard := _ }) (v := ?_) rfl (by kernel_rfl) (by kernel_rfl) (by kernel_rfl) (fun _ _ _ h => h) (Or.inl ⟨by rfl, ?_⟩) hH ?_
  rotate_left
  · intro wz hSw
    (try dsimp only at hSw)
    obtain ⟨r0, r1, r2, r3, r4, r5, r6⟩ := hSw.2.seven
    first | (go_simp; done) | (go_simp; with_reducible rfl)
  try simp only [Act.put, List.setIfInBounds_toArray, List.set_cons_zero, List.set_cons_succ]
  refine wpAnyH_take (i := 1) (oi := { dst := some 6, op := _, type := _, pos := _, after := _, guard := _ }) (v := ?_) rfl (by kernel_rfl) (by kernel_rfl) (by kernel_rfl) (fun _ _ _ h => h) (Or.inl ⟨by rfl, ?_⟩) hH ?_
  rotate_left
  · intro wz hSw
    first | (go_simp; done) | (go_simp; with_reducible rfl)
  try simp only [Act.put, List.setIfInBounds_toArray, List.set_cons_zero, List.set_cons_succ]
  refine wpAnyH_ready (rs := [2]) (by kernel_rfl) (by simp) ?_
  refine (AllReadyH.cons (o := { dst := none, op := _, type := _, pos := _, after := _, guard := _ }) rfl (fun K hK => ?_) AllReadyH.nil)
  obtain ⟨r0, r1, r2, r3, r4, r5, r6⟩ := X2.seven
  have pl := X2.lt
  have pf := X2.fz
  go_simp
  have hn : Below w.heap.size w (lay7 V0 (w.heap.size + 1 + 1) fi fs fd (ft - 1) fg ex ey) ∧ Lies (lay7 V0 (w.heap.size + 1 + 1) fi fs fd (ft - 1) fg ex ey) (w.heap.size + 1) [fi, fs, fd, ft - 1, fg, ex, ey] := ⟨below_lay7 hH.1 (by omega) fi fs fd (ft - 1) fg ex ey, hH.2.far7 (by omega) fi fs fd (ft - 1) fg ex ey⟩
  replace X2 := X2.put7 fi fs fd (ft - 1) fg ex ey
  clear r0 r1 r2 r3 r4 r5 r6 pl pf
  generalize hV : lay7 V0 (w.heap.size + 1 + 1) fi fs fd (ft - 1) fg ex ey = V1 at hn X2
  unfold lay7 at hV
  rw [hV]
  clear hV
  refine hK.out _ _ hn (fun hH2 => ?_)
  clear hK K hH hn
  have hB := hH2.1
  clear hH2
  try simp only [Act.put, List.setIfInBounds_toArray, List.set_cons_zero, List.set_cons_succ]
  refine wpAnyH_done (by kernel_rfl) ?_ _
  refine NoPanic.normal ?_
  obtain ⟨r0, r1, r2, r3, r4, r5, r6⟩ := X2.seven
  clear X2
  go_wp2_with fail
  refine bodyPost_ret (v := .tuple #[.int .i64 0, .agg #[.int .i64 fi, .int .i64 fs, .int .i64 fd, .int .i64 (ft - 1), .int .i64 fg, .int .i64 ex, .int .i64 ey]]) (by simp [results, Try.results21, go_sem, r0, r1, r2, r3, r4, r5, r6]) rfl ?_
  exact ⟨rfl, hB⟩
end
end Go.Proofs.Ytihgpllbgliplaa
