/- What the code's Step answers. -/
import Derived.Test.YtihgpllbgliplaaPathAct
import Derived.Test.YtihgpllbgliplaaPathWf
namespace Go.Proofs.Ytihgpllbgliplaa
open Go.ChangeShapes Go.WideShapes Go.ChangeAt Go.RowKit Pk Cf Pa
set_option linter.unusedVariables false
set_option linter.unusedSimpArgs false

section
variable {s n : Int} {l : List Tp.Lk} {C : Cnf} {f : Fl}
theorem cstepP_no (h : f.ttl < 1) : stepP s n l C f = (hop f 5 0, noFl) := by unfold stepP; rw [if_pos h]
theorem cstepP_none (h : ¬ f.ttl < 1) (h2 : firstL f.i f.dst (atC C f.sw) = -1) : stepP s n l C f = (hop f 3 0, noFl) := by
  unfold stepP ruleP
  rw [if_neg h, h2, if_pos (by decide)]; rfl
theorem cstepP_rule (h : ¬ f.ttl < 1) {q : Nat} (h2 : firstL f.i f.dst (atC C f.sw) = (q : Int)) : stepP s n l C f = doP s n l f (some ((atC C f.sw).getD q default)) := by
  unfold stepP ruleP
  rw [if_neg h, h2, if_neg (by omega), Int.toNat_natCast]
theorem cdoP_by {r : Rl} (h : ¬ r.k = 1) : doP s n l f (some r) = (hop f 2 0, noFl) := by simp only [doP, if_neg h]
theorem cdoP_del {r : Rl} (h : r.k = 1) (h2 : Tp.far s n l (f.sw, r.t) = none) : doP s n l f (some r) = (hop f 1 r.t, noFl) := by simp only [doP, if_pos h, h2]
theorem cdoP_went {r : Rl} {e : Tp.En} (h : r.k = 1) (h2 : Tp.far s n l (f.sw, r.t) = some e) : doP s n l f (some r) = (hop f 0 r.t, { f with ttl := f.ttl - 1, sw := e.1, i := e.2 }) := by simp only [doP, if_pos h, h2]
end
theorem boxesC (w : World) (s n : Int) (x : Option Addr) (l : List Tp.Lk) (c : Nat) (fi fs fd ft fg fw fp : Int) :
    ∃ W, W = (((((w.alloc (.cells #[.int .i64 s, .int .i64 n, .slice x l.length c] 24)).alloc (.cells #[.int .i64 fi, .int .i64 fs, .int .i64 fd, .int .i64 ft, .int .i64 fg, .int .i64 fw, .int .i64 fp] 30)).alloc (.cells #[.int .i64 0, .int .i64 0, .int .i64 0, .int .i64 0, .int .i64 0, .int .i64 0, .int .i64 0] 34)).alloc (.cells #[.int .i64 0, .int .i64 0, .int .i64 0, .int .i64 0, .int .i64 0, .int .i64 0, .int .i64 0] 30)).alloc (.cells #[.int .i64 0, .int .i64 fi, .int .i64 fw, .int .i64 fp, .int .i64 fg, .int .i64 0, .int .i64 0] 34)) ∧ Below w.heap.size w W ∧ W.cell? ⟨w.heap.size, 0, none⟩ = some (.int .i64 s) ∧ W.cell? ⟨w.heap.size, 1, none⟩ = some (.int .i64 n) ∧ W.cell? ⟨w.heap.size, 2, none⟩ = some (.slice x l.length c) ∧ Lies W (w.heap.size + 1) [fi, fs, fd, ft, fg, fw, fp] ∧ Lies W (w.heap.size + 1 + 1) [0, 0, 0, 0, 0, 0, 0] ∧ Lies W (w.heap.size + 1 + 1 + 1) [0, 0, 0, 0, 0, 0, 0] ∧ Lies W (w.heap.size + 1 + 1 + 1 + 1) [0, fi, fw, fp, fg, 0, 0] := by
  refine ⟨_, rfl, ?_⟩
  have h0 := below_new w (.cells #[.int .i64 s, .int .i64 n, .slice x l.length c] 24)
  obtain ⟨t0, t1, t2⟩ := box3 w (.int .i64 s) (.int .i64 n) (.slice x l.length c) 24
  have lt : w.heap.size < (w.alloc (.cells #[.int .i64 s, .int .i64 n, .slice x l.length c] 24)).heap.size := by simp
  have X1 : Lies ((w.alloc (.cells #[.int .i64 s, .int .i64 n, .slice x l.length c] 24)).alloc (.cells #[.int .i64 fi, .int .i64 fs, .int .i64 fd, .int .i64 ft, .int .i64 fg, .int .i64 fw, .int .i64 fp] 30)) (w.heap.size + 1) [fi, fs, fd, ft, fg, fw, fp] := Lies.new (w.alloc (.cells #[.int .i64 s, .int .i64 n, .slice x l.length c] 24)) [fi, fs, fd, ft, fg, fw, fp] 30 (by simp)
  have h1 := below_new (w.alloc (.cells #[.int .i64 s, .int .i64 n, .slice x l.length c] 24)) (.cells #[.int .i64 fi, .int .i64 fs, .int .i64 fd, .int .i64 ft, .int .i64 fg, .int .i64 fw, .int .i64 fp] 30)
  replace t0 := (h1.cell (p := ⟨w.heap.size, 0, none⟩) lt).trans t0
  replace t1 := (h1.cell (p := ⟨w.heap.size, 1, none⟩) lt).trans t1
  replace t2 := (h1.cell (p := ⟨w.heap.size, 2, none⟩) lt).trans t2
  replace lt := Nat.lt_of_lt_of_le lt h1.size
  have X2 : Lies (((w.alloc (.cells #[.int .i64 s, .int .i64 n, .slice x l.length c] 24)).alloc (.cells #[.int .i64 fi, .int .i64 fs, .int .i64 fd, .int .i64 ft, .int .i64 fg, .int .i64 fw, .int .i64 fp] 30)).alloc (.cells #[.int .i64 0, .int .i64 0, .int .i64 0, .int .i64 0, .int .i64 0, .int .i64 0, .int .i64 0] 34)) (w.heap.size + 1 + 1) [0, 0, 0, 0, 0, 0, 0] := Lies.new ((w.alloc (.cells #[.int .i64 s, .int .i64 n, .slice x l.length c] 24)).alloc (.cells #[.int .i64 fi, .int .i64 fs, .int .i64 fd, .int .i64 ft, .int .i64 fg, .int .i64 fw, .int .i64 fp] 30)) [0, 0, 0, 0, 0, 0, 0] 34 (by simp)
  have h2 := below_new ((w.alloc (.cells #[.int .i64 s, .int .i64 n, .slice x l.length c] 24)).alloc (.cells #[.int .i64 fi, .int .i64 fs, .int .i64 fd, .int .i64 ft, .int .i64 fg, .int .i64 fw, .int .i64 fp] 30)) (.cells #[.int .i64 0, .int .i64 0, .int .i64 0, .int .i64 0, .int .i64 0, .int .i64 0, .int .i64 0] 34)
  replace t0 := (h2.cell (p := ⟨w.heap.size, 0, none⟩) lt).trans t0
  replace t1 := (h2.cell (p := ⟨w.heap.size, 1, none⟩) lt).trans t1
  replace t2 := (h2.cell (p := ⟨w.heap.size, 2, none⟩) lt).trans t2
  replace lt := Nat.lt_of_lt_of_le lt h2.size
  replace X1 := X1.later h2
  have X3 : Lies ((((w.alloc (.cells #[.int .i64 s, .int .i64 n, .slice x l.length c] 24)).alloc (.cells #[.int .i64 fi, .int .i64 fs, .int .i64 fd, .int .i64 ft, .int .i64 fg, .int .i64 fw, .int .i64 fp] 30)).alloc (.cells #[.int .i64 0, .int .i64 0, .int .i64 0, .int .i64 0, .int .i64 0, .int .i64 0, .int .i64 0] 34)).alloc (.cells #[.int .i64 0, .int .i64 0, .int .i64 0, .int .i64 0, .int .i64 0, .int .i64 0, .int .i64 0] 30)) (w.heap.size + 1 + 1 + 1) [0, 0, 0, 0, 0, 0, 0] := Lies.new (((w.alloc (.cells #[.int .i64 s, .int .i64 n, .slice x l.length c] 24)).alloc (.cells #[.int .i64 fi, .int .i64 fs, .int .i64 fd, .int .i64 ft, .int .i64 fg, .int .i64 fw, .int .i64 fp] 30)).alloc (.cells #[.int .i64 0, .int .i64 0, .int .i64 0, .int .i64 0, .int .i64 0, .int .i64 0, .int .i64 0] 34)) [0, 0, 0, 0, 0, 0, 0] 30 (by simp)
  have h3 := below_new (((w.alloc (.cells #[.int .i64 s, .int .i64 n, .slice x l.length c] 24)).alloc (.cells #[.int .i64 fi, .int .i64 fs, .int .i64 fd, .int .i64 ft, .int .i64 fg, .int .i64 fw, .int .i64 fp] 30)).alloc (.cells #[.int .i64 0, .int .i64 0, .int .i64 0, .int .i64 0, .int .i64 0, .int .i64 0, .int .i64 0] 34)) (.cells #[.int .i64 0, .int .i64 0, .int .i64 0, .int .i64 0, .int .i64 0, .int .i64 0, .int .i64 0] 30)
  replace t0 := (h3.cell (p := ⟨w.heap.size, 0, none⟩) lt).trans t0
  replace t1 := (h3.cell (p := ⟨w.heap.size, 1, none⟩) lt).trans t1
  replace t2 := (h3.cell (p := ⟨w.heap.size, 2, none⟩) lt).trans t2
  replace lt := Nat.lt_of_lt_of_le lt h3.size
  replace X1 := X1.later h3
  replace X2 := X2.later h3
  have X4 : Lies (((((w.alloc (.cells #[.int .i64 s, .int .i64 n, .slice x l.length c] 24)).alloc (.cells #[.int .i64 fi, .int .i64 fs, .int .i64 fd, .int .i64 ft, .int .i64 fg, .int .i64 fw, .int .i64 fp] 30)).alloc (.cells #[.int .i64 0, .int .i64 0, .int .i64 0, .int .i64 0, .int .i64 0, .int .i64 0, .int .i64 0] 34)).alloc (.cells #[.int .i64 0, .int .i64 0, .int .i64 0, .int .i64 0, .int .i64 0, .int .i64 0, .int .i64 0] 30)).alloc (.cells #[.int .i64 0, .int .i64 fi, .int .i64 fw, .int .i64 fp, .int .i64 fg, .int .i64 0, .int .i64 0] 34)) (w.heap.size + 1 + 1 + 1 + 1) [0, fi, fw, fp, fg, 0, 0] := Lies.new ((((w.alloc (.cells #[.int .i64 s, .int .i64 n, .slice x l.length c] 24)).alloc (.cells #[.int .i64 fi, .int .i64 fs, .int .i64 fd, .int .i64 ft, .int .i64 fg, .int .i64 fw, .int .i64 fp] 30)).alloc (.cells #[.int .i64 0, .int .i64 0, .int .i64 0, .int .i64 0, .int .i64 0, .int .i64 0, .int .i64 0] 34)).alloc (.cells #[.int .i64 0, .int .i64 0, .int .i64 0, .int .i64 0, .int .i64 0, .int .i64 0, .int .i64 0] 30)) [0, fi, fw, fp, fg, 0, 0] 34 (by simp)
  have h4 := below_new ((((w.alloc (.cells #[.int .i64 s, .int .i64 n, .slice x l.length c] 24)).alloc (.cells #[.int .i64 fi, .int .i64 fs, .int .i64 fd, .int .i64 ft, .int .i64 fg, .int .i64 fw, .int .i64 fp] 30)).alloc (.cells #[.int .i64 0, .int .i64 0, .int .i64 0, .int .i64 0, .int .i64 0, .int .i64 0, .int .i64 0] 34)).alloc (.cells #[.int .i64 0, .int .i64 0, .int .i64 0, .int .i64 0, .int .i64 0, .int .i64 0, .int .i64 0] 30)) (.cells #[.int .i64 0, .int .i64 fi, .int .i64 fw, .int .i64 fp, .int .i64 fg, .int .i64 0, .int .i64 0] 34)
  replace t0 := (h4.cell (p := ⟨w.heap.size, 0, none⟩) lt).trans t0
  replace t1 := (h4.cell (p := ⟨w.heap.size, 1, none⟩) lt).trans t1
  replace t2 := (h4.cell (p := ⟨w.heap.size, 2, none⟩) lt).trans t2
  replace lt := Nat.lt_of_lt_of_le lt h4.size
  replace X1 := X1.later h4
  replace X2 := X2.later h4
  replace X3 := X3.later h4
  exact ⟨(below_step (below_step (below_step (below_step h0 h1) h2) h3) h4), t0, t1, t2, X1, X2, X3, X4⟩
section
variable (s n : Int) (w : World) {x a : Option Addr} {c k : Nat} {l : List Tp.Lk} {C : Cnf}
set_option maxRecDepth 100000 in
set_option maxHeartbeats 4000000 in
theorem cstep_no (fi fs fd ft fg fw fp : Int) (ht : ft < 1) :
    Calls Try.prog 12 #[.agg #[.int .i64 s, .int .i64 n, .slice x l.length c], .slice a C.length k, .agg #[.int .i64 fi, .int .i64 fs, .int .i64 fd, .int .i64 ft, .int .i64 fg, .int .i64 fw, .int .i64 fp]] w fun e w' => e = .returned (.tuple #[.agg #[.int .i64 0, .int .i64 fi, .int .i64 fw, .int .i64 fp, .int .i64 fg, .int .i64 5, .int .i64 0], .agg #[.int .i64 0, .int .i64 0, .int .i64 0, .int .i64 0, .int .i64 0, .int .i64 0, .int .i64 0]]) ∧ Below w.heap.size w w' := by
  have h1 := below_new w (.cells #[.int .i64 s, .int .i64 n, .slice x l.length c] 24)
  go_enter Try.func12, Try.ntmps12
  go_wp2
  refine bodyPost_ret (v := .tuple #[.agg #[.int .i64 0, .int .i64 fi, .int .i64 fw, .int .i64 fp, .int .i64 fg, .int .i64 5, .int .i64 0], .agg #[.int .i64 0, .int .i64 0, .int .i64 0, .int .i64 0, .int .i64 0, .int .i64 0, .int .i64 0]]) (by simp [results, Try.results12, go_sem]) rfl ?_
  exact ⟨rfl, below_step (below_step (below_step (below_step h1 (below_new _ _)) (below_new _ _)) (below_new _ _)) (below_new _ _)⟩
set_option maxRecDepth 100000 in
set_option maxHeartbeats 8000000 in
theorem cstep_none (fi fs fd ft fg fw fp : Int) (ht : ¬ ft < 1) (hf : firstL fp fd (atC C fw) = -1) (RT : Rds Tp.fK 4 w x c l) (V : Lists w a k C) (hb60 : ∀ r ∈ C, r.length ≤ 60) :
    Calls Try.prog 12 #[.agg #[.int .i64 s, .int .i64 n, .slice x l.length c], .slice a C.length k, .agg #[.int .i64 fi, .int .i64 fs, .int .i64 fd, .int .i64 ft, .int .i64 fg, .int .i64 fw, .int .i64 fp]] w fun e w' => e = .returned (.tuple #[.agg #[.int .i64 0, .int .i64 fi, .int .i64 fw, .int .i64 fp, .int .i64 fg, .int .i64 3, .int .i64 0], .agg #[.int .i64 0, .int .i64 0, .int .i64 0, .int .i64 0, .int .i64 0, .int .i64 0, .int .i64 0]]) ∧ Below w.heap.size w w' := by
  obtain ⟨W, hW, hB, t0, t1, t2, X1, X2, X3, X4⟩ := boxesC w s n x l c fi fs fd ft fg fw fp
  have lt : w.heap.size < W.heap.size := Nat.lt_trans (Nat.lt_succ_self _) X1.lt
  have cA := action_none W fi fs fd ft fg fw fp hf (V.later hB) hb60
  go_enter Try.func12, Try.ntmps12
  go_wp2_with fail
  rw [← hW]
  clear hW
  obtain ⟨r0, r1, r2, r3, r4, r5, r6⟩ := X1.seven
  go_wp2_with fail
  refine cA.mono ?_
  clear cA V r0 r1 r2 r3 r4 r5 r6
  rintro e w1 ⟨rfl, hb1⟩
  replace t0 := (hb1.cell (p := ⟨w.heap.size, 0, none⟩) lt).trans t0
  replace t1 := (hb1.cell (p := ⟨w.heap.size, 1, none⟩) lt).trans t1
  replace t2 := (hb1.cell (p := ⟨w.heap.size, 2, none⟩) lt).trans t2
  replace lt := Nat.lt_of_lt_of_le lt hb1.size
  replace X1 := X1.later hb1
  replace X2 := X2.later hb1
  replace X3 := X3.later hb1
  replace X4 := X4.later hb1
  replace hB := below_step hB hb1
  clear hb1
  clear RT t0 t1 t2
  have hba := below_new w1 (.cells #[.int .i64 0, .int .i64 0] 50)
  have X9 : Lies (w1.alloc (.cells #[.int .i64 0, .int .i64 0] 50)) w1.heap.size [0, 0] := Lies.new w1 [0, 0] 50 rfl
  replace lt := Nat.lt_of_lt_of_le lt hba.size
  replace X1 := X1.later hba
  replace X2 := X2.later hba
  replace X3 := X3.later hba
  replace X4 := X4.later hba
  replace hB := below_step hB hba
  clear hba
  clear X9
  obtain ⟨r0, r1, r2, r3, r4, r5, r6⟩ := X4.seven
  have z4 := X4.fz
  have q4 := X4.lt
  obtain ⟨p0, p1, p2, p3, p4, p5, p6⟩ := X2.seven
  have z2 := X2.fz
  have q2 := X2.lt
  obtain ⟨u0, u1, u2, u3, u4, u5, u6⟩ := X3.seven
  have z3 := X3.fz
  have q3 := X3.lt
  go_wp2_with fail
  have hS := hB.setCell (p := ⟨w.heap.size + 1 + 1 + 1 + 1, 5, none⟩) (by show w.heap.size ≤ w.heap.size + 1 + 1 + 1 + 1; omega) (.int .i64 3)
  clear r0 r1 r2 r3 r4 r5 r6 z4 q4 p0 p1 p2 p3 p4 p5 p6 z2 q2 u0 u1 u2 u3 u4 u5 u6 z3 q3 X4 hB X1
  replace X2 := X2.far1 (b := w.heap.size + 1 + 1 + 1 + 1) (by omega) 5 (.int .i64 3)
  replace X3 := X3.far1 (b := w.heap.size + 1 + 1 + 1 + 1) (by omega) 5 (.int .i64 3)
  generalize (w1.alloc (.cells #[.int .i64 0, .int .i64 0] 50)).setCell ⟨w.heap.size + 1 + 1 + 1 + 1, 5, none⟩ (.int .i64 3) = W3 at hS X2 X3 ⊢
  replace hS := below_lay7 hS (b := w.heap.size + 1 + 1) (by omega) 0 fi fw fp fg 3 0
  replace X2 := X2.put7 0 fi fw fp fg 3 0
  replace X3 := X3.far7 (b := w.heap.size + 1 + 1) (by omega) 0 fi fw fp fg 3 0
  generalize hV : lay7 W3 (w.heap.size + 1 + 1) 0 fi fw fp fg 3 0 = W4 at hS X2 X3
  unfold lay7 at hV
  rw [hV]
  clear hV
  replace hS := below_lay7 hS (b := w.heap.size + 1 + 1 + 1) (by omega) 0 0 0 0 0 0 0
  replace X3 := X3.put7 0 0 0 0 0 0 0
  replace X2 := X2.far7 (b := w.heap.size + 1 + 1 + 1) (by omega) 0 0 0 0 0 0 0
  generalize hV : lay7 W4 (w.heap.size + 1 + 1 + 1) 0 0 0 0 0 0 0 = W5 at hS X2 X3
  unfold lay7 at hV
  rw [hV]
  clear hV
  obtain ⟨r0, r1, r2, r3, r4, r5, r6⟩ := X2.seven
  obtain ⟨p0, p1, p2, p3, p4, p5, p6⟩ := X3.seven
  refine bodyPost_ret (v := .tuple #[.agg #[.int .i64 0, .int .i64 fi, .int .i64 fw, .int .i64 fp, .int .i64 fg, .int .i64 3, .int .i64 0], .agg #[.int .i64 0, .int .i64 0, .int .i64 0, .int .i64 0, .int .i64 0, .int .i64 0, .int .i64 0]]) (by simp [results, Try.results12, go_sem, r0, r1, r2, r3, r4, r5, r6, p0, p1, p2, p3, p4, p5, p6]) rfl ?_
  exact ⟨rfl, hS⟩
set_option maxRecDepth 100000 in
set_option maxHeartbeats 8000000 in
theorem cstep_by (fi fs fd ft fg fw fp : Int) (ht : ¬ ft < 1) {q : Nat} (hq : q < (atC C fw).length) (hf : firstL fp fd (atC C fw) = (q : Int)) (ra rn ri rp rk rt : Int) (hr : (atC C fw).getD q default = (⟨ra, rn, ri, rp, rk, rt⟩ : Rl)) (hk : ¬ rk = 1) (RT : Rds Tp.fK 4 w x c l) (V : Lists w a k C) (hb60 : ∀ r ∈ C, r.length ≤ 60) :
    Calls Try.prog 12 #[.agg #[.int .i64 s, .int .i64 n, .slice x l.length c], .slice a C.length k, .agg #[.int .i64 fi, .int .i64 fs, .int .i64 fd, .int .i64 ft, .int .i64 fg, .int .i64 fw, .int .i64 fp]] w fun e w' => e = .returned (.tuple #[.agg #[.int .i64 0, .int .i64 fi, .int .i64 fw, .int .i64 fp, .int .i64 fg, .int .i64 2, .int .i64 0], .agg #[.int .i64 0, .int .i64 0, .int .i64 0, .int .i64 0, .int .i64 0, .int .i64 0, .int .i64 0]]) ∧ Below w.heap.size w w' := by
  obtain ⟨W, hW, hB, t0, t1, t2, X1, X2, X3, X4⟩ := boxesC w s n x l c fi fs fd ft fg fw fp
  have lt : w.heap.size < W.heap.size := Nat.lt_trans (Nat.lt_succ_self _) X1.lt
  have cA := action_some W fi fs fd ft fg fw fp hq hf ra rn ri rp rk rt hr (V.later hB) hb60
  go_enter Try.func12, Try.ntmps12
  go_wp2_with fail
  rw [← hW]
  clear hW
  obtain ⟨r0, r1, r2, r3, r4, r5, r6⟩ := X1.seven
  go_wp2_with fail
  refine cA.mono ?_
  clear cA V r0 r1 r2 r3 r4 r5 r6
  rintro e w1 ⟨rfl, hb1⟩
  replace t0 := (hb1.cell (p := ⟨w.heap.size, 0, none⟩) lt).trans t0
  replace t1 := (hb1.cell (p := ⟨w.heap.size, 1, none⟩) lt).trans t1
  replace t2 := (hb1.cell (p := ⟨w.heap.size, 2, none⟩) lt).trans t2
  replace lt := Nat.lt_of_lt_of_le lt hb1.size
  replace X1 := X1.later hb1
  replace X2 := X2.later hb1
  replace X3 := X3.later hb1
  replace X4 := X4.later hb1
  replace hB := below_step hB hb1
  clear hb1
  clear RT t0 t1 t2 hr hf hq
  have hba := below_new w1 (.cells #[.int .i64 rk, .int .i64 rt] 50)
  have X9 : Lies (w1.alloc (.cells #[.int .i64 rk, .int .i64 rt] 50)) w1.heap.size [rk, rt] := Lies.new w1 [rk, rt] 50 rfl
  replace lt := Nat.lt_of_lt_of_le lt hba.size
  replace X1 := X1.later hba
  replace X2 := X2.later hba
  replace X3 := X3.later hba
  replace X4 := X4.later hba
  replace hB := below_step hB hba
  clear hba
  have v0 := X9.cells 0 _ rfl
  have v1 := X9.cells 1 _ rfl
  clear X9
  obtain ⟨r0, r1, r2, r3, r4, r5, r6⟩ := X4.seven
  have z4 := X4.fz
  have q4 := X4.lt
  obtain ⟨p0, p1, p2, p3, p4, p5, p6⟩ := X2.seven
  have z2 := X2.fz
  have q2 := X2.lt
  obtain ⟨u0, u1, u2, u3, u4, u5, u6⟩ := X3.seven
  have z3 := X3.fz
  have q3 := X3.lt
  go_wp2_with fail
  have hS := hB.setCell (p := ⟨w.heap.size + 1 + 1 + 1 + 1, 5, none⟩) (by show w.heap.size ≤ w.heap.size + 1 + 1 + 1 + 1; omega) (.int .i64 2)
  clear r0 r1 r2 r3 r4 r5 r6 z4 q4 p0 p1 p2 p3 p4 p5 p6 z2 q2 u0 u1 u2 u3 u4 u5 u6 z3 q3 X4 hB X1
  replace X2 := X2.far1 (b := w.heap.size + 1 + 1 + 1 + 1) (by omega) 5 (.int .i64 2)
  replace X3 := X3.far1 (b := w.heap.size + 1 + 1 + 1 + 1) (by omega) 5 (.int .i64 2)
  generalize (w1.alloc (.cells #[.int .i64 rk, .int .i64 rt] 50)).setCell ⟨w.heap.size + 1 + 1 + 1 + 1, 5, none⟩ (.int .i64 2) = W3 at hS X2 X3 ⊢
  replace hS := below_lay7 hS (b := w.heap.size + 1 + 1) (by omega) 0 fi fw fp fg 2 0
  replace X2 := X2.put7 0 fi fw fp fg 2 0
  replace X3 := X3.far7 (b := w.heap.size + 1 + 1) (by omega) 0 fi fw fp fg 2 0
  generalize hV : lay7 W3 (w.heap.size + 1 + 1) 0 fi fw fp fg 2 0 = W4 at hS X2 X3
  unfold lay7 at hV
  rw [hV]
  clear hV
  replace hS := below_lay7 hS (b := w.heap.size + 1 + 1 + 1) (by omega) 0 0 0 0 0 0 0
  replace X3 := X3.put7 0 0 0 0 0 0 0
  replace X2 := X2.far7 (b := w.heap.size + 1 + 1 + 1) (by omega) 0 0 0 0 0 0 0
  generalize hV : lay7 W4 (w.heap.size + 1 + 1 + 1) 0 0 0 0 0 0 0 = W5 at hS X2 X3
  unfold lay7 at hV
  rw [hV]
  clear hV
  obtain ⟨r0, r1, r2, r3, r4, r5, r6⟩ := X2.seven
  obtain ⟨p0, p1, p2, p3, p4, p5, p6⟩ := X3.seven
  refine bodyPost_ret (v := .tuple #[.agg #[.int .i64 0, .int .i64 fi, .int .i64 fw, .int .i64 fp, .int .i64 fg, .int .i64 2, .int .i64 0], .agg #[.int .i64 0, .int .i64 0, .int .i64 0, .int .i64 0, .int .i64 0, .int .i64 0, .int .i64 0]]) (by simp [results, Try.results12, go_sem, r0, r1, r2, r3, r4, r5, r6, p0, p1, p2, p3, p4, p5, p6]) rfl ?_
  exact ⟨rfl, hS⟩
set_option maxRecDepth 100000 in
set_option maxHeartbeats 8000000 in
theorem cstep_act (fi fs fd ft fg fw fp : Int) (ht : ¬ ft < 1) {q : Nat} (hq : q < (atC C fw).length) (hf : firstL fp fd (atC C fw) = (q : Int)) (ra rn ri rp rt : Int) (hr : (atC C fw).getD q default = (⟨ra, rn, ri, rp, 1, rt⟩ : Rl)) (what g0 g1 g2 g3 g4 g5 g6 : Int) (cS : ∀ W, Rds Tp.fK 4 W x c l → Calls Try.prog 21 #[.agg #[.int .i64 s, .int .i64 n, .slice x l.length c], .agg #[.int .i64 fi, .int .i64 fs, .int .i64 fd, .int .i64 ft, .int .i64 fg, .int .i64 fw, .int .i64 fp], .int .i64 rt] W fun e w2 => e = .returned (.tuple #[.int .i64 what, .agg #[.int .i64 g0, .int .i64 g1, .int .i64 g2, .int .i64 g3, .int .i64 g4, .int .i64 g5, .int .i64 g6]]) ∧ Below W.heap.size W w2) (RT : Rds Tp.fK 4 w x c l) (V : Lists w a k C) (hb60 : ∀ r ∈ C, r.length ≤ 60) :
    Calls Try.prog 12 #[.agg #[.int .i64 s, .int .i64 n, .slice x l.length c], .slice a C.length k, .agg #[.int .i64 fi, .int .i64 fs, .int .i64 fd, .int .i64 ft, .int .i64 fg, .int .i64 fw, .int .i64 fp]] w fun e w' => e = .returned (.tuple #[.agg #[.int .i64 0, .int .i64 fi, .int .i64 fw, .int .i64 fp, .int .i64 fg, .int .i64 what, .int .i64 rt], .agg #[.int .i64 g0, .int .i64 g1, .int .i64 g2, .int .i64 g3, .int .i64 g4, .int .i64 g5, .int .i64 g6]]) ∧ Below w.heap.size w w' := by
  obtain ⟨W, hW, hB, t0, t1, t2, X1, X2, X3, X4⟩ := boxesC w s n x l c fi fs fd ft fg fw fp
  have lt : w.heap.size < W.heap.size := Nat.lt_trans (Nat.lt_succ_self _) X1.lt
  have cA := action_some W fi fs fd ft fg fw fp hq hf ra rn ri rp 1 rt hr (V.later hB) hb60
  go_enter Try.func12, Try.ntmps12
  go_wp2_with fail
  rw [← hW]
  clear hW
  obtain ⟨r0, r1, r2, r3, r4, r5, r6⟩ := X1.seven
  go_wp2_with fail
  refine cA.mono ?_
  clear cA V r0 r1 r2 r3 r4 r5 r6
  rintro e w1 ⟨rfl, hb1⟩
  replace t0 := (hb1.cell (p := ⟨w.heap.size, 0, none⟩) lt).trans t0
  replace t1 := (hb1.cell (p := ⟨w.heap.size, 1, none⟩) lt).trans t1
  replace t2 := (hb1.cell (p := ⟨w.heap.size, 2, none⟩) lt).trans t2
  replace lt := Nat.lt_of_lt_of_le lt hb1.size
  replace X1 := X1.later hb1
  replace X2 := X2.later hb1
  replace X3 := X3.later hb1
  replace X4 := X4.later hb1
  replace hB := below_step hB hb1
  clear hb1
  have q4w := X4.lt
  clear hr hf hq
  have hba := below_new w1 (.cells #[.int .i64 1, .int .i64 rt] 50)
  have X9 : Lies (w1.alloc (.cells #[.int .i64 1, .int .i64 rt] 50)) w1.heap.size [1, rt] := Lies.new w1 [1, rt] 50 rfl
  replace t0 := (hba.cell (p := ⟨w.heap.size, 0, none⟩) lt).trans t0
  replace t1 := (hba.cell (p := ⟨w.heap.size, 1, none⟩) lt).trans t1
  replace t2 := (hba.cell (p := ⟨w.heap.size, 2, none⟩) lt).trans t2
  replace lt := Nat.lt_of_lt_of_le lt hba.size
  replace X1 := X1.later hba
  replace X2 := X2.later hba
  replace X3 := X3.later hba
  replace X4 := X4.later hba
  replace hB := below_step hB hba
  clear hba
  have cG := cS (w1.alloc (.cells #[.int .i64 1, .int .i64 rt] 50)) (RT.later hB)
  clear cS RT
  obtain ⟨r0, r1, r2, r3, r4, r5, r6⟩ := X1.seven
  have v0 := X9.cells 0 _ rfl
  have v1 := X9.cells 1 _ rfl
  go_wp2_with fail
  refine cG.mono ?_
  clear cG r0 r1 r2 r3 r4 r5 r6 v0 v1 t0 t1 t2 X1
  rintro e w3 ⟨rfl, hb3⟩
  replace X9 := X9.later hb3
  have q9 := X9.lt
  replace X2 := X2.later hb3
  replace X3 := X3.later hb3
  replace X4 := X4.later hb3
  replace hB := below_step hB hb3
  clear hb3 lt
  obtain ⟨N9, h9⟩ : ∃ N9, w1.heap.size = N9 := ⟨_, rfl⟩
  rw [h9] at X9 q9 ⊢
  have k9 : w.heap.size + 1 + 1 + 1 + 1 < N9 := by rw [← h9]; exact q4w
  clear h9 q4w
  have hbg := below_new w3 (.cells #[.int .i64 g0, .int .i64 g1, .int .i64 g2, .int .i64 g3, .int .i64 g4, .int .i64 g5, .int .i64 g6] 30)
  have X5 : Lies (w3.alloc (.cells #[.int .i64 g0, .int .i64 g1, .int .i64 g2, .int .i64 g3, .int .i64 g4, .int .i64 g5, .int .i64 g6] 30)) w3.heap.size [g0, g1, g2, g3, g4, g5, g6] := Lies.new w3 [g0, g1, g2, g3, g4, g5, g6] 30 rfl
  replace X9 := X9.later hbg
  replace X2 := X2.later hbg
  replace X3 := X3.later hbg
  replace X4 := X4.later hbg
  have k5 := X4.lt
  have hBg := below_step hB hbg
  have k3 := q9
  obtain ⟨NG, hNG⟩ : ∃ NG, w3.heap.size = NG := ⟨_, rfl⟩
  have kNG : w.heap.size + 1 + 1 + 1 + 1 < NG := by rw [← hNG]; omega
  rw [hNG] at X5
  have hbg1 := hBg
  clear hbg hB
  have r5 := X4.cells 5 _ rfl
  have r6 := X4.cells 6 _ rfl
  have z4 := X4.fz
  have v0 := X9.cells 0 _ rfl
  have v1 := X9.cells 1 _ rfl
  go_wp2_with fail
  generalize w3.alloc (.cells #[.int .i64 g0, .int .i64 g1, .int .i64 g2, .int .i64 g3, .int .i64 g4, .int .i64 g5, .int .i64 g6] 30) = W4 at hBg X2 X3 X4 X5 X9 k5 r5 r6 z4 v0 v1 ⊢
  clear hNG
  clear q9 hbg1
  go_region
  have hS := (hBg.setCell (p := ⟨w.heap.size + 1 + 1 + 1 + 1, 5, none⟩) (by show w.heap.size ≤ w.heap.size + 1 + 1 + 1 + 1; omega) (.int .i64 what)).setCell (p := ⟨w.heap.size + 1 + 1 + 1 + 1, 6, none⟩) (by show w.heap.size ≤ w.heap.size + 1 + 1 + 1 + 1; omega) (.int .i64 rt)
  replace hS := hS.drew
  clear r5 r6 z4 v0 v1 hBg X9
  replace X4 := ((X4.set1 (j := 5) (by simp) what).set1 (j := 6) (by simp) rt).later (Below.refl _ _).drew
  replace X2 := ((X2.far1 (b := w.heap.size + 1 + 1 + 1 + 1) (by omega) 5 (.int .i64 what)).far1 (b := w.heap.size + 1 + 1 + 1 + 1) (by omega) 6 (.int .i64 rt)).later (Below.refl _ _).drew
  replace X3 := ((X3.far1 (b := w.heap.size + 1 + 1 + 1 + 1) (by omega) 5 (.int .i64 what)).far1 (b := w.heap.size + 1 + 1 + 1 + 1) (by omega) 6 (.int .i64 rt)).later (Below.refl _ _).drew
  replace X5 := ((X5.far1 (b := w.heap.size + 1 + 1 + 1 + 1) (by omega) 5 (.int .i64 what)).far1 (b := w.heap.size + 1 + 1 + 1 + 1) (by omega) 6 (.int .i64 rt)).later (Below.refl _ _).drew
  generalize ((W4.setCell ⟨w.heap.size + 1 + 1 + 1 + 1, 5, none⟩ (.int .i64 what)).setCell ⟨w.heap.size + 1 + 1 + 1 + 1, 6, none⟩ (.int .i64 rt)).drew = W3 at hS X2 X3 X4 X5 ⊢
  simp only [List.set_cons_succ, List.set_cons_zero] at X4
  have hNG : w.heap.size + 1 + 1 + 1 + 1 < NG := kNG
  try go_wp2_with fail
  have S0 : Below w.heap.size w W3.drew ∧ Lies W3.drew (w.heap.size + 1 + 1 + 1 + 1) [0, fi, fw, fp, fg, what, rt] ∧ Lies W3.drew (NG) [g0, g1, g2, g3, g4, g5, g6] := ⟨hS.drew, X4.later (Below.refl _ _).drew, X5.later (Below.refl _ _).drew⟩
  replace X2 := X2.later (Below.refl W3.heap.size W3).drew
  replace X3 := X3.later (Below.refl W3.heap.size W3).drew
  clear X4 X5 hS
  refine wp_region_noPanic ?_
  refine wp_region_held_drew (S := fun w' => Below w.heap.size w w' ∧ Lies w' (w.heap.size + 1 + 1 + 1 + 1) [0, fi, fw, fp, fg, what, rt] ∧ Lies w' (NG) [g0, g1, g2, g3, g4, g5, g6]) (by kernel_rfl) S0 (fun hH => ?_)
  clear S0
  generalize W3.drew = V0 at hH X2 X3 ⊢
  refine wpAnyH_take (i := 0) (oi := { dst := some 61, op := _, type := _, pos := _, after := _, guard := _ }) (v := ?_) rfl (by kernel_rfl) (by kernel_rfl) (by kernel_rfl) (fun _ _ _ h => h) (Or.inl ⟨by rfl, ?_⟩) hH ?_
  rotate_left
  · intro wz hSw
    (try dsimp only at hSw)
    obtain ⟨r0, r1, r2, r3, r4, r5, r6⟩ := hSw.2.1.seven
    first | (go_simp; done) | (go_simp; with_reducible rfl)
  try simp only [Act.put, List.setIfInBounds_toArray, List.set_cons_zero, List.set_cons_succ]
  refine wpAnyH_take (i := 1) (oi := { dst := some 62, op := _, type := _, pos := _, after := _, guard := _ }) (v := ?_) rfl (by kernel_rfl) (by kernel_rfl) (by kernel_rfl) (fun _ _ _ h => h) (Or.inl ⟨by rfl, ?_⟩) hH ?_
  rotate_left
  · intro wz hSw
    (try dsimp only at hSw)
    obtain ⟨r0, r1, r2, r3, r4, r5, r6⟩ := hSw.2.2.seven
    first | (go_simp; done) | (go_simp; with_reducible rfl)
  try simp only [Act.put, List.setIfInBounds_toArray, List.set_cons_zero, List.set_cons_succ]
  refine wpAnyH_ready (rs := [2]) (by kernel_rfl) (by simp) ?_
  refine (AllReadyH.cons (o := { dst := none, op := _, type := _, pos := _, after := _, guard := _ }) rfl (fun K hK => ?_) AllReadyH.nil)
  obtain ⟨r0, r1, r2, r3, r4, r5, r6⟩ := X2.seven
  have pl := X2.lt
  have pf := X2.fz
  go_simp
  have hn : Below w.heap.size w (lay7 V0 (w.heap.size + 1 + 1) 0 fi fw fp fg what rt) ∧ Lies (lay7 V0 (w.heap.size + 1 + 1) 0 fi fw fp fg what rt) (w.heap.size + 1 + 1 + 1 + 1) [0, fi, fw, fp, fg, what, rt] ∧ Lies (lay7 V0 (w.heap.size + 1 + 1) 0 fi fw fp fg what rt) (NG) [g0, g1, g2, g3, g4, g5, g6] := ⟨below_lay7 hH.1 (by omega) 0 fi fw fp fg what rt, hH.2.1.far7 (by omega) 0 fi fw fp fg what rt, hH.2.2.far7 (by omega) 0 fi fw fp fg what rt⟩
  replace X2 := X2.put7 0 fi fw fp fg what rt
  replace X3 := X3.far7 (b := w.heap.size + 1 + 1) (by omega) 0 fi fw fp fg what rt
  clear r0 r1 r2 r3 r4 r5 r6 pl pf
  generalize hV : lay7 V0 (w.heap.size + 1 + 1) 0 fi fw fp fg what rt = V1 at hn X2 X3
  unfold lay7 at hV
  rw [hV]
  clear hV
  refine hK.out _ _ hn (fun hH2 => ?_)
  clear hK K hH hn
  have hH := hH2
  clear hH2
  try simp only [Act.put, List.setIfInBounds_toArray, List.set_cons_zero, List.set_cons_succ]
  refine wpAnyH_ready (rs := [3]) (by kernel_rfl) (by simp) ?_
  refine (AllReadyH.cons (o := { dst := none, op := _, type := _, pos := _, after := _, guard := _ }) rfl (fun K hK => ?_) AllReadyH.nil)
  obtain ⟨r0, r1, r2, r3, r4, r5, r6⟩ := X3.seven
  have pl := X3.lt
  have pf := X3.fz
  go_simp
  have hn : Below w.heap.size w (lay7 V1 (w.heap.size + 1 + 1 + 1) g0 g1 g2 g3 g4 g5 g6) ∧ Lies (lay7 V1 (w.heap.size + 1 + 1 + 1) g0 g1 g2 g3 g4 g5 g6) (w.heap.size + 1 + 1 + 1 + 1) [0, fi, fw, fp, fg, what, rt] ∧ Lies (lay7 V1 (w.heap.size + 1 + 1 + 1) g0 g1 g2 g3 g4 g5 g6) (NG) [g0, g1, g2, g3, g4, g5, g6] := ⟨below_lay7 hH.1 (by omega) g0 g1 g2 g3 g4 g5 g6, hH.2.1.far7 (by omega) g0 g1 g2 g3 g4 g5 g6, hH.2.2.far7 (by omega) g0 g1 g2 g3 g4 g5 g6⟩
  replace X3 := X3.put7 g0 g1 g2 g3 g4 g5 g6
  replace X2 := X2.far7 (b := w.heap.size + 1 + 1 + 1) (by omega) g0 g1 g2 g3 g4 g5 g6
  clear r0 r1 r2 r3 r4 r5 r6 pl pf
  generalize hV : lay7 V1 (w.heap.size + 1 + 1 + 1) g0 g1 g2 g3 g4 g5 g6 = V2 at hn X2 X3
  unfold lay7 at hV
  rw [hV]
  clear hV
  refine hK.out _ _ hn (fun hH2 => ?_)
  clear hK K hH hn
  have hH := hH2
  clear hH2
  try simp only [Act.put, List.setIfInBounds_toArray, List.set_cons_zero, List.set_cons_succ]
  refine wpAnyH_done (by kernel_rfl) ?_ _
  refine NoPanic.normal ?_
  have hB := hH.1
  clear hH
  obtain ⟨r0, r1, r2, r3, r4, r5, r6⟩ := X2.seven
  obtain ⟨p0, p1, p2, p3, p4, p5, p6⟩ := X3.seven
  clear X2 X3
  go_wp2_with fail
  refine bodyPost_ret (v := .tuple #[.agg #[.int .i64 0, .int .i64 fi, .int .i64 fw, .int .i64 fp, .int .i64 fg, .int .i64 what, .int .i64 rt], .agg #[.int .i64 g0, .int .i64 g1, .int .i64 g2, .int .i64 g3, .int .i64 g4, .int .i64 g5, .int .i64 g6]]) (by simp [results, Try.results12, go_sem, r0, r1, r2, r3, r4, r5, r6, p0, p1, p2, p3, p4, p5, p6]) rfl ?_
  exact ⟨rfl, hB⟩
theorem stepc_any (RT : Rds Tp.fK 4 w x c l) (V : Lists w a k C) (hl60 : l.length ≤ 60) (hb60 : ∀ r ∈ C, r.length ≤ 60) (f : Fl) (hf : WfF f) :
    Calls Try.prog 12 #[.agg #[.int .i64 s, .int .i64 n, .slice x l.length c], .slice a C.length k, vF f] w fun e w' => e = .returned (.tuple #[vH (stepP s n l C f).1, vF (stepP s n l C f).2]) ∧ Below w.heap.size w w' := by
  obtain ⟨fi, fs, fd, ft, fg, fw, fp⟩ := f
  have hft := w64_iff.1 (hf ft (by simp [fF]))
  by_cases ht : ft < 1
  · rw [cstepP_no ht]
    exact cstep_no s n w fi fs fd ft fg fw fp ht
  · rcases firstL_is fp fd (atC C fw) with ⟨e, -⟩ | ⟨q, hq, e, -, -⟩
    · rw [cstepP_none ht e]
      exact cstep_none s n w fi fs fd ft fg fw fp ht e RT V hb60
    · rw [cstepP_rule ht e]
      obtain ⟨r, hr⟩ : ∃ r, (atC C fw).getD q default = r := ⟨_, rfl⟩
      have hwr : ∀ z ∈ fR r, W64 z := at_wf (lists_wf V) fw r (by rw [← hr, List.getD_eq_getElem?_getD, List.getElem?_eq_getElem hq]; exact List.getElem_mem hq)
      rw [show (atC C (⟨fi, fs, fd, ft, fg, fw, fp⟩ : Fl).sw).getD q default = r from hr]
      obtain ⟨ra, rn, ri, rp, rk, rt⟩ := r
      by_cases hk : rk = 1
      · subst hk
        have hwe : We (fw, rt) := ⟨hf fw (by simp [fF]), hwr rt (by simp [fR])⟩
        cases hfar : Tp.far s n l (fw, rt) with
        | none =>
          rw [cdoP_del rfl hfar]
          exact cstep_act s n w fi fs fd ft fg fw fp ht hq e ra rn ri rp rt hr 1 0 0 0 0 0 0 0 (fun W R => sent_none s n W fi fs fd ft fg fw fp rt hfar hwe (by omega) R) RT V hb60
        | some o =>
          obtain ⟨ex, ey⟩ := o
          rw [cdoP_went rfl hfar]
          exact cstep_act s n w fi fs fd ft fg fw fp ht hq e ra rn ri rp rt hr 0 fi fs fd (ft - 1) fg ex ey (fun W R => sent_some s n W fi fs fd ft fg fw fp rt ex ey hfar hwe (by omega) (by omega) hft.2 R) RT V hb60
      · rw [cdoP_by hk]
        exact cstep_by s n w fi fs fd ft fg fw fp ht hq e ra rn ri rp rk rt hr hk RT V hb60
end
end Go.Proofs.Ytihgpllbgliplaa
