/- What the document's Step answers. -/
import Derived.Test.YtihgpllbgliplaaPathIf
import Derived.Test.YtihgpllbgliplaaPickRefs
import Derived.Test.YtihgpllbgliplaaTopRefs
import Derived.Test.YtihgpllbgliplaaConfPlain
import Derived.Deep.RegionHeld3
namespace Go.Proofs.Ytihgpllbgliplaa
open Go.ChangeShapes Go.WideShapes Go.ChangeAt Go.RowKit Pk Cf Pa
set_option linter.unusedVariables false
set_option linter.unusedSimpArgs false

section
variable {s n : Int} {l : List Tp.Lk} {C : Cnf} {f : Fl}
theorem stepP_no (h : f.ttl < 1) : stepP s n l C f = (hop f 5 0, noFl) := by unfold stepP; rw [if_pos h]
theorem stepP_none (h : ¬ f.ttl < 1) (h2 : firstL f.i f.dst (atC C f.sw) = -1) : stepP s n l C f = (hop f 3 0, noFl) := by
  unfold stepP ruleP
  rw [if_neg h, h2, if_pos (by decide)]; rfl
theorem stepP_rule (h : ¬ f.ttl < 1) {q : Nat} (h2 : firstL f.i f.dst (atC C f.sw) = (q : Int)) : stepP s n l C f = doP s n l f (some ((atC C f.sw).getD q default)) := by
  unfold stepP ruleP
  rw [if_neg h, h2, if_neg (by omega), Int.toNat_natCast]
theorem doP_by {r : Rl} (h : ¬ r.k = 1) : doP s n l f (some r) = (hop f 2 0, noFl) := by simp only [doP, if_neg h]
theorem doP_del {r : Rl} (h : r.k = 1) (h2 : Tp.far s n l (f.sw, r.t) = none) : doP s n l f (some r) = (hop f 1 r.t, noFl) := by simp only [doP, if_pos h, h2]
theorem doP_went {r : Rl} {e : Tp.En} (h : r.k = 1) (h2 : Tp.far s n l (f.sw, r.t) = some e) : doP s n l f (some r) = (hop f 0 r.t, { f with ttl := f.ttl - 1, sw := e.1, i := e.2 }) := by simp only [doP, if_pos h, h2]
end
theorem boxes13 (w : World) (s n : Int) (x : Option Addr) (l : List Tp.Lk) (c : Nat) (fi fs fd ft fg fw fp : Int) :
    ∃ W, W = ((((((w.alloc (.cells #[.int .i64 s, .int .i64 n, .slice x l.length c] 24)).alloc (.cells #[.int .i64 fi, .int .i64 fs, .int .i64 fd, .int .i64 ft, .int .i64 fg, .int .i64 fw, .int .i64 fp] 30)).alloc (.cells #[.int .i64 0, .int .i64 0, .int .i64 0, .int .i64 0, .int .i64 0, .int .i64 0, .int .i64 0] 34)).alloc (.cells #[.int .i64 0, .int .i64 0, .int .i64 0, .int .i64 0, .int .i64 0, .int .i64 0, .int .i64 0] 30)).alloc (.cells #[.int .i64 0, .int .i64 fi, .int .i64 fw, .int .i64 fp, .int .i64 fg, .int .i64 0, .int .i64 0] 34)).alloc (.cells #[.int .i64 0, .int .i64 0, .int .i64 0, .int .i64 0, .int .i64 0, .int .i64 0, .int .i64 0] 30)) ∧ Below w.heap.size w W ∧ W.cell? ⟨w.heap.size, 0, none⟩ = some (.int .i64 s) ∧ W.cell? ⟨w.heap.size, 1, none⟩ = some (.int .i64 n) ∧ W.cell? ⟨w.heap.size, 2, none⟩ = some (.slice x l.length c) ∧ Lies W (w.heap.size + 1) [fi, fs, fd, ft, fg, fw, fp] ∧ Lies W (w.heap.size + 1 + 1) [0, 0, 0, 0, 0, 0, 0] ∧ Lies W (w.heap.size + 1 + 1 + 1) [0, 0, 0, 0, 0, 0, 0] ∧ Lies W (w.heap.size + 1 + 1 + 1 + 1) [0, fi, fw, fp, fg, 0, 0] ∧ Lies W (w.heap.size + 1 + 1 + 1 + 1 + 1) [0, 0, 0, 0, 0, 0, 0] := by
  refine ⟨_, rfl, ?_⟩
  have h0 := below_new w (.cells #[.int .i64 s, .int .i64 n, .slice x l.length c] 24)
  obtain ⟨t0, t1, t2⟩ := box3 w (.int .i64 s) (.int .i64 n) (.slice x l.length c) 24
  have lt : w.heap.size < (w.alloc (.cells #[.int .i64 s, .int .i64 n, .slice x l.length c] 24)).heap.size := by simp
  have X1 : Lies ((w.alloc (.cells #[.int .i64 s, .int .i64 n, .slice x l.length c] 24)).alloc (.cells #[.int .i64 fi, .int .i64 fs, .int .i64 fd, .int .i64 ft, .int .i64 fg, .int .i64 fw, .int .i64 fp] 30)) (w.heap.size + 1) [fi, fs, fd, ft, fg, fw, fp] := Lies.new (w.alloc (.cells #[.int .i64 s, .int .i64 n, .slice x l.length c] 24)) [fi, fs, fd, ft, fg, fw, fp] 30 (by simp)
  have h1 := below_new (w.alloc (.cells #[.int .i64 s, .int .i64 n, .slice x l.length c] 24)) (.cells #[.int .i64 fi, .int .i64 fs, .int .i64 fd, .int .i64 ft, .int .i64 fg, .int .i64 fw, .int .i64 fp] 30)
  replace t0 := (h1.cell (p := ⟨w.heap.size, 0, none⟩) lt).trans t0
  replace t1 := (h1.cell (p := ⟨w.heap.size, 1, none⟩) lt).trans t1
  replace t2 := (h1.cell (p := ⟨w.heap.size, 2, none⟩) lt).trans t2
  replace lt := Nat.lt_of_lt_of_le lt h1.size
  have X2 : Lies (((w.alloc (.cells #[.int .i64 s, .int .i64 n, .slice x l.length c] 24)).alloc (.cells #[.int .i64 fi, .int .i64 fs, .int .i64 fd, .int .i64 ft, .int .i64 fg, .int .i64 fw, .int .i64 fp] 30)).alloc (.cells #[.int .i64 0, .int .i64 0, .int .i64 0, .int .i64 0, .int .i64 0, .int .i64 0, .int .i64 0] 34)) (w.heap.size + 1 + 1) [0, 0, 0, 0, 0, 0, 0] := Lies.new ((w.alloc (.cells #[.int .i64 s, .int .i64 n, .slice x l.length c] 24)).alloc (.cells #[.int .i64 fi, .int .i64 fs, .int .i64 fd, .int .i64 ft, .int .i64 fg, .int .i64 fw, .int .i64 fp] 30)) [0, 0, 0, 0, 0, 0, 0] 34 (by simp)
  have h2 := below_new ((w.alloc (.cells #[.int .i64 s, .int .i64 n, .slice x l.length c] 24)).alloc (.cells #[.int .i64 fi, .int .i64 fs, .int .i64 fd, .int .i64 ft, .int .i64 fg, .int .i64 fw, .int .i64 fp] 30)) (.cells #[.int .i64 0, .int .i64 0, .int .i64 0, .int .i64 0, .int .i64 0, .int .i64 0, .int .i64 0] 34)
  replace t0 := (h2.cell (p := ⟨w.heap.size, 0, none⟩) lt).trans t0
  replace t1 := (h2.cell (p := ⟨w.heap.size, 1, none⟩) lt).trans t1
  replace t2 := (h2.cell (p := ⟨w.heap.size, 2, none⟩) lt).trans t2
  replace lt := Nat.lt_of_lt_of_le lt h2.size
  replace X1 := X1.later h2
  have X3 : Lies ((((w.alloc (.cells #[.int .i64 s, .int .i64 n, .slice x l.length c] 24)).alloc (.cells #[.int .i64 fi, .int .i64 fs, .int .i64 fd, .int .i64 ft, .int .i64 fg, .int .i64 fw, .int .i64 fp] 30)).alloc (.cells #[.int .i64 0, .int .i64 0, .int .i64 0, .int .i64 0, .int .i64 0, .int .i64 0, .int .i64 0] 34)).alloc (.cells #[.int .i64 0, .int .i64 0, .int .i64 0, .int .i64 0, .int .i64 0, .int .i64 0, .int .i64 0] 30)) (w.heap.size + 1 + 1 + 1) [0, 0, 0, 0, 0, 0, 0] := Lies.new (((w.alloc (.cells #[.int .i64 s, .int .i64 n, .slice x l.length c] 24)).alloc (.cells #[.int .i64 fi, .int .i64 fs, .int .i64 fd, .int .i64 ft, .int .i64 fg, .int .i64 fw, .int .i64 fp] 30)).alloc (.cells #[.int .i64 0, .int .i64 0, .int .i64 0, .int .i64 0, .int .i64 0, .int .i64 0, .int .i64 0] 34)) [0, 0, 0, 0, 0, 0, 0] 30 (by simp)
  have h3 := below_new (((w.alloc (.cells #[.int .i64 s, .int .i64 n, .slice x l.length c] 24)).alloc (.cells #[.int .i64 fi, .int .i64 fs, .int .i64 fd, .int .i64 ft, .int .i64 fg, .int .i64 fw, .int .i64 fp] 30)).alloc (.cells #[.int .i64 0, .int .i64 0, .int .i64 0, .int .i64 0, .int .i64 0, .int .i64 0, .int .i64 0] 34)) (.cells #[.int .i64 0, .int .i64 0, .int .i64 0, .int .i64 0, .int .i64 0, .int .i64 0, .int .i64 0] 30)
  replace t0 := (h3.cell (p := ⟨w.heap.size, 0, none⟩) lt).trans t0
  replace t1 := (h3.cell (p := ⟨w.heap.size, 1, none⟩) lt).trans t1
  replace t2 := (h3.cell (p := ⟨w.heap.size, 2, none⟩) lt).trans t2
  replace lt := Nat.lt_of_lt_of_le lt h3.size
  replace X1 := X1.later h3
  replace X2 := X2.later h3
  have X4 : Lies (((((w.alloc (.cells #[.int .i64 s, .int .i64 n, .slice x l.length c] 24)).alloc (.cells #[.int .i64 fi, .int .i64 fs, .int .i64 fd, .int .i64 ft, .int .i64 fg, .int .i64 fw, .int .i64 fp] 30)).alloc (.cells #[.int .i64 0, .int .i64 0, .int .i64 0, .int .i64 0, .int .i64 0, .int .i64 0, .int .i64 0] 34)).alloc (.cells #[.int .i64 0, .int .i64 0, .int .i64 0, .int .i64 0, .int .i64 0, .int .i64 0, .int .i64 0] 30)).alloc (.cells #[.int .i64 0, .int .i64 fi, .int .i64 fw, .int .i64 fp, .int .i64 fg, .int .i64 0, .int .i64 0] 34)) (w.heap.size + 1 + 1 + 1 + 1) [0, fi, fw, fp, fg, 0, 0] := Lies.new ((((w.alloc (.cells #[.int .i64 s, .int .i64 n, .slice x l.length c] 24)).alloc (.cells #[.int .i64 fi, .int .i64 fs, .int .i64 fd, .int .i64 ft, .int .i64 fg, .int .i64 fw, .int .i64 fp] 30)).alloc (.cells #[.int .i64 0, .int .i64 0, .int .i64 0, .int .i64 0, .int .i64 0, .int .i64 0, .int .i64 0] 34)).alloc (.cells #[.int .i64 0, .int .i64 0, .int .i64 0, .int .i64 0, .int .i64 0, .int .i64 0, .int .i64 0] 30)) [0, fi, fw, fp, fg, 0, 0] 34 (by simp)
  have h4 := below_new ((((w.alloc (.cells #[.int .i64 s, .int .i64 n, .slice x l.length c] 24)).alloc (.cells #[.int .i64 fi, .int .i64 fs, .int .i64 fd, .int .i64 ft, .int .i64 fg, .int .i64 fw, .int .i64 fp] 30)).alloc (.cells #[.int .i64 0, .int .i64 0, .int .i64 0, .int .i64 0, .int .i64 0, .int .i64 0, .int .i64 0] 34)).alloc (.cells #[.int .i64 0, .int .i64 0, .int .i64 0, .int .i64 0, .int .i64 0, .int .i64 0, .int .i64 0] 30)) (.cells #[.int .i64 0, .int .i64 fi, .int .i64 fw, .int .i64 fp, .int .i64 fg, .int .i64 0, .int .i64 0] 34)
  replace t0 := (h4.cell (p := ⟨w.heap.size, 0, none⟩) lt).trans t0
  replace t1 := (h4.cell (p := ⟨w.heap.size, 1, none⟩) lt).trans t1
  replace t2 := (h4.cell (p := ⟨w.heap.size, 2, none⟩) lt).trans t2
  replace lt := Nat.lt_of_lt_of_le lt h4.size
  replace X1 := X1.later h4
  replace X2 := X2.later h4
  replace X3 := X3.later h4
  have X5 : Lies ((((((w.alloc (.cells #[.int .i64 s, .int .i64 n, .slice x l.length c] 24)).alloc (.cells #[.int .i64 fi, .int .i64 fs, .int .i64 fd, .int .i64 ft, .int .i64 fg, .int .i64 fw, .int .i64 fp] 30)).alloc (.cells #[.int .i64 0, .int .i64 0, .int .i64 0, .int .i64 0, .int .i64 0, .int .i64 0, .int .i64 0] 34)).alloc (.cells #[.int .i64 0, .int .i64 0, .int .i64 0, .int .i64 0, .int .i64 0, .int .i64 0, .int .i64 0] 30)).alloc (.cells #[.int .i64 0, .int .i64 fi, .int .i64 fw, .int .i64 fp, .int .i64 fg, .int .i64 0, .int .i64 0] 34)).alloc (.cells #[.int .i64 0, .int .i64 0, .int .i64 0, .int .i64 0, .int .i64 0, .int .i64 0, .int .i64 0] 30)) (w.heap.size + 1 + 1 + 1 + 1 + 1) [0, 0, 0, 0, 0, 0, 0] := Lies.new (((((w.alloc (.cells #[.int .i64 s, .int .i64 n, .slice x l.length c] 24)).alloc (.cells #[.int .i64 fi, .int .i64 fs, .int .i64 fd, .int .i64 ft, .int .i64 fg, .int .i64 fw, .int .i64 fp] 30)).alloc (.cells #[.int .i64 0, .int .i64 0, .int .i64 0, .int .i64 0, .int .i64 0, .int .i64 0, .int .i64 0] 34)).alloc (.cells #[.int .i64 0, .int .i64 0, .int .i64 0, .int .i64 0, .int .i64 0, .int .i64 0, .int .i64 0] 30)).alloc (.cells #[.int .i64 0, .int .i64 fi, .int .i64 fw, .int .i64 fp, .int .i64 fg, .int .i64 0, .int .i64 0] 34)) [0, 0, 0, 0, 0, 0, 0] 30 (by simp)
  have h5 := below_new (((((w.alloc (.cells #[.int .i64 s, .int .i64 n, .slice x l.length c] 24)).alloc (.cells #[.int .i64 fi, .int .i64 fs, .int .i64 fd, .int .i64 ft, .int .i64 fg, .int .i64 fw, .int .i64 fp] 30)).alloc (.cells #[.int .i64 0, .int .i64 0, .int .i64 0, .int .i64 0, .int .i64 0, .int .i64 0, .int .i64 0] 34)).alloc (.cells #[.int .i64 0, .int .i64 0, .int .i64 0, .int .i64 0, .int .i64 0, .int .i64 0, .int .i64 0] 30)).alloc (.cells #[.int .i64 0, .int .i64 fi, .int .i64 fw, .int .i64 fp, .int .i64 fg, .int .i64 0, .int .i64 0] 34)) (.cells #[.int .i64 0, .int .i64 0, .int .i64 0, .int .i64 0, .int .i64 0, .int .i64 0, .int .i64 0] 30)
  replace t0 := (h5.cell (p := ⟨w.heap.size, 0, none⟩) lt).trans t0
  replace t1 := (h5.cell (p := ⟨w.heap.size, 1, none⟩) lt).trans t1
  replace t2 := (h5.cell (p := ⟨w.heap.size, 2, none⟩) lt).trans t2
  replace lt := Nat.lt_of_lt_of_le lt h5.size
  replace X1 := X1.later h5
  replace X2 := X2.later h5
  replace X3 := X3.later h5
  replace X4 := X4.later h5
  exact ⟨(below_step (below_step (below_step (below_step (below_step h0 h1) h2) h3) h4) h5), t0, t1, t2, X1, X2, X3, X4, X5⟩
section
variable (s n : Int) (w : World) {x a : Option Addr} {c k : Nat} {l : List Tp.Lk} {C : Cnf}
set_option maxRecDepth 100000 in
set_option maxHeartbeats 8000000 in
theorem rstep_none (fi fs fd ft fg fw fp : Int) (ht : ¬ ft < 1) (hf : firstL fp fd (atC C fw) = -1) (RT : Rds Tp.fK 4 w x c l) (V : Lists w a k C) (hb60 : ∀ r ∈ C, r.length ≤ 60) :
    Calls Try.prog 13 #[.agg #[.int .i64 s, .int .i64 n, .slice x l.length c], .slice a C.length k, .agg #[.int .i64 fi, .int .i64 fs, .int .i64 fd, .int .i64 ft, .int .i64 fg, .int .i64 fw, .int .i64 fp]] w fun e w' => e = .returned (.tuple #[.agg #[.int .i64 0, .int .i64 fi, .int .i64 fw, .int .i64 fp, .int .i64 fg, .int .i64 3, .int .i64 0], .agg #[.int .i64 0, .int .i64 0, .int .i64 0, .int .i64 0, .int .i64 0, .int .i64 0, .int .i64 0]]) ∧ Below w.heap.size w w' := by
  obtain ⟨W, hW, hB, t0, t1, t2, X1, X2, X3, X4, X5⟩ := boxes13 w s n x l c fi fs fd ft fg fw fp
  have lt : w.heap.size < W.heap.size := Nat.lt_trans (Nat.lt_succ_self _) X1.lt
  replace V := V.later hB
  have cA := rat_any W V (fun r hr => Nat.le_trans (hb60 r hr) (by decide)) fw
  go_enter Try.func13, Try.ntmps13
  go_wp2_with fail
  rw [← hW]
  clear hW
  refine cA.mono ?_
  clear cA V
  rintro e w1 ⟨y, j, rfl, R1, hb1⟩
  replace t0 := (hb1.cell (p := ⟨w.heap.size, 0, none⟩) lt).trans t0
  replace t1 := (hb1.cell (p := ⟨w.heap.size, 1, none⟩) lt).trans t1
  replace t2 := (hb1.cell (p := ⟨w.heap.size, 2, none⟩) lt).trans t2
  replace lt := Nat.lt_of_lt_of_le lt hb1.size
  replace X1 := X1.later hb1
  replace X2 := X2.later hb1
  replace X3 := X3.later hb1
  replace X4 := X4.later hb1
  replace X5 := X5.later hb1
  replace hB := below_step hB hb1
  clear hb1
  have cF := rfirst8_any w1 R1 fp fd
  rw [hf] at cF
  obtain ⟨r0, r1, r2, r3, r4, r5, r6⟩ := X1.seven
  go_wp2_with fail
  refine cF.mono ?_
  clear cF r0 r1 r2 r3 r4 r5 r6
  rintro e w2 ⟨rfl, hb2⟩
  replace R1 := R1.later hb2
  replace t0 := (hb2.cell (p := ⟨w.heap.size, 0, none⟩) lt).trans t0
  replace t1 := (hb2.cell (p := ⟨w.heap.size, 1, none⟩) lt).trans t1
  replace t2 := (hb2.cell (p := ⟨w.heap.size, 2, none⟩) lt).trans t2
  replace lt := Nat.lt_of_lt_of_le lt hb2.size
  replace X1 := X1.later hb2
  replace X2 := X2.later hb2
  replace X3 := X3.later hb2
  replace X4 := X4.later hb2
  replace X5 := X5.later hb2
  replace hB := below_step hB hb2
  clear hb2
  clear R1 RT t0 t1 t2
  obtain ⟨r0, r1, r2, r3, r4, r5, r6⟩ := X4.seven
  have z4 := X4.fz
  have q4 := X4.lt
  go_wp2_with fail
  have hS := hB.setCell (p := ⟨w.heap.size + 1 + 1 + 1 + 1, 5, none⟩) (by show w.heap.size ≤ w.heap.size + 1 + 1 + 1 + 1; omega) (.int .i64 3)
  clear r0 r1 r2 r3 r4 r5 r6 z4 q4
  replace X4 := X4.set1 (j := 5) (by simp) 3
  replace X2 := X2.far1 (b := w.heap.size + 1 + 1 + 1 + 1) (by omega) 5 (.int .i64 3)
  replace X3 := X3.far1 (b := w.heap.size + 1 + 1 + 1 + 1) (by omega) 5 (.int .i64 3)
  replace X5 := X5.far1 (b := w.heap.size + 1 + 1 + 1 + 1) (by omega) 5 (.int .i64 3)
  clear hB X1
  generalize w2.setCell ⟨w.heap.size + 1 + 1 + 1 + 1, 5, none⟩ (.int .i64 3) = W3 at hS X2 X3 X4 X5 ⊢
  simp only [List.set_cons_succ, List.set_cons_zero] at X4
  have S0 : Below w.heap.size w W3.drew ∧ Lies W3.drew (w.heap.size + 1 + 1 + 1 + 1) [0, fi, fw, fp, fg, 3, 0] ∧ Lies W3.drew (w.heap.size + 1 + 1 + 1 + 1 + 1) [0, 0, 0, 0, 0, 0, 0] := ⟨hS.drew, X4.later (Below.refl _ _).drew, X5.later (Below.refl _ _).drew⟩
  replace X2 := X2.later (Below.refl W3.heap.size W3).drew
  replace X3 := X3.later (Below.refl W3.heap.size W3).drew
  clear X4 X5 hS
  refine wp_region_noPanic ?_
  refine wp_region_held_drew (S := fun w' => Below w.heap.size w w' ∧ Lies w' (w.heap.size + 1 + 1 + 1 + 1) [0, fi, fw, fp, fg, 3, 0] ∧ Lies w' (w.heap.size + 1 + 1 + 1 + 1 + 1) [0, 0, 0, 0, 0, 0, 0]) (by kernel_rfl) S0 (fun hH => ?_)
  clear S0
  generalize W3.drew = V0 at hH X2 X3 ⊢
  refine wpAnyH_take (i := 0) (oi := { dst := some 49, op := _, type := _, pos := _, after := _, guard := _ }) (v := ?_) rfl (by kernel_rfl) (by kernel_rfl) (by kernel_rfl) (fun _ _ _ h => h) (Or.inl ⟨by rfl, ?_⟩) hH ?_
  rotate_left
  · intro wz hSw
    (try dsimp only at hSw)
    obtain ⟨r0, r1, r2, r3, r4, r5, r6⟩ := hSw.2.1.seven
    first | (go_simp; done) | (go_simp; with_reducible rfl)
  try simp only [Act.put, List.setIfInBounds_toArray, List.set_cons_zero, List.set_cons_succ]
  refine wpAnyH_take (i := 1) (oi := { dst := some 50, op := _, type := _, pos := _, after := _, guard := _ }) (v := ?_) rfl (by kernel_rfl) (by kernel_rfl) (by kernel_rfl) (fun _ _ _ h => h) (Or.inl ⟨by rfl, ?_⟩) hH ?_
  rotate_left
  · intro wz hSw
    (try dsimp only at hSw)
    obtain ⟨r0, r1, r2, r3, r4, r5, r6⟩ := hSw.2.2.seven
    first | (go_simp; done) | (go_simp; with_reducible rfl)
  try simp only [Act.put, List.setIfInBounds_toArray, List.set_cons_zero, List.set_cons_succ]
  refine wpAnyH_ready (rs := [2]) (by kernel_rfl) (by simp) ?_
  refine (AllReadyH.cons (o := { dst := none, op := _, type := _, pos := _, after := _, guard := _ }) rfl (fun K hK => ?_) AllReadyH.nil)
  obtain ⟨r0, r1, r2, r3, r4, r5, r6⟩ := X2.seven
  have pl := X2.lt
  have pf := X2.fz
  go_simp
  have hn : Below w.heap.size w (lay7 V0 (w.heap.size + 1 + 1) 0 fi fw fp fg 3 0) ∧ Lies (lay7 V0 (w.heap.size + 1 + 1) 0 fi fw fp fg 3 0) (w.heap.size + 1 + 1 + 1 + 1) [0, fi, fw, fp, fg, 3, 0] ∧ Lies (lay7 V0 (w.heap.size + 1 + 1) 0 fi fw fp fg 3 0) (w.heap.size + 1 + 1 + 1 + 1 + 1) [0, 0, 0, 0, 0, 0, 0] := ⟨below_lay7 hH.1 (by omega) 0 fi fw fp fg 3 0, hH.2.1.far7 (by omega) 0 fi fw fp fg 3 0, hH.2.2.far7 (by omega) 0 fi fw fp fg 3 0⟩
  replace X2 := X2.put7 0 fi fw fp fg 3 0
  replace X3 := X3.far7 (b := w.heap.size + 1 + 1) (by omega) 0 fi fw fp fg 3 0
  clear r0 r1 r2 r3 r4 r5 r6 pl pf
  generalize hV : lay7 V0 (w.heap.size + 1 + 1) 0 fi fw fp fg 3 0 = V1 at hn X2 X3
  unfold lay7 at hV
  rw [hV]
  clear hV
  refine hK.out _ _ hn (fun hH2 => ?_)
  clear hK K hH hn
  have hH := hH2
  clear hH2
  try simp only [Act.put, List.setIfInBounds_toArray, List.set_cons_zero, List.set_cons_succ]
  refine wpAnyH_ready (rs := [3]) (by kernel_rfl) (by simp) ?_
  refine (AllReadyH.cons (o := { dst := none, op := _, type := _, pos := _, after := _, guard := _ }) rfl (fun K hK => ?_) AllReadyH.nil)
  obtain ⟨r0, r1, r2, r3, r4, r5, r6⟩ := X3.seven
  have pl := X3.lt
  have pf := X3.fz
  go_simp
  have hn : Below w.heap.size w (lay7 V1 (w.heap.size + 1 + 1 + 1) 0 0 0 0 0 0 0) ∧ Lies (lay7 V1 (w.heap.size + 1 + 1 + 1) 0 0 0 0 0 0 0) (w.heap.size + 1 + 1 + 1 + 1) [0, fi, fw, fp, fg, 3, 0] ∧ Lies (lay7 V1 (w.heap.size + 1 + 1 + 1) 0 0 0 0 0 0 0) (w.heap.size + 1 + 1 + 1 + 1 + 1) [0, 0, 0, 0, 0, 0, 0] := ⟨below_lay7 hH.1 (by omega) 0 0 0 0 0 0 0, hH.2.1.far7 (by omega) 0 0 0 0 0 0 0, hH.2.2.far7 (by omega) 0 0 0 0 0 0 0⟩
  replace X3 := X3.put7 0 0 0 0 0 0 0
  replace X2 := X2.far7 (b := w.heap.size + 1 + 1 + 1) (by omega) 0 0 0 0 0 0 0
  clear r0 r1 r2 r3 r4 r5 r6 pl pf
  generalize hV : lay7 V1 (w.heap.size + 1 + 1 + 1) 0 0 0 0 0 0 0 = V2 at hn X2 X3
  unfold lay7 at hV
  rw [hV]
  clear hV
  refine hK.out _ _ hn (fun hH2 => ?_)
  clear hK K hH hn
  have hH := hH2
  clear hH2
  try simp only [Act.put, List.setIfInBounds_toArray, List.set_cons_zero, List.set_cons_succ]
  refine wpAnyH_done (by kernel_rfl) ?_ _
  refine NoPanic.normal ?_
  have hB := hH.1
  clear hH
  obtain ⟨r0, r1, r2, r3, r4, r5, r6⟩ := X2.seven
  obtain ⟨p0, p1, p2, p3, p4, p5, p6⟩ := X3.seven
  clear X2 X3
  go_wp2_with fail
  refine bodyPost_ret (v := .tuple #[.agg #[.int .i64 0, .int .i64 fi, .int .i64 fw, .int .i64 fp, .int .i64 fg, .int .i64 3, .int .i64 0], .agg #[.int .i64 0, .int .i64 0, .int .i64 0, .int .i64 0, .int .i64 0, .int .i64 0, .int .i64 0]]) (by simp [results, Try.results13, go_sem, r0, r1, r2, r3, r4, r5, r6, p0, p1, p2, p3, p4, p5, p6]) rfl ?_
  exact ⟨rfl, hB⟩
set_option maxRecDepth 100000 in
set_option maxHeartbeats 8000000 in
theorem rstep_by (fi fs fd ft fg fw fp : Int) (ht : ¬ ft < 1) {q : Nat} (hq : q < (atC C fw).length) (hf : firstL fp fd (atC C fw) = (q : Int)) (hk : ¬ ((atC C fw).getD q default).k = 1) (RT : Rds Tp.fK 4 w x c l) (V : Lists w a k C) (hb60 : ∀ r ∈ C, r.length ≤ 60) :
    Calls Try.prog 13 #[.agg #[.int .i64 s, .int .i64 n, .slice x l.length c], .slice a C.length k, .agg #[.int .i64 fi, .int .i64 fs, .int .i64 fd, .int .i64 ft, .int .i64 fg, .int .i64 fw, .int .i64 fp]] w fun e w' => e = .returned (.tuple #[.agg #[.int .i64 0, .int .i64 fi, .int .i64 fw, .int .i64 fp, .int .i64 fg, .int .i64 2, .int .i64 0], .agg #[.int .i64 0, .int .i64 0, .int .i64 0, .int .i64 0, .int .i64 0, .int .i64 0, .int .i64 0]]) ∧ Below w.heap.size w w' := by
  obtain ⟨W, hW, hB, t0, t1, t2, X1, X2, X3, X4, X5⟩ := boxes13 w s n x l c fi fs fd ft fg fw fp
  have lt : w.heap.size < W.heap.size := Nat.lt_trans (Nat.lt_succ_self _) X1.lt
  replace V := V.later hB
  have cA := rat_any W V (fun r hr => Nat.le_trans (hb60 r hr) (by decide)) fw
  go_enter Try.func13, Try.ntmps13
  go_wp2_with fail
  rw [← hW]
  clear hW
  refine cA.mono ?_
  clear cA V
  rintro e w1 ⟨y, j, rfl, R1, hb1⟩
  replace t0 := (hb1.cell (p := ⟨w.heap.size, 0, none⟩) lt).trans t0
  replace t1 := (hb1.cell (p := ⟨w.heap.size, 1, none⟩) lt).trans t1
  replace t2 := (hb1.cell (p := ⟨w.heap.size, 2, none⟩) lt).trans t2
  replace lt := Nat.lt_of_lt_of_le lt hb1.size
  replace X1 := X1.later hb1
  replace X2 := X2.later hb1
  replace X3 := X3.later hb1
  replace X4 := X4.later hb1
  replace X5 := X5.later hb1
  replace hB := below_step hB hb1
  clear hb1
  have cF := rfirst8_any w1 R1 fp fd
  rw [hf] at cF
  obtain ⟨r0, r1, r2, r3, r4, r5, r6⟩ := X1.seven
  go_wp2_with fail
  refine cF.mono ?_
  clear cF r0 r1 r2 r3 r4 r5 r6
  rintro e w2 ⟨rfl, hb2⟩
  replace R1 := R1.later hb2
  replace t0 := (hb2.cell (p := ⟨w.heap.size, 0, none⟩) lt).trans t0
  replace t1 := (hb2.cell (p := ⟨w.heap.size, 1, none⟩) lt).trans t1
  replace t2 := (hb2.cell (p := ⟨w.heap.size, 2, none⟩) lt).trans t2
  replace lt := Nat.lt_of_lt_of_le lt hb2.size
  replace X1 := X1.later hb2
  replace X2 := X2.later hb2
  replace X3 := X3.later hb2
  replace X4 := X4.later hb2
  replace X5 := X5.later hb2
  replace hB := below_step hB hb2
  clear hb2
  have hq0 : ¬ (q : Int) < 0 := by omega
  have hqz : (q : Int) < ((atC C fw).length : Int) := by omega
  have hmx := Nat.le_trans R1.le R1.max
  unfold maxLen at hmx
  obtain ⟨b, o, rfl, hbb, hc⟩ := R1.at (getD_at hq)
  generalize hr : (atC C fw).getD q default = r at hc hk
  obtain ⟨ra, rn, ri, rp, rk, rt⟩ := r
  have v4 := hc 4 _ rfl
  have v5 := hc 5 _ rfl
  clear hc hr
  simp only at hk
  clear R1 RT t0 t1 t2
  obtain ⟨r0, r1, r2, r3, r4, r5, r6⟩ := X4.seven
  have z4 := X4.fz
  have q4 := X4.lt
  go_wp2_with fail
  have hS := hB.setCell (p := ⟨w.heap.size + 1 + 1 + 1 + 1, 5, none⟩) (by show w.heap.size ≤ w.heap.size + 1 + 1 + 1 + 1; omega) (.int .i64 2)
  clear r0 r1 r2 r3 r4 r5 r6 z4 q4
  replace X4 := X4.set1 (j := 5) (by simp) 2
  replace X2 := X2.far1 (b := w.heap.size + 1 + 1 + 1 + 1) (by omega) 5 (.int .i64 2)
  replace X3 := X3.far1 (b := w.heap.size + 1 + 1 + 1 + 1) (by omega) 5 (.int .i64 2)
  replace X5 := X5.far1 (b := w.heap.size + 1 + 1 + 1 + 1) (by omega) 5 (.int .i64 2)
  clear hB X1
  generalize w2.setCell ⟨w.heap.size + 1 + 1 + 1 + 1, 5, none⟩ (.int .i64 2) = W3 at hS X2 X3 X4 X5 ⊢
  simp only [List.set_cons_succ, List.set_cons_zero] at X4
  clear v4 v5
  have S0 : Below w.heap.size w W3.drew ∧ Lies W3.drew (w.heap.size + 1 + 1 + 1 + 1) [0, fi, fw, fp, fg, 2, 0] ∧ Lies W3.drew (w.heap.size + 1 + 1 + 1 + 1 + 1) [0, 0, 0, 0, 0, 0, 0] := ⟨hS.drew, X4.later (Below.refl _ _).drew, X5.later (Below.refl _ _).drew⟩
  replace X2 := X2.later (Below.refl W3.heap.size W3).drew
  replace X3 := X3.later (Below.refl W3.heap.size W3).drew
  clear X4 X5 hS
  refine wp_region_noPanic ?_
  refine wp_region_held_drew (S := fun w' => Below w.heap.size w w' ∧ Lies w' (w.heap.size + 1 + 1 + 1 + 1) [0, fi, fw, fp, fg, 2, 0] ∧ Lies w' (w.heap.size + 1 + 1 + 1 + 1 + 1) [0, 0, 0, 0, 0, 0, 0]) (by kernel_rfl) S0 (fun hH => ?_)
  clear S0
  generalize W3.drew = V0 at hH X2 X3 ⊢
  refine wpAnyH_take (i := 0) (oi := { dst := some 59, op := _, type := _, pos := _, after := _, guard := _ }) (v := ?_) rfl (by kernel_rfl) (by kernel_rfl) (by kernel_rfl) (fun _ _ _ h => h) (Or.inl ⟨by rfl, ?_⟩) hH ?_
  rotate_left
  · intro wz hSw
    (try dsimp only at hSw)
    obtain ⟨r0, r1, r2, r3, r4, r5, r6⟩ := hSw.2.1.seven
    first | (go_simp; done) | (go_simp; with_reducible rfl)
  try simp only [Act.put, List.setIfInBounds_toArray, List.set_cons_zero, List.set_cons_succ]
  refine wpAnyH_take (i := 1) (oi := { dst := some 60, op := _, type := _, pos := _, after := _, guard := _ }) (v := ?_) rfl (by kernel_rfl) (by kernel_rfl) (by kernel_rfl) (fun _ _ _ h => h) (Or.inl ⟨by rfl, ?_⟩) hH ?_
  rotate_left
  · intro wz hSw
    (try dsimp only at hSw)
    obtain ⟨r0, r1, r2, r3, r4, r5, r6⟩ := hSw.2.2.seven
    first | (go_simp; done) | (go_simp; with_reducible rfl)
  try simp only [Act.put, List.setIfInBounds_toArray, List.set_cons_zero, List.set_cons_succ]
  refine wpAnyH_ready (rs := [2]) (by kernel_rfl) (by simp) ?_
  refine (AllReadyH.cons (o := { dst := none, op := _, type := _, pos := _, after := _, guard := _ }) rfl (fun K hK => ?_) AllReadyH.nil)
  obtain ⟨r0, r1, r2, r3, r4, r5, r6⟩ := X2.seven
  have pl := X2.lt
  have pf := X2.fz
  go_simp
  have hn : Below w.heap.size w (lay7 V0 (w.heap.size + 1 + 1) 0 fi fw fp fg 2 0) ∧ Lies (lay7 V0 (w.heap.size + 1 + 1) 0 fi fw fp fg 2 0) (w.heap.size + 1 + 1 + 1 + 1) [0, fi, fw, fp, fg, 2, 0] ∧ Lies (lay7 V0 (w.heap.size + 1 + 1) 0 fi fw fp fg 2 0) (w.heap.size + 1 + 1 + 1 + 1 + 1) [0, 0, 0, 0, 0, 0, 0] := ⟨below_lay7 hH.1 (by omega) 0 fi fw fp fg 2 0, hH.2.1.far7 (by omega) 0 fi fw fp fg 2 0, hH.2.2.far7 (by omega) 0 fi fw fp fg 2 0⟩
  replace X2 := X2.put7 0 fi fw fp fg 2 0
  replace X3 := X3.far7 (b := w.heap.size + 1 + 1) (by omega) 0 fi fw fp fg 2 0
  clear r0 r1 r2 r3 r4 r5 r6 pl pf
  generalize hV : lay7 V0 (w.heap.size + 1 + 1) 0 fi fw fp fg 2 0 = V1 at hn X2 X3
  unfold lay7 at hV
  rw [hV]
  clear hV
  refine hK.out _ _ hn (fun hH2 => ?_)
  clear hK K hH hn
  have hH := hH2
  clear hH2
  try simp only [Act.put, List.setIfInBounds_toArray, List.set_cons_zero, List.set_cons_succ]
  refine wpAnyH_ready (rs := [3]) (by kernel_rfl) (by simp) ?_
  refine (AllReadyH.cons (o := { dst := none, op := _, type := _, pos := _, after := _, guard := _ }) rfl (fun K hK => ?_) AllReadyH.nil)
  obtain ⟨r0, r1, r2, r3, r4, r5, r6⟩ := X3.seven
  have pl := X3.lt
  have pf := X3.fz
  go_simp
  have hn : Below w.heap.size w (lay7 V1 (w.heap.size + 1 + 1 + 1) 0 0 0 0 0 0 0) ∧ Lies (lay7 V1 (w.heap.size + 1 + 1 + 1) 0 0 0 0 0 0 0) (w.heap.size + 1 + 1 + 1 + 1) [0, fi, fw, fp, fg, 2, 0] ∧ Lies (lay7 V1 (w.heap.size + 1 + 1 + 1) 0 0 0 0 0 0 0) (w.heap.size + 1 + 1 + 1 + 1 + 1) [0, 0, 0, 0, 0, 0, 0] := ⟨below_lay7 hH.1 (by omega) 0 0 0 0 0 0 0, hH.2.1.far7 (by omega) 0 0 0 0 0 0 0, hH.2.2.far7 (by omega) 0 0 0 0 0 0 0⟩
  replace X3 := X3.put7 0 0 0 0 0 0 0
  replace X2 := X2.far7 (b := w.heap.size + 1 + 1 + 1) (by omega) 0 0 0 0 0 0 0
  clear r0 r1 r2 r3 r4 r5 r6 pl pf
  generalize hV : lay7 V1 (w.heap.size + 1 + 1 + 1) 0 0 0 0 0 0 0 = V2 at hn X2 X3
  unfold lay7 at hV
  rw [hV]
  clear hV
  refine hK.out _ _ hn (fun hH2 => ?_)
  clear hK K hH hn
  have hH := hH2
  clear hH2
  try simp only [Act.put, List.setIfInBounds_toArray, List.set_cons_zero, List.set_cons_succ]
  refine wpAnyH_done (by kernel_rfl) ?_ _
  refine NoPanic.normal ?_
  have hB := hH.1
  clear hH
  obtain ⟨r0, r1, r2, r3, r4, r5, r6⟩ := X2.seven
  obtain ⟨p0, p1, p2, p3, p4, p5, p6⟩ := X3.seven
  clear X2 X3
  go_wp2_with fail
  refine bodyPost_ret (v := .tuple #[.agg #[.int .i64 0, .int .i64 fi, .int .i64 fw, .int .i64 fp, .int .i64 fg, .int .i64 2, .int .i64 0], .agg #[.int .i64 0, .int .i64 0, .int .i64 0, .int .i64 0, .int .i64 0, .int .i64 0, .int .i64 0]]) (by simp [results, Try.results13, go_sem, r0, r1, r2, r3, r4, r5, r6, p0, p1, p2, p3, p4, p5, p6]) rfl ?_
  exact ⟨rfl, hB⟩
set_option maxRecDepth 100000 in
set_option maxHeartbeats 8000000 in
theorem rstep_del (fi fs fd ft fg fw fp : Int) (ht : ¬ ft < 1) {q : Nat} (hq : q < (atC C fw).length) (hf : firstL fp fd (atC C fw) = (q : Int)) (ra rn ri rp rt : Int) (hr : (atC C fw).getD q default = (⟨ra, rn, ri, rp, 1, rt⟩ : Rl)) (hfar : Tp.far s n l (fw, rt) = none) (RT : Rds Tp.fK 4 w x c l) (V : Lists w a k C) (hb60 : ∀ r ∈ C, r.length ≤ 60) :
    Calls Try.prog 13 #[.agg #[.int .i64 s, .int .i64 n, .slice x l.length c], .slice a C.length k, .agg #[.int .i64 fi, .int .i64 fs, .int .i64 fd, .int .i64 ft, .int .i64 fg, .int .i64 fw, .int .i64 fp]] w fun e w' => e = .returned (.tuple #[.agg #[.int .i64 0, .int .i64 fi, .int .i64 fw, .int .i64 fp, .int .i64 fg, .int .i64 1, .int .i64 rt], .agg #[.int .i64 0, .int .i64 0, .int .i64 0, .int .i64 0, .int .i64 0, .int .i64 0, .int .i64 0]]) ∧ Below w.heap.size w w' := by
  obtain ⟨W, hW, hB, t0, t1, t2, X1, X2, X3, X4, X5⟩ := boxes13 w s n x l c fi fs fd ft fg fw fp
  have lt : w.heap.size < W.heap.size := Nat.lt_trans (Nat.lt_succ_self _) X1.lt
  replace V := V.later hB
  have cA := rat_any W V (fun r hr => Nat.le_trans (hb60 r hr) (by decide)) fw
  go_enter Try.func13, Try.ntmps13
  go_wp2_with fail
  rw [← hW]
  clear hW
  refine cA.mono ?_
  clear cA V
  rintro e w1 ⟨y, j, rfl, R1, hb1⟩
  replace t0 := (hb1.cell (p := ⟨w.heap.size, 0, none⟩) lt).trans t0
  replace t1 := (hb1.cell (p := ⟨w.heap.size, 1, none⟩) lt).trans t1
  replace t2 := (hb1.cell (p := ⟨w.heap.size, 2, none⟩) lt).trans t2
  replace lt := Nat.lt_of_lt_of_le lt hb1.size
  replace X1 := X1.later hb1
  replace X2 := X2.later hb1
  replace X3 := X3.later hb1
  replace X4 := X4.later hb1
  replace X5 := X5.later hb1
  replace hB := below_step hB hb1
  clear hb1
  have cF := rfirst8_any w1 R1 fp fd
  rw [hf] at cF
  obtain ⟨r0, r1, r2, r3, r4, r5, r6⟩ := X1.seven
  go_wp2_with fail
  refine cF.mono ?_
  clear cF r0 r1 r2 r3 r4 r5 r6
  rintro e w2 ⟨rfl, hb2⟩
  replace R1 := R1.later hb2
  replace t0 := (hb2.cell (p := ⟨w.heap.size, 0, none⟩) lt).trans t0
  replace t1 := (hb2.cell (p := ⟨w.heap.size, 1, none⟩) lt).trans t1
  replace t2 := (hb2.cell (p := ⟨w.heap.size, 2, none⟩) lt).trans t2
  replace lt := Nat.lt_of_lt_of_le lt hb2.size
  replace X1 := X1.later hb2
  replace X2 := X2.later hb2
  replace X3 := X3.later hb2
  replace X4 := X4.later hb2
  replace X5 := X5.later hb2
  replace hB := below_step hB hb2
  clear hb2
  have hq0 : ¬ (q : Int) < 0 := by omega
  have hqz : (q : Int) < ((atC C fw).length : Int) := by omega
  have hmx := Nat.le_trans R1.le R1.max
  unfold maxLen at hmx
  obtain ⟨b, o, rfl, hbb, hc⟩ := R1.at (getD_at hq)
  rw [hr] at hc
  have v4 := hc 4 _ rfl
  have v5 := hc 5 _ rfl
  clear hc hr
  clear R1
  obtain ⟨r0, r1, r2, r3, r4, r5, r6⟩ := X1.seven
  obtain ⟨u0, u1, u2, u3, u4, u5, u6⟩ := X4.seven
  have z4 := X4.fz
  have q4 := X4.lt
  go_wp2_with fail
  have hS := hB.setCell (p := ⟨w.heap.size + 1 + 1 + 1 + 1, 6, none⟩) (by show w.heap.size ≤ w.heap.size + 1 + 1 + 1 + 1; omega) (.int .i64 rt)
  clear r0 r1 r2 r3 r4 r5 r6 u0 u1 u2 u3 u4 u5 u6 z4 q4 hB v4 v5
  replace X4 := X4.set1 (j := 6) (by simp) rt
  replace X1 := X1.far1 (b := w.heap.size + 1 + 1 + 1 + 1) (by omega) 6 (.int .i64 rt)
  replace X2 := X2.far1 (b := w.heap.size + 1 + 1 + 1 + 1) (by omega) 6 (.int .i64 rt)
  replace X3 := X3.far1 (b := w.heap.size + 1 + 1 + 1 + 1) (by omega) 6 (.int .i64 rt)
  replace X5 := X5.far1 (b := w.heap.size + 1 + 1 + 1 + 1) (by omega) 6 (.int .i64 rt)
  replace t0 := (World.cell?_setCell_other w2 ⟨w.heap.size + 1 + 1 + 1 + 1, 6, none⟩ ⟨w.heap.size, 0, none⟩ (.int .i64 rt) (by intro g; injection g with g1; omega)).trans t0
  replace t1 := (World.cell?_setCell_other w2 ⟨w.heap.size + 1 + 1 + 1 + 1, 6, none⟩ ⟨w.heap.size, 1, none⟩ (.int .i64 rt) (by intro g; injection g with g1; omega)).trans t1
  replace t2 := (World.cell?_setCell_other w2 ⟨w.heap.size + 1 + 1 + 1 + 1, 6, none⟩ ⟨w.heap.size, 2, none⟩ (.int .i64 rt) (by intro g; injection g with g1; omega)).trans t2
  have lt3 : w.heap.size < (w2.setCell ⟨w.heap.size + 1 + 1 + 1 + 1, 6, none⟩ (.int .i64 rt)).heap.size := by rw [World.size_setCell]; exact lt
  clear lt
  generalize (w2.setCell ⟨w.heap.size + 1 + 1 + 1 + 1, 6, none⟩ (.int .i64 rt)) = W3 at hS X1 X2 X3 X4 X5 t0 t1 t2 lt3 ⊢
  simp only [List.set_cons_succ, List.set_cons_zero] at X4
  have cG := rfar_any s n W3 (RT.later hS) fw rt
  rw [hfar] at cG
  dsimp only [other, Option.getD_some, Option.getD_none, Option.isSome_some, Option.isSome_none] at cG
  refine cG.mono ?_
  clear cG
  rintro e w4 ⟨rfl, hb4⟩
  have hB := below_step hS hb4
  replace X1 := X1.later hb4
  replace X2 := X2.later hb4
  replace X3 := X3.later hb4
  replace X4 := X4.later hb4
  replace X5 := X5.later hb4
  clear hb4 hS t0 t1 t2 lt3
  obtain ⟨r0, r1, r2, r3, r4, r5, r6⟩ := X4.seven
  have z4 := X4.fz
  have q4 := X4.lt
  go_wp2_with fail
  have hS := hB.setCell (p := ⟨w.heap.size + 1 + 1 + 1 + 1, 5, none⟩) (by show w.heap.size ≤ w.heap.size + 1 + 1 + 1 + 1; omega) (.int .i64 1)
  clear r0 r1 r2 r3 r4 r5 r6 z4 q4
  replace X4 := X4.set1 (j := 5) (by simp) 1
  replace X2 := X2.far1 (b := w.heap.size + 1 + 1 + 1 + 1) (by omega) 5 (.int .i64 1)
  replace X3 := X3.far1 (b := w.heap.size + 1 + 1 + 1 + 1) (by omega) 5 (.int .i64 1)
  replace X5 := X5.far1 (b := w.heap.size + 1 + 1 + 1 + 1) (by omega) 5 (.int .i64 1)
  clear hB X1
  generalize w4.setCell ⟨w.heap.size + 1 + 1 + 1 + 1, 5, none⟩ (.int .i64 1) = W3 at hS X2 X3 X4 X5 ⊢
  simp only [List.set_cons_succ, List.set_cons_zero] at X4
  have S0 : Below w.heap.size w W3.drew ∧ Lies W3.drew (w.heap.size + 1 + 1 + 1 + 1) [0, fi, fw, fp, fg, 1, rt] ∧ Lies W3.drew (w.heap.size + 1 + 1 + 1 + 1 + 1) [0, 0, 0, 0, 0, 0, 0] := ⟨hS.drew, X4.later (Below.refl _ _).drew, X5.later (Below.refl _ _).drew⟩
  replace X2 := X2.later (Below.refl W3.heap.size W3).drew
  replace X3 := X3.later (Below.refl W3.heap.size W3).drew
  clear X4 X5 hS
  refine wp_region_noPanic ?_
  refine wp_region_held_drew (S := fun w' => Below w.heap.size w w' ∧ Lies w' (w.heap.size + 1 + 1 + 1 + 1) [0, fi, fw, fp, fg, 1, rt] ∧ Lies w' (w.heap.size + 1 + 1 + 1 + 1 + 1) [0, 0, 0, 0, 0, 0, 0]) (by kernel_rfl) S0 (fun hH => ?_)
  clear S0
  generalize W3.drew = V0 at hH X2 X3 ⊢
  refine wpAnyH_take (i := 0) (oi := { dst := some 81, op := _, type := _, pos := _, after := _, guard := _ }) (v := ?_) rfl (by kernel_rfl) (by kernel_rfl) (by kernel_rfl) (fun _ _ _ h => h) (Or.inl ⟨by rfl, ?_⟩) hH ?_
  rotate_left
  · intro wz hSw
    (try dsimp only at hSw)
    obtain ⟨r0, r1, r2, r3, r4, r5, r6⟩ := hSw.2.1.seven
    first | (go_simp; done) | (go_simp; with_reducible rfl)
  try simp only [Act.put, List.setIfInBounds_toArray, List.set_cons_zero, List.set_cons_succ]
  refine wpAnyH_take (i := 1) (oi := { dst := some 82, op := _, type := _, pos := _, after := _, guard := _ }) (v := ?_) rfl (by kernel_rfl) (by kernel_rfl) (by kernel_rfl) (fun _ _ _ h => h) (Or.inl ⟨by rfl, ?_⟩) hH ?_
  rotate_left
  · intro wz hSw
    (try dsimp only at hSw)
    obtain ⟨r0, r1, r2, r3, r4, r5, r6⟩ := hSw.2.2.seven
    first | (go_simp; done) | (go_simp; with_reducible rfl)
  try simp only [Act.put, List.setIfInBounds_toArray, List.set_cons_zero, List.set_cons_succ]
  refine wpAnyH_ready (rs := [2]) (by kernel_rfl) (by simp) ?_
  refine (AllReadyH.cons (o := { dst := none, op := _, type := _, pos := _, after := _, guard := _ }) rfl (fun K hK => ?_) AllReadyH.nil)
  obtain ⟨r0, r1, r2, r3, r4, r5, r6⟩ := X2.seven
  have pl := X2.lt
  have pf := X2.fz
  go_simp
  have hn : Below w.heap.size w (lay7 V0 (w.heap.size + 1 + 1) 0 fi fw fp fg 1 rt) ∧ Lies (lay7 V0 (w.heap.size + 1 + 1) 0 fi fw fp fg 1 rt) (w.heap.size + 1 + 1 + 1 + 1) [0, fi, fw, fp, fg, 1, rt] ∧ Lies (lay7 V0 (w.heap.size + 1 + 1) 0 fi fw fp fg 1 rt) (w.heap.size + 1 + 1 + 1 + 1 + 1) [0, 0, 0, 0, 0, 0, 0] := ⟨below_lay7 hH.1 (by omega) 0 fi fw fp fg 1 rt, hH.2.1.far7 (by omega) 0 fi fw fp fg 1 rt, hH.2.2.far7 (by omega) 0 fi fw fp fg 1 rt⟩
  replace X2 := X2.put7 0 fi fw fp fg 1 rt
  replace X3 := X3.far7 (b := w.heap.size + 1 + 1) (by omega) 0 fi fw fp fg 1 rt
  clear r0 r1 r2 r3 r4 r5 r6 pl pf
  generalize hV : lay7 V0 (w.heap.size + 1 + 1) 0 fi fw fp fg 1 rt = V1 at hn X2 X3
  unfold lay7 at hV
  rw [hV]
  clear hV
  refine hK.out _ _ hn (fun hH2 => ?_)
  clear hK K hH hn
  have hH := hH2
  clear hH2
  try simp only [Act.put, List.setIfInBounds_toArray, List.set_cons_zero, List.set_cons_succ]
  refine wpAnyH_ready (rs := [3]) (by kernel_rfl) (by simp) ?_
  refine (AllReadyH.cons (o := { dst := none, op := _, type := _, pos := _, after := _, guard := _ }) rfl (fun K hK => ?_) AllReadyH.nil)
  obtain ⟨r0, r1, r2, r3, r4, r5, r6⟩ := X3.seven
  have pl := X3.lt
  have pf := X3.fz
  go_simp
  have hn : Below w.heap.size w (lay7 V1 (w.heap.size + 1 + 1 + 1) 0 0 0 0 0 0 0) ∧ Lies (lay7 V1 (w.heap.size + 1 + 1 + 1) 0 0 0 0 0 0 0) (w.heap.size + 1 + 1 + 1 + 1) [0, fi, fw, fp, fg, 1, rt] ∧ Lies (lay7 V1 (w.heap.size + 1 + 1 + 1) 0 0 0 0 0 0 0) (w.heap.size + 1 + 1 + 1 + 1 + 1) [0, 0, 0, 0, 0, 0, 0] := ⟨below_lay7 hH.1 (by omega) 0 0 0 0 0 0 0, hH.2.1.far7 (by omega) 0 0 0 0 0 0 0, hH.2.2.far7 (by omega) 0 0 0 0 0 0 0⟩
  replace X3 := X3.put7 0 0 0 0 0 0 0
  replace X2 := X2.far7 (b := w.heap.size + 1 + 1 + 1) (by omega) 0 0 0 0 0 0 0
  clear r0 r1 r2 r3 r4 r5 r6 pl pf
  generalize hV : lay7 V1 (w.heap.size + 1 + 1 + 1) 0 0 0 0 0 0 0 = V2 at hn X2 X3
  unfold lay7 at hV
  rw [hV]
  clear hV
  refine hK.out _ _ hn (fun hH2 => ?_)
  clear hK K hH hn
  have hH := hH2
  clear hH2
  try simp only [Act.put, List.setIfInBounds_toArray, List.set_cons_zero, List.set_cons_succ]
  refine wpAnyH_done (by kernel_rfl) ?_ _
  refine NoPanic.normal ?_
  have hB := hH.1
  clear hH
  obtain ⟨r0, r1, r2, r3, r4, r5, r6⟩ := X2.seven
  obtain ⟨p0, p1, p2, p3, p4, p5, p6⟩ := X3.seven
  clear X2 X3
  go_wp2_with fail
  refine bodyPost_ret (v := .tuple #[.agg #[.int .i64 0, .int .i64 fi, .int .i64 fw, .int .i64 fp, .int .i64 fg, .int .i64 1, .int .i64 rt], .agg #[.int .i64 0, .int .i64 0, .int .i64 0, .int .i64 0, .int .i64 0, .int .i64 0, .int .i64 0]]) (by simp [results, Try.results13, go_sem, r0, r1, r2, r3, r4, r5, r6, p0, p1, p2, p3, p4, p5, p6]) rfl ?_
  exact ⟨rfl, hB⟩
set_option maxRecDepth 100000 in
set_option maxHeartbeats 8000000 in
theorem rstep_went (fi fs fd ft fg fw fp : Int) (ht : ¬ ft < 1) {q : Nat} (hq : q < (atC C fw).length) (hf : firstL fp fd (atC C fw) = (q : Int)) (ra rn ri rp rt : Int) (hr : (atC C fw).getD q default = (⟨ra, rn, ri, rp, 1, rt⟩ : Rl)) (ht2 : ft ≤ 9223372036854775807) (ex ey : Int) (hfar : Tp.far s n l (fw, rt) = some (ex, ey)) (RT : Rds Tp.fK 4 w x c l) (V : Lists w a k C) (hb60 : ∀ r ∈ C, r.length ≤ 60) :
    Calls Try.prog 13 #[.agg #[.int .i64 s, .int .i64 n, .slice x l.length c], .slice a C.length k, .agg #[.int .i64 fi, .int .i64 fs, .int .i64 fd, .int .i64 ft, .int .i64 fg, .int .i64 fw, .int .i64 fp]] w fun e w' => e = .returned (.tuple #[.agg #[.int .i64 0, .int .i64 fi, .int .i64 fw, .int .i64 fp, .int .i64 fg, .int .i64 0, .int .i64 rt], .agg #[.int .i64 fi, .int .i64 fs, .int .i64 fd, .int .i64 (ft - 1), .int .i64 fg, .int .i64 ex, .int .i64 ey]]) ∧ Below w.heap.size w w' := by
  obtain ⟨W, hW, hB, t0, t1, t2, X1, X2, X3, X4, X5⟩ := boxes13 w s n x l c fi fs fd ft fg fw fp
  have lt : w.heap.size < W.heap.size := Nat.lt_trans (Nat.lt_succ_self _) X1.lt
  replace V := V.later hB
  have cA := rat_any W V (fun r hr => Nat.le_trans (hb60 r hr) (by decide)) fw
  go_enter Try.func13, Try.ntmps13
  go_wp2_with fail
  rw [← hW]
  clear hW
  refine cA.mono ?_
  clear cA V
  rintro e w1 ⟨y, j, rfl, R1, hb1⟩
  replace t0 := (hb1.cell (p := ⟨w.heap.size, 0, none⟩) lt).trans t0
  replace t1 := (hb1.cell (p := ⟨w.heap.size, 1, none⟩) lt).trans t1
  replace t2 := (hb1.cell (p := ⟨w.heap.size, 2, none⟩) lt).trans t2
  replace lt := Nat.lt_of_lt_of_le lt hb1.size
  replace X1 := X1.later hb1
  replace X2 := X2.later hb1
  replace X3 := X3.later hb1
  replace X4 := X4.later hb1
  replace X5 := X5.later hb1
  replace hB := below_step hB hb1
  clear hb1
  have cF := rfirst8_any w1 R1 fp fd
  rw [hf] at cF
  obtain ⟨r0, r1, r2, r3, r4, r5, r6⟩ := X1.seven
  go_wp2_with fail
  refine cF.mono ?_
  clear cF r0 r1 r2 r3 r4 r5 r6
  rintro e w2 ⟨rfl, hb2⟩
  replace R1 := R1.later hb2
  replace t0 := (hb2.cell (p := ⟨w.heap.size, 0, none⟩) lt).trans t0
  replace t1 := (hb2.cell (p := ⟨w.heap.size, 1, none⟩) lt).trans t1
  replace t2 := (hb2.cell (p := ⟨w.heap.size, 2, none⟩) lt).trans t2
  replace lt := Nat.lt_of_lt_of_le lt hb2.size
  replace X1 := X1.later hb2
  replace X2 := X2.later hb2
  replace X3 := X3.later hb2
  replace X4 := X4.later hb2
  replace X5 := X5.later hb2
  replace hB := below_step hB hb2
  clear hb2
  have hq0 : ¬ (q : Int) < 0 := by omega
  have hqz : (q : Int) < ((atC C fw).length : Int) := by omega
  have hmx := Nat.le_trans R1.le R1.max
  unfold maxLen at hmx
  obtain ⟨b, o, rfl, hbb, hc⟩ := R1.at (getD_at hq)
  rw [hr] at hc
  have v4 := hc 4 _ rfl
  have v5 := hc 5 _ rfl
  clear hc hr
  clear R1
  obtain ⟨r0, r1, r2, r3, r4, r5, r6⟩ := X1.seven
  obtain ⟨u0, u1, u2, u3, u4, u5, u6⟩ := X4.seven
  have z4 := X4.fz
  have q4 := X4.lt
  go_wp2_with fail
  have hS := hB.setCell (p := ⟨w.heap.size + 1 + 1 + 1 + 1, 6, none⟩) (by show w.heap.size ≤ w.heap.size + 1 + 1 + 1 + 1; omega) (.int .i64 rt)
  clear r0 r1 r2 r3 r4 r5 r6 u0 u1 u2 u3 u4 u5 u6 z4 q4 hB v4 v5
  replace X4 := X4.set1 (j := 6) (by simp) rt
  replace X1 := X1.far1 (b := w.heap.size + 1 + 1 + 1 + 1) (by omega) 6 (.int .i64 rt)
  replace X2 := X2.far1 (b := w.heap.size + 1 + 1 + 1 + 1) (by omega) 6 (.int .i64 rt)
  replace X3 := X3.far1 (b := w.heap.size + 1 + 1 + 1 + 1) (by omega) 6 (.int .i64 rt)
  replace X5 := X5.far1 (b := w.heap.size + 1 + 1 + 1 + 1) (by omega) 6 (.int .i64 rt)
  replace t0 := (World.cell?_setCell_other w2 ⟨w.heap.size + 1 + 1 + 1 + 1, 6, none⟩ ⟨w.heap.size, 0, none⟩ (.int .i64 rt) (by intro g; injection g with g1; omega)).trans t0
  replace t1 := (World.cell?_setCell_other w2 ⟨w.heap.size + 1 + 1 + 1 + 1, 6, none⟩ ⟨w.heap.size, 1, none⟩ (.int .i64 rt) (by intro g; injection g with g1; omega)).trans t1
  replace t2 := (World.cell?_setCell_other w2 ⟨w.heap.size + 1 + 1 + 1 + 1, 6, none⟩ ⟨w.heap.size, 2, none⟩ (.int .i64 rt) (by intro g; injection g with g1; omega)).trans t2
  have lt3 : w.heap.size < (w2.setCell ⟨w.heap.size + 1 + 1 + 1 + 1, 6, none⟩ (.int .i64 rt)).heap.size := by rw [World.size_setCell]; exact lt
  clear lt
  generalize (w2.setCell ⟨w.heap.size + 1 + 1 + 1 + 1, 6, none⟩ (.int .i64 rt)) = W3 at hS X1 X2 X3 X4 X5 t0 t1 t2 lt3 ⊢
  simp only [List.set_cons_succ, List.set_cons_zero] at X4
  have cG := rfar_any s n W3 (RT.later hS) fw rt
  rw [hfar] at cG
  dsimp only [other, Option.getD_some, Option.getD_none, Option.isSome_some, Option.isSome_none] at cG
  refine cG.mono ?_
  clear cG
  rintro e w4 ⟨rfl, hb4⟩
  have hB := below_step hS hb4
  replace X1 := X1.later hb4
  replace X2 := X2.later hb4
  replace X3 := X3.later hb4
  replace X4 := X4.later hb4
  replace X5 := X5.later hb4
  clear hb4 hS t0 t1 t2 lt3
  obtain ⟨u0, u1, u2, u3, u4, u5, u6⟩ := X4.seven
  obtain ⟨r0, r1, r2, r3, r4, r5, r6⟩ := X1.seven
  have z4 := X4.fz
  have q4 := X4.lt
  have hNG := X5.lt
  have ht1 : 1 ≤ ft := by omega
  have s3 : ((w4.setCell ⟨w.heap.size + 1 + 1 + 1 + 1, 5, none⟩ (.int .i64 0)).alloc (.cells #[.int .i64 fi, .int .i64 fs, .int .i64 fd, .int .i64 ft, .int .i64 fg, .int .i64 ex, .int .i64 ey] 30)).cell? ⟨w.heap.size + 1, 3, none⟩ = some (.int .i64 ft) := ((below_new _ _).cell (p := ⟨w.heap.size + 1, 3, none⟩) (by rw [World.size_setCell]; exact X1.lt)).trans ((World.cell?_setCell_other w4 ⟨w.heap.size + 1 + 1 + 1 + 1, 5, none⟩ ⟨w.heap.size + 1, 3, none⟩ (.int .i64 0) (by intro g; injection g with g1; omega)).trans r3)
  go_wp2_with fail
  have hS := hB.setCell (p := ⟨w.heap.size + 1 + 1 + 1 + 1, 5, none⟩) (by show w.heap.size ≤ w.heap.size + 1 + 1 + 1 + 1; omega) (.int .i64 0)
  clear u0 u1 u2 u3 u4 u5 u6 r0 r1 r2 r3 r4 r5 r6 s3 z4 q4 hB X5 X1
  replace X4 := X4.set1 (j := 5) (by simp) 0
  replace X2 := X2.far1 (b := w.heap.size + 1 + 1 + 1 + 1) (by omega) 5 (.int .i64 0)
  replace X3 := X3.far1 (b := w.heap.size + 1 + 1 + 1 + 1) (by omega) 5 (.int .i64 0)
  have hsz : (w4.setCell ⟨w.heap.size + 1 + 1 + 1 + 1, 5, none⟩ (.int .i64 0)).heap.size = w4.heap.size := World.size_setCell ..
  generalize (w4.setCell ⟨w.heap.size + 1 + 1 + 1 + 1, 5, none⟩ (.int .i64 0)) = W5 at hS X2 X3 X4 hsz ⊢
  generalize w4.heap.size = NG at hsz hNG ⊢
  have hbg := below_new W5 (.cells #[.int .i64 fi, .int .i64 fs, .int .i64 fd, .int .i64 (ft - 1), .int .i64 fg, .int .i64 ex, .int .i64 ey] 30)
  have X5 : Lies (W5.alloc (.cells #[.int .i64 fi, .int .i64 fs, .int .i64 fd, .int .i64 (ft - 1), .int .i64 fg, .int .i64 ex, .int .i64 ey] 30)) NG [fi, fs, fd, ft - 1, fg, ex, ey] := Lies.new W5 [fi, fs, fd, ft - 1, fg, ex, ey] 30 hsz
  replace X2 := X2.later hbg
  replace X3 := X3.later hbg
  replace X4 := X4.later hbg
  replace hS := below_step hS hbg
  clear hbg hsz
  generalize W5.alloc (.cells #[.int .i64 fi, .int .i64 fs, .int .i64 fd, .int .i64 (ft - 1), .int .i64 fg, .int .i64 ex, .int .i64 ey] 30) = W3 at hS X2 X3 X4 X5 ⊢
  simp only [List.set_cons_succ, List.set_cons_zero] at X4
  have S0 : Below w.heap.size w W3.drew ∧ Lies W3.drew (w.heap.size + 1 + 1 + 1 + 1) [0, fi, fw, fp, fg, 0, rt] ∧ Lies W3.drew (NG) [fi, fs, fd, (ft - 1), fg, ex, ey] := ⟨hS.drew, X4.later (Below.refl _ _).drew, X5.later (Below.refl _ _).drew⟩
  replace X2 := X2.later (Below.refl W3.heap.size W3).drew
  replace X3 := X3.later (Below.refl W3.heap.size W3).drew
  clear X4 X5 hS
  refine wp_region_noPanic ?_
  refine wp_region_held_drew (S := fun w' => Below w.heap.size w w' ∧ Lies w' (w.heap.size + 1 + 1 + 1 + 1) [0, fi, fw, fp, fg, 0, rt] ∧ Lies w' (NG) [fi, fs, fd, (ft - 1), fg, ex, ey]) (by kernel_rfl) S0 (fun hH => ?_)
  clear S0
  generalize W3.drew = V0 at hH X2 X3 ⊢
  refine wpAnyH_take (i := 0) (oi := { dst := some 95, op := _, type := _, pos := _, after := _, guard := _ }) (v := ?_) rfl (by kernel_rfl) (by kernel_rfl) (by kernel_rfl) (fun _ _ _ h => h) (Or.inl ⟨by rfl, ?_⟩) hH ?_
  rotate_left
  · intro wz hSw
    (try dsimp only at hSw)
    obtain ⟨r0, r1, r2, r3, r4, r5, r6⟩ := hSw.2.1.seven
    first | (go_simp; done) | (go_simp; with_reducible rfl)
  try simp only [Act.put, List.setIfInBounds_toArray, List.set_cons_zero, List.set_cons_succ]
  refine wpAnyH_take (i := 1) (oi := { dst := some 96, op := _, type := _, pos := _, after := _, guard := _ }) (v := ?_) rfl (by kernel_rfl) (by kernel_rfl) (by kernel_rfl) (fun _ _ _ h => h) (Or.inl ⟨by rfl, ?_⟩) hH ?_
  rotate_left
  · intro wz hSw
    (try dsimp only at hSw)
    obtain ⟨r0, r1, r2, r3, r4, r5, r6⟩ := hSw.2.2.seven
    first | (go_simp; done) | (go_simp; with_reducible rfl)
  try simp only [Act.put, List.setIfInBounds_toArray, List.set_cons_zero, List.set_cons_succ]
  refine wpAnyH_ready (rs := [2]) (by kernel_rfl) (by simp) ?_
  refine (AllReadyH.cons (o := { dst := none, op := _, type := _, pos := _, after := _, guard := _ }) rfl (fun K hK => ?_) AllReadyH.nil)
  obtain ⟨r0, r1, r2, r3, r4, r5, r6⟩ := X2.seven
  have pl := X2.lt
  have pf := X2.fz
  go_simp
  have hn : Below w.heap.size w (lay7 V0 (w.heap.size + 1 + 1) 0 fi fw fp fg 0 rt) ∧ Lies (lay7 V0 (w.heap.size + 1 + 1) 0 fi fw fp fg 0 rt) (w.heap.size + 1 + 1 + 1 + 1) [0, fi, fw, fp, fg, 0, rt] ∧ Lies (lay7 V0 (w.heap.size + 1 + 1) 0 fi fw fp fg 0 rt) (NG) [fi, fs, fd, (ft - 1), fg, ex, ey] := ⟨below_lay7 hH.1 (by omega) 0 fi fw fp fg 0 rt, hH.2.1.far7 (by omega) 0 fi fw fp fg 0 rt, hH.2.2.far7 (by omega) 0 fi fw fp fg 0 rt⟩
  replace X2 := X2.put7 0 fi fw fp fg 0 rt
  replace X3 := X3.far7 (b := w.heap.size + 1 + 1) (by omega) 0 fi fw fp fg 0 rt
  clear r0 r1 r2 r3 r4 r5 r6 pl pf
  generalize hV : lay7 V0 (w.heap.size + 1 + 1) 0 fi fw fp fg 0 rt = V1 at hn X2 X3
  unfold lay7 at hV
  rw [hV]
  clear hV
  refine hK.out _ _ hn (fun hH2 => ?_)
  clear hK K hH hn
  have hH := hH2
  clear hH2
  try simp only [Act.put, List.setIfInBounds_toArray, List.set_cons_zero, List.set_cons_succ]
  refine wpAnyH_ready (rs := [3]) (by kernel_rfl) (by simp) ?_
  refine (AllReadyH.cons (o := { dst := none, op := _, type := _, pos := _, after := _, guard := _ }) rfl (fun K hK => ?_) AllReadyH.nil)
  obtain ⟨r0, r1, r2, r3, r4, r5, r6⟩ := X3.seven
  have pl := X3.lt
  have pf := X3.fz
  go_simp
  have hn : Below w.heap.size w (lay7 V1 (w.heap.size + 1 + 1 + 1) fi fs fd (ft - 1) fg ex ey) ∧ Lies (lay7 V1 (w.heap.size + 1 + 1 + 1) fi fs fd (ft - 1) fg ex ey) (w.heap.size + 1 + 1 + 1 + 1) [0, fi, fw, fp, fg, 0, rt] ∧ Lies (lay7 V1 (w.heap.size + 1 + 1 + 1) fi fs fd (ft - 1) fg ex ey) (NG) [fi, fs, fd, (ft - 1), fg, ex, ey] := ⟨below_lay7 hH.1 (by omega) fi fs fd (ft - 1) fg ex ey, hH.2.1.far7 (by omega) fi fs fd (ft - 1) fg ex ey, hH.2.2.far7 (by omega) fi fs fd (ft - 1) fg ex ey⟩
  replace X3 := X3.put7 fi fs fd (ft - 1) fg ex ey
  replace X2 := X2.far7 (b := w.heap.size + 1 + 1 + 1) (by omega) fi fs fd (ft - 1) fg ex ey
  clear r0 r1 r2 r3 r4 r5 r6 pl pf
  generalize hV : lay7 V1 (w.heap.size + 1 + 1 + 1) fi fs fd (ft - 1) fg ex ey = V2 at hn X2 X3
  unfold lay7 at hV
  rw [hV]
  clear hV
  refine hK.out _ _ hn (fun hH2 => ?_)
  clear hK K hH hn
  have hH := hH2
  clear hH2
  try simp only [Act.put, List.setIfInBounds_toArray, List.set_cons_zero, List.set_cons_succ]
  refine wpAnyH_done (by kernel_rfl) ?_ _
  refine NoPanic.normal ?_
  have hB := hH.1
  clear hH
  obtain ⟨r0, r1, r2, r3, r4, r5, r6⟩ := X2.seven
  obtain ⟨p0, p1, p2, p3, p4, p5, p6⟩ := X3.seven
  clear X2 X3
  go_wp2_with fail
  refine bodyPost_ret (v := .tuple #[.agg #[.int .i64 0, .int .i64 fi, .int .i64 fw, .int .i64 fp, .int .i64 fg, .int .i64 0, .int .i64 rt], .agg #[.int .i64 fi, .int .i64 fs, .int .i64 fd, .int .i64 (ft - 1), .int .i64 fg, .int .i64 ex, .int .i64 ey]]) (by simp [results, Try.results13, go_sem, r0, r1, r2, r3, r4, r5, r6, p0, p1, p2, p3, p4, p5, p6]) rfl ?_
  exact ⟨rfl, hB⟩
end
end Go.Proofs.Ytihgpllbgliplaa
