/- The statement PathSteps, over whatever the code is (PCode). -/
import Derived.Test.YtihgpllbgliplaaPathRefs
namespace Go.Proofs.Ytihgpllbgliplaa
open Go.ChangeShapes Go.WideShapes Go.ChangeAt Go.RowKit Pk Cf Pa
set_option linter.unusedVariables false
set_option linter.unusedSimpArgs false

theorem eq_hp (a b c d e f g : Int) (w : World) : (binOp .eql 34 (.agg #[.int .i64 a, .int .i64 b, .int .i64 c, .int .i64 d, .int .i64 e, .int .i64 f, .int .i64 g]) (.agg #[.int .i64 a, .int .i64 b, .int .i64 c, .int .i64 d, .int .i64 e, .int .i64 f, .int .i64 g])).run Try.prog w = .ok (.bool true) w := by go_simp
theorem eq_fl (a b c d e f g : Int) (w : World) : (binOp .eql 30 (.agg #[.int .i64 a, .int .i64 b, .int .i64 c, .int .i64 d, .int .i64 e, .int .i64 f, .int .i64 g]) (.agg #[.int .i64 a, .int .i64 b, .int .i64 c, .int .i64 d, .int .i64 e, .int .i64 f, .int .i64 g])).run Try.prog w = .ok (.bool true) w := by go_simp
set_option maxRecDepth 100000 in
set_option maxHeartbeats 8000000 in
theorem pathSteps_of (P : PCode) (s n : Int) (x : Option Addr) (c : Nat) (l : List Tp.Lk) (a : Option Addr) (k : Nat) (A : Cnf) (fi fs fd ft fg fw fp : Int) (w : World) (RT : Rds Tp.fK 4 w x c l) (V : Lists w a k A) (hf : WfF ⟨fi, fs, fd, ft, fg, fw, fp⟩) :
    Calls Try.prog 3 #[.agg #[.int .i64 s, .int .i64 n, .slice x l.length c], .slice a A.length k, .agg #[.int .i64 fi, .int .i64 fs, .int .i64 fd, .int .i64 ft, .int .i64 fg, .int .i64 fw, .int .i64 fp]] w fun e w' => e = .returned (.bool true) ∧ Below w.heap.size w w' := by
  have hB := below_new w (.cells #[.int .i64 s, .int .i64 n, .slice x l.length c] 24)
  obtain ⟨t0, t1, t2⟩ := box3 w (.int .i64 s) (.int .i64 n) (.slice x l.length c) 24
  have hBT : w.heap.size < (w.alloc (.cells #[.int .i64 s, .int .i64 n, .slice x l.length c] 24)).heap.size := by simp
  have X : Lies ((w.alloc (.cells #[.int .i64 s, .int .i64 n, .slice x l.length c] 24)).alloc (.cells #[.int .i64 fi, .int .i64 fs, .int .i64 fd, .int .i64 ft, .int .i64 fg, .int .i64 fw, .int .i64 fp] 30)) (w.heap.size + 1) [fi, fs, fd, ft, fg, fw, fp] := Lies.new (w.alloc (.cells #[.int .i64 s, .int .i64 n, .slice x l.length c] 24)) [fi, fs, fd, ft, fg, fw, fp] 30 (by simp)
  have hb := below_new (w.alloc (.cells #[.int .i64 s, .int .i64 n, .slice x l.length c] 24)) (.cells #[.int .i64 fi, .int .i64 fs, .int .i64 fd, .int .i64 ft, .int .i64 fg, .int .i64 fw, .int .i64 fp] 30)
  replace RT := RT.later hB
  replace V := V.later hB
  replace t0 := (hb.cell (p := ⟨w.heap.size, 0, none⟩) hBT).trans t0
  replace t1 := (hb.cell (p := ⟨w.heap.size, 1, none⟩) hBT).trans t1
  replace t2 := (hb.cell (p := ⟨w.heap.size, 2, none⟩) hBT).trans t2
  replace hBT := Nat.lt_of_lt_of_le hBT hb.size
  replace RT := RT.later hb
  replace V := V.later hb
  replace hB := below_step hB hb
  clear hb
  have hmx := Nat.le_trans RT.le RT.max
  unfold maxLen at hmx
  have cFa := fun w (V : Lists w a k A) => few_any w V
  cases hA : fewB A with
  | false =>
    rw [hA] at cFa
    go_enter Try.func3, Try.ntmps3
    go_wp2_with fail
    refine (pawake_any P _).mono ?_
    rintro e w1 ⟨rfl, hb⟩
    replace t0 := (hb.cell (p := ⟨w.heap.size, 0, none⟩) hBT).trans t0
    replace t1 := (hb.cell (p := ⟨w.heap.size, 1, none⟩) hBT).trans t1
    replace t2 := (hb.cell (p := ⟨w.heap.size, 2, none⟩) hBT).trans t2
    replace hBT := Nat.lt_of_lt_of_le hBT hb.size
    replace RT := RT.later hb
    replace V := V.later hb
    replace X := X.later hb
    replace hB := below_step hB hb
    clear hb
    go_wp2_with fail
    refine (cFa _ V).mono ?_
    rintro e w' ⟨rfl, hww⟩
    obtain rfl := hww.symm
    go_wp2_with fail
    go_ret
    exact ⟨rfl, hB⟩
  | true =>
    rw [hA] at cFa
    have bA := (few_iff A).1 hA
    clear hA
    by_cases h60 : 60 < l.length
    case pos =>
      have hz : (60 : Int) < (l.length : Int) := by omega
      clear bA
      go_enter Try.func3, Try.ntmps3
      go_wp2_with fail
      refine (pawake_any P _).mono ?_
      rintro e w1 ⟨rfl, hb⟩
      replace t0 := (hb.cell (p := ⟨w.heap.size, 0, none⟩) hBT).trans t0
      replace t1 := (hb.cell (p := ⟨w.heap.size, 1, none⟩) hBT).trans t1
      replace t2 := (hb.cell (p := ⟨w.heap.size, 2, none⟩) hBT).trans t2
      replace hBT := Nat.lt_of_lt_of_le hBT hb.size
      replace RT := RT.later hb
      replace V := V.later hb
      replace X := X.later hb
      replace hB := below_step hB hb
      clear hb
      go_wp2_with fail
      refine (cFa _ V).mono ?_
      rintro e w' ⟨rfl, hww⟩
      obtain rfl := hww.symm
      go_wp2_with fail
      go_ret
      exact ⟨rfl, hB⟩
    have hz : ¬ (60 : Int) < (l.length : Int) := by omega
    have hl60 : l.length ≤ 60 := by omega
    have cS := fun w (RT : Rds Tp.fK 4 w x c l) (V : Lists w a k A) => P.step s n w RT V hl60 bA.2 ⟨fi, fs, fd, ft, fg, fw, fp⟩ hf
    have cR := fun w (RT : Rds Tp.fK 4 w x c l) (V : Lists w a k A) => rstep_any s n w RT V bA.2 ⟨fi, fs, fd, ft, fg, fw, fp⟩ hf
    generalize stepP s n l A ⟨fi, fs, fd, ft, fg, fw, fp⟩ = st at cS cR
    obtain ⟨⟨ha, hb_, hc, hd, he, hf_, hg⟩, ⟨oa, ob, oc, od, oe, og, oh⟩⟩ := st
    clear bA hl60 h60
    go_enter Try.func3, Try.ntmps3
    go_wp2_with fail
    refine (pawake_any P _).mono ?_
    rintro e w1 ⟨rfl, hb⟩
    replace t0 := (hb.cell (p := ⟨w.heap.size, 0, none⟩) hBT).trans t0
    replace t1 := (hb.cell (p := ⟨w.heap.size, 1, none⟩) hBT).trans t1
    replace t2 := (hb.cell (p := ⟨w.heap.size, 2, none⟩) hBT).trans t2
    replace hBT := Nat.lt_of_lt_of_le hBT hb.size
    replace RT := RT.later hb
    replace V := V.later hb
    replace X := X.later hb
    replace hB := below_step hB hb
    clear hb
    go_wp2_with fail
    refine (cFa _ V).mono ?_
    rintro e w' ⟨rfl, hww⟩
    obtain rfl := hww.symm
    clear cFa
    obtain ⟨r0, r1, r2, r3, r4, r5, r6⟩ := X.seven
    go_wp2_with fail
    refine (cS _ RT V).mono ?_
    clear r0 r1 r2 r3 r4 r5 r6
    clear cS
    rintro e w2 ⟨rfl, hb⟩
    replace t0 := (hb.cell (p := ⟨w.heap.size, 0, none⟩) hBT).trans t0
    replace t1 := (hb.cell (p := ⟨w.heap.size, 1, none⟩) hBT).trans t1
    replace t2 := (hb.cell (p := ⟨w.heap.size, 2, none⟩) hBT).trans t2
    replace hBT := Nat.lt_of_lt_of_le hBT hb.size
    replace RT := RT.later hb
    replace V := V.later hb
    replace X := X.later hb
    replace hB := below_step hB hb
    clear hb
    have XH : Lies (w2.alloc (.cells #[.int .i64 ha, .int .i64 hb_, .int .i64 hc, .int .i64 hd, .int .i64 he, .int .i64 hf_, .int .i64 hg] 34)) w2.heap.size [ha, hb_, hc, hd, he, hf_, hg] := Lies.new w2 [ha, hb_, hc, hd, he, hf_, hg] 34 rfl
    have XG : Lies ((w2.alloc (.cells #[.int .i64 ha, .int .i64 hb_, .int .i64 hc, .int .i64 hd, .int .i64 he, .int .i64 hf_, .int .i64 hg] 34)).alloc (.cells #[.int .i64 oa, .int .i64 ob, .int .i64 oc, .int .i64 od, .int .i64 oe, .int .i64 og, .int .i64 oh] 30)) (w2.heap.size + 1) [oa, ob, oc, od, oe, og, oh] := Lies.new (w2.alloc (.cells #[.int .i64 ha, .int .i64 hb_, .int .i64 hc, .int .i64 hd, .int .i64 he, .int .i64 hf_, .int .i64 hg] 34)) [oa, ob, oc, od, oe, og, oh] 30 (by simp)
    replace XH := XH.later (below_new (w2.alloc (.cells #[.int .i64 ha, .int .i64 hb_, .int .i64 hc, .int .i64 hd, .int .i64 he, .int .i64 hf_, .int .i64 hg] 34)) (.cells #[.int .i64 oa, .int .i64 ob, .int .i64 oc, .int .i64 od, .int .i64 oe, .int .i64 og, .int .i64 oh] 30))
    have hb := below_step (below_new w2 (.cells #[.int .i64 ha, .int .i64 hb_, .int .i64 hc, .int .i64 hd, .int .i64 he, .int .i64 hf_, .int .i64 hg] 34)) (below_new (w2.alloc (.cells #[.int .i64 ha, .int .i64 hb_, .int .i64 hc, .int .i64 hd, .int .i64 he, .int .i64 hf_, .int .i64 hg] 34)) (.cells #[.int .i64 oa, .int .i64 ob, .int .i64 oc, .int .i64 od, .int .i64 oe, .int .i64 og, .int .i64 oh] 30))
    replace t0 := (hb.cell (p := ⟨w.heap.size, 0, none⟩) hBT).trans t0
    replace t1 := (hb.cell (p := ⟨w.heap.size, 1, none⟩) hBT).trans t1
    replace t2 := (hb.cell (p := ⟨w.heap.size, 2, none⟩) hBT).trans t2
    replace hBT := Nat.lt_of_lt_of_le hBT hb.size
    replace RT := RT.later hb
    replace V := V.later hb
    replace X := X.later hb
    replace hB := below_step hB hb
    clear hb
    obtain ⟨r0, r1, r2, r3, r4, r5, r6⟩ := X.seven
    go_wp2_with fail
    clear r0 r1 r2 r3 r4 r5 r6
    generalize (w2.alloc (.cells #[.int .i64 ha, .int .i64 hb_, .int .i64 hc, .int .i64 hd, .int .i64 he, .int .i64 hf_, .int .i64 hg] 34)).alloc (.cells #[.int .i64 oa, .int .i64 ob, .int .i64 oc, .int .i64 od, .int .i64 oe, .int .i64 og, .int .i64 oh] 30) = u at t0 t1 t2 X XH XG RT V hB hBT ⊢
    generalize w2.heap.size = N1 at XH XG ⊢
    refine (cR _ RT V).mono ?_
    clear cR
    rintro e w3 ⟨rfl, hb⟩
    replace t0 := (hb.cell (p := ⟨w.heap.size, 0, none⟩) hBT).trans t0
    replace t1 := (hb.cell (p := ⟨w.heap.size, 1, none⟩) hBT).trans t1
    replace t2 := (hb.cell (p := ⟨w.heap.size, 2, none⟩) hBT).trans t2
    replace hBT := Nat.lt_of_lt_of_le hBT hb.size
    replace RT := RT.later hb
    replace V := V.later hb
    replace X := X.later hb
    replace XH := XH.later hb
    replace XG := XG.later hb
    replace hB := below_step hB hb
    clear hb
    have YH : Lies (w3.alloc (.cells #[.int .i64 ha, .int .i64 hb_, .int .i64 hc, .int .i64 hd, .int .i64 he, .int .i64 hf_, .int .i64 hg] 34)) w3.heap.size [ha, hb_, hc, hd, he, hf_, hg] := Lies.new w3 [ha, hb_, hc, hd, he, hf_, hg] 34 rfl
    have YG : Lies ((w3.alloc (.cells #[.int .i64 ha, .int .i64 hb_, .int .i64 hc, .int .i64 hd, .int .i64 he, .int .i64 hf_, .int .i64 hg] 34)).alloc (.cells #[.int .i64 oa, .int .i64 ob, .int .i64 oc, .int .i64 od, .int .i64 oe, .int .i64 og, .int .i64 oh] 30)) (w3.heap.size + 1) [oa, ob, oc, od, oe, og, oh] := Lies.new (w3.alloc (.cells #[.int .i64 ha, .int .i64 hb_, .int .i64 hc, .int .i64 hd, .int .i64 he, .int .i64 hf_, .int .i64 hg] 34)) [oa, ob, oc, od, oe, og, oh] 30 (by simp)
    replace YH := YH.later (below_new (w3.alloc (.cells #[.int .i64 ha, .int .i64 hb_, .int .i64 hc, .int .i64 hd, .int .i64 he, .int .i64 hf_, .int .i64 hg] 34)) (.cells #[.int .i64 oa, .int .i64 ob, .int .i64 oc, .int .i64 od, .int .i64 oe, .int .i64 og, .int .i64 oh] 30))
    have hb := below_step (below_new w3 (.cells #[.int .i64 ha, .int .i64 hb_, .int .i64 hc, .int .i64 hd, .int .i64 he, .int .i64 hf_, .int .i64 hg] 34)) (below_new (w3.alloc (.cells #[.int .i64 ha, .int .i64 hb_, .int .i64 hc, .int .i64 hd, .int .i64 he, .int .i64 hf_, .int .i64 hg] 34)) (.cells #[.int .i64 oa, .int .i64 ob, .int .i64 oc, .int .i64 od, .int .i64 oe, .int .i64 og, .int .i64 oh] 30))
    replace t0 := (hb.cell (p := ⟨w.heap.size, 0, none⟩) hBT).trans t0
    replace t1 := (hb.cell (p := ⟨w.heap.size, 1, none⟩) hBT).trans t1
    replace t2 := (hb.cell (p := ⟨w.heap.size, 2, none⟩) hBT).trans t2
    replace hBT := Nat.lt_of_lt_of_le hBT hb.size
    replace RT := RT.later hb
    replace V := V.later hb
    replace X := X.later hb
    replace XH := XH.later hb
    replace XG := XG.later hb
    replace hB := below_step hB hb
    clear hb
    obtain ⟨p0, p1, p2, p3, p4, p5, p6⟩ := XH.seven
    obtain ⟨q0, q1, q2, q3, q4, q5, q6⟩ := XG.seven
    obtain ⟨y0, y1, y2, y3, y4, y5, y6⟩ := YH.seven
    obtain ⟨z0, z1, z2, z3, z4, z5, z6⟩ := YG.seven
    have e1 := fun w => eq_hp ha hb_ hc hd he hf_ hg w
    have e2 := fun w => eq_fl oa ob oc od oe og oh w
    go_wp2_with fail
    go_ret
    exact ⟨rfl, hB⟩
end Go.Proofs.Ytihgpllbgliplaa
