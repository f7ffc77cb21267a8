/- The statement PathId, over whatever the code is (PCode). -/
import Derived.Test.YtihgpllbgliplaaPathIf
import Derived.Test.YtihgpllbgliplaaPathSame
namespace Go.Proofs.Ytihgpllbgliplaa
open Go.ChangeShapes Go.WideShapes Go.ChangeAt Go.RowKit Pk Cf Pa
set_option linter.unusedVariables false
set_option linter.unusedSimpArgs false

theorem flatH_cons (h : Hp) (l : List Hp) : flatV fH (h :: l) = .int .i64 h.tick :: .int .i64 h.id :: .int .i64 h.sw :: .int .i64 h.i :: .int .i64 h.tag :: .int .i64 h.what :: .int .i64 h.out :: flatV fH l := rfl
theorem flatH_set (x y : Int) : ∀ (l : List Hp) (i : Nat) (h : Hp), l[i]? = some h → ((flatV fH l).set (i * 7 + 1) (.int .i64 x)).set (i * 7 + 4) (.int .i64 y) = flatV fH (l.set i (setH x y h)) := by
  intro l
  induction l with
  | nil => intro i h e; simp at e
  | cons z l ih =>
    intro i h e
    cases i with
    | zero =>
      obtain rfl : z = h := by simpa using e
      rfl
    | succ i =>
      rw [List.getElem?_cons_succ] at e
      rw [List.set_cons_succ, flatH_cons, flatH_cons, ← ih i h e, show (i + 1) * 7 + 1 = (i * 7 + 1) + 1 + 1 + 1 + 1 + 1 + 1 + 1 by omega, show (i + 1) * 7 + 4 = (i * 7 + 4) + 1 + 1 + 1 + 1 + 1 + 1 + 1 by omega]
      rfl
/-- the first i hops written anew -/
def partly (x y : Int) (l : List Hp) (i : Nat) : List Hp := (l.take i).map (setH x y) ++ l.drop i
theorem partly_zero (x y : Int) (l : List Hp) : partly x y l 0 = l := by simp [partly]
theorem partly_all (x y : Int) (l : List Hp) : partly x y l l.length = l.map (setH x y) := by simp [partly]
theorem partly_len (x y : Int) (l : List Hp) (i : Nat) : (partly x y l i).length = l.length := by
  simp only [partly, List.length_append, List.length_map, List.length_take, List.length_drop]; omega
theorem partly_at {x y : Int} {l : List Hp} {i : Nat} {h : Hp} (e : l[i]? = some h) : (partly x y l i)[i]? = some h := by
  have hi := (List.getElem?_eq_some_iff.1 e).1
  unfold partly
  rw [List.getElem?_append_right (by rw [List.length_map, List.length_take]; omega), List.length_map, List.length_take, List.getElem?_drop, ← e]
  congr 1
  omega
theorem partly_succ {x y : Int} {l : List Hp} {i : Nat} {h : Hp} (e : l[i]? = some h) : (partly x y l i).set i (setH x y h) = partly x y l (i + 1) := by
  have hi := (List.getElem?_eq_some_iff.1 e).1
  unfold partly
  have hd : l.drop i = h :: l.drop (i + 1) := by
    rw [List.drop_eq_getElem_cons hi]
    congr 1
    exact (List.getElem?_eq_some_iff.1 e).2
  rw [hd, List.set_append_right _ _ (by rw [List.length_map, List.length_take]; omega), List.length_map, List.length_take, show i - min i l.length = 0 by omega, List.take_add_one, e, List.map_append, List.append_assoc]
  rfl
set_option maxRecDepth 100000 in
set_option maxHeartbeats 8000000 in
theorem pathId_of (P : PCode) (s n : Int) (x : Option Addr) (c : Nat) (l : List Tp.Lk) (a : Option Addr) (k : Nat) (A : Cnf) (fi fs fd ft fg fw fp : Int) (gi gt : Int) (w : World) (RT : Rds Tp.fK 4 w x c l) (V : Lists w a k A) (hf : WfF ⟨fi, fs, fd, ft, fg, fw, fp⟩) (hgi : W64 gi) (hgt : W64 gt) :
    Calls Try.prog 8 #[.agg #[.int .i64 s, .int .i64 n, .slice x l.length c], .slice a A.length k, .agg #[.int .i64 fi, .int .i64 fs, .int .i64 fd, .int .i64 ft, .int .i64 fg, .int .i64 fw, .int .i64 fp], .int .i64 gi, .int .i64 gt] w fun e w' => e = .returned (.bool true) ∧ Below w.heap.size w w' := by
  have hB := below_new w (.cells #[.int .i64 s, .int .i64 n, .slice x l.length c] 24)
  obtain ⟨t0, t1, t2⟩ := box3 w (.int .i64 s) (.int .i64 n) (.slice x l.length c) 24
  have hBT : w.heap.size < (w.alloc (.cells #[.int .i64 s, .int .i64 n, .slice x l.length c] 24)).heap.size := by simp
  have X : Lies ((w.alloc (.cells #[.int .i64 s, .int .i64 n, .slice x l.length c] 24)).alloc (.cells #[.int .i64 fi, .int .i64 fs, .int .i64 fd, .int .i64 ft, .int .i64 fg, .int .i64 fw, .int .i64 fp] 30)) (w.heap.size + 1) [fi, fs, fd, ft, fg, fw, fp] := Lies.new (w.alloc (.cells #[.int .i64 s, .int .i64 n, .slice x l.length c] 24)) [fi, fs, fd, ft, fg, fw, fp] 30 (by simp)
  have hb := below_new (w.alloc (.cells #[.int .i64 s, .int .i64 n, .slice x l.length c] 24)) (.cells #[.int .i64 fi, .int .i64 fs, .int .i64 fd, .int .i64 ft, .int .i64 fg, .int .i64 fw, .int .i64 fp] 30)
  replace RT := RT.later hB
  replace V := V.later hB
  replace t0 := (hb.cell (p := ⟨w.heap.size, 0, none⟩) hBT).trans t0
  replace t1 := (hb.cell (p := ⟨w.heap.size, 1, none⟩) hBT).trans t1
  replace t2 := (hb.cell (p := ⟨w.heap.size, 2, none⟩) hBT).trans t2
  replace hBT := Nat.lt_of_lt_of_le hBT hb.size
  replace RT := RT.later hb
  replace V := V.later hb
  replace hB := below_step hB hb
  clear hb
  have hmx := Nat.le_trans RT.le RT.max
  unfold maxLen at hmx
  have cFa := fun w (V : Lists w a k A) => few_any w V
  cases hA : fewB A with
  | false =>
    rw [hA] at cFa
    go_enter Try.func8, Try.ntmps8
    go_wp2_with fail
    refine (pawake_any P _).mono ?_
    rintro e w1 ⟨rfl, hb⟩
    replace t0 := (hb.cell (p := ⟨w.heap.size, 0, none⟩) hBT).trans t0
    replace t1 := (hb.cell (p := ⟨w.heap.size, 1, none⟩) hBT).trans t1
    replace t2 := (hb.cell (p := ⟨w.heap.size, 2, none⟩) hBT).trans t2
    replace hBT := Nat.lt_of_lt_of_le hBT hb.size
    replace RT := RT.later hb
    replace V := V.later hb
    replace X := X.later hb
    replace hB := below_step hB hb
    clear hb
    go_wp2_with fail
    refine (cFa _ V).mono ?_
    rintro e w' ⟨rfl, hww⟩
    obtain rfl := hww.symm
    go_wp2_with fail
    go_ret
    exact ⟨rfl, hB⟩
  | true =>
    rw [hA] at cFa
    have bA := (few_iff A).1 hA
    clear hA
    by_cases h60 : 60 < l.length
    case pos =>
      have hz : (60 : Int) < (l.length : Int) := by omega
      clear bA
      go_enter Try.func8, Try.ntmps8
      go_wp2_with fail
      refine (pawake_any P _).mono ?_
      rintro e w1 ⟨rfl, hb⟩
      replace t0 := (hb.cell (p := ⟨w.heap.size, 0, none⟩) hBT).trans t0
      replace t1 := (hb.cell (p := ⟨w.heap.size, 1, none⟩) hBT).trans t1
      replace t2 := (hb.cell (p := ⟨w.heap.size, 2, none⟩) hBT).trans t2
      replace hBT := Nat.lt_of_lt_of_le hBT hb.size
      replace RT := RT.later hb
      replace V := V.later hb
      replace X := X.later hb
      replace hB := below_step hB hb
      clear hb
      go_wp2_with fail
      refine (cFa _ V).mono ?_
      rintro e w' ⟨rfl, hww⟩
      obtain rfl := hww.symm
      go_wp2_with fail
      go_ret
      exact ⟨rfl, hB⟩
    have hz : ¬ (60 : Int) < (l.length : Int) := by omega
    have hl60 : l.length ≤ 60 := by omega
    obtain ⟨q, hq⟩ : ∃ q, IntKind.i64.wrap (fs + 1) = q := ⟨_, rfl⟩
    have hwq : W64 q := w64_iff.2 (by rw [← hq, IntKind.wrap_i64]; omega)
    have hfG : WfF ⟨gi, q, fd, ft, gt, fw, fp⟩ := wfF_of hgi hwq (hf fd (by simp [fF])) (hf ft (by simp [fF])) hgt (hf fw (by simp [fF])) (hf fp (by simp [fF]))
    have hbk := walk_back (s := s) (n := n) (l := l) (C := A) gi gt q ⟨fi, fs, fd, ft, fg, fw, fp⟩
    rw [show setF gi gt q ⟨fi, fs, fd, ft, fg, fw, fp⟩ = ⟨gi, q, fd, ft, gt, fw, fp⟩ from rfl] at hbk
    have hw := walk_wf (s := s) (n := n) (l := l) (C := A) (f := ⟨fi, fs, fd, ft, fg, fw, fp⟩) (fun k hk => RT.wf k hk) (lists_wf V) hf
    have hne := walk_pos (s := s) (n := n) (l := l) (C := A) 16 (cap ⟨gi, q, fd, ft, gt, fw, fp⟩)
    rw [show walkF s n l A (16 + 1) (cap ⟨gi, q, fd, ft, gt, fw, fp⟩) = walkP s n l A ⟨gi, q, fd, ft, gt, fw, fp⟩ from rfl] at hne
    have hln := (walk_len (s := s) (n := n) (l := l) (C := A) 17 (cap ⟨gi, q, fd, ft, gt, fw, fp⟩)).1
    rw [show walkF s n l A 17 (cap ⟨gi, q, fd, ft, gt, fw, fp⟩) = walkP s n l A ⟨gi, q, fd, ft, gt, fw, fp⟩ from rfl] at hln
    have cS := fun w (RT : Rds Tp.fK 4 w x c l) (V : Lists w a k A) => P.walk s n w RT V hl60 bA.2 ⟨fi, fs, fd, ft, fg, fw, fp⟩ hf
    have cG := fun w (RT : Rds Tp.fK 4 w x c l) (V : Lists w a k A) => P.walk s n w RT V hl60 bA.2 ⟨gi, q, fd, ft, gt, fw, fp⟩ hfG
    generalize walkP s n l A ⟨fi, fs, fd, ft, fg, fw, fp⟩ = R at cS hw hbk
    generalize walkP s n l A ⟨gi, q, fd, ft, gt, fw, fp⟩ = R2 at cG hbk hne hln
    simp only at hbk
    have HW : Hid (∀ h ∈ R, ∀ z ∈ fH h, (Lit.int .i64 z).wf = true) := hw
    have HBK : Hid (R2.map (setH fi fg) = R) := hbk
    have HRR : Hid (R.length = R2.length) := (by show _ = _; rw [← hbk, List.length_map])
    have hpos : 0 < R2.length := List.length_pos_iff.2 hne
    clear bA hl60 h60 hw hbk hne hgi hgt hwq hfG hf
    go_enter Try.func8, Try.ntmps8
    go_wp2_with fail
    refine (pawake_any P _).mono ?_
    rintro e w1 ⟨rfl, hb⟩
    replace t0 := (hb.cell (p := ⟨w.heap.size, 0, none⟩) hBT).trans t0
    replace t1 := (hb.cell (p := ⟨w.heap.size, 1, none⟩) hBT).trans t1
    replace t2 := (hb.cell (p := ⟨w.heap.size, 2, none⟩) hBT).trans t2
    replace hBT := Nat.lt_of_lt_of_le hBT hb.size
    replace RT := RT.later hb
    replace V := V.later hb
    replace X := X.later hb
    replace hB := below_step hB hb
    clear hb
    obtain ⟨r0, r1, r2, r3, r4, r5, r6⟩ := X.seven
    go_wp2_with fail
    refine (cFa _ V).mono ?_
    rintro e w' ⟨rfl, hww⟩
    obtain rfl := hww.symm
    clear cFa
    have XG : Lies (w1.alloc (.cells #[.int .i64 gi, .int .i64 q, .int .i64 fd, .int .i64 ft, .int .i64 gt, .int .i64 fw, .int .i64 fp] 30)) w1.heap.size [gi, q, fd, ft, gt, fw, fp] := Lies.new w1 [gi, q, fd, ft, gt, fw, fp] 30 rfl
    have y1 := (X.later (below_new w1 (.cells #[.int .i64 gi, .int .i64 fs, .int .i64 fd, .int .i64 ft, .int .i64 gt, .int .i64 fw, .int .i64 fp] 30))).cells 1 _ rfl
    have hb := below_new w1 (.cells #[.int .i64 gi, .int .i64 q, .int .i64 fd, .int .i64 ft, .int .i64 gt, .int .i64 fw, .int .i64 fp] 30)
    have t2a := t2
    replace t0 := (hb.cell (p := ⟨w.heap.size, 0, none⟩) hBT).trans t0
    replace t1 := (hb.cell (p := ⟨w.heap.size, 1, none⟩) hBT).trans t1
    replace t2 := (hb.cell (p := ⟨w.heap.size, 2, none⟩) hBT).trans t2
    replace hBT := Nat.lt_of_lt_of_le hBT hb.size
    replace RT := RT.later hb
    replace V := V.later hb
    replace X := X.later hb
    replace hB := below_step hB hb
    clear hb
    obtain ⟨s0, s1, s2, s3, s4, s5, s6⟩ := X.seven
    go_wp2_with fail
    clear r0 r1 r2 r3 r4 r5 r6 s0 s1 s2 s3 s4 s5 s6 y1 hq t2a
    generalize (w1.alloc (.cells #[.int .i64 gi, .int .i64 q, .int .i64 fd, .int .i64 ft, .int .i64 gt, .int .i64 fw, .int .i64 fp] 30)) = u at t0 t1 t2 X XG RT V hB hBT ⊢
    generalize w1.heap.size = N1 at XG ⊢
    refine (cS _ RT V).mono ?_
    clear cS
    rintro e w2 ⟨v1, rfl, own, hb⟩
    obtain ⟨y, j, rfl, S1⟩ := rds_of_owns fH_len own rfl HW.out
    clear own
    replace t0 := (hb.cell (p := ⟨w.heap.size, 0, none⟩) hBT).trans t0
    replace t1 := (hb.cell (p := ⟨w.heap.size, 1, none⟩) hBT).trans t1
    replace t2 := (hb.cell (p := ⟨w.heap.size, 2, none⟩) hBT).trans t2
    replace hBT := Nat.lt_of_lt_of_le hBT hb.size
    replace RT := RT.later hb
    replace V := V.later hb
    replace X := X.later hb
    replace XG := XG.later hb
    replace hB := below_step hB hb
    clear hb
    obtain ⟨r0, r1, r2, r3, r4, r5, r6⟩ := XG.seven
    go_wp2_with fail
    clear r0 r1 r2 r3 r4 r5 r6
    have cG2 := cG _ RT V
    clear cG RT V t0 t1 t2 hBT XG
    refine cG2.mono ?_
    clear cG2
    rintro e w3 ⟨v2, rfl, own, hb⟩
    obtain ⟨g, kb, rfl, hg, -⟩ := own.form hpos
    rw [← partly_zero fi fg R2] at own
    rw [partly_len] at own
    go_wp2_with fail
    go_loopw [16] (fun vi wr => ∃ i : Nat, Hid (i ≤ R2.length) ∧ vi = .int .i64 (i : Nat) ∧ wr.ownsRow w2.heap.size 34 7 (.slice (some ⟨g, 0, none⟩) R2.length kb) R2.length (flatV fH (partly fi fg R2 i)) ∧ Below w2.heap.size w2 wr) (fun vi _ => R2.length - (intOf vi).toNat)
    case atStart => exact ⟨0, Nat.zero_le _, rfl, own, hb⟩
    case round =>
      clear own hb
      obtain ⟨i, HI, rfl, own, hbr⟩ := hrel
      by_cases hlt : i < R2.length
      · have hiz : (i : Int) < (R2.length : Int) := by omega
        obtain ⟨h, hh⟩ := getC hlt
        have hat := partly_at (x := fi) (y := fg) hh
        have HLT : Hid (i + 1 ≤ R2.length) := hlt
        have own1 := own.stored (i * 7 + 1) (.int .i64 fi)
        have own2 := own1.1.stored (i * 7 + 4) (.int .i64 fg)
        have c1 := (own.cellAt (i * 7 + 1) (by omega)).trans (flatV_get fH_len hat (j := 1) rfl)
        have f1 := own.frozenAt (i * 7 + 1)
        have c4 : (wr.setCell ⟨g, i * 7 + 1, none⟩ (.int .i64 fi)).cell? ⟨g, i * 7 + 4, none⟩ = some (.int .i64 h.tag) := (own1.1.cellAt (i * 7 + 4) (by omega)).trans (by rw [List.getElem?_set_ne (by omega)]; exact flatV_get fH_len hat (j := 4) rfl)
        have f4 := own1.1.frozenAt (i * 7 + 4)
        have own3 := own2.1
        rw [flatH_set fi fg _ i h hat, partly_succ hh] at own3
        have hne1 : w.heap.size + 1 ≠ g := Nat.ne_of_lt (Nat.lt_of_lt_of_le X.lt hg)
        have Y := X.later hbr
        have y0 := Y.cells 0 _ rfl
        have y4 := (Y.far1 hne1 (i * 7 + 1) (.int .i64 fi)).cells 4 _ rfl
        have hbs : Below w2.heap.size w2 ((wr.setCell ⟨g, i * 7 + 1, none⟩ (.int .i64 fi)).setCell ⟨g, i * 7 + 4, none⟩ (.int .i64 fg)) := (hbr.setCell (p := ⟨g, i * 7 + 1, none⟩) hg _).setCell (p := ⟨g, i * 7 + 4, none⟩) hg _
        clear own own1 own2 hat hh HI hlt Y hne1
        go_wp2_with fail
        go_roundw
        case rel => exact ⟨i + 1, HLT.out, by go_num, own3, hbs⟩
        case measure => have h := HLT.out; simp [intOf]; omega
      · have hiz : ¬ (i : Int) < (R2.length : Int) := by omega
        have hke : i = R2.length := by have h := HI.out; omega
        rw [hke, partly_all, HBK.out] at own
        obtain ⟨y2, j2, e2, S2⟩ := rds_of_owns fH_len own HRR.out HW.out
        cases e2
        clear own hke HI hlt
        have cE := rsame13_any wr (S1.later hbr) S2
        rw [decide_eq_true rfl] at cE
        rw [HRR.out] at cE
        rw [HRR.out]
        replace hB := below_step hB hbr
        clear S1 S2 X hbr
        go_wp2_with fail
        refine cE.mono ?_
        clear cE
        rintro e w4 ⟨rfl, hb4⟩
        replace hB := below_step hB hb4
        go_wp2_with fail
        go_ret
        exact ⟨rfl, hB⟩
end Go.Proofs.Ytihgpllbgliplaa
