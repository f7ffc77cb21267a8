/- The statement PathLonger, over whatever the code is (PCode). -/
import Derived.Test.YtihgpllbgliplaaPathIf
import Derived.Test.YtihgpllbgliplaaPathSame
namespace Go.Proofs.Ytihgpllbgliplaa
open Go.ChangeShapes Go.WideShapes Go.ChangeAt Go.RowKit Pk Cf Pa
set_option linter.unusedVariables false
set_option linter.unusedSimpArgs false

theorem lastNo_is {R : List Hp} {m : Nat} {h : Hp} (hm : R.length = m + 1) (hh : R[m]? = some h) : lastNo R = decide (h.what = 5) := by
  unfold lastNo
  rw [List.getLast?_eq_getElem?, hm, show m + 1 - 1 = m from rfl, hh]
theorem long_ways (s n : Int) (l : List Tp.Lk) (C : Cnf) (f : Fl) (q : Int) (h0 : 0 ≤ f.ttl) (h16 : f.ttl ≤ 16) (hq : 0 ≤ q) (hq2 : f.ttl + q ≤ 16) : ∃ (m : Nat) (h : Hp), (walkP s n l C f).length = m + 1 ∧ m ≤ 16 ∧ (walkP s n l C f)[m]? = some h ∧
    ((h.what = 5 ∧ m ≤ (walkP s n l C { f with ttl := f.ttl + q }).length ∧ (walkP s n l C f).take m = (walkP s n l C { f with ttl := f.ttl + q }).take m) ∨
     (h.what ≠ 5 ∧ m + 1 ≤ (walkP s n l C { f with ttl := f.ttl + q }).length ∧ (walkP s n l C f).take (m + 1) = (walkP s n l C { f with ttl := f.ttl + q }).take (m + 1))) := by
  have e1 : walkP s n l C f = walkF s n l C 17 f := by
    unfold walkP
    congr 1
    unfold cap
    rw [show min f.ttl 16 = f.ttl by omega]
  have e2 : walkP s n l C { f with ttl := f.ttl + q } = walkF s n l C 17 { f with ttl := f.ttl + q } := by
    unfold walkP
    congr 1
    simp only [cap, Fl.mk.injEq, true_and, and_true]
    omega
  obtain ⟨u, hu, hue, hut⟩ := long_is (s := s) (n := n) (l := l) (C := C) 17 f q hq (by omega) 17 (Nat.le_refl _) (by omega) (by decide)
  have hne := walk_pos (s := s) (n := n) (l := l) (C := C) 16 f
  have hln := (walk_len (s := s) (n := n) (l := l) (C := C) 17 f).1
  rw [e1, e2]
  generalize walkF s n l C 17 { f with ttl := f.ttl + q } = R2 at hu hut ⊢
  rw [show walkF s n l C (16 + 1) f = walkF s n l C 17 f from rfl] at hne
  generalize walkF s n l C 17 f = R at hue hut hne hln ⊢
  obtain ⟨m, hm⟩ : ∃ m, R.length = m + 1 := ⟨R.length - 1, by have := List.length_pos_iff.2 hne; omega⟩
  obtain ⟨h, hh⟩ : ∃ h, R[m]? = some h := ⟨R[m]'(by omega), List.getElem?_eq_getElem (by omega)⟩
  rw [lastNo_is hm hh] at hue
  refine ⟨m, h, hm, by omega, hh, ?_⟩
  by_cases h5 : h.what = 5
  · rw [decide_eq_true h5, if_pos rfl, hm] at hue
    obtain rfl : u = m := by omega
    exact .inl ⟨h5, hu, hut⟩
  · rw [decide_eq_false h5, if_neg (by decide), hm] at hue
    subst hue
    exact .inr ⟨h5, hu, hut⟩
set_option maxRecDepth 100000 in
set_option maxHeartbeats 8000000 in
theorem pathLonger_of (P : PCode) (s n : Int) (x : Option Addr) (c : Nat) (l : List Tp.Lk) (a : Option Addr) (k : Nat) (A : Cnf) (fi fs fd ft fg fw fp : Int) (q : Int) (w : World) (RT : Rds Tp.fK 4 w x c l) (V : Lists w a k A) (hf : WfF ⟨fi, fs, fd, ft, fg, fw, fp⟩) (hwq : W64 q) :
    Calls Try.prog 9 #[.agg #[.int .i64 s, .int .i64 n, .slice x l.length c], .slice a A.length k, .agg #[.int .i64 fi, .int .i64 fs, .int .i64 fd, .int .i64 ft, .int .i64 fg, .int .i64 fw, .int .i64 fp], .int .i64 q] w fun e w' => e = .returned (.bool true) ∧ Below w.heap.size w w' := by
  have hB := below_new w (.cells #[.int .i64 s, .int .i64 n, .slice x l.length c] 24)
  obtain ⟨t0, t1, t2⟩ := box3 w (.int .i64 s) (.int .i64 n) (.slice x l.length c) 24
  have hBT : w.heap.size < (w.alloc (.cells #[.int .i64 s, .int .i64 n, .slice x l.length c] 24)).heap.size := by simp
  have X : Lies ((w.alloc (.cells #[.int .i64 s, .int .i64 n, .slice x l.length c] 24)).alloc (.cells #[.int .i64 fi, .int .i64 fs, .int .i64 fd, .int .i64 ft, .int .i64 fg, .int .i64 fw, .int .i64 fp] 30)) (w.heap.size + 1) [fi, fs, fd, ft, fg, fw, fp] := Lies.new (w.alloc (.cells #[.int .i64 s, .int .i64 n, .slice x l.length c] 24)) [fi, fs, fd, ft, fg, fw, fp] 30 (by simp)
  have hb := below_new (w.alloc (.cells #[.int .i64 s, .int .i64 n, .slice x l.length c] 24)) (.cells #[.int .i64 fi, .int .i64 fs, .int .i64 fd, .int .i64 ft, .int .i64 fg, .int .i64 fw, .int .i64 fp] 30)
  replace RT := RT.later hB
  replace V := V.later hB
  replace t0 := (hb.cell (p := ⟨w.heap.size, 0, none⟩) hBT).trans t0
  replace t1 := (hb.cell (p := ⟨w.heap.size, 1, none⟩) hBT).trans t1
  replace t2 := (hb.cell (p := ⟨w.heap.size, 2, none⟩) hBT).trans t2
  replace hBT := Nat.lt_of_lt_of_le hBT hb.size
  replace RT := RT.later hb
  replace V := V.later hb
  replace hB := below_step hB hb
  clear hb
  have hmx := Nat.le_trans RT.le RT.max
  unfold maxLen at hmx
  have cFa := fun w (V : Lists w a k A) => few_any w V
  cases hA : fewB A with
  | false =>
    rw [hA] at cFa
    go_enter Try.func9, Try.ntmps9
    go_wp2_with fail
    refine (pawake_any P _).mono ?_
    rintro e w1 ⟨rfl, hb⟩
    replace t0 := (hb.cell (p := ⟨w.heap.size, 0, none⟩) hBT).trans t0
    replace t1 := (hb.cell (p := ⟨w.heap.size, 1, none⟩) hBT).trans t1
    replace t2 := (hb.cell (p := ⟨w.heap.size, 2, none⟩) hBT).trans t2
    replace hBT := Nat.lt_of_lt_of_le hBT hb.size
    replace RT := RT.later hb
    replace V := V.later hb
    replace X := X.later hb
    replace hB := below_step hB hb
    clear hb
    go_wp2_with fail
    refine (cFa _ V).mono ?_
    rintro e w' ⟨rfl, hww⟩
    obtain rfl := hww.symm
    go_wp2_with fail
    go_ret
    exact ⟨rfl, hB⟩
  | true =>
    rw [hA] at cFa
    have bA := (few_iff A).1 hA
    clear hA
    by_cases h60 : 60 < l.length
    case pos =>
      have hz : (60 : Int) < (l.length : Int) := by omega
      clear bA
      go_enter Try.func9, Try.ntmps9
      go_wp2_with fail
      refine (pawake_any P _).mono ?_
      rintro e w1 ⟨rfl, hb⟩
      replace t0 := (hb.cell (p := ⟨w.heap.size, 0, none⟩) hBT).trans t0
      replace t1 := (hb.cell (p := ⟨w.heap.size, 1, none⟩) hBT).trans t1
      replace t2 := (hb.cell (p := ⟨w.heap.size, 2, none⟩) hBT).trans t2
      replace hBT := Nat.lt_of_lt_of_le hBT hb.size
      replace RT := RT.later hb
      replace V := V.later hb
      replace X := X.later hb
      replace hB := below_step hB hb
      clear hb
      go_wp2_with fail
      refine (cFa _ V).mono ?_
      rintro e w' ⟨rfl, hww⟩
      obtain rfl := hww.symm
      go_wp2_with fail
      go_ret
      exact ⟨rfl, hB⟩
    have hz : ¬ (60 : Int) < (l.length : Int) := by omega
    have hl60 : l.length ≤ 60 := by omega
    have hft := w64_iff.1 (hf ft (by simp [fF]))
    have hqq := w64_iff.1 hwq
    by_cases h1 : ft < 0
    case pos =>
      clear bA
      go_enter Try.func9, Try.ntmps9
      go_wp2_with fail
      refine (pawake_any P _).mono ?_
      rintro e w1 ⟨rfl, hb⟩
      replace t0 := (hb.cell (p := ⟨w.heap.size, 0, none⟩) hBT).trans t0
      replace t1 := (hb.cell (p := ⟨w.heap.size, 1, none⟩) hBT).trans t1
      replace t2 := (hb.cell (p := ⟨w.heap.size, 2, none⟩) hBT).trans t2
      replace hBT := Nat.lt_of_lt_of_le hBT hb.size
      replace RT := RT.later hb
      replace V := V.later hb
      replace X := X.later hb
      replace hB := below_step hB hb
      clear hb
      obtain ⟨r0, r1, r2, r3, r4, r5, r6⟩ := X.seven
      go_wp2_with fail
      refine (cFa _ V).mono ?_
      rintro e w' ⟨rfl, hww⟩
      obtain rfl := hww.symm
      go_wp2_with fail
      go_ret
      exact ⟨rfl, hB⟩
    by_cases h2 : q < 0
    case pos =>
      clear bA
      go_enter Try.func9, Try.ntmps9
      go_wp2_with fail
      refine (pawake_any P _).mono ?_
      rintro e w1 ⟨rfl, hb⟩
      replace t0 := (hb.cell (p := ⟨w.heap.size, 0, none⟩) hBT).trans t0
      replace t1 := (hb.cell (p := ⟨w.heap.size, 1, none⟩) hBT).trans t1
      replace t2 := (hb.cell (p := ⟨w.heap.size, 2, none⟩) hBT).trans t2
      replace hBT := Nat.lt_of_lt_of_le hBT hb.size
      replace RT := RT.later hb
      replace V := V.later hb
      replace X := X.later hb
      replace hB := below_step hB hb
      clear hb
      obtain ⟨r0, r1, r2, r3, r4, r5, r6⟩ := X.seven
      go_wp2_with fail
      refine (cFa _ V).mono ?_
      rintro e w' ⟨rfl, hww⟩
      obtain rfl := hww.symm
      go_wp2_with fail
      go_ret
      exact ⟨rfl, hB⟩
    by_cases h3 : 16 < ft
    case pos =>
      clear bA
      go_enter Try.func9, Try.ntmps9
      go_wp2_with fail
      refine (pawake_any P _).mono ?_
      rintro e w1 ⟨rfl, hb⟩
      replace t0 := (hb.cell (p := ⟨w.heap.size, 0, none⟩) hBT).trans t0
      replace t1 := (hb.cell (p := ⟨w.heap.size, 1, none⟩) hBT).trans t1
      replace t2 := (hb.cell (p := ⟨w.heap.size, 2, none⟩) hBT).trans t2
      replace hBT := Nat.lt_of_lt_of_le hBT hb.size
      replace RT := RT.later hb
      replace V := V.later hb
      replace X := X.later hb
      replace hB := below_step hB hb
      clear hb
      obtain ⟨r0, r1, r2, r3, r4, r5, r6⟩ := X.seven
      go_wp2_with fail
      refine (cFa _ V).mono ?_
      rintro e w' ⟨rfl, hww⟩
      obtain rfl := hww.symm
      go_wp2_with fail
      go_ret
      exact ⟨rfl, hB⟩
    by_cases h4 : 16 - ft < q
    case pos =>
      clear bA
      go_enter Try.func9, Try.ntmps9
      go_wp2_with fail
      refine (pawake_any P _).mono ?_
      rintro e w1 ⟨rfl, hb⟩
      replace t0 := (hb.cell (p := ⟨w.heap.size, 0, none⟩) hBT).trans t0
      replace t1 := (hb.cell (p := ⟨w.heap.size, 1, none⟩) hBT).trans t1
      replace t2 := (hb.cell (p := ⟨w.heap.size, 2, none⟩) hBT).trans t2
      replace hBT := Nat.lt_of_lt_of_le hBT hb.size
      replace RT := RT.later hb
      replace V := V.later hb
      replace X := X.later hb
      replace hB := below_step hB hb
      clear hb
      obtain ⟨r0, r1, r2, r3, r4, r5, r6⟩ := X.seven
      go_wp2_with fail
      refine (cFa _ V).mono ?_
      rintro e w' ⟨rfl, hww⟩
      obtain rfl := hww.symm
      go_wp2_with fail
      go_ret
      exact ⟨rfl, hB⟩
    obtain ⟨m, hl, hm, hm16, hh, hways⟩ := long_ways s n l A ⟨fi, fs, fd, ft, fg, fw, fp⟩ q (by show 0 ≤ ft; omega) (by show ft ≤ 16; omega) (by omega) (by show ft + q ≤ 16; omega)
    simp only at hways
    have hfG : WfF ⟨fi, fs, fd, ft + q, fg, fw, fp⟩ := wfF_of (hf fi (by simp [fF])) (hf fs (by simp [fF])) (hf fd (by simp [fF])) (w64_iff.2 (by show -9223372036854775808 ≤ ft + q ∧ ft + q ≤ 9223372036854775807; omega)) (hf fg (by simp [fF])) (hf fw (by simp [fF])) (hf fp (by simp [fF]))
    have hw := walk_wf (s := s) (n := n) (l := l) (C := A) (f := ⟨fi, fs, fd, ft, fg, fw, fp⟩) (fun k hk => RT.wf k hk) (lists_wf V) hf
    have hw2 := walk_wf (s := s) (n := n) (l := l) (C := A) (f := ⟨fi, fs, fd, ft + q, fg, fw, fp⟩) (fun k hk => RT.wf k hk) (lists_wf V) hfG
    have hln2 := (walk_len (s := s) (n := n) (l := l) (C := A) 17 (cap ⟨fi, fs, fd, ft + q, fg, fw, fp⟩)).1
    rw [show walkF s n l A 17 (cap ⟨fi, fs, fd, ft + q, fg, fw, fp⟩) = walkP s n l A ⟨fi, fs, fd, ft + q, fg, fw, fp⟩ from rfl] at hln2
    have hp2 := walk_pos (s := s) (n := n) (l := l) (C := A) 16 (cap ⟨fi, fs, fd, ft + q, fg, fw, fp⟩)
    rw [show walkF s n l A (16 + 1) (cap ⟨fi, fs, fd, ft + q, fg, fw, fp⟩) = walkP s n l A ⟨fi, fs, fd, ft + q, fg, fw, fp⟩ from rfl] at hp2
    have cS := fun w (RT : Rds Tp.fK 4 w x c l) (V : Lists w a k A) => P.walk s n w RT V hl60 bA.2 ⟨fi, fs, fd, ft, fg, fw, fp⟩ hf
    have cG := fun w (RT : Rds Tp.fK 4 w x c l) (V : Lists w a k A) => P.walk s n w RT V hl60 bA.2 ⟨fi, fs, fd, ft + q, fg, fw, fp⟩ hfG
    generalize walkP s n l A ⟨fi, fs, fd, ft, fg, fw, fp⟩ = R at cS hw hm hh hways
    generalize walkP s n l A ⟨fi, fs, fd, ft + q, fg, fw, fp⟩ = R2 at cG hways hw2 hln2 hp2
    have HW : Hid (∀ h ∈ R, ∀ z ∈ fH h, (Lit.int .i64 z).wf = true) := hw
    have HW2 : Hid (∀ h ∈ R2, ∀ z ∈ fH h, (Lit.int .i64 z).wf = true) := hw2
    have HH : Hid (R[m]? = some hl) := hh
    have hp2 : 0 < R2.length := List.length_pos_iff.2 hp2
    have hqs : IntKind.i64.wrap (ft + q) = ft + q := by rw [IntKind.wrap_i64]; omega
    clear bA hl60 h60 hw hw2 hh hfG hf hwq
    obtain ⟨l0, l1, l2, l3, l4, l5, l6⟩ := hl
    simp only at hways
    have hwm : IntKind.i64.wrap ((R.length : Int) - 1) = (m : Int) := by rw [IntKind.wrap_i64]; omega
    have hRp : 0 < (R.length : Int) := by omega
    have hml : m < R.length := by omega
    have hmz : (m : Int) < (R.length : Int) := by omega
    have hjR : R.length ≤ 17 := by omega
    rcases hways with ⟨h5, hle, htk⟩ | ⟨h5, hle, htk⟩
    · have HTK : Hid (R.take m = R2.take m) := htk
      have hz5 : ¬ (R2.length : Int) < (m : Int) := by omega
      subst h5
      clear htk hm
      go_enter Try.func9, Try.ntmps9
      go_wp2_with fail
      refine (pawake_any P _).mono ?_
      rintro e w1 ⟨rfl, hb⟩
      replace t0 := (hb.cell (p := ⟨w.heap.size, 0, none⟩) hBT).trans t0
      replace t1 := (hb.cell (p := ⟨w.heap.size, 1, none⟩) hBT).trans t1
      replace t2 := (hb.cell (p := ⟨w.heap.size, 2, none⟩) hBT).trans t2
      replace hBT := Nat.lt_of_lt_of_le hBT hb.size
      replace RT := RT.later hb
      replace V := V.later hb
      replace X := X.later hb
      replace hB := below_step hB hb
      clear hb
      obtain ⟨r0, r1, r2, r3, r4, r5, r6⟩ := X.seven
      go_wp2_with fail
      refine (cFa _ V).mono ?_
      rintro e w' ⟨rfl, hww⟩
      obtain rfl := hww.symm
      clear cFa
      have XG : Lies (w1.alloc (.cells #[.int .i64 fi, .int .i64 fs, .int .i64 fd, .int .i64 (ft + q), .int .i64 fg, .int .i64 fw, .int .i64 fp] 30)) w1.heap.size [fi, fs, fd, ft + q, fg, fw, fp] := Lies.new w1 [fi, fs, fd, ft + q, fg, fw, fp] 30 rfl
      have y3 := (X.later (below_new w1 (.cells #[.int .i64 fi, .int .i64 fs, .int .i64 fd, .int .i64 ft, .int .i64 fg, .int .i64 fw, .int .i64 fp] 30))).cells 3 _ rfl
      have hb := below_new w1 (.cells #[.int .i64 fi, .int .i64 fs, .int .i64 fd, .int .i64 (ft + q), .int .i64 fg, .int .i64 fw, .int .i64 fp] 30)
      have t2a := t2
      replace t0 := (hb.cell (p := ⟨w.heap.size, 0, none⟩) hBT).trans t0
      replace t1 := (hb.cell (p := ⟨w.heap.size, 1, none⟩) hBT).trans t1
      replace t2 := (hb.cell (p := ⟨w.heap.size, 2, none⟩) hBT).trans t2
      replace hBT := Nat.lt_of_lt_of_le hBT hb.size
      replace RT := RT.later hb
      replace V := V.later hb
      replace X := X.later hb
      replace hB := below_step hB hb
      clear hb
      obtain ⟨s0, s1, s2, s3, s4, s5, s6⟩ := X.seven
      go_wp2_with fail
      clear r0 r1 r2 r3 r4 r5 r6 s0 s1 s2 s3 s4 s5 s6 y3 t2a
      generalize (w1.alloc (.cells #[.int .i64 fi, .int .i64 fs, .int .i64 fd, .int .i64 (ft + q), .int .i64 fg, .int .i64 fw, .int .i64 fp] 30)) = u at t0 t1 t2 X XG RT V hB hBT ⊢
      generalize w1.heap.size = N1 at XG ⊢
      refine (cS _ RT V).mono ?_
      clear cS
      rintro e w2 ⟨v1, rfl, own, hb⟩
      obtain ⟨y, j, rfl, S1⟩ := rds_of_owns fH_len own rfl HW.out
      clear own
      replace t0 := (hb.cell (p := ⟨w.heap.size, 0, none⟩) hBT).trans t0
      replace t1 := (hb.cell (p := ⟨w.heap.size, 1, none⟩) hBT).trans t1
      replace t2 := (hb.cell (p := ⟨w.heap.size, 2, none⟩) hBT).trans t2
      replace hBT := Nat.lt_of_lt_of_le hBT hb.size
      replace RT := RT.later hb
      replace V := V.later hb
      replace X := X.later hb
      replace XG := XG.later hb
      replace hB := below_step hB hb
      clear hb
      obtain ⟨r0, r1, r2, r3, r4, r5, r6⟩ := XG.seven
      go_wp2_with fail
      clear r0 r1 r2 r3 r4 r5 r6
      have cG2 := cG _ RT V
      clear cG RT V t0 t1 t2 hBT XG X
      refine cG2.mono ?_
      clear cG2
      rintro e w3 ⟨v2, rfl, own, hb⟩
      obtain ⟨y2, j2, rfl, S2⟩ := rds_of_owns fH_len own rfl HW2.out
      clear own
      replace S1 := S1.later hb
      replace hB := below_step hB hb
      clear hb
      obtain ⟨b, o, rfl, hbb, hc⟩ := S1.at HH.out
      have v5 := hc 5 _ rfl
      clear hc
      obtain ⟨h2, hh2⟩ := getC hp2
      obtain ⟨b2, o2, rfl, -, -⟩ := S2.at hh2
      clear hh2
      have hjl := S1.le
      have hjm := S1.max
      have hjl2 := S2.le
      have hjm2 := S2.max
      unfold maxLen at hjm hjm2
      go_wp2_with fail
      clear v5 hbb
      have cE : ∀ (u : World), Rds fH 7 u (some ⟨b, o, none⟩) j (R.take m) → Rds fH 7 u (some ⟨b2, o2, none⟩) j2 (R2.take m) → Calls Try.prog 14 #[.slice (some ⟨b, o, none⟩) m j, .slice (some ⟨b2, o2, none⟩) m j2] u fun e w' => e = .returned (.bool true) ∧ Below u.heap.size u w' := by
        intro u g1 g2
        have g3 := rsame13_any u g1 g2
        rw [List.length_take, List.length_take, show min m R.length = m by omega, show min m R2.length = m by omega, decide_eq_true HTK.out] at g3
        exact g3
      have SA := S1.take m
      have SB := S2.take m
      have hmj : ¬ j < m := by omega
      have hmj2 : ¬ j2 < m := by omega
      clear S1 S2
      have S0 : Below w3.heap.size w3 w3.drew := (Below.refl _ _).drew
      have SAD := SA.later S0
      have SBD := SB.later S0
      clear SA
      clear SB
      have SA := SAD
      have SB := SBD
      clear SAD
      clear SBD
      refine wp_region_noPanic ?_
      refine wp_region_held_drew (S := fun w' => Below w3.heap.size w3 w') (by kernel_rfl) S0 (fun hH => ?_)
      clear S0
      generalize w3.drew = w3d at hH SA SB ⊢
      refine wpAnyH_take (i := 0) (oi := { dst := some 91, op := _, type := _, pos := _, after := _, guard := _ }) (v := ?_) rfl (by kernel_rfl) (by kernel_rfl) (by kernel_rfl) (fun _ _ _ h => h) (Or.inl ⟨by rfl, ?_⟩) hH ?_
      rotate_left
      · intro wz hSw
        (try dsimp only at hSw)
        first | (go_simp; done) | (go_simp; with_reducible rfl)
      try simp only [Act.put, List.setIfInBounds_toArray, List.set_cons_zero, List.set_cons_succ]
      refine wpAnyH_take (i := 1) (oi := { dst := some 92, op := _, type := _, pos := _, after := _, guard := _ }) (v := ?_) rfl (by kernel_rfl) (by kernel_rfl) (by kernel_rfl) (fun _ _ _ h => h) (Or.inl ⟨by rfl, ?_⟩) hH ?_
      rotate_left
      · intro wz hSw
        (try dsimp only at hSw)
        first | (go_simp; done) | (go_simp; with_reducible rfl)
      try simp only [Act.put, List.setIfInBounds_toArray, List.set_cons_zero, List.set_cons_succ]
      refine wpAnyH_take (i := 3) (oi := { dst := some 94, op := _, type := _, pos := _, after := _, guard := _ }) (v := ?_) rfl (by kernel_rfl) (by kernel_rfl) (by kernel_rfl) (fun _ _ _ h => h) (Or.inl ⟨by rfl, ?_⟩) hH ?_
      rotate_left
      · intro wz hSw
        (try dsimp only at hSw)
        first | (go_simp; done) | (go_simp; with_reducible rfl)
      try simp only [Act.put, List.setIfInBounds_toArray, List.set_cons_zero, List.set_cons_succ]
      refine wpAnyH_take (i := 4) (oi := { dst := some 95, op := _, type := _, pos := _, after := _, guard := _ }) (v := ?_) rfl (by kernel_rfl) (by kernel_rfl) (by kernel_rfl) (fun _ _ _ h => h) (Or.inl ⟨by rfl, ?_⟩) hH ?_
      rotate_left
      · intro wz hSw
        (try dsimp only at hSw)
        first | (go_simp; done) | (go_simp; with_reducible rfl)
      try simp only [Act.put, List.setIfInBounds_toArray, List.set_cons_zero, List.set_cons_succ]
      refine wpAnyH_take (i := 2) (oi := { dst := some 93, op := _, type := _, pos := _, after := _, guard := _ }) (v := .slice (some ⟨b, o, none⟩) m j) rfl (by kernel_rfl) (by kernel_rfl) (by kernel_rfl) (fun _ _ _ h => h) (Or.inl ⟨by rfl, ?_⟩) hH ?_
      · intro wz hSw
        (try dsimp only at hSw)
        first | (go_simp; done) | (go_simp; with_reducible rfl)
      try simp only [Act.put, List.setIfInBounds_toArray, List.set_cons_zero, List.set_cons_succ]
      refine wpAnyH_take (i := 5) (oi := { dst := some 96, op := _, type := _, pos := _, after := _, guard := _ }) (v := .slice (some ⟨b2, o2, none⟩) m j2) rfl (by kernel_rfl) (by kernel_rfl) (by kernel_rfl) (fun _ _ _ h => h) (Or.inl ⟨by rfl, ?_⟩) hH ?_
      · intro wz hSw
        (try dsimp only at hSw)
        first | (go_simp; done) | (go_simp; with_reducible rfl)
      try simp only [Act.put, List.setIfInBounds_toArray, List.set_cons_zero, List.set_cons_succ]
      refine wpAnyH_ready (rs := [6]) (by kernel_rfl) (by simp) ?_
      refine (AllReadyH.cons (o := { dst := some 97, op := _, type := _, pos := _, after := _, guard := _ }) rfl (fun K hK => ?_) AllReadyH.nil)
      go_simp
      refine (cE _ SA SB).mono ?_
      rintro e w36x0 ⟨rfl, hb⟩
      have hn : Below w3.heap.size w3 w36x0 := below_step hH hb
      replace SA := SA.later hb
      replace SB := SB.later hb
      clear hb
      go_wp2_with fail
      refine hK.out _ _ hn (fun hH2 => ?_)
      clear hK K hH hn
      have hH := hH2
      clear hH2
      try simp only [Act.put, List.setIfInBounds_toArray, List.set_cons_zero, List.set_cons_succ]
      refine wpAnyH_take (i := 7) (oi := { dst := some 15, op := _, type := _, pos := _, after := _, guard := _ }) (v := ?_) rfl (by kernel_rfl) (by kernel_rfl) (by kernel_rfl) (fun _ _ _ h => h) (Or.inl ⟨by rfl, ?_⟩) hH ?_
      rotate_left
      · intro wz hSw
        (try dsimp only at hSw)
        first | (go_simp; done) | (go_simp; with_reducible rfl)
      try simp only [Act.put, List.setIfInBounds_toArray, List.set_cons_zero, List.set_cons_succ]
      refine wpAnyH_done (by kernel_rfl) ?_ _
      refine NoPanic.normal ?_
      have hB := below_step hB hH
      go_wp2_with fail
      go_ret
      exact ⟨ret_bool (by first | rfl | simp), hB⟩
    · rw [← hm] at hle htk
      have HTK : Hid (R.take R.length = R2.take R.length) := htk
      have hz5 : ¬ (R2.length : Int) < (R.length : Int) := by omega
      have h5b : (l5 == 5) = false := by simpa using h5
      clear htk hm
      go_enter Try.func9, Try.ntmps9
      go_wp2_with fail
      refine (pawake_any P _).mono ?_
      rintro e w1 ⟨rfl, hb⟩
      replace t0 := (hb.cell (p := ⟨w.heap.size, 0, none⟩) hBT).trans t0
      replace t1 := (hb.cell (p := ⟨w.heap.size, 1, none⟩) hBT).trans t1
      replace t2 := (hb.cell (p := ⟨w.heap.size, 2, none⟩) hBT).trans t2
      replace hBT := Nat.lt_of_lt_of_le hBT hb.size
      replace RT := RT.later hb
      replace V := V.later hb
      replace X := X.later hb
      replace hB := below_step hB hb
      clear hb
      obtain ⟨r0, r1, r2, r3, r4, r5, r6⟩ := X.seven
      go_wp2_with fail
      refine (cFa _ V).mono ?_
      rintro e w' ⟨rfl, hww⟩
      obtain rfl := hww.symm
      clear cFa
      have XG : Lies (w1.alloc (.cells #[.int .i64 fi, .int .i64 fs, .int .i64 fd, .int .i64 (ft + q), .int .i64 fg, .int .i64 fw, .int .i64 fp] 30)) w1.heap.size [fi, fs, fd, ft + q, fg, fw, fp] := Lies.new w1 [fi, fs, fd, ft + q, fg, fw, fp] 30 rfl
      have y3 := (X.later (below_new w1 (.cells #[.int .i64 fi, .int .i64 fs, .int .i64 fd, .int .i64 ft, .int .i64 fg, .int .i64 fw, .int .i64 fp] 30))).cells 3 _ rfl
      have hb := below_new w1 (.cells #[.int .i64 fi, .int .i64 fs, .int .i64 fd, .int .i64 (ft + q), .int .i64 fg, .int .i64 fw, .int .i64 fp] 30)
      have t2a := t2
      replace t0 := (hb.cell (p := ⟨w.heap.size, 0, none⟩) hBT).trans t0
      replace t1 := (hb.cell (p := ⟨w.heap.size, 1, none⟩) hBT).trans t1
      replace t2 := (hb.cell (p := ⟨w.heap.size, 2, none⟩) hBT).trans t2
      replace hBT := Nat.lt_of_lt_of_le hBT hb.size
      replace RT := RT.later hb
      replace V := V.later hb
      replace X := X.later hb
      replace hB := below_step hB hb
      clear hb
      obtain ⟨s0, s1, s2, s3, s4, s5, s6⟩ := X.seven
      go_wp2_with fail
      clear r0 r1 r2 r3 r4 r5 r6 s0 s1 s2 s3 s4 s5 s6 y3 t2a
      generalize (w1.alloc (.cells #[.int .i64 fi, .int .i64 fs, .int .i64 fd, .int .i64 (ft + q), .int .i64 fg, .int .i64 fw, .int .i64 fp] 30)) = u at t0 t1 t2 X XG RT V hB hBT ⊢
      generalize w1.heap.size = N1 at XG ⊢
      refine (cS _ RT V).mono ?_
      clear cS
      rintro e w2 ⟨v1, rfl, own, hb⟩
      obtain ⟨y, j, rfl, S1⟩ := rds_of_owns fH_len own rfl HW.out
      clear own
      replace t0 := (hb.cell (p := ⟨w.heap.size, 0, none⟩) hBT).trans t0
      replace t1 := (hb.cell (p := ⟨w.heap.size, 1, none⟩) hBT).trans t1
      replace t2 := (hb.cell (p := ⟨w.heap.size, 2, none⟩) hBT).trans t2
      replace hBT := Nat.lt_of_lt_of_le hBT hb.size
      replace RT := RT.later hb
      replace V := V.later hb
      replace X := X.later hb
      replace XG := XG.later hb
      replace hB := below_step hB hb
      clear hb
      obtain ⟨r0, r1, r2, r3, r4, r5, r6⟩ := XG.seven
      go_wp2_with fail
      clear r0 r1 r2 r3 r4 r5 r6
      have cG2 := cG _ RT V
      clear cG RT V t0 t1 t2 hBT XG X
      refine cG2.mono ?_
      clear cG2
      rintro e w3 ⟨v2, rfl, own, hb⟩
      obtain ⟨y2, j2, rfl, S2⟩ := rds_of_owns fH_len own rfl HW2.out
      clear own
      replace S1 := S1.later hb
      replace hB := below_step hB hb
      clear hb
      obtain ⟨b, o, rfl, hbb, hc⟩ := S1.at HH.out
      have v5 := hc 5 _ rfl
      clear hc
      obtain ⟨h2, hh2⟩ := getC hp2
      obtain ⟨b2, o2, rfl, -, -⟩ := S2.at hh2
      clear hh2
      have hjl := S1.le
      have hjm := S1.max
      have hjl2 := S2.le
      have hjm2 := S2.max
      unfold maxLen at hjm hjm2
      go_wp2_with fail
      clear v5 hbb
      have cE : ∀ (u : World), Rds fH 7 u (some ⟨b, o, none⟩) j (R.take R.length) → Rds fH 7 u (some ⟨b2, o2, none⟩) j2 (R2.take R.length) → Calls Try.prog 14 #[.slice (some ⟨b, o, none⟩) R.length j, .slice (some ⟨b2, o2, none⟩) R.length j2] u fun e w' => e = .returned (.bool true) ∧ Below u.heap.size u w' := by
        intro u g1 g2
        have g3 := rsame13_any u g1 g2
        rw [List.length_take, List.length_take, show min R.length R.length = R.length by omega, show min R.length R2.length = R.length by omega, decide_eq_true HTK.out] at g3
        exact g3
      have SA := S1.take R.length
      have SB := S2.take R.length
      have hmj : ¬ j < R.length := by omega
      have hmj2 : ¬ j2 < R.length := by omega
      clear S1 S2
      have S0 : Below w3.heap.size w3 w3.drew := (Below.refl _ _).drew
      have SAD := SA.later S0
      have SBD := SB.later S0
      clear SA
      clear SB
      have SA := SAD
      have SB := SBD
      clear SAD
      clear SBD
      refine wp_region_noPanic ?_
      refine wp_region_held_drew (S := fun w' => Below w3.heap.size w3 w') (by kernel_rfl) S0 (fun hH => ?_)
      clear S0
      generalize w3.drew = w3d at hH SA SB ⊢
      refine wpAnyH_take (i := 0) (oi := { dst := some 91, op := _, type := _, pos := _, after := _, guard := _ }) (v := ?_) rfl (by kernel_rfl) (by kernel_rfl) (by kernel_rfl) (fun _ _ _ h => h) (Or.inl ⟨by rfl, ?_⟩) hH ?_
      rotate_left
      · intro wz hSw
        (try dsimp only at hSw)
        first | (go_simp; done) | (go_simp; with_reducible rfl)
      try simp only [Act.put, List.setIfInBounds_toArray, List.set_cons_zero, List.set_cons_succ]
      refine wpAnyH_take (i := 1) (oi := { dst := some 92, op := _, type := _, pos := _, after := _, guard := _ }) (v := ?_) rfl (by kernel_rfl) (by kernel_rfl) (by kernel_rfl) (fun _ _ _ h => h) (Or.inl ⟨by rfl, ?_⟩) hH ?_
      rotate_left
      · intro wz hSw
        (try dsimp only at hSw)
        first | (go_simp; done) | (go_simp; with_reducible rfl)
      try simp only [Act.put, List.setIfInBounds_toArray, List.set_cons_zero, List.set_cons_succ]
      refine wpAnyH_take (i := 3) (oi := { dst := some 94, op := _, type := _, pos := _, after := _, guard := _ }) (v := ?_) rfl (by kernel_rfl) (by kernel_rfl) (by kernel_rfl) (fun _ _ _ h => h) (Or.inl ⟨by rfl, ?_⟩) hH ?_
      rotate_left
      · intro wz hSw
        (try dsimp only at hSw)
        first | (go_simp; done) | (go_simp; with_reducible rfl)
      try simp only [Act.put, List.setIfInBounds_toArray, List.set_cons_zero, List.set_cons_succ]
      refine wpAnyH_take (i := 4) (oi := { dst := some 95, op := _, type := _, pos := _, after := _, guard := _ }) (v := ?_) rfl (by kernel_rfl) (by kernel_rfl) (by kernel_rfl) (fun _ _ _ h => h) (Or.inl ⟨by rfl, ?_⟩) hH ?_
      rotate_left
      · intro wz hSw
        (try dsimp only at hSw)
        first | (go_simp; done) | (go_simp; with_reducible rfl)
      try simp only [Act.put, List.setIfInBounds_toArray, List.set_cons_zero, List.set_cons_succ]
      refine wpAnyH_take (i := 2) (oi := { dst := some 93, op := _, type := _, pos := _, after := _, guard := _ }) (v := .slice (some ⟨b, o, none⟩) R.length j) rfl (by kernel_rfl) (by kernel_rfl) (by kernel_rfl) (fun _ _ _ h => h) (Or.inl ⟨by rfl, ?_⟩) hH ?_
      · intro wz hSw
        (try dsimp only at hSw)
        first | (go_simp; done) | (go_simp; with_reducible rfl)
      try simp only [Act.put, List.setIfInBounds_toArray, List.set_cons_zero, List.set_cons_succ]
      refine wpAnyH_take (i := 5) (oi := { dst := some 96, op := _, type := _, pos := _, after := _, guard := _ }) (v := .slice (some ⟨b2, o2, none⟩) R.length j2) rfl (by kernel_rfl) (by kernel_rfl) (by kernel_rfl) (fun _ _ _ h => h) (Or.inl ⟨by rfl, ?_⟩) hH ?_
      · intro wz hSw
        (try dsimp only at hSw)
        first | (go_simp; done) | (go_simp; with_reducible rfl)
      try simp only [Act.put, List.setIfInBounds_toArray, List.set_cons_zero, List.set_cons_succ]
      refine wpAnyH_ready (rs := [6]) (by kernel_rfl) (by simp) ?_
      refine (AllReadyH.cons (o := { dst := some 97, op := _, type := _, pos := _, after := _, guard := _ }) rfl (fun K hK => ?_) AllReadyH.nil)
      go_simp
      refine (cE _ SA SB).mono ?_
      rintro e w36x0 ⟨rfl, hb⟩
      have hn : Below w3.heap.size w3 w36x0 := below_step hH hb
      replace SA := SA.later hb
      replace SB := SB.later hb
      clear hb
      go_wp2_with fail
      refine hK.out _ _ hn (fun hH2 => ?_)
      clear hK K hH hn
      have hH := hH2
      clear hH2
      try simp only [Act.put, List.setIfInBounds_toArray, List.set_cons_zero, List.set_cons_succ]
      refine wpAnyH_take (i := 7) (oi := { dst := some 15, op := _, type := _, pos := _, after := _, guard := _ }) (v := ?_) rfl (by kernel_rfl) (by kernel_rfl) (by kernel_rfl) (fun _ _ _ h => h) (Or.inl ⟨by rfl, ?_⟩) hH ?_
      rotate_left
      · intro wz hSw
        (try dsimp only at hSw)
        first | (go_simp; done) | (go_simp; with_reducible rfl)
      try simp only [Act.put, List.setIfInBounds_toArray, List.set_cons_zero, List.set_cons_succ]
      refine wpAnyH_done (by kernel_rfl) ?_ _
      refine NoPanic.normal ?_
      have hB := below_step hB hH
      go_wp2_with fail
      go_ret
      exact ⟨ret_bool (by first | rfl | simp), hB⟩
end Go.Proofs.Ytihgpllbgliplaa
