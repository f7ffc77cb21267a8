/- The statement PathGoes, over whatever the code is (PCode). -/
import Derived.Test.YtihgpllbgliplaaPathIf
import Derived.Test.YtihgpllbgliplaaPathSame
namespace Go.Proofs.Ytihgpllbgliplaa
open Go.ChangeShapes Go.WideShapes Go.ChangeAt Go.RowKit Pk Cf Pa
set_option linter.unusedVariables false
set_option linter.unusedSimpArgs false

theorem rds_drop13 {α : Type} {f : α → List Int} {sz : Nat} {w : World} {b o c : Nat} {l : List α} (h : Rds f sz w (some ⟨b, o, none⟩) c l) (n : Nat) (hn : n ≤ l.length) (hc : c ≠ n) : Rds f sz w (some ⟨b, o + n * sz, none⟩) (c - n) (l.drop n) := by
  have hle := h.le
  refine ⟨by rw [List.length_drop]; omega, by have := h.max; omega, fun x hx => h.wf x (List.mem_of_mem_drop hx), fun e => (nomatch e), fun hne => ?_⟩
  obtain ⟨b', o', e, hb, hx⟩ := h.cells (by intro h0; rw [h0] at hne; simp at hne)
  cases e
  refine ⟨b, o + n * sz, rfl, hb, fun i x hi j y hy => ?_⟩
  rw [List.getElem?_drop] at hi
  have := hx (n + i) x hi j y hy
  rwa [show o + n * sz + i * sz + j = o + (n + i) * sz + j by rw [Nat.add_mul]; omega]
theorem ne_hp13 (a b c d e f g : Int) (w : World) : (binOp .neq 34 (.agg #[.int .i64 a, .int .i64 b, .int .i64 c, .int .i64 d, .int .i64 e, .int .i64 f, .int .i64 g]) (.agg #[.int .i64 a, .int .i64 b, .int .i64 c, .int .i64 d, .int .i64 e, .int .i64 f, .int .i64 g])).run Try.prog w = .ok (.bool false) w := by go_simp
theorem eq_fl13 (w : World) : (binOp .eql 30 (.agg #[.int .i64 0, .int .i64 0, .int .i64 0, .int .i64 0, .int .i64 0, .int .i64 0, .int .i64 0]) (.agg #[.int .i64 0, .int .i64 0, .int .i64 0, .int .i64 0, .int .i64 0, .int .i64 0, .int .i64 0])).run Try.prog w = .ok (.bool true) w := by go_simp
set_option maxRecDepth 100000 in
set_option maxHeartbeats 8000000 in
theorem pathGoes_of (P : PCode) (s n : Int) (x : Option Addr) (c : Nat) (l : List Tp.Lk) (a : Option Addr) (k : Nat) (A : Cnf) (fi fs fd ft fg fw fp : Int) (w : World) (RT : Rds Tp.fK 4 w x c l) (V : Lists w a k A) (hf : WfF ⟨fi, fs, fd, ft, fg, fw, fp⟩) :
    Calls Try.prog 7 #[.agg #[.int .i64 s, .int .i64 n, .slice x l.length c], .slice a A.length k, .agg #[.int .i64 fi, .int .i64 fs, .int .i64 fd, .int .i64 ft, .int .i64 fg, .int .i64 fw, .int .i64 fp]] w fun e w' => e = .returned (.bool true) ∧ Below w.heap.size w w' := by
  have hB := below_new w (.cells #[.int .i64 s, .int .i64 n, .slice x l.length c] 24)
  obtain ⟨t0, t1, t2⟩ := box3 w (.int .i64 s) (.int .i64 n) (.slice x l.length c) 24
  have hBT : w.heap.size < (w.alloc (.cells #[.int .i64 s, .int .i64 n, .slice x l.length c] 24)).heap.size := by simp
  have X : Lies ((w.alloc (.cells #[.int .i64 s, .int .i64 n, .slice x l.length c] 24)).alloc (.cells #[.int .i64 fi, .int .i64 fs, .int .i64 fd, .int .i64 ft, .int .i64 fg, .int .i64 fw, .int .i64 fp] 30)) (w.heap.size + 1) [fi, fs, fd, ft, fg, fw, fp] := Lies.new (w.alloc (.cells #[.int .i64 s, .int .i64 n, .slice x l.length c] 24)) [fi, fs, fd, ft, fg, fw, fp] 30 (by simp)
  have hb := below_new (w.alloc (.cells #[.int .i64 s, .int .i64 n, .slice x l.length c] 24)) (.cells #[.int .i64 fi, .int .i64 fs, .int .i64 fd, .int .i64 ft, .int .i64 fg, .int .i64 fw, .int .i64 fp] 30)
  replace RT := RT.later hB
  replace V := V.later hB
  replace t0 := (hb.cell (p := ⟨w.heap.size, 0, none⟩) hBT).trans t0
  replace t1 := (hb.cell (p := ⟨w.heap.size, 1, none⟩) hBT).trans t1
  replace t2 := (hb.cell (p := ⟨w.heap.size, 2, none⟩) hBT).trans t2
  replace hBT := Nat.lt_of_lt_of_le hBT hb.size
  replace RT := RT.later hb
  replace V := V.later hb
  replace hB := below_step hB hb
  clear hb
  have hmx := Nat.le_trans RT.le RT.max
  unfold maxLen at hmx
  have cFa := fun w (V : Lists w a k A) => few_any w V
  cases hA : fewB A with
  | false =>
    rw [hA] at cFa
    go_enter Try.func7, Try.ntmps7
    go_wp2_with fail
    refine (pawake_any P _).mono ?_
    rintro e w1 ⟨rfl, hb⟩
    replace t0 := (hb.cell (p := ⟨w.heap.size, 0, none⟩) hBT).trans t0
    replace t1 := (hb.cell (p := ⟨w.heap.size, 1, none⟩) hBT).trans t1
    replace t2 := (hb.cell (p := ⟨w.heap.size, 2, none⟩) hBT).trans t2
    replace hBT := Nat.lt_of_lt_of_le hBT hb.size
    replace RT := RT.later hb
    replace V := V.later hb
    replace X := X.later hb
    replace hB := below_step hB hb
    clear hb
    go_wp2_with fail
    refine (cFa _ V).mono ?_
    rintro e w' ⟨rfl, hww⟩
    obtain rfl := hww.symm
    go_wp2_with fail
    go_ret
    exact ⟨rfl, hB⟩
  | true =>
    rw [hA] at cFa
    have bA := (few_iff A).1 hA
    clear hA
    by_cases h60 : 60 < l.length
    case pos =>
      have hz : (60 : Int) < (l.length : Int) := by omega
      clear bA
      go_enter Try.func7, Try.ntmps7
      go_wp2_with fail
      refine (pawake_any P _).mono ?_
      rintro e w1 ⟨rfl, hb⟩
      replace t0 := (hb.cell (p := ⟨w.heap.size, 0, none⟩) hBT).trans t0
      replace t1 := (hb.cell (p := ⟨w.heap.size, 1, none⟩) hBT).trans t1
      replace t2 := (hb.cell (p := ⟨w.heap.size, 2, none⟩) hBT).trans t2
      replace hBT := Nat.lt_of_lt_of_le hBT hb.size
      replace RT := RT.later hb
      replace V := V.later hb
      replace X := X.later hb
      replace hB := below_step hB hb
      clear hb
      go_wp2_with fail
      refine (cFa _ V).mono ?_
      rintro e w' ⟨rfl, hww⟩
      obtain rfl := hww.symm
      go_wp2_with fail
      go_ret
      exact ⟨rfl, hB⟩
    have hz : ¬ (60 : Int) < (l.length : Int) := by omega
    have hl60 : l.length ≤ 60 := by omega
    by_cases h16 : 16 < ft
    case pos =>
      clear bA
      go_enter Try.func7, Try.ntmps7
      go_wp2_with fail
      refine (pawake_any P _).mono ?_
      rintro e w1 ⟨rfl, hb⟩
      replace t0 := (hb.cell (p := ⟨w.heap.size, 0, none⟩) hBT).trans t0
      replace t1 := (hb.cell (p := ⟨w.heap.size, 1, none⟩) hBT).trans t1
      replace t2 := (hb.cell (p := ⟨w.heap.size, 2, none⟩) hBT).trans t2
      replace hBT := Nat.lt_of_lt_of_le hBT hb.size
      replace RT := RT.later hb
      replace V := V.later hb
      replace X := X.later hb
      replace hB := below_step hB hb
      clear hb
      obtain ⟨r0, r1, r2, r3, r4, r5, r6⟩ := X.seven
      go_wp2_with fail
      refine (cFa _ V).mono ?_
      rintro e w' ⟨rfl, hww⟩
      obtain rfl := hww.symm
      go_wp2_with fail
      go_ret
      exact ⟨rfl, hB⟩
    have hsw := step_wf (s := s) (n := n) (l := l) (C := A) (f := ⟨fi, fs, fd, ft, fg, fw, fp⟩) (fun k hk => RT.wf k hk) (lists_wf V) hf
    have hw := walk_wf (s := s) (n := n) (l := l) (C := A) (f := ⟨fi, fs, fd, ft, fg, fw, fp⟩) (fun k hk => RT.wf k hk) (lists_wf V) hf
    have hw2 := walk_wf (s := s) (n := n) (l := l) (C := A) (f := (stepP s n l A ⟨fi, fs, fd, ft, fg, fw, fp⟩).2) (fun k hk => RT.wf k hk) (lists_wf V) hsw.2
    have cS := fun w (RT : Rds Tp.fK 4 w x c l) (V : Lists w a k A) => P.step s n w RT V hl60 bA.2 ⟨fi, fs, fd, ft, fg, fw, fp⟩ hf
    have cW := fun w (RT : Rds Tp.fK 4 w x c l) (V : Lists w a k A) => P.walk s n w RT V hl60 bA.2 ⟨fi, fs, fd, ft, fg, fw, fp⟩ hf
    have cG := fun w (RT : Rds Tp.fK 4 w x c l) (V : Lists w a k A) => P.walk s n w RT V hl60 bA.2 (stepP s n l A ⟨fi, fs, fd, ft, fg, fw, fp⟩).2 hsw.2
    have hgo := walk_goes (s := s) (n := n) (l := l) (C := A) ⟨fi, fs, fd, ft, fg, fw, fp⟩ (by show ft ≤ 16; omega)
    have hst := step_ways s n l A ⟨fi, fs, fd, ft, fg, fw, fp⟩
    have hln := (walk_len (s := s) (n := n) (l := l) (C := A) 17 (cap ⟨fi, fs, fd, ft, fg, fw, fp⟩)).1
    rw [show walkF s n l A 17 (cap ⟨fi, fs, fd, ft, fg, fw, fp⟩) = walkP s n l A ⟨fi, fs, fd, ft, fg, fw, fp⟩ from rfl] at hln
    have hne2 := walk_pos (s := s) (n := n) (l := l) (C := A) 16 (cap (stepP s n l A ⟨fi, fs, fd, ft, fg, fw, fp⟩).2)
    rw [show walkF s n l A (16 + 1) (cap (stepP s n l A ⟨fi, fs, fd, ft, fg, fw, fp⟩).2) = walkP s n l A (stepP s n l A ⟨fi, fs, fd, ft, fg, fw, fp⟩).2 from rfl] at hne2
    generalize walkP s n l A ⟨fi, fs, fd, ft, fg, fw, fp⟩ = R at cW hw hgo hln
    generalize walkP s n l A (stepP s n l A ⟨fi, fs, fd, ft, fg, fw, fp⟩).2 = R2 at cG hw2 hgo hne2
    generalize stepP s n l A ⟨fi, fs, fd, ft, fg, fw, fp⟩ = st at cS cG hgo hst
    obtain ⟨⟨ha, hb_, hc, hd, he, hf_, hg⟩, ⟨oa, ob, oc, od, oe, og, oh⟩⟩ := st
    simp only at hgo hst
    have HW : Hid (∀ h ∈ R, ∀ z ∈ fH h, (Lit.int .i64 z).wf = true) := hw
    have HW2 : Hid (∀ h ∈ R2, ∀ z ∈ fH h, (Lit.int .i64 z).wf = true) := hw2
    clear bA hl60 h60 hw hw2 hsw
    rcases hst with ⟨hwh, hno⟩ | ⟨hwh, -⟩
    · rw [if_neg hwh] at hgo
      have HR0 : Hid (R[0]? = some ⟨ha, hb_, hc, hd, he, hf_, hg⟩) := (by show _ = _; rw [hgo]; rfl)
      have hR1 : R.length = 1 := by rw [hgo]; rfl
      have hRz : ¬ (R.length : Int) < 1 := by omega
      have hRe : ((R.length : Int) == 1) = true := by rw [beq_iff_eq]; omega
      have hwb : (hf_ != 0) = true := by simpa using hwh
      cases hno
      clear cG HW2 hgo hne2 hwh hln
      go_enter Try.func7, Try.ntmps7
      go_wp2_with fail
      refine (pawake_any P _).mono ?_
      rintro e w1 ⟨rfl, hb⟩
      replace t0 := (hb.cell (p := ⟨w.heap.size, 0, none⟩) hBT).trans t0
      replace t1 := (hb.cell (p := ⟨w.heap.size, 1, none⟩) hBT).trans t1
      replace t2 := (hb.cell (p := ⟨w.heap.size, 2, none⟩) hBT).trans t2
      replace hBT := Nat.lt_of_lt_of_le hBT hb.size
      replace RT := RT.later hb
      replace V := V.later hb
      replace X := X.later hb
      replace hB := below_step hB hb
      clear hb
      obtain ⟨r0, r1, r2, r3, r4, r5, r6⟩ := X.seven
      go_wp2_with fail
      refine (cFa _ V).mono ?_
      rintro e w' ⟨rfl, hww⟩
      obtain rfl := hww.symm
      clear cFa
      go_wp2_with fail
      refine (cS _ RT V).mono ?_
      clear r0 r1 r2 r3 r4 r5 r6 cS
      rintro e w2 ⟨rfl, hb⟩
      replace t0 := (hb.cell (p := ⟨w.heap.size, 0, none⟩) hBT).trans t0
      replace t1 := (hb.cell (p := ⟨w.heap.size, 1, none⟩) hBT).trans t1
      replace t2 := (hb.cell (p := ⟨w.heap.size, 2, none⟩) hBT).trans t2
      replace hBT := Nat.lt_of_lt_of_le hBT hb.size
      replace RT := RT.later hb
      replace V := V.later hb
      replace X := X.later hb
      replace hB := below_step hB hb
      clear hb
      have XH : Lies (w2.alloc (.cells #[.int .i64 ha, .int .i64 hb_, .int .i64 hc, .int .i64 hd, .int .i64 he, .int .i64 hf_, .int .i64 hg] 34)) w2.heap.size [ha, hb_, hc, hd, he, hf_, hg] := Lies.new w2 [ha, hb_, hc, hd, he, hf_, hg] 34 rfl
      have XG : Lies ((w2.alloc (.cells #[.int .i64 ha, .int .i64 hb_, .int .i64 hc, .int .i64 hd, .int .i64 he, .int .i64 hf_, .int .i64 hg] 34)).alloc (.cells #[.int .i64 0, .int .i64 0, .int .i64 0, .int .i64 0, .int .i64 0, .int .i64 0, .int .i64 0] 30)) (w2.heap.size + 1) [0, 0, 0, 0, 0, 0, 0] := Lies.new (w2.alloc (.cells #[.int .i64 ha, .int .i64 hb_, .int .i64 hc, .int .i64 hd, .int .i64 he, .int .i64 hf_, .int .i64 hg] 34)) [0, 0, 0, 0, 0, 0, 0] 30 (by simp)
      replace XH := XH.later (below_new (w2.alloc (.cells #[.int .i64 ha, .int .i64 hb_, .int .i64 hc, .int .i64 hd, .int .i64 he, .int .i64 hf_, .int .i64 hg] 34)) (.cells #[.int .i64 0, .int .i64 0, .int .i64 0, .int .i64 0, .int .i64 0, .int .i64 0, .int .i64 0] 30))
      have hb := below_step (below_new w2 (.cells #[.int .i64 ha, .int .i64 hb_, .int .i64 hc, .int .i64 hd, .int .i64 he, .int .i64 hf_, .int .i64 hg] 34)) (below_new (w2.alloc (.cells #[.int .i64 ha, .int .i64 hb_, .int .i64 hc, .int .i64 hd, .int .i64 he, .int .i64 hf_, .int .i64 hg] 34)) (.cells #[.int .i64 0, .int .i64 0, .int .i64 0, .int .i64 0, .int .i64 0, .int .i64 0, .int .i64 0] 30))
      replace t0 := (hb.cell (p := ⟨w.heap.size, 0, none⟩) hBT).trans t0
      replace t1 := (hb.cell (p := ⟨w.heap.size, 1, none⟩) hBT).trans t1
      replace t2 := (hb.cell (p := ⟨w.heap.size, 2, none⟩) hBT).trans t2
      replace hBT := Nat.lt_of_lt_of_le hBT hb.size
      replace RT := RT.later hb
      replace V := V.later hb
      replace X := X.later hb
      replace hB := below_step hB hb
      clear hb
      obtain ⟨r0, r1, r2, r3, r4, r5, r6⟩ := X.seven
      go_wp2_with fail
      clear r0 r1 r2 r3 r4 r5 r6
      generalize (w2.alloc (.cells #[.int .i64 ha, .int .i64 hb_, .int .i64 hc, .int .i64 hd, .int .i64 he, .int .i64 hf_, .int .i64 hg] 34)).alloc (.cells #[.int .i64 0, .int .i64 0, .int .i64 0, .int .i64 0, .int .i64 0, .int .i64 0, .int .i64 0] 30) = u at t0 t1 t2 X XH XG RT V hB hBT ⊢
      generalize w2.heap.size = N1 at XH XG ⊢
      refine (cW _ RT V).mono ?_
      clear cW
      rintro e w3 ⟨v1, rfl, own, hb⟩
      obtain ⟨y, j, rfl, S1⟩ := rds_of_owns fH_len own rfl HW.out
      clear own
      replace t0 := (hb.cell (p := ⟨w.heap.size, 0, none⟩) hBT).trans t0
      replace t1 := (hb.cell (p := ⟨w.heap.size, 1, none⟩) hBT).trans t1
      replace t2 := (hb.cell (p := ⟨w.heap.size, 2, none⟩) hBT).trans t2
      replace hBT := Nat.lt_of_lt_of_le hBT hb.size
      replace RT := RT.later hb
      replace V := V.later hb
      replace X := X.later hb
      replace XH := XH.later hb
      replace XG := XG.later hb
      replace hB := below_step hB hb
      clear hb
      have S1 := S1
      obtain ⟨b, o, rfl, hbb, hc⟩ := S1.at HR0.out
      have v0 := hc 0 _ rfl
      have v1 := hc 1 _ rfl
      have v2 := hc 2 _ rfl
      have v3 := hc 3 _ rfl
      have v4 := hc 4 _ rfl
      have v5 := hc 5 _ rfl
      have v6 := hc 6 _ rfl
      simp only [Nat.zero_mul, Nat.add_zero] at v0 v1 v2 v3 v4 v5 v6
      have hjl := S1.le
      have hjm := S1.max
      unfold maxLen at hjm
      clear hc
      have n1 := fun w => ne_hp13 ha hb_ hc hd he hf_ hg w
      go_wp2_with fail
      have S0 : Below w3.heap.size w3 w3.drew := (Below.refl _ _).drew
      refine wp_region_noPanic ?_
      refine wp_region_held_drew (S := fun w' => Below w3.heap.size w3 w') (by kernel_rfl) S0 (fun hH => ?_)
      clear S0
      generalize w3.drew = w3d at hH  ⊢
      refine wpAnyH_take (i := 0) (oi := { dst := some 46, op := _, type := _, pos := _, after := _, guard := _ }) (v := ?_) rfl (by kernel_rfl) (by kernel_rfl) (by kernel_rfl) (fun _ _ _ h => h) (Or.inl ⟨by rfl, ?_⟩) hH ?_
      rotate_left
      · intro wz hSw
        (try dsimp only at hSw)
        first | (go_simp; done) | (go_simp; with_reducible rfl)
      try simp only [Act.put, List.setIfInBounds_toArray, List.set_cons_zero, List.set_cons_succ]
      refine wpAnyH_take (i := 1) (oi := { dst := some 47, op := _, type := _, pos := _, after := _, guard := _ }) (v := .int .i64 (R.length : Int)) rfl (by kernel_rfl) (by kernel_rfl) (by kernel_rfl) (fun _ _ _ h => h) (Or.inl ⟨by rfl, ?_⟩) hH ?_
      · intro wz hSw
        (try dsimp only at hSw)
        first | (go_simp; done) | (go_simp; with_reducible rfl)
      try simp only [Act.put, List.setIfInBounds_toArray, List.set_cons_zero, List.set_cons_succ]
      refine wpAnyH_take (i := 2) (oi := { dst := some 48, op := _, type := _, pos := _, after := _, guard := _ }) (v := .bool false) rfl (by kernel_rfl) (by kernel_rfl) (by kernel_rfl) (fun _ _ _ h => h) (Or.inl ⟨by rfl, ?_⟩) hH ?_
      · intro wz hSw
        (try dsimp only at hSw)
        first | (go_simp; done) | (go_simp; with_reducible rfl)
      try simp only [Act.put, List.setIfInBounds_toArray, List.set_cons_zero, List.set_cons_succ]
      refine wpAnyH_take (i := 3) (oi := { dst := some 49, op := _, type := _, pos := _, after := _, guard := _ }) (v := .bool false) rfl (by kernel_rfl) (by kernel_rfl) (by kernel_rfl) (fun _ _ _ h => h) (Or.inl ⟨by rfl, ?_⟩) hH ?_
      · intro wz hSw
        (try dsimp only at hSw)
        first | (go_simp; done) | (go_simp; with_reducible rfl)
      try simp only [Act.put, List.setIfInBounds_toArray, List.set_cons_zero, List.set_cons_succ]
      refine wpAnyH_take (i := 4) (oi := { dst := some 50, op := _, type := _, pos := _, after := _, guard := _ }) (v := ?_) rfl (by kernel_rfl) (by kernel_rfl) (by kernel_rfl) (fun _ _ _ h => h) (Or.inl ⟨by rfl, ?_⟩) hH ?_
      rotate_left
      · intro wz hSw
        (try dsimp only at hSw)
        first | (go_simp; done) | (go_simp; with_reducible rfl)
      try simp only [Act.put, List.setIfInBounds_toArray, List.set_cons_zero, List.set_cons_succ]
      refine wpAnyH_take (i := 7) (oi := { dst := some 53, op := _, type := _, pos := _, after := _, guard := _ }) (v := .agg #[.int .i64 ha, .int .i64 hb_, .int .i64 hc, .int .i64 hd, .int .i64 he, .int .i64 hf_, .int .i64 hg]) rfl (by kernel_rfl) (by kernel_rfl) (by kernel_rfl) (fun _ _ _ h => h) (Or.inl ⟨by rfl, ?_⟩) hH ?_
      · intro wz hSw
        (try dsimp only at hSw)
        obtain ⟨p0, p1, p2, p3, p4, p5, p6⟩ := (XH.later hSw).seven
        first | (go_simp; done) | (go_simp; with_reducible rfl)
      try simp only [Act.put, List.setIfInBounds_toArray, List.set_cons_zero, List.set_cons_succ]
      refine wpAnyH_take (i := 5) (oi := { dst := some 51, op := _, type := _, pos := _, after := _, guard := _ }) (v := ?_) rfl (by kernel_rfl) (by kernel_rfl) (by kernel_rfl) (fun _ _ _ h => h) (Or.inl ⟨by rfl, ?_⟩) hH ?_
      rotate_left
      · intro wz hSw
        (try dsimp only at hSw)
        first | (go_simp; done) | (go_simp; with_reducible rfl)
      try simp only [Act.put, List.setIfInBounds_toArray, List.set_cons_zero, List.set_cons_succ]
      refine wpAnyH_take (i := 6) (oi := { dst := some 52, op := _, type := _, pos := _, after := _, guard := _ }) (v := .agg #[.int .i64 ha, .int .i64 hb_, .int .i64 hc, .int .i64 hd, .int .i64 he, .int .i64 hf_, .int .i64 hg]) rfl (by kernel_rfl) (by kernel_rfl) (by kernel_rfl) (fun _ _ _ h => h) (Or.inl ⟨by rfl, ?_⟩) hH ?_
      · intro wz hSw
        (try dsimp only at hSw)
        have z0 := (hSw.cell (p := ⟨b, o, none⟩) hbb).trans v0
        have z1 := (hSw.cell (p := ⟨b, o + 1, none⟩) hbb).trans v1
        have z2 := (hSw.cell (p := ⟨b, o + 2, none⟩) hbb).trans v2
        have z3 := (hSw.cell (p := ⟨b, o + 3, none⟩) hbb).trans v3
        have z4 := (hSw.cell (p := ⟨b, o + 4, none⟩) hbb).trans v4
        have z5 := (hSw.cell (p := ⟨b, o + 5, none⟩) hbb).trans v5
        have z6 := (hSw.cell (p := ⟨b, o + 6, none⟩) hbb).trans v6
        first | (go_simp; done) | (go_simp; with_reducible rfl)
      try simp only [Act.put, List.setIfInBounds_toArray, List.set_cons_zero, List.set_cons_succ]
      refine wpAnyH_take (i := 8) (oi := { dst := some 54, op := _, type := _, pos := _, after := _, guard := _ }) (v := .bool false) rfl (by kernel_rfl) (by kernel_rfl) (by kernel_rfl) (fun _ _ _ h => h) (Or.inl ⟨by rfl, ?_⟩) hH ?_
      · intro wz hSw
        (try dsimp only at hSw)
        first | (go_simp; done) | (go_simp; with_reducible rfl)
      try simp only [Act.put, List.setIfInBounds_toArray, List.set_cons_zero, List.set_cons_succ]
      refine wpAnyH_take (i := 9) (oi := { dst := some 55, op := _, type := _, pos := _, after := _, guard := _ }) (v := .bool false) rfl (by kernel_rfl) (by kernel_rfl) (by kernel_rfl) (fun _ _ _ h => h) (Or.inl ⟨by rfl, ?_⟩) hH ?_
      · intro wz hSw
        (try dsimp only at hSw)
        first | (go_simp; done) | (go_simp; with_reducible rfl)
      try simp only [Act.put, List.setIfInBounds_toArray, List.set_cons_zero, List.set_cons_succ]
      refine wpAnyH_done (by kernel_rfl) ?_ _
      refine NoPanic.normal ?_
      replace RT := RT.later hH
      replace V := V.later hH
      replace X := X.later hH
      replace XH := XH.later hH
      replace XG := XG.later hH
      replace S1 := S1.later hH
      replace t0 := (hH.cell (p := ⟨w.heap.size, 0, none⟩) hBT).trans t0
      replace t1 := (hH.cell (p := ⟨w.heap.size, 1, none⟩) hBT).trans t1
      replace t2 := (hH.cell (p := ⟨w.heap.size, 2, none⟩) hBT).trans t2
      replace hBT := Nat.lt_of_lt_of_le hBT hH.size
      replace hB := below_step hB hH
      clear v0 v1 v2 v3 v4 v5 v6 hbb
      obtain ⟨p0, p1, p2, p3, p4, p5, p6⟩ := XH.seven
      obtain ⟨q0, q1, q2, q3, q4, q5, q6⟩ := XG.seven
      have e1 := fun w => eq_fl13 w
      go_wp2_with fail
      go_ret
      exact ⟨rfl, hB⟩
    · rw [if_pos hwh] at hgo
      have HR0 : Hid (R[0]? = some ⟨ha, hb_, hc, hd, he, hf_, hg⟩) := (by show _ = _; rw [hgo]; rfl)
      have HRD : Hid (R.drop 1 = R2) := (by show _ = _; rw [hgo]; rfl)
      have HRL : Hid (R.length - 1 = R2.length) := (by show _ = _; rw [hgo]; rfl)
      have hR2 : 2 ≤ R.length := by
        rw [hgo]
        cases R2 with
        | nil => exact absurd rfl hne2
        | cons u v => simp only [List.length_cons]; omega
      have hRz : ¬ (R.length : Int) < 1 := by omega
      have hRp : 0 < R.length := by omega
      subst hwh
      clear hgo hne2
      go_enter Try.func7, Try.ntmps7
      go_wp2_with fail
      refine (pawake_any P _).mono ?_
      rintro e w1 ⟨rfl, hb⟩
      replace t0 := (hb.cell (p := ⟨w.heap.size, 0, none⟩) hBT).trans t0
      replace t1 := (hb.cell (p := ⟨w.heap.size, 1, none⟩) hBT).trans t1
      replace t2 := (hb.cell (p := ⟨w.heap.size, 2, none⟩) hBT).trans t2
      replace hBT := Nat.lt_of_lt_of_le hBT hb.size
      replace RT := RT.later hb
      replace V := V.later hb
      replace X := X.later hb
      replace hB := below_step hB hb
      clear hb
      obtain ⟨r0, r1, r2, r3, r4, r5, r6⟩ := X.seven
      go_wp2_with fail
      refine (cFa _ V).mono ?_
      rintro e w' ⟨rfl, hww⟩
      obtain rfl := hww.symm
      clear cFa
      go_wp2_with fail
      refine (cS _ RT V).mono ?_
      clear r0 r1 r2 r3 r4 r5 r6 cS
      rintro e w2 ⟨rfl, hb⟩
      replace t0 := (hb.cell (p := ⟨w.heap.size, 0, none⟩) hBT).trans t0
      replace t1 := (hb.cell (p := ⟨w.heap.size, 1, none⟩) hBT).trans t1
      replace t2 := (hb.cell (p := ⟨w.heap.size, 2, none⟩) hBT).trans t2
      replace hBT := Nat.lt_of_lt_of_le hBT hb.size
      replace RT := RT.later hb
      replace V := V.later hb
      replace X := X.later hb
      replace hB := below_step hB hb
      clear hb
      have XH : Lies (w2.alloc (.cells #[.int .i64 ha, .int .i64 hb_, .int .i64 hc, .int .i64 hd, .int .i64 he, .int .i64 0, .int .i64 hg] 34)) w2.heap.size [ha, hb_, hc, hd, he, 0, hg] := Lies.new w2 [ha, hb_, hc, hd, he, 0, hg] 34 rfl
      have XG : Lies ((w2.alloc (.cells #[.int .i64 ha, .int .i64 hb_, .int .i64 hc, .int .i64 hd, .int .i64 he, .int .i64 0, .int .i64 hg] 34)).alloc (.cells #[.int .i64 oa, .int .i64 ob, .int .i64 oc, .int .i64 od, .int .i64 oe, .int .i64 og, .int .i64 oh] 30)) (w2.heap.size + 1) [oa, ob, oc, od, oe, og, oh] := Lies.new (w2.alloc (.cells #[.int .i64 ha, .int .i64 hb_, .int .i64 hc, .int .i64 hd, .int .i64 he, .int .i64 0, .int .i64 hg] 34)) [oa, ob, oc, od, oe, og, oh] 30 (by simp)
      replace XH := XH.later (below_new (w2.alloc (.cells #[.int .i64 ha, .int .i64 hb_, .int .i64 hc, .int .i64 hd, .int .i64 he, .int .i64 0, .int .i64 hg] 34)) (.cells #[.int .i64 oa, .int .i64 ob, .int .i64 oc, .int .i64 od, .int .i64 oe, .int .i64 og, .int .i64 oh] 30))
      have hb := below_step (below_new w2 (.cells #[.int .i64 ha, .int .i64 hb_, .int .i64 hc, .int .i64 hd, .int .i64 he, .int .i64 0, .int .i64 hg] 34)) (below_new (w2.alloc (.cells #[.int .i64 ha, .int .i64 hb_, .int .i64 hc, .int .i64 hd, .int .i64 he, .int .i64 0, .int .i64 hg] 34)) (.cells #[.int .i64 oa, .int .i64 ob, .int .i64 oc, .int .i64 od, .int .i64 oe, .int .i64 og, .int .i64 oh] 30))
      replace t0 := (hb.cell (p := ⟨w.heap.size, 0, none⟩) hBT).trans t0
      replace t1 := (hb.cell (p := ⟨w.heap.size, 1, none⟩) hBT).trans t1
      replace t2 := (hb.cell (p := ⟨w.heap.size, 2, none⟩) hBT).trans t2
      replace hBT := Nat.lt_of_lt_of_le hBT hb.size
      replace RT := RT.later hb
      replace V := V.later hb
      replace X := X.later hb
      replace hB := below_step hB hb
      clear hb
      obtain ⟨r0, r1, r2, r3, r4, r5, r6⟩ := X.seven
      go_wp2_with fail
      clear r0 r1 r2 r3 r4 r5 r6
      generalize (w2.alloc (.cells #[.int .i64 ha, .int .i64 hb_, .int .i64 hc, .int .i64 hd, .int .i64 he, .int .i64 0, .int .i64 hg] 34)).alloc (.cells #[.int .i64 oa, .int .i64 ob, .int .i64 oc, .int .i64 od, .int .i64 oe, .int .i64 og, .int .i64 oh] 30) = u at t0 t1 t2 X XH XG RT V hB hBT ⊢
      generalize w2.heap.size = N1 at XH XG ⊢
      refine (cW _ RT V).mono ?_
      clear cW
      rintro e w3 ⟨v1, rfl, own, hb⟩
      obtain ⟨y, j, rfl, S1⟩ := rds_of_owns fH_len own rfl HW.out
      clear own
      replace t0 := (hb.cell (p := ⟨w.heap.size, 0, none⟩) hBT).trans t0
      replace t1 := (hb.cell (p := ⟨w.heap.size, 1, none⟩) hBT).trans t1
      replace t2 := (hb.cell (p := ⟨w.heap.size, 2, none⟩) hBT).trans t2
      replace hBT := Nat.lt_of_lt_of_le hBT hb.size
      replace RT := RT.later hb
      replace V := V.later hb
      replace X := X.later hb
      replace XH := XH.later hb
      replace XG := XG.later hb
      replace hB := below_step hB hb
      clear hb
      have S1 := S1
      obtain ⟨b, o, rfl, hbb, hc⟩ := S1.at HR0.out
      have v0 := hc 0 _ rfl
      have v1 := hc 1 _ rfl
      have v2 := hc 2 _ rfl
      have v3 := hc 3 _ rfl
      have v4 := hc 4 _ rfl
      have v5 := hc 5 _ rfl
      have v6 := hc 6 _ rfl
      simp only [Nat.zero_mul, Nat.add_zero] at v0 v1 v2 v3 v4 v5 v6
      have hjl := S1.le
      have hjm := S1.max
      unfold maxLen at hjm
      clear hc
      have n1 := fun w => ne_hp13 ha hb_ hc hd he 0 hg w
      go_wp2_with fail
      have S0 : Below w3.heap.size w3 w3.drew := (Below.refl _ _).drew
      refine wp_region_noPanic ?_
      refine wp_region_held_drew (S := fun w' => Below w3.heap.size w3 w') (by kernel_rfl) S0 (fun hH => ?_)
      clear S0
      generalize w3.drew = w3d at hH  ⊢
      refine wpAnyH_take (i := 0) (oi := { dst := some 46, op := _, type := _, pos := _, after := _, guard := _ }) (v := ?_) rfl (by kernel_rfl) (by kernel_rfl) (by kernel_rfl) (fun _ _ _ h => h) (Or.inl ⟨by rfl, ?_⟩) hH ?_
      rotate_left
      · intro wz hSw
        (try dsimp only at hSw)
        first | (go_simp; done) | (go_simp; with_reducible rfl)
      try simp only [Act.put, List.setIfInBounds_toArray, List.set_cons_zero, List.set_cons_succ]
      refine wpAnyH_take (i := 1) (oi := { dst := some 47, op := _, type := _, pos := _, after := _, guard := _ }) (v := .int .i64 (R.length : Int)) rfl (by kernel_rfl) (by kernel_rfl) (by kernel_rfl) (fun _ _ _ h => h) (Or.inl ⟨by rfl, ?_⟩) hH ?_
      · intro wz hSw
        (try dsimp only at hSw)
        first | (go_simp; done) | (go_simp; with_reducible rfl)
      try simp only [Act.put, List.setIfInBounds_toArray, List.set_cons_zero, List.set_cons_succ]
      refine wpAnyH_take (i := 2) (oi := { dst := some 48, op := _, type := _, pos := _, after := _, guard := _ }) (v := .bool false) rfl (by kernel_rfl) (by kernel_rfl) (by kernel_rfl) (fun _ _ _ h => h) (Or.inl ⟨by rfl, ?_⟩) hH ?_
      · intro wz hSw
        (try dsimp only at hSw)
        first | (go_simp; done) | (go_simp; with_reducible rfl)
      try simp only [Act.put, List.setIfInBounds_toArray, List.set_cons_zero, List.set_cons_succ]
      refine wpAnyH_take (i := 3) (oi := { dst := some 49, op := _, type := _, pos := _, after := _, guard := _ }) (v := .bool false) rfl (by kernel_rfl) (by kernel_rfl) (by kernel_rfl) (fun _ _ _ h => h) (Or.inl ⟨by rfl, ?_⟩) hH ?_
      · intro wz hSw
        (try dsimp only at hSw)
        first | (go_simp; done) | (go_simp; with_reducible rfl)
      try simp only [Act.put, List.setIfInBounds_toArray, List.set_cons_zero, List.set_cons_succ]
      refine wpAnyH_take (i := 4) (oi := { dst := some 50, op := _, type := _, pos := _, after := _, guard := _ }) (v := ?_) rfl (by kernel_rfl) (by kernel_rfl) (by kernel_rfl) (fun _ _ _ h => h) (Or.inl ⟨by rfl, ?_⟩) hH ?_
      rotate_left
      · intro wz hSw
        (try dsimp only at hSw)
        first | (go_simp; done) | (go_simp; with_reducible rfl)
      try simp only [Act.put, List.setIfInBounds_toArray, List.set_cons_zero, List.set_cons_succ]
      refine wpAnyH_take (i := 7) (oi := { dst := some 53, op := _, type := _, pos := _, after := _, guard := _ }) (v := .agg #[.int .i64 ha, .int .i64 hb_, .int .i64 hc, .int .i64 hd, .int .i64 he, .int .i64 0, .int .i64 hg]) rfl (by kernel_rfl) (by kernel_rfl) (by kernel_rfl) (fun _ _ _ h => h) (Or.inl ⟨by rfl, ?_⟩) hH ?_
      · intro wz hSw
        (try dsimp only at hSw)
        obtain ⟨p0, p1, p2, p3, p4, p5, p6⟩ := (XH.later hSw).seven
        first | (go_simp; done) | (go_simp; with_reducible rfl)
      try simp only [Act.put, List.setIfInBounds_toArray, List.set_cons_zero, List.set_cons_succ]
      refine wpAnyH_take (i := 5) (oi := { dst := some 51, op := _, type := _, pos := _, after := _, guard := _ }) (v := ?_) rfl (by kernel_rfl) (by kernel_rfl) (by kernel_rfl) (fun _ _ _ h => h) (Or.inl ⟨by rfl, ?_⟩) hH ?_
      rotate_left
      · intro wz hSw
        (try dsimp only at hSw)
        first | (go_simp; done) | (go_simp; with_reducible rfl)
      try simp only [Act.put, List.setIfInBounds_toArray, List.set_cons_zero, List.set_cons_succ]
      refine wpAnyH_take (i := 6) (oi := { dst := some 52, op := _, type := _, pos := _, after := _, guard := _ }) (v := .agg #[.int .i64 ha, .int .i64 hb_, .int .i64 hc, .int .i64 hd, .int .i64 he, .int .i64 0, .int .i64 hg]) rfl (by kernel_rfl) (by kernel_rfl) (by kernel_rfl) (fun _ _ _ h => h) (Or.inl ⟨by rfl, ?_⟩) hH ?_
      · intro wz hSw
        (try dsimp only at hSw)
        have z0 := (hSw.cell (p := ⟨b, o, none⟩) hbb).trans v0
        have z1 := (hSw.cell (p := ⟨b, o + 1, none⟩) hbb).trans v1
        have z2 := (hSw.cell (p := ⟨b, o + 2, none⟩) hbb).trans v2
        have z3 := (hSw.cell (p := ⟨b, o + 3, none⟩) hbb).trans v3
        have z4 := (hSw.cell (p := ⟨b, o + 4, none⟩) hbb).trans v4
        have z5 := (hSw.cell (p := ⟨b, o + 5, none⟩) hbb).trans v5
        have z6 := (hSw.cell (p := ⟨b, o + 6, none⟩) hbb).trans v6
        first | (go_simp; done) | (go_simp; with_reducible rfl)
      try simp only [Act.put, List.setIfInBounds_toArray, List.set_cons_zero, List.set_cons_succ]
      refine wpAnyH_take (i := 8) (oi := { dst := some 54, op := _, type := _, pos := _, after := _, guard := _ }) (v := .bool false) rfl (by kernel_rfl) (by kernel_rfl) (by kernel_rfl) (fun _ _ _ h => h) (Or.inl ⟨by rfl, ?_⟩) hH ?_
      · intro wz hSw
        (try dsimp only at hSw)
        first | (go_simp; done) | (go_simp; with_reducible rfl)
      try simp only [Act.put, List.setIfInBounds_toArray, List.set_cons_zero, List.set_cons_succ]
      refine wpAnyH_take (i := 9) (oi := { dst := some 55, op := _, type := _, pos := _, after := _, guard := _ }) (v := .bool false) rfl (by kernel_rfl) (by kernel_rfl) (by kernel_rfl) (fun _ _ _ h => h) (Or.inl ⟨by rfl, ?_⟩) hH ?_
      · intro wz hSw
        (try dsimp only at hSw)
        first | (go_simp; done) | (go_simp; with_reducible rfl)
      try simp only [Act.put, List.setIfInBounds_toArray, List.set_cons_zero, List.set_cons_succ]
      refine wpAnyH_done (by kernel_rfl) ?_ _
      refine NoPanic.normal ?_
      replace RT := RT.later hH
      replace V := V.later hH
      replace X := X.later hH
      replace XH := XH.later hH
      replace XG := XG.later hH
      replace S1 := S1.later hH
      replace t0 := (hH.cell (p := ⟨w.heap.size, 0, none⟩) hBT).trans t0
      replace t1 := (hH.cell (p := ⟨w.heap.size, 1, none⟩) hBT).trans t1
      replace t2 := (hH.cell (p := ⟨w.heap.size, 2, none⟩) hBT).trans t2
      replace hBT := Nat.lt_of_lt_of_le hBT hH.size
      replace hB := below_step hB hH
      clear v0 v1 v2 v3 v4 v5 v6 hbb
      obtain ⟨p0, p1, p2, p3, p4, p5, p6⟩ := XH.seven
      obtain ⟨q0, q1, q2, q3, q4, q5, q6⟩ := XG.seven
      go_wp2_with fail
      clear p0 p1 p2 p3 p4 p5 p6 q0 q1 q2 q3 q4 q5 q6 hH
      have SD := rds_drop13 S1 1 (by omega) (by omega)
      rw [HRD.out, Nat.one_mul] at SD
      have hj1 : ¬ j = 1 := by omega
      clear S1
      have cE : ∀ (u : World) {y2 : Option Addr} {j2 : Nat}, Rds fH 7 u (some ⟨b, o + 7, none⟩) (j - 1) R2 → Rds fH 7 u y2 j2 R2 → Calls Try.prog 14 #[.slice (some ⟨b, o + 7, none⟩) (R.length - 1) (j - 1), .slice y2 R2.length j2] u fun e w' => e = .returned (.bool true) ∧ Below u.heap.size u w' := by
        intro u y2 j2 h1 h2
        have h3 := rsame13_any u h1 h2
        rw [decide_eq_true rfl] at h3
        rw [HRL.out]
        exact h3
      have S0 : Below w3d.heap.size w3d w3d.drew := (Below.refl _ _).drew
      have RTD := RT.later S0
      have VD := V.later S0
      have SDD := SD.later S0
      clear RT
      clear V
      clear SD
      have RT := RTD
      have V := VD
      have SD := SDD
      clear RTD
      clear VD
      clear SDD
      refine wp_region_noPanic ?_
      refine wp_region_held_drew (S := fun w' => Below w3d.heap.size w3d w') (by kernel_rfl) S0 (fun hH => ?_)
      clear S0
      generalize w3d.drew = w3dd at hH RT V SD ⊢
      refine wpAnyH_take (i := 0) (oi := { dst := some 67, op := _, type := _, pos := _, after := _, guard := _ }) (v := ?_) rfl (by kernel_rfl) (by kernel_rfl) (by kernel_rfl) (fun _ _ _ h => h) (Or.inl ⟨by rfl, ?_⟩) hH ?_
      rotate_left
      · intro wz hSw
        (try dsimp only at hSw)
        first | (go_simp; done) | (go_simp; with_reducible rfl)
      try simp only [Act.put, List.setIfInBounds_toArray, List.set_cons_zero, List.set_cons_succ]
      refine wpAnyH_take (i := 2) (oi := { dst := some 69, op := _, type := _, pos := _, after := _, guard := _ }) (v := ?_) rfl (by kernel_rfl) (by kernel_rfl) (by kernel_rfl) (fun _ _ _ h => h) (Or.inl ⟨by rfl, ?_⟩) hH ?_
      rotate_left
      · intro wz hSw
        (try dsimp only at hSw)
        have z0 := (hSw.cell (p := ⟨w.heap.size, 0, none⟩) hBT).trans t0
        have z1 := (hSw.cell (p := ⟨w.heap.size, 1, none⟩) hBT).trans t1
        have z2 := (hSw.cell (p := ⟨w.heap.size, 2, none⟩) hBT).trans t2
        first | (go_simp; done) | (go_simp; with_reducible rfl)
      try simp only [Act.put, List.setIfInBounds_toArray, List.set_cons_zero, List.set_cons_succ]
      refine wpAnyH_take (i := 3) (oi := { dst := some 70, op := _, type := _, pos := _, after := _, guard := _ }) (v := ?_) rfl (by kernel_rfl) (by kernel_rfl) (by kernel_rfl) (fun _ _ _ h => h) (Or.inl ⟨by rfl, ?_⟩) hH ?_
      rotate_left
      · intro wz hSw
        (try dsimp only at hSw)
        first | (go_simp; done) | (go_simp; with_reducible rfl)
      try simp only [Act.put, List.setIfInBounds_toArray, List.set_cons_zero, List.set_cons_succ]
      refine wpAnyH_take (i := 4) (oi := { dst := some 71, op := _, type := _, pos := _, after := _, guard := _ }) (v := .agg #[.int .i64 oa, .int .i64 ob, .int .i64 oc, .int .i64 od, .int .i64 oe, .int .i64 og, .int .i64 oh]) rfl (by kernel_rfl) (by kernel_rfl) (by kernel_rfl) (fun _ _ _ h => h) (Or.inl ⟨by rfl, ?_⟩) hH ?_
      · intro wz hSw
        (try dsimp only at hSw)
        obtain ⟨q0, q1, q2, q3, q4, q5, q6⟩ := (XG.later hSw).seven
        first | (go_simp; done) | (go_simp; with_reducible rfl)
      try simp only [Act.put, List.setIfInBounds_toArray, List.set_cons_zero, List.set_cons_succ]
      refine wpAnyH_take (i := 1) (oi := { dst := some 68, op := _, type := _, pos := _, after := _, guard := _ }) (v := .slice (some ⟨b, o + 7, none⟩) (R.length - 1) (j - 1)) rfl (by kernel_rfl) (by kernel_rfl) (by kernel_rfl) (fun _ _ _ h => h) (Or.inl ⟨by rfl, ?_⟩) hH ?_
      · intro wz hSw
        (try dsimp only at hSw)
        first | (go_simp; done) | (go_simp; with_reducible rfl)
      try simp only [Act.put, List.setIfInBounds_toArray, List.set_cons_zero, List.set_cons_succ]
      refine wpAnyH_ready (rs := [5]) (by kernel_rfl) (by simp) ?_
      refine (AllReadyH.cons (o := { dst := some 72, op := _, type := _, pos := _, after := _, guard := _ }) rfl (fun K hK => ?_) AllReadyH.nil)
      go_simp
      refine (cG _ RT V).mono ?_
      rintro e w3d5x0 ⟨v2, rfl, own2, hb⟩
      obtain ⟨y2, j2, rfl, S2⟩ := rds_of_owns fH_len own2 rfl HW2.out
      clear own2
      have hn : Below w3d.heap.size w3d w3d5x0 := below_step hH hb
      replace RT := RT.later hb
      replace V := V.later hb
      replace SD := SD.later hb
      clear hb
      go_wp2_with fail
      refine hK.out _ _ hn (fun hH2 => ?_)
      clear hK K hH hn
      have hH := hH2
      clear hH2
      try simp only [Act.put, List.setIfInBounds_toArray, List.set_cons_zero, List.set_cons_succ]
      refine wpAnyH_ready (rs := [6]) (by kernel_rfl) (by simp) ?_
      refine (AllReadyH.cons (o := { dst := some 73, op := _, type := _, pos := _, after := _, guard := _ }) rfl (fun K hK => ?_) AllReadyH.nil)
      go_simp
      refine (cE _ SD S2).mono ?_
      rintro e w3d6x1 ⟨rfl, hb⟩
      have hn : Below w3d.heap.size w3d w3d6x1 := below_step hH hb
      replace RT := RT.later hb
      replace V := V.later hb
      replace SD := SD.later hb
      replace S2 := S2.later hb
      clear hb
      go_wp2_with fail
      refine hK.out _ _ hn (fun hH2 => ?_)
      clear hK K hH hn
      have hH := hH2
      clear hH2
      try simp only [Act.put, List.setIfInBounds_toArray, List.set_cons_zero, List.set_cons_succ]
      refine wpAnyH_take (i := 7) (oi := { dst := some 12, op := _, type := _, pos := _, after := _, guard := _ }) (v := ?_) rfl (by kernel_rfl) (by kernel_rfl) (by kernel_rfl) (fun _ _ _ h => h) (Or.inl ⟨by rfl, ?_⟩) hH ?_
      rotate_left
      · intro wz hSw
        (try dsimp only at hSw)
        first | (go_simp; done) | (go_simp; with_reducible rfl)
      try simp only [Act.put, List.setIfInBounds_toArray, List.set_cons_zero, List.set_cons_succ]
      refine wpAnyH_done (by kernel_rfl) ?_ _
      refine NoPanic.normal ?_
      have hB := below_step hB hH
      go_wp2_with fail
      go_ret
      exact ⟨ret_bool (by first | rfl | simp), hB⟩
end Go.Proofs.Ytihgpllbgliplaa
