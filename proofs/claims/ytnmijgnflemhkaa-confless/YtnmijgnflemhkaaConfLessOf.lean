/- The statement ConfLess, over whatever the code is (CCode). -/
import Derived.Test.YtnmijgnflemhkaaConfIf
import Derived.Test.YtnmijgnflemhkaaConfTurnedOf
namespace Go.Proofs.Ytnmijgnflemhkaa
open Go.ChangeShapes Go.WideShapes Go.ChangeAt Go.RowKit Pk Cf R
set_option linter.unusedVariables false
set_option linter.unusedSimpArgs false

/-- the copy of a configuration: a row of the call's own, whose lists are those that came in -/
theorem OwnC.copy {w w' : World} {a : Option Addr} {k B : Nat} {A : Cnf} {ps : List Sl} {v : Value} (h : All2 (RowAt none w) ps A) (own : w'.ownsRow B 32 1 v A.length (flatW fS ps)) (hb : Below w.heap.size w w') (hp : ∀ k, v.ownBlock = some k → w.heap.size ≤ k) : OwnC B w' v A :=
  ⟨ps, own, all2_imp h fun _ _ hv => hv.far hb hp⟩
theorem own_addr {w : World} {B e n sz : Nat} {v : Value} {xs : List Value} (h : w.ownsRow B e sz v n xs) (hn : 0 < n) : ∃ y k, v = .slice (some ⟨y, 0, none⟩) n k ∧ B ≤ y ∧ y < w.heap.size := by
  rcases h.2 with ⟨rfl, h0⟩ | ⟨g, cap, cur, rfl, hb, hg, _⟩
  · omega
  · exact ⟨g, cap, rfl, hb, (Array.getElem?_eq_some_iff.1 hg).1⟩
theorem rules_tail {n : Int} {l : List Rl} (h : rulesB n l = true) : rulesB n (l.drop 1) = true := rules_sub (List.drop_sublist 1 l) h
set_option maxRecDepth 100000 in
set_option maxHeartbeats 4000000 in
theorem confLess_of (C : CCode) (s n : Int) (x : Option Addr) (c : Nat) (lk : List Tp.Lk) (a : Option Addr) (k : Nat) (A : Cnf) (q : Int) (w : World) (RT : Rds Tp.fK 4 w x c lk) (V : Lists w a k A) :
    Calls Try.prog 5 #[.agg #[.int .i64 s, .int .i64 n, .slice x lk.length c], .slice a A.length k, .int .i64 q] w fun e w' => e = .returned (.bool true) ∧ Below w.heap.size w w' := by
  have hB := below_new w (.cells #[.int .i64 s, .int .i64 n, .slice x lk.length c] 24)
  obtain ⟨t0, t1, t2⟩ := box3 w (.int .i64 s) (.int .i64 n) (.slice x lk.length c) 24
  have hBT : w.heap.size < (w.alloc (.cells #[.int .i64 s, .int .i64 n, .slice x lk.length c] 24)).heap.size := by simp
  replace RT := RT.later hB
  replace V := V.later hB
  have hmx := Nat.le_trans V.le V.max
  unfold maxLen at hmx
  have cM := fun w (R : Rds Tp.fK 4 w x c lk) (V : Lists w a k A) => C.may s n w R V
  cases hm : mayC s n lk A with
  | false =>
    rw [hm] at cM
    clear hm
    go_enter Try.func5, Try.ntmps5
    go_wp2_with fail
    refine (cawake_any C _).mono ?_
    rintro e w1 ⟨rfl, hb⟩
    replace t0 := (hb.cell (p := ⟨w.heap.size, 0, none⟩) hBT).trans t0
    replace t1 := (hb.cell (p := ⟨w.heap.size, 1, none⟩) hBT).trans t1
    replace t2 := (hb.cell (p := ⟨w.heap.size, 2, none⟩) hBT).trans t2
    replace hBT := Nat.lt_of_lt_of_le hBT hb.size
    replace RT := RT.later hb
    replace V := V.later hb
    replace hB := below_step hB hb
    clear hb
    go_wp2_with fail
    refine (cM _ RT V).mono ?_
    rintro e w2 ⟨rfl, hb⟩
    replace t0 := (hb.cell (p := ⟨w.heap.size, 0, none⟩) hBT).trans t0
    replace t1 := (hb.cell (p := ⟨w.heap.size, 1, none⟩) hBT).trans t1
    replace t2 := (hb.cell (p := ⟨w.heap.size, 2, none⟩) hBT).trans t2
    replace hBT := Nat.lt_of_lt_of_le hBT hb.size
    replace RT := RT.later hb
    replace V := V.later hb
    replace hB := below_step hB hb
    clear hb
    go_wp2_with fail
    go_ret
    exact ⟨rfl, hB⟩
  | true =>
    rw [hm] at cM
    by_cases h0 : q < 0
    case pos =>
      clear hm
      go_enter Try.func5, Try.ntmps5
      go_wp2_with fail
      refine (cawake_any C _).mono ?_
      rintro e w1 ⟨rfl, hb⟩
      replace t0 := (hb.cell (p := ⟨w.heap.size, 0, none⟩) hBT).trans t0
      replace t1 := (hb.cell (p := ⟨w.heap.size, 1, none⟩) hBT).trans t1
      replace t2 := (hb.cell (p := ⟨w.heap.size, 2, none⟩) hBT).trans t2
      replace hBT := Nat.lt_of_lt_of_le hBT hb.size
      replace RT := RT.later hb
      replace V := V.later hb
      replace hB := below_step hB hb
      clear hb
      go_wp2_with fail
      refine (cM _ RT V).mono ?_
      rintro e w2 ⟨rfl, hb⟩
      replace t0 := (hb.cell (p := ⟨w.heap.size, 0, none⟩) hBT).trans t0
      replace t1 := (hb.cell (p := ⟨w.heap.size, 1, none⟩) hBT).trans t1
      replace t2 := (hb.cell (p := ⟨w.heap.size, 2, none⟩) hBT).trans t2
      replace hBT := Nat.lt_of_lt_of_le hBT hb.size
      replace RT := RT.later hb
      replace V := V.later hb
      replace hB := below_step hB hb
      clear hb
      go_wp2_with fail
      go_ret
      exact ⟨rfl, hB⟩
    by_cases h1 : (A.length : Int) ≤ q
    case pos =>
      clear hm
      go_enter Try.func5, Try.ntmps5
      go_wp2_with fail
      refine (cawake_any C _).mono ?_
      rintro e w1 ⟨rfl, hb⟩
      replace t0 := (hb.cell (p := ⟨w.heap.size, 0, none⟩) hBT).trans t0
      replace t1 := (hb.cell (p := ⟨w.heap.size, 1, none⟩) hBT).trans t1
      replace t2 := (hb.cell (p := ⟨w.heap.size, 2, none⟩) hBT).trans t2
      replace hBT := Nat.lt_of_lt_of_le hBT hb.size
      replace RT := RT.later hb
      replace V := V.later hb
      replace hB := below_step hB hb
      clear hb
      go_wp2_with fail
      refine (cM _ RT V).mono ?_
      rintro e w2 ⟨rfl, hb⟩
      replace t0 := (hb.cell (p := ⟨w.heap.size, 0, none⟩) hBT).trans t0
      replace t1 := (hb.cell (p := ⟨w.heap.size, 1, none⟩) hBT).trans t1
      replace t2 := (hb.cell (p := ⟨w.heap.size, 2, none⟩) hBT).trans t2
      replace hBT := Nat.lt_of_lt_of_le hBT hb.size
      replace RT := RT.later hb
      replace V := V.later hb
      replace hB := below_step hB hb
      clear hb
      go_wp2_with fail
      go_ret
      exact ⟨rfl, hB⟩
    obtain ⟨i, rfl⟩ : ∃ i : Nat, q = (i : Int) := ⟨q.toNat, by omega⟩
    have hi : i < A.length := by omega
    have hiz : (i : Int) < (A.length : Int) := by omega
    obtain ⟨l, hl⟩ := getC hi
    have hbd := (may_bd hm).1
    have hA6 := hbd.1
    have hl40 : l.length ≤ 40 := hbd.2 l (List.mem_of_getElem? hl)
    have HMd : Hid (mayC s n lk (A.set i (l.drop 1)) = true) := may_set hm (rules_tail (((may_iff s n lk A).1 hm).2.2 l (List.mem_of_getElem? hl)))
    have HBd : Hid (Bd 6 40 A) := hbd
    obtain ⟨b, o, xl, m1, rfl, hbb, c0, R⟩ := V.at hl
    by_cases hle : l.length = 0
    case pos =>
      have hz : ((l.length : Int) == 0) = true := by rw [beq_iff_eq]; omega
      have hz2 : (l.length : Int) = 0 := by omega
      clear hm hl R HMd HBd hbd hle hz
      go_enter Try.func5, Try.ntmps5
      go_wp2_with fail
      refine (cawake_any C _).mono ?_
      rintro e w1 ⟨rfl, hb⟩
      replace t0 := (hb.cell (p := ⟨w.heap.size, 0, none⟩) hBT).trans t0
      replace t1 := (hb.cell (p := ⟨w.heap.size, 1, none⟩) hBT).trans t1
      replace t2 := (hb.cell (p := ⟨w.heap.size, 2, none⟩) hBT).trans t2
      replace hBT := Nat.lt_of_lt_of_le hBT hb.size
      replace c0 := (hb.cell (p := ⟨b, o + i, none⟩) hbb).trans c0
      replace hbb := Nat.lt_of_lt_of_le hbb hb.size
      replace RT := RT.later hb
      replace V := V.later hb
      replace hB := below_step hB hb
      clear hb
      go_wp2_with fail
      refine (cM _ RT V).mono ?_
      rintro e w2 ⟨rfl, hb⟩
      replace t0 := (hb.cell (p := ⟨w.heap.size, 0, none⟩) hBT).trans t0
      replace t1 := (hb.cell (p := ⟨w.heap.size, 1, none⟩) hBT).trans t1
      replace t2 := (hb.cell (p := ⟨w.heap.size, 2, none⟩) hBT).trans t2
      replace hBT := Nat.lt_of_lt_of_le hBT hb.size
      replace c0 := (hb.cell (p := ⟨b, o + i, none⟩) hbb).trans c0
      replace hbb := Nat.lt_of_lt_of_le hbb hb.size
      replace RT := RT.later hb
      replace V := V.later hb
      replace hB := below_step hB hb
      clear hb
      go_wp2_with fail
      go_ret
      exact ⟨rfl, hB⟩
    have hz : ((l.length : Int) == 0) = false := by rw [beq_eq_false_iff_ne]; omega
    have hzn : ¬ (l.length : Int) = 0 := by omega
    have hle1 : 1 ≤ l.length := by omega
    have hl0 : 0 < l.length := by omega
    have hlz : (0 : Int) < (l.length : Int) := by omega
    have hlz1 : (1 : Int) ≤ (l.length : Int) := by omega
    obtain ⟨r, hr⟩ := getC hl0
    have hwr := R.wf r (List.mem_of_getElem? hr)
    have hwa : ∀ y ∈ l ++ [r], ∀ z ∈ fR y, (Lit.int .i64 z).wf = true := by
      intro y hy
      rcases List.mem_append.1 hy with hy | hy
      · exact R.wf y hy
      · rw [List.mem_singleton.1 hy]; exact hwr
    have HMe : Hid (mayC s n lk (A.set i (l ++ [r])) = false) := may_set_no hi (rules_twice n l (List.mem_of_getElem? hr))
    have HSd : Hid (sameC A (A.set i (l.drop 1)) = false) := same_set hl (by
      cases l with
      | nil => simp at hl0
      | cons y l2 => exact sort_tail_ne y l2)
    have HAd : Hid (atC (A.set i (l.drop 1)) (i : Int) = l.drop 1) := at_set hi
    obtain ⟨x0, rfl⟩ : ∃ x0, xl = some x0 := by
      obtain ⟨b1, o1, e, _⟩ := R.at hr
      exact ⟨_, e⟩
    have hlc := R.le
    have h1c : 1 ≤ m1 := by omega
    have hm1 := R.max
    unfold maxLen at hm1
    clear hm hbd hle hl
    go_enter Try.func5, Try.ntmps5
    go_wp2_with fail
    refine (cawake_any C _).mono ?_
    rintro e w1 ⟨rfl, hb⟩
    replace t0 := (hb.cell (p := ⟨w.heap.size, 0, none⟩) hBT).trans t0
    replace t1 := (hb.cell (p := ⟨w.heap.size, 1, none⟩) hBT).trans t1
    replace t2 := (hb.cell (p := ⟨w.heap.size, 2, none⟩) hBT).trans t2
    replace hBT := Nat.lt_of_lt_of_le hBT hb.size
    replace c0 := (hb.cell (p := ⟨b, o + i, none⟩) hbb).trans c0
    replace hbb := Nat.lt_of_lt_of_le hbb hb.size
    replace RT := RT.later hb
    replace V := V.later hb
    replace R := R.later hb
    replace hB := below_step hB hb
    clear hb
    go_wp2_with fail
    refine (cM _ RT V).mono ?_
    clear cM
    rintro e w2 ⟨rfl, hb⟩
    replace t0 := (hb.cell (p := ⟨w.heap.size, 0, none⟩) hBT).trans t0
    replace t1 := (hb.cell (p := ⟨w.heap.size, 1, none⟩) hBT).trans t1
    replace t2 := (hb.cell (p := ⟨w.heap.size, 2, none⟩) hBT).trans t2
    replace hBT := Nat.lt_of_lt_of_le hBT hb.size
    replace c0 := (hb.cell (p := ⟨b, o + i, none⟩) hbb).trans c0
    replace hbb := Nat.lt_of_lt_of_le hbb hb.size
    replace RT := RT.later hb
    replace V := V.later hb
    replace R := R.later hb
    replace hB := below_step hB hb
    clear hb
    obtain ⟨ps, RP, hall⟩ := V
    have hpl : ps.length = A.length := all2_len hall
    have hsz2 : w2.heap.size ≤ w2.heap.size := Nat.le_refl _
    go_wp2_with (at_builtin; refine wpRdv_join fS_len fS_one (by decide) rfl _ _ 26 rfl w2.heap.size 32 24 _ Try.underlying26 infoS12 rfl (v := .slice none 0 0) (n := 0) (ys := []) rfl (World.ownsRow_nil _ _ _ _) rfl RP hpl (by omega) (by decide) (Nat.le_refl _) ?_; intro v9 w9 own9 hg9 hp9; apply Classical.byContradiction; intro hstop)
    simp only [Nat.zero_add, List.nil_append] at own9
    have hb9 := below_fresh (B := w2.heap.size) hg9 (Nat.le_refl _)
    have hp9b : ∀ k, v9.ownBlock = some k → w2.heap.size ≤ k := fun k hk => (hp9 k hk).resolve_left (fun e => by cases e)
    obtain ⟨yd, kd, rfl, hyd, hyd2⟩ := own_addr own9 (Nat.zero_lt_of_lt hi)
    have OD := OwnC.copy (a := none) (k := 0) hall own9 hb9 hp9b
    obtain ⟨⟨ud, cd⟩, fd⟩ := OD.cell rfl hi
    have V : Lists w2 (some ⟨b, o, none⟩) k A := ⟨ps, RP, hall⟩
    clear hp9 hp9b hg9 own9 hall RP
    have s0 := (hb9.cell (p := ⟨b, o + i, none⟩) hbb).trans c0
    have hkd : A.length ≤ kd := by obtain ⟨ad2, cd2, e2, VD2, -⟩ := OD.rows; cases e2; exact VD2.le
    apply hstop
    clear hstop
    go_wp2_with (at_builtin; apply Classical.byContradiction; intro hstop)
    have RD := rds_drop3c R 1 hle1
    simp only [Nat.one_mul] at RD
    obtain ⟨a9, ha9⟩ : ∃ a9, a9 = (if m1 = 1 then some x0 else some (x0.add 6)) := ⟨_, rfl⟩
    rw [← ha9] at RD
    rw [show x0.add 6 = ({ block := x0.block, off := x0.off + 6 } : Addr) by simp [Addr.add]] at ha9
    apply hstop
    clear hstop
    rw [← ha9]
    clear ha9
    have hyu : ∀ k, some yd = some k → w2.heap.size ≤ k := fun k e => by cases e; exact hyd
    have hqr : RowAt none w2 ⟨a9, l.length - 1, m1 - 1⟩ (l.drop 1) := ⟨List.length_drop.symm, RD, fun _ _ _ e => by cases e⟩
    have O6 := OD.set (q := ⟨a9, l.length - 1, m1 - 1⟩) (r := l.drop 1) rfl (hqr.far hb9 hyu) hi
    have hb6 : Below w2.heap.size w2 (w9.setCell ⟨yd, i, none⟩ (.slice a9 (l.length - 1) (m1 - 1))) := hb9.setCell (p := ⟨yd, i, none⟩) hyd _
    dsimp only at O6
    generalize w9.setCell ⟨yd, i, none⟩ (.slice a9 (l.length - 1) (m1 - 1)) = w6 at O6 hb6 ⊢
    obtain ⟨ad, cdd, e6, D6, -⟩ := O6.rows
    simp only [Value.slice.injEq] at e6
    obtain ⟨rfl, -, rfl⟩ := e6
    clear OD O6 RD hqr hyu cd fd s0 hb9
    replace t0 := (hb6.cell (p := ⟨w.heap.size, 0, none⟩) hBT).trans t0
    replace t1 := (hb6.cell (p := ⟨w.heap.size, 1, none⟩) hBT).trans t1
    replace t2 := (hb6.cell (p := ⟨w.heap.size, 2, none⟩) hBT).trans t2
    replace hBT := Nat.lt_of_lt_of_le hBT hb6.size
    replace c0 := (hb6.cell (p := ⟨b, o + i, none⟩) hbb).trans c0
    replace hbb := Nat.lt_of_lt_of_le hbb hb6.size
    replace RT := RT.later hb6
    replace V := V.later hb6
    replace R := R.later hb6
    replace hB := below_step hB hb6
    clear hb6 hyd hyd2
    obtain ⟨ps6, RP, hall⟩ := V
    have hpl : ps6.length = A.length := all2_len hall
    refine wpRdv_join fS_len fS_one (by decide) rfl (.const (.slice none 0 0)) (.tmp 48) 26 rfl w6.heap.size 32 24 _ Try.underlying26 infoS12 rfl (v := .slice none 0 0) (n := 0) (ys := []) rfl (World.ownsRow_nil _ _ _ _) rfl RP hpl (by omega) (by decide) (Nat.le_refl _) ?_
    intro v10 w10 own10 hg10 hp10
    simp only [Nat.zero_add, List.nil_append] at own10
    have hb10 := below_fresh (B := w6.heap.size) hg10 (Nat.le_refl _)
    have hp10b : ∀ k, v10.ownBlock = some k → w6.heap.size ≤ k := fun k hk => (hp10 k hk).resolve_left (fun e => by cases e)
    obtain ⟨ye, ke, rfl, hye, hye2⟩ := own_addr own10 (Nat.zero_lt_of_lt hi)
    have OE := OwnC.copy (a := none) (k := 0) hall own10 hb10 hp10b
    have V : Lists w6 (some ⟨b, o, none⟩) k A := ⟨ps6, RP, hall⟩
    have hke : A.length ≤ ke := by obtain ⟨ad2, cd2, e2, VD2, -⟩ := OE.rows; cases e2; exact VD2.le
    clear hp10 hp10b hg10 own10 hall RP hpl
    have HR : Hid (l[0]? = some r) := hr
    obtain ⟨b1, o1, rfl, hb1, hc⟩ : ∃ b1 o1, x0 = ⟨b1, o1, none⟩ ∧ b1 < w6.heap.size ∧ ∀ j y, (fR r)[j]? = some y → w6.cell? ⟨b1, o1 + 0 * 6 + j, none⟩ = some (.int .i64 y) := by
      obtain ⟨b1, o1, e, h1, h2⟩ := R.at HR.out
      exact ⟨b1, o1, Option.some.inj e, h1, h2⟩
    obtain ⟨ra, rn, ri, rp, rk, rt⟩ := r
    have v0 := hc 0 _ rfl
    have v1 := hc 1 _ rfl
    have v2 := hc 2 _ rfl
    have v3 := hc 3 _ rfl
    have v4 := hc 4 _ rfl
    have v5 := hc 5 _ rfl
    simp only [Nat.zero_mul, Nat.add_zero] at v0 v1 v2 v3 v4 v5
    clear hc HR hr
    have hle := hl0
    go_wp2_with fail
    have S0 : Below w6.heap.size w6 w10.drew := hb10.drew
    have hX : Below w10.heap.size w10 w10.drew := (Below.refl _ _).drew
    refine wp_region_noPanic ?_
    refine wp_region_held_drew (S := fun w' => Below w6.heap.size w6 w') (by kernel_rfl) S0 (fun hH => ?_)
    clear S0
    generalize w10.drew = Wd at hH hX ⊢
    refine wpAnyH_take (i := 0) (oi := { dst := some 50, op := _, type := _, pos := _, after := _, guard := _ }) (v := ?_) rfl (by kernel_rfl) (by kernel_rfl) (by kernel_rfl) (fun _ _ _ h => h) (Or.inl ⟨by rfl, ?_⟩) hH ?_
    rotate_left
    · intro wz hSw
      (try dsimp only at hSw)
      first | (go_simp; done) | (go_simp; with_reducible rfl)
    try simp only [Act.put, List.setIfInBounds_toArray, List.set_cons_zero, List.set_cons_succ]
    refine wpAnyH_take (i := 1) (oi := { dst := some 51, op := _, type := _, pos := _, after := _, guard := _ }) (v := ?_) rfl (by kernel_rfl) (by kernel_rfl) (by kernel_rfl) (fun _ _ _ h => h) (Or.inl ⟨by rfl, ?_⟩) hH ?_
    rotate_left
    · intro wz hSw
      (try dsimp only at hSw)
      first | (go_simp; done) | (go_simp; with_reducible rfl)
    try simp only [Act.put, List.setIfInBounds_toArray, List.set_cons_zero, List.set_cons_succ]
    refine wpAnyH_take (i := 2) (oi := { dst := some 52, op := _, type := _, pos := _, after := _, guard := _ }) (v := ?_) rfl (by kernel_rfl) (by kernel_rfl) (by kernel_rfl) (fun _ _ _ h => h) (Or.inl ⟨by rfl, ?_⟩) hH ?_
    rotate_left
    · intro wz hSw
      (try dsimp only at hSw)
      first | (go_simp; done) | (go_simp; with_reducible rfl)
    try simp only [Act.put, List.setIfInBounds_toArray, List.set_cons_zero, List.set_cons_succ]
    refine wpAnyH_take (i := 3) (oi := { dst := some 53, op := _, type := _, pos := _, after := _, guard := _ }) (v := ?_) rfl (by kernel_rfl) (by kernel_rfl) (by kernel_rfl) (fun _ _ _ h => h) (Or.inl ⟨by rfl, ?_⟩) hH ?_
    rotate_left
    · intro wz hSw
      (try dsimp only at hSw)
      first | (go_simp; done) | (go_simp; with_reducible rfl)
    try simp only [Act.put, List.setIfInBounds_toArray, List.set_cons_zero, List.set_cons_succ]
    refine wpAnyH_take (i := 4) (oi := { dst := some 54, op := _, type := _, pos := _, after := _, guard := _ }) (v := ?_) rfl (by kernel_rfl) (by kernel_rfl) (by kernel_rfl) (fun _ _ _ h => h) (Or.inl ⟨by rfl, ?_⟩) hH ?_
    rotate_left
    · intro wz hSw
      (try dsimp only at hSw)
      first | (go_simp; done) | (go_simp; with_reducible rfl)
    try simp only [Act.put, List.setIfInBounds_toArray, List.set_cons_zero, List.set_cons_succ]
    refine wpAnyH_take (i := 5) (oi := { dst := some 55, op := _, type := _, pos := _, after := _, guard := _ }) (v := ?_) rfl (by kernel_rfl) (by kernel_rfl) (by kernel_rfl) (fun _ _ _ h => h) (Or.inl ⟨by rfl, ?_⟩) hH ?_
    rotate_left
    · intro wz hSw
      (try dsimp only at hSw)
      have z0 := (hSw.cell (p := ⟨b, o + i, none⟩) hbb).trans c0
      first | (go_simp; done) | (go_simp; with_reducible rfl)
    try simp only [Act.put, List.setIfInBounds_toArray, List.set_cons_zero, List.set_cons_succ]
    refine wpAnyH_take (i := 7) (oi := { dst := some 57, op := _, type := _, pos := _, after := _, guard := _ }) (v := ?_) rfl (by kernel_rfl) (by kernel_rfl) (by kernel_rfl) (fun _ _ _ h => h) (Or.inl ⟨by rfl, ?_⟩) hH ?_
    rotate_left
    · intro wz hSw
      (try dsimp only at hSw)
      first | (go_simp; done) | (go_simp; with_reducible rfl)
    try simp only [Act.put, List.setIfInBounds_toArray, List.set_cons_zero, List.set_cons_succ]
    refine wpAnyH_take (i := 8) (oi := { dst := some 58, op := _, type := _, pos := _, after := _, guard := _ }) (v := ?_) rfl (by kernel_rfl) (by kernel_rfl) (by kernel_rfl) (fun _ _ _ h => h) (Or.inl ⟨by rfl, ?_⟩) hH ?_
    rotate_left
    · intro wz hSw
      (try dsimp only at hSw)
      first | (go_simp; done) | (go_simp; with_reducible rfl)
    try simp only [Act.put, List.setIfInBounds_toArray, List.set_cons_zero, List.set_cons_succ]
    refine wpAnyH_take (i := 9) (oi := { dst := some 59, op := _, type := _, pos := _, after := _, guard := _ }) (v := ?_) rfl (by kernel_rfl) (by kernel_rfl) (by kernel_rfl) (fun _ _ _ h => h) (Or.inl ⟨by rfl, ?_⟩) hH ?_
    rotate_left
    · intro wz hSw
      (try dsimp only at hSw)
      first | (go_simp; done) | (go_simp; with_reducible rfl)
    try simp only [Act.put, List.setIfInBounds_toArray, List.set_cons_zero, List.set_cons_succ]
    refine wpAnyH_take (i := 10) (oi := { dst := some 60, op := _, type := _, pos := _, after := _, guard := _ }) (v := ?_) rfl (by kernel_rfl) (by kernel_rfl) (by kernel_rfl) (fun _ _ _ h => h) (Or.inl ⟨by rfl, ?_⟩) hH ?_
    rotate_left
    · intro wz hSw
      (try dsimp only at hSw)
      have z0 := (hSw.cell (p := ⟨b, o + i, none⟩) hbb).trans c0
      first | (go_simp; done) | (go_simp; with_reducible rfl)
    try simp only [Act.put, List.setIfInBounds_toArray, List.set_cons_zero, List.set_cons_succ]
    refine wpAnyH_take (i := 11) (oi := { dst := some 61, op := _, type := _, pos := _, after := _, guard := _ }) (v := ?_) rfl (by kernel_rfl) (by kernel_rfl) (by kernel_rfl) (fun _ _ _ h => h) (Or.inl ⟨by rfl, ?_⟩) hH ?_
    rotate_left
    · intro wz hSw
      (try dsimp only at hSw)
      first | (go_simp; done) | (go_simp; with_reducible rfl)
    try simp only [Act.put, List.setIfInBounds_toArray, List.set_cons_zero, List.set_cons_succ]
    refine wpAnyH_take (i := 12) (oi := { dst := some 62, op := _, type := _, pos := _, after := _, guard := _ }) (v := ?_) rfl (by kernel_rfl) (by kernel_rfl) (by kernel_rfl) (fun _ _ _ h => h) (Or.inl ⟨by rfl, ?_⟩) hH ?_
    rotate_left
    · intro wz hSw
      (try dsimp only at hSw)
      have z0 := (hSw.cell (p := ⟨b1, o1, none⟩) hb1).trans v0
      have z1 := (hSw.cell (p := ⟨b1, o1 + 1, none⟩) hb1).trans v1
      have z2 := (hSw.cell (p := ⟨b1, o1 + 2, none⟩) hb1).trans v2
      have z3 := (hSw.cell (p := ⟨b1, o1 + 3, none⟩) hb1).trans v3
      have z4 := (hSw.cell (p := ⟨b1, o1 + 4, none⟩) hb1).trans v4
      have z5 := (hSw.cell (p := ⟨b1, o1 + 5, none⟩) hb1).trans v5
      first | (go_simp; done) | (go_simp; with_reducible rfl)
    try simp only [Act.put, List.setIfInBounds_toArray, List.set_cons_zero, List.set_cons_succ]
    refine wpAnyH_ready (rs := [6, 13]) (by kernel_rfl) (by simp) ?_
    refine (AllReadyH.cons (o := { dst := some 56, op := _, type := _, pos := _, after := _, guard := _ }) rfl (fun K hK => ?_) (AllReadyH.cons (o := { dst := some 63, op := _, type := _, pos := _, after := _, guard := _ }) rfl (fun K hK => ?_) AllReadyH.nil))
    · have hsz := hX.size
      refine stepRds_join fR_len (by decide) (by rfl) (.const (.slice none 0 0)) (.tmp 55) 32 (by rfl) w10.heap.size 42 48 _ Try.underlying32 infoR12 rfl (v := .slice none 0 0) (n := 0) (ys := []) (by rfl) (World.ownsRow_nil _ _ _ _) (by rfl) (R.later hH) rfl (by omega) (by decide) hsz ?_
      intro vV6 V6 ownV6 hgV6
      simp only [Nat.zero_add, List.nil_append] at ownV6
      have hb := below_fresh (B := Wd.heap.size) hgV6 (Nat.le_refl _)
      have hn := below_step hH hb
      clear hgV6 hsz
      replace hX := below_step hX hb
      clear hb
      refine hK.out _ _ hn (fun hH2 => ?_)
      clear hK K hH hn
      have hH := hH2
      clear hH2
      try simp only [Act.put, List.setIfInBounds_toArray, List.set_cons_zero, List.set_cons_succ]
      refine wpAnyH_ready (rs := [13]) (by kernel_rfl) (by simp) ?_
      refine (AllReadyH.cons (o := { dst := some 63, op := _, type := _, pos := _, after := _, guard := _ }) rfl (fun K hK => ?_) AllReadyH.nil)
      go_simp
      have hb := below_new V6 (.cells #[.int .i64 ra, .int .i64 rn, .int .i64 ri, .int .i64 rp, .int .i64 rk, .int .i64 rt] 42)
      have hn := below_step hH hb
      have RB : Rds fR 6 (V6.alloc (.cells #[.int .i64 ra, .int .i64 rn, .int .i64 ri, .int .i64 rp, .int .i64 rk, .int .i64 rt] 42)) (some ⟨V6.heap.size, 0, none⟩) 1 [⟨ra, rn, ri, rp, rk, rt⟩] := rds_new fR_len V6 ⟨ra, rn, ri, rp, rk, rt⟩ 42 hwr rfl
      replace ownV6 := own_laterR ownV6 hb
      replace hX := below_step hX hb
      clear hb
      generalize V6.alloc (.cells #[.int .i64 ra, .int .i64 rn, .int .i64 ri, .int .i64 rp, .int .i64 rk, .int .i64 rt] 42) = V13 at hn RB ownV6 hX ⊢
      refine hK.out _ _ hn (fun hH2 => ?_)
      clear hK K hH hn
      have hH := hH2
      clear hH2
      try simp only [Act.put, List.setIfInBounds_toArray, List.set_cons_zero, List.set_cons_succ]
      refine wpAnyH_ready (rs := [14]) (by kernel_rfl) (by simp) ?_
      refine (AllReadyH.cons (o := { dst := some 64, op := _, type := _, pos := _, after := _, guard := _ }) rfl (fun K hK => ?_) AllReadyH.nil)
      have hsz := hX.size
      refine stepRds_join fR_len (by decide) (by rfl) (.tmp 56) (.tmp 63) 32 (by rfl) w10.heap.size 42 48 _ Try.underlying32 infoR12 rfl (by rfl) ownV6 (m := 1) (by rfl) RB rfl (by omega) (by decide) hsz ?_
      intro vV14 V14 ownV14 hgV14
      have hX2 := below_growR hX ownV6 hgV14 hsz
      have hn := below_step hb10 hX2
      clear hgV14 hsz
      replace hX := hX2
      clear hX2
      refine hK.out _ _ hn (fun hH2 => ?_)
      clear hK K hH hn
      have hH := hH2
      clear hH2
      try simp only [Act.put, List.setIfInBounds_toArray, List.set_cons_zero, List.set_cons_succ]
      refine wpAnyH_take (i := 15) (oi := { dst := some 65, op := _, type := _, pos := _, after := _, guard := _ }) (v := ?_) rfl (by kernel_rfl) (by kernel_rfl) (by kernel_rfl) (fun _ _ _ h => h) (Or.inl ⟨by rfl, ?_⟩) hH ?_
      rotate_left
      · intro wz hSw
        (try dsimp only at hSw)
        first | (go_simp; done) | (go_simp; with_reducible rfl)
      try simp only [Act.put, List.setIfInBounds_toArray, List.set_cons_zero, List.set_cons_succ]
      refine wpAnyH_ready (rs := [16]) (by kernel_rfl) (by simp) ?_
      refine (AllReadyH.cons (o := { dst := none, op := _, type := _, pos := _, after := _, guard := _ }) rfl (fun K hK => ?_) AllReadyH.nil)
      obtain ⟨a8, k8, rfl, R8, hx8⟩ := rds_of_owns2 fR_len ownV14 (by simp) hwa
      have OE2 := OE.later hX
      obtain ⟨⟨ue, ce⟩, fe⟩ := OE2.cell rfl hi
      go_simp
      have hn : Below w6.heap.size w6 (V14.setCell ⟨ye, i, none⟩ (.slice a8 (l.length + 1) k8)) := (below_step hb10 hX).setCell (p := ⟨ye, i, none⟩) hye _
      have OE3 := OE2.set (q := ⟨a8, l.length + 1, k8⟩) (r := l ++ [⟨ra, rn, ri, rp, rk, rt⟩]) rfl ⟨by simp, R8, fun y hy _ e => by have h1 := (hx8 y hy).1; have e2 := Option.some.inj e; omega⟩ hi
      dsimp only at OE3
      clear OE2 ce fe R8 hx8 ownV14 hX
      generalize V14.setCell ⟨ye, i, none⟩ (.slice a8 (l.length + 1) k8) = V16 at hn OE3 ⊢
      refine hK.out _ _ hn (fun hH2 => ?_)
      clear hK K hH hn
      have hH := hH2
      clear hH2
      try simp only [Act.put, List.setIfInBounds_toArray, List.set_cons_zero, List.set_cons_succ]
      refine wpAnyH_done (by kernel_rfl) ?_ _
      refine NoPanic.normal ?_
      obtain ⟨ae, ce3, e7, E, -⟩ := OE3.rows
      simp only [Value.slice.injEq] at e7
      obtain ⟨rfl, -, rfl⟩ := e7
      clear OE3 OE v0 v1 v2 v3 v4 v5 hb1 hb10 hwr hwa
      replace t0 := (hH.cell (p := ⟨w.heap.size, 0, none⟩) hBT).trans t0
      replace t1 := (hH.cell (p := ⟨w.heap.size, 1, none⟩) hBT).trans t1
      replace t2 := (hH.cell (p := ⟨w.heap.size, 2, none⟩) hBT).trans t2
      replace hBT := Nat.lt_of_lt_of_le hBT hH.size
      replace c0 := (hH.cell (p := ⟨b, o + i, none⟩) hbb).trans c0
      replace hbb := Nat.lt_of_lt_of_le hbb hH.size
      replace RT := RT.later hH
      replace V := V.later hH
      replace R := R.later hH
      replace D6 := D6.later hH
      replace hB := below_step hB hH
      clear hH
      have bD := set_bd (i := i) (m := l.drop 1) HBd.out (by rw [List.length_drop]; omega)
      have hlD : (A.set i (l.drop 1)).length = A.length := List.length_set
      have hlE : (A.set i (l ++ [⟨ra, rn, ri, rp, rk, rt⟩])).length = A.length := List.length_set
      have HTL : Hid (((l.drop 1).length : Int) = (l.length : Int) - 1) := by show _ = _; rw [List.length_drop]; omega
      have cMd := fun w (R : Rds Tp.fK 4 w x c lk) (D : Lists w (some ⟨yd, 0, none⟩) kd (A.set i (l.drop 1))) => C.may s n w R D
      rw [HMd.out] at cMd
      have cMe := fun w (R : Rds Tp.fK 4 w x c lk) (E : Lists w (some ⟨ye, 0, none⟩) ke (A.set i (l ++ [⟨ra, rn, ri, rp, rk, rt⟩]))) => C.may s n w R E
      rw [HMe.out] at cMe
      have cS := fun w (V : Lists w (some ⟨b, o, none⟩) k A) (D : Lists w (some ⟨yd, 0, none⟩) kd (A.set i (l.drop 1))) => C.same w V D (fun l hl => Nat.le_trans (HBd.out.2 l hl) (by decide)) (fun l hl => Nat.le_trans (bD.2 l hl) (by decide))
      rw [HSd.out] at cS
      have cA := fun w (D : Lists w (some ⟨yd, 0, none⟩) kd (A.set i (l.drop 1))) => C.at' w D (fun l hl => Nat.le_trans (bD.2 l hl) (by decide)) (i : Int)
      rw [HAd.out] at cA
      clear bD HMd HMe HSd HAd HBd
      rw [hlD] at cMd cS cA
      rw [hlE] at cMe
      clear hlD hlE
      generalize A.set i (l.drop 1) = AD at D6 cMd cS cA
      generalize A.set i (l ++ [⟨ra, rn, ri, rp, rk, rt⟩]) = AE at E cMe
      generalize l.drop 1 = tl at cA HTL
      go_wp2_with fail
      have S0 : Below V16.heap.size V16 V16.drew := (Below.refl _ _).drew
      have RTD := RT.later S0
      have VD := V.later S0
      have D6D := D6.later S0
      have ED := E.later S0
      clear RT
      clear V
      clear D6
      clear E
      have RT := RTD
      have V := VD
      have D6 := D6D
      have E := ED
      clear RTD
      clear VD
      clear D6D
      clear ED
      refine wp_region_noPanic ?_
      refine wp_region_held_drew (S := fun w' => Below V16.heap.size V16 w') (by kernel_rfl) S0 (fun hH => ?_)
      clear S0
      generalize V16.drew = V16d at hH RT V D6 E ⊢
      refine wpAnyH_take (i := 0) (oi := { dst := some 66, op := _, type := _, pos := _, after := _, guard := _ }) (v := ?_) rfl (by kernel_rfl) (by kernel_rfl) (by kernel_rfl) (fun _ _ _ h => h) (Or.inl ⟨by rfl, ?_⟩) hH ?_
      rotate_left
      · intro wz hSw
        (try dsimp only at hSw)
        have z0 := (hSw.cell (p := ⟨w.heap.size, 0, none⟩) hBT).trans t0
        have z1 := (hSw.cell (p := ⟨w.heap.size, 1, none⟩) hBT).trans t1
        have z2 := (hSw.cell (p := ⟨w.heap.size, 2, none⟩) hBT).trans t2
        first | (go_simp; done) | (go_simp; with_reducible rfl)
      try simp only [Act.put, List.setIfInBounds_toArray, List.set_cons_zero, List.set_cons_succ]
      refine wpAnyH_take (i := 1) (oi := { dst := some 67, op := _, type := _, pos := _, after := _, guard := _ }) (v := ?_) rfl (by kernel_rfl) (by kernel_rfl) (by kernel_rfl) (fun _ _ _ h => h) (Or.inl ⟨by rfl, ?_⟩) hH ?_
      rotate_left
      · intro wz hSw
        (try dsimp only at hSw)
        first | (go_simp; done) | (go_simp; with_reducible rfl)
      try simp only [Act.put, List.setIfInBounds_toArray, List.set_cons_zero, List.set_cons_succ]
      refine wpAnyH_ready (rs := [2]) (by kernel_rfl) (by simp) ?_
      refine (AllReadyH.cons (o := { dst := some 68, op := _, type := _, pos := _, after := _, guard := _ }) rfl (fun K hK => ?_) AllReadyH.nil)
      go_simp
      refine (cMd _ RT D6).mono ?_
      rintro e V162x0 ⟨rfl, hb⟩
      have hn : Below V16.heap.size V16 V162x0 := below_step hH hb
      replace RT := RT.later hb
      replace V := V.later hb
      replace D6 := D6.later hb
      replace E := E.later hb
      clear hb
      go_wp2_with fail
      refine hK.out _ _ hn (fun hH2 => ?_)
      clear hK K hH hn
      have hH := hH2
      clear hH2
      try simp only [Act.put, List.setIfInBounds_toArray, List.set_cons_zero, List.set_cons_succ]
      refine wpAnyH_take (i := 3) (oi := { dst := some 69, op := _, type := _, pos := _, after := _, guard := _ }) (v := ?_) rfl (by kernel_rfl) (by kernel_rfl) (by kernel_rfl) (fun _ _ _ h => h) (Or.inl ⟨by rfl, ?_⟩) hH ?_
      rotate_left
      · intro wz hSw
        (try dsimp only at hSw)
        first | (go_simp; done) | (go_simp; with_reducible rfl)
      try simp only [Act.put, List.setIfInBounds_toArray, List.set_cons_zero, List.set_cons_succ]
      refine wpAnyH_take (i := 4) (oi := { dst := some 70, op := _, type := _, pos := _, after := _, guard := _ }) (v := ?_) rfl (by kernel_rfl) (by kernel_rfl) (by kernel_rfl) (fun _ _ _ h => h) (Or.inl ⟨by rfl, ?_⟩) hH ?_
      rotate_left
      · intro wz hSw
        (try dsimp only at hSw)
        first | (go_simp; done) | (go_simp; with_reducible rfl)
      try simp only [Act.put, List.setIfInBounds_toArray, List.set_cons_zero, List.set_cons_succ]
      refine wpAnyH_take (i := 5) (oi := { dst := some 71, op := _, type := _, pos := _, after := _, guard := _ }) (v := ?_) rfl (by kernel_rfl) (by kernel_rfl) (by kernel_rfl) (fun _ _ _ h => h) (Or.inl ⟨by rfl, ?_⟩) hH ?_
      rotate_left
      · intro wz hSw
        (try dsimp only at hSw)
        first | (go_simp; done) | (go_simp; with_reducible rfl)
      try simp only [Act.put, List.setIfInBounds_toArray, List.set_cons_zero, List.set_cons_succ]
      refine wpAnyH_ready (rs := [6]) (by kernel_rfl) (by simp) ?_
      refine (AllReadyH.cons (o := { dst := some 72, op := _, type := _, pos := _, after := _, guard := _ }) rfl (fun K hK => ?_) AllReadyH.nil)
      go_simp
      refine (cS _ V D6).mono ?_
      rintro e V166x1 ⟨rfl, hb⟩
      have hn : Below V16.heap.size V16 V166x1 := below_step hH hb
      replace RT := RT.later hb
      replace V := V.later hb
      replace D6 := D6.later hb
      replace E := E.later hb
      clear hb
      go_wp2_with fail
      refine hK.out _ _ hn (fun hH2 => ?_)
      clear hK K hH hn
      have hH := hH2
      clear hH2
      try simp only [Act.put, List.setIfInBounds_toArray, List.set_cons_zero, List.set_cons_succ]
      refine wpAnyH_take (i := 7) (oi := { dst := some 73, op := _, type := _, pos := _, after := _, guard := _ }) (v := ?_) rfl (by kernel_rfl) (by kernel_rfl) (by kernel_rfl) (fun _ _ _ h => h) (Or.inl ⟨by rfl, ?_⟩) hH ?_
      rotate_left
      · intro wz hSw
        (try dsimp only at hSw)
        first | (go_simp; done) | (go_simp; with_reducible rfl)
      try simp only [Act.put, List.setIfInBounds_toArray, List.set_cons_zero, List.set_cons_succ]
      refine wpAnyH_take (i := 8) (oi := { dst := some 74, op := _, type := _, pos := _, after := _, guard := _ }) (v := ?_) rfl (by kernel_rfl) (by kernel_rfl) (by kernel_rfl) (fun _ _ _ h => h) (Or.inl ⟨by rfl, ?_⟩) hH ?_
      rotate_left
      · intro wz hSw
        (try dsimp only at hSw)
        first | (go_simp; done) | (go_simp; with_reducible rfl)
      try simp only [Act.put, List.setIfInBounds_toArray, List.set_cons_zero, List.set_cons_succ]
      refine wpAnyH_take (i := 9) (oi := { dst := some 75, op := _, type := _, pos := _, after := _, guard := _ }) (v := ?_) rfl (by kernel_rfl) (by kernel_rfl) (by kernel_rfl) (fun _ _ _ h => h) (Or.inl ⟨by rfl, ?_⟩) hH ?_
      rotate_left
      · intro wz hSw
        (try dsimp only at hSw)
        first | (go_simp; done) | (go_simp; with_reducible rfl)
      try simp only [Act.put, List.setIfInBounds_toArray, List.set_cons_zero, List.set_cons_succ]
      refine wpAnyH_take (i := 10) (oi := { dst := some 76, op := _, type := _, pos := _, after := _, guard := _ }) (v := ?_) rfl (by kernel_rfl) (by kernel_rfl) (by kernel_rfl) (fun _ _ _ h => h) (Or.inl ⟨by rfl, ?_⟩) hH ?_
      rotate_left
      · intro wz hSw
        (try dsimp only at hSw)
        have z0 := (hSw.cell (p := ⟨w.heap.size, 0, none⟩) hBT).trans t0
        have z1 := (hSw.cell (p := ⟨w.heap.size, 1, none⟩) hBT).trans t1
        have z2 := (hSw.cell (p := ⟨w.heap.size, 2, none⟩) hBT).trans t2
        first | (go_simp; done) | (go_simp; with_reducible rfl)
      try simp only [Act.put, List.setIfInBounds_toArray, List.set_cons_zero, List.set_cons_succ]
      refine wpAnyH_take (i := 11) (oi := { dst := some 77, op := _, type := _, pos := _, after := _, guard := _ }) (v := ?_) rfl (by kernel_rfl) (by kernel_rfl) (by kernel_rfl) (fun _ _ _ h => h) (Or.inl ⟨by rfl, ?_⟩) hH ?_
      rotate_left
      · intro wz hSw
        (try dsimp only at hSw)
        first | (go_simp; done) | (go_simp; with_reducible rfl)
      try simp only [Act.put, List.setIfInBounds_toArray, List.set_cons_zero, List.set_cons_succ]
      refine wpAnyH_ready (rs := [12]) (by kernel_rfl) (by simp) ?_
      refine (AllReadyH.cons (o := { dst := some 78, op := _, type := _, pos := _, after := _, guard := _ }) rfl (fun K hK => ?_) AllReadyH.nil)
      go_simp
      refine (cMe _ RT E).mono ?_
      rintro e V1612x2 ⟨rfl, hb⟩
      have hn : Below V16.heap.size V16 V1612x2 := below_step hH hb
      replace RT := RT.later hb
      replace V := V.later hb
      replace D6 := D6.later hb
      replace E := E.later hb
      clear hb
      go_wp2_with fail
      refine hK.out _ _ hn (fun hH2 => ?_)
      clear hK K hH hn
      have hH := hH2
      clear hH2
      try simp only [Act.put, List.setIfInBounds_toArray, List.set_cons_zero, List.set_cons_succ]
      refine wpAnyH_take (i := 13) (oi := { dst := some 79, op := _, type := _, pos := _, after := _, guard := _ }) (v := ?_) rfl (by kernel_rfl) (by kernel_rfl) (by kernel_rfl) (fun _ _ _ h => h) (Or.inl ⟨by rfl, ?_⟩) hH ?_
      rotate_left
      · intro wz hSw
        (try dsimp only at hSw)
        first | (go_simp; done) | (go_simp; with_reducible rfl)
      try simp only [Act.put, List.setIfInBounds_toArray, List.set_cons_zero, List.set_cons_succ]
      refine wpAnyH_take (i := 14) (oi := { dst := some 80, op := _, type := _, pos := _, after := _, guard := _ }) (v := ?_) rfl (by kernel_rfl) (by kernel_rfl) (by kernel_rfl) (fun _ _ _ h => h) (Or.inl ⟨by rfl, ?_⟩) hH ?_
      rotate_left
      · intro wz hSw
        (try dsimp only at hSw)
        first | (go_simp; done) | (go_simp; with_reducible rfl)
      try simp only [Act.put, List.setIfInBounds_toArray, List.set_cons_zero, List.set_cons_succ]
      refine wpAnyH_take (i := 15) (oi := { dst := some 81, op := _, type := _, pos := _, after := _, guard := _ }) (v := ?_) rfl (by kernel_rfl) (by kernel_rfl) (by kernel_rfl) (fun _ _ _ h => h) (Or.inl ⟨by rfl, ?_⟩) hH ?_
      rotate_left
      · intro wz hSw
        (try dsimp only at hSw)
        first | (go_simp; done) | (go_simp; with_reducible rfl)
      try simp only [Act.put, List.setIfInBounds_toArray, List.set_cons_zero, List.set_cons_succ]
      refine wpAnyH_take (i := 16) (oi := { dst := some 82, op := _, type := _, pos := _, after := _, guard := _ }) (v := ?_) rfl (by kernel_rfl) (by kernel_rfl) (by kernel_rfl) (fun _ _ _ h => h) (Or.inl ⟨by rfl, ?_⟩) hH ?_
      rotate_left
      · intro wz hSw
        (try dsimp only at hSw)
        first | (go_simp; done) | (go_simp; with_reducible rfl)
      try simp only [Act.put, List.setIfInBounds_toArray, List.set_cons_zero, List.set_cons_succ]
      refine wpAnyH_take (i := 17) (oi := { dst := some 83, op := _, type := _, pos := _, after := _, guard := _ }) (v := ?_) rfl (by kernel_rfl) (by kernel_rfl) (by kernel_rfl) (fun _ _ _ h => h) (Or.inl ⟨by rfl, ?_⟩) hH ?_
      rotate_left
      · intro wz hSw
        (try dsimp only at hSw)
        first | (go_simp; done) | (go_simp; with_reducible rfl)
      try simp only [Act.put, List.setIfInBounds_toArray, List.set_cons_zero, List.set_cons_succ]
      refine wpAnyH_take (i := 20) (oi := { dst := some 86, op := _, type := _, pos := _, after := _, guard := _ }) (v := ?_) rfl (by kernel_rfl) (by kernel_rfl) (by kernel_rfl) (fun _ _ _ h => h) (Or.inl ⟨by rfl, ?_⟩) hH ?_
      rotate_left
      · intro wz hSw
        (try dsimp only at hSw)
        first | (go_simp; done) | (go_simp; with_reducible rfl)
      try simp only [Act.put, List.setIfInBounds_toArray, List.set_cons_zero, List.set_cons_succ]
      refine wpAnyH_take (i := 21) (oi := { dst := some 87, op := _, type := _, pos := _, after := _, guard := _ }) (v := ?_) rfl (by kernel_rfl) (by kernel_rfl) (by kernel_rfl) (fun _ _ _ h => h) (Or.inl ⟨by rfl, ?_⟩) hH ?_
      rotate_left
      · intro wz hSw
        (try dsimp only at hSw)
        first | (go_simp; done) | (go_simp; with_reducible rfl)
      try simp only [Act.put, List.setIfInBounds_toArray, List.set_cons_zero, List.set_cons_succ]
      refine wpAnyH_take (i := 22) (oi := { dst := some 88, op := _, type := _, pos := _, after := _, guard := _ }) (v := ?_) rfl (by kernel_rfl) (by kernel_rfl) (by kernel_rfl) (fun _ _ _ h => h) (Or.inl ⟨by rfl, ?_⟩) hH ?_
      rotate_left
      · intro wz hSw
        (try dsimp only at hSw)
        first | (go_simp; done) | (go_simp; with_reducible rfl)
      try simp only [Act.put, List.setIfInBounds_toArray, List.set_cons_zero, List.set_cons_succ]
      refine wpAnyH_take (i := 23) (oi := { dst := some 89, op := _, type := _, pos := _, after := _, guard := _ }) (v := ?_) rfl (by kernel_rfl) (by kernel_rfl) (by kernel_rfl) (fun _ _ _ h => h) (Or.inl ⟨by rfl, ?_⟩) hH ?_
      rotate_left
      · intro wz hSw
        (try dsimp only at hSw)
        have z0 := (hSw.cell (p := ⟨b, o + i, none⟩) hbb).trans c0
        first | (go_simp; done) | (go_simp; with_reducible rfl)
      try simp only [Act.put, List.setIfInBounds_toArray, List.set_cons_zero, List.set_cons_succ]
      refine wpAnyH_take (i := 24) (oi := { dst := some 90, op := _, type := _, pos := _, after := _, guard := _ }) (v := ?_) rfl (by kernel_rfl) (by kernel_rfl) (by kernel_rfl) (fun _ _ _ h => h) (Or.inl ⟨by rfl, ?_⟩) hH ?_
      rotate_left
      · intro wz hSw
        (try dsimp only at hSw)
        first | (go_simp; done) | (go_simp; with_reducible rfl)
      try simp only [Act.put, List.setIfInBounds_toArray, List.set_cons_zero, List.set_cons_succ]
      refine wpAnyH_take (i := 25) (oi := { dst := some 91, op := _, type := _, pos := _, after := _, guard := _ }) (v := ?_) rfl (by kernel_rfl) (by kernel_rfl) (by kernel_rfl) (fun _ _ _ h => h) (Or.inl ⟨by rfl, ?_⟩) hH ?_
      rotate_left
      · intro wz hSw
        (try dsimp only at hSw)
        first | (go_simp; done) | (go_simp; with_reducible rfl)
      try simp only [Act.put, List.setIfInBounds_toArray, List.set_cons_zero, List.set_cons_succ]
      refine wpAnyH_ready (rs := [18]) (by kernel_rfl) (by simp) ?_
      refine (AllReadyH.cons (o := { dst := some 84, op := _, type := _, pos := _, after := _, guard := _ }) rfl (fun K hK => ?_) AllReadyH.nil)
      go_simp
      refine (cA _ D6).mono ?_
      rintro e V1618x3 ⟨y, j, rfl, R1, -, hb⟩
      clear R1
      have hn : Below V16.heap.size V16 V1618x3 := below_step hH hb
      replace RT := RT.later hb
      replace V := V.later hb
      replace D6 := D6.later hb
      replace E := E.later hb
      clear hb
      go_wp2_with fail
      refine hK.out _ _ hn (fun hH2 => ?_)
      clear hK K hH hn
      have hH := hH2
      clear hH2
      try simp only [Act.put, List.setIfInBounds_toArray, List.set_cons_zero, List.set_cons_succ]
      refine wpAnyH_take (i := 19) (oi := { dst := some 85, op := _, type := _, pos := _, after := _, guard := _ }) (v := ?_) rfl (by kernel_rfl) (by kernel_rfl) (by kernel_rfl) (fun _ _ _ h => h) (Or.inl ⟨by rfl, ?_⟩) hH ?_
      rotate_left
      · intro wz hSw
        (try dsimp only at hSw)
        first | (go_simp; done) | (go_simp; with_reducible rfl)
      try simp only [Act.put, List.setIfInBounds_toArray, List.set_cons_zero, List.set_cons_succ]
      refine wpAnyH_take (i := 26) (oi := { dst := some 92, op := _, type := _, pos := _, after := _, guard := _ }) (v := ?_) rfl (by kernel_rfl) (by kernel_rfl) (by kernel_rfl) (fun _ _ _ h => h) (Or.inl ⟨by rfl, ?_⟩) hH ?_
      rotate_left
      · intro wz hSw
        (try dsimp only at hSw)
        have e1 := HTL.out
        have e2 : IntKind.i64.wrap ((l.length : Int) - 1) = (l.length : Int) - 1 := by rw [IntKind.wrap_i64]; omega
        first | (go_simp; done) | (go_simp; with_reducible rfl)
      try simp only [Act.put, List.setIfInBounds_toArray, List.set_cons_zero, List.set_cons_succ]
      refine wpAnyH_take (i := 27) (oi := { dst := some 93, op := _, type := _, pos := _, after := _, guard := _ }) (v := ?_) rfl (by kernel_rfl) (by kernel_rfl) (by kernel_rfl) (fun _ _ _ h => h) (Or.inl ⟨by rfl, ?_⟩) hH ?_
      rotate_left
      · intro wz hSw
        (try dsimp only at hSw)
        first | (go_simp; done) | (go_simp; with_reducible rfl)
      try simp only [Act.put, List.setIfInBounds_toArray, List.set_cons_zero, List.set_cons_succ]
      refine wpAnyH_take (i := 28) (oi := { dst := some 6, op := _, type := _, pos := _, after := _, guard := _ }) (v := ?_) rfl (by kernel_rfl) (by kernel_rfl) (by kernel_rfl) (fun _ _ _ h => h) (Or.inl ⟨by rfl, ?_⟩) hH ?_
      rotate_left
      · intro wz hSw
        (try dsimp only at hSw)
        first | (go_simp; done) | (go_simp; with_reducible rfl)
      try simp only [Act.put, List.setIfInBounds_toArray, List.set_cons_zero, List.set_cons_succ]
      refine wpAnyH_done (by kernel_rfl) ?_ _
      refine NoPanic.normal ?_
      replace hB := below_step hB hH
      go_wp2_with fail
      go_ret
      exact ⟨by simp, hB⟩
    · go_simp
      have hb := below_new Wd (.cells #[.int .i64 ra, .int .i64 rn, .int .i64 ri, .int .i64 rp, .int .i64 rk, .int .i64 rt] 42)
      have hn := below_step hH hb
      have RB : Rds fR 6 (Wd.alloc (.cells #[.int .i64 ra, .int .i64 rn, .int .i64 ri, .int .i64 rp, .int .i64 rk, .int .i64 rt] 42)) (some ⟨Wd.heap.size, 0, none⟩) 1 [⟨ra, rn, ri, rp, rk, rt⟩] := rds_new fR_len Wd ⟨ra, rn, ri, rp, rk, rt⟩ 42 hwr rfl
      replace hX := below_step hX hb
      clear hb
      generalize Wd.alloc (.cells #[.int .i64 ra, .int .i64 rn, .int .i64 ri, .int .i64 rp, .int .i64 rk, .int .i64 rt] 42) = V13 at hn RB hX ⊢
      refine hK.out _ _ hn (fun hH2 => ?_)
      clear hK K hH hn
      have hH := hH2
      clear hH2
      try simp only [Act.put, List.setIfInBounds_toArray, List.set_cons_zero, List.set_cons_succ]
      refine wpAnyH_ready (rs := [6]) (by kernel_rfl) (by simp) ?_
      refine (AllReadyH.cons (o := { dst := some 56, op := _, type := _, pos := _, after := _, guard := _ }) rfl (fun K hK => ?_) AllReadyH.nil)
      have hsz := hX.size
      refine stepRds_join fR_len (by decide) (by rfl) (.const (.slice none 0 0)) (.tmp 55) 32 (by rfl) w10.heap.size 42 48 _ Try.underlying32 infoR12 rfl (v := .slice none 0 0) (n := 0) (ys := []) (by rfl) (World.ownsRow_nil _ _ _ _) (by rfl) (R.later hH) rfl (by omega) (by decide) hsz ?_
      intro vV6 V6 ownV6 hgV6
      simp only [Nat.zero_add, List.nil_append] at ownV6
      have hb := below_fresh (B := V13.heap.size) hgV6 (Nat.le_refl _)
      have hn := below_step hH hb
      clear hgV6 hsz
      replace RB := RB.later hb
      replace hX := below_step hX hb
      clear hb
      refine hK.out _ _ hn (fun hH2 => ?_)
      clear hK K hH hn
      have hH := hH2
      clear hH2
      try simp only [Act.put, List.setIfInBounds_toArray, List.set_cons_zero, List.set_cons_succ]
      refine wpAnyH_ready (rs := [14]) (by kernel_rfl) (by simp) ?_
      refine (AllReadyH.cons (o := { dst := some 64, op := _, type := _, pos := _, after := _, guard := _ }) rfl (fun K hK => ?_) AllReadyH.nil)
      have hsz := hX.size
      refine stepRds_join fR_len (by decide) (by rfl) (.tmp 56) (.tmp 63) 32 (by rfl) w10.heap.size 42 48 _ Try.underlying32 infoR12 rfl (by rfl) ownV6 (m := 1) (by rfl) RB rfl (by omega) (by decide) hsz ?_
      intro vV14 V14 ownV14 hgV14
      have hX2 := below_growR hX ownV6 hgV14 hsz
      have hn := below_step hb10 hX2
      clear hgV14 hsz
      replace hX := hX2
      clear hX2
      refine hK.out _ _ hn (fun hH2 => ?_)
      clear hK K hH hn
      have hH := hH2
      clear hH2
      try simp only [Act.put, List.setIfInBounds_toArray, List.set_cons_zero, List.set_cons_succ]
      refine wpAnyH_take (i := 15) (oi := { dst := some 65, op := _, type := _, pos := _, after := _, guard := _ }) (v := ?_) rfl (by kernel_rfl) (by kernel_rfl) (by kernel_rfl) (fun _ _ _ h => h) (Or.inl ⟨by rfl, ?_⟩) hH ?_
      rotate_left
      · intro wz hSw
        (try dsimp only at hSw)
        first | (go_simp; done) | (go_simp; with_reducible rfl)
      try simp only [Act.put, List.setIfInBounds_toArray, List.set_cons_zero, List.set_cons_succ]
      refine wpAnyH_ready (rs := [16]) (by kernel_rfl) (by simp) ?_
      refine (AllReadyH.cons (o := { dst := none, op := _, type := _, pos := _, after := _, guard := _ }) rfl (fun K hK => ?_) AllReadyH.nil)
      obtain ⟨a8, k8, rfl, R8, hx8⟩ := rds_of_owns2 fR_len ownV14 (by simp) hwa
      have OE2 := OE.later hX
      obtain ⟨⟨ue, ce⟩, fe⟩ := OE2.cell rfl hi
      go_simp
      have hn : Below w6.heap.size w6 (V14.setCell ⟨ye, i, none⟩ (.slice a8 (l.length + 1) k8)) := (below_step hb10 hX).setCell (p := ⟨ye, i, none⟩) hye _
      have OE3 := OE2.set (q := ⟨a8, l.length + 1, k8⟩) (r := l ++ [⟨ra, rn, ri, rp, rk, rt⟩]) rfl ⟨by simp, R8, fun y hy _ e => by have h1 := (hx8 y hy).1; have e2 := Option.some.inj e; omega⟩ hi
      dsimp only at OE3
      clear OE2 ce fe R8 hx8 ownV14 hX
      generalize V14.setCell ⟨ye, i, none⟩ (.slice a8 (l.length + 1) k8) = V16 at hn OE3 ⊢
      refine hK.out _ _ hn (fun hH2 => ?_)
      clear hK K hH hn
      have hH := hH2
      clear hH2
      try simp only [Act.put, List.setIfInBounds_toArray, List.set_cons_zero, List.set_cons_succ]
      refine wpAnyH_done (by kernel_rfl) ?_ _
      refine NoPanic.normal ?_
      obtain ⟨ae, ce3, e7, E, -⟩ := OE3.rows
      simp only [Value.slice.injEq] at e7
      obtain ⟨rfl, -, rfl⟩ := e7
      clear OE3 OE v0 v1 v2 v3 v4 v5 hb1 hb10 hwr hwa
      replace t0 := (hH.cell (p := ⟨w.heap.size, 0, none⟩) hBT).trans t0
      replace t1 := (hH.cell (p := ⟨w.heap.size, 1, none⟩) hBT).trans t1
      replace t2 := (hH.cell (p := ⟨w.heap.size, 2, none⟩) hBT).trans t2
      replace hBT := Nat.lt_of_lt_of_le hBT hH.size
      replace c0 := (hH.cell (p := ⟨b, o + i, none⟩) hbb).trans c0
      replace hbb := Nat.lt_of_lt_of_le hbb hH.size
      replace RT := RT.later hH
      replace V := V.later hH
      replace R := R.later hH
      replace D6 := D6.later hH
      replace hB := below_step hB hH
      clear hH
      have bD := set_bd (i := i) (m := l.drop 1) HBd.out (by rw [List.length_drop]; omega)
      have hlD : (A.set i (l.drop 1)).length = A.length := List.length_set
      have hlE : (A.set i (l ++ [⟨ra, rn, ri, rp, rk, rt⟩])).length = A.length := List.length_set
      have HTL : Hid (((l.drop 1).length : Int) = (l.length : Int) - 1) := by show _ = _; rw [List.length_drop]; omega
      have cMd := fun w (R : Rds Tp.fK 4 w x c lk) (D : Lists w (some ⟨yd, 0, none⟩) kd (A.set i (l.drop 1))) => C.may s n w R D
      rw [HMd.out] at cMd
      have cMe := fun w (R : Rds Tp.fK 4 w x c lk) (E : Lists w (some ⟨ye, 0, none⟩) ke (A.set i (l ++ [⟨ra, rn, ri, rp, rk, rt⟩]))) => C.may s n w R E
      rw [HMe.out] at cMe
      have cS := fun w (V : Lists w (some ⟨b, o, none⟩) k A) (D : Lists w (some ⟨yd, 0, none⟩) kd (A.set i (l.drop 1))) => C.same w V D (fun l hl => Nat.le_trans (HBd.out.2 l hl) (by decide)) (fun l hl => Nat.le_trans (bD.2 l hl) (by decide))
      rw [HSd.out] at cS
      have cA := fun w (D : Lists w (some ⟨yd, 0, none⟩) kd (A.set i (l.drop 1))) => C.at' w D (fun l hl => Nat.le_trans (bD.2 l hl) (by decide)) (i : Int)
      rw [HAd.out] at cA
      clear bD HMd HMe HSd HAd HBd
      rw [hlD] at cMd cS cA
      rw [hlE] at cMe
      clear hlD hlE
      generalize A.set i (l.drop 1) = AD at D6 cMd cS cA
      generalize A.set i (l ++ [⟨ra, rn, ri, rp, rk, rt⟩]) = AE at E cMe
      generalize l.drop 1 = tl at cA HTL
      go_wp2_with fail
      have S0 : Below V16.heap.size V16 V16.drew := (Below.refl _ _).drew
      have RTD := RT.later S0
      have VD := V.later S0
      have D6D := D6.later S0
      have ED := E.later S0
      clear RT
      clear V
      clear D6
      clear E
      have RT := RTD
      have V := VD
      have D6 := D6D
      have E := ED
      clear RTD
      clear VD
      clear D6D
      clear ED
      refine wp_region_noPanic ?_
      refine wp_region_held_drew (S := fun w' => Below V16.heap.size V16 w') (by kernel_rfl) S0 (fun hH => ?_)
      clear S0
      generalize V16.drew = V16d at hH RT V D6 E ⊢
      refine wpAnyH_take (i := 0) (oi := { dst := some 66, op := _, type := _, pos := _, after := _, guard := _ }) (v := ?_) rfl (by kernel_rfl) (by kernel_rfl) (by kernel_rfl) (fun _ _ _ h => h) (Or.inl ⟨by rfl, ?_⟩) hH ?_
      rotate_left
      · intro wz hSw
        (try dsimp only at hSw)
        have z0 := (hSw.cell (p := ⟨w.heap.size, 0, none⟩) hBT).trans t0
        have z1 := (hSw.cell (p := ⟨w.heap.size, 1, none⟩) hBT).trans t1
        have z2 := (hSw.cell (p := ⟨w.heap.size, 2, none⟩) hBT).trans t2
        first | (go_simp; done) | (go_simp; with_reducible rfl)
      try simp only [Act.put, List.setIfInBounds_toArray, List.set_cons_zero, List.set_cons_succ]
      refine wpAnyH_take (i := 1) (oi := { dst := some 67, op := _, type := _, pos := _, after := _, guard := _ }) (v := ?_) rfl (by kernel_rfl) (by kernel_rfl) (by kernel_rfl) (fun _ _ _ h => h) (Or.inl ⟨by rfl, ?_⟩) hH ?_
      rotate_left
      · intro wz hSw
        (try dsimp only at hSw)
        first | (go_simp; done) | (go_simp; with_reducible rfl)
      try simp only [Act.put, List.setIfInBounds_toArray, List.set_cons_zero, List.set_cons_succ]
      refine wpAnyH_ready (rs := [2]) (by kernel_rfl) (by simp) ?_
      refine (AllReadyH.cons (o := { dst := some 68, op := _, type := _, pos := _, after := _, guard := _ }) rfl (fun K hK => ?_) AllReadyH.nil)
      go_simp
      refine (cMd _ RT D6).mono ?_
      rintro e V162x0 ⟨rfl, hb⟩
      have hn : Below V16.heap.size V16 V162x0 := below_step hH hb
      replace RT := RT.later hb
      replace V := V.later hb
      replace D6 := D6.later hb
      replace E := E.later hb
      clear hb
      go_wp2_with fail
      refine hK.out _ _ hn (fun hH2 => ?_)
      clear hK K hH hn
      have hH := hH2
      clear hH2
      try simp only [Act.put, List.setIfInBounds_toArray, List.set_cons_zero, List.set_cons_succ]
      refine wpAnyH_take (i := 3) (oi := { dst := some 69, op := _, type := _, pos := _, after := _, guard := _ }) (v := ?_) rfl (by kernel_rfl) (by kernel_rfl) (by kernel_rfl) (fun _ _ _ h => h) (Or.inl ⟨by rfl, ?_⟩) hH ?_
      rotate_left
      · intro wz hSw
        (try dsimp only at hSw)
        first | (go_simp; done) | (go_simp; with_reducible rfl)
      try simp only [Act.put, List.setIfInBounds_toArray, List.set_cons_zero, List.set_cons_succ]
      refine wpAnyH_take (i := 4) (oi := { dst := some 70, op := _, type := _, pos := _, after := _, guard := _ }) (v := ?_) rfl (by kernel_rfl) (by kernel_rfl) (by kernel_rfl) (fun _ _ _ h => h) (Or.inl ⟨by rfl, ?_⟩) hH ?_
      rotate_left
      · intro wz hSw
        (try dsimp only at hSw)
        first | (go_simp; done) | (go_simp; with_reducible rfl)
      try simp only [Act.put, List.setIfInBounds_toArray, List.set_cons_zero, List.set_cons_succ]
      refine wpAnyH_take (i := 5) (oi := { dst := some 71, op := _, type := _, pos := _, after := _, guard := _ }) (v := ?_) rfl (by kernel_rfl) (by kernel_rfl) (by kernel_rfl) (fun _ _ _ h => h) (Or.inl ⟨by rfl, ?_⟩) hH ?_
      rotate_left
      · intro wz hSw
        (try dsimp only at hSw)
        first | (go_simp; done) | (go_simp; with_reducible rfl)
      try simp only [Act.put, List.setIfInBounds_toArray, List.set_cons_zero, List.set_cons_succ]
      refine wpAnyH_ready (rs := [6]) (by kernel_rfl) (by simp) ?_
      refine (AllReadyH.cons (o := { dst := some 72, op := _, type := _, pos := _, after := _, guard := _ }) rfl (fun K hK => ?_) AllReadyH.nil)
      go_simp
      refine (cS _ V D6).mono ?_
      rintro e V166x1 ⟨rfl, hb⟩
      have hn : Below V16.heap.size V16 V166x1 := below_step hH hb
      replace RT := RT.later hb
      replace V := V.later hb
      replace D6 := D6.later hb
      replace E := E.later hb
      clear hb
      go_wp2_with fail
      refine hK.out _ _ hn (fun hH2 => ?_)
      clear hK K hH hn
      have hH := hH2
      clear hH2
      try simp only [Act.put, List.setIfInBounds_toArray, List.set_cons_zero, List.set_cons_succ]
      refine wpAnyH_take (i := 7) (oi := { dst := some 73, op := _, type := _, pos := _, after := _, guard := _ }) (v := ?_) rfl (by kernel_rfl) (by kernel_rfl) (by kernel_rfl) (fun _ _ _ h => h) (Or.inl ⟨by rfl, ?_⟩) hH ?_
      rotate_left
      · intro wz hSw
        (try dsimp only at hSw)
        first | (go_simp; done) | (go_simp; with_reducible rfl)
      try simp only [Act.put, List.setIfInBounds_toArray, List.set_cons_zero, List.set_cons_succ]
      refine wpAnyH_take (i := 8) (oi := { dst := some 74, op := _, type := _, pos := _, after := _, guard := _ }) (v := ?_) rfl (by kernel_rfl) (by kernel_rfl) (by kernel_rfl) (fun _ _ _ h => h) (Or.inl ⟨by rfl, ?_⟩) hH ?_
      rotate_left
      · intro wz hSw
        (try dsimp only at hSw)
        first | (go_simp; done) | (go_simp; with_reducible rfl)
      try simp only [Act.put, List.setIfInBounds_toArray, List.set_cons_zero, List.set_cons_succ]
      refine wpAnyH_take (i := 9) (oi := { dst := some 75, op := _, type := _, pos := _, after := _, guard := _ }) (v := ?_) rfl (by kernel_rfl) (by kernel_rfl) (by kernel_rfl) (fun _ _ _ h => h) (Or.inl ⟨by rfl, ?_⟩) hH ?_
      rotate_left
      · intro wz hSw
        (try dsimp only at hSw)
        first | (go_simp; done) | (go_simp; with_reducible rfl)
      try simp only [Act.put, List.setIfInBounds_toArray, List.set_cons_zero, List.set_cons_succ]
      refine wpAnyH_take (i := 10) (oi := { dst := some 76, op := _, type := _, pos := _, after := _, guard := _ }) (v := ?_) rfl (by kernel_rfl) (by kernel_rfl) (by kernel_rfl) (fun _ _ _ h => h) (Or.inl ⟨by rfl, ?_⟩) hH ?_
      rotate_left
      · intro wz hSw
        (try dsimp only at hSw)
        have z0 := (hSw.cell (p := ⟨w.heap.size, 0, none⟩) hBT).trans t0
        have z1 := (hSw.cell (p := ⟨w.heap.size, 1, none⟩) hBT).trans t1
        have z2 := (hSw.cell (p := ⟨w.heap.size, 2, none⟩) hBT).trans t2
        first | (go_simp; done) | (go_simp; with_reducible rfl)
      try simp only [Act.put, List.setIfInBounds_toArray, List.set_cons_zero, List.set_cons_succ]
      refine wpAnyH_take (i := 11) (oi := { dst := some 77, op := _, type := _, pos := _, after := _, guard := _ }) (v := ?_) rfl (by kernel_rfl) (by kernel_rfl) (by kernel_rfl) (fun _ _ _ h => h) (Or.inl ⟨by rfl, ?_⟩) hH ?_
      rotate_left
      · intro wz hSw
        (try dsimp only at hSw)
        first | (go_simp; done) | (go_simp; with_reducible rfl)
      try simp only [Act.put, List.setIfInBounds_toArray, List.set_cons_zero, List.set_cons_succ]
      refine wpAnyH_ready (rs := [12]) (by kernel_rfl) (by simp) ?_
      refine (AllReadyH.cons (o := { dst := some 78, op := _, type := _, pos := _, after := _, guard := _ }) rfl (fun K hK => ?_) AllReadyH.nil)
      go_simp
      refine (cMe _ RT E).mono ?_
      rintro e V1612x2 ⟨rfl, hb⟩
      have hn : Below V16.heap.size V16 V1612x2 := below_step hH hb
      replace RT := RT.later hb
      replace V := V.later hb
      replace D6 := D6.later hb
      replace E := E.later hb
      clear hb
      go_wp2_with fail
      refine hK.out _ _ hn (fun hH2 => ?_)
      clear hK K hH hn
      have hH := hH2
      clear hH2
      try simp only [Act.put, List.setIfInBounds_toArray, List.set_cons_zero, List.set_cons_succ]
      refine wpAnyH_take (i := 13) (oi := { dst := some 79, op := _, type := _, pos := _, after := _, guard := _ }) (v := ?_) rfl (by kernel_rfl) (by kernel_rfl) (by kernel_rfl) (fun _ _ _ h => h) (Or.inl ⟨by rfl, ?_⟩) hH ?_
      rotate_left
      · intro wz hSw
        (try dsimp only at hSw)
        first | (go_simp; done) | (go_simp; with_reducible rfl)
      try simp only [Act.put, List.setIfInBounds_toArray, List.set_cons_zero, List.set_cons_succ]
      refine wpAnyH_take (i := 14) (oi := { dst := some 80, op := _, type := _, pos := _, after := _, guard := _ }) (v := ?_) rfl (by kernel_rfl) (by kernel_rfl) (by kernel_rfl) (fun _ _ _ h => h) (Or.inl ⟨by rfl, ?_⟩) hH ?_
      rotate_left
      · intro wz hSw
        (try dsimp only at hSw)
        first | (go_simp; done) | (go_simp; with_reducible rfl)
      try simp only [Act.put, List.setIfInBounds_toArray, List.set_cons_zero, List.set_cons_succ]
      refine wpAnyH_take (i := 15) (oi := { dst := some 81, op := _, type := _, pos := _, after := _, guard := _ }) (v := ?_) rfl (by kernel_rfl) (by kernel_rfl) (by kernel_rfl) (fun _ _ _ h => h) (Or.inl ⟨by rfl, ?_⟩) hH ?_
      rotate_left
      · intro wz hSw
        (try dsimp only at hSw)
        first | (go_simp; done) | (go_simp; with_reducible rfl)
      try simp only [Act.put, List.setIfInBounds_toArray, List.set_cons_zero, List.set_cons_succ]
      refine wpAnyH_take (i := 16) (oi := { dst := some 82, op := _, type := _, pos := _, after := _, guard := _ }) (v := ?_) rfl (by kernel_rfl) (by kernel_rfl) (by kernel_rfl) (fun _ _ _ h => h) (Or.inl ⟨by rfl, ?_⟩) hH ?_
      rotate_left
      · intro wz hSw
        (try dsimp only at hSw)
        first | (go_simp; done) | (go_simp; with_reducible rfl)
      try simp only [Act.put, List.setIfInBounds_toArray, List.set_cons_zero, List.set_cons_succ]
      refine wpAnyH_take (i := 17) (oi := { dst := some 83, op := _, type := _, pos := _, after := _, guard := _ }) (v := ?_) rfl (by kernel_rfl) (by kernel_rfl) (by kernel_rfl) (fun _ _ _ h => h) (Or.inl ⟨by rfl, ?_⟩) hH ?_
      rotate_left
      · intro wz hSw
        (try dsimp only at hSw)
        first | (go_simp; done) | (go_simp; with_reducible rfl)
      try simp only [Act.put, List.setIfInBounds_toArray, List.set_cons_zero, List.set_cons_succ]
      refine wpAnyH_take (i := 20) (oi := { dst := some 86, op := _, type := _, pos := _, after := _, guard := _ }) (v := ?_) rfl (by kernel_rfl) (by kernel_rfl) (by kernel_rfl) (fun _ _ _ h => h) (Or.inl ⟨by rfl, ?_⟩) hH ?_
      rotate_left
      · intro wz hSw
        (try dsimp only at hSw)
        first | (go_simp; done) | (go_simp; with_reducible rfl)
      try simp only [Act.put, List.setIfInBounds_toArray, List.set_cons_zero, List.set_cons_succ]
      refine wpAnyH_take (i := 21) (oi := { dst := some 87, op := _, type := _, pos := _, after := _, guard := _ }) (v := ?_) rfl (by kernel_rfl) (by kernel_rfl) (by kernel_rfl) (fun _ _ _ h => h) (Or.inl ⟨by rfl, ?_⟩) hH ?_
      rotate_left
      · intro wz hSw
        (try dsimp only at hSw)
        first | (go_simp; done) | (go_simp; with_reducible rfl)
      try simp only [Act.put, List.setIfInBounds_toArray, List.set_cons_zero, List.set_cons_succ]
      refine wpAnyH_take (i := 22) (oi := { dst := some 88, op := _, type := _, pos := _, after := _, guard := _ }) (v := ?_) rfl (by kernel_rfl) (by kernel_rfl) (by kernel_rfl) (fun _ _ _ h => h) (Or.inl ⟨by rfl, ?_⟩) hH ?_
      rotate_left
      · intro wz hSw
        (try dsimp only at hSw)
        first | (go_simp; done) | (go_simp; with_reducible rfl)
      try simp only [Act.put, List.setIfInBounds_toArray, List.set_cons_zero, List.set_cons_succ]
      refine wpAnyH_take (i := 23) (oi := { dst := some 89, op := _, type := _, pos := _, after := _, guard := _ }) (v := ?_) rfl (by kernel_rfl) (by kernel_rfl) (by kernel_rfl) (fun _ _ _ h => h) (Or.inl ⟨by rfl, ?_⟩) hH ?_
      rotate_left
      · intro wz hSw
        (try dsimp only at hSw)
        have z0 := (hSw.cell (p := ⟨b, o + i, none⟩) hbb).trans c0
        first | (go_simp; done) | (go_simp; with_reducible rfl)
      try simp only [Act.put, List.setIfInBounds_toArray, List.set_cons_zero, List.set_cons_succ]
      refine wpAnyH_take (i := 24) (oi := { dst := some 90, op := _, type := _, pos := _, after := _, guard := _ }) (v := ?_) rfl (by kernel_rfl) (by kernel_rfl) (by kernel_rfl) (fun _ _ _ h => h) (Or.inl ⟨by rfl, ?_⟩) hH ?_
      rotate_left
      · intro wz hSw
        (try dsimp only at hSw)
        first | (go_simp; done) | (go_simp; with_reducible rfl)
      try simp only [Act.put, List.setIfInBounds_toArray, List.set_cons_zero, List.set_cons_succ]
      refine wpAnyH_take (i := 25) (oi := { dst := some 91, op := _, type := _, pos := _, after := _, guard := _ }) (v := ?_) rfl (by kernel_rfl) (by kernel_rfl) (by kernel_rfl) (fun _ _ _ h => h) (Or.inl ⟨by rfl, ?_⟩) hH ?_
      rotate_left
      · intro wz hSw
        (try dsimp only at hSw)
        first | (go_simp; done) | (go_simp; with_reducible rfl)
      try simp only [Act.put, List.setIfInBounds_toArray, List.set_cons_zero, List.set_cons_succ]
      refine wpAnyH_ready (rs := [18]) (by kernel_rfl) (by simp) ?_
      refine (AllReadyH.cons (o := { dst := some 84, op := _, type := _, pos := _, after := _, guard := _ }) rfl (fun K hK => ?_) AllReadyH.nil)
      go_simp
      refine (cA _ D6).mono ?_
      rintro e V1618x3 ⟨y, j, rfl, R1, -, hb⟩
      clear R1
      have hn : Below V16.heap.size V16 V1618x3 := below_step hH hb
      replace RT := RT.later hb
      replace V := V.later hb
      replace D6 := D6.later hb
      replace E := E.later hb
      clear hb
      go_wp2_with fail
      refine hK.out _ _ hn (fun hH2 => ?_)
      clear hK K hH hn
      have hH := hH2
      clear hH2
      try simp only [Act.put, List.setIfInBounds_toArray, List.set_cons_zero, List.set_cons_succ]
      refine wpAnyH_take (i := 19) (oi := { dst := some 85, op := _, type := _, pos := _, after := _, guard := _ }) (v := ?_) rfl (by kernel_rfl) (by kernel_rfl) (by kernel_rfl) (fun _ _ _ h => h) (Or.inl ⟨by rfl, ?_⟩) hH ?_
      rotate_left
      · intro wz hSw
        (try dsimp only at hSw)
        first | (go_simp; done) | (go_simp; with_reducible rfl)
      try simp only [Act.put, List.setIfInBounds_toArray, List.set_cons_zero, List.set_cons_succ]
      refine wpAnyH_take (i := 26) (oi := { dst := some 92, op := _, type := _, pos := _, after := _, guard := _ }) (v := ?_) rfl (by kernel_rfl) (by kernel_rfl) (by kernel_rfl) (fun _ _ _ h => h) (Or.inl ⟨by rfl, ?_⟩) hH ?_
      rotate_left
      · intro wz hSw
        (try dsimp only at hSw)
        have e1 := HTL.out
        have e2 : IntKind.i64.wrap ((l.length : Int) - 1) = (l.length : Int) - 1 := by rw [IntKind.wrap_i64]; omega
        first | (go_simp; done) | (go_simp; with_reducible rfl)
      try simp only [Act.put, List.setIfInBounds_toArray, List.set_cons_zero, List.set_cons_succ]
      refine wpAnyH_take (i := 27) (oi := { dst := some 93, op := _, type := _, pos := _, after := _, guard := _ }) (v := ?_) rfl (by kernel_rfl) (by kernel_rfl) (by kernel_rfl) (fun _ _ _ h => h) (Or.inl ⟨by rfl, ?_⟩) hH ?_
      rotate_left
      · intro wz hSw
        (try dsimp only at hSw)
        first | (go_simp; done) | (go_simp; with_reducible rfl)
      try simp only [Act.put, List.setIfInBounds_toArray, List.set_cons_zero, List.set_cons_succ]
      refine wpAnyH_take (i := 28) (oi := { dst := some 6, op := _, type := _, pos := _, after := _, guard := _ }) (v := ?_) rfl (by kernel_rfl) (by kernel_rfl) (by kernel_rfl) (fun _ _ _ h => h) (Or.inl ⟨by rfl, ?_⟩) hH ?_
      rotate_left
      · intro wz hSw
        (try dsimp only at hSw)
        first | (go_simp; done) | (go_simp; with_reducible rfl)
      try simp only [Act.put, List.setIfInBounds_toArray, List.set_cons_zero, List.set_cons_succ]
      refine wpAnyH_done (by kernel_rfl) ?_ _
      refine NoPanic.normal ?_
      replace hB := below_step hB hH
      go_wp2_with fail
      go_ret
      exact ⟨by simp, hB⟩
end Go.Proofs.Ytnmijgnflemhkaa
