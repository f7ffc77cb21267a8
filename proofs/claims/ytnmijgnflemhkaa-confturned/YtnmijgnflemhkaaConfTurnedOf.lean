/- The statement ConfTurned, over whatever the code is (CCode). -/
import Derived.Test.YtnmijgnflemhkaaConfIf
namespace Go.Proofs.Ytnmijgnflemhkaa
open Go.ChangeShapes Go.WideShapes Go.ChangeAt Go.RowKit Pk Cf R
set_option linter.unusedVariables false
set_option linter.unusedSimpArgs false

theorem rds_drop3c {α : Type} {f : α → List Int} {sz : Nat} {w : World} {x0 : Addr} {c : Nat} {l : List α} (h : Rds f sz w (some x0) c l) (n : Nat) (hn : n ≤ l.length) : Rds f sz w (if c = n then some x0 else some (x0.add (n * sz))) (c - n) (l.drop n) := by
  refine ⟨by have := h.le; simp; omega, by have := h.max; omega, fun x hx => h.wf x (List.mem_of_mem_drop hx), ?_, fun hne => ?_⟩
  · intro e; split at e <;> cases e
  · have hlt : n < l.length := by
      rcases Nat.lt_or_ge n l.length with h | h
      · exact h
      · exact absurd (List.drop_eq_nil_of_le h) hne
    rw [if_neg (by have := h.le; omega)]
    obtain ⟨b, o, e, hb, hc⟩ := h.cells (by intro h0; subst h0; simp at hlt)
    cases e
    refine ⟨b, o + n * sz, by simp [Addr.add_lit], hb, fun i x hx j y hy => ?_⟩
    rw [List.getElem?_drop] at hx
    have := hc (n + i) x hx j y hy
    rw [Nat.add_mul, ← Nat.add_assoc] at this
    exact this
theorem infoS12 : (Try.prog.info? 32).map (fun i => (i.zero, i.size, i.bytes)) = some (some (.slice none 0 0), 1, 24) := by kernel_rfl
theorem turn_snoc {A : Cnf} {i : Nat} {l : List Rl} (hl : A[i]? = some l) (m : Nat) : turnC m (A.take (i + 1)) = turnC m (A.take i) ++ [rot m l] := by
  unfold turnC
  rw [List.take_add_one, hl, List.map_append]
  rfl
theorem turn_len (m : Nat) (A : Cnf) (i : Nat) : (turnC m (A.take i)).length ≤ A.length := by
  unfold turnC
  rw [List.length_map, List.length_take]
  omega
set_option maxRecDepth 100000 in
set_option maxHeartbeats 4000000 in
theorem confTurned_of (C : CCode) (s n : Int) (x : Option Addr) (c : Nat) (lk : List Tp.Lk) (a : Option Addr) (k : Nat) (A : Cnf) (q : Int) (w : World) (RT : Rds Tp.fK 4 w x c lk) (V : Lists w a k A) :
    Calls Try.prog 4 #[.agg #[.int .i64 s, .int .i64 n, .slice x lk.length c], .slice a A.length k, .int .i64 q] w fun e w' => e = .returned (.bool true) ∧ Below w.heap.size w w' := by
  have hB := below_new w (.cells #[.int .i64 s, .int .i64 n, .slice x lk.length c] 24)
  obtain ⟨t0, t1, t2⟩ := box3 w (.int .i64 s) (.int .i64 n) (.slice x lk.length c) 24
  have hBT : w.heap.size < (w.alloc (.cells #[.int .i64 s, .int .i64 n, .slice x lk.length c] 24)).heap.size := by simp
  replace RT := RT.later hB
  replace V := V.later hB
  have cM := fun w (R : Rds Tp.fK 4 w x c lk) (V : Lists w a k A) => C.may s n w R V
  cases hm : mayC s n lk A with
  | false =>
    rw [hm] at cM
    clear hm
    go_enter Try.func4, Try.ntmps4
    go_wp2_with fail
    refine (cawake_any C _).mono ?_
    rintro e w1 ⟨rfl, hb⟩
    replace t0 := (hb.cell (p := ⟨w.heap.size, 0, none⟩) hBT).trans t0
    replace t1 := (hb.cell (p := ⟨w.heap.size, 1, none⟩) hBT).trans t1
    replace t2 := (hb.cell (p := ⟨w.heap.size, 2, none⟩) hBT).trans t2
    replace hBT := Nat.lt_of_lt_of_le hBT hb.size
    replace RT := RT.later hb
    replace V := V.later hb
    replace hB := below_step hB hb
    clear hb
    go_wp2_with fail
    refine (cM _ RT V).mono ?_
    rintro e w2 ⟨rfl, hb⟩
    replace t0 := (hb.cell (p := ⟨w.heap.size, 0, none⟩) hBT).trans t0
    replace t1 := (hb.cell (p := ⟨w.heap.size, 1, none⟩) hBT).trans t1
    replace t2 := (hb.cell (p := ⟨w.heap.size, 2, none⟩) hBT).trans t2
    replace hBT := Nat.lt_of_lt_of_le hBT hb.size
    replace RT := RT.later hb
    replace V := V.later hb
    replace hB := below_step hB hb
    clear hb
    go_wp2_with fail
    go_ret
    exact ⟨rfl, hB⟩
  | true =>
    rw [hm] at cM
    by_cases h0 : q < 0
    case pos =>
      clear hm
      go_enter Try.func4, Try.ntmps4
      go_wp2_with fail
      refine (cawake_any C _).mono ?_
      rintro e w1 ⟨rfl, hb⟩
      replace t0 := (hb.cell (p := ⟨w.heap.size, 0, none⟩) hBT).trans t0
      replace t1 := (hb.cell (p := ⟨w.heap.size, 1, none⟩) hBT).trans t1
      replace t2 := (hb.cell (p := ⟨w.heap.size, 2, none⟩) hBT).trans t2
      replace hBT := Nat.lt_of_lt_of_le hBT hb.size
      replace RT := RT.later hb
      replace V := V.later hb
      replace hB := below_step hB hb
      clear hb
      go_wp2_with fail
      refine (cM _ RT V).mono ?_
      rintro e w2 ⟨rfl, hb⟩
      replace t0 := (hb.cell (p := ⟨w.heap.size, 0, none⟩) hBT).trans t0
      replace t1 := (hb.cell (p := ⟨w.heap.size, 1, none⟩) hBT).trans t1
      replace t2 := (hb.cell (p := ⟨w.heap.size, 2, none⟩) hBT).trans t2
      replace hBT := Nat.lt_of_lt_of_le hBT hb.size
      replace RT := RT.later hb
      replace V := V.later hb
      replace hB := below_step hB hb
      clear hb
      go_wp2_with fail
      go_ret
      exact ⟨rfl, hB⟩
    by_cases h1 : 100 < q
    case pos =>
      clear hm
      go_enter Try.func4, Try.ntmps4
      go_wp2_with fail
      refine (cawake_any C _).mono ?_
      rintro e w1 ⟨rfl, hb⟩
      replace t0 := (hb.cell (p := ⟨w.heap.size, 0, none⟩) hBT).trans t0
      replace t1 := (hb.cell (p := ⟨w.heap.size, 1, none⟩) hBT).trans t1
      replace t2 := (hb.cell (p := ⟨w.heap.size, 2, none⟩) hBT).trans t2
      replace hBT := Nat.lt_of_lt_of_le hBT hb.size
      replace RT := RT.later hb
      replace V := V.later hb
      replace hB := below_step hB hb
      clear hb
      go_wp2_with fail
      refine (cM _ RT V).mono ?_
      rintro e w2 ⟨rfl, hb⟩
      replace t0 := (hb.cell (p := ⟨w.heap.size, 0, none⟩) hBT).trans t0
      replace t1 := (hb.cell (p := ⟨w.heap.size, 1, none⟩) hBT).trans t1
      replace t2 := (hb.cell (p := ⟨w.heap.size, 2, none⟩) hBT).trans t2
      replace hBT := Nat.lt_of_lt_of_le hBT hb.size
      replace RT := RT.later hb
      replace V := V.later hb
      replace hB := below_step hB hb
      clear hb
      go_wp2_with fail
      go_ret
      exact ⟨rfl, hB⟩
    obtain ⟨m, rfl⟩ : ∃ m : Nat, q = (m : Int) := ⟨q.toNat, by omega⟩
    have hm100 : m ≤ 100 := by omega
    have hbd := (may_bd hm).1
    have HBD : Hid (Bd 6 40 A) := hbd
    have hA6 := hbd.1
    have HS : Hid (sameC A (turnC m A) = true) := turn_same m A
    have HM : Hid (mayC s n lk (turnC m A) = true) := turn_may m hm
    have HMO : Hid (mostC (turnC m A) = mostC A) := turn_most m A
    have HO0 := OwnC.empty
    clear hm hbd
    go_enter Try.func4, Try.ntmps4
    go_wp2_with fail
    refine (cawake_any C _).mono ?_
    rintro e w1 ⟨rfl, hb⟩
    replace t0 := (hb.cell (p := ⟨w.heap.size, 0, none⟩) hBT).trans t0
    replace t1 := (hb.cell (p := ⟨w.heap.size, 1, none⟩) hBT).trans t1
    replace t2 := (hb.cell (p := ⟨w.heap.size, 2, none⟩) hBT).trans t2
    replace hBT := Nat.lt_of_lt_of_le hBT hb.size
    replace RT := RT.later hb
    replace V := V.later hb
    replace hB := below_step hB hb
    clear hb
    go_wp2_with fail
    refine (cM _ RT V).mono ?_
    clear cM
    rintro e w2 ⟨rfl, hb⟩
    replace t0 := (hb.cell (p := ⟨w.heap.size, 0, none⟩) hBT).trans t0
    replace t1 := (hb.cell (p := ⟨w.heap.size, 1, none⟩) hBT).trans t1
    replace t2 := (hb.cell (p := ⟨w.heap.size, 2, none⟩) hBT).trans t2
    replace hBT := Nat.lt_of_lt_of_le hBT hb.size
    replace RT := RT.later hb
    replace V := V.later hb
    replace hB := below_step hB hb
    clear hb
    have HE : Hid (OwnC w2.heap.size w2 (.slice none 0 0) (turnC m (A.take 0))) := OwnC.empty _ _
    clear HO0
    go_wp2_with fail
    go_loopw [9, 8] (fun vi vd wr => ∃ i : Nat, Hid (i ≤ A.length) ∧ vi = .int .i64 (i : Nat) ∧ Hid (OwnC w2.heap.size wr vd (turnC m (A.take i))) ∧ Below w2.heap.size w2 wr) (fun vi _ _ => A.length - (intOf vi).toNat)
    case atStart => exact ⟨0, Nat.zero_le _, rfl, HE, Below.refl _ _⟩
    case round =>
      clear HE
      obtain ⟨i, HI, rfl, HO, hbr⟩ := hrel
      by_cases hlt : i < A.length
      · have hiz : (i : Int) < (A.length : Int) := by omega
        obtain ⟨l, hl⟩ := getC hlt
        have HT : Hid (turnC m (A.take (i + 1)) = turnC m (A.take i) ++ [rot m l]) := turn_snoc hl m
        have HLT : Hid (i + 1 ≤ A.length) := hlt
        have HLn : Hid ((turnC m (A.take i)).length ≤ A.length) := turn_len m A i
        have hl40 : l.length ≤ 40 := HBD.out.2 l (List.mem_of_getElem? hl)
        obtain ⟨b, o, xl, m1, rfl, hbb, c0, R2⟩ := V.at hl
        have r0 := (hbr.cell (p := ⟨b, o + i, none⟩) hbb).trans c0
        clear hlt hl HI
        cases xl with
        | none =>
          obtain rfl : m1 = 0 := R2.nil rfl
          obtain rfl : l = [] := List.eq_nil_of_length_eq_zero (by have h := R2.le; omega)
          rw [show rot m ([] : List Rl) = [] by simp [rot]] at HT
          simp only [List.length_nil] at c0 r0
          clear hl40
          go_wp2_with fail
          have S0 : Below w2.heap.size w2 wr.drew := hbr.drew
          have hX : Below wr.heap.size wr wr.drew := (Below.refl _ _).drew
          refine wp_region_noPanic ?_
          refine wp_region_held_drew (S := fun w' => Below w2.heap.size w2 w') (by kernel_rfl) S0 (fun hH => ?_)
          clear S0
          generalize wr.drew = Wd at hH hX ⊢
          refine wpAnyH_take (i := 0) (oi := { dst := some 48, op := _, type := _, pos := _, after := _, guard := _ }) (v := ?_) rfl (by kernel_rfl) (by kernel_rfl) (by kernel_rfl) (fun _ _ _ h => h) (Or.inl ⟨by rfl, ?_⟩) hH ?_
          rotate_left
          · intro wz hSw
            (try dsimp only at hSw)
            first | (go_simp; done) | (go_simp; with_reducible rfl)
          try simp only [Act.put, List.setIfInBounds_toArray, List.set_cons_zero, List.set_cons_succ]
          refine wpAnyH_take (i := 1) (oi := { dst := some 49, op := _, type := _, pos := _, after := _, guard := _ }) (v := ?_) rfl (by kernel_rfl) (by kernel_rfl) (by kernel_rfl) (fun _ _ _ h => h) (Or.inl ⟨by rfl, ?_⟩) hH ?_
          rotate_left
          · intro wz hSw
            (try dsimp only at hSw)
            first | (go_simp; done) | (go_simp; with_reducible rfl)
          try simp only [Act.put, List.setIfInBounds_toArray, List.set_cons_zero, List.set_cons_succ]
          refine wpAnyH_take (i := 2) (oi := { dst := some 50, op := _, type := _, pos := _, after := _, guard := _ }) (v := ?_) rfl (by kernel_rfl) (by kernel_rfl) (by kernel_rfl) (fun _ _ _ h => h) (Or.inl ⟨by rfl, ?_⟩) hH ?_
          rotate_left
          · intro wz hSw
            (try dsimp only at hSw)
            first | (go_simp; done) | (go_simp; with_reducible rfl)
          try simp only [Act.put, List.setIfInBounds_toArray, List.set_cons_zero, List.set_cons_succ]
          refine wpAnyH_take (i := 3) (oi := { dst := some 51, op := _, type := _, pos := _, after := _, guard := _ }) (v := ?_) rfl (by kernel_rfl) (by kernel_rfl) (by kernel_rfl) (fun _ _ _ h => h) (Or.inl ⟨by rfl, ?_⟩) hH ?_
          rotate_left
          · intro wz hSw
            (try dsimp only at hSw)
            first | (go_simp; done) | (go_simp; with_reducible rfl)
          try simp only [Act.put, List.setIfInBounds_toArray, List.set_cons_zero, List.set_cons_succ]
          refine wpAnyH_take (i := 4) (oi := { dst := some 52, op := _, type := _, pos := _, after := _, guard := _ }) (v := ?_) rfl (by kernel_rfl) (by kernel_rfl) (by kernel_rfl) (fun _ _ _ h => h) (Or.inl ⟨by rfl, ?_⟩) hH ?_
          rotate_left
          · intro wz hSw
            (try dsimp only at hSw)
            have z0 := (hSw.cell (p := ⟨b, o + i, none⟩) hbb).trans c0
            first | (go_simp; done) | (go_simp; with_reducible rfl)
          try simp only [Act.put, List.setIfInBounds_toArray, List.set_cons_zero, List.set_cons_succ]
          refine wpAnyH_take (i := 5) (oi := { dst := some 53, op := _, type := _, pos := _, after := _, guard := _ }) (v := ?_) rfl (by kernel_rfl) (by kernel_rfl) (by kernel_rfl) (fun _ _ _ h => h) (Or.inl ⟨by rfl, ?_⟩) hH ?_
          rotate_left
          · intro wz hSw
            (try dsimp only at hSw)
            first | (go_simp; done) | (go_simp; with_reducible rfl)
          try simp only [Act.put, List.setIfInBounds_toArray, List.set_cons_zero, List.set_cons_succ]
          refine wpAnyH_take (i := 6) (oi := { dst := some 54, op := _, type := _, pos := _, after := _, guard := _ }) (v := ?_) rfl (by kernel_rfl) (by kernel_rfl) (by kernel_rfl) (fun _ _ _ h => h) (Or.inl ⟨by rfl, ?_⟩) hH ?_
          rotate_left
          · intro wz hSw
            (try dsimp only at hSw)
            first | (go_simp; done) | (go_simp; with_reducible rfl)
          try simp only [Act.put, List.setIfInBounds_toArray, List.set_cons_zero, List.set_cons_succ]
          refine wpAnyH_take (i := 8) (oi := { dst := some 56, op := _, type := _, pos := _, after := _, guard := _ }) (v := ?_) rfl (by kernel_rfl) (by kernel_rfl) (by kernel_rfl) (fun _ _ _ h => h) (Or.inl ⟨by rfl, ?_⟩) hH ?_
          rotate_left
          · intro wz hSw
            (try dsimp only at hSw)
            first | (go_simp; done) | (go_simp; with_reducible rfl)
          try simp only [Act.put, List.setIfInBounds_toArray, List.set_cons_zero, List.set_cons_succ]
          refine wpAnyH_take (i := 9) (oi := { dst := some 57, op := _, type := _, pos := _, after := _, guard := _ }) (v := ?_) rfl (by kernel_rfl) (by kernel_rfl) (by kernel_rfl) (fun _ _ _ h => h) (Or.inl ⟨by rfl, ?_⟩) hH ?_
          rotate_left
          · intro wz hSw
            (try dsimp only at hSw)
            first | (go_simp; done) | (go_simp; with_reducible rfl)
          try simp only [Act.put, List.setIfInBounds_toArray, List.set_cons_zero, List.set_cons_succ]
          refine wpAnyH_take (i := 10) (oi := { dst := some 58, op := _, type := _, pos := _, after := _, guard := _ }) (v := ?_) rfl (by kernel_rfl) (by kernel_rfl) (by kernel_rfl) (fun _ _ _ h => h) (Or.inl ⟨by rfl, ?_⟩) hH ?_
          rotate_left
          · intro wz hSw
            (try dsimp only at hSw)
            first | (go_simp; done) | (go_simp; with_reducible rfl)
          try simp only [Act.put, List.setIfInBounds_toArray, List.set_cons_zero, List.set_cons_succ]
          refine wpAnyH_take (i := 11) (oi := { dst := some 59, op := _, type := _, pos := _, after := _, guard := _ }) (v := ?_) rfl (by kernel_rfl) (by kernel_rfl) (by kernel_rfl) (fun _ _ _ h => h) (Or.inl ⟨by rfl, ?_⟩) hH ?_
          rotate_left
          · intro wz hSw
            (try dsimp only at hSw)
            have z0 := (hSw.cell (p := ⟨b, o + i, none⟩) hbb).trans c0
            first | (go_simp; done) | (go_simp; with_reducible rfl)
          try simp only [Act.put, List.setIfInBounds_toArray, List.set_cons_zero, List.set_cons_succ]
          refine wpAnyH_take (i := 12) (oi := { dst := some 60, op := _, type := _, pos := _, after := _, guard := _ }) (v := ?_) rfl (by kernel_rfl) (by kernel_rfl) (by kernel_rfl) (fun _ _ _ h => h) (Or.inl ⟨by rfl, ?_⟩) hH ?_
          rotate_left
          · intro wz hSw
            (try dsimp only at hSw)
            first | (go_simp; done) | (go_simp; with_reducible rfl)
          try simp only [Act.put, List.setIfInBounds_toArray, List.set_cons_zero, List.set_cons_succ]
          refine wpAnyH_take (i := 13) (oi := { dst := some 61, op := _, type := _, pos := _, after := _, guard := _ }) (v := ?_) rfl (by kernel_rfl) (by kernel_rfl) (by kernel_rfl) (fun _ _ _ h => h) (Or.inl ⟨by rfl, ?_⟩) hH ?_
          rotate_left
          · intro wz hSw
            (try dsimp only at hSw)
            first | (go_simp; done) | (go_simp; with_reducible rfl)
          try simp only [Act.put, List.setIfInBounds_toArray, List.set_cons_zero, List.set_cons_succ]
          refine wpAnyH_ready (rs := [7]) (by kernel_rfl) (by simp) ?_
          refine (AllReadyH.cons (o := { dst := some 55, op := _, type := _, pos := _, after := _, guard := _ }) rfl (fun K hK => ?_) AllReadyH.nil)
          have hsz := hX.size
          refine stepRds_join fR_len (by decide) (by rfl) (.const (.slice none 0 0)) (.tmp 54) 32 (by rfl) wr.heap.size 42 48 _ Try.underlying32 infoR12 rfl (v := .slice none 0 0) (n := 0) (ys := []) (by rfl) (World.ownsRow_nil _ _ _ _) (by rfl) (Rds.none fR 6 _) rfl (by simp) (by decide) hsz ?_
          intro v7 V7 own7 hg7
          simp only [Nat.zero_add, List.nil_append] at own7
          have hb := below_fresh (B := Wd.heap.size) hg7 (Nat.le_refl _)
          have hn := below_step hH hb
          replace hX := below_step hX hb
          clear hb hg7 hsz
          refine hK.out _ _ hn (fun hH2 => ?_)
          clear hK K hH hn
          have hH := hH2
          clear hH2
          try simp only [Act.put, List.setIfInBounds_toArray, List.set_cons_zero, List.set_cons_succ]
          refine wpAnyH_ready (rs := [14]) (by kernel_rfl) (by simp) ?_
          refine (AllReadyH.cons (o := { dst := some 62, op := _, type := _, pos := _, after := _, guard := _ }) rfl (fun K hK => ?_) AllReadyH.nil)
          have hsz := hX.size
          refine stepRds_join fR_len (by decide) (by rfl) (.tmp 55) (.tmp 61) 32 (by rfl) wr.heap.size 42 48 _ Try.underlying32 infoR12 rfl (by rfl) own7 (by rfl) (Rds.none fR 6 _) rfl (by simp) (by decide) hsz ?_
          intro v14 V14 own14 hg14
          have hX2 := below_growR hX own7 hg14 hsz
          have hn := below_step hbr hX2
          replace hX := hX2
          have own15 : V14.ownsRow wr.heap.size 42 6 v14 0 (flatV fR []) := by simpa using own14
          obtain ⟨a8, k8, rfl, R8, hx8⟩ := rds_of_owns2 fR_len own15 rfl (fun x hx => by cases hx)
          clear hX2 hg14 hsz own7 own14 own15
          refine hK.out _ _ hn (fun hH2 => ?_)
          clear hK K hH hn
          have hH := hH2
          clear hH2
          try simp only [Act.put, List.setIfInBounds_toArray, List.set_cons_zero, List.set_cons_succ]
          refine wpAnyH_ready (rs := [15]) (by kernel_rfl) (by simp) ?_
          refine (AllReadyH.cons (o := { dst := some 63, op := _, type := _, pos := _, after := _, guard := _ }) rfl (fun K hK => ?_) AllReadyH.nil)
          go_simp
          have hb := below_new V14 (.cells #[.slice a8 0 k8] 32)
          have hn := below_step hH hb
          have RB : Rdv fS 1 (V14.alloc (.cells #[.slice a8 0 k8] 32)) (some ⟨V14.heap.size, 0, none⟩) 1 [⟨a8, 0, k8⟩] := rdv_new fS_len V14 ⟨a8, 0, k8⟩ 32 rfl
          replace R8 := R8.later hb
          replace hX := below_step hX hb
          clear hb
          generalize V14.alloc (.cells #[.slice a8 0 k8] 32) = V15 at hn RB R8 hX ⊢
          refine hK.out _ _ hn (fun hH2 => ?_)
          clear hK K hH hn
          have hH := hH2
          clear hH2
          try simp only [Act.put, List.setIfInBounds_toArray, List.set_cons_zero, List.set_cons_succ]
          refine wpAnyH_ready (rs := [16]) (by kernel_rfl) (by simp) ?_
          refine (AllReadyH.cons (o := { dst := some 64, op := _, type := _, pos := _, after := _, guard := _ }) rfl (fun K hK => ?_) AllReadyH.nil)
          have hsz := hH.size
          obtain ⟨ps, own0, hall⟩ := HO.out
          have own1 := own_laterW own0 hX
          refine stepRdv_join fS_len fS_one (by decide) (by rfl) (.tmp 48) (.tmp 63) 26 (by rfl) w2.heap.size 32 24 _ Try.underlying26 infoS12 rfl (by rfl) own1 (m := 1) (by rfl) RB rfl (by have h := HLT.out; have h2 := HLn.out; omega) (by decide) hsz ?_
          intro v16 V16 own16 hg16 hp16
          have hn := below_growW hH own1 hg16 hsz
          have HO16 : Hid (OwnC w2.heap.size V16 v16 (turnC m (A.take (i + 1)))) := by
            show OwnC _ _ _ _
            rw [HT.out]
            refine OwnC.one (all2_imp hall fun _ _ h => h.later hX) own16 hg16 hp16 ⟨rfl, R8, fun y hy hne e => ?_⟩
            have h1 := (own0.lt _ e).2
            have h2 := (hx8 y hy).1
            omega
          clear own0 own1 own16 hg16 hp16 RB R8 hx8 hall hX
          refine hK.out _ _ hn (fun hH2 => ?_)
          clear hK K hH hn
          have hH := hH2
          clear hH2
          try simp only [Act.put, List.setIfInBounds_toArray, List.set_cons_zero, List.set_cons_succ]
          refine wpAnyH_take (i := 17) (oi := { dst := some 8, op := _, type := _, pos := _, after := _, guard := _ }) (v := ?_) rfl (by kernel_rfl) (by kernel_rfl) (by kernel_rfl) (fun _ _ _ h => h) (Or.inl ⟨by rfl, ?_⟩) hH ?_
          rotate_left
          · intro wz hSw
            (try dsimp only at hSw)
            first | (go_simp; done) | (go_simp; with_reducible rfl)
          try simp only [Act.put, List.setIfInBounds_toArray, List.set_cons_zero, List.set_cons_succ]
          refine wpAnyH_done (by kernel_rfl) ?_ _
          refine NoPanic.normal ?_
          clear HO
          go_wp2_with fail
          go_roundw
          case rel => exact ⟨i + 1, HLT.out, by go_num, HO16, hH⟩
          case measure => have h := HLT.out; simp [intOf]; omega
        | some x0 =>
          by_cases hle : l.length = 0
          case pos =>
            obtain rfl : l = [] := List.eq_nil_of_length_eq_zero hle
            rw [show rot m ([] : List Rl) = [] by simp [rot]] at HT
            simp only [List.length_nil] at c0 r0
            have hm1 := R2.max
            unfold maxLen at hm1
            clear hl40 hle
            go_wp2_with fail
            have S0 : Below w2.heap.size w2 wr.drew := hbr.drew
            have hX : Below wr.heap.size wr wr.drew := (Below.refl _ _).drew
            refine wp_region_noPanic ?_
            refine wp_region_held_drew (S := fun w' => Below w2.heap.size w2 w') (by kernel_rfl) S0 (fun hH => ?_)
            clear S0
            generalize wr.drew = Wd at hH hX ⊢
            refine wpAnyH_take (i := 0) (oi := { dst := some 48, op := _, type := _, pos := _, after := _, guard := _ }) (v := ?_) rfl (by kernel_rfl) (by kernel_rfl) (by kernel_rfl) (fun _ _ _ h => h) (Or.inl ⟨by rfl, ?_⟩) hH ?_
            rotate_left
            · intro wz hSw
              (try dsimp only at hSw)
              first | (go_simp; done) | (go_simp; with_reducible rfl)
            try simp only [Act.put, List.setIfInBounds_toArray, List.set_cons_zero, List.set_cons_succ]
            refine wpAnyH_take (i := 1) (oi := { dst := some 49, op := _, type := _, pos := _, after := _, guard := _ }) (v := ?_) rfl (by kernel_rfl) (by kernel_rfl) (by kernel_rfl) (fun _ _ _ h => h) (Or.inl ⟨by rfl, ?_⟩) hH ?_
            rotate_left
            · intro wz hSw
              (try dsimp only at hSw)
              first | (go_simp; done) | (go_simp; with_reducible rfl)
            try simp only [Act.put, List.setIfInBounds_toArray, List.set_cons_zero, List.set_cons_succ]
            refine wpAnyH_take (i := 2) (oi := { dst := some 50, op := _, type := _, pos := _, after := _, guard := _ }) (v := ?_) rfl (by kernel_rfl) (by kernel_rfl) (by kernel_rfl) (fun _ _ _ h => h) (Or.inl ⟨by rfl, ?_⟩) hH ?_
            rotate_left
            · intro wz hSw
              (try dsimp only at hSw)
              first | (go_simp; done) | (go_simp; with_reducible rfl)
            try simp only [Act.put, List.setIfInBounds_toArray, List.set_cons_zero, List.set_cons_succ]
            refine wpAnyH_take (i := 3) (oi := { dst := some 51, op := _, type := _, pos := _, after := _, guard := _ }) (v := ?_) rfl (by kernel_rfl) (by kernel_rfl) (by kernel_rfl) (fun _ _ _ h => h) (Or.inl ⟨by rfl, ?_⟩) hH ?_
            rotate_left
            · intro wz hSw
              (try dsimp only at hSw)
              first | (go_simp; done) | (go_simp; with_reducible rfl)
            try simp only [Act.put, List.setIfInBounds_toArray, List.set_cons_zero, List.set_cons_succ]
            refine wpAnyH_take (i := 4) (oi := { dst := some 52, op := _, type := _, pos := _, after := _, guard := _ }) (v := ?_) rfl (by kernel_rfl) (by kernel_rfl) (by kernel_rfl) (fun _ _ _ h => h) (Or.inl ⟨by rfl, ?_⟩) hH ?_
            rotate_left
            · intro wz hSw
              (try dsimp only at hSw)
              have z0 := (hSw.cell (p := ⟨b, o + i, none⟩) hbb).trans c0
              first | (go_simp; done) | (go_simp; with_reducible rfl)
            try simp only [Act.put, List.setIfInBounds_toArray, List.set_cons_zero, List.set_cons_succ]
            refine wpAnyH_take (i := 5) (oi := { dst := some 53, op := _, type := _, pos := _, after := _, guard := _ }) (v := ?_) rfl (by kernel_rfl) (by kernel_rfl) (by kernel_rfl) (fun _ _ _ h => h) (Or.inl ⟨by rfl, ?_⟩) hH ?_
            rotate_left
            · intro wz hSw
              (try dsimp only at hSw)
              first | (go_simp; done) | (go_simp; with_reducible rfl)
            try simp only [Act.put, List.setIfInBounds_toArray, List.set_cons_zero, List.set_cons_succ]
            refine wpAnyH_take (i := 6) (oi := { dst := some 54, op := _, type := _, pos := _, after := _, guard := _ }) (v := ?_) rfl (by kernel_rfl) (by kernel_rfl) (by kernel_rfl) (fun _ _ _ h => h) (Or.inl ⟨by rfl, ?_⟩) hH ?_
            rotate_left
            · intro wz hSw
              (try dsimp only at hSw)
              first | (go_simp; done) | (go_simp; with_reducible rfl)
            try simp only [Act.put, List.setIfInBounds_toArray, List.set_cons_zero, List.set_cons_succ]
            refine wpAnyH_take (i := 8) (oi := { dst := some 56, op := _, type := _, pos := _, after := _, guard := _ }) (v := ?_) rfl (by kernel_rfl) (by kernel_rfl) (by kernel_rfl) (fun _ _ _ h => h) (Or.inl ⟨by rfl, ?_⟩) hH ?_
            rotate_left
            · intro wz hSw
              (try dsimp only at hSw)
              first | (go_simp; done) | (go_simp; with_reducible rfl)
            try simp only [Act.put, List.setIfInBounds_toArray, List.set_cons_zero, List.set_cons_succ]
            refine wpAnyH_take (i := 9) (oi := { dst := some 57, op := _, type := _, pos := _, after := _, guard := _ }) (v := ?_) rfl (by kernel_rfl) (by kernel_rfl) (by kernel_rfl) (fun _ _ _ h => h) (Or.inl ⟨by rfl, ?_⟩) hH ?_
            rotate_left
            · intro wz hSw
              (try dsimp only at hSw)
              first | (go_simp; done) | (go_simp; with_reducible rfl)
            try simp only [Act.put, List.setIfInBounds_toArray, List.set_cons_zero, List.set_cons_succ]
            refine wpAnyH_take (i := 10) (oi := { dst := some 58, op := _, type := _, pos := _, after := _, guard := _ }) (v := ?_) rfl (by kernel_rfl) (by kernel_rfl) (by kernel_rfl) (fun _ _ _ h => h) (Or.inl ⟨by rfl, ?_⟩) hH ?_
            rotate_left
            · intro wz hSw
              (try dsimp only at hSw)
              first | (go_simp; done) | (go_simp; with_reducible rfl)
            try simp only [Act.put, List.setIfInBounds_toArray, List.set_cons_zero, List.set_cons_succ]
            refine wpAnyH_take (i := 11) (oi := { dst := some 59, op := _, type := _, pos := _, after := _, guard := _ }) (v := ?_) rfl (by kernel_rfl) (by kernel_rfl) (by kernel_rfl) (fun _ _ _ h => h) (Or.inl ⟨by rfl, ?_⟩) hH ?_
            rotate_left
            · intro wz hSw
              (try dsimp only at hSw)
              have z0 := (hSw.cell (p := ⟨b, o + i, none⟩) hbb).trans c0
              first | (go_simp; done) | (go_simp; with_reducible rfl)
            try simp only [Act.put, List.setIfInBounds_toArray, List.set_cons_zero, List.set_cons_succ]
            refine wpAnyH_take (i := 12) (oi := { dst := some 60, op := _, type := _, pos := _, after := _, guard := _ }) (v := ?_) rfl (by kernel_rfl) (by kernel_rfl) (by kernel_rfl) (fun _ _ _ h => h) (Or.inl ⟨by rfl, ?_⟩) hH ?_
            rotate_left
            · intro wz hSw
              (try dsimp only at hSw)
              first | (go_simp; done) | (go_simp; with_reducible rfl)
            try simp only [Act.put, List.setIfInBounds_toArray, List.set_cons_zero, List.set_cons_succ]
            refine wpAnyH_take (i := 13) (oi := { dst := some 61, op := _, type := _, pos := _, after := _, guard := _ }) (v := ?_) rfl (by kernel_rfl) (by kernel_rfl) (by kernel_rfl) (fun _ _ _ h => h) (Or.inl ⟨by rfl, ?_⟩) hH ?_
            rotate_left
            · intro wz hSw
              (try dsimp only at hSw)
              first | (go_simp; done) | (go_simp; with_reducible rfl)
            try simp only [Act.put, List.setIfInBounds_toArray, List.set_cons_zero, List.set_cons_succ]
            refine wpAnyH_ready (rs := [7]) (by kernel_rfl) (by simp) ?_
            refine (AllReadyH.cons (o := { dst := some 55, op := _, type := _, pos := _, after := _, guard := _ }) rfl (fun K hK => ?_) AllReadyH.nil)
            have hsz := hX.size
            refine stepRds_join fR_len (by decide) (by rfl) (.const (.slice none 0 0)) (.tmp 54) 32 (by rfl) wr.heap.size 42 48 _ Try.underlying32 infoR12 rfl (v := .slice none 0 0) (n := 0) (ys := []) (by rfl) (World.ownsRow_nil _ _ _ _) (by rfl) (R2.later hH) rfl (by simp) (by decide) hsz ?_
            intro v7 V7 own7 hg7
            simp only [Nat.zero_add, List.nil_append] at own7
            have hb := below_fresh (B := Wd.heap.size) hg7 (Nat.le_refl _)
            have hn := below_step hH hb
            replace hX := below_step hX hb
            clear hb hg7 hsz
            refine hK.out _ _ hn (fun hH2 => ?_)
            clear hK K hH hn
            have hH := hH2
            clear hH2
            try simp only [Act.put, List.setIfInBounds_toArray, List.set_cons_zero, List.set_cons_succ]
            refine wpAnyH_ready (rs := [14]) (by kernel_rfl) (by simp) ?_
            refine (AllReadyH.cons (o := { dst := some 62, op := _, type := _, pos := _, after := _, guard := _ }) rfl (fun K hK => ?_) AllReadyH.nil)
            have hsz := hX.size
            refine stepRds_join fR_len (by decide) (by rfl) (.tmp 55) (.tmp 61) 32 (by rfl) wr.heap.size 42 48 _ Try.underlying32 infoR12 rfl (by rfl) own7 (by rfl) ((R2.later hH).take 0) rfl (by simp) (by decide) hsz ?_
            intro v14 V14 own14 hg14
            have hX2 := below_growR hX own7 hg14 hsz
            have hn := below_step hbr hX2
            replace hX := hX2
            have own15 : V14.ownsRow wr.heap.size 42 6 v14 0 (flatV fR []) := by simpa using own14
            obtain ⟨a8, k8, rfl, R8, hx8⟩ := rds_of_owns2 fR_len own15 rfl (fun x hx => by cases hx)
            clear hX2 hg14 hsz own7 own14 own15
            refine hK.out _ _ hn (fun hH2 => ?_)
            clear hK K hH hn
            have hH := hH2
            clear hH2
            try simp only [Act.put, List.setIfInBounds_toArray, List.set_cons_zero, List.set_cons_succ]
            refine wpAnyH_ready (rs := [15]) (by kernel_rfl) (by simp) ?_
            refine (AllReadyH.cons (o := { dst := some 63, op := _, type := _, pos := _, after := _, guard := _ }) rfl (fun K hK => ?_) AllReadyH.nil)
            go_simp
            have hb := below_new V14 (.cells #[.slice a8 0 k8] 32)
            have hn := below_step hH hb
            have RB : Rdv fS 1 (V14.alloc (.cells #[.slice a8 0 k8] 32)) (some ⟨V14.heap.size, 0, none⟩) 1 [⟨a8, 0, k8⟩] := rdv_new fS_len V14 ⟨a8, 0, k8⟩ 32 rfl
            replace R8 := R8.later hb
            replace hX := below_step hX hb
            clear hb
            generalize V14.alloc (.cells #[.slice a8 0 k8] 32) = V15 at hn RB R8 hX ⊢
            refine hK.out _ _ hn (fun hH2 => ?_)
            clear hK K hH hn
            have hH := hH2
            clear hH2
            try simp only [Act.put, List.setIfInBounds_toArray, List.set_cons_zero, List.set_cons_succ]
            refine wpAnyH_ready (rs := [16]) (by kernel_rfl) (by simp) ?_
            refine (AllReadyH.cons (o := { dst := some 64, op := _, type := _, pos := _, after := _, guard := _ }) rfl (fun K hK => ?_) AllReadyH.nil)
            have hsz := hH.size
            obtain ⟨ps, own0, hall⟩ := HO.out
            have own1 := own_laterW own0 hX
            refine stepRdv_join fS_len fS_one (by decide) (by rfl) (.tmp 48) (.tmp 63) 26 (by rfl) w2.heap.size 32 24 _ Try.underlying26 infoS12 rfl (by rfl) own1 (m := 1) (by rfl) RB rfl (by have h := HLT.out; have h2 := HLn.out; omega) (by decide) hsz ?_
            intro v16 V16 own16 hg16 hp16
            have hn := below_growW hH own1 hg16 hsz
            have HO16 : Hid (OwnC w2.heap.size V16 v16 (turnC m (A.take (i + 1)))) := by
              show OwnC _ _ _ _
              rw [HT.out]
              refine OwnC.one (all2_imp hall fun _ _ h => h.later hX) own16 hg16 hp16 ⟨rfl, R8, fun y hy hne e => ?_⟩
              have h1 := (own0.lt _ e).2
              have h2 := (hx8 y hy).1
              omega
            clear own0 own1 own16 hg16 hp16 RB R8 hx8 hall hX
            refine hK.out _ _ hn (fun hH2 => ?_)
            clear hK K hH hn
            have hH := hH2
            clear hH2
            try simp only [Act.put, List.setIfInBounds_toArray, List.set_cons_zero, List.set_cons_succ]
            refine wpAnyH_take (i := 17) (oi := { dst := some 8, op := _, type := _, pos := _, after := _, guard := _ }) (v := ?_) rfl (by kernel_rfl) (by kernel_rfl) (by kernel_rfl) (fun _ _ _ h => h) (Or.inl ⟨by rfl, ?_⟩) hH ?_
            rotate_left
            · intro wz hSw
              (try dsimp only at hSw)
              first | (go_simp; done) | (go_simp; with_reducible rfl)
            try simp only [Act.put, List.setIfInBounds_toArray, List.set_cons_zero, List.set_cons_succ]
            refine wpAnyH_done (by kernel_rfl) ?_ _
            refine NoPanic.normal ?_
            clear HO
            go_wp2_with fail
            go_roundw
            case rel => exact ⟨i + 1, HLT.out, by go_num, HO16, hH⟩
            case measure => have h := HLT.out; simp [intOf]; omega
          have hle0 : 0 < l.length := by omega
          have hlz : (0 : Int) < (l.length : Int) := by omega
          have hlz2 : ¬ (l.length : Int) = 0 := by omega
          have hkk := Nat.mod_lt m hle0
          have hmod : (m : Int).tmod (l.length : Int) = ((m % l.length : Nat) : Int) := by rw [Int.tmod_eq_emod_of_nonneg (by omega)]; simp
          have hmod2 : (m : Int) % (l.length : Int) = ((m % l.length : Nat) : Int) := by simp
          have HROT : Hid (∀ (Vw : World) (v : Value), Vw.ownsRow wr.heap.size 42 6 v (l.length - m % l.length + m % l.length) (flatV fR (l.drop (m % l.length) ++ l.take (m % l.length))) → Vw.ownsRow wr.heap.size 42 6 v l.length (flatV fR (rot m l))) := fun Vw v h => by
            rw [show l.length - m % l.length + m % l.length = l.length by omega] at h
            exact h
          have HRL : Hid ((rot m l).length = l.length) := rot_len m l
          have HWF : Hid (∀ x ∈ rot m l, ∀ z ∈ fR x, (Lit.int .i64 z).wf = true) := fun x hx => R2.wf x ((rot_perm m l).mem_iff.1 hx)
          generalize m % l.length = kk at hkk hmod hmod2 HROT
          have hkl : kk ≤ l.length := by omega
          have hlc := R2.le
          have hkc : kk ≤ m1 := by omega
          have hm1 := R2.max
          unfold maxLen at hm1
          have hkw : IntKind.i64.wrap (kk : Int) = (kk : Int) := by rw [IntKind.wrap_i64]; omega
          clear hle
          go_wp2_with fail
          clear hkw hmod hmod2
          have S0 : Below w2.heap.size w2 wr.drew := hbr.drew
          have hX : Below wr.heap.size wr wr.drew := (Below.refl _ _).drew
          refine wp_region_noPanic ?_
          refine wp_region_held_drew (S := fun w' => Below w2.heap.size w2 w') (by kernel_rfl) S0 (fun hH => ?_)
          clear S0
          generalize wr.drew = Wd at hH hX ⊢
          refine wpAnyH_take (i := 0) (oi := { dst := some 48, op := _, type := _, pos := _, after := _, guard := _ }) (v := ?_) rfl (by kernel_rfl) (by kernel_rfl) (by kernel_rfl) (fun _ _ _ h => h) (Or.inl ⟨by rfl, ?_⟩) hH ?_
          rotate_left
          · intro wz hSw
            (try dsimp only at hSw)
            first | (go_simp; done) | (go_simp; with_reducible rfl)
          try simp only [Act.put, List.setIfInBounds_toArray, List.set_cons_zero, List.set_cons_succ]
          refine wpAnyH_take (i := 1) (oi := { dst := some 49, op := _, type := _, pos := _, after := _, guard := _ }) (v := ?_) rfl (by kernel_rfl) (by kernel_rfl) (by kernel_rfl) (fun _ _ _ h => h) (Or.inl ⟨by rfl, ?_⟩) hH ?_
          rotate_left
          · intro wz hSw
            (try dsimp only at hSw)
            first | (go_simp; done) | (go_simp; with_reducible rfl)
          try simp only [Act.put, List.setIfInBounds_toArray, List.set_cons_zero, List.set_cons_succ]
          refine wpAnyH_take (i := 2) (oi := { dst := some 50, op := _, type := _, pos := _, after := _, guard := _ }) (v := ?_) rfl (by kernel_rfl) (by kernel_rfl) (by kernel_rfl) (fun _ _ _ h => h) (Or.inl ⟨by rfl, ?_⟩) hH ?_
          rotate_left
          · intro wz hSw
            (try dsimp only at hSw)
            first | (go_simp; done) | (go_simp; with_reducible rfl)
          try simp only [Act.put, List.setIfInBounds_toArray, List.set_cons_zero, List.set_cons_succ]
          refine wpAnyH_take (i := 3) (oi := { dst := some 51, op := _, type := _, pos := _, after := _, guard := _ }) (v := ?_) rfl (by kernel_rfl) (by kernel_rfl) (by kernel_rfl) (fun _ _ _ h => h) (Or.inl ⟨by rfl, ?_⟩) hH ?_
          rotate_left
          · intro wz hSw
            (try dsimp only at hSw)
            first | (go_simp; done) | (go_simp; with_reducible rfl)
          try simp only [Act.put, List.setIfInBounds_toArray, List.set_cons_zero, List.set_cons_succ]
          refine wpAnyH_take (i := 4) (oi := { dst := some 52, op := _, type := _, pos := _, after := _, guard := _ }) (v := ?_) rfl (by kernel_rfl) (by kernel_rfl) (by kernel_rfl) (fun _ _ _ h => h) (Or.inl ⟨by rfl, ?_⟩) hH ?_
          rotate_left
          · intro wz hSw
            (try dsimp only at hSw)
            have z0 := (hSw.cell (p := ⟨b, o + i, none⟩) hbb).trans c0
            first | (go_simp; done) | (go_simp; with_reducible rfl)
          try simp only [Act.put, List.setIfInBounds_toArray, List.set_cons_zero, List.set_cons_succ]
          refine wpAnyH_take (i := 5) (oi := { dst := some 53, op := _, type := _, pos := _, after := _, guard := _ }) (v := ?_) rfl (by kernel_rfl) (by kernel_rfl) (by kernel_rfl) (fun _ _ _ h => h) (Or.inl ⟨by rfl, ?_⟩) hH ?_
          rotate_left
          · intro wz hSw
            (try dsimp only at hSw)
            first | (go_simp; done) | (go_simp; with_reducible rfl)
          try simp only [Act.put, List.setIfInBounds_toArray, List.set_cons_zero, List.set_cons_succ]
          refine wpAnyH_take (i := 6) (oi := { dst := some 54, op := _, type := _, pos := _, after := _, guard := _ }) (v := ?_) rfl (by kernel_rfl) (by kernel_rfl) (by kernel_rfl) (fun _ _ _ h => h) (Or.inl ⟨by rfl, ?_⟩) hH ?_
          rotate_left
          · intro wz hSw
            (try dsimp only at hSw)
            first | (go_simp; done) | (go_simp; with_reducible rfl)
          try simp only [Act.put, List.setIfInBounds_toArray, List.set_cons_zero, List.set_cons_succ]
          refine wpAnyH_take (i := 8) (oi := { dst := some 56, op := _, type := _, pos := _, after := _, guard := _ }) (v := ?_) rfl (by kernel_rfl) (by kernel_rfl) (by kernel_rfl) (fun _ _ _ h => h) (Or.inl ⟨by rfl, ?_⟩) hH ?_
          rotate_left
          · intro wz hSw
            (try dsimp only at hSw)
            first | (go_simp; done) | (go_simp; with_reducible rfl)
          try simp only [Act.put, List.setIfInBounds_toArray, List.set_cons_zero, List.set_cons_succ]
          refine wpAnyH_take (i := 9) (oi := { dst := some 57, op := _, type := _, pos := _, after := _, guard := _ }) (v := ?_) rfl (by kernel_rfl) (by kernel_rfl) (by kernel_rfl) (fun _ _ _ h => h) (Or.inl ⟨by rfl, ?_⟩) hH ?_
          rotate_left
          · intro wz hSw
            (try dsimp only at hSw)
            first | (go_simp; done) | (go_simp; with_reducible rfl)
          try simp only [Act.put, List.setIfInBounds_toArray, List.set_cons_zero, List.set_cons_succ]
          refine wpAnyH_take (i := 10) (oi := { dst := some 58, op := _, type := _, pos := _, after := _, guard := _ }) (v := ?_) rfl (by kernel_rfl) (by kernel_rfl) (by kernel_rfl) (fun _ _ _ h => h) (Or.inl ⟨by rfl, ?_⟩) hH ?_
          rotate_left
          · intro wz hSw
            (try dsimp only at hSw)
            first | (go_simp; done) | (go_simp; with_reducible rfl)
          try simp only [Act.put, List.setIfInBounds_toArray, List.set_cons_zero, List.set_cons_succ]
          refine wpAnyH_take (i := 11) (oi := { dst := some 59, op := _, type := _, pos := _, after := _, guard := _ }) (v := ?_) rfl (by kernel_rfl) (by kernel_rfl) (by kernel_rfl) (fun _ _ _ h => h) (Or.inl ⟨by rfl, ?_⟩) hH ?_
          rotate_left
          · intro wz hSw
            (try dsimp only at hSw)
            have z0 := (hSw.cell (p := ⟨b, o + i, none⟩) hbb).trans c0
            first | (go_simp; done) | (go_simp; with_reducible rfl)
          try simp only [Act.put, List.setIfInBounds_toArray, List.set_cons_zero, List.set_cons_succ]
          refine wpAnyH_take (i := 12) (oi := { dst := some 60, op := _, type := _, pos := _, after := _, guard := _ }) (v := ?_) rfl (by kernel_rfl) (by kernel_rfl) (by kernel_rfl) (fun _ _ _ h => h) (Or.inl ⟨by rfl, ?_⟩) hH ?_
          rotate_left
          · intro wz hSw
            (try dsimp only at hSw)
            first | (go_simp; done) | (go_simp; with_reducible rfl)
          try simp only [Act.put, List.setIfInBounds_toArray, List.set_cons_zero, List.set_cons_succ]
          refine wpAnyH_take (i := 13) (oi := { dst := some 61, op := _, type := _, pos := _, after := _, guard := _ }) (v := ?_) rfl (by kernel_rfl) (by kernel_rfl) (by kernel_rfl) (fun _ _ _ h => h) (Or.inl ⟨by rfl, ?_⟩) hH ?_
          rotate_left
          · intro wz hSw
            (try dsimp only at hSw)
            first | (go_simp; done) | (go_simp; with_reducible rfl)
          try simp only [Act.put, List.setIfInBounds_toArray, List.set_cons_zero, List.set_cons_succ]
          have RD := rds_drop3c R2 kk hkl
          generalize (if m1 = kk then some x0 else some (x0.add (kk * 6))) = a9 at RD ⊢
          refine wpAnyH_ready (rs := [7]) (by kernel_rfl) (by simp) ?_
          refine (AllReadyH.cons (o := { dst := some 55, op := _, type := _, pos := _, after := _, guard := _ }) rfl (fun K hK => ?_) AllReadyH.nil)
          have hsz := hX.size
          refine stepRds_join fR_len (by decide) (by rfl) (.const (.slice none 0 0)) (.tmp 54) 32 (by rfl) wr.heap.size 42 48 _ Try.underlying32 infoR12 rfl (v := .slice none 0 0) (n := 0) (ys := []) (by rfl) (World.ownsRow_nil _ _ _ _) (by rfl) (RD.later hH) List.length_drop (by omega) (by decide) hsz ?_
          intro v7 V7 own7 hg7
          simp only [Nat.zero_add, List.nil_append] at own7
          have hb := below_fresh (B := Wd.heap.size) hg7 (Nat.le_refl _)
          have hn := below_step hH hb
          replace hX := below_step hX hb
          clear hb hg7 hsz
          refine hK.out _ _ hn (fun hH2 => ?_)
          clear hK K hH hn
          have hH := hH2
          clear hH2
          try simp only [Act.put, List.setIfInBounds_toArray, List.set_cons_zero, List.set_cons_succ]
          refine wpAnyH_ready (rs := [14]) (by kernel_rfl) (by simp) ?_
          refine (AllReadyH.cons (o := { dst := some 62, op := _, type := _, pos := _, after := _, guard := _ }) rfl (fun K hK => ?_) AllReadyH.nil)
          have hsz := hX.size
          refine stepRds_join fR_len (by decide) (by rfl) (.tmp 55) (.tmp 61) 32 (by rfl) wr.heap.size 42 48 _ Try.underlying32 infoR12 rfl (by rfl) own7 (by rfl) ((R2.later hH).take kk) (by rw [List.length_take]; omega) (by omega) (by decide) hsz ?_
          intro v14 V14 own14 hg14
          have hX2 := below_growR hX own7 hg14 hsz
          have hn := below_step hbr hX2
          replace hX := hX2
          have own15 : V14.ownsRow wr.heap.size 42 6 v14 l.length (flatV fR (rot m l)) := HROT.out _ _ own14
          obtain ⟨a8, k8, rfl, R8, hx8⟩ := rds_of_owns2 fR_len own15 HRL.out HWF.out
          clear hX2 hg14 hsz own7 own14 own15
          refine hK.out _ _ hn (fun hH2 => ?_)
          clear hK K hH hn
          have hH := hH2
          clear hH2
          try simp only [Act.put, List.setIfInBounds_toArray, List.set_cons_zero, List.set_cons_succ]
          refine wpAnyH_ready (rs := [15]) (by kernel_rfl) (by simp) ?_
          refine (AllReadyH.cons (o := { dst := some 63, op := _, type := _, pos := _, after := _, guard := _ }) rfl (fun K hK => ?_) AllReadyH.nil)
          go_simp
          have hb := below_new V14 (.cells #[.slice a8 l.length k8] 32)
          have hn := below_step hH hb
          have RB : Rdv fS 1 (V14.alloc (.cells #[.slice a8 l.length k8] 32)) (some ⟨V14.heap.size, 0, none⟩) 1 [⟨a8, l.length, k8⟩] := rdv_new fS_len V14 ⟨a8, l.length, k8⟩ 32 rfl
          replace R8 := R8.later hb
          replace hX := below_step hX hb
          clear hb
          generalize V14.alloc (.cells #[.slice a8 l.length k8] 32) = V15 at hn RB R8 hX ⊢
          refine hK.out _ _ hn (fun hH2 => ?_)
          clear hK K hH hn
          have hH := hH2
          clear hH2
          try simp only [Act.put, List.setIfInBounds_toArray, List.set_cons_zero, List.set_cons_succ]
          refine wpAnyH_ready (rs := [16]) (by kernel_rfl) (by simp) ?_
          refine (AllReadyH.cons (o := { dst := some 64, op := _, type := _, pos := _, after := _, guard := _ }) rfl (fun K hK => ?_) AllReadyH.nil)
          have hsz := hH.size
          obtain ⟨ps, own0, hall⟩ := HO.out
          have own1 := own_laterW own0 hX
          refine stepRdv_join fS_len fS_one (by decide) (by rfl) (.tmp 48) (.tmp 63) 26 (by rfl) w2.heap.size 32 24 _ Try.underlying26 infoS12 rfl (by rfl) own1 (m := 1) (by rfl) RB rfl (by have h := HLT.out; have h2 := HLn.out; omega) (by decide) hsz ?_
          intro v16 V16 own16 hg16 hp16
          have hn := below_growW hH own1 hg16 hsz
          have HO16 : Hid (OwnC w2.heap.size V16 v16 (turnC m (A.take (i + 1)))) := by
            show OwnC _ _ _ _
            rw [HT.out]
            refine OwnC.one (all2_imp hall fun _ _ h => h.later hX) own16 hg16 hp16 ⟨(rot_len m l).symm, R8, fun y hy hne e => ?_⟩
            have h1 := (own0.lt _ e).2
            have h2 := (hx8 y hy).1
            omega
          clear own0 own1 own16 hg16 hp16 RB R8 hx8 hall hX
          refine hK.out _ _ hn (fun hH2 => ?_)
          clear hK K hH hn
          have hH := hH2
          clear hH2
          try simp only [Act.put, List.setIfInBounds_toArray, List.set_cons_zero, List.set_cons_succ]
          refine wpAnyH_take (i := 17) (oi := { dst := some 8, op := _, type := _, pos := _, after := _, guard := _ }) (v := ?_) rfl (by kernel_rfl) (by kernel_rfl) (by kernel_rfl) (fun _ _ _ h => h) (Or.inl ⟨by rfl, ?_⟩) hH ?_
          rotate_left
          · intro wz hSw
            (try dsimp only at hSw)
            first | (go_simp; done) | (go_simp; with_reducible rfl)
          try simp only [Act.put, List.setIfInBounds_toArray, List.set_cons_zero, List.set_cons_succ]
          refine wpAnyH_done (by kernel_rfl) ?_ _
          refine NoPanic.normal ?_
          clear HO
          go_wp2_with fail
          go_roundw
          case rel => exact ⟨i + 1, HLT.out, by go_num, HO16, hH⟩
          case measure => have h := HLT.out; simp [intOf]; omega
      · have hie : i = A.length := by have h := HI.out; omega
        have hiz : ¬ (i : Int) < (A.length : Int) := by omega
        have HOE : OwnC w2.heap.size wr u8 (turnC m A) := by
          have h := HO.out
          rw [hie, List.take_length] at h
          exact h
        obtain ⟨ad, kd, rfl, VD, -⟩ := HOE.rows
        have bT := turn_bd m HBD.out
        have hlen : (turnC m A).length = A.length := by simp [turnC]
        replace t0 := (hbr.cell (p := ⟨w.heap.size, 0, none⟩) hBT).trans t0
        replace t1 := (hbr.cell (p := ⟨w.heap.size, 1, none⟩) hBT).trans t1
        replace t2 := (hbr.cell (p := ⟨w.heap.size, 2, none⟩) hBT).trans t2
        replace hBT := Nat.lt_of_lt_of_le hBT hbr.size
        replace RT := RT.later hbr
        replace V := V.later hbr
        replace hB := below_step hB hbr
        clear hbr HO HI hie hlt HOE
        have cS := fun w (V : Lists w a k A) (VD : Lists w ad kd (turnC m A)) => C.same w V VD (fun l hl => Nat.le_trans (HBD.out.2 l hl) (by decide)) (fun l hl => Nat.le_trans (bT.2 l hl) (by decide))
        rw [HS.out] at cS
        have cD := fun w (R : Rds Tp.fK 4 w x c lk) (VD : Lists w ad kd (turnC m A)) => C.may s n w R VD
        rw [HM.out] at cD
        have cN := fun w (V : Lists w a k A) => C.most w V (fun l hl => Nat.le_trans (HBD.out.2 l hl) (by decide))
        have cN2 := fun w (VD : Lists w ad kd (turnC m A)) => C.most w VD (fun l hl => Nat.le_trans (bT.2 l hl) (by decide))
        rw [HMO.out] at cN2
        generalize mostC A = g at cN cN2
        clear bT HS HM HMO HBD
        generalize turnC m A = D at VD hlen cS cD cN2
        have HLN : Hid (D.length = A.length) := hlen
        clear hlen
        go_wp2_with fail
        refine (cS _ V VD).mono ?_
        clear cS
        rintro e w3 ⟨rfl, hb⟩
        replace t0 := (hb.cell (p := ⟨w.heap.size, 0, none⟩) hBT).trans t0
        replace t1 := (hb.cell (p := ⟨w.heap.size, 1, none⟩) hBT).trans t1
        replace t2 := (hb.cell (p := ⟨w.heap.size, 2, none⟩) hBT).trans t2
        replace hBT := Nat.lt_of_lt_of_le hBT hb.size
        replace RT := RT.later hb
        replace V := V.later hb
        replace VD := VD.later hb
        replace hB := below_step hB hb
        clear hb
        go_wp2_with fail
        refine (cD _ RT VD).mono ?_
        clear cD
        rintro e w4 ⟨rfl, hb⟩
        replace t0 := (hb.cell (p := ⟨w.heap.size, 0, none⟩) hBT).trans t0
        replace t1 := (hb.cell (p := ⟨w.heap.size, 1, none⟩) hBT).trans t1
        replace t2 := (hb.cell (p := ⟨w.heap.size, 2, none⟩) hBT).trans t2
        replace hBT := Nat.lt_of_lt_of_le hBT hb.size
        replace RT := RT.later hb
        replace V := V.later hb
        replace VD := VD.later hb
        replace hB := below_step hB hb
        clear hb
        go_wp2_with fail
        refine (cN _ V).mono ?_
        clear cN
        rintro e w5 ⟨rfl, hb⟩
        replace t0 := (hb.cell (p := ⟨w.heap.size, 0, none⟩) hBT).trans t0
        replace t1 := (hb.cell (p := ⟨w.heap.size, 1, none⟩) hBT).trans t1
        replace t2 := (hb.cell (p := ⟨w.heap.size, 2, none⟩) hBT).trans t2
        replace hBT := Nat.lt_of_lt_of_le hBT hb.size
        replace RT := RT.later hb
        replace V := V.later hb
        replace VD := VD.later hb
        replace hB := below_step hB hb
        clear hb
        go_wp2_with fail
        refine (cN2 _ VD).mono ?_
        clear cN2
        rintro e w6 ⟨rfl, hb⟩
        replace t0 := (hb.cell (p := ⟨w.heap.size, 0, none⟩) hBT).trans t0
        replace t1 := (hb.cell (p := ⟨w.heap.size, 1, none⟩) hBT).trans t1
        replace t2 := (hb.cell (p := ⟨w.heap.size, 2, none⟩) hBT).trans t2
        replace hBT := Nat.lt_of_lt_of_le hBT hb.size
        replace RT := RT.later hb
        replace V := V.later hb
        replace VD := VD.later hb
        replace hB := below_step hB hb
        clear hb
        go_wp2_with fail
        go_ret
        exact ⟨by simp, hB⟩
end Go.Proofs.Ytnmijgnflemhkaa
