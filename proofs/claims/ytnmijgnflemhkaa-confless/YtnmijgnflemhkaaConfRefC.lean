/- What the document's May of configurations answers. -/
import Derived.Test.YtnmijgnflemhkaaConfRefMay
namespace Go.Proofs.Ytnmijgnflemhkaa
open Go.ChangeShapes Go.WideShapes Go.ChangeAt Go.RowKit Pk Cf
set_option linter.unusedVariables false
set_option linter.unusedSimpArgs false

theorem mayC_no1 {s n : Int} {l : List Tp.Lk} {L : Cnf} (h : Tp.mayT s n l = false) : mayC s n l L = false := by simp [mayC, h]
theorem mayC_no2 {s n : Int} {l : List Tp.Lk} {L : Cnf} (h : ¬ (L.length : Int) = s) : mayC s n l L = false := by simp [mayC, h]
theorem mayC_no3 {s n : Int} {l : List Tp.Lk} {L : Cnf} {r : List Rl} (hr : r ∈ L) (h : rulesB n r = false) : mayC s n l L = false := by
  cases g : mayC s n l L
  · rfl
  · have := ((may_iff s n l L).1 g).2.2 r hr
    rw [h] at this; cases this
section
variable (s n : Int) (w : World) {x a : Option Addr} {c k : Nat} {l : List Tp.Lk} {L : Cnf}
set_option maxRecDepth 100000 in
set_option maxHeartbeats 4000000 in
theorem rmay12_any (RT : Rds Tp.fK 4 w x c l) (V : Lists w a k L) :
    Calls Try.prog 11 #[.agg #[.int .i64 s, .int .i64 n, .slice x l.length c], .slice a L.length k] w fun e w' => e = .returned (.bool (mayC s n l L)) ∧ Below w.heap.size w w' := by
  have hmx := Nat.le_trans V.le V.max
  unfold maxLen at hmx
  have hb1 := below_new w (.cells #[.int .i64 s, .int .i64 n, .slice x l.length c] 24)
  obtain ⟨t0, t1, t2⟩ := box3 w (.int .i64 s) (.int .i64 n) (.slice x l.length c) 24
  have hBT : w.heap.size < (w.alloc (.cells #[.int .i64 s, .int .i64 n, .slice x l.length c] 24)).heap.size := by simp
  have cM := rtmay_any s n (w.alloc (.cells #[.int .i64 s, .int .i64 n, .slice x l.length c] 24)) (RT.later hb1)
  rw [Tp.mayR_is] at cM
  clear RT
  cases hm : Tp.mayT s n l with
  | false =>
    rw [hm] at cM
    rw [mayC_no1 hm]
    go_enter Try.func11, Try.ntmps11
    go_wp2_with fail
    refine cM.mono ?_
    clear cM
    rintro e w2 ⟨rfl, hb2⟩
    replace hb1 := below_step hb1 hb2
    go_wp2_with fail
    go_ret
    exact ⟨rfl, hb1⟩
  | true =>
    rw [hm] at cM
    by_cases hls : (L.length : Int) = s
    case neg =>
      have hz : ((L.length : Int) != s) = true := by simpa using hls
      rw [mayC_no2 hls]
      clear hls
      go_enter Try.func11, Try.ntmps11
      go_wp2_with fail
      refine cM.mono ?_
      clear cM
      rintro e w2 ⟨rfl, hb2⟩
      replace t0 := (hb2.cell (p := ⟨w.heap.size, 0, none⟩) hBT).trans t0
      replace hb1 := below_step hb1 hb2
      clear hb2
      go_wp2_with fail
      go_ret
      exact ⟨rfl, hb1⟩
    have hz : ((L.length : Int) != s) = false := by simpa using hls
    have HT : Hid ((∀ r ∈ L, rulesB n r = true) → mayC s n l L = true) := fun h => (may_iff s n l L).2 ⟨hm, hls, h⟩
    have HN : Hid (∀ r ∈ L, rulesB n r = false → mayC s n l L = false) := fun r h h2 => mayC_no3 h h2
    generalize mayC s n l L = res at HT HN ⊢
    clear hls hm
    replace V := V.later hb1
    go_enter Try.func11, Try.ntmps11
    go_wp2_with fail
    refine cM.mono ?_
    clear cM
    rintro e w2 ⟨rfl, hb2⟩
    replace t0 := (hb2.cell (p := ⟨w.heap.size, 0, none⟩) hBT).trans t0
    replace t1 := (hb2.cell (p := ⟨w.heap.size, 1, none⟩) hBT).trans t1
    replace t2 := (hb2.cell (p := ⟨w.heap.size, 2, none⟩) hBT).trans t2
    replace hBT := Nat.lt_of_lt_of_le hBT hb2.size
    replace V := V.later hb2
    replace hb1 := below_step hb1 hb2
    clear hb2
    go_wp2_with fail
    go_loopw [6] (fun vi wr => ∃ i : Nat, Hid (i ≤ L.length) ∧ vi = .int .i64 (i : Nat) ∧ Hid (∀ r ∈ L.take i, rulesB n r = true) ∧ Below w2.heap.size w2 wr) (fun vi _ => L.length - (intOf vi).toNat)
    case atStart => exact ⟨0, Nat.zero_le _, rfl, (show Hid _ from fun r hr => by simp at hr), Below.refl _ _⟩
    case round =>
      obtain ⟨i, HI, rfl, HP, hbr⟩ := hrel
      replace t0 := (hbr.cell (p := ⟨w.heap.size, 0, none⟩) hBT).trans t0
      replace t1 := (hbr.cell (p := ⟨w.heap.size, 1, none⟩) hBT).trans t1
      replace t2 := (hbr.cell (p := ⟨w.heap.size, 2, none⟩) hBT).trans t2
      replace hBT := Nat.lt_of_lt_of_le hBT hbr.size
      by_cases hlt : i < L.length
      · have hiz : (i : Int) < (L.length : Int) := by omega
        obtain ⟨r, hr⟩ := getC hlt
        obtain ⟨b, o, y, m, rfl, hbb, c0, RR⟩ := (V.later hbr).at hr
        have HLT : Hid (i + 1 ≤ L.length) := hlt
        have HY : Hid (rulesB n r = true → ∀ q ∈ L.take (i + 1), rulesB n q = true) := fun h => mem_take_succ hr HP.out h
        have HZ : Hid (rulesB n r = false → res = false) := fun h => HN.out r (List.mem_of_getElem? hr) h
        have cR := fun w (R : Rds fR 6 w y m r) => rrules_any s n x c l w R
        generalize rulesB n r = e at cR HY HZ
        clear hlt HI HP hr
        go_wp2_with fail
        have S0 : Below wr.heap.size wr wr.drew := (Below.refl _ _).drew
        have RRD := RR.later S0
        clear RR
        have RR := RRD
        clear RRD
        refine wp_region_noPanic ?_
        refine wp_region_held_drew (S := fun w' => Below wr.heap.size wr w') (by kernel_rfl) S0 (fun hH => ?_)
        clear S0
        generalize wr.drew = wrd at hH RR ⊢
        refine wpAnyH_take (i := 0) (oi := { dst := some 25, op := _, type := _, pos := _, after := _, guard := _ }) (v := ?_) rfl (by kernel_rfl) (by kernel_rfl) (by kernel_rfl) (fun _ _ _ h => h) (Or.inl ⟨by rfl, ?_⟩) hH ?_
        rotate_left
        · intro wz hSw
          (try dsimp only at hSw)
          have z0 := (hSw.cell (p := ⟨w.heap.size, 0, none⟩) hBT).trans t0
          have z1 := (hSw.cell (p := ⟨w.heap.size, 1, none⟩) hBT).trans t1
          have z2 := (hSw.cell (p := ⟨w.heap.size, 2, none⟩) hBT).trans t2
          first | (go_simp; done) | (go_simp; with_reducible rfl)
        try simp only [Act.put, List.setIfInBounds_toArray, List.set_cons_zero, List.set_cons_succ]
        refine wpAnyH_take (i := 1) (oi := { dst := some 26, op := _, type := _, pos := _, after := _, guard := _ }) (v := ?_) rfl (by kernel_rfl) (by kernel_rfl) (by kernel_rfl) (fun _ _ _ h => h) (Or.inl ⟨by rfl, ?_⟩) hH ?_
        rotate_left
        · intro wz hSw
          (try dsimp only at hSw)
          first | (go_simp; done) | (go_simp; with_reducible rfl)
        try simp only [Act.put, List.setIfInBounds_toArray, List.set_cons_zero, List.set_cons_succ]
        refine wpAnyH_take (i := 2) (oi := { dst := some 27, op := _, type := _, pos := _, after := _, guard := _ }) (v := ?_) rfl (by kernel_rfl) (by kernel_rfl) (by kernel_rfl) (fun _ _ _ h => h) (Or.inl ⟨by rfl, ?_⟩) hH ?_
        rotate_left
        · intro wz hSw
          (try dsimp only at hSw)
          first | (go_simp; done) | (go_simp; with_reducible rfl)
        try simp only [Act.put, List.setIfInBounds_toArray, List.set_cons_zero, List.set_cons_succ]
        refine wpAnyH_take (i := 3) (oi := { dst := some 28, op := _, type := _, pos := _, after := _, guard := _ }) (v := ?_) rfl (by kernel_rfl) (by kernel_rfl) (by kernel_rfl) (fun _ _ _ h => h) (Or.inl ⟨by rfl, ?_⟩) hH ?_
        rotate_left
        · intro wz hSw
          (try dsimp only at hSw)
          first | (go_simp; done) | (go_simp; with_reducible rfl)
        try simp only [Act.put, List.setIfInBounds_toArray, List.set_cons_zero, List.set_cons_succ]
        refine wpAnyH_take (i := 4) (oi := { dst := some 29, op := _, type := _, pos := _, after := _, guard := _ }) (v := ?_) rfl (by kernel_rfl) (by kernel_rfl) (by kernel_rfl) (fun _ _ _ h => h) (Or.inl ⟨by rfl, ?_⟩) hH ?_
        rotate_left
        · intro wz hSw
          (try dsimp only at hSw)
          have z0 := (hSw.cell (p := ⟨b, o + i, none⟩) hbb).trans c0
          first | (go_simp; done) | (go_simp; with_reducible rfl)
        try simp only [Act.put, List.setIfInBounds_toArray, List.set_cons_zero, List.set_cons_succ]
        refine wpAnyH_ready (rs := [5]) (by kernel_rfl) (by simp) ?_
        refine (AllReadyH.cons (o := { dst := some 30, op := _, type := _, pos := _, after := _, guard := _ }) rfl (fun K hK => ?_) AllReadyH.nil)
        go_simp
        refine (cR _ RR).mono ?_
        rintro e wr5x0 ⟨rfl, hb⟩
        have hn : Below wr.heap.size wr wr5x0 := below_step hH hb
        replace RR := RR.later hb
        clear hb
        go_wp2_with fail
        refine hK.out _ _ hn (fun hH2 => ?_)
        clear hK K hH hn
        have hH := hH2
        clear hH2
        try simp only [Act.put, List.setIfInBounds_toArray, List.set_cons_zero, List.set_cons_succ]
        refine wpAnyH_take (i := 6) (oi := { dst := some 7, op := _, type := _, pos := _, after := _, guard := _ }) (v := ?_) rfl (by kernel_rfl) (by kernel_rfl) (by kernel_rfl) (fun _ _ _ h => h) (Or.inl ⟨by rfl, ?_⟩) hH ?_
        rotate_left
        · intro wz hSw
          (try dsimp only at hSw)
          first | (go_simp; done) | (go_simp; with_reducible rfl)
        try simp only [Act.put, List.setIfInBounds_toArray, List.set_cons_zero, List.set_cons_succ]
        refine wpAnyH_done (by kernel_rfl) ?_ _
        refine NoPanic.normal ?_
        have hB := below_step hbr hH
        clear cR RR
        cases e with
        | true =>
          have HN2 : Hid _ := HY.out rfl
          clear HY HZ
          go_wp2_with fail
          go_roundw
          case rel => exact ⟨i + 1, HLT.out, by go_num, HN2, hB⟩
          case measure => have h := HLT.out; simp [intOf]; omega
        | false =>
          have HF : Hid (res = false) := HZ.out rfl
          clear HY HZ
          replace hb1 := below_step hb1 hB
          go_wp2_with fail
          go_ret
          exact ⟨ret_bool HF.out.symm, hb1⟩
      · have hie : i = L.length := by have h := HI.out; omega
        have hiz : ¬ (i : Int) < (L.length : Int) := by omega
        have HF : Hid (res = true) := HT.out (by have h := HP.out; rw [hie, List.take_length] at h; exact h)
        replace hb1 := below_step hb1 hbr
        clear hie hlt HI HP
        go_wp2_with fail
        go_ret
        exact ⟨ret_bool HF.out.symm, hb1⟩
end
end Go.Proofs.Ytnmijgnflemhkaa
