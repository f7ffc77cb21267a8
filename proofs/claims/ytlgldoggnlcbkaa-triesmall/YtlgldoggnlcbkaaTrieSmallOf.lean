/- TrieSmall, of whatever code keeps the interface. -/
import Derived.Test.YtlgldoggnlcbkaaTrieHave
namespace Go.Proofs.Ytlgldoggnlcbkaa.trieSmall
open Go.ChangeShapes Go.WideShapes Go.ChangeAt Go.RowKit Tt
set_option linter.unusedVariables false
set_option linter.unusedSimpArgs false

theorem room_le (rm : Int) (c : Int) (h : c ≤ roomOf rm) (h0 : 0 < c) : c ≤ rm := by
  unfold roomOf at h
  split at h
  · omega
  · split at h <;> omega
theorem small_ways {l : List T3} {rm : Int} (h : ∃ t, Rep t l) (hr : 0 < count l → count l ≤ rm) : (decide (0 < (l.length : Int)) = true ∧ decide (count l < (l.length : Int)) = false ∧ decide (2 * (l.length : Int) ≤ count l) = false ∧ decide (rm < count l) = false) ∨ (decide (0 < (l.length : Int)) = false ∧ decide (count l < (l.length : Int)) = false ∧ decide (rm < count l) = false) ∨ (decide (0 < (l.length : Int)) = false ∧ decide (count l < (l.length : Int)) = false ∧ decide (rm < count l) = true ∧ decide (0 < count l) = false) := by
  obtain ⟨h1, h2, h3⟩ := count_le h
  by_cases hl : 0 < l.length
  · have := h3 hl
    have := hr (by omega)
    exact .inl ⟨decide_eq_true (by omega), decide_eq_false (by omega), decide_eq_false (by omega), decide_eq_false (by omega)⟩
  · by_cases hc : rm < count l
    · exact .inr (.inr ⟨decide_eq_false (by omega), decide_eq_false (by omega), decide_eq_true hc, decide_eq_false (by omega)⟩)
    · exact .inr (.inl ⟨decide_eq_false (by omega), decide_eq_false (by omega), decide_eq_false hc⟩)
set_option maxRecDepth 100000 in
set_option maxHeartbeats 8000000 in
theorem walk_of (C : Code) (x : Option Addr) (c : Nat) (s : List T3) (rm : Int) (wrm : (Lit.int .i64 rm).wf = true) (w : World) (R : Rds fE 3 w x c s) (hl : s.length ≤ 60) :
    Calls Try.prog 6 #[.slice x s.length c, .int .i64 rm] w fun e w' => e = .returned (.bool true) ∧ Below w.heap.size w w' := by
  have hmx := Nat.le_trans R.le R.max
  unfold maxLen at hmx
  go_enter Try.func6, Try.ntmps6
  go_wp2_with fail
  refine (awake7_of C _).mono ?_
  rintro e w1 ⟨rfl, hb1⟩
  go_wp2_with fail
  refine (C.new rm _).mono ?_
  rintro e w2 ⟨Bt, F0, rfl, A0, g0, hb2⟩
  have hB2 := below_step hb1 hb2
  replace g0 := fun k hk => Nat.le_trans hb1.size (g0 k hk)
  have HR : Hid (∀ c : Int, c ≤ roomOf rm → (0 < c → c ≤ rm)) := room_le rm
  obtain ⟨room, er⟩ : ∃ r, roomOf rm = r := ⟨_, rfl⟩
  rw [er] at A0 HR
  clear er
  go_wp2_with fail
  go_loopw [7] (fun i wr => ∃ (k : Nat) (F : Nat → Prop), k ≤ s.length ∧ i = .int .i64 k ∧ C.At F wr Bt room (puts room s k) ∧ (∀ k, F k → w.heap.size ≤ k) ∧ Below w.heap.size w wr) (fun i _ => s.length - (intOf i).toNat)
  case atStart => exact ⟨0, F0, by omega, rfl, A0, g0, hB2⟩
  case round =>
    obtain ⟨k, F, hk, rfl, A, gt, hbr⟩ := hrel
    clear A0 g0
    by_cases hlt : k < s.length
    · have gk : s[k]? = some s[k] := List.getElem?_eq_getElem hlt
      obtain ⟨b, o, rfl, hbb, -⟩ := (R.later hbr).at gk
      have hi : (k : Int) < (s.length : Int) := by omega
      have hwf := R.wf s[k] (List.getElem_mem hlt)
      have NX : Hid (puts room s (k + 1) = putTo room (puts room s k) s[k]) := puts_next room hlt
      have hLk := (puts_len room s k).1
      generalize hsk : s[k] = sk at gk hwf NX
      obtain ⟨⟨p0, p1⟩, vl⟩ := sk
      obtain ⟨L, eL⟩ : ∃ L, puts room s k = L := ⟨_, rfl⟩
      rw [eL] at A NX hLk
      clear eL hsk
      have hL9 : L.length ≤ 90 := by omega
      have hFl := C.lt A
      have wp0 := hwf p0 (by simp [fE])
      have wp1 := hwf p1 (by simp [fE])
      have wvl := hwf vl (by simp [fE])
      go_wp2_with fail
      refine (C.walk A hL9).mono ?_
      rintro e w3 ⟨x8, c8, rfl, ⟨R8, h8⟩, hb3⟩
      have O8 := out_new (l := L) h8 hFl
      clear h8 hFl
      replace A := C.later A hb3
      have hB3 := below_step hbr hb3
      go_wp2_with fail
      refine (C.nodes A hL9).mono ?_
      rintro e w4 ⟨rfl, hb4⟩
      replace A := C.later A hb4
      replace R8 := R8.later hb4
      have hB4 := below_step hB3 hb4
      clear hb3 hb4 hB3 hbr
      have hsz := hB4.size
      have S0 : Below w.heap.size w w4.drew := hB4.drew
      go_wp2_with fail
      refine wp_region_noPanic ?_
      refine wp_region_held_drew (S := fun w' => Below w.heap.size w w') (by kernel_rfl) S0 (fun hH => ?_)
      clear S0
      refine wpAnyH_take (i := 0) (oi := { dst := some 37, op := _, type := _, pos := _, after := _, guard := _ }) (v := ?_) rfl (by kernel_rfl) (by kernel_rfl) (by kernel_rfl) (fun _ _ _ h => h) (Or.inl ⟨by rfl, ?_⟩) hH ?_
      rotate_left
      · intro wz hSw
        (try dsimp only at hSw)
        first | (go_simp; done) | (go_simp; with_reducible rfl)
      try simp only [Act.put, List.setIfInBounds_toArray, List.set_cons_zero, List.set_cons_succ]
      refine wpAnyH_take (i := 1) (oi := { dst := some 38, op := _, type := _, pos := _, after := _, guard := _ }) (v := ?_) rfl (by kernel_rfl) (by kernel_rfl) (by kernel_rfl) (fun _ _ _ h => h) (Or.inl ⟨by rfl, ?_⟩) hH ?_
      rotate_left
      · intro wz hSw
        (try dsimp only at hSw)
        first | (go_simp; done) | (go_simp; with_reducible rfl)
      try simp only [Act.put, List.setIfInBounds_toArray, List.set_cons_zero, List.set_cons_succ]
      refine wpAnyH_take (i := 2) (oi := { dst := some 39, op := _, type := _, pos := _, after := _, guard := _ }) (v := ?_) rfl (by kernel_rfl) (by kernel_rfl) (by kernel_rfl) (fun _ _ _ h => h) (Or.inl ⟨by rfl, ?_⟩) hH ?_
      rotate_left
      · intro wz hSw
        (try dsimp only at hSw)
        first | (go_simp; done) | (go_simp; with_reducible rfl)
      try simp only [Act.put, List.setIfInBounds_toArray, List.set_cons_zero, List.set_cons_succ]
      refine wpAnyH_take (i := 3) (oi := { dst := some 40, op := _, type := _, pos := _, after := _, guard := _ }) (v := ?_) rfl (by kernel_rfl) (by kernel_rfl) (by kernel_rfl) (fun _ _ _ h => h) (Or.inl ⟨by rfl, ?_⟩) hH ?_
      rotate_left
      · intro wz hSw
        (try dsimp only at hSw)
        first | (go_simp; done) | (go_simp; with_reducible rfl)
      try simp only [Act.put, List.setIfInBounds_toArray, List.set_cons_zero, List.set_cons_succ]
      refine wpAnyH_take (i := 4) (oi := { dst := some 41, op := _, type := _, pos := _, after := _, guard := _ }) (v := ?_) rfl (by kernel_rfl) (by kernel_rfl) (by kernel_rfl) (fun _ _ _ h => h) (Or.inl ⟨by rfl, ?_⟩) hH ?_
      rotate_left
      · intro wz hSw
        (try dsimp only at hSw)
        first | (go_simp; done) | (go_simp; with_reducible rfl)
      try simp only [Act.put, List.setIfInBounds_toArray, List.set_cons_zero, List.set_cons_succ]
      refine wpAnyH_take (i := 5) (oi := { dst := some 42, op := _, type := _, pos := _, after := _, guard := _ }) (v := ?_) rfl (by kernel_rfl) (by kernel_rfl) (by kernel_rfl) (fun _ _ _ h => h) (Or.inl ⟨by rfl, ?_⟩) hH ?_
      rotate_left
      · intro wz hSw
        (try dsimp only at hSw)
        obtain ⟨b9, o9, e9, -, hc9⟩ := (R.later hSw).at gk
        cases e9
        have c0 := hc9 0 _ rfl
        have c1 := hc9 1 _ rfl
        rw [Nat.add_zero] at c0
        first | (go_simp; done) | (go_simp; with_reducible rfl)
      try simp only [Act.put, List.setIfInBounds_toArray, List.set_cons_zero, List.set_cons_succ]
      refine wpAnyH_take (i := 6) (oi := { dst := some 43, op := _, type := _, pos := _, after := _, guard := _ }) (v := ?_) rfl (by kernel_rfl) (by kernel_rfl) (by kernel_rfl) (fun _ _ _ h => h) (Or.inl ⟨by rfl, ?_⟩) hH ?_
      rotate_left
      · intro wz hSw
        (try dsimp only at hSw)
        first | (go_simp; done) | (go_simp; with_reducible rfl)
      try simp only [Act.put, List.setIfInBounds_toArray, List.set_cons_zero, List.set_cons_succ]
      refine wpAnyH_take (i := 7) (oi := { dst := some 44, op := _, type := _, pos := _, after := _, guard := _ }) (v := ?_) rfl (by kernel_rfl) (by kernel_rfl) (by kernel_rfl) (fun _ _ _ h => h) (Or.inl ⟨by rfl, ?_⟩) hH ?_
      rotate_left
      · intro wz hSw
        (try dsimp only at hSw)
        first | (go_simp; done) | (go_simp; with_reducible rfl)
      try simp only [Act.put, List.setIfInBounds_toArray, List.set_cons_zero, List.set_cons_succ]
      refine wpAnyH_take (i := 8) (oi := { dst := some 45, op := _, type := _, pos := _, after := _, guard := _ }) (v := ?_) rfl (by kernel_rfl) (by kernel_rfl) (by kernel_rfl) (fun _ _ _ h => h) (Or.inl ⟨by rfl, ?_⟩) hH ?_
      rotate_left
      · intro wz hSw
        (try dsimp only at hSw)
        first | (go_simp; done) | (go_simp; with_reducible rfl)
      try simp only [Act.put, List.setIfInBounds_toArray, List.set_cons_zero, List.set_cons_succ]
      refine wpAnyH_take (i := 9) (oi := { dst := some 46, op := _, type := _, pos := _, after := _, guard := _ }) (v := ?_) rfl (by kernel_rfl) (by kernel_rfl) (by kernel_rfl) (fun _ _ _ h => h) (Or.inl ⟨by rfl, ?_⟩) hH ?_
      rotate_left
      · intro wz hSw
        (try dsimp only at hSw)
        first | (go_simp; done) | (go_simp; with_reducible rfl)
      try simp only [Act.put, List.setIfInBounds_toArray, List.set_cons_zero, List.set_cons_succ]
      refine wpAnyH_take (i := 10) (oi := { dst := some 47, op := _, type := _, pos := _, after := _, guard := _ }) (v := ?_) rfl (by kernel_rfl) (by kernel_rfl) (by kernel_rfl) (fun _ _ _ h => h) (Or.inl ⟨by rfl, ?_⟩) hH ?_
      rotate_left
      · intro wz hSw
        (try dsimp only at hSw)
        obtain ⟨b9, o9, e9, -, hc9⟩ := (R.later hSw).at gk
        cases e9
        have c2 := hc9 2 _ rfl
        first | (go_simp; done) | (go_simp; with_reducible rfl)
      try simp only [Act.put, List.setIfInBounds_toArray, List.set_cons_zero, List.set_cons_succ]
      refine wpAnyH_ready (rs := [11]) (by kernel_rfl) (by simp) ?_
      refine AllReadyH.cons (o := { dst := some 48, op := _, type := _, pos := _, after := _, guard := _ }) rfl (fun K hK => ?_) AllReadyH.nil
      go_simp
      refine (C.put p0 p1 vl (by intro z hz; simp only [List.mem_cons, List.not_mem_nil, or_false] at hz; rcases hz with rfl | rfl | rfl <;> assumption) (C.later A (below_draw1 _)) (by omega)).mono ?_
      rintro e u11 ⟨rfl, ⟨F', A5, gF⟩, kF⟩
      go_wp2_with fail
      have gt' := grow_ge gt hsz gF
      have hbF := kF.below hsz gt
      replace R8 := (R8.later (below_draw1 _)).kept kF O8
      clear A gt O8 kF gF
      refine hK.out _ _ (hH.trans hbF) (fun hH2 => ?_)
      clear hK K hH
      have hH := hH2
      clear hH2
      try simp only [Act.put, List.setIfInBounds_toArray, List.set_cons_zero, List.set_cons_succ]
      refine wpAnyH_take (i := 12) (oi := { dst := some 10, op := _, type := _, pos := _, after := _, guard := _ }) (v := ?_) rfl (by kernel_rfl) (by kernel_rfl) (by kernel_rfl) (fun _ _ _ h => h) (Or.inl ⟨by rfl, ?_⟩) hH ?_
      rotate_left
      · intro wz hSw
        (try dsimp only at hSw)
        first | (go_simp; done) | (go_simp; with_reducible rfl)
      try simp only [Act.put, List.setIfInBounds_toArray, List.set_cons_zero, List.set_cons_succ]
      refine wpAnyH_done (by kernel_rfl) ?_ _
      refine NoPanic.normal ?_
      have HG : Hid _ := gt'
      clear gt'
      have hrp := C.rep A5
      have hpl := put_len room L ((p0, p1), vl)
      have HE : Hid (putErr room L ((p0, p1), vl) ≠ 0 → putTo room L ((p0, p1), vl) = L) := fun h => if_neg h
      generalize putErr room L ((p0, p1), vl) = ern at HE
      generalize putTo room L ((p0, p1), vl) = L1 at A5 NX hrp hpl HE
      have hL1 : L1.length ≤ 90 := by omega
      have HW : Hid ((decide (0 < (L1.length : Int)) = true ∧ decide (count L1 < (L1.length : Int)) = false ∧ decide (2 * (L1.length : Int) ≤ count L1) = false ∧ decide (rm < count L1) = false) ∨ (decide (0 < (L1.length : Int)) = false ∧ decide (count L1 < (L1.length : Int)) = false ∧ decide (rm < count L1) = false) ∨ (decide (0 < (L1.length : Int)) = false ∧ decide (count L1 < (L1.length : Int)) = false ∧ decide (rm < count L1) = true ∧ decide (0 < count L1) = false)) := small_ways hrp.1 (HR.out _ hrp.2.1)
      clear hrp
      go_wp2_with fail
      refine (C.walk A5 hL1).mono ?_
      rintro e w7 ⟨x9, c9, rfl, ⟨R9, -⟩, hb7⟩
      replace A5 := C.later A5 hb7
      replace R8 := R8.later hb7
      have hB7 := below_step hH hb7
      clear hb7 hH
      go_wp2_with fail
      refine (rsame_any _ R9 R8).mono ?_
      rintro e w8 ⟨rfl, hb8⟩
      replace A5 := C.later A5 hb8
      have hB8 := below_step hB7 hb8
      clear hb8 hB7 R8 R9
      by_cases he : ern = 0
      · subst he
        clear HE
        go_wp2_with fail
        refine (C.walk A5 hL1).mono ?_
        rintro e w9 ⟨x3, c3, rfl, -, hb9⟩
        replace A5 := C.later A5 hb9
        have hB9 := below_step hB8 hb9
        clear hb9
        go_wp2_with fail
        refine (C.nodes A5 hL1).mono ?_
        rintro e w10 ⟨rfl, hb10⟩
        replace A5 := C.later A5 hb10
        replace hB9 := below_step hB9 hb10
        clear hb10
        rcases HW.out with ⟨h1, h2, h3, h4⟩ | ⟨h1, h2, h3⟩ | ⟨h1, h2, h3, h4⟩
        · have hkn : 0 < L1.length := by have := of_decide_eq_true h1; omega
          go_wp2_with fail
          refine (C.nodes A5 hL1).mono ?_
          rintro e w11 ⟨rfl, hb⟩
          replace A5 := C.later A5 hb
          replace hB9 := below_step hB9 hb
          clear hb
          go_wp2_with fail
          refine (C.nodes A5 hL1).mono ?_
          rintro e w12 ⟨rfl, hb⟩
          replace A5 := C.later A5 hb
          replace hB9 := below_step hB9 hb
          clear hb
          go_wp2_with fail
          go_roundw
          case rel => exact ⟨k + 1, F', by omega, by go_num, by rw [NX.out]; exact A5, HG.out, hB9⟩
          case measure => simp [intOf]; omega
        · have hkn : ¬ 0 < L1.length := by have := of_decide_eq_false h1; omega
          go_wp2_with fail
          refine (C.nodes A5 hL1).mono ?_
          rintro e w11 ⟨rfl, hb⟩
          replace A5 := C.later A5 hb
          replace hB9 := below_step hB9 hb
          clear hb
          go_wp2_with fail
          go_roundw
          case rel => exact ⟨k + 1, F', by omega, by go_num, by rw [NX.out]; exact A5, HG.out, hB9⟩
          case measure => simp [intOf]; omega
        · have hkn : ¬ 0 < L1.length := by have := of_decide_eq_false h1; omega
          go_wp2_with fail
          refine (C.nodes A5 hL1).mono ?_
          rintro e w11 ⟨rfl, hb⟩
          replace A5 := C.later A5 hb
          replace hB9 := below_step hB9 hb
          clear hb
          go_wp2_with fail
          refine (C.nodes A5 hL1).mono ?_
          rintro e w12 ⟨rfl, hb⟩
          replace A5 := C.later A5 hb
          replace hB9 := below_step hB9 hb
          clear hb
          go_wp2_with fail
          go_roundw
          case rel => exact ⟨k + 1, F', by omega, by go_num, by rw [NX.out]; exact A5, HG.out, hB9⟩
          case measure => simp [intOf]; omega
      · have hne : (ern != 0) = true := by simpa using he
        obtain rfl := HE.out he
        clear he HE
        have hd : decide (L1 = L1) = true := by simp
        have hcc : (count L1 != count L1) = false := by simp
        go_wp2_with fail
        refine (C.nodes A5 hL1).mono ?_
        rintro e w80 ⟨rfl, hb8⟩
        replace A5 := C.later A5 hb8
        replace hB8 := below_step hB8 hb8
        clear hb8
        go_wp2_with fail
        refine (C.walk A5 hL1).mono ?_
        rintro e w9 ⟨x3, c3, rfl, -, hb9⟩
        replace A5 := C.later A5 hb9
        have hB9 := below_step hB8 hb9
        clear hb9
        go_wp2_with fail
        refine (C.nodes A5 hL1).mono ?_
        rintro e w10 ⟨rfl, hb10⟩
        replace A5 := C.later A5 hb10
        replace hB9 := below_step hB9 hb10
        clear hb10
        rcases HW.out with ⟨h1, h2, h3, h4⟩ | ⟨h1, h2, h3⟩ | ⟨h1, h2, h3, h4⟩
        · have hkn : 0 < L1.length := by have := of_decide_eq_true h1; omega
          go_wp2_with fail
          refine (C.nodes A5 hL1).mono ?_
          rintro e w11 ⟨rfl, hb⟩
          replace A5 := C.later A5 hb
          replace hB9 := below_step hB9 hb
          clear hb
          go_wp2_with fail
          refine (C.nodes A5 hL1).mono ?_
          rintro e w12 ⟨rfl, hb⟩
          replace A5 := C.later A5 hb
          replace hB9 := below_step hB9 hb
          clear hb
          go_wp2_with fail
          go_roundw
          case rel => exact ⟨k + 1, F', by omega, by go_num, by rw [NX.out]; exact A5, HG.out, hB9⟩
          case measure => simp [intOf]; omega
        · have hkn : ¬ 0 < L1.length := by have := of_decide_eq_false h1; omega
          go_wp2_with fail
          refine (C.nodes A5 hL1).mono ?_
          rintro e w11 ⟨rfl, hb⟩
          replace A5 := C.later A5 hb
          replace hB9 := below_step hB9 hb
          clear hb
          go_wp2_with fail
          go_roundw
          case rel => exact ⟨k + 1, F', by omega, by go_num, by rw [NX.out]; exact A5, HG.out, hB9⟩
          case measure => simp [intOf]; omega
        · have hkn : ¬ 0 < L1.length := by have := of_decide_eq_false h1; omega
          go_wp2_with fail
          refine (C.nodes A5 hL1).mono ?_
          rintro e w11 ⟨rfl, hb⟩
          replace A5 := C.later A5 hb
          replace hB9 := below_step hB9 hb
          clear hb
          go_wp2_with fail
          refine (C.nodes A5 hL1).mono ?_
          rintro e w12 ⟨rfl, hb⟩
          replace A5 := C.later A5 hb
          replace hB9 := below_step hB9 hb
          clear hb
          go_wp2_with fail
          go_roundw
          case rel => exact ⟨k + 1, F', by omega, by go_num, by rw [NX.out]; exact A5, HG.out, hB9⟩
          case measure => simp [intOf]; omega
    · go_wp2_with fail
      refine (C.findNil _).mono ?_
      rintro e w3 ⟨rfl, hb3⟩
      have hn3 := below_new w3 (.cells #[.int .i64 0, .int .i64 0, .int .i64 0] 36)
      have hB3 := below_step (below_step hbr hb3) hn3
      go_wp2_with fail
      refine (C.putNil _).mono ?_
      rintro e w4 ⟨rfl, hb4⟩
      go_wp2_with fail
      refine (C.cutNil _).mono ?_
      rintro e w5 ⟨rfl, hb5⟩
      go_wp2_with fail
      refine (C.walkNil _).mono ?_
      rintro e w6 ⟨x6, c6, rfl, hb6⟩
      go_wp2_with fail
      refine (C.nodesNil _).mono ?_
      rintro e w7 ⟨rfl, hb7⟩
      go_wp2_with fail
      go_ret
      exact ⟨rfl, below_step (below_step (below_step (below_step hB3 hb4) hb5) hb6) hb7⟩
end Go.Proofs.Ytlgldoggnlcbkaa.trieSmall
