/- TrieBack, of whatever code keeps the interface. -/
import Derived.Test.YtlgldoggnlcbkaaTrieMore
namespace Go.Proofs.Ytlgldoggnlcbkaa.trieBack
open Go.ChangeShapes Go.WideShapes Go.ChangeAt Go.RowKit Tt
set_option linter.unusedVariables false
set_option linter.unusedSimpArgs false

set_option maxRecDepth 100000 in
set_option maxHeartbeats 8000000 in
theorem walk_of (C : Code) (x : Option Addr) (c : Nat) (s : List T3) (r0 r1 : Int) (wr0 : (Lit.int .i64 r0).wf = true) (wr1 : (Lit.int .i64 r1).wf = true) (w : World) (R : Rds fE 3 w x c s) (hl : s.length ≤ 60) :
    Calls Try.prog 7 #[.slice x s.length c, .agg #[.int .i64 r0, .int .i64 r1]] w fun e w' => e = .returned (.bool true) ∧ Below w.heap.size w w' := by
  have hmx := Nat.le_trans R.le R.max
  unfold maxLen at hmx
  have hn := below_new w (.cells #[.int .i64 r0, .int .i64 r1] 29)
  have X := Lies.new w [r0, r1] 29 rfl
  go_enter Try.func7, Try.ntmps7
  go_wp2_with fail
  refine (awake7_of C _).mono ?_
  rintro e w1 ⟨rfl, hb1⟩
  replace X := X.later hb1
  have hw1 := below_step hn hb1
  replace R := R.later hw1
  clear hn hb1
  go_wp2_with fail
  refine (C.new 1000 _).mono ?_
  rintro e w2 ⟨Bt, F0, rfl, A0, g0, hB2⟩
  rw [show roomOf 1000 = 1000 from by decide] at A0
  go_wp2_with fail
  go_loopw [7] (fun i wr => ∃ (k : Nat) (F : Nat → Prop), k ≤ s.length ∧ i = .int .i64 k ∧ C.At F wr Bt 1000 (puts 1000 s k) ∧ (∀ k, F k → w1.heap.size ≤ k) ∧ Below w1.heap.size w1 wr ∧ ∀ x ∈ s.take k, x.1 ≠ (r0, r1)) (fun i _ => s.length - (intOf i).toNat)
  case atStart => exact ⟨0, F0, by omega, rfl, A0, g0, hB2, by simp⟩
  case round =>
    obtain ⟨k, F, hk, rfl, A, gt, hbr, hall⟩ := hrel
    have HA : Hid (∀ x ∈ s.take k, x.1 ≠ (r0, r1)) := hall
    clear A0 g0 hall
    by_cases hlt : k < s.length
    · have gk : s[k]? = some s[k] := List.getElem?_eq_getElem hlt
      obtain ⟨b, o, rfl, hbb, -⟩ := (R.later hbr).at gk
      have hi : (k : Int) < (s.length : Int) := by omega
      have hwf := R.wf s[k] (List.getElem_mem hlt)
      have NX : Hid (puts 1000 s (k + 1) = putTo 1000 (puts 1000 s k) s[k]) := puts_next 1000 hlt
      have NA : Hid (s[k].1 ≠ (r0, r1) → ∀ x ∈ s.take (k + 1), x.1 ≠ (r0, r1)) := fun h => take_next (P := fun x : T3 => x.1 ≠ (r0, r1)) hlt HA.out h
      have hLk := (puts_len 1000 s k).1
      generalize hsk : s[k] = sk at gk hwf NX NA
      obtain ⟨⟨p0, p1⟩, vl⟩ := sk
      obtain ⟨L, eL⟩ : ∃ L, puts 1000 s k = L := ⟨_, rfl⟩
      rw [eL] at A NX hLk
      clear eL hsk HA
      have wp0 := hwf p0 (by simp [fE])
      have wp1 := hwf p1 (by simp [fE])
      have wvl := hwf vl (by simp [fE])
      have hsz := hbr.size
      have S0 : Below w1.heap.size w1 wr.drew := hbr.drew
      go_wp2_with fail
      refine wp_region_noPanic ?_
      refine wp_region_held_drew (S := fun w' => Below w1.heap.size w1 w') (by kernel_rfl) S0 (fun hH => ?_)
      clear S0
      refine wpAnyH_take (i := 0) (oi := { dst := some 29, op := _, type := _, pos := _, after := _, guard := _ }) (v := ?_) rfl (by kernel_rfl) (by kernel_rfl) (by kernel_rfl) (fun _ _ _ h => h) (Or.inl ⟨by rfl, ?_⟩) hH ?_
      rotate_left
      · intro wz hSw
        (try dsimp only at hSw)
        first | (go_simp; done) | (go_simp; with_reducible rfl)
      try simp only [Act.put, List.setIfInBounds_toArray, List.set_cons_zero, List.set_cons_succ]
      refine wpAnyH_take (i := 1) (oi := { dst := some 30, op := _, type := _, pos := _, after := _, guard := _ }) (v := ?_) rfl (by kernel_rfl) (by kernel_rfl) (by kernel_rfl) (fun _ _ _ h => h) (Or.inl ⟨by rfl, ?_⟩) hH ?_
      rotate_left
      · intro wz hSw
        (try dsimp only at hSw)
        first | (go_simp; done) | (go_simp; with_reducible rfl)
      try simp only [Act.put, List.setIfInBounds_toArray, List.set_cons_zero, List.set_cons_succ]
      refine wpAnyH_take (i := 2) (oi := { dst := some 31, op := _, type := _, pos := _, after := _, guard := _ }) (v := ?_) rfl (by kernel_rfl) (by kernel_rfl) (by kernel_rfl) (fun _ _ _ h => h) (Or.inl ⟨by rfl, ?_⟩) hH ?_
      rotate_left
      · intro wz hSw
        (try dsimp only at hSw)
        first | (go_simp; done) | (go_simp; with_reducible rfl)
      try simp only [Act.put, List.setIfInBounds_toArray, List.set_cons_zero, List.set_cons_succ]
      refine wpAnyH_take (i := 3) (oi := { dst := some 32, op := _, type := _, pos := _, after := _, guard := _ }) (v := ?_) rfl (by kernel_rfl) (by kernel_rfl) (by kernel_rfl) (fun _ _ _ h => h) (Or.inl ⟨by rfl, ?_⟩) hH ?_
      rotate_left
      · intro wz hSw
        (try dsimp only at hSw)
        first | (go_simp; done) | (go_simp; with_reducible rfl)
      try simp only [Act.put, List.setIfInBounds_toArray, List.set_cons_zero, List.set_cons_succ]
      refine wpAnyH_take (i := 4) (oi := { dst := some 33, op := _, type := _, pos := _, after := _, guard := _ }) (v := ?_) rfl (by kernel_rfl) (by kernel_rfl) (by kernel_rfl) (fun _ _ _ h => h) (Or.inl ⟨by rfl, ?_⟩) hH ?_
      rotate_left
      · intro wz hSw
        (try dsimp only at hSw)
        first | (go_simp; done) | (go_simp; with_reducible rfl)
      try simp only [Act.put, List.setIfInBounds_toArray, List.set_cons_zero, List.set_cons_succ]
      refine wpAnyH_take (i := 5) (oi := { dst := some 34, op := _, type := _, pos := _, after := _, guard := _ }) (v := ?_) rfl (by kernel_rfl) (by kernel_rfl) (by kernel_rfl) (fun _ _ _ h => h) (Or.inl ⟨by rfl, ?_⟩) hH ?_
      rotate_left
      · intro wz hSw
        (try dsimp only at hSw)
        obtain ⟨b9, o9, e9, -, hc9⟩ := (R.later hSw).at gk
        cases e9
        have c0 := hc9 0 _ rfl
        have c1 := hc9 1 _ rfl
        rw [Nat.add_zero] at c0
        first | (go_simp; done) | (go_simp; with_reducible rfl)
      try simp only [Act.put, List.setIfInBounds_toArray, List.set_cons_zero, List.set_cons_succ]
      refine wpAnyH_take (i := 6) (oi := { dst := some 35, op := _, type := _, pos := _, after := _, guard := _ }) (v := ?_) rfl (by kernel_rfl) (by kernel_rfl) (by kernel_rfl) (fun _ _ _ h => h) (Or.inl ⟨by rfl, ?_⟩) hH ?_
      rotate_left
      · intro wz hSw
        (try dsimp only at hSw)
        first | (go_simp; done) | (go_simp; with_reducible rfl)
      try simp only [Act.put, List.setIfInBounds_toArray, List.set_cons_zero, List.set_cons_succ]
      refine wpAnyH_take (i := 7) (oi := { dst := some 36, op := _, type := _, pos := _, after := _, guard := _ }) (v := ?_) rfl (by kernel_rfl) (by kernel_rfl) (by kernel_rfl) (fun _ _ _ h => h) (Or.inl ⟨by rfl, ?_⟩) hH ?_
      rotate_left
      · intro wz hSw
        (try dsimp only at hSw)
        first | (go_simp; done) | (go_simp; with_reducible rfl)
      try simp only [Act.put, List.setIfInBounds_toArray, List.set_cons_zero, List.set_cons_succ]
      refine wpAnyH_take (i := 8) (oi := { dst := some 37, op := _, type := _, pos := _, after := _, guard := _ }) (v := ?_) rfl (by kernel_rfl) (by kernel_rfl) (by kernel_rfl) (fun _ _ _ h => h) (Or.inl ⟨by rfl, ?_⟩) hH ?_
      rotate_left
      · intro wz hSw
        (try dsimp only at hSw)
        first | (go_simp; done) | (go_simp; with_reducible rfl)
      try simp only [Act.put, List.setIfInBounds_toArray, List.set_cons_zero, List.set_cons_succ]
      refine wpAnyH_take (i := 9) (oi := { dst := some 38, op := _, type := _, pos := _, after := _, guard := _ }) (v := ?_) rfl (by kernel_rfl) (by kernel_rfl) (by kernel_rfl) (fun _ _ _ h => h) (Or.inl ⟨by rfl, ?_⟩) hH ?_
      rotate_left
      · intro wz hSw
        (try dsimp only at hSw)
        first | (go_simp; done) | (go_simp; with_reducible rfl)
      try simp only [Act.put, List.setIfInBounds_toArray, List.set_cons_zero, List.set_cons_succ]
      refine wpAnyH_take (i := 10) (oi := { dst := some 39, op := _, type := _, pos := _, after := _, guard := _ }) (v := ?_) rfl (by kernel_rfl) (by kernel_rfl) (by kernel_rfl) (fun _ _ _ h => h) (Or.inl ⟨by rfl, ?_⟩) hH ?_
      rotate_left
      · intro wz hSw
        (try dsimp only at hSw)
        obtain ⟨b9, o9, e9, -, hc9⟩ := (R.later hSw).at gk
        cases e9
        have c2 := hc9 2 _ rfl
        first | (go_simp; done) | (go_simp; with_reducible rfl)
      try simp only [Act.put, List.setIfInBounds_toArray, List.set_cons_zero, List.set_cons_succ]
      refine wpAnyH_ready (rs := [11]) (by kernel_rfl) (by simp) ?_
      refine AllReadyH.cons (o := { dst := some 40, op := _, type := _, pos := _, after := _, guard := _ }) rfl (fun K hK => ?_) AllReadyH.nil
      go_simp
      refine (C.put p0 p1 vl (by intro z hz; simp only [List.mem_cons, List.not_mem_nil, or_false] at hz; rcases hz with rfl | rfl | rfl <;> assumption) (C.later A (below_draw1 _)) (by omega)).mono ?_
      rintro e u11 ⟨rfl, ⟨F', A', gF⟩, kF⟩
      go_wp2_with fail
      have gt' := grow_ge gt hsz gF
      have hbF := kF.below hsz gt
      clear A gt
      refine hK.out _ _ (hH.trans hbF) (fun hH2 => ?_)
      clear hK K hH
      have hH := hH2
      clear hH2
      try simp only [Act.put, List.setIfInBounds_toArray, List.set_cons_zero, List.set_cons_succ]
      refine wpAnyH_done (by kernel_rfl) ?_ _
      refine NoPanic.normal ?_
      obtain ⟨b9, o9, e9, -, hc9⟩ := (R.later hH).at gk
      cases e9
      have c0 := hc9 0 _ rfl
      have c1 := hc9 1 _ rfl
      rw [Nat.add_zero] at c0
      clear hc9
      obtain ⟨x0, x1⟩ := (X.later hH).two
      have hq := fun w => eq_pre p0 p1 r0 r1 w
      by_cases he : (p0, p1) = (r0, r1)
      · cases he
        simp only [beq_self_eq_true, Bool.and_self] at hq
        go_wp2_with fail
        go_quiet (fail)
        go_wp2_with fail
        go_ret
        exact ⟨rfl, below_step hw1 (hH.trans (below_draws _ _ nq))⟩
      · have hv : ((p0 == r0) && (p1 == r1)) = false := by rw [Bool.eq_false_iff]; intro hh; simp only [Bool.and_eq_true, beq_iff_eq] at hh; exact he (Prod.ext hh.1 hh.2)
        rw [hv] at hq
        have HN := NA.out he
        clear he hv NA
        have HN2 : Hid (∀ x ∈ s.take (k + 1), x.1 ≠ (r0, r1)) := HN
        clear HN
        go_wp2_with fail
        go_quiet (fail)
        go_wp2_with fail
        go_roundw
        case rel => exact ⟨k + 1, F', by omega, by go_num, by rw [NX.out]; exact C.later A' (below_draws _ _ nq), gt', hH.trans (below_draws _ _ nq), HN2.out⟩
        case measure => simp [intOf]; omega
    · obtain rfl : k = s.length := by omega
      have hLs := (puts_len 1000 s s.length).2
      have hN : Hid (∀ x ∈ puts 1000 s s.length, x.1 ≠ (r0, r1)) := fun x hx => HA.out x (puts_mem x hx)
      have hrep := rep_puts 1000 s s.length
      obtain ⟨L, eL⟩ : ∃ L, puts 1000 s s.length = L := ⟨_, rfl⟩
      rw [eL] at A hLs hN hrep
      clear eL HA
      have hL9 : L.length ≤ 90 := by omega
      obtain ⟨PC1, PC2⟩ := put_cut hrep (by omega) (e := ((r0, r1), 5)) hN.out
      have PG := cut_gone hN.out
      dsimp only at PC1 PC2
      have hpl := put_len 1000 L ((r0, r1), 5)
      have wz5 : ∀ z ∈ [r0, r1, 5], (Lit.int .i64 z).wf = true := by intro z hz; simp only [List.mem_cons, List.not_mem_nil, or_false] at hz; rcases hz with rfl | rfl | rfl; exact wr0; exact wr1; decide
      have wz2 : ∀ z ∈ [r0, r1], (Lit.int .i64 z).wf = true := by intro z hz; simp only [List.mem_cons, List.not_mem_nil, or_false] at hz; rcases hz with rfl | rfl; exact wr0; exact wr1
      have cP := fun (u : World) (F : Nat → Prop) (h : C.At F u Bt 1000 L) => C.put (w := u) r0 r1 5 wz5 h hL9
      have cC := fun (u : World) (F : Nat → Prop) (h : C.At F u Bt 1000 (putTo 1000 L ((r0, r1), 5))) => C.cut (w := u) r0 r1 wz2 h (by omega)
      have cC2 := fun (u : World) (F : Nat → Prop) (h : C.At F u Bt 1000 L) => C.cut (w := u) r0 r1 wz2 h hL9
      rw [PC1] at cP
      simp only [PC2] at cC
      simp only [PG.2] at cC2
      have hne : (cutErr L (r0, r1) != 0) = true := by simpa using PG.1
      clear PC1 PC2 PG hN hrep
      generalize cutErr (putTo 1000 L ((r0, r1), 5)) (r0, r1) = ec at cP cC
      generalize putTo 1000 L ((r0, r1), 5) = LP at cP cC hpl
      generalize cutErr L (r0, r1) = eg at cC2 hne
      obtain ⟨x0, x1⟩ := (X.later hbr).two
      have hFl := C.lt A
      clear hlt
      go_wp2_with fail
      refine (C.walk A hL9).mono ?_
      rintro e w3 ⟨x8, c8, rfl, ⟨R8, h8⟩, hb3⟩
      have O8 := out_new (l := L) h8 hFl
      clear h8 hFl
      replace A := C.later A hb3
      have hB3 := below_step hbr hb3
      go_wp2_with fail
      refine (C.nodes A hL9).mono ?_
      rintro e w4 ⟨rfl, hb4⟩
      replace A := C.later A hb4
      replace R8 := R8.later hb4
      have hB4 := below_step hB3 hb4
      clear x0 x1 hb3 hb4 hB3
      obtain ⟨x0, x1⟩ := (X.later hB4).two
      have HO : Hid _ := And.intro O8 gt
      clear O8 gt
      go_wp2_with fail
      refine (cP _ F A).mono ?_
      rintro e w5 ⟨rfl, ⟨F5, A5, g5⟩, k5⟩
      have O5 := out_grow R8 HO.out.1 g5
      have gt5 := grow_ge HO.out.2 hB4.size g5
      have hB5 := hB4.trans (k5.below hB4.size HO.out.2)
      replace R8 := R8.kept k5 HO.out.1
      clear HO g5 k5 x0 x1 A hB4
      obtain ⟨x0, x1⟩ := (X.later hB5).two
      have HO : Hid _ := And.intro O5 gt5
      clear O5 gt5
      go_wp2_with fail
      refine (cC _ F5 A5).mono ?_
      rintro e w6 ⟨rfl, ⟨F6, A6, g6⟩, k6⟩
      have gt6 := grow_ge HO.out.2 hB5.size g6
      have hB6 := hB5.trans (k6.below hB5.size HO.out.2)
      replace R8 := R8.kept k6 HO.out.1
      clear HO g6 k6 x0 x1 A5 hB5
      have HO : Hid _ := gt6
      clear gt6
      go_wp2_with fail
      refine (C.walk A6 hL9).mono ?_
      rintro e w7 ⟨x9, c9, rfl, ⟨R9, -⟩, hb7⟩
      replace A6 := C.later A6 hb7
      replace R8 := R8.later hb7
      have hB7 := below_step hB6 hb7
      clear hb7 hB6
      go_wp2_with fail
      refine (rsame_any _ R9 R8).mono ?_
      rintro e w8 ⟨rfl, hb8⟩
      replace A6 := C.later A6 hb8
      have hB8 := below_step hB7 hb8
      have hd : decide (L = L) = true := by simp
      have hcc : (count L == count L) = true := by simp
      clear hb8 hB7 R8 R9
      obtain ⟨x0, x1⟩ := (X.later hB8).two
      go_wp2_with fail
      refine (C.nodes A6 hL9).mono ?_
      rintro e w9 ⟨rfl, hb9⟩
      replace A6 := C.later A6 hb9
      have hB9 := below_step hB8 hb9
      clear hb9 hB8 x0 x1
      obtain ⟨x0, x1⟩ := (X.later hB9).two
      go_wp2_with fail
      refine (cC2 _ F6 A6).mono ?_
      rintro e w10 ⟨rfl, ⟨F10, A10, -⟩, k10⟩
      have hB10 := hB9.trans (k10.below hB9.size HO.out)
      clear k10 A6
      go_wp2_with fail
      go_ret
      exact ⟨rfl, below_step hw1 hB10⟩
end Go.Proofs.Ytlgldoggnlcbkaa.trieBack
