/- TrieFinds, of whatever code keeps the interface. -/
import Derived.Test.YtlgldoggnlcbkaaTrieHave
namespace Go.Proofs.Ytlgldoggnlcbkaa.trieFinds
open Go.ChangeShapes Go.WideShapes Go.ChangeAt Go.RowKit Tt
set_option linter.unusedVariables false
set_option linter.unusedSimpArgs false

set_option maxRecDepth 100000 in
set_option maxHeartbeats 8000000 in
theorem walk_of (C : Code) (x : Option Addr) (c : Nat) (s : List T3) (addr : Int) (wa : (Lit.int .i64 addr).wf = true) (w : World) (R : Rds fE 3 w x c s) (hl : s.length ≤ 60) :
    Calls Try.prog 4 #[.slice x s.length c, .int .i64 addr] w fun e w' => e = .returned (.bool true) ∧ Below w.heap.size w w' := by
  have hmx := Nat.le_trans R.le R.max
  unfold maxLen at hmx
  go_enter Try.func4, Try.ntmps4
  go_wp2_with fail
  refine (awake7_of C _).mono ?_
  rintro e w1 ⟨rfl, hb1⟩
  go_wp2_with fail
  refine (C.new 1000 _).mono ?_
  rintro e w2 ⟨Bt, F0, rfl, A0, g0, hb2⟩
  rw [show roomOf 1000 = 1000 from by decide] at A0
  have hB2 := below_step hb1 hb2
  replace g0 := fun k hk => Nat.le_trans hb1.size (g0 k hk)
  go_wp2_with fail
  go_loopw [7] (fun i wr => ∃ (k : Nat) (F : Nat → Prop), k ≤ s.length ∧ i = .int .i64 k ∧ C.At F wr Bt 1000 (puts 1000 s k) ∧ (∀ k, F k → w.heap.size ≤ k) ∧ Below w.heap.size w wr) (fun i _ => s.length - (intOf i).toNat)
  case atStart => exact ⟨0, F0, by omega, rfl, A0, g0, hB2⟩
  case round =>
    obtain ⟨k, F, hk, rfl, A, gt, hbr⟩ := hrel
    clear A0 g0
    by_cases hlt : k < s.length
    · have gk : s[k]? = some s[k] := List.getElem?_eq_getElem hlt
      obtain ⟨b, o, rfl, hbb, -⟩ := (R.later hbr).at gk
      have hi : (k : Int) < (s.length : Int) := by omega
      have hwf := R.wf s[k] (List.getElem_mem hlt)
      have NX : Hid (puts 1000 s (k + 1) = putTo 1000 (puts 1000 s k) s[k]) := puts_next 1000 hlt
      have hLk := (puts_len 1000 s k).1
      generalize hsk : s[k] = sk at gk hwf NX
      obtain ⟨⟨p0, p1⟩, vl⟩ := sk
      obtain ⟨L, eL⟩ : ∃ L, puts 1000 s k = L := ⟨_, rfl⟩
      rw [eL] at A NX hLk
      clear eL hsk
      have wp0 := hwf p0 (by simp [fE])
      have wp1 := hwf p1 (by simp [fE])
      have wvl := hwf vl (by simp [fE])
      have hsz := hbr.size
      have S0 : Below w.heap.size w wr.drew := hbr.drew
      go_wp2_with fail
      refine wp_region_noPanic ?_
      refine wp_region_held_drew (S := fun w' => Below w.heap.size w w') (by kernel_rfl) S0 (fun hH => ?_)
      clear S0
      refine wpAnyH_take (i := 0) (oi := { dst := some 32, op := _, type := _, pos := _, after := _, guard := _ }) (v := ?_) rfl (by kernel_rfl) (by kernel_rfl) (by kernel_rfl) (fun _ _ _ h => h) (Or.inl ⟨by rfl, ?_⟩) hH ?_
      rotate_left
      · intro wz hSw
        (try dsimp only at hSw)
        first | (go_simp; done) | (go_simp; with_reducible rfl)
      try simp only [Act.put, List.setIfInBounds_toArray, List.set_cons_zero, List.set_cons_succ]
      refine wpAnyH_take (i := 1) (oi := { dst := some 33, op := _, type := _, pos := _, after := _, guard := _ }) (v := ?_) rfl (by kernel_rfl) (by kernel_rfl) (by kernel_rfl) (fun _ _ _ h => h) (Or.inl ⟨by rfl, ?_⟩) hH ?_
      rotate_left
      · intro wz hSw
        (try dsimp only at hSw)
        first | (go_simp; done) | (go_simp; with_reducible rfl)
      try simp only [Act.put, List.setIfInBounds_toArray, List.set_cons_zero, List.set_cons_succ]
      refine wpAnyH_take (i := 2) (oi := { dst := some 34, op := _, type := _, pos := _, after := _, guard := _ }) (v := ?_) rfl (by kernel_rfl) (by kernel_rfl) (by kernel_rfl) (fun _ _ _ h => h) (Or.inl ⟨by rfl, ?_⟩) hH ?_
      rotate_left
      · intro wz hSw
        (try dsimp only at hSw)
        first | (go_simp; done) | (go_simp; with_reducible rfl)
      try simp only [Act.put, List.setIfInBounds_toArray, List.set_cons_zero, List.set_cons_succ]
      refine wpAnyH_take (i := 3) (oi := { dst := some 35, op := _, type := _, pos := _, after := _, guard := _ }) (v := ?_) rfl (by kernel_rfl) (by kernel_rfl) (by kernel_rfl) (fun _ _ _ h => h) (Or.inl ⟨by rfl, ?_⟩) hH ?_
      rotate_left
      · intro wz hSw
        (try dsimp only at hSw)
        first | (go_simp; done) | (go_simp; with_reducible rfl)
      try simp only [Act.put, List.setIfInBounds_toArray, List.set_cons_zero, List.set_cons_succ]
      refine wpAnyH_take (i := 4) (oi := { dst := some 36, op := _, type := _, pos := _, after := _, guard := _ }) (v := ?_) rfl (by kernel_rfl) (by kernel_rfl) (by kernel_rfl) (fun _ _ _ h => h) (Or.inl ⟨by rfl, ?_⟩) hH ?_
      rotate_left
      · intro wz hSw
        (try dsimp only at hSw)
        first | (go_simp; done) | (go_simp; with_reducible rfl)
      try simp only [Act.put, List.setIfInBounds_toArray, List.set_cons_zero, List.set_cons_succ]
      refine wpAnyH_take (i := 5) (oi := { dst := some 37, op := _, type := _, pos := _, after := _, guard := _ }) (v := ?_) rfl (by kernel_rfl) (by kernel_rfl) (by kernel_rfl) (fun _ _ _ h => h) (Or.inl ⟨by rfl, ?_⟩) hH ?_
      rotate_left
      · intro wz hSw
        (try dsimp only at hSw)
        obtain ⟨b9, o9, e9, -, hc9⟩ := (R.later hSw).at gk
        cases e9
        have c0 := hc9 0 _ rfl
        have c1 := hc9 1 _ rfl
        rw [Nat.add_zero] at c0
        first | (go_simp; done) | (go_simp; with_reducible rfl)
      try simp only [Act.put, List.setIfInBounds_toArray, List.set_cons_zero, List.set_cons_succ]
      refine wpAnyH_take (i := 6) (oi := { dst := some 38, op := _, type := _, pos := _, after := _, guard := _ }) (v := ?_) rfl (by kernel_rfl) (by kernel_rfl) (by kernel_rfl) (fun _ _ _ h => h) (Or.inl ⟨by rfl, ?_⟩) hH ?_
      rotate_left
      · intro wz hSw
        (try dsimp only at hSw)
        first | (go_simp; done) | (go_simp; with_reducible rfl)
      try simp only [Act.put, List.setIfInBounds_toArray, List.set_cons_zero, List.set_cons_succ]
      refine wpAnyH_take (i := 7) (oi := { dst := some 39, op := _, type := _, pos := _, after := _, guard := _ }) (v := ?_) rfl (by kernel_rfl) (by kernel_rfl) (by kernel_rfl) (fun _ _ _ h => h) (Or.inl ⟨by rfl, ?_⟩) hH ?_
      rotate_left
      · intro wz hSw
        (try dsimp only at hSw)
        first | (go_simp; done) | (go_simp; with_reducible rfl)
      try simp only [Act.put, List.setIfInBounds_toArray, List.set_cons_zero, List.set_cons_succ]
      refine wpAnyH_take (i := 8) (oi := { dst := some 40, op := _, type := _, pos := _, after := _, guard := _ }) (v := ?_) rfl (by kernel_rfl) (by kernel_rfl) (by kernel_rfl) (fun _ _ _ h => h) (Or.inl ⟨by rfl, ?_⟩) hH ?_
      rotate_left
      · intro wz hSw
        (try dsimp only at hSw)
        first | (go_simp; done) | (go_simp; with_reducible rfl)
      try simp only [Act.put, List.setIfInBounds_toArray, List.set_cons_zero, List.set_cons_succ]
      refine wpAnyH_take (i := 9) (oi := { dst := some 41, op := _, type := _, pos := _, after := _, guard := _ }) (v := ?_) rfl (by kernel_rfl) (by kernel_rfl) (by kernel_rfl) (fun _ _ _ h => h) (Or.inl ⟨by rfl, ?_⟩) hH ?_
      rotate_left
      · intro wz hSw
        (try dsimp only at hSw)
        first | (go_simp; done) | (go_simp; with_reducible rfl)
      try simp only [Act.put, List.setIfInBounds_toArray, List.set_cons_zero, List.set_cons_succ]
      refine wpAnyH_take (i := 10) (oi := { dst := some 42, op := _, type := _, pos := _, after := _, guard := _ }) (v := ?_) rfl (by kernel_rfl) (by kernel_rfl) (by kernel_rfl) (fun _ _ _ h => h) (Or.inl ⟨by rfl, ?_⟩) hH ?_
      rotate_left
      · intro wz hSw
        (try dsimp only at hSw)
        obtain ⟨b9, o9, e9, -, hc9⟩ := (R.later hSw).at gk
        cases e9
        have c2 := hc9 2 _ rfl
        first | (go_simp; done) | (go_simp; with_reducible rfl)
      try simp only [Act.put, List.setIfInBounds_toArray, List.set_cons_zero, List.set_cons_succ]
      refine wpAnyH_ready (rs := [11]) (by kernel_rfl) (by simp) ?_
      refine AllReadyH.cons (o := { dst := some 43, op := _, type := _, pos := _, after := _, guard := _ }) rfl (fun K hK => ?_) AllReadyH.nil
      go_simp
      refine (C.put p0 p1 vl (by intro z hz; simp only [List.mem_cons, List.not_mem_nil, or_false] at hz; rcases hz with rfl | rfl | rfl <;> assumption) (C.later A (below_draw1 _)) (by omega)).mono ?_
      rintro e u11 ⟨rfl, ⟨F', A', gF⟩, kF⟩
      go_wp2_with fail
      have gt' := grow_ge gt hsz gF
      have hbF := kF.below hsz gt
      clear A gt
      refine hK.out _ _ (hH.trans hbF) (fun hH2 => ?_)
      clear hK K hH
      have hH := hH2
      clear hH2
      try simp only [Act.put, List.setIfInBounds_toArray, List.set_cons_zero, List.set_cons_succ]
      refine wpAnyH_done (by kernel_rfl) ?_ _
      refine NoPanic.normal ?_
      go_wp2_with fail
      go_roundw
      case rel => exact ⟨k + 1, F', by omega, by go_num, by rw [NX.out]; exact A', gt', hH⟩
      case measure => simp [intOf]; omega
    · obtain rfl : k = s.length := by omega
      have hLs := (puts_len 1000 s s.length).2
      obtain ⟨L, eL⟩ : ∃ L, puts 1000 s s.length = L := ⟨_, rfl⟩
      rw [eL] at A hLs
      clear eL
      have hM := C.may A
      have hL9 : L.length ≤ 90 := by omega
      have cF := fun (u : World) (h : C.At F u Bt 1000 L) => C.find (w := u) addr wa h hL9 (bestT_is (findR L addr none))
      have IA := inAt_all addr L
      have HT : Hid (∀ e ∈ L, M.hasB e.1.1 e.1.2 addr = true → (findR L addr none).isSome = true ∧ e.1.2 ≤ (bestT (findR L addr none)).1.2) := fun e he hh => has_then he hh
      generalize (findR L addr none).isSome = isv at cF IA HT
      generalize bestT (findR L addr none) = bt at cF IA HT
      obtain ⟨⟨t0, t1⟩, t2⟩ := bt
      dsimp only at cF HT
      go_wp2_with fail
      refine (C.walk A hL9).mono ?_
      rintro e w3 ⟨x8, c8, rfl, ⟨R8, -⟩, hb3⟩
      replace A := C.later A hb3
      have hB3 := below_step hbr hb3
      clear hbr gt
      go_wp2_with fail
      refine (cF _ A).mono ?_
      rintro e w4 ⟨rfl, hb4⟩
      have hn4 := below_new w4 (.cells #[.int .i64 t0, .int .i64 t1, .int .i64 t2] 36)
      have X5 := Lies.new w4 [t0, t1, t2] 36 rfl
      replace R8 := (R8.later hb4).later hn4
      have hB5 := below_step (below_step hB3 hb4) hn4
      clear hb4 hn4 hB3 hb3 A cF
      go_wp2_with fail
      go_loopw [11, 12] (fun d i wr => ∃ k : Nat, k ≤ L.length ∧ i = .int .i64 k ∧ d = .bool (inAt addr ((t0, t1), t2) L k) ∧ Below (w4.alloc (.cells #[.int .i64 t0, .int .i64 t1, .int .i64 t2] 36)).heap.size (w4.alloc (.cells #[.int .i64 t0, .int .i64 t1, .int .i64 t2] 36)) wr) (fun _ i _ => L.length - (intOf i).toNat)
      case atStart => exact ⟨0, by omega, rfl, rfl, Below.refl _ _⟩
      case round =>
        obtain ⟨k, hk, rfl, rfl, hbr⟩ := hrel
        by_cases hlt : k < L.length
        · have gk : L[k]? = some L[k] := List.getElem?_eq_getElem hlt
          have hmk := hM L[k] (List.getElem_mem hlt)
          obtain ⟨wq0, wq1⟩ := may_wf hmk
          have hi : (k : Int) < (L.length : Int) := by omega
          have NX : Hid (inAt addr ((t0, t1), t2) L (k + 1) = (inAt addr ((t0, t1), t2) L k || (decide (L[k] = ((t0, t1), t2)) && M.hasB L[k].1.1 L[k].1.2 addr))) := inAt_next addr _ hlt
          have HT2 := HT.out L[k] (List.getElem_mem hlt)
          generalize hLk : L[k] = ek at gk hmk wq0 wq1 NX HT2
          clear hLk
          obtain ⟨⟨q0, q1⟩, q2⟩ := ek
          dsimp only at HT2 NX wq0 wq1
          generalize inAt addr ((t0, t1), t2) L k = bin at NX
          have wq : ∀ z ∈ [q0, q1, 7], (Lit.int .i64 z).wf = true := by intro z hz; simp only [List.mem_cons, List.not_mem_nil, or_false] at hz; rcases hz with rfl | rfl | rfl; exact wq0; exact wq1; decide
          obtain ⟨b, o, rfl, hbb, -⟩ := (R8.later hbr).at gk
          have hq := fun w => eq_ent q0 q1 q2 t0 t1 t2 w
          simp only [ent_dec] at hq
          cases hh : M.hasB q0 q1 addr
          · rw [hh] at NX
            clear HT2
            cases bin
            · cases he : decide ((((q0, q1), q2) : T3) = ((t0, t1), t2))
              · rw [he] at hq NX
                go_wp2_with fail
                refine (C.new 1 _).mono ?_
                rintro e w6 ⟨B1, F1, rfl, A1, g1, hb6⟩
                rw [show roomOf 1 = 1 from by decide] at A1
                have hB6 := hbr.trans (hb6.mono hbr.size)
                replace g1 := fun k hk => Nat.le_trans hbr.size (g1 k hk)
                obtain ⟨b9, o9, e9, -, hc9⟩ := (R8.later hB6).at gk
                cases e9
                have c0 := hc9 0 _ rfl
                have c1 := hc9 1 _ rfl
                rw [Nat.add_zero] at c0
                clear hc9 hb6
                go_wp2_with fail
                refine (C.put q0 q1 7 wq A1 (by simp)).mono ?_
                rw [(one_put hmk 7).1, (one_put hmk 7).2]
                rintro e w7 ⟨rfl, ⟨F7, A7, -⟩, k7⟩
                have hB7 := hB6.trans (k7.below hB6.size g1)
                clear k7 A1 c0 c1 g1 hB6
                have cO := fun (u : World) (h : C.At F7 u B1 1 [((q0, q1), 7)]) => C.find (w := u) addr wa h (by simp) (g0 := 0) (g1 := 0) (g2 := 0) (by rw [one_find, hh]; rfl)
                simp only [one_find, hh] at cO
                go_wp2_with fail
                refine (cO _ A7).mono ?_
                rintro e w8 ⟨rfl, hb8⟩
                clear cO A7
                have hn8 := below_new w8 (.cells #[.int .i64 0, .int .i64 0, .int .i64 0] 36)
                have hB8 := (hB7.trans (hb8.mono hB7.size)).trans (hn8.mono (Nat.le_trans hB7.size hb8.size))
                clear hb8 hn8 hB7
                obtain ⟨b9, o9, e9, -, hc9⟩ := (R8.later hB8).at gk
                cases e9
                have c0 := hc9 0 _ rfl
                have c1 := hc9 1 _ rfl
                have c2 := hc9 2 _ rfl
                rw [Nat.add_zero] at c0
                clear hc9
                obtain ⟨z0, z1, z2⟩ := (X5.later hB8).three
                go_wp2_with fail
                go_quiet (fail)
                go_wp2_with fail
                go_quiet (fail)
                have hB9 := hB8.trans (below_draws _ _ nq)
                go_wp2_with fail
                go_roundw
                case rel => exact ⟨k + 1, by omega, by go_num, by rw [NX.out]; simp, hB8.trans (below_draws _ _ _)⟩
                case measure => simp [intOf]; omega
              · rw [he] at hq NX
                go_wp2_with fail
                refine (C.new 1 _).mono ?_
                rintro e w6 ⟨B1, F1, rfl, A1, g1, hb6⟩
                rw [show roomOf 1 = 1 from by decide] at A1
                have hB6 := hbr.trans (hb6.mono hbr.size)
                replace g1 := fun k hk => Nat.le_trans hbr.size (g1 k hk)
                obtain ⟨b9, o9, e9, -, hc9⟩ := (R8.later hB6).at gk
                cases e9
                have c0 := hc9 0 _ rfl
                have c1 := hc9 1 _ rfl
                rw [Nat.add_zero] at c0
                clear hc9 hb6
                go_wp2_with fail
                refine (C.put q0 q1 7 wq A1 (by simp)).mono ?_
                rw [(one_put hmk 7).1, (one_put hmk 7).2]
                rintro e w7 ⟨rfl, ⟨F7, A7, -⟩, k7⟩
                have hB7 := hB6.trans (k7.below hB6.size g1)
                clear k7 A1 c0 c1 g1 hB6
                have cO := fun (u : World) (h : C.At F7 u B1 1 [((q0, q1), 7)]) => C.find (w := u) addr wa h (by simp) (g0 := 0) (g1 := 0) (g2 := 0) (by rw [one_find, hh]; rfl)
                simp only [one_find, hh] at cO
                go_wp2_with fail
                refine (cO _ A7).mono ?_
                rintro e w8 ⟨rfl, hb8⟩
                clear cO A7
                have hn8 := below_new w8 (.cells #[.int .i64 0, .int .i64 0, .int .i64 0] 36)
                have hB8 := (hB7.trans (hb8.mono hB7.size)).trans (hn8.mono (Nat.le_trans hB7.size hb8.size))
                clear hb8 hn8 hB7
                obtain ⟨b9, o9, e9, -, hc9⟩ := (R8.later hB8).at gk
                cases e9
                have c0 := hc9 0 _ rfl
                have c1 := hc9 1 _ rfl
                have c2 := hc9 2 _ rfl
                rw [Nat.add_zero] at c0
                clear hc9
                obtain ⟨z0, z1, z2⟩ := (X5.later hB8).three
                go_wp2_with fail
                go_quiet (fail)
                go_wp2_with fail
                go_quiet (fail)
                have hB9 := hB8.trans (below_draws _ _ nq)
                go_wp2_with fail
                go_roundw
                case rel => exact ⟨k + 1, by omega, by go_num, by rw [NX.out]; simp, hB8.trans (below_draws _ _ _)⟩
                case measure => simp [intOf]; omega
            · go_wp2_with fail
              refine (C.new 1 _).mono ?_
              rintro e w6 ⟨B1, F1, rfl, A1, g1, hb6⟩
              rw [show roomOf 1 = 1 from by decide] at A1
              have hB6 := hbr.trans (hb6.mono hbr.size)
              replace g1 := fun k hk => Nat.le_trans hbr.size (g1 k hk)
              obtain ⟨b9, o9, e9, -, hc9⟩ := (R8.later hB6).at gk
              cases e9
              have c0 := hc9 0 _ rfl
              have c1 := hc9 1 _ rfl
              rw [Nat.add_zero] at c0
              clear hc9 hb6
              go_wp2_with fail
              refine (C.put q0 q1 7 wq A1 (by simp)).mono ?_
              rw [(one_put hmk 7).1, (one_put hmk 7).2]
              rintro e w7 ⟨rfl, ⟨F7, A7, -⟩, k7⟩
              have hB7 := hB6.trans (k7.below hB6.size g1)
              clear k7 A1 c0 c1 g1 hB6
              have cO := fun (u : World) (h : C.At F7 u B1 1 [((q0, q1), 7)]) => C.find (w := u) addr wa h (by simp) (g0 := 0) (g1 := 0) (g2 := 0) (by rw [one_find, hh]; rfl)
              simp only [one_find, hh] at cO
              go_wp2_with fail
              refine (cO _ A7).mono ?_
              rintro e w8 ⟨rfl, hb8⟩
              clear cO A7
              have hn8 := below_new w8 (.cells #[.int .i64 0, .int .i64 0, .int .i64 0] 36)
              have hB8 := (hB7.trans (hb8.mono hB7.size)).trans (hn8.mono (Nat.le_trans hB7.size hb8.size))
              clear hb8 hn8 hB7
              obtain ⟨b9, o9, e9, -, hc9⟩ := (R8.later hB8).at gk
              cases e9
              have c0 := hc9 0 _ rfl
              have c1 := hc9 1 _ rfl
              have c2 := hc9 2 _ rfl
              rw [Nat.add_zero] at c0
              clear hc9
              obtain ⟨z0, z1, z2⟩ := (X5.later hB8).three
              go_wp2_with fail
              go_quiet (fail)
              go_wp2_with fail
              go_quiet (fail)
              have hB9 := hB8.trans (below_draws _ _ nq)
              go_wp2_with fail
              go_roundw
              case rel => exact ⟨k + 1, by omega, by go_num, by rw [NX.out]; simp, hB8.trans (below_draws _ _ _)⟩
              case measure => simp [intOf]; omega
          · rw [hh] at NX
            obtain ⟨rfl, hle⟩ := HT2 hh
            have hgt : decide (t1 < q1) = false := decide_eq_false (by omega)
            clear HT2 hle
            cases bin
            · cases he : decide ((((q0, q1), q2) : T3) = ((t0, t1), t2))
              · rw [he] at hq NX
                go_wp2_with fail
                refine (C.new 1 _).mono ?_
                rintro e w6 ⟨B1, F1, rfl, A1, g1, hb6⟩
                rw [show roomOf 1 = 1 from by decide] at A1
                have hB6 := hbr.trans (hb6.mono hbr.size)
                replace g1 := fun k hk => Nat.le_trans hbr.size (g1 k hk)
                obtain ⟨b9, o9, e9, -, hc9⟩ := (R8.later hB6).at gk
                cases e9
                have c0 := hc9 0 _ rfl
                have c1 := hc9 1 _ rfl
                rw [Nat.add_zero] at c0
                clear hc9 hb6
                go_wp2_with fail
                refine (C.put q0 q1 7 wq A1 (by simp)).mono ?_
                rw [(one_put hmk 7).1, (one_put hmk 7).2]
                rintro e w7 ⟨rfl, ⟨F7, A7, -⟩, k7⟩
                have hB7 := hB6.trans (k7.below hB6.size g1)
                clear k7 A1 c0 c1 g1 hB6
                have cO := fun (u : World) (h : C.At F7 u B1 1 [((q0, q1), 7)]) => C.find (w := u) addr wa h (by simp) (g0 := q0) (g1 := q1) (g2 := 7) (by rw [one_find, hh]; rfl)
                simp only [one_find, hh] at cO
                go_wp2_with fail
                refine (cO _ A7).mono ?_
                rintro e w8 ⟨rfl, hb8⟩
                clear cO A7
                have hn8 := below_new w8 (.cells #[.int .i64 q0, .int .i64 q1, .int .i64 7] 36)
                have hB8 := (hB7.trans (hb8.mono hB7.size)).trans (hn8.mono (Nat.le_trans hB7.size hb8.size))
                clear hb8 hn8 hB7
                obtain ⟨b9, o9, e9, -, hc9⟩ := (R8.later hB8).at gk
                cases e9
                have c0 := hc9 0 _ rfl
                have c1 := hc9 1 _ rfl
                have c2 := hc9 2 _ rfl
                rw [Nat.add_zero] at c0
                clear hc9
                obtain ⟨z0, z1, z2⟩ := (X5.later hB8).three
                go_wp2_with fail
                go_quiet (fail)
                go_wp2_with fail
                go_quiet (fail)
                have hB9 := hB8.trans (below_draws _ _ nq)
                go_wp2_with fail
                go_roundw
                case rel => exact ⟨k + 1, by omega, by go_num, by rw [NX.out]; simp, hB8.trans (below_draws _ _ _)⟩
                case measure => simp [intOf]; omega
              · rw [he] at hq NX
                go_wp2_with fail
                refine (C.new 1 _).mono ?_
                rintro e w6 ⟨B1, F1, rfl, A1, g1, hb6⟩
                rw [show roomOf 1 = 1 from by decide] at A1
                have hB6 := hbr.trans (hb6.mono hbr.size)
                replace g1 := fun k hk => Nat.le_trans hbr.size (g1 k hk)
                obtain ⟨b9, o9, e9, -, hc9⟩ := (R8.later hB6).at gk
                cases e9
                have c0 := hc9 0 _ rfl
                have c1 := hc9 1 _ rfl
                rw [Nat.add_zero] at c0
                clear hc9 hb6
                go_wp2_with fail
                refine (C.put q0 q1 7 wq A1 (by simp)).mono ?_
                rw [(one_put hmk 7).1, (one_put hmk 7).2]
                rintro e w7 ⟨rfl, ⟨F7, A7, -⟩, k7⟩
                have hB7 := hB6.trans (k7.below hB6.size g1)
                clear k7 A1 c0 c1 g1 hB6
                have cO := fun (u : World) (h : C.At F7 u B1 1 [((q0, q1), 7)]) => C.find (w := u) addr wa h (by simp) (g0 := q0) (g1 := q1) (g2 := 7) (by rw [one_find, hh]; rfl)
                simp only [one_find, hh] at cO
                go_wp2_with fail
                refine (cO _ A7).mono ?_
                rintro e w8 ⟨rfl, hb8⟩
                clear cO A7
                have hn8 := below_new w8 (.cells #[.int .i64 q0, .int .i64 q1, .int .i64 7] 36)
                have hB8 := (hB7.trans (hb8.mono hB7.size)).trans (hn8.mono (Nat.le_trans hB7.size hb8.size))
                clear hb8 hn8 hB7
                obtain ⟨b9, o9, e9, -, hc9⟩ := (R8.later hB8).at gk
                cases e9
                have c0 := hc9 0 _ rfl
                have c1 := hc9 1 _ rfl
                have c2 := hc9 2 _ rfl
                rw [Nat.add_zero] at c0
                clear hc9
                obtain ⟨z0, z1, z2⟩ := (X5.later hB8).three
                go_wp2_with fail
                go_quiet (fail)
                go_wp2_with fail
                go_quiet (fail)
                have hB9 := hB8.trans (below_draws _ _ nq)
                go_wp2_with fail
                go_roundw
                case rel => exact ⟨k + 1, by omega, by go_num, by rw [NX.out]; simp, hB8.trans (below_draws _ _ _)⟩
                case measure => simp [intOf]; omega
            · go_wp2_with fail
              refine (C.new 1 _).mono ?_
              rintro e w6 ⟨B1, F1, rfl, A1, g1, hb6⟩
              rw [show roomOf 1 = 1 from by decide] at A1
              have hB6 := hbr.trans (hb6.mono hbr.size)
              replace g1 := fun k hk => Nat.le_trans hbr.size (g1 k hk)
              obtain ⟨b9, o9, e9, -, hc9⟩ := (R8.later hB6).at gk
              cases e9
              have c0 := hc9 0 _ rfl
              have c1 := hc9 1 _ rfl
              rw [Nat.add_zero] at c0
              clear hc9 hb6
              go_wp2_with fail
              refine (C.put q0 q1 7 wq A1 (by simp)).mono ?_
              rw [(one_put hmk 7).1, (one_put hmk 7).2]
              rintro e w7 ⟨rfl, ⟨F7, A7, -⟩, k7⟩
              have hB7 := hB6.trans (k7.below hB6.size g1)
              clear k7 A1 c0 c1 g1 hB6
              have cO := fun (u : World) (h : C.At F7 u B1 1 [((q0, q1), 7)]) => C.find (w := u) addr wa h (by simp) (g0 := q0) (g1 := q1) (g2 := 7) (by rw [one_find, hh]; rfl)
              simp only [one_find, hh] at cO
              go_wp2_with fail
              refine (cO _ A7).mono ?_
              rintro e w8 ⟨rfl, hb8⟩
              clear cO A7
              have hn8 := below_new w8 (.cells #[.int .i64 q0, .int .i64 q1, .int .i64 7] 36)
              have hB8 := (hB7.trans (hb8.mono hB7.size)).trans (hn8.mono (Nat.le_trans hB7.size hb8.size))
              clear hb8 hn8 hB7
              obtain ⟨b9, o9, e9, -, hc9⟩ := (R8.later hB8).at gk
              cases e9
              have c0 := hc9 0 _ rfl
              have c1 := hc9 1 _ rfl
              have c2 := hc9 2 _ rfl
              rw [Nat.add_zero] at c0
              clear hc9
              obtain ⟨z0, z1, z2⟩ := (X5.later hB8).three
              go_wp2_with fail
              go_quiet (fail)
              go_wp2_with fail
              go_quiet (fail)
              have hB9 := hB8.trans (below_draws _ _ nq)
              go_wp2_with fail
              go_roundw
              case rel => exact ⟨k + 1, by omega, by go_num, by rw [NX.out]; simp, hB8.trans (below_draws _ _ _)⟩
              case measure => simp [intOf]; omega
        · have e1 : k = L.length := by omega
          rw [e1, IA]
          go_wp2_with fail
          go_ret
          exact ⟨ret_bool (by simp), hB5.trans (hbr.mono hB5.size)⟩
end Go.Proofs.Ytlgldoggnlcbkaa.trieFinds
