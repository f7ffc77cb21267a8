/- TrieLast, of whatever code keeps the interface. -/
import Derived.Test.YtlgldoggnlcbkabTrieHave
namespace Go.Proofs.Ytlgldoggnlcbkab.trieLast
open Go.ChangeShapes Go.WideShapes Go.ChangeAt Go.RowKit Tt
set_option linter.unusedVariables false
set_option linter.unusedSimpArgs false

set_option maxRecDepth 100000 in
set_option maxHeartbeats 8000000 in
theorem walk_of (C : Code) (x : Option Addr) (c : Nat) (s : List T3) (r0 r1 r2 : Int) (wr0 : (Lit.int .i64 r0).wf = true) (wr1 : (Lit.int .i64 r1).wf = true) (wr2 : (Lit.int .i64 r2).wf = true) (hme : M.mayB r0 r1 = true) (w : World) (R : Rds fE 3 w x c s) (hl : s.length ≤ 60) :
    Calls Try.prog 3 #[.slice x s.length c, .agg #[.int .i64 r0, .int .i64 r1, .int .i64 r2]] w fun e w' => e = .returned (.bool true) ∧ Below w.heap.size w w' := by
  have hmx := Nat.le_trans R.le R.max
  unfold maxLen at hmx
  have hn := below_new w (.cells #[.int .i64 r0, .int .i64 r1, .int .i64 r2] 26)
  have X := Lies.new w [r0, r1, r2] 26 rfl
  have cm := fun w => may_any r0 r1 w
  rw [hme] at cm
  go_enter Try.func3, Try.ntmps3
  go_wp2_with fail
  refine (awake7_of C _).mono ?_
  rintro e w0 ⟨rfl, hb0⟩
  obtain ⟨x0, x1, x2⟩ := (X.later hb0).three
  go_wp2_with fail
  refine (cm _).mono ?_
  rintro e w1 ⟨rfl, hb1⟩
  replace X := (X.later hb0).later hb1
  have hw1 := below_step (below_step hn hb0) hb1
  replace R := R.later hw1
  clear hn hb0 hb1 x0 x1 x2 cm
  go_wp2_with fail
  refine (C.new 1000 _).mono ?_
  rintro e w2 ⟨Bt, F0, rfl, A0, g0, hB2⟩
  rw [show roomOf 1000 = 1000 from by decide] at A0
  go_wp2_with fail
  go_loopw [7] (fun i wr => ∃ (k : Nat) (F : Nat → Prop), k ≤ s.length ∧ i = .int .i64 k ∧ C.At F wr Bt 1000 (puts 1000 s k) ∧ (∀ k, F k → w1.heap.size ≤ k) ∧ Below w1.heap.size w1 wr) (fun i _ => s.length - (intOf i).toNat)
  case atStart => exact ⟨0, F0, by omega, rfl, A0, g0, hB2⟩
  case round =>
    obtain ⟨k, F, hk, rfl, A, gt, hbr⟩ := hrel
    clear A0 g0
    by_cases hlt : k < s.length
    · have gk : s[k]? = some s[k] := List.getElem?_eq_getElem hlt
      obtain ⟨b, o, rfl, hbb, -⟩ := (R.later hbr).at gk
      have hi : (k : Int) < (s.length : Int) := by omega
      have hwf := R.wf s[k] (List.getElem_mem hlt)
      have NX : Hid (puts 1000 s (k + 1) = putTo 1000 (puts 1000 s k) s[k]) := puts_next 1000 hlt
      have hLk := (puts_len 1000 s k).1
      generalize hsk : s[k] = sk at gk hwf NX
      obtain ⟨⟨p0, p1⟩, vl⟩ := sk
      obtain ⟨L, eL⟩ : ∃ L, puts 1000 s k = L := ⟨_, rfl⟩
      rw [eL] at A NX hLk
      clear eL hsk
      have wp0 := hwf p0 (by simp [fE])
      have wp1 := hwf p1 (by simp [fE])
      have wvl := hwf vl (by simp [fE])
      have hsz := hbr.size
      have S0 : Below w1.heap.size w1 wr.drew := hbr.drew
      go_wp2_with fail
      refine wp_region_noPanic ?_
      refine wp_region_held_drew (S := fun w' => Below w1.heap.size w1 w') (by kernel_rfl) S0 (fun hH => ?_)
      clear S0
      refine wpAnyH_take (i := 0) (oi := { dst := some 36, op := _, type := _, pos := _, after := _, guard := _ }) (v := ?_) rfl (by kernel_rfl) (by kernel_rfl) (by kernel_rfl) (fun _ _ _ h => h) (Or.inl ⟨by rfl, ?_⟩) hH ?_
      rotate_left
      · intro wz hSw
        (try dsimp only at hSw)
        first | (go_simp; done) | (go_simp; with_reducible rfl)
      try simp only [Act.put, List.setIfInBounds_toArray, List.set_cons_zero, List.set_cons_succ]
      refine wpAnyH_take (i := 1) (oi := { dst := some 37, op := _, type := _, pos := _, after := _, guard := _ }) (v := ?_) rfl (by kernel_rfl) (by kernel_rfl) (by kernel_rfl) (fun _ _ _ h => h) (Or.inl ⟨by rfl, ?_⟩) hH ?_
      rotate_left
      · intro wz hSw
        (try dsimp only at hSw)
        first | (go_simp; done) | (go_simp; with_reducible rfl)
      try simp only [Act.put, List.setIfInBounds_toArray, List.set_cons_zero, List.set_cons_succ]
      refine wpAnyH_take (i := 2) (oi := { dst := some 38, op := _, type := _, pos := _, after := _, guard := _ }) (v := ?_) rfl (by kernel_rfl) (by kernel_rfl) (by kernel_rfl) (fun _ _ _ h => h) (Or.inl ⟨by rfl, ?_⟩) hH ?_
      rotate_left
      · intro wz hSw
        (try dsimp only at hSw)
        first | (go_simp; done) | (go_simp; with_reducible rfl)
      try simp only [Act.put, List.setIfInBounds_toArray, List.set_cons_zero, List.set_cons_succ]
      refine wpAnyH_take (i := 3) (oi := { dst := some 39, op := _, type := _, pos := _, after := _, guard := _ }) (v := ?_) rfl (by kernel_rfl) (by kernel_rfl) (by kernel_rfl) (fun _ _ _ h => h) (Or.inl ⟨by rfl, ?_⟩) hH ?_
      rotate_left
      · intro wz hSw
        (try dsimp only at hSw)
        first | (go_simp; done) | (go_simp; with_reducible rfl)
      try simp only [Act.put, List.setIfInBounds_toArray, List.set_cons_zero, List.set_cons_succ]
      refine wpAnyH_take (i := 4) (oi := { dst := some 40, op := _, type := _, pos := _, after := _, guard := _ }) (v := ?_) rfl (by kernel_rfl) (by kernel_rfl) (by kernel_rfl) (fun _ _ _ h => h) (Or.inl ⟨by rfl, ?_⟩) hH ?_
      rotate_left
      · intro wz hSw
        (try dsimp only at hSw)
        first | (go_simp; done) | (go_simp; with_reducible rfl)
      try simp only [Act.put, List.setIfInBounds_toArray, List.set_cons_zero, List.set_cons_succ]
      refine wpAnyH_take (i := 5) (oi := { dst := some 41, op := _, type := _, pos := _, after := _, guard := _ }) (v := ?_) rfl (by kernel_rfl) (by kernel_rfl) (by kernel_rfl) (fun _ _ _ h => h) (Or.inl ⟨by rfl, ?_⟩) hH ?_
      rotate_left
      · intro wz hSw
        (try dsimp only at hSw)
        obtain ⟨b9, o9, e9, -, hc9⟩ := (R.later hSw).at gk
        cases e9
        have c0 := hc9 0 _ rfl
        have c1 := hc9 1 _ rfl
        rw [Nat.add_zero] at c0
        first | (go_simp; done) | (go_simp; with_reducible rfl)
      try simp only [Act.put, List.setIfInBounds_toArray, List.set_cons_zero, List.set_cons_succ]
      refine wpAnyH_take (i := 6) (oi := { dst := some 42, op := _, type := _, pos := _, after := _, guard := _ }) (v := ?_) rfl (by kernel_rfl) (by kernel_rfl) (by kernel_rfl) (fun _ _ _ h => h) (Or.inl ⟨by rfl, ?_⟩) hH ?_
      rotate_left
      · intro wz hSw
        (try dsimp only at hSw)
        first | (go_simp; done) | (go_simp; with_reducible rfl)
      try simp only [Act.put, List.setIfInBounds_toArray, List.set_cons_zero, List.set_cons_succ]
      refine wpAnyH_take (i := 7) (oi := { dst := some 43, op := _, type := _, pos := _, after := _, guard := _ }) (v := ?_) rfl (by kernel_rfl) (by kernel_rfl) (by kernel_rfl) (fun _ _ _ h => h) (Or.inl ⟨by rfl, ?_⟩) hH ?_
      rotate_left
      · intro wz hSw
        (try dsimp only at hSw)
        first | (go_simp; done) | (go_simp; with_reducible rfl)
      try simp only [Act.put, List.setIfInBounds_toArray, List.set_cons_zero, List.set_cons_succ]
      refine wpAnyH_take (i := 8) (oi := { dst := some 44, op := _, type := _, pos := _, after := _, guard := _ }) (v := ?_) rfl (by kernel_rfl) (by kernel_rfl) (by kernel_rfl) (fun _ _ _ h => h) (Or.inl ⟨by rfl, ?_⟩) hH ?_
      rotate_left
      · intro wz hSw
        (try dsimp only at hSw)
        first | (go_simp; done) | (go_simp; with_reducible rfl)
      try simp only [Act.put, List.setIfInBounds_toArray, List.set_cons_zero, List.set_cons_succ]
      refine wpAnyH_take (i := 9) (oi := { dst := some 45, op := _, type := _, pos := _, after := _, guard := _ }) (v := ?_) rfl (by kernel_rfl) (by kernel_rfl) (by kernel_rfl) (fun _ _ _ h => h) (Or.inl ⟨by rfl, ?_⟩) hH ?_
      rotate_left
      · intro wz hSw
        (try dsimp only at hSw)
        first | (go_simp; done) | (go_simp; with_reducible rfl)
      try simp only [Act.put, List.setIfInBounds_toArray, List.set_cons_zero, List.set_cons_succ]
      refine wpAnyH_take (i := 10) (oi := { dst := some 46, op := _, type := _, pos := _, after := _, guard := _ }) (v := ?_) rfl (by kernel_rfl) (by kernel_rfl) (by kernel_rfl) (fun _ _ _ h => h) (Or.inl ⟨by rfl, ?_⟩) hH ?_
      rotate_left
      · intro wz hSw
        (try dsimp only at hSw)
        obtain ⟨b9, o9, e9, -, hc9⟩ := (R.later hSw).at gk
        cases e9
        have c2 := hc9 2 _ rfl
        first | (go_simp; done) | (go_simp; with_reducible rfl)
      try simp only [Act.put, List.setIfInBounds_toArray, List.set_cons_zero, List.set_cons_succ]
      refine wpAnyH_ready (rs := [11]) (by kernel_rfl) (by simp) ?_
      refine AllReadyH.cons (o := { dst := some 47, op := _, type := _, pos := _, after := _, guard := _ }) rfl (fun K hK => ?_) AllReadyH.nil
      go_simp
      refine (C.put p0 p1 vl (by intro z hz; simp only [List.mem_cons, List.not_mem_nil, or_false] at hz; rcases hz with rfl | rfl | rfl <;> assumption) (C.later A (below_draw1 _)) (by omega)).mono ?_
      rintro e u11 ⟨rfl, ⟨F', A', gF⟩, kF⟩
      go_wp2_with fail
      have gt' := grow_ge gt hsz gF
      have hbF := kF.below hsz gt
      clear A gt
      refine hK.out _ _ (hH.trans hbF) (fun hH2 => ?_)
      clear hK K hH
      have hH := hH2
      clear hH2
      try simp only [Act.put, List.setIfInBounds_toArray, List.set_cons_zero, List.set_cons_succ]
      refine wpAnyH_done (by kernel_rfl) ?_ _
      refine NoPanic.normal ?_
      go_wp2_with fail
      go_roundw
      case rel => exact ⟨k + 1, F', by omega, by go_num, by rw [NX.out]; exact A', gt', hH⟩
      case measure => simp [intOf]; omega
    · obtain rfl : k = s.length := by omega
      have hLs := (puts_len 1000 s s.length).2
      have hrep := rep_puts 1000 s s.length
      obtain ⟨L0, eL⟩ : ∃ L, puts 1000 s s.length = L := ⟨_, rfl⟩
      rw [eL] at A hLs hrep
      clear eL
      have hpl := put_len 1000 L0 ((r0, r1), r2)
      obtain ⟨PA1, PA2, PA3⟩ := put_again hrep (by omega) (e := ((r0, r1), r2)) hme
      have wz : ∀ z ∈ [r0, r1, r2], (Lit.int .i64 z).wf = true := by intro z hz; simp only [List.mem_cons, List.not_mem_nil, or_false] at hz; rcases hz with rfl | rfl | rfl <;> assumption
      have cP := fun (u : World) (F : Nat → Prop) (h : C.At F u Bt 1000 L0) => C.put (w := u) r0 r1 r2 wz h (by omega)
      have cP2 := fun (u : World) (F : Nat → Prop) (h : C.At F u Bt 1000 (putTo 1000 L0 ((r0, r1), r2))) => C.put (w := u) r0 r1 r2 wz h (by omega)
      simp only [PA1, PA2] at cP2
      have IA := inE_all PA3
      clear PA1 PA2 PA3 hrep
      generalize putTo 1000 L0 ((r0, r1), r2) = L at cP cP2 IA hpl
      have hL9 : L.length ≤ 90 := by omega
      obtain ⟨x0, x1, x2⟩ := (X.later hbr).three
      have hsz := hbr.size
      have HG : Hid _ := gt
      clear gt hlt
      go_wp2_with fail
      refine (cP _ F A).mono ?_
      rintro e w3 ⟨rfl, ⟨F3, A3, g3⟩, k3⟩
      have gt3 := grow_ge HG.out hsz g3
      have hB3 := hbr.trans (k3.below hsz HG.out)
      clear HG g3 k3 A cP hbr x0 x1 x2 hsz
      have hFl := C.lt A3
      go_wp2_with fail
      refine (C.walk A3 hL9).mono ?_
      rintro e w4 ⟨x9, c9, rfl, ⟨R9, h9⟩, hb4⟩
      have O9 := out_new (l := L) h9 hFl
      have HO : Hid _ := And.intro O9 gt3
      clear O9 gt3 h9 hFl
      replace A3 := C.later A3 hb4
      have hB4 := below_step hB3 hb4
      clear hb4 hB3
      go_wp2_with fail
      go_loopw [8, 10] (fun d i wr => ∃ k : Nat, k ≤ L.length ∧ i = .int .i64 k ∧ d = .bool (inE ((r0, r1), r2) L k) ∧ Below w4.heap.size w4 wr) (fun _ i _ => L.length - (intOf i).toNat)
      case atStart => exact ⟨0, by omega, rfl, rfl, Below.refl _ _⟩
      case round =>
        obtain ⟨k, hk, rfl, rfl, hbr⟩ := hrel
        have hB5 := below_step hB4 hbr
        obtain ⟨x0, x1, x2⟩ := (X.later hB5).three
        by_cases hlt : k < L.length
        · have gk : L[k]? = some L[k] := List.getElem?_eq_getElem hlt
          have hi : (k : Int) < (L.length : Int) := by omega
          have NX : Hid (inE ((r0, r1), r2) L (k + 1) = (inE ((r0, r1), r2) L k || decide (L[k] = ((r0, r1), r2)))) := inE_next _ hlt
          generalize hLk : L[k] = ek at gk NX
          clear hLk
          obtain ⟨⟨q0, q1⟩, q2⟩ := ek
          generalize inE ((r0, r1), r2) L k = bin at NX
          obtain ⟨b, o, rfl, hbb, hc9⟩ := (R9.later hbr).at gk
          have c0 := hc9 0 _ rfl
          have c1 := hc9 1 _ rfl
          have c2 := hc9 2 _ rfl
          rw [Nat.add_zero] at c0
          clear hc9
          have hq := fun w => eq_ent q0 q1 q2 r0 r1 r2 w
          simp only [ent_dec] at hq
          cases bin
          · cases he : decide ((((q0, q1), q2) : T3) = ((r0, r1), r2))
            · rw [he] at hq NX
              go_wp2_with fail
              go_quiet (fail)
              go_wp2_with fail
              go_roundw
              case rel => exact ⟨k + 1, by omega, by go_num, by rw [NX.out]; simp, hbr.trans (below_draws _ _ _)⟩
              case measure => simp [intOf]; omega
            · rw [he] at hq NX
              go_wp2_with fail
              go_quiet (fail)
              go_wp2_with fail
              go_roundw
              case rel => exact ⟨k + 1, by omega, by go_num, by rw [NX.out]; simp, hbr.trans (below_draws _ _ _)⟩
              case measure => simp [intOf]; omega
          · go_wp2_with fail
            go_quiet (fail)
            go_wp2_with fail
            go_roundw
            case rel => exact ⟨k + 1, by omega, by go_num, by rw [NX.out]; simp, hbr.trans (below_draws _ _ _)⟩
            case measure => simp [intOf]; omega
        · have e1 : k = L.length := by omega
          subst e1
          rw [IA]
          replace A3 := C.later A3 hbr
          have R5 := R9.later hbr
          go_wp2_with fail
          refine (C.nodes A3 hL9).mono ?_
          rintro e w6 ⟨rfl, hb6⟩
          replace A3 := C.later A3 hb6
          replace R5 := R5.later hb6
          have hB6 := below_step hB5 hb6
          clear x0 x1 x2 hb6
          obtain ⟨x0, x1, x2⟩ := (X.later hB6).three
          go_wp2_with fail
          refine (cP2 _ F3 A3).mono ?_
          rintro e w7 ⟨rfl, ⟨F7, A7, -⟩, k7⟩
          have hB7 := hB6.trans (k7.below hB6.size HO.out.2)
          replace R5 := R5.kept k7 HO.out.1
          clear HO k7 A3 cP2 x0 x1 x2 hB6 hB5
          go_wp2_with fail
          refine (C.walk A7 hL9).mono ?_
          rintro e w8 ⟨x3, c3, rfl, ⟨R3, -⟩, hb8⟩
          replace A7 := C.later A7 hb8
          replace R5 := R5.later hb8
          have hB8 := below_step hB7 hb8
          clear hb8 hB7
          go_wp2_with fail
          refine (rsame_any _ R3 R5).mono ?_
          rintro e w9 ⟨rfl, hb9⟩
          replace A7 := C.later A7 hb9
          have hB9 := below_step hB8 hb9
          clear hb9 hB8 R3 R5
          have hd : decide (L = L) = true := by simp
          have hcc : (count L == count L) = true := by simp
          go_wp2_with fail
          refine (C.nodes A7 hL9).mono ?_
          rintro e w10 ⟨rfl, hb10⟩
          go_wp2_with fail
          go_ret
          exact ⟨rfl, below_step hw1 (below_step hB9 hb10)⟩
end Go.Proofs.Ytlgldoggnlcbkab.trieLast
