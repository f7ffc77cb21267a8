/- practice -/
import Derived.Test.YtlgldoggnlcbkaaTrieAwake
namespace Go.Proofs.Ytlgldoggnlcbkaa.trieDoes
open Go.ChangeShapes Go.WideShapes Go.ChangeAt Go.RowKit Tt
set_option linter.unusedVariables false
set_option linter.unusedSimpArgs false

theorem kept_b {w w' w2 : World} (h : Below w.heap.size w w') (hb : Below w'.heap.size w' w2) : Below w.heap.size w w2 := below_step h hb
theorem kept_20 {w w' w2 : World} {B n c m : Nat} {a : Option Addr} (h : Below w.heap.size w w' ∧ B < w'.heap.size ∧ w'.cell? ⟨B, 0, none⟩ = some (.slice a n c) ∧ m ≤ w'.heap.size) (hb : Below w'.heap.size w' w2) : Below w.heap.size w w2 ∧ B < w2.heap.size ∧ w2.cell? ⟨B, 0, none⟩ = some (.slice a n c) ∧ m ≤ w2.heap.size :=
  ⟨below_step h.1 hb, Nat.lt_of_lt_of_le h.2.1 hb.size, (hb.cell (p := ⟨B, 0, none⟩) h.2.1).trans h.2.2.1, Nat.le_trans h.2.2.2 hb.size⟩
theorem grow_apart {F F' G : Nat → Prop} {w w' : World} (h : ∀ k, F k → ¬ G k) (hG : ∀ k, G k → k < w.heap.size) (g : ∀ k, F' k → Grow F w w' k) : ∀ k, F' k → ¬ G k := by
  intro k hk hg
  rcases g k hk with h1 | ⟨h1, _⟩
  · exact h k h1 hg
  · have := hG k hg; omega
theorem grow_lt {G G' : Nat → Prop} {w w' : World} (hG : ∀ k, G k → k < w.heap.size) (g : ∀ k, G' k → Grow G w w' k) (hs : w.heap.size ≤ w'.heap.size) : ∀ k, G' k → k < w'.heap.size := by
  intro k hk
  rcases g k hk with h1 | ⟨_, h1⟩
  · exact Nat.lt_of_lt_of_le (hG k h1) hs
  · exact h1
theorem best_three (b : Option T3) : ∃ g0 g1 g2, bestE b = [g0, g1, g2] := by cases b <;> exact ⟨_, _, _, rfl⟩
def doTo (room : Int) (l : List T3) (o : Op7) : List T3 := if o.kind = 0 then putTo room l (o.p, o.value) else if o.kind = 1 then cutTo l o.p else l
def doAll (room : Int) (s : List Op7) (k : Nat) : List T3 := (s.take k).foldl (doTo room) []
theorem do_next (room : Int) {s : List Op7} {k : Nat} (h : k < s.length) : doAll room s (k + 1) = doTo room (doAll room s k) s[k] := by
  unfold doAll
  rw [List.take_succ_eq_append_getElem h, List.foldl_append]
  rfl
theorem cut_len (l : List T3) (p : P2) : (cutTo l p).length ≤ l.length := by
  unfold cutTo
  split
  · exact List.length_filter_le _ _
  · exact Nat.le_refl _
theorem doTo_len (room : Int) (l : List T3) (o : Op7) : (doTo room l o).length ≤ l.length + 1 := by
  unfold doTo
  split
  · exact put_len _ _ _
  · split
    · have := cut_len l o.p; omega
    · omega
theorem fold_len (room : Int) (s : List Op7) (l : List T3) : (s.foldl (doTo room) l).length ≤ l.length + s.length := by
  induction s generalizing l with
  | nil => exact Nat.le_refl _
  | cons o s ih =>
    rw [List.foldl_cons]
    have h1 := ih (doTo room l o)
    have h2 := doTo_len room l o
    simp only [List.length_cons]
    omega
theorem do_len (room : Int) (s : List Op7) (k : Nat) : (doAll room s k).length ≤ k := by
  have h1 := fold_len room (s.take k) []
  have h2 : (s.take k).length ≤ k := by simp; omega
  unfold doAll
  simp only [List.length_nil] at h1
  omega
set_option maxRecDepth 100000 in
set_option maxHeartbeats 8000000 in
theorem walk_of (C : Code) (n : Int) (x : Option Addr) (c : Nat) (s : List Op7) (wn : (Lit.int .i64 n).wf = true) (w : World) (R : Rds fO 4 w x c s) (hl : s.length ≤ 60) :
    Calls Try.prog 3 #[.int .i64 n, .slice x s.length c] w fun e w' => e = .returned (.bool true) ∧ Below w.heap.size w w' := by
  have hmx := Nat.le_trans R.le R.max
  unfold maxLen at hmx
  go_enter Try.func3, Try.ntmps3
  go_wp2_with fail
  refine (awake7_of C _).mono ?_
  rintro e w1 ⟨rfl, hb1⟩
  go_wp2_with fail
  refine (C.new n _).mono ?_
  rintro e w2 ⟨Bt, F0, rfl, A0, g0, hb2⟩
  go_wp2_with fail
  refine (rNew_any n _).mono ?_
  rintro e w3 ⟨rfl, L0, hb3⟩
  have A03 := C.later A0 hb3
  have hB3 := below_step (below_step hb1 hb2) hb3
  obtain ⟨room, er⟩ : ∃ r, roomOf n = r := ⟨_, rfl⟩
  rw [er] at A03 L0
  obtain ⟨Br, eB⟩ : ∃ b, w2.heap.size = b := ⟨_, rfl⟩
  rw [eB] at L0
  have h12 := hb1.size
  have h22 := hb2.size
  have hlt0 := C.lt A0
  go_wp2_with fail
  go_loopw [8] (fun i wr => ∃ (k : Nat) (F G : Nat → Prop), k ≤ s.length ∧ i = .int .i64 k ∧ C.At F wr Bt room (doAll room s k) ∧ LAt G wr Br room (doAll room s k) ∧ (∀ k, F k → ¬ G k) ∧ (∀ k, F k → w.heap.size ≤ k) ∧ (∀ k, G k → w.heap.size ≤ k) ∧ (∀ k, G k → k < wr.heap.size) ∧ Below w.heap.size w wr) (fun i _ => s.length - (intOf i).toNat)
  case atStart => exact ⟨0, F0, fun k => k = Br, by omega, rfl, A03, L0, fun k hf hg => by have := hlt0 k hf; omega, fun k hk => by have := g0 k hk; omega, fun k hk => by omega, fun k hk => by rw [hk]; exact L0.lt, hB3⟩
  case round =>
    obtain ⟨k, F, G, hk, rfl, A, LR, hap, gt, gr, hGl, hbr⟩ := hrel
    clear A03 L0 A0 g0 hlt0
    by_cases hlt : k < s.length
    · have gk : s[k]? = some s[k] := List.getElem?_eq_getElem hlt
      obtain ⟨b, o, rfl, hbb, hc⟩ := (R.later hbr).at gk
      have hi : (k : Int) < (s.length : Int) := by omega
      have hwf := R.wf s[k] (List.getElem_mem hlt)
      have NX : Hid (doAll room s (k + 1) = doTo room (doAll room s k) s[k]) := do_next room hlt
      have hLk := do_len room s k
      have hM := C.may A
      generalize hsk : s[k] = sk at gk hwf NX hc
      obtain ⟨kd, vl, ⟨p0, p1⟩⟩ := sk
      obtain ⟨L, eL⟩ : ∃ L, doAll room s k = L := ⟨_, rfl⟩
      rw [eL] at A LR NX hLk hM
      clear eL hsk
      have c0 := hc 0 _ rfl
      have c1 := hc 1 _ rfl
      have c2 := hc 2 _ rfl
      have c3 := hc 3 _ rfl
      rw [Nat.add_zero] at c0
      have c3b : wr.cell? ⟨b, o + k * 4 + 2 + 1, none⟩ = some (.int .i64 p1) := c3
      clear hc
      have wp0 := hwf p0 (by simp [fO])
      have wp1 := hwf p1 (by simp [fO])
      have wvl := hwf vl (by simp [fO])
      have hsz := hbr.size
      by_cases hk0 : kd = 0
      · subst hk0
        have S0 : Below w.heap.size w wr.drew := hbr.drew
        go_wp2_with fail
        refine wp_region_noPanic ?_
        refine wp_region_held_drew (S := fun w' => Below w.heap.size w w') (by kernel_rfl) S0 (fun hH => ?_)
        clear S0
        refine wpAnyH_take (i := 0) (oi := { dst := some 70, op := _, type := _, pos := _, after := _, guard := _ }) (v := ?_) rfl (by kernel_rfl) (by kernel_rfl) (by kernel_rfl) (fun _ _ _ h => h) (Or.inl ⟨by rfl, ?_⟩) hH ?_
        rotate_left
        · intro wz hSw
          (try dsimp only at hSw)
          first | (go_simp; done) | (go_simp; with_reducible rfl)
        try simp only [Act.put, List.setIfInBounds_toArray, List.set_cons_zero, List.set_cons_succ]
        refine wpAnyH_take (i := 1) (oi := { dst := some 71, op := _, type := _, pos := _, after := _, guard := _ }) (v := ?_) rfl (by kernel_rfl) (by kernel_rfl) (by kernel_rfl) (fun _ _ _ h => h) (Or.inl ⟨by rfl, ?_⟩) hH ?_
        rotate_left
        · intro wz hSw
          (try dsimp only at hSw)
          first | (go_simp; done) | (go_simp; with_reducible rfl)
        try simp only [Act.put, List.setIfInBounds_toArray, List.set_cons_zero, List.set_cons_succ]
        refine wpAnyH_take (i := 2) (oi := { dst := some 72, op := _, type := _, pos := _, after := _, guard := _ }) (v := ?_) rfl (by kernel_rfl) (by kernel_rfl) (by kernel_rfl) (fun _ _ _ h => h) (Or.inl ⟨by rfl, ?_⟩) hH ?_
        rotate_left
        · intro wz hSw
          (try dsimp only at hSw)
          first | (go_simp; done) | (go_simp; with_reducible rfl)
        try simp only [Act.put, List.setIfInBounds_toArray, List.set_cons_zero, List.set_cons_succ]
        refine wpAnyH_take (i := 3) (oi := { dst := some 73, op := _, type := _, pos := _, after := _, guard := _ }) (v := ?_) rfl (by kernel_rfl) (by kernel_rfl) (by kernel_rfl) (fun _ _ _ h => h) (Or.inl ⟨by rfl, ?_⟩) hH ?_
        rotate_left
        · intro wz hSw
          (try dsimp only at hSw)
          first | (go_simp; done) | (go_simp; with_reducible rfl)
        try simp only [Act.put, List.setIfInBounds_toArray, List.set_cons_zero, List.set_cons_succ]
        refine wpAnyH_take (i := 4) (oi := { dst := some 74, op := _, type := _, pos := _, after := _, guard := _ }) (v := ?_) rfl (by kernel_rfl) (by kernel_rfl) (by kernel_rfl) (fun _ _ _ h => h) (Or.inl ⟨by rfl, ?_⟩) hH ?_
        rotate_left
        · intro wz hSw
          (try dsimp only at hSw)
          first | (go_simp; done) | (go_simp; with_reducible rfl)
        try simp only [Act.put, List.setIfInBounds_toArray, List.set_cons_zero, List.set_cons_succ]
        refine wpAnyH_take (i := 5) (oi := { dst := some 75, op := _, type := _, pos := _, after := _, guard := _ }) (v := ?_) rfl (by kernel_rfl) (by kernel_rfl) (by kernel_rfl) (fun _ _ _ h => h) (Or.inl ⟨by rfl, ?_⟩) hH ?_
        rotate_left
        · intro wz hSw
          (try dsimp only at hSw)
          obtain ⟨b9, o9, e9, -, hc9⟩ := (R.later hSw).at gk
          cases e9
          have c2 := hc9 2 _ rfl
          have c3 := hc9 3 _ rfl
          have c3b : wz.cell? ⟨b, o + k * 4 + 2 + 1, none⟩ = some (.int .i64 p1) := c3
          first | (go_simp; done) | (go_simp; with_reducible rfl)
        try simp only [Act.put, List.setIfInBounds_toArray, List.set_cons_zero, List.set_cons_succ]
        refine wpAnyH_take (i := 6) (oi := { dst := some 76, op := _, type := _, pos := _, after := _, guard := _ }) (v := ?_) rfl (by kernel_rfl) (by kernel_rfl) (by kernel_rfl) (fun _ _ _ h => h) (Or.inl ⟨by rfl, ?_⟩) hH ?_
        rotate_left
        · intro wz hSw
          (try dsimp only at hSw)
          first | (go_simp; done) | (go_simp; with_reducible rfl)
        try simp only [Act.put, List.setIfInBounds_toArray, List.set_cons_zero, List.set_cons_succ]
        refine wpAnyH_take (i := 7) (oi := { dst := some 77, op := _, type := _, pos := _, after := _, guard := _ }) (v := ?_) rfl (by kernel_rfl) (by kernel_rfl) (by kernel_rfl) (fun _ _ _ h => h) (Or.inl ⟨by rfl, ?_⟩) hH ?_
        rotate_left
        · intro wz hSw
          (try dsimp only at hSw)
          first | (go_simp; done) | (go_simp; with_reducible rfl)
        try simp only [Act.put, List.setIfInBounds_toArray, List.set_cons_zero, List.set_cons_succ]
        refine wpAnyH_take (i := 8) (oi := { dst := some 78, op := _, type := _, pos := _, after := _, guard := _ }) (v := ?_) rfl (by kernel_rfl) (by kernel_rfl) (by kernel_rfl) (fun _ _ _ h => h) (Or.inl ⟨by rfl, ?_⟩) hH ?_
        rotate_left
        · intro wz hSw
          (try dsimp only at hSw)
          first | (go_simp; done) | (go_simp; with_reducible rfl)
        try simp only [Act.put, List.setIfInBounds_toArray, List.set_cons_zero, List.set_cons_succ]
        refine wpAnyH_take (i := 9) (oi := { dst := some 79, op := _, type := _, pos := _, after := _, guard := _ }) (v := ?_) rfl (by kernel_rfl) (by kernel_rfl) (by kernel_rfl) (fun _ _ _ h => h) (Or.inl ⟨by rfl, ?_⟩) hH ?_
        rotate_left
        · intro wz hSw
          (try dsimp only at hSw)
          first | (go_simp; done) | (go_simp; with_reducible rfl)
        try simp only [Act.put, List.setIfInBounds_toArray, List.set_cons_zero, List.set_cons_succ]
        refine wpAnyH_take (i := 10) (oi := { dst := some 80, op := _, type := _, pos := _, after := _, guard := _ }) (v := ?_) rfl (by kernel_rfl) (by kernel_rfl) (by kernel_rfl) (fun _ _ _ h => h) (Or.inl ⟨by rfl, ?_⟩) hH ?_
        rotate_left
        · intro wz hSw
          (try dsimp only at hSw)
          obtain ⟨b9, o9, e9, -, hc9⟩ := (R.later hSw).at gk
          cases e9
          have c1 := hc9 1 _ rfl
          first | (go_simp; done) | (go_simp; with_reducible rfl)
        try simp only [Act.put, List.setIfInBounds_toArray, List.set_cons_zero, List.set_cons_succ]
        refine wpAnyH_take (i := 12) (oi := { dst := some 82, op := _, type := _, pos := _, after := _, guard := _ }) (v := ?_) rfl (by kernel_rfl) (by kernel_rfl) (by kernel_rfl) (fun _ _ _ h => h) (Or.inl ⟨by rfl, ?_⟩) hH ?_
        rotate_left
        · intro wz hSw
          (try dsimp only at hSw)
          first | (go_simp; done) | (go_simp; with_reducible rfl)
        try simp only [Act.put, List.setIfInBounds_toArray, List.set_cons_zero, List.set_cons_succ]
        refine wpAnyH_take (i := 13) (oi := { dst := some 83, op := _, type := _, pos := _, after := _, guard := _ }) (v := ?_) rfl (by kernel_rfl) (by kernel_rfl) (by kernel_rfl) (fun _ _ _ h => h) (Or.inl ⟨by rfl, ?_⟩) hH ?_
        rotate_left
        · intro wz hSw
          (try dsimp only at hSw)
          first | (go_simp; done) | (go_simp; with_reducible rfl)
        try simp only [Act.put, List.setIfInBounds_toArray, List.set_cons_zero, List.set_cons_succ]
        refine wpAnyH_take (i := 14) (oi := { dst := some 84, op := _, type := _, pos := _, after := _, guard := _ }) (v := ?_) rfl (by kernel_rfl) (by kernel_rfl) (by kernel_rfl) (fun _ _ _ h => h) (Or.inl ⟨by rfl, ?_⟩) hH ?_
        rotate_left
        · intro wz hSw
          (try dsimp only at hSw)
          first | (go_simp; done) | (go_simp; with_reducible rfl)
        try simp only [Act.put, List.setIfInBounds_toArray, List.set_cons_zero, List.set_cons_succ]
        refine wpAnyH_take (i := 15) (oi := { dst := some 85, op := _, type := _, pos := _, after := _, guard := _ }) (v := ?_) rfl (by kernel_rfl) (by kernel_rfl) (by kernel_rfl) (fun _ _ _ h => h) (Or.inl ⟨by rfl, ?_⟩) hH ?_
        rotate_left
        · intro wz hSw
          (try dsimp only at hSw)
          first | (go_simp; done) | (go_simp; with_reducible rfl)
        try simp only [Act.put, List.setIfInBounds_toArray, List.set_cons_zero, List.set_cons_succ]
        refine wpAnyH_take (i := 16) (oi := { dst := some 86, op := _, type := _, pos := _, after := _, guard := _ }) (v := ?_) rfl (by kernel_rfl) (by kernel_rfl) (by kernel_rfl) (fun _ _ _ h => h) (Or.inl ⟨by rfl, ?_⟩) hH ?_
        rotate_left
        · intro wz hSw
          (try dsimp only at hSw)
          first | (go_simp; done) | (go_simp; with_reducible rfl)
        try simp only [Act.put, List.setIfInBounds_toArray, List.set_cons_zero, List.set_cons_succ]
        refine wpAnyH_take (i := 17) (oi := { dst := some 87, op := _, type := _, pos := _, after := _, guard := _ }) (v := ?_) rfl (by kernel_rfl) (by kernel_rfl) (by kernel_rfl) (fun _ _ _ h => h) (Or.inl ⟨by rfl, ?_⟩) hH ?_
        rotate_left
        · intro wz hSw
          (try dsimp only at hSw)
          obtain ⟨b9, o9, e9, -, hc9⟩ := (R.later hSw).at gk
          cases e9
          have c2 := hc9 2 _ rfl
          have c3 := hc9 3 _ rfl
          have c3b : wz.cell? ⟨b, o + k * 4 + 2 + 1, none⟩ = some (.int .i64 p1) := c3
          first | (go_simp; done) | (go_simp; with_reducible rfl)
        try simp only [Act.put, List.setIfInBounds_toArray, List.set_cons_zero, List.set_cons_succ]
        refine wpAnyH_take (i := 18) (oi := { dst := some 88, op := _, type := _, pos := _, after := _, guard := _ }) (v := ?_) rfl (by kernel_rfl) (by kernel_rfl) (by kernel_rfl) (fun _ _ _ h => h) (Or.inl ⟨by rfl, ?_⟩) hH ?_
        rotate_left
        · intro wz hSw
          (try dsimp only at hSw)
          first | (go_simp; done) | (go_simp; with_reducible rfl)
        try simp only [Act.put, List.setIfInBounds_toArray, List.set_cons_zero, List.set_cons_succ]
        refine wpAnyH_take (i := 19) (oi := { dst := some 89, op := _, type := _, pos := _, after := _, guard := _ }) (v := ?_) rfl (by kernel_rfl) (by kernel_rfl) (by kernel_rfl) (fun _ _ _ h => h) (Or.inl ⟨by rfl, ?_⟩) hH ?_
        rotate_left
        · intro wz hSw
          (try dsimp only at hSw)
          first | (go_simp; done) | (go_simp; with_reducible rfl)
        try simp only [Act.put, List.setIfInBounds_toArray, List.set_cons_zero, List.set_cons_succ]
        refine wpAnyH_take (i := 20) (oi := { dst := some 90, op := _, type := _, pos := _, after := _, guard := _ }) (v := ?_) rfl (by kernel_rfl) (by kernel_rfl) (by kernel_rfl) (fun _ _ _ h => h) (Or.inl ⟨by rfl, ?_⟩) hH ?_
        rotate_left
        · intro wz hSw
          (try dsimp only at hSw)
          first | (go_simp; done) | (go_simp; with_reducible rfl)
        try simp only [Act.put, List.setIfInBounds_toArray, List.set_cons_zero, List.set_cons_succ]
        refine wpAnyH_take (i := 21) (oi := { dst := some 91, op := _, type := _, pos := _, after := _, guard := _ }) (v := ?_) rfl (by kernel_rfl) (by kernel_rfl) (by kernel_rfl) (fun _ _ _ h => h) (Or.inl ⟨by rfl, ?_⟩) hH ?_
        rotate_left
        · intro wz hSw
          (try dsimp only at hSw)
          first | (go_simp; done) | (go_simp; with_reducible rfl)
        try simp only [Act.put, List.setIfInBounds_toArray, List.set_cons_zero, List.set_cons_succ]
        refine wpAnyH_take (i := 22) (oi := { dst := some 92, op := _, type := _, pos := _, after := _, guard := _ }) (v := ?_) rfl (by kernel_rfl) (by kernel_rfl) (by kernel_rfl) (fun _ _ _ h => h) (Or.inl ⟨by rfl, ?_⟩) hH ?_
        rotate_left
        · intro wz hSw
          (try dsimp only at hSw)
          obtain ⟨b9, o9, e9, -, hc9⟩ := (R.later hSw).at gk
          cases e9
          have c1 := hc9 1 _ rfl
          first | (go_simp; done) | (go_simp; with_reducible rfl)
        try simp only [Act.put, List.setIfInBounds_toArray, List.set_cons_zero, List.set_cons_succ]
        refine wpAnyH_ready (rs := [11]) (by kernel_rfl) (by simp) ?_
        refine AllReadyH.cons (o := { dst := some 81, op := _, type := _, pos := _, after := _, guard := _ }) rfl (fun K hK => ?_) AllReadyH.nil
        go_simp
        refine (C.put p0 p1 vl (by intro z hz; simp only [List.mem_cons, List.not_mem_nil, or_false] at hz; rcases hz with rfl | rfl | rfl <;> assumption) (C.later A (below_draw1 _)) (by omega)).mono ?_
        rintro e u11 ⟨rfl, ⟨F', A', gF⟩, kF⟩
        go_wp2_with fail
        have LR' := (LR.later (below_draw1 _)).kept kF (fun k hk hf => hap k hf hk)
        have gt' := grow_ge gt hsz gF
        have hbF := kF.below hsz gt
        have hap' := grow_apart hap hGl gF
        have hGl' := fun k hk => Nat.lt_of_lt_of_le (hGl k hk) kF.size
        clear A LR hap hGl gt
        refine hK.out _ _ (hH.trans hbF) (fun hH2 => ?_)
        clear hK K hH
        have hH := hH2
        clear hH2
        try simp only [Act.put, List.setIfInBounds_toArray, List.set_cons_zero, List.set_cons_succ]
        refine wpAnyH_ready (rs := [23]) (by kernel_rfl) (by simp) ?_
        refine AllReadyH.cons (o := { dst := some 93, op := _, type := _, pos := _, after := _, guard := _ }) rfl (fun K hK => ?_) AllReadyH.nil
        go_simp
        refine (rPut_any p0 p1 vl wvl LR' (by omega) hM).mono ?_
        rintro e u23 ⟨rfl, ⟨G', LG, gG⟩, kG⟩
        go_wp2_with fail
        have AA := C.kept A' kG hap'
        have gr' := grow_ge gr (Nat.le_trans hsz kF.size) gG
        have hbG := kG.below (Nat.le_trans hsz kF.size) gr
        have hGG := grow_lt hGl' gG kG.size
        have hap2 := fun k hf hg => grow_apart (fun k hg hf => hap' k hf hg) (C.lt A') gG k hg hf
        clear LR' A' hap' hGl' gr
        refine hK.out _ _ (hH.trans hbG) (fun hH2 => ?_)
        clear hK K hH
        have hH := hH2
        clear hH2
        try simp only [Act.put, List.setIfInBounds_toArray, List.set_cons_zero, List.set_cons_succ]
        refine wpAnyH_take (i := 24) (oi := { dst := some 94, op := _, type := _, pos := _, after := _, guard := _ }) (v := ?_) rfl (by kernel_rfl) (by kernel_rfl) (by kernel_rfl) (fun _ _ _ h => h) (Or.inl ⟨by rfl, ?_⟩) hH ?_
        rotate_left
        · intro wz hSw
          (try dsimp only at hSw)
          first | (go_simp; done) | (go_simp; with_reducible rfl)
        try simp only [Act.put, List.setIfInBounds_toArray, List.set_cons_zero, List.set_cons_succ]
        refine wpAnyH_done (by kernel_rfl) ?_ _
        refine NoPanic.normal ?_
        have hL1 : (putTo room L ((p0, p1), vl)).length ≤ 90 := by have := put_len room L ((p0, p1), vl); omega
        have NX2 : Hid (doAll room s (k + 1) = putTo room L ((p0, p1), vl)) := by rw [NX.out]; rfl
        clear NX
        have NX := NX2
        clear NX2
        have hM1 := C.may AA
        generalize putTo room L ((p0, p1), vl) = L1 at AA LG NX hL1 hM1
        generalize putErr room L ((p0, p1), vl) = er
        have A1 := AA
        have LR1 := LG
        have F1e := hap2
        have ap1 := hap2
        have gt1 := gt'
        have gr1 := gr'
        have gl1 := hGG
        have hb1 := hH
        clear AA LG hap2 gt' gr' hGG hH F1e c0 c1 c2 c3 c3b
        have HI : Hid _ := And.intro ap1 (And.intro gt1 (And.intro gr1 gl1))
        clear ap1 gt1 gr1 gl1
        have hcnt : (count L1 != ((nodesR (L1.map (·.1))).length : Int)) = false := by unfold count; simp
        obtain ⟨a8, c8, hc8, RL, -⟩ := LR1.slice
        have S0 : Below w.heap.size w u23.drew ∧ Br < u23.drew.heap.size ∧ u23.drew.cell? ⟨Br, 0, none⟩ = some (.slice a8 L1.length c8) ∧ u23.heap.size ≤ u23.drew.heap.size := ⟨hb1.drew, LR1.lt, hc8, Nat.le_refl _⟩
        go_wp2_with fail
        refine wp_region_noPanic ?_
        refine wp_region_held_drew (S := fun w' => Below w.heap.size w w' ∧ Br < w'.heap.size ∧ w'.cell? ⟨Br, 0, none⟩ = some (.slice a8 L1.length c8) ∧ u23.heap.size ≤ w'.heap.size) (by kernel_rfl) S0 (fun hH => ?_)
        clear S0
        refine wpAnyH_take (i := 0) (oi := { dst := some 112, op := _, type := _, pos := _, after := _, guard := _ }) (v := ?_) rfl (by kernel_rfl) (by kernel_rfl) (by kernel_rfl) (fun _ _ _ h => h) (Or.inl ⟨by rfl, ?_⟩) hH ?_
        rotate_left
        · intro wz hSw
          (try dsimp only at hSw)
          first | (go_simp; done) | (go_simp; with_reducible rfl)
        try simp only [Act.put, List.setIfInBounds_toArray, List.set_cons_zero, List.set_cons_succ]
        refine wpAnyH_take (i := 2) (oi := { dst := some 114, op := _, type := _, pos := _, after := _, guard := _ }) (v := ?_) rfl (by kernel_rfl) (by kernel_rfl) (by kernel_rfl) (fun _ _ _ h => h) (Or.inl ⟨by rfl, ?_⟩) hH ?_
        rotate_left
        · intro wz hSw
          (try dsimp only at hSw)
          first | (go_simp; done) | (go_simp; with_reducible rfl)
        try simp only [Act.put, List.setIfInBounds_toArray, List.set_cons_zero, List.set_cons_succ]
        refine wpAnyH_take (i := 3) (oi := { dst := some 115, op := _, type := _, pos := _, after := _, guard := _ }) (v := ?_) rfl (by kernel_rfl) (by kernel_rfl) (by kernel_rfl) (fun _ _ _ h => h) (Or.inl ⟨by rfl, ?_⟩) hH ?_
        rotate_left
        · intro wz hSw
          (try dsimp only at hSw)
          first | (go_simp; done) | (go_simp; with_reducible rfl)
        try simp only [Act.put, List.setIfInBounds_toArray, List.set_cons_zero, List.set_cons_succ]
        refine wpAnyH_take (i := 4) (oi := { dst := some 116, op := _, type := _, pos := _, after := _, guard := _ }) (v := ?_) rfl (by kernel_rfl) (by kernel_rfl) (by kernel_rfl) (fun _ _ _ h => h) (Or.inl ⟨by rfl, ?_⟩) hH ?_
        rotate_left
        · intro wz hSw
          (try dsimp only at hSw)
          first | (go_simp; done) | (go_simp; with_reducible rfl)
        try simp only [Act.put, List.setIfInBounds_toArray, List.set_cons_zero, List.set_cons_succ]
        refine wpAnyH_take (i := 5) (oi := { dst := some 117, op := _, type := _, pos := _, after := _, guard := _ }) (v := ?_) rfl (by kernel_rfl) (by kernel_rfl) (by kernel_rfl) (fun _ _ _ h => h) (Or.inl ⟨by rfl, ?_⟩) hH ?_
        rotate_left
        · intro wz hSw
          (try dsimp only at hSw)
          first | (go_simp; done) | (go_simp; with_reducible rfl)
        try simp only [Act.put, List.setIfInBounds_toArray, List.set_cons_zero, List.set_cons_succ]
        refine wpAnyH_ready (rs := [1]) (by kernel_rfl) (by simp) ?_
        refine AllReadyH.cons (o := { dst := some 113, op := _, type := _, pos := _, after := _, guard := _ }) rfl (fun K hK => ?_) AllReadyH.nil
        go_simp
        refine (C.walk (C.later A1 (below_draw1 _)) hL1).mono ?_
        rintro e u1 ⟨x1, k1, rfl, ⟨RW, -⟩, hb⟩
        go_wp2_with fail
        have A2 := C.later (C.later A1 (below_draw1 _)) hb
        have LR2 := (LR1.later (below_draw1 _)).later hb
        have RL2 := (RL.later (below_draw1 _)).later hb
        clear A1 LR1 RL
        refine hK.out _ _ (kept_20 hH hb) (fun hH2 => ?_)
        clear hK K hH
        have hH := hH2
        clear hH2
        try simp only [Act.put, List.setIfInBounds_toArray, List.set_cons_zero, List.set_cons_succ]
        refine wpAnyH_ready (rs := [6]) (by kernel_rfl) (by simp) ?_
        refine AllReadyH.cons (o := { dst := some 118, op := _, type := _, pos := _, after := _, guard := _ }) rfl (fun K hK => ?_) AllReadyH.nil
        go_simp
        refine (rsame_any _ RW RL2).mono ?_
        rintro e u6 ⟨rfl, hb⟩
        go_wp2_with fail
        have A3 := C.later A2 hb
        have LR3 := LR2.later hb
        have RL3 := RL2.later hb
        clear A2 LR2 RL2 RW
        refine hK.out _ _ (kept_20 hH hb) (fun hH2 => ?_)
        clear hK K hH
        have hH := hH2
        clear hH2
        try simp only [Act.put, List.setIfInBounds_toArray, List.set_cons_zero, List.set_cons_succ]
        refine wpAnyH_take (i := 7) (oi := { dst := some 13, op := _, type := _, pos := _, after := _, guard := _ }) (v := ?_) rfl (by kernel_rfl) (by kernel_rfl) (by kernel_rfl) (fun _ _ _ h => h) (Or.inl ⟨by rfl, ?_⟩) hH ?_
        rotate_left
        · intro wz hSw
          (try dsimp only at hSw)
          first | (go_simp; done) | (go_simp; with_reducible rfl)
        try simp only [Act.put, List.setIfInBounds_toArray, List.set_cons_zero, List.set_cons_succ]
        refine wpAnyH_done (by kernel_rfl) ?_ _
        refine NoPanic.normal ?_
        have S0 := kept_20 hH (below_draw1 _)
        clear hH
        go_wp2_with fail
        refine wp_region_noPanic ?_
        refine wp_region_held_drew (S := fun w' => Below w.heap.size w w' ∧ Br < w'.heap.size ∧ w'.cell? ⟨Br, 0, none⟩ = some (.slice a8 L1.length c8) ∧ u23.heap.size ≤ w'.heap.size) (by kernel_rfl) S0 (fun hH => ?_)
        clear S0
        refine wpAnyH_take (i := 0) (oi := { dst := some 119, op := _, type := _, pos := _, after := _, guard := _ }) (v := ?_) rfl (by kernel_rfl) (by kernel_rfl) (by kernel_rfl) (fun _ _ _ h => h) (Or.inl ⟨by rfl, ?_⟩) hH ?_
        rotate_left
        · intro wz hSw
          (try dsimp only at hSw)
          first | (go_simp; done) | (go_simp; with_reducible rfl)
        try simp only [Act.put, List.setIfInBounds_toArray, List.set_cons_zero, List.set_cons_succ]
        refine wpAnyH_take (i := 1) (oi := { dst := some 120, op := _, type := _, pos := _, after := _, guard := _ }) (v := ?_) rfl (by kernel_rfl) (by kernel_rfl) (by kernel_rfl) (fun _ _ _ h => h) (Or.inl ⟨by rfl, ?_⟩) hH ?_
        rotate_left
        · intro wz hSw
          (try dsimp only at hSw)
          first | (go_simp; done) | (go_simp; with_reducible rfl)
        try simp only [Act.put, List.setIfInBounds_toArray, List.set_cons_zero, List.set_cons_succ]
        refine wpAnyH_take (i := 2) (oi := { dst := some 121, op := _, type := _, pos := _, after := _, guard := _ }) (v := ?_) rfl (by kernel_rfl) (by kernel_rfl) (by kernel_rfl) (fun _ _ _ h => h) (Or.inl ⟨by rfl, ?_⟩) hH ?_
        rotate_left
        · intro wz hSw
          (try dsimp only at hSw)
          first | (go_simp; done) | (go_simp; with_reducible rfl)
        try simp only [Act.put, List.setIfInBounds_toArray, List.set_cons_zero, List.set_cons_succ]
        refine wpAnyH_take (i := 3) (oi := { dst := some 122, op := _, type := _, pos := _, after := _, guard := _ }) (v := ?_) rfl (by kernel_rfl) (by kernel_rfl) (by kernel_rfl) (fun _ _ _ h => h) (Or.inl ⟨by rfl, ?_⟩) hH ?_
        rotate_left
        · intro wz hSw
          (try dsimp only at hSw)
          first | (go_simp; done) | (go_simp; with_reducible rfl)
        try simp only [Act.put, List.setIfInBounds_toArray, List.set_cons_zero, List.set_cons_succ]
        refine wpAnyH_take (i := 5) (oi := { dst := some 124, op := _, type := _, pos := _, after := _, guard := _ }) (v := ?_) rfl (by kernel_rfl) (by kernel_rfl) (by kernel_rfl) (fun _ _ _ h => h) (Or.inl ⟨by rfl, ?_⟩) hH ?_
        rotate_left
        · intro wz hSw
          (try dsimp only at hSw)
          first | (go_simp; done) | (go_simp; with_reducible rfl)
        try simp only [Act.put, List.setIfInBounds_toArray, List.set_cons_zero, List.set_cons_succ]
        refine wpAnyH_take (i := 6) (oi := { dst := some 125, op := _, type := _, pos := _, after := _, guard := _ }) (v := ?_) rfl (by kernel_rfl) (by kernel_rfl) (by kernel_rfl) (fun _ _ _ h => h) (Or.inl ⟨by rfl, ?_⟩) hH ?_
        rotate_left
        · intro wz hSw
          (try dsimp only at hSw)
          first | (go_simp; done) | (go_simp; with_reducible rfl)
        try simp only [Act.put, List.setIfInBounds_toArray, List.set_cons_zero, List.set_cons_succ]
        refine wpAnyH_take (i := 7) (oi := { dst := some 126, op := _, type := _, pos := _, after := _, guard := _ }) (v := ?_) rfl (by kernel_rfl) (by kernel_rfl) (by kernel_rfl) (fun _ _ _ h => h) (Or.inl ⟨by rfl, ?_⟩) hH ?_
        rotate_left
        · intro wz hSw
          (try dsimp only at hSw)
          first | (go_simp; done) | (go_simp; with_reducible rfl)
        try simp only [Act.put, List.setIfInBounds_toArray, List.set_cons_zero, List.set_cons_succ]
        refine wpAnyH_take (i := 8) (oi := { dst := some 127, op := _, type := _, pos := _, after := _, guard := _ }) (v := ?_) rfl (by kernel_rfl) (by kernel_rfl) (by kernel_rfl) (fun _ _ _ h => h) (Or.inl ⟨by rfl, ?_⟩) hH ?_
        rotate_left
        · intro wz hSw
          (try dsimp only at hSw)
          first | (go_simp; done) | (go_simp; with_reducible rfl)
        try simp only [Act.put, List.setIfInBounds_toArray, List.set_cons_zero, List.set_cons_succ]
        refine wpAnyH_ready (rs := [4]) (by kernel_rfl) (by simp) ?_
        refine AllReadyH.cons (o := { dst := some 123, op := _, type := _, pos := _, after := _, guard := _ }) rfl (fun K hK => ?_) AllReadyH.nil
        go_simp
        refine (C.nodes (C.later A3 (below_draw1 _)) hL1).mono ?_
        rintro e u4 ⟨rfl, hb⟩
        go_wp2_with fail
        have A4 := C.later (C.later A3 (below_draw1 _)) hb
        have LR4 := (LR3.later (below_draw1 _)).later hb
        have RL4 := (RL3.later (below_draw1 _)).later hb
        clear A3 LR3 RL3
        refine hK.out _ _ (kept_20 hH hb) (fun hH2 => ?_)
        clear hK K hH
        have hH := hH2
        clear hH2
        try simp only [Act.put, List.setIfInBounds_toArray, List.set_cons_zero, List.set_cons_succ]
        refine wpAnyH_ready (rs := [9]) (by kernel_rfl) (by simp) ?_
        refine AllReadyH.cons (o := { dst := some 128, op := _, type := _, pos := _, after := _, guard := _ }) rfl (fun K hK => ?_) AllReadyH.nil
        go_simp
        refine (rnodes_any _ RL4 (by omega) hM1).mono ?_
        rintro e u9 ⟨rfl, hb⟩
        go_wp2_with fail
        have A5 := C.later A4 hb
        have LR5 := LR4.later hb
        clear A4 LR4 RL4
        refine hK.out _ _ (kept_20 hH hb) (fun hH2 => ?_)
        clear hK K hH
        have hH := hH2
        clear hH2
        try simp only [Act.put, List.setIfInBounds_toArray, List.set_cons_zero, List.set_cons_succ]
        refine wpAnyH_take (i := 10) (oi := { dst := some 129, op := _, type := _, pos := _, after := _, guard := _ }) (v := ?_) rfl (by kernel_rfl) (by kernel_rfl) (by kernel_rfl) (fun _ _ _ h => h) (Or.inl ⟨by rfl, ?_⟩) hH ?_
        rotate_left
        · intro wz hSw
          (try dsimp only at hSw)
          first | (go_simp; done) | (go_simp; with_reducible rfl)
        try simp only [Act.put, List.setIfInBounds_toArray, List.set_cons_zero, List.set_cons_succ]
        refine wpAnyH_take (i := 11) (oi := { dst := some 130, op := _, type := _, pos := _, after := _, guard := _ }) (v := ?_) rfl (by kernel_rfl) (by kernel_rfl) (by kernel_rfl) (fun _ _ _ h => h) (Or.inl ⟨by rfl, ?_⟩) hH ?_
        rotate_left
        · intro wz hSw
          (try dsimp only at hSw)
          first | (go_simp; done) | (go_simp; with_reducible rfl)
        try simp only [Act.put, List.setIfInBounds_toArray, List.set_cons_zero, List.set_cons_succ]
        refine wpAnyH_done (by kernel_rfl) ?_ _
        refine NoPanic.normal ?_
        go_wp2_with fail
        go_roundw
        case rel => exact ⟨k + 1, _, _, by omega, by go_num, by rw [NX.out]; exact A5, by rw [NX.out]; exact LR5, HI.out.1, HI.out.2.1, HI.out.2.2.1, fun k hk => Nat.lt_of_lt_of_le (HI.out.2.2.2 k hk) hH.2.2.2, hH.1⟩
        case measure => simp [intOf]; omega
      · by_cases hk1 : kd = 1
        · subst hk1
          have S0 : Below w.heap.size w wr.drew := hbr.drew
          go_wp2_with fail
          refine wp_region_noPanic ?_
          refine wp_region_held_drew (S := fun w' => Below w.heap.size w w') (by kernel_rfl) S0 (fun hH => ?_)
          clear S0
          refine wpAnyH_take (i := 0) (oi := { dst := some 97, op := _, type := _, pos := _, after := _, guard := _ }) (v := ?_) rfl (by kernel_rfl) (by kernel_rfl) (by kernel_rfl) (fun _ _ _ h => h) (Or.inl ⟨by rfl, ?_⟩) hH ?_
          rotate_left
          · intro wz hSw
            (try dsimp only at hSw)
            first | (go_simp; done) | (go_simp; with_reducible rfl)
          try simp only [Act.put, List.setIfInBounds_toArray, List.set_cons_zero, List.set_cons_succ]
          refine wpAnyH_take (i := 1) (oi := { dst := some 98, op := _, type := _, pos := _, after := _, guard := _ }) (v := ?_) rfl (by kernel_rfl) (by kernel_rfl) (by kernel_rfl) (fun _ _ _ h => h) (Or.inl ⟨by rfl, ?_⟩) hH ?_
          rotate_left
          · intro wz hSw
            (try dsimp only at hSw)
            first | (go_simp; done) | (go_simp; with_reducible rfl)
          try simp only [Act.put, List.setIfInBounds_toArray, List.set_cons_zero, List.set_cons_succ]
          refine wpAnyH_take (i := 2) (oi := { dst := some 99, op := _, type := _, pos := _, after := _, guard := _ }) (v := ?_) rfl (by kernel_rfl) (by kernel_rfl) (by kernel_rfl) (fun _ _ _ h => h) (Or.inl ⟨by rfl, ?_⟩) hH ?_
          rotate_left
          · intro wz hSw
            (try dsimp only at hSw)
            first | (go_simp; done) | (go_simp; with_reducible rfl)
          try simp only [Act.put, List.setIfInBounds_toArray, List.set_cons_zero, List.set_cons_succ]
          refine wpAnyH_take (i := 3) (oi := { dst := some 100, op := _, type := _, pos := _, after := _, guard := _ }) (v := ?_) rfl (by kernel_rfl) (by kernel_rfl) (by kernel_rfl) (fun _ _ _ h => h) (Or.inl ⟨by rfl, ?_⟩) hH ?_
          rotate_left
          · intro wz hSw
            (try dsimp only at hSw)
            first | (go_simp; done) | (go_simp; with_reducible rfl)
          try simp only [Act.put, List.setIfInBounds_toArray, List.set_cons_zero, List.set_cons_succ]
          refine wpAnyH_take (i := 4) (oi := { dst := some 101, op := _, type := _, pos := _, after := _, guard := _ }) (v := ?_) rfl (by kernel_rfl) (by kernel_rfl) (by kernel_rfl) (fun _ _ _ h => h) (Or.inl ⟨by rfl, ?_⟩) hH ?_
          rotate_left
          · intro wz hSw
            (try dsimp only at hSw)
            first | (go_simp; done) | (go_simp; with_reducible rfl)
          try simp only [Act.put, List.setIfInBounds_toArray, List.set_cons_zero, List.set_cons_succ]
          refine wpAnyH_take (i := 5) (oi := { dst := some 102, op := _, type := _, pos := _, after := _, guard := _ }) (v := ?_) rfl (by kernel_rfl) (by kernel_rfl) (by kernel_rfl) (fun _ _ _ h => h) (Or.inl ⟨by rfl, ?_⟩) hH ?_
          rotate_left
          · intro wz hSw
            (try dsimp only at hSw)
            obtain ⟨b9, o9, e9, -, hc9⟩ := (R.later hSw).at gk
            cases e9
            have c2 := hc9 2 _ rfl
            have c3 := hc9 3 _ rfl
            have c3b : wz.cell? ⟨b, o + k * 4 + 2 + 1, none⟩ = some (.int .i64 p1) := c3
            first | (go_simp; done) | (go_simp; with_reducible rfl)
          try simp only [Act.put, List.setIfInBounds_toArray, List.set_cons_zero, List.set_cons_succ]
          refine wpAnyH_take (i := 7) (oi := { dst := some 104, op := _, type := _, pos := _, after := _, guard := _ }) (v := ?_) rfl (by kernel_rfl) (by kernel_rfl) (by kernel_rfl) (fun _ _ _ h => h) (Or.inl ⟨by rfl, ?_⟩) hH ?_
          rotate_left
          · intro wz hSw
            (try dsimp only at hSw)
            first | (go_simp; done) | (go_simp; with_reducible rfl)
          try simp only [Act.put, List.setIfInBounds_toArray, List.set_cons_zero, List.set_cons_succ]
          refine wpAnyH_take (i := 8) (oi := { dst := some 105, op := _, type := _, pos := _, after := _, guard := _ }) (v := ?_) rfl (by kernel_rfl) (by kernel_rfl) (by kernel_rfl) (fun _ _ _ h => h) (Or.inl ⟨by rfl, ?_⟩) hH ?_
          rotate_left
          · intro wz hSw
            (try dsimp only at hSw)
            first | (go_simp; done) | (go_simp; with_reducible rfl)
          try simp only [Act.put, List.setIfInBounds_toArray, List.set_cons_zero, List.set_cons_succ]
          refine wpAnyH_take (i := 9) (oi := { dst := some 106, op := _, type := _, pos := _, after := _, guard := _ }) (v := ?_) rfl (by kernel_rfl) (by kernel_rfl) (by kernel_rfl) (fun _ _ _ h => h) (Or.inl ⟨by rfl, ?_⟩) hH ?_
          rotate_left
          · intro wz hSw
            (try dsimp only at hSw)
            first | (go_simp; done) | (go_simp; with_reducible rfl)
          try simp only [Act.put, List.setIfInBounds_toArray, List.set_cons_zero, List.set_cons_succ]
          refine wpAnyH_take (i := 10) (oi := { dst := some 107, op := _, type := _, pos := _, after := _, guard := _ }) (v := ?_) rfl (by kernel_rfl) (by kernel_rfl) (by kernel_rfl) (fun _ _ _ h => h) (Or.inl ⟨by rfl, ?_⟩) hH ?_
          rotate_left
          · intro wz hSw
            (try dsimp only at hSw)
            first | (go_simp; done) | (go_simp; with_reducible rfl)
          try simp only [Act.put, List.setIfInBounds_toArray, List.set_cons_zero, List.set_cons_succ]
          refine wpAnyH_take (i := 11) (oi := { dst := some 108, op := _, type := _, pos := _, after := _, guard := _ }) (v := ?_) rfl (by kernel_rfl) (by kernel_rfl) (by kernel_rfl) (fun _ _ _ h => h) (Or.inl ⟨by rfl, ?_⟩) hH ?_
          rotate_left
          · intro wz hSw
            (try dsimp only at hSw)
            first | (go_simp; done) | (go_simp; with_reducible rfl)
          try simp only [Act.put, List.setIfInBounds_toArray, List.set_cons_zero, List.set_cons_succ]
          refine wpAnyH_take (i := 12) (oi := { dst := some 109, op := _, type := _, pos := _, after := _, guard := _ }) (v := ?_) rfl (by kernel_rfl) (by kernel_rfl) (by kernel_rfl) (fun _ _ _ h => h) (Or.inl ⟨by rfl, ?_⟩) hH ?_
          rotate_left
          · intro wz hSw
            (try dsimp only at hSw)
            obtain ⟨b9, o9, e9, -, hc9⟩ := (R.later hSw).at gk
            cases e9
            have c2 := hc9 2 _ rfl
            have c3 := hc9 3 _ rfl
            have c3b : wz.cell? ⟨b, o + k * 4 + 2 + 1, none⟩ = some (.int .i64 p1) := c3
            first | (go_simp; done) | (go_simp; with_reducible rfl)
          try simp only [Act.put, List.setIfInBounds_toArray, List.set_cons_zero, List.set_cons_succ]
          refine wpAnyH_ready (rs := [6]) (by kernel_rfl) (by simp) ?_
          refine AllReadyH.cons (o := { dst := some 103, op := _, type := _, pos := _, after := _, guard := _ }) rfl (fun K hK => ?_) AllReadyH.nil
          go_simp
          refine (C.cut p0 p1 (by intro z hz; simp only [List.mem_cons, List.not_mem_nil, or_false] at hz; rcases hz with rfl | rfl <;> assumption) (C.later A (below_draw1 _)) (by omega)).mono ?_
          rintro e u6 ⟨rfl, ⟨F', A', gF⟩, kF⟩
          go_wp2_with fail
          have LR' := (LR.later (below_draw1 _)).kept kF (fun k hk hf => hap k hf hk)
          have gt' := grow_ge gt hsz gF
          have hbF := kF.below hsz gt
          have hap' := grow_apart hap hGl gF
          have hGl' := fun k hk => Nat.lt_of_lt_of_le (hGl k hk) kF.size
          clear A LR hap hGl gt
          refine hK.out _ _ (hH.trans hbF) (fun hH2 => ?_)
          clear hK K hH
          have hH := hH2
          clear hH2
          try simp only [Act.put, List.setIfInBounds_toArray, List.set_cons_zero, List.set_cons_succ]
          refine wpAnyH_ready (rs := [13]) (by kernel_rfl) (by simp) ?_
          refine AllReadyH.cons (o := { dst := some 110, op := _, type := _, pos := _, after := _, guard := _ }) rfl (fun K hK => ?_) AllReadyH.nil
          go_simp
          refine (rCut_any p0 p1 LR' (by omega)).mono ?_
          rintro e u13 ⟨rfl, ⟨G', LG, gG⟩, kG⟩
          go_wp2_with fail
          have AA := C.kept A' kG hap'
          have gr' := grow_ge gr (Nat.le_trans hsz kF.size) gG
          have hbG := kG.below (Nat.le_trans hsz kF.size) gr
          have hGG := grow_lt hGl' gG kG.size
          have hap2 := fun k hf hg => grow_apart (fun k hg hf => hap' k hf hg) (C.lt A') gG k hg hf
          clear LR' A' hap' hGl' gr
          refine hK.out _ _ (hH.trans hbG) (fun hH2 => ?_)
          clear hK K hH
          have hH := hH2
          clear hH2
          try simp only [Act.put, List.setIfInBounds_toArray, List.set_cons_zero, List.set_cons_succ]
          refine wpAnyH_take (i := 14) (oi := { dst := some 111, op := _, type := _, pos := _, after := _, guard := _ }) (v := ?_) rfl (by kernel_rfl) (by kernel_rfl) (by kernel_rfl) (fun _ _ _ h => h) (Or.inl ⟨by rfl, ?_⟩) hH ?_
          rotate_left
          · intro wz hSw
            (try dsimp only at hSw)
            first | (go_simp; done) | (go_simp; with_reducible rfl)
          try simp only [Act.put, List.setIfInBounds_toArray, List.set_cons_zero, List.set_cons_succ]
          refine wpAnyH_done (by kernel_rfl) ?_ _
          refine NoPanic.normal ?_
          have hL1 : (cutTo L (p0, p1)).length ≤ 90 := by have := cut_len L (p0, p1); omega
          have NX2 : Hid (doAll room s (k + 1) = cutTo L (p0, p1)) := by rw [NX.out]; rfl
          clear NX
          have NX := NX2
          clear NX2
          have hM1 := C.may AA
          generalize cutTo L (p0, p1) = L1 at AA LG NX hL1 hM1
          generalize cutErr L (p0, p1) = er
          have A1 := AA
          have LR1 := LG
          have ap1 := hap2
          have gt1 := gt'
          have gr1 := gr'
          have gl1 := hGG
          have hb1 := hH
          clear AA LG hap2 gt' gr' hGG hH c0 c1 c2 c3 c3b
          have HI : Hid _ := And.intro ap1 (And.intro gt1 (And.intro gr1 gl1))
          clear ap1 gt1 gr1 gl1
          have hcnt : (count L1 != ((nodesR (L1.map (·.1))).length : Int)) = false := by unfold count; simp
          obtain ⟨a8, c8, hc8, RL, -⟩ := LR1.slice
          have S0 : Below w.heap.size w u13.drew ∧ Br < u13.drew.heap.size ∧ u13.drew.cell? ⟨Br, 0, none⟩ = some (.slice a8 L1.length c8) ∧ u13.heap.size ≤ u13.drew.heap.size := ⟨hb1.drew, LR1.lt, hc8, Nat.le_refl _⟩
          go_wp2_with fail
          refine wp_region_noPanic ?_
          refine wp_region_held_drew (S := fun w' => Below w.heap.size w w' ∧ Br < w'.heap.size ∧ w'.cell? ⟨Br, 0, none⟩ = some (.slice a8 L1.length c8) ∧ u13.heap.size ≤ w'.heap.size) (by kernel_rfl) S0 (fun hH => ?_)
          clear S0
          refine wpAnyH_take (i := 0) (oi := { dst := some 112, op := _, type := _, pos := _, after := _, guard := _ }) (v := ?_) rfl (by kernel_rfl) (by kernel_rfl) (by kernel_rfl) (fun _ _ _ h => h) (Or.inl ⟨by rfl, ?_⟩) hH ?_
          rotate_left
          · intro wz hSw
            (try dsimp only at hSw)
            first | (go_simp; done) | (go_simp; with_reducible rfl)
          try simp only [Act.put, List.setIfInBounds_toArray, List.set_cons_zero, List.set_cons_succ]
          refine wpAnyH_take (i := 2) (oi := { dst := some 114, op := _, type := _, pos := _, after := _, guard := _ }) (v := ?_) rfl (by kernel_rfl) (by kernel_rfl) (by kernel_rfl) (fun _ _ _ h => h) (Or.inl ⟨by rfl, ?_⟩) hH ?_
          rotate_left
          · intro wz hSw
            (try dsimp only at hSw)
            first | (go_simp; done) | (go_simp; with_reducible rfl)
          try simp only [Act.put, List.setIfInBounds_toArray, List.set_cons_zero, List.set_cons_succ]
          refine wpAnyH_take (i := 3) (oi := { dst := some 115, op := _, type := _, pos := _, after := _, guard := _ }) (v := ?_) rfl (by kernel_rfl) (by kernel_rfl) (by kernel_rfl) (fun _ _ _ h => h) (Or.inl ⟨by rfl, ?_⟩) hH ?_
          rotate_left
          · intro wz hSw
            (try dsimp only at hSw)
            first | (go_simp; done) | (go_simp; with_reducible rfl)
          try simp only [Act.put, List.setIfInBounds_toArray, List.set_cons_zero, List.set_cons_succ]
          refine wpAnyH_take (i := 4) (oi := { dst := some 116, op := _, type := _, pos := _, after := _, guard := _ }) (v := ?_) rfl (by kernel_rfl) (by kernel_rfl) (by kernel_rfl) (fun _ _ _ h => h) (Or.inl ⟨by rfl, ?_⟩) hH ?_
          rotate_left
          · intro wz hSw
            (try dsimp only at hSw)
            first | (go_simp; done) | (go_simp; with_reducible rfl)
          try simp only [Act.put, List.setIfInBounds_toArray, List.set_cons_zero, List.set_cons_succ]
          refine wpAnyH_take (i := 5) (oi := { dst := some 117, op := _, type := _, pos := _, after := _, guard := _ }) (v := ?_) rfl (by kernel_rfl) (by kernel_rfl) (by kernel_rfl) (fun _ _ _ h => h) (Or.inl ⟨by rfl, ?_⟩) hH ?_
          rotate_left
          · intro wz hSw
            (try dsimp only at hSw)
            first | (go_simp; done) | (go_simp; with_reducible rfl)
          try simp only [Act.put, List.setIfInBounds_toArray, List.set_cons_zero, List.set_cons_succ]
          refine wpAnyH_ready (rs := [1]) (by kernel_rfl) (by simp) ?_
          refine AllReadyH.cons (o := { dst := some 113, op := _, type := _, pos := _, after := _, guard := _ }) rfl (fun K hK => ?_) AllReadyH.nil
          go_simp
          refine (C.walk (C.later A1 (below_draw1 _)) hL1).mono ?_
          rintro e u1 ⟨x1, k1, rfl, ⟨RW, -⟩, hb⟩
          go_wp2_with fail
          have A2 := C.later (C.later A1 (below_draw1 _)) hb
          have LR2 := (LR1.later (below_draw1 _)).later hb
          have RL2 := (RL.later (below_draw1 _)).later hb
          clear A1 LR1 RL
          refine hK.out _ _ (kept_20 hH hb) (fun hH2 => ?_)
          clear hK K hH
          have hH := hH2
          clear hH2
          try simp only [Act.put, List.setIfInBounds_toArray, List.set_cons_zero, List.set_cons_succ]
          refine wpAnyH_ready (rs := [6]) (by kernel_rfl) (by simp) ?_
          refine AllReadyH.cons (o := { dst := some 118, op := _, type := _, pos := _, after := _, guard := _ }) rfl (fun K hK => ?_) AllReadyH.nil
          go_simp
          refine (rsame_any _ RW RL2).mono ?_
          rintro e u6 ⟨rfl, hb⟩
          go_wp2_with fail
          have A3 := C.later A2 hb
          have LR3 := LR2.later hb
          have RL3 := RL2.later hb
          clear A2 LR2 RL2 RW
          refine hK.out _ _ (kept_20 hH hb) (fun hH2 => ?_)
          clear hK K hH
          have hH := hH2
          clear hH2
          try simp only [Act.put, List.setIfInBounds_toArray, List.set_cons_zero, List.set_cons_succ]
          refine wpAnyH_take (i := 7) (oi := { dst := some 13, op := _, type := _, pos := _, after := _, guard := _ }) (v := ?_) rfl (by kernel_rfl) (by kernel_rfl) (by kernel_rfl) (fun _ _ _ h => h) (Or.inl ⟨by rfl, ?_⟩) hH ?_
          rotate_left
          · intro wz hSw
            (try dsimp only at hSw)
            first | (go_simp; done) | (go_simp; with_reducible rfl)
          try simp only [Act.put, List.setIfInBounds_toArray, List.set_cons_zero, List.set_cons_succ]
          refine wpAnyH_done (by kernel_rfl) ?_ _
          refine NoPanic.normal ?_
          have S0 := kept_20 hH (below_draw1 _)
          clear hH
          go_wp2_with fail
          refine wp_region_noPanic ?_
          refine wp_region_held_drew (S := fun w' => Below w.heap.size w w' ∧ Br < w'.heap.size ∧ w'.cell? ⟨Br, 0, none⟩ = some (.slice a8 L1.length c8) ∧ u13.heap.size ≤ w'.heap.size) (by kernel_rfl) S0 (fun hH => ?_)
          clear S0
          refine wpAnyH_take (i := 0) (oi := { dst := some 119, op := _, type := _, pos := _, after := _, guard := _ }) (v := ?_) rfl (by kernel_rfl) (by kernel_rfl) (by kernel_rfl) (fun _ _ _ h => h) (Or.inl ⟨by rfl, ?_⟩) hH ?_
          rotate_left
          · intro wz hSw
            (try dsimp only at hSw)
            first | (go_simp; done) | (go_simp; with_reducible rfl)
          try simp only [Act.put, List.setIfInBounds_toArray, List.set_cons_zero, List.set_cons_succ]
          refine wpAnyH_take (i := 1) (oi := { dst := some 120, op := _, type := _, pos := _, after := _, guard := _ }) (v := ?_) rfl (by kernel_rfl) (by kernel_rfl) (by kernel_rfl) (fun _ _ _ h => h) (Or.inl ⟨by rfl, ?_⟩) hH ?_
          rotate_left
          · intro wz hSw
            (try dsimp only at hSw)
            first | (go_simp; done) | (go_simp; with_reducible rfl)
          try simp only [Act.put, List.setIfInBounds_toArray, List.set_cons_zero, List.set_cons_succ]
          refine wpAnyH_take (i := 2) (oi := { dst := some 121, op := _, type := _, pos := _, after := _, guard := _ }) (v := ?_) rfl (by kernel_rfl) (by kernel_rfl) (by kernel_rfl) (fun _ _ _ h => h) (Or.inl ⟨by rfl, ?_⟩) hH ?_
          rotate_left
          · intro wz hSw
            (try dsimp only at hSw)
            first | (go_simp; done) | (go_simp; with_reducible rfl)
          try simp only [Act.put, List.setIfInBounds_toArray, List.set_cons_zero, List.set_cons_succ]
          refine wpAnyH_take (i := 3) (oi := { dst := some 122, op := _, type := _, pos := _, after := _, guard := _ }) (v := ?_) rfl (by kernel_rfl) (by kernel_rfl) (by kernel_rfl) (fun _ _ _ h => h) (Or.inl ⟨by rfl, ?_⟩) hH ?_
          rotate_left
          · intro wz hSw
            (try dsimp only at hSw)
            first | (go_simp; done) | (go_simp; with_reducible rfl)
          try simp only [Act.put, List.setIfInBounds_toArray, List.set_cons_zero, List.set_cons_succ]
          refine wpAnyH_take (i := 5) (oi := { dst := some 124, op := _, type := _, pos := _, after := _, guard := _ }) (v := ?_) rfl (by kernel_rfl) (by kernel_rfl) (by kernel_rfl) (fun _ _ _ h => h) (Or.inl ⟨by rfl, ?_⟩) hH ?_
          rotate_left
          · intro wz hSw
            (try dsimp only at hSw)
            first | (go_simp; done) | (go_simp; with_reducible rfl)
          try simp only [Act.put, List.setIfInBounds_toArray, List.set_cons_zero, List.set_cons_succ]
          refine wpAnyH_take (i := 6) (oi := { dst := some 125, op := _, type := _, pos := _, after := _, guard := _ }) (v := ?_) rfl (by kernel_rfl) (by kernel_rfl) (by kernel_rfl) (fun _ _ _ h => h) (Or.inl ⟨by rfl, ?_⟩) hH ?_
          rotate_left
          · intro wz hSw
            (try dsimp only at hSw)
            first | (go_simp; done) | (go_simp; with_reducible rfl)
          try simp only [Act.put, List.setIfInBounds_toArray, List.set_cons_zero, List.set_cons_succ]
          refine wpAnyH_take (i := 7) (oi := { dst := some 126, op := _, type := _, pos := _, after := _, guard := _ }) (v := ?_) rfl (by kernel_rfl) (by kernel_rfl) (by kernel_rfl) (fun _ _ _ h => h) (Or.inl ⟨by rfl, ?_⟩) hH ?_
          rotate_left
          · intro wz hSw
            (try dsimp only at hSw)
            first | (go_simp; done) | (go_simp; with_reducible rfl)
          try simp only [Act.put, List.setIfInBounds_toArray, List.set_cons_zero, List.set_cons_succ]
          refine wpAnyH_take (i := 8) (oi := { dst := some 127, op := _, type := _, pos := _, after := _, guard := _ }) (v := ?_) rfl (by kernel_rfl) (by kernel_rfl) (by kernel_rfl) (fun _ _ _ h => h) (Or.inl ⟨by rfl, ?_⟩) hH ?_
          rotate_left
          · intro wz hSw
            (try dsimp only at hSw)
            first | (go_simp; done) | (go_simp; with_reducible rfl)
          try simp only [Act.put, List.setIfInBounds_toArray, List.set_cons_zero, List.set_cons_succ]
          refine wpAnyH_ready (rs := [4]) (by kernel_rfl) (by simp) ?_
          refine AllReadyH.cons (o := { dst := some 123, op := _, type := _, pos := _, after := _, guard := _ }) rfl (fun K hK => ?_) AllReadyH.nil
          go_simp
          refine (C.nodes (C.later A3 (below_draw1 _)) hL1).mono ?_
          rintro e u4 ⟨rfl, hb⟩
          go_wp2_with fail
          have A4 := C.later (C.later A3 (below_draw1 _)) hb
          have LR4 := (LR3.later (below_draw1 _)).later hb
          have RL4 := (RL3.later (below_draw1 _)).later hb
          clear A3 LR3 RL3
          refine hK.out _ _ (kept_20 hH hb) (fun hH2 => ?_)
          clear hK K hH
          have hH := hH2
          clear hH2
          try simp only [Act.put, List.setIfInBounds_toArray, List.set_cons_zero, List.set_cons_succ]
          refine wpAnyH_ready (rs := [9]) (by kernel_rfl) (by simp) ?_
          refine AllReadyH.cons (o := { dst := some 128, op := _, type := _, pos := _, after := _, guard := _ }) rfl (fun K hK => ?_) AllReadyH.nil
          go_simp
          refine (rnodes_any _ RL4 (by omega) hM1).mono ?_
          rintro e u9 ⟨rfl, hb⟩
          go_wp2_with fail
          have A5 := C.later A4 hb
          have LR5 := LR4.later hb
          clear A4 LR4 RL4
          refine hK.out _ _ (kept_20 hH hb) (fun hH2 => ?_)
          clear hK K hH
          have hH := hH2
          clear hH2
          try simp only [Act.put, List.setIfInBounds_toArray, List.set_cons_zero, List.set_cons_succ]
          refine wpAnyH_take (i := 10) (oi := { dst := some 129, op := _, type := _, pos := _, after := _, guard := _ }) (v := ?_) rfl (by kernel_rfl) (by kernel_rfl) (by kernel_rfl) (fun _ _ _ h => h) (Or.inl ⟨by rfl, ?_⟩) hH ?_
          rotate_left
          · intro wz hSw
            (try dsimp only at hSw)
            first | (go_simp; done) | (go_simp; with_reducible rfl)
          try simp only [Act.put, List.setIfInBounds_toArray, List.set_cons_zero, List.set_cons_succ]
          refine wpAnyH_take (i := 11) (oi := { dst := some 130, op := _, type := _, pos := _, after := _, guard := _ }) (v := ?_) rfl (by kernel_rfl) (by kernel_rfl) (by kernel_rfl) (fun _ _ _ h => h) (Or.inl ⟨by rfl, ?_⟩) hH ?_
          rotate_left
          · intro wz hSw
            (try dsimp only at hSw)
            first | (go_simp; done) | (go_simp; with_reducible rfl)
          try simp only [Act.put, List.setIfInBounds_toArray, List.set_cons_zero, List.set_cons_succ]
          refine wpAnyH_done (by kernel_rfl) ?_ _
          refine NoPanic.normal ?_
          go_wp2_with fail
          go_roundw
          case rel => exact ⟨k + 1, _, _, by omega, by go_num, by rw [NX.out]; exact A5, by rw [NX.out]; exact LR5, HI.out.1, HI.out.2.1, HI.out.2.2.1, fun k hk => Nat.lt_of_lt_of_le (HI.out.2.2.2 k hk) hH.2.2.2, hH.1⟩
          case measure => simp [intOf]; omega
        · have hb0 : (kd == 0) = false := by simpa using hk0
          have hb01 : (kd == 1) = false := by simpa using hk1
          have NX2 : Hid (doAll room s (k + 1) = L) := NX.out.trans (by unfold doTo; rw [if_neg hk0, if_neg hk1])
          clear NX
          have NX := NX2
          clear NX2 hk0 hk1
          obtain ⟨g0, g1, g2, hg⟩ := best_three (findR L p0 none)
          generalize hfs : (findR L p0 none).isSome = isv
          have cF := fun (w : World) (h : C.At F w Bt room L) => C.find p0 wp0 h (by omega) hg
          have cR := fun (w : World) (h : LAt G w Br room L) => rFind_any h (by omega) p0 hg
          rw [hfs] at cF cR
          go_wp2_with fail
          refine (cF _ A).mono ?_
          rintro e w5 ⟨rfl, hb5⟩
          have hn5 := below_new w5 (.cells #[.int .i64 g0, .int .i64 g1, .int .i64 g2] 36)
          have X5 := Lies.new w5 [g0, g1, g2] 36 rfl
          replace A := C.later (C.later A hb5) hn5
          replace LR := (LR.later hb5).later hn5
          have hb6 := below_step (below_step hbr hb5) hn5
          obtain ⟨b9, o9, e9, -, hc9⟩ := (R.later hb6).at gk
          cases e9
          clear c0 c1 c2 c3 c3b
          have c2 := hc9 2 _ rfl
          clear hc9
          go_wp2_with fail
          refine (cR _ LR).mono ?_
          rintro e w7 ⟨rfl, hb7⟩
          have hn7 := below_new w7 (.cells #[.int .i64 g0, .int .i64 g1, .int .i64 g2] 36)
          have Y7 := Lies.new w7 [g0, g1, g2] 36 rfl
          replace X5 := (X5.later hb7).later hn7
          have A1 := C.later (C.later A hb7) hn7
          have LR1 := (LR.later hb7).later hn7
          have hb1 := below_step (below_step hb6 hb7) hn7
          obtain ⟨x0, x1, x2⟩ := X5.three
          obtain ⟨y0, y1, y2⟩ := Y7.three
          have hw7 : wr.heap.size ≤ (w7.alloc (.cells #[.int .i64 g0, .int .i64 g1, .int .i64 g2] 36)).heap.size := Nat.le_trans (Nat.le_trans hb5.size hn5.size) (Nat.le_trans hb7.size hn7.size)
          have gl1 := fun k hk => Nat.lt_of_lt_of_le (hGl k hk) hw7
          have ap1 := hap
          have gt1 := gt
          have gr1 := gr
          have hL1 : L.length ≤ 90 := by omega
          have hM1 := hM
          clear A LR hb5 hn5 hb6 hb7 hn7 X5 Y7 hap gt gr hGl hM hw7
          obtain ⟨L1, eL1⟩ : ∃ l, L = l := ⟨_, rfl⟩
          subst eL1
          have HI : Hid _ := And.intro ap1 (And.intro gt1 (And.intro gr1 gl1))
          clear ap1 gt1 gr1 gl1
          have hcnt : (count L != ((nodesR (L.map (·.1))).length : Int)) = false := by unfold count; simp
          obtain ⟨a8, c8, hc8, RL, -⟩ := LR1.slice
          have S0 : Below w.heap.size w (w7.alloc (.cells #[.int .i64 g0, .int .i64 g1, .int .i64 g2] 36)).drew ∧ Br < (w7.alloc (.cells #[.int .i64 g0, .int .i64 g1, .int .i64 g2] 36)).drew.heap.size ∧ (w7.alloc (.cells #[.int .i64 g0, .int .i64 g1, .int .i64 g2] 36)).drew.cell? ⟨Br, 0, none⟩ = some (.slice a8 L.length c8) ∧ (w7.alloc (.cells #[.int .i64 g0, .int .i64 g1, .int .i64 g2] 36)).heap.size ≤ (w7.alloc (.cells #[.int .i64 g0, .int .i64 g1, .int .i64 g2] 36)).drew.heap.size := ⟨hb1.drew, LR1.lt, hc8, Nat.le_refl _⟩
          go_wp2_with fail
          refine wp_region_noPanic ?_
          refine wp_region_held_drew (S := fun w' => Below w.heap.size w w' ∧ Br < w'.heap.size ∧ w'.cell? ⟨Br, 0, none⟩ = some (.slice a8 L.length c8) ∧ (w7.alloc (.cells #[.int .i64 g0, .int .i64 g1, .int .i64 g2] 36)).heap.size ≤ w'.heap.size) (by kernel_rfl) S0 (fun hH => ?_)
          clear S0
          refine wpAnyH_take (i := 0) (oi := { dst := some 112, op := _, type := _, pos := _, after := _, guard := _ }) (v := ?_) rfl (by kernel_rfl) (by kernel_rfl) (by kernel_rfl) (fun _ _ _ h => h) (Or.inl ⟨by rfl, ?_⟩) hH ?_
          rotate_left
          · intro wz hSw
            (try dsimp only at hSw)
            first | (go_simp; done) | (go_simp; with_reducible rfl)
          try simp only [Act.put, List.setIfInBounds_toArray, List.set_cons_zero, List.set_cons_succ]
          refine wpAnyH_take (i := 2) (oi := { dst := some 114, op := _, type := _, pos := _, after := _, guard := _ }) (v := ?_) rfl (by kernel_rfl) (by kernel_rfl) (by kernel_rfl) (fun _ _ _ h => h) (Or.inl ⟨by rfl, ?_⟩) hH ?_
          rotate_left
          · intro wz hSw
            (try dsimp only at hSw)
            first | (go_simp; done) | (go_simp; with_reducible rfl)
          try simp only [Act.put, List.setIfInBounds_toArray, List.set_cons_zero, List.set_cons_succ]
          refine wpAnyH_take (i := 3) (oi := { dst := some 115, op := _, type := _, pos := _, after := _, guard := _ }) (v := ?_) rfl (by kernel_rfl) (by kernel_rfl) (by kernel_rfl) (fun _ _ _ h => h) (Or.inl ⟨by rfl, ?_⟩) hH ?_
          rotate_left
          · intro wz hSw
            (try dsimp only at hSw)
            first | (go_simp; done) | (go_simp; with_reducible rfl)
          try simp only [Act.put, List.setIfInBounds_toArray, List.set_cons_zero, List.set_cons_succ]
          refine wpAnyH_take (i := 4) (oi := { dst := some 116, op := _, type := _, pos := _, after := _, guard := _ }) (v := ?_) rfl (by kernel_rfl) (by kernel_rfl) (by kernel_rfl) (fun _ _ _ h => h) (Or.inl ⟨by rfl, ?_⟩) hH ?_
          rotate_left
          · intro wz hSw
            (try dsimp only at hSw)
            first | (go_simp; done) | (go_simp; with_reducible rfl)
          try simp only [Act.put, List.setIfInBounds_toArray, List.set_cons_zero, List.set_cons_succ]
          refine wpAnyH_take (i := 5) (oi := { dst := some 117, op := _, type := _, pos := _, after := _, guard := _ }) (v := ?_) rfl (by kernel_rfl) (by kernel_rfl) (by kernel_rfl) (fun _ _ _ h => h) (Or.inl ⟨by rfl, ?_⟩) hH ?_
          rotate_left
          · intro wz hSw
            (try dsimp only at hSw)
            first | (go_simp; done) | (go_simp; with_reducible rfl)
          try simp only [Act.put, List.setIfInBounds_toArray, List.set_cons_zero, List.set_cons_succ]
          refine wpAnyH_ready (rs := [1]) (by kernel_rfl) (by simp) ?_
          refine AllReadyH.cons (o := { dst := some 113, op := _, type := _, pos := _, after := _, guard := _ }) rfl (fun K hK => ?_) AllReadyH.nil
          go_simp
          refine (C.walk (C.later A1 (below_draw1 _)) hL1).mono ?_
          rintro e u1 ⟨x1, k1, rfl, ⟨RW, -⟩, hb⟩
          go_wp2_with fail
          have A2 := C.later (C.later A1 (below_draw1 _)) hb
          have LR2 := (LR1.later (below_draw1 _)).later hb
          have RL2 := (RL.later (below_draw1 _)).later hb
          clear A1 LR1 RL
          refine hK.out _ _ (kept_20 hH hb) (fun hH2 => ?_)
          clear hK K hH
          have hH := hH2
          clear hH2
          try simp only [Act.put, List.setIfInBounds_toArray, List.set_cons_zero, List.set_cons_succ]
          refine wpAnyH_ready (rs := [6]) (by kernel_rfl) (by simp) ?_
          refine AllReadyH.cons (o := { dst := some 118, op := _, type := _, pos := _, after := _, guard := _ }) rfl (fun K hK => ?_) AllReadyH.nil
          go_simp
          refine (rsame_any _ RW RL2).mono ?_
          rintro e u6 ⟨rfl, hb⟩
          go_wp2_with fail
          have A3 := C.later A2 hb
          have LR3 := LR2.later hb
          have RL3 := RL2.later hb
          clear A2 LR2 RL2 RW
          refine hK.out _ _ (kept_20 hH hb) (fun hH2 => ?_)
          clear hK K hH
          have hH := hH2
          clear hH2
          try simp only [Act.put, List.setIfInBounds_toArray, List.set_cons_zero, List.set_cons_succ]
          refine wpAnyH_take (i := 7) (oi := { dst := some 13, op := _, type := _, pos := _, after := _, guard := _ }) (v := ?_) rfl (by kernel_rfl) (by kernel_rfl) (by kernel_rfl) (fun _ _ _ h => h) (Or.inl ⟨by rfl, ?_⟩) hH ?_
          rotate_left
          · intro wz hSw
            (try dsimp only at hSw)
            first | (go_simp; done) | (go_simp; with_reducible rfl)
          try simp only [Act.put, List.setIfInBounds_toArray, List.set_cons_zero, List.set_cons_succ]
          refine wpAnyH_done (by kernel_rfl) ?_ _
          refine NoPanic.normal ?_
          have S0 := kept_20 hH (below_draw1 _)
          clear hH
          go_wp2_with fail
          refine wp_region_noPanic ?_
          refine wp_region_held_drew (S := fun w' => Below w.heap.size w w' ∧ Br < w'.heap.size ∧ w'.cell? ⟨Br, 0, none⟩ = some (.slice a8 L.length c8) ∧ (w7.alloc (.cells #[.int .i64 g0, .int .i64 g1, .int .i64 g2] 36)).heap.size ≤ w'.heap.size) (by kernel_rfl) S0 (fun hH => ?_)
          clear S0
          refine wpAnyH_take (i := 0) (oi := { dst := some 119, op := _, type := _, pos := _, after := _, guard := _ }) (v := ?_) rfl (by kernel_rfl) (by kernel_rfl) (by kernel_rfl) (fun _ _ _ h => h) (Or.inl ⟨by rfl, ?_⟩) hH ?_
          rotate_left
          · intro wz hSw
            (try dsimp only at hSw)
            first | (go_simp; done) | (go_simp; with_reducible rfl)
          try simp only [Act.put, List.setIfInBounds_toArray, List.set_cons_zero, List.set_cons_succ]
          refine wpAnyH_take (i := 1) (oi := { dst := some 120, op := _, type := _, pos := _, after := _, guard := _ }) (v := ?_) rfl (by kernel_rfl) (by kernel_rfl) (by kernel_rfl) (fun _ _ _ h => h) (Or.inl ⟨by rfl, ?_⟩) hH ?_
          rotate_left
          · intro wz hSw
            (try dsimp only at hSw)
            first | (go_simp; done) | (go_simp; with_reducible rfl)
          try simp only [Act.put, List.setIfInBounds_toArray, List.set_cons_zero, List.set_cons_succ]
          refine wpAnyH_take (i := 2) (oi := { dst := some 121, op := _, type := _, pos := _, after := _, guard := _ }) (v := ?_) rfl (by kernel_rfl) (by kernel_rfl) (by kernel_rfl) (fun _ _ _ h => h) (Or.inl ⟨by rfl, ?_⟩) hH ?_
          rotate_left
          · intro wz hSw
            (try dsimp only at hSw)
            first | (go_simp; done) | (go_simp; with_reducible rfl)
          try simp only [Act.put, List.setIfInBounds_toArray, List.set_cons_zero, List.set_cons_succ]
          refine wpAnyH_take (i := 3) (oi := { dst := some 122, op := _, type := _, pos := _, after := _, guard := _ }) (v := ?_) rfl (by kernel_rfl) (by kernel_rfl) (by kernel_rfl) (fun _ _ _ h => h) (Or.inl ⟨by rfl, ?_⟩) hH ?_
          rotate_left
          · intro wz hSw
            (try dsimp only at hSw)
            first | (go_simp; done) | (go_simp; with_reducible rfl)
          try simp only [Act.put, List.setIfInBounds_toArray, List.set_cons_zero, List.set_cons_succ]
          refine wpAnyH_take (i := 5) (oi := { dst := some 124, op := _, type := _, pos := _, after := _, guard := _ }) (v := ?_) rfl (by kernel_rfl) (by kernel_rfl) (by kernel_rfl) (fun _ _ _ h => h) (Or.inl ⟨by rfl, ?_⟩) hH ?_
          rotate_left
          · intro wz hSw
            (try dsimp only at hSw)
            first | (go_simp; done) | (go_simp; with_reducible rfl)
          try simp only [Act.put, List.setIfInBounds_toArray, List.set_cons_zero, List.set_cons_succ]
          refine wpAnyH_take (i := 6) (oi := { dst := some 125, op := _, type := _, pos := _, after := _, guard := _ }) (v := ?_) rfl (by kernel_rfl) (by kernel_rfl) (by kernel_rfl) (fun _ _ _ h => h) (Or.inl ⟨by rfl, ?_⟩) hH ?_
          rotate_left
          · intro wz hSw
            (try dsimp only at hSw)
            first | (go_simp; done) | (go_simp; with_reducible rfl)
          try simp only [Act.put, List.setIfInBounds_toArray, List.set_cons_zero, List.set_cons_succ]
          refine wpAnyH_take (i := 7) (oi := { dst := some 126, op := _, type := _, pos := _, after := _, guard := _ }) (v := ?_) rfl (by kernel_rfl) (by kernel_rfl) (by kernel_rfl) (fun _ _ _ h => h) (Or.inl ⟨by rfl, ?_⟩) hH ?_
          rotate_left
          · intro wz hSw
            (try dsimp only at hSw)
            first | (go_simp; done) | (go_simp; with_reducible rfl)
          try simp only [Act.put, List.setIfInBounds_toArray, List.set_cons_zero, List.set_cons_succ]
          refine wpAnyH_take (i := 8) (oi := { dst := some 127, op := _, type := _, pos := _, after := _, guard := _ }) (v := ?_) rfl (by kernel_rfl) (by kernel_rfl) (by kernel_rfl) (fun _ _ _ h => h) (Or.inl ⟨by rfl, ?_⟩) hH ?_
          rotate_left
          · intro wz hSw
            (try dsimp only at hSw)
            first | (go_simp; done) | (go_simp; with_reducible rfl)
          try simp only [Act.put, List.setIfInBounds_toArray, List.set_cons_zero, List.set_cons_succ]
          refine wpAnyH_ready (rs := [4]) (by kernel_rfl) (by simp) ?_
          refine AllReadyH.cons (o := { dst := some 123, op := _, type := _, pos := _, after := _, guard := _ }) rfl (fun K hK => ?_) AllReadyH.nil
          go_simp
          refine (C.nodes (C.later A3 (below_draw1 _)) hL1).mono ?_
          rintro e u4 ⟨rfl, hb⟩
          go_wp2_with fail
          have A4 := C.later (C.later A3 (below_draw1 _)) hb
          have LR4 := (LR3.later (below_draw1 _)).later hb
          have RL4 := (RL3.later (below_draw1 _)).later hb
          clear A3 LR3 RL3
          refine hK.out _ _ (kept_20 hH hb) (fun hH2 => ?_)
          clear hK K hH
          have hH := hH2
          clear hH2
          try simp only [Act.put, List.setIfInBounds_toArray, List.set_cons_zero, List.set_cons_succ]
          refine wpAnyH_ready (rs := [9]) (by kernel_rfl) (by simp) ?_
          refine AllReadyH.cons (o := { dst := some 128, op := _, type := _, pos := _, after := _, guard := _ }) rfl (fun K hK => ?_) AllReadyH.nil
          go_simp
          refine (rnodes_any _ RL4 (by omega) hM1).mono ?_
          rintro e u9 ⟨rfl, hb⟩
          go_wp2_with fail
          have A5 := C.later A4 hb
          have LR5 := LR4.later hb
          clear A4 LR4 RL4
          refine hK.out _ _ (kept_20 hH hb) (fun hH2 => ?_)
          clear hK K hH
          have hH := hH2
          clear hH2
          try simp only [Act.put, List.setIfInBounds_toArray, List.set_cons_zero, List.set_cons_succ]
          refine wpAnyH_take (i := 10) (oi := { dst := some 129, op := _, type := _, pos := _, after := _, guard := _ }) (v := ?_) rfl (by kernel_rfl) (by kernel_rfl) (by kernel_rfl) (fun _ _ _ h => h) (Or.inl ⟨by rfl, ?_⟩) hH ?_
          rotate_left
          · intro wz hSw
            (try dsimp only at hSw)
            first | (go_simp; done) | (go_simp; with_reducible rfl)
          try simp only [Act.put, List.setIfInBounds_toArray, List.set_cons_zero, List.set_cons_succ]
          refine wpAnyH_take (i := 11) (oi := { dst := some 130, op := _, type := _, pos := _, after := _, guard := _ }) (v := ?_) rfl (by kernel_rfl) (by kernel_rfl) (by kernel_rfl) (fun _ _ _ h => h) (Or.inl ⟨by rfl, ?_⟩) hH ?_
          rotate_left
          · intro wz hSw
            (try dsimp only at hSw)
            first | (go_simp; done) | (go_simp; with_reducible rfl)
          try simp only [Act.put, List.setIfInBounds_toArray, List.set_cons_zero, List.set_cons_succ]
          refine wpAnyH_done (by kernel_rfl) ?_ _
          refine NoPanic.normal ?_
          go_wp2_with fail
          go_roundw
          case rel => exact ⟨k + 1, _, _, by omega, by go_num, by rw [NX.out]; exact A5, by rw [NX.out]; exact LR5, HI.out.1, HI.out.2.1, HI.out.2.2.1, fun k hk => Nat.lt_of_lt_of_le (HI.out.2.2.2 k hk) hH.2.2.2, hH.1⟩
          case measure => simp [intOf]; omega
    · go_wp2_with fail
      go_ret
      exact ⟨rfl, hbr⟩
end Go.Proofs.Ytlgldoggnlcbkaa.trieDoes
