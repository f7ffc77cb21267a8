/- What the code's others answers: a map from each end of a link to the other end. -/
import Derived.Test.YtihgpllbgliplaaTopPort
import Derived.Deep.RegionHeld3
namespace Go.Proofs.Ytihgpllbgliplaa
open Go.ChangeShapes Go.WideShapes Go.ChangeAt Go.RowKit Go.Maps Tp
set_option linter.unusedVariables false
set_option linter.unusedSimpArgs false

theorem Lies.put2 {w : World} {B : Nat} {x0 x1 : Int} (X : Lies w B [x0, x1]) (y0 y1 : Int) : Lies ((w.setCell ⟨B, 0, none⟩ (.int .i64 y0)).setCell ⟨B, 1, none⟩ (.int .i64 y1)) B [y0, y1] := by
  obtain ⟨h0, h1⟩ := X.two
  refine ⟨by simp [X.lt], fun j x hx => ?_, fun j => by rw [World.frozen?_setCell, World.frozen?_setCell]; exact X.fz j⟩
  have e0 : (w.setCell ⟨B, 0, none⟩ (.int .i64 y0)).cell? ⟨B, 1, none⟩ = some (.int .i64 x1) := by
    rw [World.cell?_setCell_other w ⟨B, 0, none⟩ ⟨B, 1, none⟩ _ (by intro h; cases h)]; exact h1
  match j, hx with
  | 0, hx =>
    cases hx
    rw [World.cell?_setCell_other _ ⟨B, 1, none⟩ ⟨B, 0, none⟩ _ (by intro h; cases h)]
    exact World.cell?_setCell_same' _ _ _ (by rw [h0]; rfl)
  | 1, hx =>
    cases hx
    exact World.cell?_setCell_same' _ _ _ (by rw [e0]; rfl)
theorem Lies.far2 {w : World} {C B : Nat} {l : List Int} (X : Lies w C l) (h : C ≠ B) (u v : Value) : Lies ((w.setCell ⟨B, 0, none⟩ u).setCell ⟨B, 1, none⟩ v) C l :=
  ⟨by simp [X.lt], fun j x hx => by
    rw [World.cell?_setCell_other _ ⟨B, 1, none⟩ ⟨C, j, none⟩ _ (by intro g; injection g with g1; exact h g1.symm), World.cell?_setCell_other _ ⟨B, 0, none⟩ ⟨C, j, none⟩ _ (by intro g; injection g with g1; exact h g1.symm)]
    exact X.cells j x hx, fun j => by rw [World.frozen?_setCell, World.frozen?_setCell]; exact X.fz j⟩
theorem below_put2 {B b : Nat} {w0 w : World} (hb : Below B w0 w) (hg : B ≤ b) (u v : Value) : Below B w0 ((w.setCell ⟨b, 0, none⟩ u).setCell ⟨b, 1, none⟩ v) := (hb.setCell (p := ⟨b, 0, none⟩) hg _).setCell (p := ⟨b, 1, none⟩) hg _
theorem Lies.grown {w w' : World} {C b : Nat} {l : List Int} (X : Lies w C l) (hg : w.grownBy w' (some b)) (h : C ≠ b) : Lies w' C l := by
  have hk := hg.block C X.lt (by simpa using h)
  exact ⟨Nat.lt_of_lt_of_le X.lt hg.size, fun j x hx => (World.cell?_of_block (a := ⟨C, j, none⟩) hk).trans (X.cells j x hx), fun j => (World.frozen?_of_block (a := ⟨C, j, none⟩) hk).trans (X.fz j)⟩
theorem getK {l : List Lk} {k : Nat} (h : k < l.length) : ∃ x, l[k]? = some x := ⟨l[k], List.getElem?_eq_getElem h⟩
theorem mapL_snoc {l : List Lk} {k : Nat} {x : Lk} (hx : l[k]? = some x) : mapL (l.take (k + 1)) = ins (ins (mapL (l.take k)) (x.a, x.p) (x.b, x.q)) (x.b, x.q) (x.a, x.p) := by
  rw [List.take_add_one, hx]
  unfold mapL insAll
  rw [ends_append, List.foldl_append]
  rfl
theorem ins_le (m : List (En × En)) (k v : En) : (ins m k v).length ≤ m.length + 1 := by
  rw [ins_len]; split <;> omega
set_option maxRecDepth 100000 in
set_option maxHeartbeats 4000000 in
theorem others_any (w : World) {a : Option Addr} {c : Nat} {l : List Lk} (R : Rds fK 4 w a c l) (hl : l.length ≤ 100) :
    Calls Try.prog 37 #[.slice a l.length c] w fun e w' => e = .returned (.map (some w.heap.size)) ∧ MapAt w' w.heap.size (mapL l) ∧ Below w.heap.size w w' := by
  have hmm := @run_makeMap Try.prog
  have hmx := Nat.le_trans R.le R.max
  unfold maxLen at hmx
  have M0 := MapAt.made w
  have hb0 := below_new w (.map #[] 0)
  have hs0 : w.heap.size < (w.alloc (.map #[] 0)).heap.size := by simp
  have HL100 : Hid (l.length ≤ 100) := hl
  clear hl
  have HF : Hid (mapL l = mapL (l.take l.length)) := by show _ = _; rw [List.take_length]
  go_enter Try.func37, Try.ntmps37
  go_wp2_with fail
  go_loopw [11] (fun v wr => ∃ k : Nat, k ≤ l.length ∧ v = .int .i64 (k : Nat) ∧ MapAt wr w.heap.size (mapL (l.take k)) ∧ Below w.heap.size w wr) (fun v _ => l.length - (intOf v).toNat)
  case atStart => exact ⟨0, by omega, rfl, M0, hb0⟩
  case round =>
    clear M0 hb0
    obtain ⟨k, hk, rfl, M, hbr⟩ := hrel
    by_cases hlt : k < l.length
    · have hkz : (k : Int) < (l.length : Int) := by omega
      obtain ⟨r, hr⟩ := getK hlt
      obtain ⟨b, o, rfl, hbr1, hc⟩ := (R.later hbr).at hr
      have NX : Hid (mapL (l.take (k + 1)) = ins (ins (mapL (l.take k)) (r.a, r.p) (r.b, r.q)) (r.b, r.q) (r.a, r.p)) := mapL_snoc hr
      have HL : Hid ((mapL (l.take k)).length + 2 ≤ 300) := by
        show _ ≤ _
        have h1 := mapL_le (l.take k)
        rw [List.length_take] at h1
        have h2 := HL100.out
        omega
      have hw := R.wf r (List.mem_of_getElem? hr)
      obtain ⟨ka, kp, kb, kq⟩ := r
      have hwA : We (ka, kp) := ⟨hw ka (by simp [fK]), hw kp (by simp [fK])⟩
      have hwB : We (kb, kq) := ⟨hw kb (by simp [fK]), hw kq (by simp [fK])⟩
      have v0 := hc 0 _ rfl
      have v1 := hc 1 _ rfl
      have v2 := hc 2 _ rfl
      have v3 := hc 3 _ rfl
      rw [Nat.add_zero] at v0
      clear hc hr hw
      have hwr0 := M.lt
      generalize mapL (l.take k) = m at M NX HL
      go_wp2_with fail
      have hb1 := below_new wr (.cells #[.int .i64 ka, .int .i64 kp, .int .i64 kb, .int .i64 kq] 71)
      have X : Lies (wr.alloc (.cells #[.int .i64 ka, .int .i64 kp, .int .i64 kb, .int .i64 kq] 71)) wr.heap.size [ka, kp, kb, kq] := Lies.new wr [ka, kp, kb, kq] 71 rfl
      have x0 := X.cells 0 _ rfl
      have x1 := X.cells 1 _ rfl
      have x2 := X.cells 2 _ rfl
      have x3 := X.cells 3 _ rfl
      have hBx := X.lt
      have hB1 := below_step hbr hb1
      have M1 := M.later hb1
      have hs1 : w.heap.size < (wr.alloc (.cells #[.int .i64 ka, .int .i64 kp, .int .i64 kb, .int .i64 kq] 71)).heap.size := Nat.lt_of_lt_of_le hwr0 hb1.size
      clear X hb1 v0 v1 v2 v3 M hbr hbr1
      generalize wr.heap.size = Bx at x0 x1 x2 x3 hBx ⊢
      generalize wr.alloc (.cells #[.int .i64 ka, .int .i64 kp, .int .i64 kb, .int .i64 kq] 71) = W at x0 x1 x2 x3 hBx hB1 M1 hs1 ⊢
      refine wp_region_noPanic ?_
      have S0 : Below W.heap.size W W.drew := (Below.refl _ _).drew
      refine wp_region_held_drew (S := fun w' => Below W.heap.size W w') (by kernel_rfl) S0 (fun hH => ?_)
      clear S0
      generalize W.drew = W0 at hH ⊢
      refine wpAnyH_take (i := 0) (oi := { dst := some 15, op := _, type := _, pos := _, after := _, guard := _ }) (v := ?_) rfl (by kernel_rfl) (by kernel_rfl) (by kernel_rfl) (fun _ _ _ h => h) (Or.inl ⟨by rfl, ?_⟩) hH ?_
      rotate_left
      · intro wz hSw
        (try dsimp only at hSw)
        first | (go_simp; done) | (go_simp; with_reducible rfl)
      try simp only [Act.put, List.setIfInBounds_toArray, List.set_cons_zero, List.set_cons_succ]
      refine wpAnyH_take (i := 1) (oi := { dst := some 16, op := _, type := _, pos := _, after := _, guard := _ }) (v := ?_) rfl (by kernel_rfl) (by kernel_rfl) (by kernel_rfl) (fun _ _ _ h => h) (Or.inl ⟨by rfl, ?_⟩) hH ?_
      rotate_left
      · intro wz hSw
        (try dsimp only at hSw)
        have z0 := (hSw.cell (p := ⟨Bx, 0, none⟩) hBx).trans x0
        first | (go_simp; done) | (go_simp; with_reducible rfl)
      try simp only [Act.put, List.setIfInBounds_toArray, List.set_cons_zero, List.set_cons_succ]
      refine wpAnyH_take (i := 2) (oi := { dst := some 17, op := _, type := _, pos := _, after := _, guard := _ }) (v := ?_) rfl (by kernel_rfl) (by kernel_rfl) (by kernel_rfl) (fun _ _ _ h => h) (Or.inl ⟨by rfl, ?_⟩) hH ?_
      rotate_left
      · intro wz hSw
        (try dsimp only at hSw)
        first | (go_simp; done) | (go_simp; with_reducible rfl)
      try simp only [Act.put, List.setIfInBounds_toArray, List.set_cons_zero, List.set_cons_succ]
      refine wpAnyH_take (i := 3) (oi := { dst := some 18, op := _, type := _, pos := _, after := _, guard := _ }) (v := ?_) rfl (by kernel_rfl) (by kernel_rfl) (by kernel_rfl) (fun _ _ _ h => h) (Or.inl ⟨by rfl, ?_⟩) hH ?_
      rotate_left
      · intro wz hSw
        (try dsimp only at hSw)
        have z1 := (hSw.cell (p := ⟨Bx, 1, none⟩) hBx).trans x1
        first | (go_simp; done) | (go_simp; with_reducible rfl)
      try simp only [Act.put, List.setIfInBounds_toArray, List.set_cons_zero, List.set_cons_succ]
      refine wpAnyH_take (i := 4) (oi := { dst := some 19, op := _, type := _, pos := _, after := _, guard := _ }) (v := ?_) rfl (by kernel_rfl) (by kernel_rfl) (by kernel_rfl) (fun _ _ _ h => h) (Or.inl ⟨by rfl, ?_⟩) hH ?_
      rotate_left
      · intro wz hSw
        (try dsimp only at hSw)
        first | (go_simp; done) | (go_simp; with_reducible rfl)
      try simp only [Act.put, List.setIfInBounds_toArray, List.set_cons_zero, List.set_cons_succ]
      refine wpAnyH_take (i := 5) (oi := { dst := some 20, op := _, type := _, pos := _, after := _, guard := _ }) (v := ?_) rfl (by kernel_rfl) (by kernel_rfl) (by kernel_rfl) (fun _ _ _ h => h) (Or.inl ⟨by rfl, ?_⟩) hH ?_
      rotate_left
      · intro wz hSw
        (try dsimp only at hSw)
        first | (go_simp; done) | (go_simp; with_reducible rfl)
      try simp only [Act.put, List.setIfInBounds_toArray, List.set_cons_zero, List.set_cons_succ]
      refine wpAnyH_take (i := 6) (oi := { dst := some 21, op := _, type := _, pos := _, after := _, guard := _ }) (v := ?_) rfl (by kernel_rfl) (by kernel_rfl) (by kernel_rfl) (fun _ _ _ h => h) (Or.inl ⟨by rfl, ?_⟩) hH ?_
      rotate_left
      · intro wz hSw
        (try dsimp only at hSw)
        have z2 := (hSw.cell (p := ⟨Bx, 2, none⟩) hBx).trans x2
        first | (go_simp; done) | (go_simp; with_reducible rfl)
      try simp only [Act.put, List.setIfInBounds_toArray, List.set_cons_zero, List.set_cons_succ]
      refine wpAnyH_take (i := 7) (oi := { dst := some 22, op := _, type := _, pos := _, after := _, guard := _ }) (v := ?_) rfl (by kernel_rfl) (by kernel_rfl) (by kernel_rfl) (fun _ _ _ h => h) (Or.inl ⟨by rfl, ?_⟩) hH ?_
      rotate_left
      · intro wz hSw
        (try dsimp only at hSw)
        first | (go_simp; done) | (go_simp; with_reducible rfl)
      try simp only [Act.put, List.setIfInBounds_toArray, List.set_cons_zero, List.set_cons_succ]
      refine wpAnyH_take (i := 8) (oi := { dst := some 23, op := _, type := _, pos := _, after := _, guard := _ }) (v := ?_) rfl (by kernel_rfl) (by kernel_rfl) (by kernel_rfl) (fun _ _ _ h => h) (Or.inl ⟨by rfl, ?_⟩) hH ?_
      rotate_left
      · intro wz hSw
        (try dsimp only at hSw)
        have z3 := (hSw.cell (p := ⟨Bx, 3, none⟩) hBx).trans x3
        first | (go_simp; done) | (go_simp; with_reducible rfl)
      try simp only [Act.put, List.setIfInBounds_toArray, List.set_cons_zero, List.set_cons_succ]
      refine wpAnyH_take (i := 9) (oi := { dst := some 24, op := _, type := _, pos := _, after := _, guard := _ }) (v := ?_) rfl (by kernel_rfl) (by kernel_rfl) (by kernel_rfl) (fun _ _ _ h => h) (Or.inl ⟨by rfl, ?_⟩) hH ?_
      rotate_left
      · intro wz hSw
        (try dsimp only at hSw)
        first | (go_simp; done) | (go_simp; with_reducible rfl)
      try simp only [Act.put, List.setIfInBounds_toArray, List.set_cons_zero, List.set_cons_succ]
      refine wpAnyH_ready (rs := [10, 11]) (by kernel_rfl) (by simp) ?_
      refine (AllReadyH.cons (o := { dst := some 6, op := _, type := _, pos := _, after := _, guard := _ }) rfl (fun K hK => ?_) (AllReadyH.cons (o := { dst := some 7, op := _, type := _, pos := _, after := _, guard := _ }) rfl (fun K hK => ?_) AllReadyH.nil))
      · go_simp
        have hn : Below W.heap.size W (W0.alloc (.cells #[.int .i64 0, .int .i64 0] 78)) := below_step hH (below_new W0 (.cells #[.int .i64 0, .int .i64 0] 78))
        have Y1 : Lies (W0.alloc (.cells #[.int .i64 0, .int .i64 0] 78)) W0.heap.size [0, 0] := Lies.new W0 [0, 0] 78 rfl
        have eY1 : W.heap.size ≤ W0.heap.size := hH.size
        generalize W0.alloc (.cells #[.int .i64 0, .int .i64 0] 78) = W1 at hn Y1 ⊢
        generalize W0.heap.size = Y1B at Y1 eY1 ⊢
        refine hK.out _ _ hn (fun hH2 => ?_)
        clear hK K hH hn
        have hH := hH2
        clear hH2
        try simp only [Act.put, List.setIfInBounds_toArray, List.set_cons_zero, List.set_cons_succ]
        refine wpAnyH_ready (rs := [11]) (by kernel_rfl) (by simp) ?_
        refine (AllReadyH.cons (o := { dst := some 7, op := _, type := _, pos := _, after := _, guard := _ }) rfl (fun K hK => ?_) AllReadyH.nil)
        go_simp
        have hn : Below W.heap.size W (W1.alloc (.cells #[.int .i64 0, .int .i64 0] 78)) := below_step hH (below_new W1 (.cells #[.int .i64 0, .int .i64 0] 78))
        have Y2 : Lies (W1.alloc (.cells #[.int .i64 0, .int .i64 0] 78)) W1.heap.size [0, 0] := Lies.new W1 [0, 0] 78 rfl
        have eY2 : W.heap.size ≤ W1.heap.size := hH.size
        have nY2 : Y1B ≠ W1.heap.size := Nat.ne_of_lt Y1.lt
        replace Y1 := Y1.later (below_new W1 (.cells #[.int .i64 0, .int .i64 0] 78))
        generalize W1.alloc (.cells #[.int .i64 0, .int .i64 0] 78) = W2 at hn Y2 Y1 ⊢
        generalize W1.heap.size = Y2B at Y2 eY2 nY2 ⊢
        refine hK.out _ _ hn (fun hH2 => ?_)
        clear hK K hH hn
        have hH := hH2
        clear hH2
        try simp only [Act.put, List.setIfInBounds_toArray, List.set_cons_zero, List.set_cons_succ]
        have nY1 : Y2B ≠ Y1B := Ne.symm nY2
        refine wpAnyH_ready (rs := [12]) (by kernel_rfl) (by simp) ?_
        refine (AllReadyH.cons (o := { dst := none, op := _, type := _, pos := _, after := _, guard := _ }) rfl (fun K hK => ?_) AllReadyH.nil)
        obtain ⟨p0, p1⟩ := Y1.two
        have pl := Y1.lt
        have pf := Y1.fz
        go_simp
        have hn : Below W.heap.size W ((W2.setCell ⟨Y1B, 0, none⟩ (.int .i64 ka)).setCell ⟨Y1B, 1, none⟩ (.int .i64 kp)) := below_put2 hH eY1 _ _
        have ZY1 := Y1.put2 ka kp
        have ZY2 := Y2.far2 (B := Y1B) nY1 (.int .i64 ka) (.int .i64 kp)
        clear Y1 Y2 p0 p1 pl pf
        generalize (W2.setCell ⟨Y1B, 0, none⟩ (.int .i64 ka)).setCell ⟨Y1B, 1, none⟩ (.int .i64 kp) = W3 at hn ZY1 ZY2 ⊢
        have Y1 := ZY1
        have Y2 := ZY2
        clear ZY1 ZY2
        refine hK.out _ _ hn (fun hH2 => ?_)
        clear hK K hH hn
        have hH := hH2
        clear hH2
        try simp only [Act.put, List.setIfInBounds_toArray, List.set_cons_zero, List.set_cons_succ]
        refine wpAnyH_ready (rs := [13]) (by kernel_rfl) (by simp) ?_
        refine (AllReadyH.cons (o := { dst := none, op := _, type := _, pos := _, after := _, guard := _ }) rfl (fun K hK => ?_) AllReadyH.nil)
        obtain ⟨p0, p1⟩ := Y2.two
        have pl := Y2.lt
        have pf := Y2.fz
        go_simp
        have hn : Below W.heap.size W ((W3.setCell ⟨Y2B, 0, none⟩ (.int .i64 kb)).setCell ⟨Y2B, 1, none⟩ (.int .i64 kq)) := below_put2 hH eY2 _ _
        have ZY2 := Y2.put2 kb kq
        have ZY1 := Y1.far2 (B := Y2B) nY2 (.int .i64 kb) (.int .i64 kq)
        clear Y2 Y1 p0 p1 pl pf
        generalize (W3.setCell ⟨Y2B, 0, none⟩ (.int .i64 kb)).setCell ⟨Y2B, 1, none⟩ (.int .i64 kq) = W4 at hn ZY2 ZY1 ⊢
        have Y2 := ZY2
        have Y1 := ZY1
        clear ZY2 ZY1
        refine hK.out _ _ hn (fun hH2 => ?_)
        clear hK K hH hn
        have hH := hH2
        clear hH2
        try simp only [Act.put, List.setIfInBounds_toArray, List.set_cons_zero, List.set_cons_succ]
        refine wpAnyH_done (by kernel_rfl) ?_ _
        refine NoPanic.normal ?_
        have hB5 := below_step hB1 hH
        have hsz5 : w.heap.size ≤ W4.heap.size := hB5.size
        have M5 := M1.later hH
        clear hB1 M1 x0 x1 x2 x3 hBx nY1 nY2
        have fY1 : Y1B ≠ w.heap.size := by omega
        have fY2 : Y2B ≠ w.heap.size := by omega
        clear eY1 eY2 hH
        obtain ⟨p0, p1⟩ := Y1.two
        obtain ⟨q0, q1⟩ := Y2.two
        go_wp2_with fail
        refine (keep_any _ M5 ka kp kb kq hwA (by have h := HL.out; unfold maxLen; omega)).mono ?_
        rintro e w6 ⟨rfl, M6, hG6⟩
        have hB6 := hB5.grown hG6 hsz5 (fun k hk => by cases hk; exact Nat.le_refl _)
        replace Y1 := Y1.grown hG6 fY1
        replace Y2 := Y2.grown hG6 fY2
        clear p0 p1 q0 q1 hG6 hB5
        obtain ⟨p0, p1⟩ := Y1.two
        obtain ⟨q0, q1⟩ := Y2.two
        clear Y1 Y2
        go_wp2_with fail
        refine (keep_any _ M6 kb kq ka kp hwB (by have h := HL.out; have h2 := ins_le m (ka, kp) (kb, kq); unfold maxLen; omega)).mono ?_
        rintro e w7 ⟨rfl, M7, hG7⟩
        have hB7 := hB6.grown hG7 hB6.size (fun k hk => by cases hk; exact Nat.le_refl _)
        clear hB6 M6 hG7 M5 p0 p1 q0 q1
        go_wp2_with fail
        go_roundw
        case rel => exact ⟨k + 1, by omega, by go_num, by rw [NX.out]; exact M7, hB7⟩
        case measure => simp [intOf]; omega
      · go_simp
        have hn : Below W.heap.size W (W0.alloc (.cells #[.int .i64 0, .int .i64 0] 78)) := below_step hH (below_new W0 (.cells #[.int .i64 0, .int .i64 0] 78))
        have Y1 : Lies (W0.alloc (.cells #[.int .i64 0, .int .i64 0] 78)) W0.heap.size [0, 0] := Lies.new W0 [0, 0] 78 rfl
        have eY1 : W.heap.size ≤ W0.heap.size := hH.size
        generalize W0.alloc (.cells #[.int .i64 0, .int .i64 0] 78) = W1 at hn Y1 ⊢
        generalize W0.heap.size = Y1B at Y1 eY1 ⊢
        refine hK.out _ _ hn (fun hH2 => ?_)
        clear hK K hH hn
        have hH := hH2
        clear hH2
        try simp only [Act.put, List.setIfInBounds_toArray, List.set_cons_zero, List.set_cons_succ]
        refine wpAnyH_ready (rs := [10]) (by kernel_rfl) (by simp) ?_
        refine (AllReadyH.cons (o := { dst := some 6, op := _, type := _, pos := _, after := _, guard := _ }) rfl (fun K hK => ?_) AllReadyH.nil)
        go_simp
        have hn : Below W.heap.size W (W1.alloc (.cells #[.int .i64 0, .int .i64 0] 78)) := below_step hH (below_new W1 (.cells #[.int .i64 0, .int .i64 0] 78))
        have Y2 : Lies (W1.alloc (.cells #[.int .i64 0, .int .i64 0] 78)) W1.heap.size [0, 0] := Lies.new W1 [0, 0] 78 rfl
        have eY2 : W.heap.size ≤ W1.heap.size := hH.size
        have nY2 : Y1B ≠ W1.heap.size := Nat.ne_of_lt Y1.lt
        replace Y1 := Y1.later (below_new W1 (.cells #[.int .i64 0, .int .i64 0] 78))
        generalize W1.alloc (.cells #[.int .i64 0, .int .i64 0] 78) = W2 at hn Y2 Y1 ⊢
        generalize W1.heap.size = Y2B at Y2 eY2 nY2 ⊢
        refine hK.out _ _ hn (fun hH2 => ?_)
        clear hK K hH hn
        have hH := hH2
        clear hH2
        try simp only [Act.put, List.setIfInBounds_toArray, List.set_cons_zero, List.set_cons_succ]
        have nY1 : Y2B ≠ Y1B := Ne.symm nY2
        refine wpAnyH_ready (rs := [12]) (by kernel_rfl) (by simp) ?_
        refine (AllReadyH.cons (o := { dst := none, op := _, type := _, pos := _, after := _, guard := _ }) rfl (fun K hK => ?_) AllReadyH.nil)
        obtain ⟨p0, p1⟩ := Y2.two
        have pl := Y2.lt
        have pf := Y2.fz
        go_simp
        have hn : Below W.heap.size W ((W2.setCell ⟨Y2B, 0, none⟩ (.int .i64 ka)).setCell ⟨Y2B, 1, none⟩ (.int .i64 kp)) := below_put2 hH eY2 _ _
        have ZY2 := Y2.put2 ka kp
        have ZY1 := Y1.far2 (B := Y2B) nY2 (.int .i64 ka) (.int .i64 kp)
        clear Y2 Y1 p0 p1 pl pf
        generalize (W2.setCell ⟨Y2B, 0, none⟩ (.int .i64 ka)).setCell ⟨Y2B, 1, none⟩ (.int .i64 kp) = W3 at hn ZY2 ZY1 ⊢
        have Y2 := ZY2
        have Y1 := ZY1
        clear ZY2 ZY1
        refine hK.out _ _ hn (fun hH2 => ?_)
        clear hK K hH hn
        have hH := hH2
        clear hH2
        try simp only [Act.put, List.setIfInBounds_toArray, List.set_cons_zero, List.set_cons_succ]
        refine wpAnyH_ready (rs := [13]) (by kernel_rfl) (by simp) ?_
        refine (AllReadyH.cons (o := { dst := none, op := _, type := _, pos := _, after := _, guard := _ }) rfl (fun K hK => ?_) AllReadyH.nil)
        obtain ⟨p0, p1⟩ := Y1.two
        have pl := Y1.lt
        have pf := Y1.fz
        go_simp
        have hn : Below W.heap.size W ((W3.setCell ⟨Y1B, 0, none⟩ (.int .i64 kb)).setCell ⟨Y1B, 1, none⟩ (.int .i64 kq)) := below_put2 hH eY1 _ _
        have ZY1 := Y1.put2 kb kq
        have ZY2 := Y2.far2 (B := Y1B) nY1 (.int .i64 kb) (.int .i64 kq)
        clear Y1 Y2 p0 p1 pl pf
        generalize (W3.setCell ⟨Y1B, 0, none⟩ (.int .i64 kb)).setCell ⟨Y1B, 1, none⟩ (.int .i64 kq) = W4 at hn ZY1 ZY2 ⊢
        have Y1 := ZY1
        have Y2 := ZY2
        clear ZY1 ZY2
        refine hK.out _ _ hn (fun hH2 => ?_)
        clear hK K hH hn
        have hH := hH2
        clear hH2
        try simp only [Act.put, List.setIfInBounds_toArray, List.set_cons_zero, List.set_cons_succ]
        refine wpAnyH_done (by kernel_rfl) ?_ _
        refine NoPanic.normal ?_
        have hB5 := below_step hB1 hH
        have hsz5 : w.heap.size ≤ W4.heap.size := hB5.size
        have M5 := M1.later hH
        clear hB1 M1 x0 x1 x2 x3 hBx nY1 nY2
        have fY1 : Y1B ≠ w.heap.size := by omega
        have fY2 : Y2B ≠ w.heap.size := by omega
        clear eY1 eY2 hH
        obtain ⟨p0, p1⟩ := Y2.two
        obtain ⟨q0, q1⟩ := Y1.two
        go_wp2_with fail
        refine (keep_any _ M5 ka kp kb kq hwA (by have h := HL.out; unfold maxLen; omega)).mono ?_
        rintro e w6 ⟨rfl, M6, hG6⟩
        have hB6 := hB5.grown hG6 hsz5 (fun k hk => by cases hk; exact Nat.le_refl _)
        replace Y2 := Y2.grown hG6 fY2
        replace Y1 := Y1.grown hG6 fY1
        clear p0 p1 q0 q1 hG6 hB5
        obtain ⟨p0, p1⟩ := Y2.two
        obtain ⟨q0, q1⟩ := Y1.two
        clear Y2 Y1
        go_wp2_with fail
        refine (keep_any _ M6 kb kq ka kp hwB (by have h := HL.out; have h2 := ins_le m (ka, kp) (kb, kq); unfold maxLen; omega)).mono ?_
        rintro e w7 ⟨rfl, M7, hG7⟩
        have hB7 := hB6.grown hG7 hB6.size (fun k hk => by cases hk; exact Nat.le_refl _)
        clear hB6 M6 hG7 M5 p0 p1 q0 q1
        go_wp2_with fail
        go_roundw
        case rel => exact ⟨k + 1, by omega, by go_num, by rw [NX.out]; exact M7, hB7⟩
        case measure => simp [intOf]; omega
    · obtain rfl : k = l.length := by omega
      go_wp2_with fail
      go_ret
      exact ⟨rfl, by rw [HF.out]; exact M, hbr⟩
end Go.Proofs.Ytihgpllbgliplaa
