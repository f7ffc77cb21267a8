/- What the document's Send, without and Fate of wires answer. -/
import Derived.Test.YtoedgnkoahcblaaWireRefs
import Derived.Deep.RegionHeld3
namespace Go.Proofs.Ytoedgnkoahcblaa
open Go.ChangeShapes Go.WideShapes Go.ChangeAt Go.RowKit O Wi
set_option linter.unusedVariables false
set_option linter.unusedSimpArgs false

/-- a row of the call's own -/
def RowW (B : Nat) (w : World) (u : Value) (ps : List Wc) : Prop := w.ownsRow B 25 3 u ps.length (flatW fW ps)
theorem RowW.later {B : Nat} {w w' : World} {u : Value} {ps : List Wc} (h : RowW B w u ps) (hb : Below w.heap.size w w') : RowW B w' u ps := own_laterW h hb
theorem wires_of_row {B : Nat} {w0 w : World} {u : Value} {ps : List Wc} {L : List Wr} {g : Option Nat} (h : RowW B w u ps) (ha : All2 (WireAt g w0) ps L) (hb : Below w0.heap.size w0 w) (hg : ∀ k, g = some k → k < B) : ∃ y k, u = .slice y L.length k ∧ Wires g w y k L := by
  obtain ⟨y, k, e, R, hlo⟩ := rdv_of_owns2 fW_len h rfl
  rw [all2_len ha] at e
  exact ⟨y, k, e, ps, R, fun z hz _ e2 => (by have h1 := (hlo z hz).1; have h2 := hg _ e2; omega), all2_imp ha fun _ _ hv => hv.later hb⟩
/-- a box of three cells is written anew -/
def put3 (w : World) (b : Nat) (x0 x1 x2 : Value) : World := ((w.setCell ⟨b, 0, none⟩ x0).setCell ⟨b, 1, none⟩ x1).setCell ⟨b, 2, none⟩ x2
theorem keeps_put3 (w : World) (b : Nat) (x0 x1 x2 : Value) : Keeps (fun k => some b = some k) w (put3 w b x0 x1 x2) :=
  (((Keeps.refl (fun k => some b = some k) w).setCell (p := ⟨b, 0, none⟩) (fun _ => rfl) x0).setCell (p := ⟨b, 1, none⟩) (fun _ => rfl) x1).setCell (p := ⟨b, 2, none⟩) (fun _ => rfl) x2
theorem below_put3 {B b : Nat} {w0 w : World} (hb : Below B w0 w) (hg : B ≤ b) (x0 x1 x2 : Value) : Below B w0 (put3 w b x0 x1 x2) :=
  ((hb.setCell (p := ⟨b, 0, none⟩) hg _).setCell (p := ⟨b, 1, none⟩) hg _).setCell (p := ⟨b, 2, none⟩) hg _
theorem cells_put3 {w : World} {b : Nat} {u0 u1 u2 : Value} (h0 : w.cell? ⟨b, 0, none⟩ = some u0) (h1 : w.cell? ⟨b, 1, none⟩ = some u1) (h2 : w.cell? ⟨b, 2, none⟩ = some u2) (x0 x1 x2 : Value) :
    (put3 w b x0 x1 x2).cell? ⟨b, 0, none⟩ = some x0 ∧ (put3 w b x0 x1 x2).cell? ⟨b, 1, none⟩ = some x1 ∧ (put3 w b x0 x1 x2).cell? ⟨b, 2, none⟩ = some x2 := by
  have ne : ∀ i j : Nat, i ≠ j → (⟨b, i, none⟩ : Addr) ≠ ⟨b, j, none⟩ := fun i j h e => h (by injection e)
  have k1 : (w.setCell ⟨b, 0, none⟩ x0).cell? ⟨b, 1, none⟩ = some u1 := (World.cell?_setCell_other _ _ _ _ (ne 0 1 (by decide))).trans h1
  have k2 : ((w.setCell ⟨b, 0, none⟩ x0).setCell ⟨b, 1, none⟩ x1).cell? ⟨b, 2, none⟩ = some u2 := (World.cell?_setCell_other _ _ _ _ (ne 1 2 (by decide))).trans ((World.cell?_setCell_other _ _ _ _ (ne 0 2 (by decide))).trans h2)
  refine ⟨?_, ?_, ?_⟩
  · exact (World.cell?_setCell_other _ _ _ _ (ne 2 0 (by decide))).trans ((World.cell?_setCell_other _ _ _ _ (ne 1 0 (by decide))).trans (World.cell?_setCell_same' _ _ _ (by rw [h0]; rfl)))
  · exact (World.cell?_setCell_other _ _ _ _ (ne 2 1 (by decide))).trans (World.cell?_setCell_same' _ _ _ (by rw [k1]; rfl))
  · exact World.cell?_setCell_same' _ _ _ (by rw [k2]; rfl)
/-- a box of three cells -/
structure BoxAt (b : Nat) (w : World) : Prop where
  lt : b < w.heap.size
  c0 : ∃ u, w.cell? ⟨b, 0, none⟩ = some u
  c1 : ∃ u, w.cell? ⟨b, 1, none⟩ = some u
  c2 : ∃ u, w.cell? ⟨b, 2, none⟩ = some u
  fz : ∀ j, w.frozen? ⟨b, j, none⟩ = false
theorem BoxAt.later {b : Nat} {w w' : World} (h : BoxAt b w) (hb : Below w.heap.size w w') : BoxAt b w' := by
  obtain ⟨hl, ⟨u0, h0⟩, ⟨u1, h1⟩, ⟨u2, h2⟩, hf⟩ := h
  exact ⟨Nat.lt_of_lt_of_le hl hb.size, ⟨u0, (hb.cell (p := ⟨b, 0, none⟩) hl).trans h0⟩, ⟨u1, (hb.cell (p := ⟨b, 1, none⟩) hl).trans h1⟩, ⟨u2, (hb.cell (p := ⟨b, 2, none⟩) hl).trans h2⟩, fun j => (hb.frozen (p := ⟨b, j, none⟩) hl).trans (hf j)⟩
theorem all2_erase {α β : Type} {P : α → β → Prop} : ∀ {l : List α} {m : List β}, All2 P l m → ∀ j, All2 P (l.eraseIdx j) (m.eraseIdx j)
  | _, _, .nil, _ => .nil
  | _, _, .cons _ t, 0 => t
  | _, _, .cons h t, j + 1 => .cons h (all2_erase t j)
theorem er_same {ps : List Wc} {i j : Nat} {p : Wc} (hp : ps[i]? = some p) (h : i = j) : (ps.take (i + 1)).eraseIdx j = (ps.take i).eraseIdx j := by
  subst h
  have hi := (List.getElem?_eq_some_iff.1 hp).1
  have hl : (ps.take i).length = i := by rw [List.length_take]; omega
  rw [List.take_add_one, hp, List.eraseIdx_append_of_length_le (by omega), List.eraseIdx_of_length_le (l := ps.take i) (by omega), hl, Nat.sub_self]
  exact List.append_nil _
theorem er_step {ps : List Wc} {i j : Nat} {p : Wc} (hp : ps[i]? = some p) (h : i ≠ j) : (ps.take (i + 1)).eraseIdx j = (ps.take i).eraseIdx j ++ [p] := by
  have hi := (List.getElem?_eq_some_iff.1 hp).1
  have hl : (ps.take i).length = i := by rw [List.length_take]; omega
  rw [List.take_add_one, hp]
  by_cases hj : j < i
  · rw [List.eraseIdx_append_of_lt_length (by omega)]
    rfl
  · rw [List.eraseIdx_append_of_length_le (by omega), hl, List.eraseIdx_of_length_le (l := ps.take i) (by omega)]
    congr 1
    exact List.eraseIdx_of_length_le (by simp; omega)
def noC : Wc := ⟨0, false, none, 0, 0⟩
theorem wireAt_no (w : World) : WireAt none w noC noW := ⟨rfl, rfl, by decide, rfl, Reads.none _ _, fun _ _ _ e => (nomatch e)⟩
section
variable (w : World) {a : Option Addr} {c : Nat} {L : List Wr} {g g' : Option Nat}
set_option maxRecDepth 100000 in
set_option maxHeartbeats 4000000 in
theorem rsend14_any (V : Wires g w a c L) {p : Wc} {v : Wr} (hp : WireAt g' w p v) (hl : L.length ≤ 1000) :
    Calls Try.prog 11 #[.slice a L.length c, vW p] w fun e w' => ∃ y k, e = .returned (.tuple #[.slice y (sendL L v).length k, .bool (sendB L)]) ∧ Wires none w' y k (sendL L v) ∧ Below w.heap.size w w' := by
  have hmx := Nat.le_trans V.le V.max
  unfold maxLen at hmx
  have hb0 := below_new w (.cells #[.int .i64 p.sw, .bool p.up, .slice p.x p.n p.c] 25)
  obtain ⟨z0, z1, z2⟩ := boxW w (.int .i64 p.sw) (.bool p.up) (.slice p.x p.n p.c) 25
  have hlt : w.heap.size < (w.alloc (.cells #[.int .i64 p.sw, .bool p.up, .slice p.x p.n p.c] 25)).heap.size := by simp
  dsimp only [vW]
  by_cases h60 : L.length < 60
  case neg =>
    obtain ⟨e1, e2⟩ := send_full (x := v) h60
    rw [e1, e2]
    have hz : ¬ (L.length : Int) < 60 := by omega
    have V1 := V.loose.later hb0
    clear V hp
    go_enter Try.func11, Try.ntmps11
    go_wp2_with fail
    go_ret2
    exact ⟨_, _, rfl, V1, hb0⟩
  obtain ⟨e1, e2⟩ := send_room (x := v) h60
  rw [e1, e2]
  have hz : (L.length : Int) < 60 := by omega
  have hp0 := hp.loose.later hb0
  have V0 := V.loose.later hb0
  clear V hp e1 e2
  obtain ⟨ps, RP, -, hall⟩ := V0
  have hpl := all2_len hall
  rw [← hpl] at hz h60 hmx hl ⊢
  have hall2 : All2 (WireAt none (w.alloc (.cells #[.int .i64 p.sw, .bool p.up, .slice p.x p.n p.c] 25))) (ps ++ [p]) (L ++ [v]) := all2_app hall (.cons hp0 .nil)
  clear hall hp0 hpl
  go_enter Try.func11, Try.ntmps11
  go_wp2_with fail
  generalize w.alloc (.cells #[.int .i64 p.sw, .bool p.up, .slice p.x p.n p.c] 25) = W at hb0 z0 z1 z2 hlt RP hall2 ⊢
  have S1 : Below W.heap.size W W.drew := (Below.refl _ _).drew
  have RPD := RP.later S1
  clear S1
  clear RP
  have RP := RPD
  clear RPD
  have S0 : Below W.heap.size W W.drew := (Below.refl _ _).drew
  refine wp_region_noPanic ?_
  refine wp_region_held_drew (S := fun w' => Below W.heap.size W w') (by kernel_rfl) S0 (fun hH => ?_)
  clear S0
  generalize W.drew = Wd at hH RP ⊢
  refine wpAnyH_take (i := 0) (oi := { dst := some 10, op := _, type := _, pos := _, after := _, guard := _ }) (v := ?_) rfl (by kernel_rfl) (by kernel_rfl) (by kernel_rfl) (fun _ _ _ h => h) (Or.inl ⟨by rfl, ?_⟩) hH ?_
  rotate_left
  · intro wz hSw
    (try dsimp only at hSw)
    first | (go_simp; done) | (go_simp; with_reducible rfl)
  try simp only [Act.put, List.setIfInBounds_toArray, List.set_cons_zero, List.set_cons_succ]
  refine wpAnyH_take (i := 2) (oi := { dst := some 12, op := _, type := _, pos := _, after := _, guard := _ }) (v := vW p) rfl (by kernel_rfl) (by kernel_rfl) (by kernel_rfl) (fun _ _ _ h => h) (Or.inl ⟨by rfl, ?_⟩) hH ?_
  · intro wz hSw
    (try dsimp only at hSw)
    have y0 := (hSw.cell (p := ⟨w.heap.size, 0, none⟩) hlt).trans z0
    have y1 := (hSw.cell (p := ⟨w.heap.size, 1, none⟩) hlt).trans z1
    have y2 := (hSw.cell (p := ⟨w.heap.size, 2, none⟩) hlt).trans z2
    first | (go_simp; done) | (go_simp; with_reducible rfl)
  try simp only [Act.put, List.setIfInBounds_toArray, List.set_cons_zero, List.set_cons_succ]
  refine wpAnyH_ready (rs := [1, 3]) (by kernel_rfl) (by simp) ?_
  refine (AllReadyH.cons (o := { dst := some 11, op := _, type := _, pos := _, after := _, guard := _ }) rfl (fun K hK => ?_) (AllReadyH.cons (o := { dst := some 13, op := _, type := _, pos := _, after := _, guard := _ }) rfl (fun K hK => ?_) AllReadyH.nil))
  · refine stepRdv_join fW_len fW_one (by decide) (by rfl) (.const (.slice none 0 0)) (.tmp 10) 22 (by rfl) W.heap.size 25 40 _ Try.underlying22 infoW rfl (v := .slice none 0 0) (ys := []) (by rfl) (World.ownsRow_nil _ _ _ _) (by rfl) RP rfl (by omega) (by decide) hH.size ?_
    intro v1 W1x0 own1 hg1 hq1
    have hb : Below Wd.heap.size Wd W1x0 := below_fresh hg1 (Nat.le_refl _)
    rw [Nat.zero_add, List.nil_append] at own1
    have R1 : RowW W.heap.size W1x0 v1 ps := own1
    clear own1 hg1 hq1
    have hn : Below W.heap.size W W1x0 := below_step hH hb
    replace RP := RP.later hb
    clear hb
    refine hK.out _ _ hn (fun hH2 => ?_)
    clear hK K hH hn
    have hH := hH2
    clear hH2
    try simp only [Act.put, List.setIfInBounds_toArray, List.set_cons_zero, List.set_cons_succ]
    refine wpAnyH_ready (rs := [3]) (by kernel_rfl) (by simp) ?_
    refine (AllReadyH.cons (o := { dst := some 13, op := _, type := _, pos := _, after := _, guard := _ }) rfl (fun K hK => ?_) AllReadyH.nil)
    go_simp
    have hb := below_new W1x0 (.cells #[.int .i64 p.sw, .bool p.up, .slice p.x p.n p.c] 25)
    have RY : Rdv fW 3 (W1x0.alloc (.cells #[.int .i64 p.sw, .bool p.up, .slice p.x p.n p.c] 25)) (some ⟨W1x0.heap.size, 0, none⟩) 1 [p] := rdv_new fW_len W1x0 p 25 rfl
    generalize hNB : W1x0.heap.size = NB at RY ⊢
    clear hNB
    generalize W1x0.alloc (.cells #[.int .i64 p.sw, .bool p.up, .slice p.x p.n p.c] 25) = W3x1 at hb RY ⊢
    have hn : Below W.heap.size W W3x1 := below_step hH hb
    replace RP := RP.later hb
    replace R1 := R1.later hb
    clear hb
    refine hK.out _ _ hn (fun hH2 => ?_)
    clear hK K hH hn
    have hH := hH2
    clear hH2
    try simp only [Act.put, List.setIfInBounds_toArray, List.set_cons_zero, List.set_cons_succ]
    refine wpAnyH_ready (rs := [4]) (by kernel_rfl) (by simp) ?_
    refine (AllReadyH.cons (o := { dst := some 14, op := _, type := _, pos := _, after := _, guard := _ }) rfl (fun K hK => ?_) AllReadyH.nil)
    refine stepRdv_join fW_len fW_one (by decide) (by rfl) (.tmp 11) (.tmp 13) 22 (by rfl) W.heap.size 25 40 _ Try.underlying22 infoW rfl (v := v1) (ys := ps) (by rfl) R1 (by rfl) RY (show [p].length = 1 from rfl) (by omega) (by decide) hH.size ?_
    intro v2 W4x2 own2 hg2 hq2
    have hn : Below W.heap.size W W4x2 := below_growW hH R1 hg2 hH.size
    have R2 : RowW W.heap.size W4x2 v2 (ps ++ [p]) := (by unfold RowW; rw [List.length_append]; exact own2)
    clear own2 hg2 hq2 R1 RY
    refine hK.out _ _ hn (fun hH2 => ?_)
    clear hK K hH hn
    have hH := hH2
    clear hH2
    try simp only [Act.put, List.setIfInBounds_toArray, List.set_cons_zero, List.set_cons_succ]
    refine wpAnyH_take (i := 5) (oi := { dst := some 4, op := _, type := _, pos := _, after := _, guard := _ }) (v := ?_) rfl (by kernel_rfl) (by kernel_rfl) (by kernel_rfl) (fun _ _ _ h => h) (Or.inl ⟨by rfl, ?_⟩) hH ?_
    rotate_left
    · intro wz hSw
      (try dsimp only at hSw)
      first | (go_simp; done) | (go_simp; with_reducible rfl)
    try simp only [Act.put, List.setIfInBounds_toArray, List.set_cons_zero, List.set_cons_succ]
    refine wpAnyH_take (i := 6) (oi := { dst := some 5, op := _, type := _, pos := _, after := _, guard := _ }) (v := ?_) rfl (by kernel_rfl) (by kernel_rfl) (by kernel_rfl) (fun _ _ _ h => h) (Or.inl ⟨by rfl, ?_⟩) hH ?_
    rotate_left
    · intro wz hSw
      (try dsimp only at hSw)
      first | (go_simp; done) | (go_simp; with_reducible rfl)
    try simp only [Act.put, List.setIfInBounds_toArray, List.set_cons_zero, List.set_cons_succ]
    refine wpAnyH_done (by kernel_rfl) ?_ _
    refine NoPanic.normal ?_
    obtain ⟨y, k, rfl, V2⟩ := wires_of_row R2 hall2 hH (fun k e => (nomatch e))
    replace hb0 := below_step hb0 hH
    clear R2 hall2
    go_wp2_with fail
    go_ret2
    exact ⟨_, _, rfl, V2, hb0⟩
  · go_simp
    have hb := below_new Wd (.cells #[.int .i64 p.sw, .bool p.up, .slice p.x p.n p.c] 25)
    have RY : Rdv fW 3 (Wd.alloc (.cells #[.int .i64 p.sw, .bool p.up, .slice p.x p.n p.c] 25)) (some ⟨Wd.heap.size, 0, none⟩) 1 [p] := rdv_new fW_len Wd p 25 rfl
    generalize hNB : Wd.heap.size = NB at RY ⊢
    clear hNB
    generalize Wd.alloc (.cells #[.int .i64 p.sw, .bool p.up, .slice p.x p.n p.c] 25) = W3x3 at hb RY ⊢
    have hn : Below W.heap.size W W3x3 := below_step hH hb
    replace RP := RP.later hb
    clear hb
    refine hK.out _ _ hn (fun hH2 => ?_)
    clear hK K hH hn
    have hH := hH2
    clear hH2
    try simp only [Act.put, List.setIfInBounds_toArray, List.set_cons_zero, List.set_cons_succ]
    refine wpAnyH_ready (rs := [1]) (by kernel_rfl) (by simp) ?_
    refine (AllReadyH.cons (o := { dst := some 11, op := _, type := _, pos := _, after := _, guard := _ }) rfl (fun K hK => ?_) AllReadyH.nil)
    refine stepRdv_join fW_len fW_one (by decide) (by rfl) (.const (.slice none 0 0)) (.tmp 10) 22 (by rfl) W.heap.size 25 40 _ Try.underlying22 infoW rfl (v := .slice none 0 0) (ys := []) (by rfl) (World.ownsRow_nil _ _ _ _) (by rfl) RP rfl (by omega) (by decide) hH.size ?_
    intro v1 W1x4 own1 hg1 hq1
    have hb : Below W3x3.heap.size W3x3 W1x4 := below_fresh hg1 (Nat.le_refl _)
    rw [Nat.zero_add, List.nil_append] at own1
    have R1 : RowW W.heap.size W1x4 v1 ps := own1
    clear own1 hg1 hq1
    have hn : Below W.heap.size W W1x4 := below_step hH hb
    replace RP := RP.later hb
    replace RY := RY.later hb
    clear hb
    refine hK.out _ _ hn (fun hH2 => ?_)
    clear hK K hH hn
    have hH := hH2
    clear hH2
    try simp only [Act.put, List.setIfInBounds_toArray, List.set_cons_zero, List.set_cons_succ]
    refine wpAnyH_ready (rs := [4]) (by kernel_rfl) (by simp) ?_
    refine (AllReadyH.cons (o := { dst := some 14, op := _, type := _, pos := _, after := _, guard := _ }) rfl (fun K hK => ?_) AllReadyH.nil)
    refine stepRdv_join fW_len fW_one (by decide) (by rfl) (.tmp 11) (.tmp 13) 22 (by rfl) W.heap.size 25 40 _ Try.underlying22 infoW rfl (v := v1) (ys := ps) (by rfl) R1 (by rfl) RY (show [p].length = 1 from rfl) (by omega) (by decide) hH.size ?_
    intro v2 W4x5 own2 hg2 hq2
    have hn : Below W.heap.size W W4x5 := below_growW hH R1 hg2 hH.size
    have R2 : RowW W.heap.size W4x5 v2 (ps ++ [p]) := (by unfold RowW; rw [List.length_append]; exact own2)
    clear own2 hg2 hq2 R1 RY
    refine hK.out _ _ hn (fun hH2 => ?_)
    clear hK K hH hn
    have hH := hH2
    clear hH2
    try simp only [Act.put, List.setIfInBounds_toArray, List.set_cons_zero, List.set_cons_succ]
    refine wpAnyH_take (i := 5) (oi := { dst := some 4, op := _, type := _, pos := _, after := _, guard := _ }) (v := ?_) rfl (by kernel_rfl) (by kernel_rfl) (by kernel_rfl) (fun _ _ _ h => h) (Or.inl ⟨by rfl, ?_⟩) hH ?_
    rotate_left
    · intro wz hSw
      (try dsimp only at hSw)
      first | (go_simp; done) | (go_simp; with_reducible rfl)
    try simp only [Act.put, List.setIfInBounds_toArray, List.set_cons_zero, List.set_cons_succ]
    refine wpAnyH_take (i := 6) (oi := { dst := some 5, op := _, type := _, pos := _, after := _, guard := _ }) (v := ?_) rfl (by kernel_rfl) (by kernel_rfl) (by kernel_rfl) (fun _ _ _ h => h) (Or.inl ⟨by rfl, ?_⟩) hH ?_
    rotate_left
    · intro wz hSw
      (try dsimp only at hSw)
      first | (go_simp; done) | (go_simp; with_reducible rfl)
    try simp only [Act.put, List.setIfInBounds_toArray, List.set_cons_zero, List.set_cons_succ]
    refine wpAnyH_done (by kernel_rfl) ?_ _
    refine NoPanic.normal ?_
    obtain ⟨y, k, rfl, V2⟩ := wires_of_row R2 hall2 hH (fun k e => (nomatch e))
    replace hb0 := below_step hb0 hH
    clear R2 hall2
    go_wp2_with fail
    go_ret2
    exact ⟨_, _, rfl, V2, hb0⟩
set_option maxRecDepth 100000 in
set_option maxHeartbeats 4000000 in
theorem without14_any (V : Wires g w a c L) (hg : ∀ k, g = some k → k < w.heap.size) {j : Nat} (hj : j < L.length) (hl : L.length ≤ 1000) :
    Calls Try.prog 20 #[.slice a L.length c, .int .i64 (j : Nat)] w fun e w' => ∃ y k, e = .returned (.slice y (L.eraseIdx j).length k) ∧ Wires g w' y k (L.eraseIdx j) ∧ Below w.heap.size w w' := by
  have hmx := Nat.le_trans V.le V.max
  unfold maxLen at hmx
  have HG : Hid (∀ k, g = some k → k < w.heap.size) := hg
  clear hg
  obtain ⟨ps, RP, -, hall⟩ := V
  have hpl := all2_len hall
  have HA : Hid (All2 (WireAt g w) (ps.eraseIdx j) (L.eraseIdx j)) := all2_erase hall j
  rw [← hpl] at hmx hj hl ⊢
  have HJ : Hid (j < ps.length) := hj
  clear hall hpl hj
  go_enter Try.func20, Try.ntmps20
  go_wp2_with fail
  go_loopw [6, 5] (fun vi vo wr => ∃ i : Nat, Hid (i ≤ ps.length) ∧ vi = .int .i64 (i : Nat) ∧ RowW w.heap.size wr vo ((ps.take i).eraseIdx j) ∧ Below w.heap.size w wr) (fun vi _ _ => ps.length - (intOf vi).toNat)
  case atStart => exact ⟨0, Nat.zero_le _, rfl, (by rw [List.take_zero, List.eraseIdx_nil]; exact World.ownsRow_nil _ _ _ _), Below.refl _ _⟩
  case round =>
    obtain ⟨i, HI, rfl, own, hbr⟩ := hrel
    by_cases hlt : i < ps.length
    · have hiz : (i : Int) < (ps.length : Int) := by omega
      have HLT : Hid (i + 1 ≤ ps.length) := hlt
      obtain ⟨p, hp⟩ := getW hlt
      by_cases hij : i = j
      · have HR : Hid ((ps.take (i + 1)).eraseIdx j = (ps.take i).eraseIdx j) := er_same hp hij
        have hz : ((i : Int) != (j : Int)) = false := by rw [hij]; simp
        rw [← HR.out] at own
        clear hp hlt HI hij
        go_wp2_with fail
        go_roundw
        case rel => exact ⟨i + 1, HLT.out, by go_num, own, hbr⟩
        case measure => have h := HLT.out; simp [intOf]; omega
      · have HR : Hid ((ps.take (i + 1)).eraseIdx j = (ps.take i).eraseIdx j ++ [p]) := er_step hp hij
        have hz : ((i : Int) != (j : Int)) = true := by rw [bne_iff_ne]; omega
        have hn : ((ps.take i).eraseIdx j).length ≤ 1000 := Nat.le_trans (List.length_eraseIdx_le _ _) (by rw [List.length_take]; omega)
        obtain ⟨b, o, rfl, hbb, hc⟩ := (RP.later hbr).at hp
        obtain ⟨p0, p1, px, pn, pc⟩ := p
        have c0 := hc 0 _ rfl
        have c1 := hc 1 _ rfl
        have c2 := hc 2 _ rfl
        rw [Nat.add_zero] at c0
        dsimp only at c0 c1 c2
        have hbn := below_step hbr (below_new wr (.cells #[.int .i64 p0, .bool p1, .slice px pn pc] 25))
        generalize (ps.take i).eraseIdx j = ys at own HR hn
        clear hc hp hlt HI hij
        unfold RowW at own
        go_wp2_with (at_builtin; refine wpRdv_one fW_len fW_one (by decide) wr (⟨p0, p1, px, pn, pc⟩ : Wc) 25 rfl rfl (.tmp 16) (.tmp 21) 22 rfl w.heap.size 40 _ Try.underlying22 infoW rfl (ys := ys) rfl own rfl (by omega) (by decide) hbr.size ?_; intro v9 w9 own9 hg9 hp9; apply Classical.byContradiction; intro hstop)
        have hb9 := below_growW hbn (own.alloc _) hg9 hbn.size
        have own8 : RowW w.heap.size w9 v9 ((ps.take (i + 1)).eraseIdx j) := by rw [HR.out]; unfold RowW; rw [List.length_append]; exact own9
        clear own own9 hg9 hp9 HR hbn c0 c1 c2 hbb hn
        apply hstop
        clear hstop
        go_wp2_with fail
        go_roundw
        case rel => exact ⟨i + 1, HLT.out, by go_num, own8, hb9⟩
        case measure => have h := HLT.out; simp [intOf]; omega
    · have hke : i = ps.length := by have h := HI.out; omega
      have hiz : ¬ (i : Int) < (ps.length : Int) := by omega
      rw [hke, List.take_length] at own
      obtain ⟨y, k, rfl, V2⟩ := wires_of_row own HA.out hbr HG.out
      clear own hke hlt HI RP HA
      go_wp2_with fail
      go_ret
      exact ⟨_, _, rfl, V2, hbr⟩
set_option maxRecDepth 100000 in
set_option maxHeartbeats 4000000 in
theorem rfate_low (V : Wires g w a c L) (hl : L.length ≤ 1000) (at_ : Int) (h : at_ < 0) (f : Int) :
    Calls Try.prog 14 #[.slice a L.length c, .int .i64 at_, .int .i64 f] w fun e w' => ∃ y k q, e = .returned (.tuple #[.slice y L.length k, vW q, .bool false]) ∧ Wires none w' y k L ∧ WireAt none w' q noW ∧ Below w.heap.size w w' := by
  have hmx := Nat.le_trans V.le V.max
  unfold maxLen at hmx
  have V1 := V.loose.later (below_new w (.cells #[.int .i64 0, .bool false, .slice none 0 0] 25))
  have hb0 := below_new w (.cells #[.int .i64 0, .bool false, .slice none 0 0] 25)
  obtain ⟨z0, z1, z2⟩ := boxW w (.int .i64 0) (.bool false) (.slice none 0 0) 25
  clear V
  go_enter Try.func14, Try.ntmps14
  go_wp2_with fail
  refine bodyPost_ret (v := .tuple #[.slice a L.length c, vW noC, .bool false]) (by simp [results, Try.results14, go_sem, z0, z1, z2, noC]) rfl ?_
  exact ⟨_, _, noC, rfl, V1, wireAt_no _, hb0⟩
set_option maxRecDepth 100000 in
set_option maxHeartbeats 4000000 in
theorem rfate_high (V : Wires g w a c L) (hl : L.length ≤ 1000) (at_ : Int) (h : ¬ at_ < 0) (h2 : (L.length : Int) ≤ at_) (f : Int) :
    Calls Try.prog 14 #[.slice a L.length c, .int .i64 at_, .int .i64 f] w fun e w' => ∃ y k q, e = .returned (.tuple #[.slice y L.length k, vW q, .bool false]) ∧ Wires none w' y k L ∧ WireAt none w' q noW ∧ Below w.heap.size w w' := by
  have hmx := Nat.le_trans V.le V.max
  unfold maxLen at hmx
  have V1 := V.loose.later (below_new w (.cells #[.int .i64 0, .bool false, .slice none 0 0] 25))
  have hb0 := below_new w (.cells #[.int .i64 0, .bool false, .slice none 0 0] 25)
  obtain ⟨z0, z1, z2⟩ := boxW w (.int .i64 0) (.bool false) (.slice none 0 0) 25
  clear V
  go_enter Try.func14, Try.ntmps14
  go_wp2_with fail
  refine bodyPost_ret (v := .tuple #[.slice a L.length c, vW noC, .bool false]) (by simp [results, Try.results14, go_sem, z0, z1, z2, noC]) rfl ?_
  exact ⟨_, _, noC, rfl, V1, wireAt_no _, hb0⟩
set_option maxRecDepth 100000 in
set_option maxHeartbeats 4000000 in
theorem rfate_none (V : Wires g w a c L) (hl : L.length ≤ 1000) {j : Nat} (hj : j < L.length) (f : Int) (f0 : ¬ f = 0) (f1 : ¬ f = 1) (f2 : ¬ f = 2) :
    Calls Try.prog 14 #[.slice a L.length c, .int .i64 (j : Nat), .int .i64 f] w fun e w' => ∃ y k q, e = .returned (.tuple #[.slice y L.length k, vW q, .bool false]) ∧ Wires none w' y k L ∧ WireAt none w' q noW ∧ Below w.heap.size w w' := by
  have hmx := Nat.le_trans V.le V.max
  unfold maxLen at hmx
  have hjz : (j : Int) < (L.length : Int) := by omega
  have V1 := V.loose.later (below_new w (.cells #[.int .i64 0, .bool false, .slice none 0 0] 25))
  have hb0 := below_new w (.cells #[.int .i64 0, .bool false, .slice none 0 0] 25)
  obtain ⟨z0, z1, z2⟩ := boxW w (.int .i64 0) (.bool false) (.slice none 0 0) 25
  clear V
  go_enter Try.func14, Try.ntmps14
  go_wp2_with fail
  refine bodyPost_ret (v := .tuple #[.slice a L.length c, vW noC, .bool false]) (by simp [results, Try.results14, go_sem, z0, z1, z2, noC]) rfl ?_
  exact ⟨_, _, noC, rfl, V1, wireAt_no _, hb0⟩
set_option maxRecDepth 100000 in
set_option maxHeartbeats 4000000 in
theorem rfate_lose (V : Wires g w a c L) (hl : L.length ≤ 1000) {j : Nat} (hj : j < L.length) :
    Calls Try.prog 14 #[.slice a L.length c, .int .i64 (j : Nat), .int .i64 1] w fun e w' => ∃ y k q, e = .returned (.tuple #[.slice y (L.eraseIdx j).length k, vW q, .bool false]) ∧ Wires none w' y k (L.eraseIdx j) ∧ WireAt none w' q noW ∧ Below w.heap.size w w' := by
  have hmx := Nat.le_trans V.le V.max
  unfold maxLen at hmx
  have hjz : (j : Int) < (L.length : Int) := by omega
  have hb0 := below_new w (.cells #[.int .i64 0, .bool false, .slice none 0 0] 25)
  obtain ⟨z0, z1, z2⟩ := boxW w (.int .i64 0) (.bool false) (.slice none 0 0) 25
  have fz : ∀ j, (w.alloc (.cells #[.int .i64 0, .bool false, .slice none 0 0] 25)).frozen? ⟨w.heap.size, j, none⟩ = false := fun j => by unfold World.frozen?; rw [heap_alloc_new]; simp
  have hlt : w.heap.size < (w.alloc (.cells #[.int .i64 0, .bool false, .slice none 0 0] 25)).heap.size := by simp
  have cO := without14_any _ ((V.far (u := some w.heap.size) (fun k e => by cases e; exact Nat.le_refl _)).later hb0) (fun k e => by cases e; exact hlt) hj hl
  clear V
  go_enter Try.func14, Try.ntmps14
  go_wp2_with fail
  generalize w.alloc (.cells #[.int .i64 0, .bool false, .slice none 0 0] 25) = W at hb0 z0 z1 z2 fz hlt cO ⊢
  refine cO.mono ?_
  clear cO
  rintro e w1 ⟨y, k, rfl, V1, hb1⟩
  replace hb0 := below_step hb0 hb1
  replace z0 := (hb1.cell (p := ⟨w.heap.size, 0, none⟩) hlt).trans z0
  replace z1 := (hb1.cell (p := ⟨w.heap.size, 1, none⟩) hlt).trans z1
  replace z2 := (hb1.cell (p := ⟨w.heap.size, 2, none⟩) hlt).trans z2
  replace fz := fun j => (hb1.frozen (p := ⟨w.heap.size, j, none⟩) hlt).trans (fz j)
  go_wp2_with fail
  have hb3 := below_put3 hb0 (Nat.le_refl _) (.int .i64 0) (.bool false) (.slice none 0 0)
  obtain ⟨y0, y1, y2⟩ := cells_put3 z0 z1 z2 (.int .i64 0) (.bool false) (.slice none 0 0)
  have V3 := (V1.kept (keeps_put3 w1 w.heap.size (.int .i64 0) (.bool false) (.slice none 0 0))).loose
  generalize hV : put3 w1 w.heap.size (.int .i64 0) (.bool false) (.slice none 0 0) = V9 at hb3 y0 y1 y2 V3
  unfold put3 at hV
  rw [hV]
  refine bodyPost_ret (v := .tuple #[.slice y (L.eraseIdx j).length k, vW noC, .bool false]) (by simp [results, Try.results14, go_sem, y0, y1, y2, noC]) rfl ?_
  exact ⟨_, _, noC, rfl, V3, wireAt_no _, hb3⟩
set_option maxRecDepth 100000 in
set_option maxHeartbeats 4000000 in
theorem rfate_deliver (V : Wires g w a c L) (hl : L.length ≤ 1000) {j : Nat} (hj : j < L.length) :
    Calls Try.prog 14 #[.slice a L.length c, .int .i64 (j : Nat), .int .i64 0] w fun e w' => ∃ y k q, e = .returned (.tuple #[.slice y (L.eraseIdx j).length k, vW q, .bool true]) ∧ Wires none w' y k (L.eraseIdx j) ∧ WireAt none w' q (L.getD j noW) ∧ Below w.heap.size w w' := by
  have hmx := Nat.le_trans V.le V.max
  unfold maxLen at hmx
  have hjz : (j : Int) < (L.length : Int) := by omega
  have hb0 := below_new w (.cells #[.int .i64 0, .bool false, .slice none 0 0] 25)
  obtain ⟨z0, z1, z2⟩ := boxW w (.int .i64 0) (.bool false) (.slice none 0 0) 25
  have fz : ∀ j, (w.alloc (.cells #[.int .i64 0, .bool false, .slice none 0 0] 25)).frozen? ⟨w.heap.size, j, none⟩ = false := fun j => by unfold World.frozen?; rw [heap_alloc_new]; simp
  have hlt : w.heap.size < (w.alloc (.cells #[.int .i64 0, .bool false, .slice none 0 0] 25)).heap.size := by simp
  have V0 := (V.far (u := some w.heap.size) (fun k e => by cases e; exact Nat.le_refl _)).later hb0
  obtain ⟨v, hv⟩ := getW hj
  have hgv := getD_of hv
  obtain ⟨b, o, x, m, rfl, hbb, c0, c1, c2, hat⟩ := (V.far (u := some w.heap.size) (fun k e => by cases e; exact Nat.le_refl _)).at hv
  rw [hgv]
  have hat0 := hat.later hb0
  clear hat hv hgv
  have BX : BoxAt w.heap.size (w.alloc (.cells #[.int .i64 0, .bool false, .slice none 0 0] 25)) := ⟨hlt, ⟨_, z0⟩, ⟨_, z1⟩, ⟨_, z2⟩, fz⟩
  clear V z0 z1 z2 fz hlt
  go_enter Try.func14, Try.ntmps14
  go_wp2_with fail
  generalize w.alloc (.cells #[.int .i64 0, .bool false, .slice none 0 0] 25) = W at hb0 hat0 BX V0 ⊢
  have S1 : Below W.heap.size W W.drew := (Below.refl _ _).drew
  have V0D := V0.later S1
  have hat0D := hat0.later S1
  have BXD := BX.later S1
  clear S1
  clear V0
  clear hat0
  clear BX
  have V0 := V0D
  have hat0 := hat0D
  have BX := BXD
  clear V0D
  clear hat0D
  clear BXD
  have S0 : Below w.heap.size w W.drew := hb0.drew
  refine wp_region_noPanic ?_
  refine wp_region_held_drew (S := fun w' => Below w.heap.size w w') (by kernel_rfl) S0 (fun hH => ?_)
  clear S0
  generalize W.drew = Wd at hH V0 hat0 BX ⊢
  refine wpAnyH_take (i := 0) (oi := { dst := some 22, op := _, type := _, pos := _, after := _, guard := _ }) (v := ?_) rfl (by kernel_rfl) (by kernel_rfl) (by kernel_rfl) (fun _ _ _ h => h) (Or.inl ⟨by rfl, ?_⟩) hH ?_
  rotate_left
  · intro wz hSw
    (try dsimp only at hSw)
    first | (go_simp; done) | (go_simp; with_reducible rfl)
  try simp only [Act.put, List.setIfInBounds_toArray, List.set_cons_zero, List.set_cons_succ]
  refine wpAnyH_take (i := 1) (oi := { dst := some 23, op := _, type := _, pos := _, after := _, guard := _ }) (v := ?_) rfl (by kernel_rfl) (by kernel_rfl) (by kernel_rfl) (fun _ _ _ h => h) (Or.inl ⟨by rfl, ?_⟩) hH ?_
  rotate_left
  · intro wz hSw
    (try dsimp only at hSw)
    first | (go_simp; done) | (go_simp; with_reducible rfl)
  try simp only [Act.put, List.setIfInBounds_toArray, List.set_cons_zero, List.set_cons_succ]
  refine wpAnyH_take (i := 3) (oi := { dst := some 25, op := _, type := _, pos := _, after := _, guard := _ }) (v := ?_) rfl (by kernel_rfl) (by kernel_rfl) (by kernel_rfl) (fun _ _ _ h => h) (Or.inl ⟨by rfl, ?_⟩) hH ?_
  rotate_left
  · intro wz hSw
    (try dsimp only at hSw)
    first | (go_simp; done) | (go_simp; with_reducible rfl)
  try simp only [Act.put, List.setIfInBounds_toArray, List.set_cons_zero, List.set_cons_succ]
  refine wpAnyH_take (i := 4) (oi := { dst := some 26, op := _, type := _, pos := _, after := _, guard := _ }) (v := ?_) rfl (by kernel_rfl) (by kernel_rfl) (by kernel_rfl) (fun _ _ _ h => h) (Or.inl ⟨by rfl, ?_⟩) hH ?_
  rotate_left
  · intro wz hSw
    (try dsimp only at hSw)
    first | (go_simp; done) | (go_simp; with_reducible rfl)
  try simp only [Act.put, List.setIfInBounds_toArray, List.set_cons_zero, List.set_cons_succ]
  refine wpAnyH_take (i := 5) (oi := { dst := some 27, op := _, type := _, pos := _, after := _, guard := _ }) (v := ?_) rfl (by kernel_rfl) (by kernel_rfl) (by kernel_rfl) (fun _ _ _ h => h) (Or.inl ⟨by rfl, ?_⟩) hH ?_
  rotate_left
  · intro wz hSw
    (try dsimp only at hSw)
    first | (go_simp; done) | (go_simp; with_reducible rfl)
  try simp only [Act.put, List.setIfInBounds_toArray, List.set_cons_zero, List.set_cons_succ]
  refine wpAnyH_take (i := 6) (oi := { dst := some 28, op := _, type := _, pos := _, after := _, guard := _ }) (v := .agg #[.int .i64 v.sw, .bool v.up, .slice x v.b.length m]) rfl (by kernel_rfl) (by kernel_rfl) (by kernel_rfl) (fun _ _ _ h => h) (Or.inl ⟨by rfl, ?_⟩) hH ?_
  · intro wz hSw
    (try dsimp only at hSw)
    have y0 := (hSw.cell (p := ⟨b, o + j * 3, none⟩) hbb).trans c0
    have y1 := (hSw.cell (p := ⟨b, o + j * 3 + 1, none⟩) hbb).trans c1
    have y2 := (hSw.cell (p := ⟨b, o + j * 3 + 2, none⟩) hbb).trans c2
    first | (go_simp; done) | (go_simp; with_reducible rfl)
  try simp only [Act.put, List.setIfInBounds_toArray, List.set_cons_zero, List.set_cons_succ]
  refine wpAnyH_ready (rs := [2]) (by kernel_rfl) (by simp) ?_
  refine (AllReadyH.cons (o := { dst := some 24, op := _, type := _, pos := _, after := _, guard := _ }) rfl (fun K hK => ?_) AllReadyH.nil)
  go_simp
  refine (without14_any _ V0 (fun k e => by cases e; exact BX.lt) hj hl).mono ?_
  rintro e W2x0 ⟨y1, k1, rfl, V1, hb⟩
  have hn : Below w.heap.size w W2x0 := below_step hH hb
  replace V0 := V0.later hb
  replace hat0 := hat0.later hb
  replace BX := BX.later hb
  clear hb
  go_wp2_with fail
  refine hK.out _ _ hn (fun hH2 => ?_)
  clear hK K hH hn
  have hH := hH2
  clear hH2
  try simp only [Act.put, List.setIfInBounds_toArray, List.set_cons_zero, List.set_cons_succ]
  refine wpAnyH_take (i := 7) (oi := { dst := some 6, op := _, type := _, pos := _, after := _, guard := _ }) (v := ?_) rfl (by kernel_rfl) (by kernel_rfl) (by kernel_rfl) (fun _ _ _ h => h) (Or.inl ⟨by rfl, ?_⟩) hH ?_
  rotate_left
  · intro wz hSw
    (try dsimp only at hSw)
    first | (go_simp; done) | (go_simp; with_reducible rfl)
  try simp only [Act.put, List.setIfInBounds_toArray, List.set_cons_zero, List.set_cons_succ]
  refine wpAnyH_ready (rs := [8]) (by kernel_rfl) (by simp) ?_
  refine (AllReadyH.cons (o := { dst := none, op := _, type := _, pos := _, after := _, guard := _ }) rfl (fun K hK => ?_) AllReadyH.nil)
  obtain ⟨bl, ⟨u0, z0⟩, ⟨u1, z1⟩, ⟨u2, z2⟩, fz⟩ := BX
  go_simp
  have hn := below_put3 hH (Nat.le_refl w.heap.size) (.int .i64 v.sw) (.bool v.up) (.slice x v.b.length m)
  have hy := cells_put3 z0 z1 z2 (.int .i64 v.sw) (.bool v.up) (.slice x v.b.length m)
  have hk3 := keeps_put3 W2x0 w.heap.size (.int .i64 v.sw) (.bool v.up) (.slice x v.b.length m)
  have V3 := (V1.kept hk3).loose
  have hat3 := (hat0.turn (g' := some w.heap.size) hk3 (fun k e => .inl e)).loose
  clear hk3 hat0 V0 z0 z1 z2 fz bl V1
  generalize hV : put3 W2x0 w.heap.size (.int .i64 v.sw) (.bool v.up) (.slice x v.b.length m) = W8x1 at hn hy V3 hat3
  unfold put3 at hV
  rw [hV]
  clear hV
  refine hK.out _ _ hn (fun hH2 => ?_)
  clear hK K hH hn
  have hH := hH2
  clear hH2
  try simp only [Act.put, List.setIfInBounds_toArray, List.set_cons_zero, List.set_cons_succ]
  refine wpAnyH_take (i := 9) (oi := { dst := some 8, op := _, type := _, pos := _, after := _, guard := _ }) (v := ?_) rfl (by kernel_rfl) (by kernel_rfl) (by kernel_rfl) (fun _ _ _ h => h) (Or.inl ⟨by rfl, ?_⟩) hH ?_
  rotate_left
  · intro wz hSw
    (try dsimp only at hSw)
    first | (go_simp; done) | (go_simp; with_reducible rfl)
  try simp only [Act.put, List.setIfInBounds_toArray, List.set_cons_zero, List.set_cons_succ]
  refine wpAnyH_done (by kernel_rfl) ?_ _
  refine NoPanic.normal ?_
  obtain ⟨y0, y1_, y2⟩ := hy
  go_wp2_with fail
  refine bodyPost_ret (v := .tuple #[.slice y1 (L.eraseIdx j).length k1, vW ⟨v.sw, v.up, x, v.b.length, m⟩, .bool true]) (by simp [results, Try.results14, go_sem, y0, y1_, y2]) rfl ?_
  exact ⟨_, _, ⟨v.sw, v.up, x, v.b.length, m⟩, rfl, V3, hat3, hH⟩
set_option maxRecDepth 100000 in
set_option maxHeartbeats 4000000 in
theorem rfate_twice (V : Wires g w a c L) (hl : L.length ≤ 1000) {j : Nat} (hj : j < L.length) :
    Calls Try.prog 14 #[.slice a L.length c, .int .i64 (j : Nat), .int .i64 2] w fun e w' => ∃ y k q, e = .returned (.tuple #[.slice y L.length k, vW q, .bool true]) ∧ Wires none w' y k L ∧ WireAt none w' q (L.getD j noW) ∧ Below w.heap.size w w' := by
  have hmx := Nat.le_trans V.le V.max
  unfold maxLen at hmx
  have hjz : (j : Int) < (L.length : Int) := by omega
  have hb0 := below_new w (.cells #[.int .i64 0, .bool false, .slice none 0 0] 25)
  obtain ⟨z0, z1, z2⟩ := boxW w (.int .i64 0) (.bool false) (.slice none 0 0) 25
  have fz : ∀ j, (w.alloc (.cells #[.int .i64 0, .bool false, .slice none 0 0] 25)).frozen? ⟨w.heap.size, j, none⟩ = false := fun j => by unfold World.frozen?; rw [heap_alloc_new]; simp
  have hlt : w.heap.size < (w.alloc (.cells #[.int .i64 0, .bool false, .slice none 0 0] 25)).heap.size := by simp
  have V0 := (V.far (u := some w.heap.size) (fun k e => by cases e; exact Nat.le_refl _)).later hb0
  obtain ⟨v, hv⟩ := getW hj
  have hgv := getD_of hv
  obtain ⟨b, o, x, m, rfl, hbb, c0, c1, c2, hat⟩ := (V.far (u := some w.heap.size) (fun k e => by cases e; exact Nat.le_refl _)).at hv
  rw [hgv]
  have hat0 := hat.later hb0
  clear hat hv hgv
  have BX : BoxAt w.heap.size (w.alloc (.cells #[.int .i64 0, .bool false, .slice none 0 0] 25)) := ⟨hlt, ⟨_, z0⟩, ⟨_, z1⟩, ⟨_, z2⟩, fz⟩
  clear V z0 z1 z2 fz hlt
  go_enter Try.func14, Try.ntmps14
  go_wp2_with fail
  generalize w.alloc (.cells #[.int .i64 0, .bool false, .slice none 0 0] 25) = W at hb0 hat0 BX V0 ⊢
  have S1 : Below W.heap.size W W.drew := (Below.refl _ _).drew
  have V0D := V0.later S1
  have hat0D := hat0.later S1
  have BXD := BX.later S1
  clear S1
  clear V0
  clear hat0
  clear BX
  have V0 := V0D
  have hat0 := hat0D
  have BX := BXD
  clear V0D
  clear hat0D
  clear BXD
  have S0 : Below w.heap.size w W.drew := hb0.drew
  refine wp_region_noPanic ?_
  refine wp_region_held_drew (S := fun w' => Below w.heap.size w w') (by kernel_rfl) S0 (fun hH => ?_)
  clear S0
  generalize W.drew = Wd at hH V0 hat0 BX ⊢
  refine wpAnyH_take (i := 0) (oi := { dst := some 37, op := _, type := _, pos := _, after := _, guard := _ }) (v := ?_) rfl (by kernel_rfl) (by kernel_rfl) (by kernel_rfl) (fun _ _ _ h => h) (Or.inl ⟨by rfl, ?_⟩) hH ?_
  rotate_left
  · intro wz hSw
    (try dsimp only at hSw)
    first | (go_simp; done) | (go_simp; with_reducible rfl)
  try simp only [Act.put, List.setIfInBounds_toArray, List.set_cons_zero, List.set_cons_succ]
  refine wpAnyH_take (i := 1) (oi := { dst := some 38, op := _, type := _, pos := _, after := _, guard := _ }) (v := ?_) rfl (by kernel_rfl) (by kernel_rfl) (by kernel_rfl) (fun _ _ _ h => h) (Or.inl ⟨by rfl, ?_⟩) hH ?_
  rotate_left
  · intro wz hSw
    (try dsimp only at hSw)
    first | (go_simp; done) | (go_simp; with_reducible rfl)
  try simp only [Act.put, List.setIfInBounds_toArray, List.set_cons_zero, List.set_cons_succ]
  refine wpAnyH_take (i := 2) (oi := { dst := some 39, op := _, type := _, pos := _, after := _, guard := _ }) (v := ?_) rfl (by kernel_rfl) (by kernel_rfl) (by kernel_rfl) (fun _ _ _ h => h) (Or.inl ⟨by rfl, ?_⟩) hH ?_
  rotate_left
  · intro wz hSw
    (try dsimp only at hSw)
    first | (go_simp; done) | (go_simp; with_reducible rfl)
  try simp only [Act.put, List.setIfInBounds_toArray, List.set_cons_zero, List.set_cons_succ]
  refine wpAnyH_take (i := 3) (oi := { dst := some 40, op := _, type := _, pos := _, after := _, guard := _ }) (v := ?_) rfl (by kernel_rfl) (by kernel_rfl) (by kernel_rfl) (fun _ _ _ h => h) (Or.inl ⟨by rfl, ?_⟩) hH ?_
  rotate_left
  · intro wz hSw
    (try dsimp only at hSw)
    first | (go_simp; done) | (go_simp; with_reducible rfl)
  try simp only [Act.put, List.setIfInBounds_toArray, List.set_cons_zero, List.set_cons_succ]
  refine wpAnyH_take (i := 4) (oi := { dst := some 41, op := _, type := _, pos := _, after := _, guard := _ }) (v := .agg #[.int .i64 v.sw, .bool v.up, .slice x v.b.length m]) rfl (by kernel_rfl) (by kernel_rfl) (by kernel_rfl) (fun _ _ _ h => h) (Or.inl ⟨by rfl, ?_⟩) hH ?_
  · intro wz hSw
    (try dsimp only at hSw)
    have y0 := (hSw.cell (p := ⟨b, o + j * 3, none⟩) hbb).trans c0
    have y1 := (hSw.cell (p := ⟨b, o + j * 3 + 1, none⟩) hbb).trans c1
    have y2 := (hSw.cell (p := ⟨b, o + j * 3 + 2, none⟩) hbb).trans c2
    first | (go_simp; done) | (go_simp; with_reducible rfl)
  try simp only [Act.put, List.setIfInBounds_toArray, List.set_cons_zero, List.set_cons_succ]
  refine wpAnyH_take (i := 5) (oi := { dst := some 6, op := _, type := _, pos := _, after := _, guard := _ }) (v := ?_) rfl (by kernel_rfl) (by kernel_rfl) (by kernel_rfl) (fun _ _ _ h => h) (Or.inl ⟨by rfl, ?_⟩) hH ?_
  rotate_left
  · intro wz hSw
    (try dsimp only at hSw)
    first | (go_simp; done) | (go_simp; with_reducible rfl)
  try simp only [Act.put, List.setIfInBounds_toArray, List.set_cons_zero, List.set_cons_succ]
  refine wpAnyH_ready (rs := [6]) (by kernel_rfl) (by simp) ?_
  refine (AllReadyH.cons (o := { dst := none, op := _, type := _, pos := _, after := _, guard := _ }) rfl (fun K hK => ?_) AllReadyH.nil)
  obtain ⟨bl, ⟨u0, z0⟩, ⟨u1, z1⟩, ⟨u2, z2⟩, fz⟩ := BX
  go_simp
  have hn := below_put3 hH (Nat.le_refl w.heap.size) (.int .i64 v.sw) (.bool v.up) (.slice x v.b.length m)
  have hy := cells_put3 z0 z1 z2 (.int .i64 v.sw) (.bool v.up) (.slice x v.b.length m)
  have hk3 := keeps_put3 Wd w.heap.size (.int .i64 v.sw) (.bool v.up) (.slice x v.b.length m)
  have V3 := (V0.kept hk3).loose
  have hat3 := (hat0.turn (g' := some w.heap.size) hk3 (fun k e => .inl e)).loose
  clear hk3 hat0 V0 z0 z1 z2 fz bl
  generalize hV : put3 Wd w.heap.size (.int .i64 v.sw) (.bool v.up) (.slice x v.b.length m) = W6x0 at hn hy V3 hat3
  unfold put3 at hV
  rw [hV]
  clear hV
  refine hK.out _ _ hn (fun hH2 => ?_)
  clear hK K hH hn
  have hH := hH2
  clear hH2
  try simp only [Act.put, List.setIfInBounds_toArray, List.set_cons_zero, List.set_cons_succ]
  refine wpAnyH_take (i := 7) (oi := { dst := some 8, op := _, type := _, pos := _, after := _, guard := _ }) (v := ?_) rfl (by kernel_rfl) (by kernel_rfl) (by kernel_rfl) (fun _ _ _ h => h) (Or.inl ⟨by rfl, ?_⟩) hH ?_
  rotate_left
  · intro wz hSw
    (try dsimp only at hSw)
    first | (go_simp; done) | (go_simp; with_reducible rfl)
  try simp only [Act.put, List.setIfInBounds_toArray, List.set_cons_zero, List.set_cons_succ]
  refine wpAnyH_done (by kernel_rfl) ?_ _
  refine NoPanic.normal ?_
  obtain ⟨y0, y1_, y2⟩ := hy
  go_wp2_with fail
  refine bodyPost_ret (v := .tuple #[.slice (some ⟨b, o, none⟩) L.length c, vW ⟨v.sw, v.up, x, v.b.length, m⟩, .bool true]) (by simp [results, Try.results14, go_sem, y0, y1_, y2]) rfl ?_
  exact ⟨_, _, ⟨v.sw, v.up, x, v.b.length, m⟩, rfl, V3, hat3, hH⟩
theorem rfate14_any (V : Wires g w a c L) (hl : L.length ≤ 1000) (at_ f : Int) :
    Calls Try.prog 14 #[.slice a L.length c, .int .i64 at_, .int .i64 f] w fun e w' => ∃ y k q, e = .returned (.tuple #[.slice y (fateL L at_ f).length k, vW q, .bool (fateB L at_ f)]) ∧ Wires none w' y k (fateL L at_ f) ∧ WireAt none w' q (fateW L at_ f) ∧ Below w.heap.size w w' := by
  by_cases h0 : at_ < 0
  · obtain ⟨e1, e2, e3⟩ := fate_out (f := f) (in_no (l := L) (.inl h0))
    rw [e1, e2, e3]
    exact rfate_low w V hl at_ h0 f
  by_cases h1 : (L.length : Int) ≤ at_
  · obtain ⟨e1, e2, e3⟩ := fate_out (f := f) (in_no (l := L) (.inr h1))
    rw [e1, e2, e3]
    exact rfate_high w V hl at_ h0 h1 f
  obtain ⟨j, rfl⟩ : ∃ j : Nat, at_ = (j : Int) := ⟨at_.toNat, by omega⟩
  have hj : j < L.length := by omega
  by_cases f0 : f = 0
  · subst f0
    obtain ⟨e1, e2, e3⟩ := fate_deliver hj
    rw [e1, e2, e3]
    exact rfate_deliver w V hl hj
  by_cases f1 : f = 1
  · subst f1
    obtain ⟨e1, e2, e3⟩ := fate_lose hj
    rw [e1, e2, e3]
    exact rfate_lose w V hl hj
  by_cases f2 : f = 2
  · subst f2
    obtain ⟨e1, e2, e3⟩ := fate_twice hj
    rw [e1, e2, e3]
    exact rfate_twice w V hl hj
  obtain ⟨e1, e2, e3⟩ := fate_none (l := L) (at_ := (j : Int)) f0 f1 f2
  rw [e1, e2, e3]
  exact rfate_none w V hl hj f f0 f1 f2
end
end Go.Proofs.Ytoedgnkoahcblaa
