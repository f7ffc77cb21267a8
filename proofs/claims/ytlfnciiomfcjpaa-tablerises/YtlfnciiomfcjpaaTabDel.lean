/- One version taken out of a row of versions, in place: the library's Delete. -/
import Derived.Test.YtlfnciiomfcjpaaTabGrown
import Derived.Deep.RegionLaw
import Derived.ArgAppend
namespace Go.Proofs.Ytlfnciiomfcjpaa
open Go.ChangeShapes Go.WideShapes Go.ChangeAt Go.RowKit Pk Tb R
set_option linter.unusedVariables false
set_option linter.unusedSimpArgs false

theorem flatW_take {α : Type} {f : α → List Value} {sz : Nat} (hf : ∀ x, (f x).length = sz) (l : List α) (i : Nat) (hi : i ≤ l.length) : (flatW f l).take (i * sz) = flatW f (l.take i) := by
  have h : flatW f l = flatW f (l.take i) ++ flatW f (l.drop i) := by rw [← flatW_append, List.take_append_drop]
  rw [h]
  have e : (flatW f (l.take i)).length = i * sz := by rw [flatW_len hf, List.length_take, Nat.min_eq_left hi]
  rw [← e]
  exact List.take_left
theorem own_cut {w : World} {B e sz g n cap : Nat} {xs : List Value} (h : w.ownsRow B e sz (.slice (some ⟨g, 0, none⟩) n cap) n xs) (i : Nat) (hi : i ≤ n) : w.ownsRow B e sz (.slice (some ⟨g, 0, none⟩) i cap) i (xs.take (i * sz)) := by
  have hm : i * sz ≤ n * sz := Nat.mul_le_mul_right _ hi
  refine ⟨by rw [List.length_take, h.1]; omega, ?_⟩
  rcases h.2 with ⟨e1, h0⟩ | ⟨g2, cap2, cur, e1, hb, hg, hle, hmx, hsz, htk⟩
  · cases e1
  · cases e1
    refine .inr ⟨g, cap, cur, rfl, hb, hg, by omega, hmx, hsz, ?_⟩
    rw [← htk, List.take_take, Nat.min_eq_left hm]
theorem grown_two {w : World} {g i j : Nat} {u v : Value} (w' : World) (h : w.grownBy w' (some g)) : w.grownBy ((w'.setCell ⟨g, i, none⟩ u).setCell ⟨g, j, none⟩ v) (some g) :=
  grown_trans h ⟨rfl, rfl, rfl, by simp, fun k hk hn => (Below.heap_setCell _ ⟨g, j, none⟩ v k (fun e => hn (by rw [e]))).trans (Below.heap_setCell _ ⟨g, i, none⟩ u k (fun e => hn (by rw [e])))⟩
/-- what stands behind a place, moved up by one: the row, and what it then holds -/
theorem own_shift {w : World} {B g n cap i : Nat} {ps : List Vc} (own : w.ownsRow B 47 2 (.slice (some ⟨g, 0, none⟩) n cap) n (flatW fV ps)) (hn : ps.length = n) (hi : i < n) (hn1 : n ≤ 1000) :
    (w.setCells g (0 + i * 2) (flatW fV (ps.drop (i + 1)))).ownsRow B 47 2 (.slice (some ⟨g, 0, none⟩) (n - 1) cap) (n - 1) (flatW fV (ps.eraseIdx i)) ∧ w.grownBy (w.setCells g (0 + i * 2) (flatW fV (ps.drop (i + 1)))) (some g) := by
  obtain ⟨i0, hi, hz0, hz1, hz2⟩ := info_parts infoV9
  have ocut := own_cut own i (by omega)
  rw [flatW_take fV_len ps i (by omega)] at ocut
  have hle : n ≤ cap := by
    rcases own.2 with ⟨e1, h0⟩ | ⟨g2, cap2, cur, e1, hb, hg, hle, hmx, hsz, htk⟩
    · cases e1
    · cases e1; exact hle
  have hB : B ≤ w.heap.size := by have := own.lt g rfl; omega
  have hlen : (flatW fV (ps.drop (i + 1))).length = (n - (i + 1)) * 2 := by rw [flatW_len fV_len, List.length_drop, hn]
  have hsrc : ∀ j u, (flatW fV (ps.drop (i + 1)))[j]? = some u → w.cell? ((⟨g, (i + 1) * 2, none⟩ : Addr).add j) = some u := by
    intro j u hu
    have hj := (List.getElem?_eq_some_iff.1 hu).1
    rw [Addr.add_lit, own.cellAt _ (by omega)]
    have h : flatW fV ps = flatW fV (ps.take (i + 1)) ++ flatW fV (ps.drop (i + 1)) := by rw [← flatW_append, List.take_append_drop]
    have e : (flatW fV (ps.take (i + 1))).length = (i + 1) * 2 := by rw [flatW_len fV_len, List.length_take, hn, Nat.min_eq_left (by omega)]
    rw [h, List.getElem?_append_right (by omega), e, Nat.add_sub_cancel_left]
    exact hu
  obtain ⟨v', w', hr, h2, h3, -⟩ := run_append_own (P := Try.prog) (w := w) B 22 22 47 i0 _ 2 32 Try.underlying22 hi hz0 hz1 hz2 rfl (by decide) _ i _ ocut ⟨g, (i + 1) * 2, none⟩ (n - (i + 1)) 0 _ hlen hsrc (flatW_one fV_one) (by unfold maxLen; omega) (by omega) hB
  have hr2 := run_append_room_cells (P := Try.prog) (w := w) 22 22 47 i0 Try.underlying22 hi g 0 i cap ⟨g, (i + 1) * 2, none⟩ (n - (i + 1)) 0 (flatW fV (ps.drop (i + 1))) (by rw [hz1]; exact hlen) hsrc (flatW_one fV_one) (by omega)
    (fun j hj => by rw [hz1, own.cellAt _ (by omega), List.getElem?_eq_getElem (by rw [own.1]; omega)]; rfl) (fun j hj => own.frozenAt _)
  rw [hr] at hr2
  injection hr2 with e1 e2
  rw [hz1] at e2
  subst e1; subst e2
  refine ⟨own_n (v := .slice (some ⟨g, 0, none⟩) (n - 1) cap) ?_ (show n - 1 = n - 1 from rfl) (show flatW fV (ps.take i) ++ flatW fV (ps.drop (i + 1)) = _ by rw [← flatW_append, ← List.eraseIdx_eq_take_drop_succ]), h3⟩
  rw [show n - 1 = i + (n - (i + 1)) by omega]
  exact h2
theorem some_setCells (b : Nat) : ∀ (vs : List Value) (o : Nat) (w : World) (x : Addr), (∃ u, w.cell? x = some u) → ∃ u, (w.setCells b o vs).cell? x = some u
  | [], o, w, x, h => h
  | v :: vs, o, w, x, h => by
    refine some_setCells b vs (o + 1) (w.setCell ⟨b, o, none⟩ v) x ?_
    by_cases e : x = ⟨b, o, none⟩
    · subst e
      obtain ⟨u, hu⟩ := h
      exact ⟨v, World.cell?_setCell_same' _ _ _ (by rw [hu]; rfl)⟩
    · obtain ⟨u, hu⟩ := h
      exact ⟨u, (World.cell?_setCell_other w ⟨b, o, none⟩ x v (fun e2 => e e2.symm)).trans hu⟩
theorem run_clear_one (w : World) (ty : TypeId) (g o c : Nat) (u0 u1 : Value) (h0 : w.cell? ⟨g, o, none⟩ = some u0) (h1 : w.cell? ⟨g, o + 1, none⟩ = some u1) (hf : ∀ j, w.frozen? ⟨g, j, none⟩ = false) :
    (Builtin.clear_ #[22] ty #[.slice (some ⟨g, o, none⟩) 1 c]).run Try.prog w = .ok (.tuple #[]) ((w.setCell ⟨g, o, none⟩ (.int .i64 0)).setCell ⟨g, o + 1, none⟩ (.slice none 0 0)) := by
  have hzc : (Builtin.zeroCells (.agg #[.int .i64 0, .slice none 0 0] : Value).cells 1).toList = [.int .i64 0, .slice none 0 0] := by kernel_rfl
  have hst := run_storeCells_cells (P := Try.prog) g o [.int .i64 0, .slice none 0 0] 0 w (fun j hj => by
      have h : j = 0 ∨ j = 1 := by simp at hj; omega
      rcases h with rfl | rfl
      · simp [h0]
      · simp [h1]) (fun j hj => hf _) (by decide)
  simp only [Nat.add_zero, World.setCells] at hst
  have hv := Try.zeroValue47
  simp [Builtin.clear_, run_underlying Try.underlying22, hv, hzc, hst]
set_option maxRecDepth 100000 in
set_option maxHeartbeats 4000000 in
theorem delete_any (w : World) {B g n cap i : Nat} {ps : List Vc} (own : w.ownsRow B 47 2 (.slice (some ⟨g, 0, none⟩) n cap) n (flatW fV ps)) (hn : ps.length = n) (hi : i < n) (hn1 : n ≤ 1000) {j : Nat} (hj : j = i + 1) :
    Calls Try.prog 40 #[.slice (some ⟨g, 0, none⟩) n cap, .int .i64 ((i : Nat) : Int), .int .i64 ((j : Nat) : Int)] w fun e w' => e = .returned (.slice (some ⟨g, 0, none⟩) (n - 1) cap) ∧ w'.ownsRow B 47 2 (.slice (some ⟨g, 0, none⟩) (n - 1) cap) (n - 1) (flatW fV (ps.eraseIdx i)) ∧ w.grownBy w' (some g) := by
  obtain ⟨i0, hi0, hz0, hz1, hz2⟩ := info_parts infoV9
  obtain ⟨own1, hg1⟩ := own_shift own hn hi hn1
  have hS := own_shift own.drew hn hi hn1
  rw [← hj] at own1 hg1 hS
  have hle : n ≤ cap := by
    rcases own.2 with ⟨e1, h0⟩ | ⟨g2, cap2, cur, e1, hb, hg, hle, hmx, hsz, htk⟩
    · cases e1
    · cases e1; exact hle
  have hmx : cap ≤ 9223372036854775807 := by
    rcases own.2 with ⟨e1, h0⟩ | ⟨g2, cap2, cur, e1, hb, hg, hle, hmx, hsz, htk⟩
    · cases e1
    · cases e1; unfold maxLen at hmx; omega
  have hcell : ∀ q, q < n * 2 → ∃ u, w.cell? ⟨g, q, none⟩ = some u := fun q hq => by
    rw [own.cellAt q hq, List.getElem?_eq_getElem (by rw [own.1]; exact hq)]; exact ⟨_, rfl⟩
  have HNL : Hid ((flatW fV (ps.drop j)).length = (n - j) * 2) := by show _ = _; rw [flatW_len fV_len, List.length_drop, hn]
  have H1C : Hid (∀ u ∈ flatW fV (ps.drop j), u.oneCell' = true) := flatW_one fV_one
  have HSP : Hid (∀ q, q < (flatW fV (ps.drop j)).length → (w.drew.cell? ⟨g, 0 + i * 2 + q, none⟩).isSome = true ∧ w.drew.frozen? ⟨g, 0 + i * 2 + q, none⟩ = false) := fun q hq => by
    rw [HNL.out] at hq
    obtain ⟨u, hu⟩ := hcell (0 + i * 2 + q) (by omega)
    exact ⟨by show (w.cell? _).isSome = true; rw [hu]; rfl, own.frozenAt _⟩
  obtain ⟨A, hA, HSRC⟩ : ∃ A : Addr, (if cap = j then some (⟨g, 0, none⟩ : Addr) else some ⟨g, j * 2, none⟩) = some A ∧ Hid (∀ q u, (flatW fV (ps.drop j))[q]? = some u → w.drew.cell? (A.add q) = some u) := by
    by_cases h : cap = j
    · refine ⟨⟨g, 0, none⟩, by simp [h], fun q u hu => ?_⟩
      have hq := (List.getElem?_eq_some_iff.1 hu).1
      rw [HNL.out] at hq
      omega
    · refine ⟨⟨g, j * 2, none⟩, by simp [h], fun q u hu => ?_⟩
      have hq := (List.getElem?_eq_some_iff.1 hu).1
      have hj2 := hq
      rw [HNL.out] at hj2
      show w.cell? _ = _
      rw [Addr.add_lit, own.cellAt _ (by omega)]
      have h : flatW fV ps = flatW fV (ps.take j) ++ flatW fV (ps.drop j) := by rw [← flatW_append, List.take_append_drop]
      have e : (flatW fV (ps.take j)).length = j * 2 := by rw [flatW_len fV_len, List.length_take, hn, Nat.min_eq_left (by omega)]
      rw [h, List.getElem?_append_right (by omega), e, Nat.add_sub_cancel_left]
      exact hu
  obtain ⟨W1, hW1⟩ : ∃ W1, W1 = w.drew.setCells g (0 + i * 2) (flatW fV (ps.drop j)) := ⟨_, rfl⟩
  have own2 : W1.ownsRow B 47 2 (.slice (some ⟨g, 0, none⟩) (n - 1) cap) (n - 1) (flatW fV (ps.eraseIdx i)) ∧ w.grownBy W1 (some g) := by
    rw [← hW1] at hS
    exact ⟨hS.1, ⟨hS.2.os, hS.2.tape, hS.2.output, hS.2.size, hS.2.block⟩⟩
  have HW : Hid (W1 = w.drew.setCells g (0 + i * 2) (flatW fV (ps.drop j))) := hW1
  obtain ⟨m, hm⟩ : ∃ m, i + (n - j) = m := ⟨_, rfl⟩
  have hmn : n - 1 = m := by omega
  have hm1 : n - m = 1 := by omega
  have hcl : ∀ ty, (Builtin.clear_ #[22] ty #[.slice (some ⟨g, m * 2, none⟩) (n - m) (cap - m)]).run Try.prog W1 = .ok (.tuple #[]) ((W1.setCell ⟨g, m * 2, none⟩ (.int .i64 0)).setCell ⟨g, m * 2 + 1, none⟩ (.slice none 0 0)) := by
    intro ty
    have hc1 : ∀ q, (∃ u, w.cell? ⟨g, q, none⟩ = some u) → ∃ u, W1.cell? ⟨g, q, none⟩ = some u := by
      intro q hq
      rw [hW1]
      exact some_setCells g _ _ _ _ hq
    obtain ⟨u0, h0⟩ := hc1 _ (hcell (m * 2) (by omega))
    obtain ⟨u1, h1⟩ := hc1 _ (hcell (m * 2 + 1) (by omega))
    rw [hm1]
    exact run_clear_one W1 ty g _ _ u0 u1 h0 h1 (fun j => own2.1.frozenAt j)
  have hown : ((W1.setCell ⟨g, m * 2, none⟩ (.int .i64 0)).setCell ⟨g, m * 2 + 1, none⟩ (.slice none 0 0)).ownsRow B 47 2 (.slice (some ⟨g, 0, none⟩) (n - 1) cap) (n - 1) (flatW fV (ps.eraseIdx i)) ∧ w.grownBy ((W1.setCell ⟨g, m * 2, none⟩ (.int .i64 0)).setCell ⟨g, m * 2 + 1, none⟩ (.slice none 0 0)) (some g) := by
    obtain ⟨o1, -⟩ := own2.1.stored (m * 2) (.int .i64 0)
    obtain ⟨o2, -⟩ := o1.stored (m * 2 + 1) (.slice none 0 0)
    have hl := own2.1.1
    rw [List.set_eq_of_length_le (by rw [List.length_set]; omega), List.set_eq_of_length_le (by omega)] at o2
    exact ⟨o2, grown_two W1 own2.2⟩
  rw [hmn] at hown ⊢
  have HOWN : Hid _ := hown
  have hmn : m ≤ n := by omega
  have hmc : m ≤ cap := by omega
  have hmc2 : ¬ cap = m := by omega
  have hij : i ≤ j := by omega
  have hne : ¬ i = j := by omega
  have hic : i ≤ cap := by omega
  have hjc : j ≤ cap := by omega
  have hjn : j ≤ n := by omega
  clear own own1 hg1 hcell hW1 hS hn hj own2 hm1 hown
  go_enter Try.func40, Try.ntmps40
  go_wp2_with fail
  have S0 : True := trivial
  refine wp_region_noPanic ?_
  refine wp_region_held_drew (S := fun w' => True) (by kernel_rfl) S0 (fun hH => ?_)
  clear S0
  refine wpAnyH_take (i := 0) (oi := { dst := some 20, op := _, type := _, pos := _, after := _, guard := _ }) (v := ?_) rfl (by kernel_rfl) (by kernel_rfl) (by kernel_rfl) (fun _ _ _ h => h) (Or.inl ⟨by rfl, ?_⟩) hH ?_
  rotate_left
  · intro wz hSw
    (try dsimp only at hSw)
    first | (go_simp; done) | (go_simp; with_reducible rfl)
  try simp only [Act.put, List.setIfInBounds_toArray, List.set_cons_zero, List.set_cons_succ]
  refine wpAnyH_take (i := 1) (oi := { dst := some 21, op := _, type := _, pos := _, after := _, guard := _ }) (v := ?_) rfl (by kernel_rfl) (by kernel_rfl) (by kernel_rfl) (fun _ _ _ h => h) (Or.inl ⟨by rfl, ?_⟩) hH ?_
  rotate_left
  · intro wz hSw
    (try dsimp only at hSw)
    first | (go_simp; done) | (go_simp; with_reducible rfl)
  try simp only [Act.put, List.setIfInBounds_toArray, List.set_cons_zero, List.set_cons_succ]
  refine wpAnyH_take (i := 2) (oi := { dst := some 22, op := _, type := _, pos := _, after := _, guard := _ }) (v := ?_) rfl (by kernel_rfl) (by kernel_rfl) (by kernel_rfl) (fun _ _ _ h => h) (Or.inl ⟨by rfl, ?_⟩) hH ?_
  rotate_left
  · intro wz hSw
    (try dsimp only at hSw)
    first | (go_simp; done) | (go_simp; with_reducible rfl)
  try simp only [Act.put, List.setIfInBounds_toArray, List.set_cons_zero, List.set_cons_succ]
  refine wpAnyH_take (i := 3) (oi := { dst := some 23, op := _, type := _, pos := _, after := _, guard := _ }) (v := ?_) rfl (by kernel_rfl) (by kernel_rfl) (by kernel_rfl) (fun _ _ _ h => h) (Or.inl ⟨by rfl, ?_⟩) hH ?_
  rotate_left
  · intro wz hSw
    (try dsimp only at hSw)
    first | (go_simp; done) | (go_simp; with_reducible rfl)
  try simp only [Act.put, List.setIfInBounds_toArray, List.set_cons_zero, List.set_cons_succ]
  refine wpAnyH_take (i := 4) (oi := { dst := some 24, op := _, type := _, pos := _, after := _, guard := _ }) (v := ?_) rfl (by kernel_rfl) (by kernel_rfl) (by kernel_rfl) (fun _ _ _ h => h) (Or.inl ⟨by rfl, ?_⟩) hH ?_
  rotate_left
  · intro wz hSw
    (try dsimp only at hSw)
    first | (go_simp; done) | (go_simp; with_reducible rfl)
  try simp only [Act.put, List.setIfInBounds_toArray, List.set_cons_zero, List.set_cons_succ]
  refine wpAnyH_take (i := 5) (oi := { dst := some 25, op := _, type := _, pos := _, after := _, guard := _ }) (v := ?_) rfl (by kernel_rfl) (by kernel_rfl) (by kernel_rfl) (fun _ _ _ h => h) (Or.inl ⟨by rfl, ?_⟩) hH ?_
  rotate_left
  · intro wz hSw
    (try dsimp only at hSw)
    first | (go_simp; done) | (go_simp; with_reducible rfl)
  try simp only [Act.put, List.setIfInBounds_toArray, List.set_cons_zero, List.set_cons_succ]
  refine wpAnyH_ready (rs := [6]) (by kernel_rfl) (by simp) ?_
  refine AllReadyH.cons (o := { dst := some 26, op := _, type := _, pos := _, after := _, guard := _ }) rfl (fun K hK => ?_) AllReadyH.nil
  refine step_append_room rfl (.tmp 22) (.tmp 25) 22 rfl 47 i0 2 Try.underlying22 hi0 hz1 g 0 i cap (by rfl) A (n - j) (cap - j) (flatW fV (ps.drop j)) (by simp [Act.eval, Act.put, hA]) HNL.out HSRC.out H1C.out (by omega) HSP.out ?_
  refine hK.out _ _ trivial (fun hH2 => ?_)
  clear hK K hH
  have hH := hH2
  clear hH2
  try simp only [Act.put, List.setIfInBounds_toArray, List.set_cons_zero, List.set_cons_succ]
  refine wpAnyH_take (i := 7) (oi := { dst := some 0, op := _, type := _, pos := _, after := _, guard := _ }) (v := ?_) rfl (by kernel_rfl) (by kernel_rfl) (by kernel_rfl) (fun _ _ _ h => h) (Or.inl ⟨by rfl, ?_⟩) hH ?_
  rotate_left
  · intro wz hSw
    (try dsimp only at hSw)
    first | (go_simp; done) | (go_simp; with_reducible rfl)
  try simp only [Act.put, List.setIfInBounds_toArray, List.set_cons_zero, List.set_cons_succ]
  refine wpAnyH_done (by kernel_rfl) ?_ _
  refine NoPanic.normal ?_
  rw [← HW.out, hm]
  clear HW HSRC HSP HNL H1C hA
  go_wp2_with fail
  go_ret
  exact ⟨rfl, HOWN.out⟩
end Go.Proofs.Ytlfnciiomfcjpaa
