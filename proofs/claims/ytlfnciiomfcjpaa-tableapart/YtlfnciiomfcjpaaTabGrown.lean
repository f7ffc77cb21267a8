/- Lists that grow at a place: the code's grown, at rules and at versions. -/
import Derived.Test.YtlfnciiomfcjpaaTabCopy
import Derived.Test.YtlfnciiomfcjpaaFull
import Derived.Deep.RegionHeld3
namespace Go.Proofs.Ytlfnciiomfcjpaa
open Go.ChangeShapes Go.WideShapes Go.ChangeAt Go.RowKit Pk Tb R
set_option linter.unusedVariables false
set_option linter.unusedSimpArgs false

theorem rdv_of_rds {α : Type} {f : α → List Int} {sz : Nat} (hf : ∀ x, (f x).length = sz) {w : World} {a : Option Addr} {c : Nat} {l : List α} (R : Rds f sz w a c l) : Rdv (fun x => (f x).map (Value.int .i64)) sz w a c l :=
  ⟨R.le, R.max, R.nil, fun hl => by
    obtain ⟨b, o, e, hlt, hc⟩ := R.cells hl
    refine ⟨b, o, e, hlt, fun i x hx j y hy => ?_⟩
    rw [List.getElem?_map] at hy
    obtain ⟨z, hz, rfl⟩ := Option.map_eq_some_iff.1 hy
    exact hc i x hx j z hz⟩
theorem fRv_len (x : Rl) : ((fR x).map (Value.int .i64)).length = 6 := rfl
theorem fRv_one (x : Rl) : ∀ z ∈ (fR x).map (Value.int .i64), z.oneCell' = true := by
  intro z hz
  obtain ⟨y, -, rfl⟩ := List.mem_map.1 hz
  rfl
theorem new_cellT (w : World) (l : List Value) (t : TypeId) {B : Nat} (hB : w.heap.size = B) (j : Nat) (v : Value) (h : l[j]? = some v) : (w.alloc (.cells l.toArray t)).cell? ⟨B, j, none⟩ = some v := by
  subst hB
  have := World.news_of_block (heap_alloc_new w (.cells l.toArray t)) j v (by simpa using h)
  rw [Addr.add_lit] at this
  simpa using this
theorem own_n {w : World} {B e sz n n' : Nat} {v : Value} {xs ys : List Value} (h : w.ownsRow B e sz v n xs) (hn : n = n') (hx : xs = ys) : w.ownsRow B e sz v n' ys := hn ▸ hx ▸ h
theorem below_none {w w' : World} (h : w.grownBy w' none) : Below w.heap.size w w' := ⟨h.os, h.tape, h.output, h.size, fun k hk => h.block k hk (fun e => by cases e)⟩
/-- 'append(l[:k:k], y)', whosever l is: at one step of a region that draws its order -/
theorem stepRdv_cut {α : Type} {f : α → List Value} {sz : Nat} {w : World} {ops : Array Oper} {o : Oper} {a : Act} {Q : Exit → Act → World → Prop} (hf : ∀ x, (f x).length = sz) (h1 : ∀ x, ∀ z ∈ f x, z.oneCell' = true) (hpos : 0 < sz) {K : Act → World → Prop} {E : Prop} (hgd : o.guard = none) (s x : Operand) (t : TypeId)
    (ho : o.op = .call { callee := .builtin .append, args := #[s, x], argTypes := #[t, t] })
    (e : TypeId) (bytes : Nat) (z : Value) (ht : Try.prog.underlying t = some (.slice e)) (hinfo : (Try.prog.info? e).map (fun i => (i.zero, i.size, i.bytes)) = some (some z, sz, bytes)) (hz : z.cells.size = sz)
    {ad : Option Addr} {k c : Nat} {l : List α} (hs : a.eval s = .slice ad k k) (R : Rdv f sz w ad c l) (hn : l.length = k)
    {y : α} {B : Nat} (hx : a.eval x = .slice (some ⟨B, 0, none⟩) 1 1) (RY : Rdv f sz w (some ⟨B, 0, none⟩) 1 [y]) (hb1 : k + 1 ≤ 1000000) (hb2 : bytes ≤ 1000)
    (h : ∀ v' w', w'.ownsRow w.heap.size e sz v' (k + 1) (flatW f (l ++ [y])) → Below w.heap.size w w' → K (a.put o.dst v') w') :
    if Region.wanted o (yielded ops a.tmps) = true then Oper.wp Try.prog o a w K Q else E := by
  cases ad with
  | none =>
    have hc := R.nil rfl
    have hl : l = [] := List.eq_nil_of_length_eq_zero (by have := R.le; omega)
    subst hl
    obtain rfl : k = 0 := hn.symm
    refine stepRdv_join hf h1 hpos hgd s x t ho w.heap.size e bytes z ht hinfo hz (n := 0) (ys := []) hs (World.ownsRow_nil _ _ _ _) hx RY rfl (by omega) hb2 (Nat.le_refl _) ?_
    intro v' w' h2 h3 h4
    exact h v' w' h2 (below_none h3)
  | some x0 =>
    have hw : Region.wanted o (yielded ops a.tmps) = true := by simp [Region.wanted, hgd]
    rw [if_pos hw]
    obtain ⟨i0, hi, hz0, hz1, hz2⟩ := info_parts hinfo
    refine wp_append_full s x t ho e i0 z sz bytes ht hi hz0 hz1 hz2 hz hpos x0 k k (flatW f l) hs (by rw [flatW_len hf, hn]) (cells_of_rdv hf R) _ 1 1 (flatW f [y]) hx (by rw [flatW_len hf]; simp) (cells_of_rdv hf RY) (by omega) (by unfold maxLen; omega) ?_ ?_
    · have : (k + 1) * bytes ≤ 1000000 * 1000 := Nat.mul_le_mul hb1 hb2
      omega
    · intro v' w' h2 h3 h4
      rw [← flatW_append] at h2
      exact h v' w' h2 (below_none h3)
theorem kept_grownR {Bx : Nat} {ra rn ri rp rk rt : Int} {W w' w2 : World} (hlt : Bx < W.heap.size) (h : Below W.heap.size W w' ∧ w'.cell? ⟨Bx, 0, none⟩ = some (.int .i64 ra) ∧ w'.cell? ⟨Bx, 1, none⟩ = some (.int .i64 rn) ∧ w'.cell? ⟨Bx, 2, none⟩ = some (.int .i64 ri) ∧ w'.cell? ⟨Bx, 3, none⟩ = some (.int .i64 rp) ∧ w'.cell? ⟨Bx, 4, none⟩ = some (.int .i64 rk) ∧ w'.cell? ⟨Bx, 5, none⟩ = some (.int .i64 rt)) (hb : Below w'.heap.size w' w2) : Below W.heap.size W w2 ∧ w2.cell? ⟨Bx, 0, none⟩ = some (.int .i64 ra) ∧ w2.cell? ⟨Bx, 1, none⟩ = some (.int .i64 rn) ∧ w2.cell? ⟨Bx, 2, none⟩ = some (.int .i64 ri) ∧ w2.cell? ⟨Bx, 3, none⟩ = some (.int .i64 rp) ∧ w2.cell? ⟨Bx, 4, none⟩ = some (.int .i64 rk) ∧ w2.cell? ⟨Bx, 5, none⟩ = some (.int .i64 rt) := by
  obtain ⟨h0, c0, c1, c2, c3, c4, c5⟩ := h
  exact ⟨below_step h0 hb, (hb.cell (p := ⟨Bx, 0, none⟩) (Nat.lt_of_lt_of_le hlt h0.size)).trans c0, (hb.cell (p := ⟨Bx, 1, none⟩) (Nat.lt_of_lt_of_le hlt h0.size)).trans c1, (hb.cell (p := ⟨Bx, 2, none⟩) (Nat.lt_of_lt_of_le hlt h0.size)).trans c2, (hb.cell (p := ⟨Bx, 3, none⟩) (Nat.lt_of_lt_of_le hlt h0.size)).trans c3, (hb.cell (p := ⟨Bx, 4, none⟩) (Nat.lt_of_lt_of_le hlt h0.size)).trans c4, (hb.cell (p := ⟨Bx, 5, none⟩) (Nat.lt_of_lt_of_le hlt h0.size)).trans c5⟩
theorem kept2_grownR {Bx : Nat} {ra rn ri rp rk rt : Int} {W w2 : World} (hlt : Bx < W.heap.size) (h : Below W.heap.size W W ∧ W.cell? ⟨Bx, 0, none⟩ = some (.int .i64 ra) ∧ W.cell? ⟨Bx, 1, none⟩ = some (.int .i64 rn) ∧ W.cell? ⟨Bx, 2, none⟩ = some (.int .i64 ri) ∧ W.cell? ⟨Bx, 3, none⟩ = some (.int .i64 rp) ∧ W.cell? ⟨Bx, 4, none⟩ = some (.int .i64 rk) ∧ W.cell? ⟨Bx, 5, none⟩ = some (.int .i64 rt)) (hb : Below W.heap.size W w2) : Below W.heap.size W w2 ∧ w2.cell? ⟨Bx, 0, none⟩ = some (.int .i64 ra) ∧ w2.cell? ⟨Bx, 1, none⟩ = some (.int .i64 rn) ∧ w2.cell? ⟨Bx, 2, none⟩ = some (.int .i64 ri) ∧ w2.cell? ⟨Bx, 3, none⟩ = some (.int .i64 rp) ∧ w2.cell? ⟨Bx, 4, none⟩ = some (.int .i64 rk) ∧ w2.cell? ⟨Bx, 5, none⟩ = some (.int .i64 rt) := kept_grownR hlt h hb
set_option maxRecDepth 100000 in
set_option maxHeartbeats 4000000 in
theorem grownR_any (w : World) {a : Option Addr} {c : Nat} {l : List Rl} (R : Rds fR 6 w a c l) {m : Nat} (hm : l.length = m) (hl : m ≤ 1000) {k : Nat} (hk : k ≤ m) (ra rn ri rp rk rt : Int) :
    Calls Try.prog 32 #[.slice a m c, .int .i64 ((k : Nat) : Int), .agg #[.int .i64 ra, .int .i64 rn, .int .i64 ri, .int .i64 rp, .int .i64 rk, .int .i64 rt]] w fun e w' => ∃ u, e = .returned u ∧ w'.ownsRow w.heap.size 28 6 u (m + 1) (flatV fR (l.take k ++ (⟨ra, rn, ri, rp, rk, rt⟩ : Rl) :: l.drop k)) ∧ Below w.heap.size w w' := by
  have hbw := below_new w (.cells #[.int .i64 ra, .int .i64 rn, .int .i64 ri, .int .i64 rp, .int .i64 rk, .int .i64 rt] 28)
  have hX0 : Below (w.alloc (.cells #[.int .i64 ra, .int .i64 rn, .int .i64 ri, .int .i64 rp, .int .i64 rk, .int .i64 rt] 28)).heap.size (w.alloc (.cells #[.int .i64 ra, .int .i64 rn, .int .i64 ri, .int .i64 rp, .int .i64 rk, .int .i64 rt] 28)) (w.alloc (.cells #[.int .i64 ra, .int .i64 rn, .int .i64 ri, .int .i64 rp, .int .i64 rk, .int .i64 rt] 28)) ∧ (w.alloc (.cells #[.int .i64 ra, .int .i64 rn, .int .i64 ri, .int .i64 rp, .int .i64 rk, .int .i64 rt] 28)).cell? ⟨w.heap.size, 0, none⟩ = some (.int .i64 ra) ∧ (w.alloc (.cells #[.int .i64 ra, .int .i64 rn, .int .i64 ri, .int .i64 rp, .int .i64 rk, .int .i64 rt] 28)).cell? ⟨w.heap.size, 1, none⟩ = some (.int .i64 rn) ∧ (w.alloc (.cells #[.int .i64 ra, .int .i64 rn, .int .i64 ri, .int .i64 rp, .int .i64 rk, .int .i64 rt] 28)).cell? ⟨w.heap.size, 2, none⟩ = some (.int .i64 ri) ∧ (w.alloc (.cells #[.int .i64 ra, .int .i64 rn, .int .i64 ri, .int .i64 rp, .int .i64 rk, .int .i64 rt] 28)).cell? ⟨w.heap.size, 3, none⟩ = some (.int .i64 rp) ∧ (w.alloc (.cells #[.int .i64 ra, .int .i64 rn, .int .i64 ri, .int .i64 rp, .int .i64 rk, .int .i64 rt] 28)).cell? ⟨w.heap.size, 4, none⟩ = some (.int .i64 rk) ∧ (w.alloc (.cells #[.int .i64 ra, .int .i64 rn, .int .i64 ri, .int .i64 rp, .int .i64 rk, .int .i64 rt] 28)).cell? ⟨w.heap.size, 5, none⟩ = some (.int .i64 rt) := by
    refine ⟨Below.refl _ _, ?_, ?_, ?_, ?_, ?_, ?_⟩
    all_goals exact new_cellT w _ _ rfl _ _ rfl
  have hBx : w.heap.size < (w.alloc (.cells #[.int .i64 ra, .int .i64 rn, .int .i64 ri, .int .i64 rp, .int .i64 rk, .int .i64 rt] 28)).heap.size := by simp
  have R2 := (rdv_of_rds fR_len R).later hbw
  have hkc : k ≤ c := by have := R2.le; omega
  have HK : Hid ((l.take k).length = k) := by show _ = _; rw [List.length_take]; omega
  have HD : Hid ((l.drop k).length = m - k) := by show _ = _; rw [List.length_drop, hm]
  have HL6 : Hid (k + 1 ≤ 1000000) := by show _ ≤ _; omega
  have HLL : Hid (k + 1 + (m - k) ≤ 1000000) := by show _ ≤ _; omega
  have HS : Hid (k + 1 + (m - k) = m + 1) := by show _ = _; omega
  cases a with
  | none =>
    have hc := R2.nil rfl
    have RD : Hid (Rdv (fun x => (fR x).map (Value.int .i64)) 6 (w.alloc (.cells #[.int .i64 ra, .int .i64 rn, .int .i64 ri, .int .i64 rp, .int .i64 rk, .int .i64 rt] 28)) none 0 (l.drop k)) := by
      have h0 : l = [] := List.eq_nil_of_length_eq_zero (by have := R2.le; omega)
      subst h0
      rw [List.drop_nil]
      exact Rdv.none _ _ _
    obtain rfl : k = 0 := by omega
    obtain rfl : m = 0 := by have := R2.le; omega
    subst hc
    go_enter Try.func32, Try.ntmps32
    go_wp2_with fail
    generalize w.alloc (.cells #[.int .i64 ra, .int .i64 rn, .int .i64 ri, .int .i64 rp, .int .i64 rk, .int .i64 rt] 28) = W at hBx hX0 R2 RD hbw ⊢
    have S0 : Below W.heap.size W W.drew ∧ W.drew.cell? ⟨w.heap.size, 0, none⟩ = some (.int .i64 ra) ∧ W.drew.cell? ⟨w.heap.size, 1, none⟩ = some (.int .i64 rn) ∧ W.drew.cell? ⟨w.heap.size, 2, none⟩ = some (.int .i64 ri) ∧ W.drew.cell? ⟨w.heap.size, 3, none⟩ = some (.int .i64 rp) ∧ W.drew.cell? ⟨w.heap.size, 4, none⟩ = some (.int .i64 rk) ∧ W.drew.cell? ⟨w.heap.size, 5, none⟩ = some (.int .i64 rt) := ⟨(Below.refl _ _).drew, hX0.2⟩
    refine wp_region_noPanic ?_
    refine wp_region_held_drew (S := fun w' => Below W.heap.size W w' ∧ w'.cell? ⟨w.heap.size, 0, none⟩ = some (.int .i64 ra) ∧ w'.cell? ⟨w.heap.size, 1, none⟩ = some (.int .i64 rn) ∧ w'.cell? ⟨w.heap.size, 2, none⟩ = some (.int .i64 ri) ∧ w'.cell? ⟨w.heap.size, 3, none⟩ = some (.int .i64 rp) ∧ w'.cell? ⟨w.heap.size, 4, none⟩ = some (.int .i64 rk) ∧ w'.cell? ⟨w.heap.size, 5, none⟩ = some (.int .i64 rt)) (by kernel_rfl) S0 (fun hH => ?_)
    clear S0
    refine wpAnyH_take (i := 0) (oi := { dst := some 7, op := _, type := _, pos := _, after := _, guard := _ }) (v := ?_) rfl (by kernel_rfl) (by kernel_rfl) (by kernel_rfl) (fun _ _ _ h => h) (Or.inl ⟨by rfl, ?_⟩) hH ?_
    rotate_left
    · intro wz hSw
      (try dsimp only at hSw)
      first | (go_simp; done) | (go_simp; with_reducible rfl)
    try simp only [Act.put, List.setIfInBounds_toArray, List.set_cons_zero, List.set_cons_succ]
    refine wpAnyH_take (i := 1) (oi := { dst := some 8, op := _, type := _, pos := _, after := _, guard := _ }) (v := ?_) rfl (by kernel_rfl) (by kernel_rfl) (by kernel_rfl) (fun _ _ _ h => h) (Or.inl ⟨by rfl, ?_⟩) hH ?_
    rotate_left
    · intro wz hSw
      (try dsimp only at hSw)
      first | (go_simp; done) | (go_simp; with_reducible rfl)
    try simp only [Act.put, List.setIfInBounds_toArray, List.set_cons_zero, List.set_cons_succ]
    refine wpAnyH_take (i := 2) (oi := { dst := some 9, op := _, type := _, pos := _, after := _, guard := _ }) (v := ?_) rfl (by kernel_rfl) (by kernel_rfl) (by kernel_rfl) (fun _ _ _ h => h) (Or.inl ⟨by rfl, ?_⟩) hH ?_
    rotate_left
    · intro wz hSw
      (try dsimp only at hSw)
      first | (go_simp; done) | (go_simp; with_reducible rfl)
    try simp only [Act.put, List.setIfInBounds_toArray, List.set_cons_zero, List.set_cons_succ]
    refine wpAnyH_take (i := 3) (oi := { dst := some 10, op := _, type := _, pos := _, after := _, guard := _ }) (v := ?_) rfl (by kernel_rfl) (by kernel_rfl) (by kernel_rfl) (fun _ _ _ h => h) (Or.inl ⟨by rfl, ?_⟩) hH ?_
    rotate_left
    · intro wz hSw
      (try dsimp only at hSw)
      first | (go_simp; done) | (go_simp; with_reducible rfl)
    try simp only [Act.put, List.setIfInBounds_toArray, List.set_cons_zero, List.set_cons_succ]
    refine wpAnyH_take (i := 4) (oi := { dst := some 11, op := _, type := _, pos := _, after := _, guard := _ }) (v := ?_) rfl (by kernel_rfl) (by kernel_rfl) (by kernel_rfl) (fun _ _ _ h => h) (Or.inl ⟨by rfl, ?_⟩) hH ?_
    rotate_left
    · intro wz hSw
      (try dsimp only at hSw)
      obtain ⟨-, z0, z1, z2, z3, z4, z5⟩ := hSw
      first | (go_simp; done) | (go_simp; with_reducible rfl)
    try simp only [Act.put, List.setIfInBounds_toArray, List.set_cons_zero, List.set_cons_succ]
    refine wpAnyH_take (i := 7) (oi := { dst := some 14, op := _, type := _, pos := _, after := _, guard := _ }) (v := ?_) rfl (by kernel_rfl) (by kernel_rfl) (by kernel_rfl) (fun _ _ _ h => h) (Or.inl ⟨by rfl, ?_⟩) hH ?_
    rotate_left
    · intro wz hSw
      (try dsimp only at hSw)
      first | (go_simp; done) | (go_simp; with_reducible rfl)
    try simp only [Act.put, List.setIfInBounds_toArray, List.set_cons_zero, List.set_cons_succ]
    refine wpAnyH_take (i := 8) (oi := { dst := some 15, op := _, type := _, pos := _, after := _, guard := _ }) (v := ?_) rfl (by kernel_rfl) (by kernel_rfl) (by kernel_rfl) (fun _ _ _ h => h) (Or.inl ⟨by rfl, ?_⟩) hH ?_
    rotate_left
    · intro wz hSw
      (try dsimp only at hSw)
      first | (go_simp; done) | (go_simp; with_reducible rfl)
    try simp only [Act.put, List.setIfInBounds_toArray, List.set_cons_zero, List.set_cons_succ]
    refine wpAnyH_take (i := 9) (oi := { dst := some 16, op := _, type := _, pos := _, after := _, guard := _ }) (v := ?_) rfl (by kernel_rfl) (by kernel_rfl) (by kernel_rfl) (fun _ _ _ h => h) (Or.inl ⟨by rfl, ?_⟩) hH ?_
    rotate_left
    · intro wz hSw
      (try dsimp only at hSw)
      first | (go_simp; done) | (go_simp; with_reducible rfl)
    try simp only [Act.put, List.setIfInBounds_toArray, List.set_cons_zero, List.set_cons_succ]
    refine wpAnyH_ready (rs := [5]) (by kernel_rfl) (by simp) ?_
    refine AllReadyH.cons (o := { dst := some 12, op := _, type := _, pos := _, after := _, guard := _ }) rfl (fun K hK => ?_) AllReadyH.nil
    go_simp
    have hn : Below W.drew.heap.size W.drew (W.alloc (.cells #[.int .i64 ra, .int .i64 rn, .int .i64 ri, .int .i64 rp, .int .i64 rk, .int .i64 rt] 28)).drew := below_new W.drew (.cells #[.int .i64 ra, .int .i64 rn, .int .i64 ri, .int .i64 rp, .int .i64 rk, .int .i64 rt] 28)
    have RY : Rdv (fun x => (fR x).map (Value.int .i64)) 6 (W.alloc (.cells #[.int .i64 ra, .int .i64 rn, .int .i64 ri, .int .i64 rp, .int .i64 rk, .int .i64 rt] 28)).drew (some ⟨W.heap.size, 0, none⟩) 1 [(⟨ra, rn, ri, rp, rk, rt⟩ : Rl)] := rdv_new (f := (fun x => (fR x).map (Value.int .i64))) fRv_len W.drew (⟨ra, rn, ri, rp, rk, rt⟩ : Rl) 28 rfl
    generalize (W.alloc (.cells #[.int .i64 ra, .int .i64 rn, .int .i64 ri, .int .i64 rp, .int .i64 rk, .int .i64 rt] 28)).drew = W1 at hn RY ⊢
    refine hK.out _ _ (kept_grownR hBx hH hn) (fun hH2 => ?_)
    clear hK K hH
    have hH := hH2
    clear hH2
    try simp only [Act.put, List.setIfInBounds_toArray, List.set_cons_zero, List.set_cons_succ]
    refine wpAnyH_ready (rs := [6]) (by kernel_rfl) (by simp) ?_
    refine AllReadyH.cons (o := { dst := some 13, op := _, type := _, pos := _, after := _, guard := _ }) rfl (fun K hK => ?_) AllReadyH.nil
    have hbX := hH.1
    refine stepRdv_cut fRv_len fRv_one (by decide) (by rfl) (.tmp 10) (.tmp 12) 36 (by rfl) 28 48 _ Try.underlying36 infoR9 rfl (by rfl) ((R2.later hbX).take 0) HK.out (by rfl) RY HL6.out (by decide) ?_
    intro v3 w3 own3 hb3
    refine hK.out _ _ (kept_grownR hBx hH hb3) (fun hH2 => ?_)
    clear hK K hH
    have hH := hH2
    clear hH2
    try simp only [Act.put, List.setIfInBounds_toArray, List.set_cons_zero, List.set_cons_succ]
    refine wpAnyH_ready (rs := [10]) (by kernel_rfl) (by simp) ?_
    refine AllReadyH.cons (o := { dst := some 17, op := _, type := _, pos := _, after := _, guard := _ }) rfl (fun K hK => ?_) AllReadyH.nil
    have hbY := hH.1
    refine stepRdv_join fRv_len fRv_one (by decide) (by rfl) (.tmp 13) (.tmp 16) 36 (by rfl) W.heap.size 28 48 _ Try.underlying36 infoR9 rfl (by rfl) (own_base own3 hbX.size) (by rfl) ((RD.out).later hbY) HD.out HLL.out (by decide) hbY.size ?_
    intro v4 w4 own4 hg4 hp4
    have hb4 : Below W.heap.size W w4 := below_growW hbY (own_base own3 hbX.size) hg4 hbY.size
    refine hK.out _ _ (kept2_grownR hBx hX0 hb4) (fun hH2 => ?_)
    clear hK K hH
    have hH := hH2
    clear hH2
    try simp only [Act.put, List.setIfInBounds_toArray, List.set_cons_zero, List.set_cons_succ]
    refine wpAnyH_take (i := 11) (oi := { dst := some 6, op := _, type := _, pos := _, after := _, guard := _ }) (v := ?_) rfl (by kernel_rfl) (by kernel_rfl) (by kernel_rfl) (fun _ _ _ h => h) (Or.inl ⟨by rfl, ?_⟩) hH ?_
    rotate_left
    · intro wz hSw
      (try dsimp only at hSw)
      first | (go_simp; done) | (go_simp; with_reducible rfl)
    try simp only [Act.put, List.setIfInBounds_toArray, List.set_cons_zero, List.set_cons_succ]
    refine wpAnyH_done (by kernel_rfl) ?_ _
    refine NoPanic.normal ?_
    have e1 : ((l.take 0 ++ [(⟨ra, rn, ri, rp, rk, rt⟩ : Rl)]) ++ l.drop 0) = l.take 0 ++ (⟨ra, rn, ri, rp, rk, rt⟩ : Rl) :: l.drop 0 := by simp
    have own5 := own_base (own_n (n' := 0 + 1) own4 (by omega) (congrArg (flatW (fun x => (fR x).map (Value.int .i64))) e1)) hbw.size
    have hb5 := below_step hbw hb4
    clear own4 own3 hg4 hp4 HS HL6 HLL HD HK R R2 RD RY
    go_wp2_with fail
    all_goals (go_ret; exact ⟨_, rfl, own5, hb5⟩)
  | some x0 =>
    have RD : Hid (Rdv (fun x => (fR x).map (Value.int .i64)) 6 (w.alloc (.cells #[.int .i64 ra, .int .i64 rn, .int .i64 ri, .int .i64 rp, .int .i64 rk, .int .i64 rt] 28)) (if c = k then some x0 else some (x0.add (k * 6))) (c - k) (l.drop k)) := R2.drop k (by omega)
    go_enter Try.func32, Try.ntmps32
    go_wp2_with fail
    generalize w.alloc (.cells #[.int .i64 ra, .int .i64 rn, .int .i64 ri, .int .i64 rp, .int .i64 rk, .int .i64 rt] 28) = W at hBx hX0 R2 RD hbw ⊢
    have S0 : Below W.heap.size W W.drew ∧ W.drew.cell? ⟨w.heap.size, 0, none⟩ = some (.int .i64 ra) ∧ W.drew.cell? ⟨w.heap.size, 1, none⟩ = some (.int .i64 rn) ∧ W.drew.cell? ⟨w.heap.size, 2, none⟩ = some (.int .i64 ri) ∧ W.drew.cell? ⟨w.heap.size, 3, none⟩ = some (.int .i64 rp) ∧ W.drew.cell? ⟨w.heap.size, 4, none⟩ = some (.int .i64 rk) ∧ W.drew.cell? ⟨w.heap.size, 5, none⟩ = some (.int .i64 rt) := ⟨(Below.refl _ _).drew, hX0.2⟩
    refine wp_region_noPanic ?_
    refine wp_region_held_drew (S := fun w' => Below W.heap.size W w' ∧ w'.cell? ⟨w.heap.size, 0, none⟩ = some (.int .i64 ra) ∧ w'.cell? ⟨w.heap.size, 1, none⟩ = some (.int .i64 rn) ∧ w'.cell? ⟨w.heap.size, 2, none⟩ = some (.int .i64 ri) ∧ w'.cell? ⟨w.heap.size, 3, none⟩ = some (.int .i64 rp) ∧ w'.cell? ⟨w.heap.size, 4, none⟩ = some (.int .i64 rk) ∧ w'.cell? ⟨w.heap.size, 5, none⟩ = some (.int .i64 rt)) (by kernel_rfl) S0 (fun hH => ?_)
    clear S0
    refine wpAnyH_take (i := 0) (oi := { dst := some 7, op := _, type := _, pos := _, after := _, guard := _ }) (v := ?_) rfl (by kernel_rfl) (by kernel_rfl) (by kernel_rfl) (fun _ _ _ h => h) (Or.inl ⟨by rfl, ?_⟩) hH ?_
    rotate_left
    · intro wz hSw
      (try dsimp only at hSw)
      first | (go_simp; done) | (go_simp; with_reducible rfl)
    try simp only [Act.put, List.setIfInBounds_toArray, List.set_cons_zero, List.set_cons_succ]
    refine wpAnyH_take (i := 1) (oi := { dst := some 8, op := _, type := _, pos := _, after := _, guard := _ }) (v := ?_) rfl (by kernel_rfl) (by kernel_rfl) (by kernel_rfl) (fun _ _ _ h => h) (Or.inl ⟨by rfl, ?_⟩) hH ?_
    rotate_left
    · intro wz hSw
      (try dsimp only at hSw)
      first | (go_simp; done) | (go_simp; with_reducible rfl)
    try simp only [Act.put, List.setIfInBounds_toArray, List.set_cons_zero, List.set_cons_succ]
    refine wpAnyH_take (i := 2) (oi := { dst := some 9, op := _, type := _, pos := _, after := _, guard := _ }) (v := ?_) rfl (by kernel_rfl) (by kernel_rfl) (by kernel_rfl) (fun _ _ _ h => h) (Or.inl ⟨by rfl, ?_⟩) hH ?_
    rotate_left
    · intro wz hSw
      (try dsimp only at hSw)
      first | (go_simp; done) | (go_simp; with_reducible rfl)
    try simp only [Act.put, List.setIfInBounds_toArray, List.set_cons_zero, List.set_cons_succ]
    refine wpAnyH_take (i := 3) (oi := { dst := some 10, op := _, type := _, pos := _, after := _, guard := _ }) (v := ?_) rfl (by kernel_rfl) (by kernel_rfl) (by kernel_rfl) (fun _ _ _ h => h) (Or.inl ⟨by rfl, ?_⟩) hH ?_
    rotate_left
    · intro wz hSw
      (try dsimp only at hSw)
      first | (go_simp; done) | (go_simp; with_reducible rfl)
    try simp only [Act.put, List.setIfInBounds_toArray, List.set_cons_zero, List.set_cons_succ]
    refine wpAnyH_take (i := 4) (oi := { dst := some 11, op := _, type := _, pos := _, after := _, guard := _ }) (v := ?_) rfl (by kernel_rfl) (by kernel_rfl) (by kernel_rfl) (fun _ _ _ h => h) (Or.inl ⟨by rfl, ?_⟩) hH ?_
    rotate_left
    · intro wz hSw
      (try dsimp only at hSw)
      obtain ⟨-, z0, z1, z2, z3, z4, z5⟩ := hSw
      first | (go_simp; done) | (go_simp; with_reducible rfl)
    try simp only [Act.put, List.setIfInBounds_toArray, List.set_cons_zero, List.set_cons_succ]
    refine wpAnyH_take (i := 7) (oi := { dst := some 14, op := _, type := _, pos := _, after := _, guard := _ }) (v := ?_) rfl (by kernel_rfl) (by kernel_rfl) (by kernel_rfl) (fun _ _ _ h => h) (Or.inl ⟨by rfl, ?_⟩) hH ?_
    rotate_left
    · intro wz hSw
      (try dsimp only at hSw)
      first | (go_simp; done) | (go_simp; with_reducible rfl)
    try simp only [Act.put, List.setIfInBounds_toArray, List.set_cons_zero, List.set_cons_succ]
    refine wpAnyH_take (i := 8) (oi := { dst := some 15, op := _, type := _, pos := _, after := _, guard := _ }) (v := ?_) rfl (by kernel_rfl) (by kernel_rfl) (by kernel_rfl) (fun _ _ _ h => h) (Or.inl ⟨by rfl, ?_⟩) hH ?_
    rotate_left
    · intro wz hSw
      (try dsimp only at hSw)
      first | (go_simp; done) | (go_simp; with_reducible rfl)
    try simp only [Act.put, List.setIfInBounds_toArray, List.set_cons_zero, List.set_cons_succ]
    refine wpAnyH_take (i := 9) (oi := { dst := some 16, op := _, type := _, pos := _, after := _, guard := _ }) (v := ?_) rfl (by kernel_rfl) (by kernel_rfl) (by kernel_rfl) (fun _ _ _ h => h) (Or.inl ⟨by rfl, ?_⟩) hH ?_
    rotate_left
    · intro wz hSw
      (try dsimp only at hSw)
      first | (go_simp; done) | (go_simp; with_reducible rfl)
    try simp only [Act.put, List.setIfInBounds_toArray, List.set_cons_zero, List.set_cons_succ]
    refine wpAnyH_ready (rs := [5]) (by kernel_rfl) (by simp) ?_
    refine AllReadyH.cons (o := { dst := some 12, op := _, type := _, pos := _, after := _, guard := _ }) rfl (fun K hK => ?_) AllReadyH.nil
    go_simp
    have hn : Below W.drew.heap.size W.drew (W.alloc (.cells #[.int .i64 ra, .int .i64 rn, .int .i64 ri, .int .i64 rp, .int .i64 rk, .int .i64 rt] 28)).drew := below_new W.drew (.cells #[.int .i64 ra, .int .i64 rn, .int .i64 ri, .int .i64 rp, .int .i64 rk, .int .i64 rt] 28)
    have RY : Rdv (fun x => (fR x).map (Value.int .i64)) 6 (W.alloc (.cells #[.int .i64 ra, .int .i64 rn, .int .i64 ri, .int .i64 rp, .int .i64 rk, .int .i64 rt] 28)).drew (some ⟨W.heap.size, 0, none⟩) 1 [(⟨ra, rn, ri, rp, rk, rt⟩ : Rl)] := rdv_new (f := (fun x => (fR x).map (Value.int .i64))) fRv_len W.drew (⟨ra, rn, ri, rp, rk, rt⟩ : Rl) 28 rfl
    generalize (W.alloc (.cells #[.int .i64 ra, .int .i64 rn, .int .i64 ri, .int .i64 rp, .int .i64 rk, .int .i64 rt] 28)).drew = W1 at hn RY ⊢
    refine hK.out _ _ (kept_grownR hBx hH hn) (fun hH2 => ?_)
    clear hK K hH
    have hH := hH2
    clear hH2
    try simp only [Act.put, List.setIfInBounds_toArray, List.set_cons_zero, List.set_cons_succ]
    refine wpAnyH_ready (rs := [6]) (by kernel_rfl) (by simp) ?_
    refine AllReadyH.cons (o := { dst := some 13, op := _, type := _, pos := _, after := _, guard := _ }) rfl (fun K hK => ?_) AllReadyH.nil
    have hbX := hH.1
    refine stepRdv_cut fRv_len fRv_one (by decide) (by rfl) (.tmp 10) (.tmp 12) 36 (by rfl) 28 48 _ Try.underlying36 infoR9 rfl (by rfl) ((R2.later hbX).take k) HK.out (by rfl) RY HL6.out (by decide) ?_
    intro v3 w3 own3 hb3
    refine hK.out _ _ (kept_grownR hBx hH hb3) (fun hH2 => ?_)
    clear hK K hH
    have hH := hH2
    clear hH2
    try simp only [Act.put, List.setIfInBounds_toArray, List.set_cons_zero, List.set_cons_succ]
    refine wpAnyH_ready (rs := [10]) (by kernel_rfl) (by simp) ?_
    refine AllReadyH.cons (o := { dst := some 17, op := _, type := _, pos := _, after := _, guard := _ }) rfl (fun K hK => ?_) AllReadyH.nil
    have hbY := hH.1
    refine stepRdv_join fRv_len fRv_one (by decide) (by rfl) (.tmp 13) (.tmp 16) 36 (by rfl) W.heap.size 28 48 _ Try.underlying36 infoR9 rfl (by rfl) (own_base own3 hbX.size) (by rfl) ((RD.out).later hbY) HD.out HLL.out (by decide) hbY.size ?_
    intro v4 w4 own4 hg4 hp4
    have hb4 : Below W.heap.size W w4 := below_growW hbY (own_base own3 hbX.size) hg4 hbY.size
    refine hK.out _ _ (kept2_grownR hBx hX0 hb4) (fun hH2 => ?_)
    clear hK K hH
    have hH := hH2
    clear hH2
    try simp only [Act.put, List.setIfInBounds_toArray, List.set_cons_zero, List.set_cons_succ]
    refine wpAnyH_take (i := 11) (oi := { dst := some 6, op := _, type := _, pos := _, after := _, guard := _ }) (v := ?_) rfl (by kernel_rfl) (by kernel_rfl) (by kernel_rfl) (fun _ _ _ h => h) (Or.inl ⟨by rfl, ?_⟩) hH ?_
    rotate_left
    · intro wz hSw
      (try dsimp only at hSw)
      first | (go_simp; done) | (go_simp; with_reducible rfl)
    try simp only [Act.put, List.setIfInBounds_toArray, List.set_cons_zero, List.set_cons_succ]
    refine wpAnyH_done (by kernel_rfl) ?_ _
    refine NoPanic.normal ?_
    have e1 : ((l.take k ++ [(⟨ra, rn, ri, rp, rk, rt⟩ : Rl)]) ++ l.drop k) = l.take k ++ (⟨ra, rn, ri, rp, rk, rt⟩ : Rl) :: l.drop k := by simp
    have own5 := own_base (own_n (n' := m + 1) own4 (by omega) (congrArg (flatW (fun x => (fR x).map (Value.int .i64))) e1)) hbw.size
    have hb5 := below_step hbw hb4
    clear own4 own3 hg4 hp4 HS HL6 HLL HD HK R R2 RD RY
    go_wp2_with fail
    all_goals (go_ret; exact ⟨_, rfl, own5, hb5⟩)
theorem kept_grownV {Bx : Nat} {yt : Int} {yx : Option Addr} {yn yc : Nat} {W w' w2 : World} (hlt : Bx < W.heap.size) (h : Below W.heap.size W w' ∧ w'.cell? ⟨Bx, 0, none⟩ = some (.int .i64 yt) ∧ w'.cell? ⟨Bx, 1, none⟩ = some (.slice yx yn yc)) (hb : Below w'.heap.size w' w2) : Below W.heap.size W w2 ∧ w2.cell? ⟨Bx, 0, none⟩ = some (.int .i64 yt) ∧ w2.cell? ⟨Bx, 1, none⟩ = some (.slice yx yn yc) := by
  obtain ⟨h0, c0, c1⟩ := h
  exact ⟨below_step h0 hb, (hb.cell (p := ⟨Bx, 0, none⟩) (Nat.lt_of_lt_of_le hlt h0.size)).trans c0, (hb.cell (p := ⟨Bx, 1, none⟩) (Nat.lt_of_lt_of_le hlt h0.size)).trans c1⟩
theorem kept2_grownV {Bx : Nat} {yt : Int} {yx : Option Addr} {yn yc : Nat} {W w2 : World} (hlt : Bx < W.heap.size) (h : Below W.heap.size W W ∧ W.cell? ⟨Bx, 0, none⟩ = some (.int .i64 yt) ∧ W.cell? ⟨Bx, 1, none⟩ = some (.slice yx yn yc)) (hb : Below W.heap.size W w2) : Below W.heap.size W w2 ∧ w2.cell? ⟨Bx, 0, none⟩ = some (.int .i64 yt) ∧ w2.cell? ⟨Bx, 1, none⟩ = some (.slice yx yn yc) := kept_grownV hlt h hb
set_option maxRecDepth 100000 in
set_option maxHeartbeats 4000000 in
theorem grownV_any (w : World) {a : Option Addr} {c : Nat} {l : List Vc} (R : Rdv fV 2 w a c l) {m : Nat} (hm : l.length = m) (hl : m ≤ 1000) {k : Nat} (hk : k ≤ m) (yt : Int) (yx : Option Addr) (yn yc : Nat) :
    Calls Try.prog 35 #[.slice a m c, .int .i64 ((k : Nat) : Int), .agg #[.int .i64 yt, .slice yx yn yc]] w fun e w' => ∃ u, e = .returned u ∧ w'.ownsRow w.heap.size 47 2 u (m + 1) (flatW fV (l.take k ++ (⟨yt, yx, yn, yc⟩ : Vc) :: l.drop k)) ∧ Below w.heap.size w w' := by
  have hbw := below_new w (.cells #[.int .i64 yt, .slice yx yn yc] 47)
  have hX0 : Below (w.alloc (.cells #[.int .i64 yt, .slice yx yn yc] 47)).heap.size (w.alloc (.cells #[.int .i64 yt, .slice yx yn yc] 47)) (w.alloc (.cells #[.int .i64 yt, .slice yx yn yc] 47)) ∧ (w.alloc (.cells #[.int .i64 yt, .slice yx yn yc] 47)).cell? ⟨w.heap.size, 0, none⟩ = some (.int .i64 yt) ∧ (w.alloc (.cells #[.int .i64 yt, .slice yx yn yc] 47)).cell? ⟨w.heap.size, 1, none⟩ = some (.slice yx yn yc) := by
    refine ⟨Below.refl _ _, ?_, ?_⟩
    all_goals exact new_cellT w _ _ rfl _ _ rfl
  have hBx : w.heap.size < (w.alloc (.cells #[.int .i64 yt, .slice yx yn yc] 47)).heap.size := by simp
  have R2 := (R).later hbw
  have hkc : k ≤ c := by have := R2.le; omega
  have HK : Hid ((l.take k).length = k) := by show _ = _; rw [List.length_take]; omega
  have HD : Hid ((l.drop k).length = m - k) := by show _ = _; rw [List.length_drop, hm]
  have HL6 : Hid (k + 1 ≤ 1000000) := by show _ ≤ _; omega
  have HLL : Hid (k + 1 + (m - k) ≤ 1000000) := by show _ ≤ _; omega
  have HS : Hid (k + 1 + (m - k) = m + 1) := by show _ = _; omega
  cases a with
  | none =>
    have hc := R2.nil rfl
    have RD : Hid (Rdv fV 2 (w.alloc (.cells #[.int .i64 yt, .slice yx yn yc] 47)) none 0 (l.drop k)) := by
      have h0 : l = [] := List.eq_nil_of_length_eq_zero (by have := R2.le; omega)
      subst h0
      rw [List.drop_nil]
      exact Rdv.none _ _ _
    obtain rfl : k = 0 := by omega
    obtain rfl : m = 0 := by have := R2.le; omega
    subst hc
    go_enter Try.func35, Try.ntmps35
    go_wp2_with fail
    generalize w.alloc (.cells #[.int .i64 yt, .slice yx yn yc] 47) = W at hBx hX0 R2 RD hbw ⊢
    have S0 : Below W.heap.size W W.drew ∧ W.drew.cell? ⟨w.heap.size, 0, none⟩ = some (.int .i64 yt) ∧ W.drew.cell? ⟨w.heap.size, 1, none⟩ = some (.slice yx yn yc) := ⟨(Below.refl _ _).drew, hX0.2⟩
    refine wp_region_noPanic ?_
    refine wp_region_held_drew (S := fun w' => Below W.heap.size W w' ∧ w'.cell? ⟨w.heap.size, 0, none⟩ = some (.int .i64 yt) ∧ w'.cell? ⟨w.heap.size, 1, none⟩ = some (.slice yx yn yc)) (by kernel_rfl) S0 (fun hH => ?_)
    clear S0
    refine wpAnyH_take (i := 0) (oi := { dst := some 7, op := _, type := _, pos := _, after := _, guard := _ }) (v := ?_) rfl (by kernel_rfl) (by kernel_rfl) (by kernel_rfl) (fun _ _ _ h => h) (Or.inl ⟨by rfl, ?_⟩) hH ?_
    rotate_left
    · intro wz hSw
      (try dsimp only at hSw)
      first | (go_simp; done) | (go_simp; with_reducible rfl)
    try simp only [Act.put, List.setIfInBounds_toArray, List.set_cons_zero, List.set_cons_succ]
    refine wpAnyH_take (i := 1) (oi := { dst := some 8, op := _, type := _, pos := _, after := _, guard := _ }) (v := ?_) rfl (by kernel_rfl) (by kernel_rfl) (by kernel_rfl) (fun _ _ _ h => h) (Or.inl ⟨by rfl, ?_⟩) hH ?_
    rotate_left
    · intro wz hSw
      (try dsimp only at hSw)
      first | (go_simp; done) | (go_simp; with_reducible rfl)
    try simp only [Act.put, List.setIfInBounds_toArray, List.set_cons_zero, List.set_cons_succ]
    refine wpAnyH_take (i := 2) (oi := { dst := some 9, op := _, type := _, pos := _, after := _, guard := _ }) (v := ?_) rfl (by kernel_rfl) (by kernel_rfl) (by kernel_rfl) (fun _ _ _ h => h) (Or.inl ⟨by rfl, ?_⟩) hH ?_
    rotate_left
    · intro wz hSw
      (try dsimp only at hSw)
      first | (go_simp; done) | (go_simp; with_reducible rfl)
    try simp only [Act.put, List.setIfInBounds_toArray, List.set_cons_zero, List.set_cons_succ]
    refine wpAnyH_take (i := 3) (oi := { dst := some 10, op := _, type := _, pos := _, after := _, guard := _ }) (v := ?_) rfl (by kernel_rfl) (by kernel_rfl) (by kernel_rfl) (fun _ _ _ h => h) (Or.inl ⟨by rfl, ?_⟩) hH ?_
    rotate_left
    · intro wz hSw
      (try dsimp only at hSw)
      first | (go_simp; done) | (go_simp; with_reducible rfl)
    try simp only [Act.put, List.setIfInBounds_toArray, List.set_cons_zero, List.set_cons_succ]
    refine wpAnyH_take (i := 4) (oi := { dst := some 11, op := _, type := _, pos := _, after := _, guard := _ }) (v := ?_) rfl (by kernel_rfl) (by kernel_rfl) (by kernel_rfl) (fun _ _ _ h => h) (Or.inl ⟨by rfl, ?_⟩) hH ?_
    rotate_left
    · intro wz hSw
      (try dsimp only at hSw)
      obtain ⟨-, z0, z1⟩ := hSw
      first | (go_simp; done) | (go_simp; with_reducible rfl)
    try simp only [Act.put, List.setIfInBounds_toArray, List.set_cons_zero, List.set_cons_succ]
    refine wpAnyH_take (i := 7) (oi := { dst := some 14, op := _, type := _, pos := _, after := _, guard := _ }) (v := ?_) rfl (by kernel_rfl) (by kernel_rfl) (by kernel_rfl) (fun _ _ _ h => h) (Or.inl ⟨by rfl, ?_⟩) hH ?_
    rotate_left
    · intro wz hSw
      (try dsimp only at hSw)
      first | (go_simp; done) | (go_simp; with_reducible rfl)
    try simp only [Act.put, List.setIfInBounds_toArray, List.set_cons_zero, List.set_cons_succ]
    refine wpAnyH_take (i := 8) (oi := { dst := some 15, op := _, type := _, pos := _, after := _, guard := _ }) (v := ?_) rfl (by kernel_rfl) (by kernel_rfl) (by kernel_rfl) (fun _ _ _ h => h) (Or.inl ⟨by rfl, ?_⟩) hH ?_
    rotate_left
    · intro wz hSw
      (try dsimp only at hSw)
      first | (go_simp; done) | (go_simp; with_reducible rfl)
    try simp only [Act.put, List.setIfInBounds_toArray, List.set_cons_zero, List.set_cons_succ]
    refine wpAnyH_take (i := 9) (oi := { dst := some 16, op := _, type := _, pos := _, after := _, guard := _ }) (v := ?_) rfl (by kernel_rfl) (by kernel_rfl) (by kernel_rfl) (fun _ _ _ h => h) (Or.inl ⟨by rfl, ?_⟩) hH ?_
    rotate_left
    · intro wz hSw
      (try dsimp only at hSw)
      first | (go_simp; done) | (go_simp; with_reducible rfl)
    try simp only [Act.put, List.setIfInBounds_toArray, List.set_cons_zero, List.set_cons_succ]
    refine wpAnyH_ready (rs := [5]) (by kernel_rfl) (by simp) ?_
    refine AllReadyH.cons (o := { dst := some 12, op := _, type := _, pos := _, after := _, guard := _ }) rfl (fun K hK => ?_) AllReadyH.nil
    go_simp
    have hn : Below W.drew.heap.size W.drew (W.alloc (.cells #[.int .i64 yt, .slice yx yn yc] 47)).drew := below_new W.drew (.cells #[.int .i64 yt, .slice yx yn yc] 47)
    have RY : Rdv fV 2 (W.alloc (.cells #[.int .i64 yt, .slice yx yn yc] 47)).drew (some ⟨W.heap.size, 0, none⟩) 1 [(⟨yt, yx, yn, yc⟩ : Vc)] := rdv_new (f := fV) fV_len W.drew (⟨yt, yx, yn, yc⟩ : Vc) 47 rfl
    generalize (W.alloc (.cells #[.int .i64 yt, .slice yx yn yc] 47)).drew = W1 at hn RY ⊢
    refine hK.out _ _ (kept_grownV hBx hH hn) (fun hH2 => ?_)
    clear hK K hH
    have hH := hH2
    clear hH2
    try simp only [Act.put, List.setIfInBounds_toArray, List.set_cons_zero, List.set_cons_succ]
    refine wpAnyH_ready (rs := [6]) (by kernel_rfl) (by simp) ?_
    refine AllReadyH.cons (o := { dst := some 13, op := _, type := _, pos := _, after := _, guard := _ }) rfl (fun K hK => ?_) AllReadyH.nil
    have hbX := hH.1
    refine stepRdv_cut fV_len fV_one (by decide) (by rfl) (.tmp 10) (.tmp 12) 22 (by rfl) 47 32 _ Try.underlying22 infoV9 rfl (by rfl) ((R2.later hbX).take 0) HK.out (by rfl) RY HL6.out (by decide) ?_
    intro v3 w3 own3 hb3
    refine hK.out _ _ (kept_grownV hBx hH hb3) (fun hH2 => ?_)
    clear hK K hH
    have hH := hH2
    clear hH2
    try simp only [Act.put, List.setIfInBounds_toArray, List.set_cons_zero, List.set_cons_succ]
    refine wpAnyH_ready (rs := [10]) (by kernel_rfl) (by simp) ?_
    refine AllReadyH.cons (o := { dst := some 17, op := _, type := _, pos := _, after := _, guard := _ }) rfl (fun K hK => ?_) AllReadyH.nil
    have hbY := hH.1
    refine stepRdv_join fV_len fV_one (by decide) (by rfl) (.tmp 13) (.tmp 16) 22 (by rfl) W.heap.size 47 32 _ Try.underlying22 infoV9 rfl (by rfl) (own_base own3 hbX.size) (by rfl) ((RD.out).later hbY) HD.out HLL.out (by decide) hbY.size ?_
    intro v4 w4 own4 hg4 hp4
    have hb4 : Below W.heap.size W w4 := below_growW hbY (own_base own3 hbX.size) hg4 hbY.size
    refine hK.out _ _ (kept2_grownV hBx hX0 hb4) (fun hH2 => ?_)
    clear hK K hH
    have hH := hH2
    clear hH2
    try simp only [Act.put, List.setIfInBounds_toArray, List.set_cons_zero, List.set_cons_succ]
    refine wpAnyH_take (i := 11) (oi := { dst := some 6, op := _, type := _, pos := _, after := _, guard := _ }) (v := ?_) rfl (by kernel_rfl) (by kernel_rfl) (by kernel_rfl) (fun _ _ _ h => h) (Or.inl ⟨by rfl, ?_⟩) hH ?_
    rotate_left
    · intro wz hSw
      (try dsimp only at hSw)
      first | (go_simp; done) | (go_simp; with_reducible rfl)
    try simp only [Act.put, List.setIfInBounds_toArray, List.set_cons_zero, List.set_cons_succ]
    refine wpAnyH_done (by kernel_rfl) ?_ _
    refine NoPanic.normal ?_
    have e1 : ((l.take 0 ++ [(⟨yt, yx, yn, yc⟩ : Vc)]) ++ l.drop 0) = l.take 0 ++ (⟨yt, yx, yn, yc⟩ : Vc) :: l.drop 0 := by simp
    have own5 := own_base (own_n (n' := 0 + 1) own4 (by omega) (congrArg (flatW fV) e1)) hbw.size
    have hb5 := below_step hbw hb4
    clear own4 own3 hg4 hp4 HS HL6 HLL HD HK R R2 RD RY
    go_wp2_with fail
    all_goals (go_ret; exact ⟨_, rfl, own5, hb5⟩)
  | some x0 =>
    have RD : Hid (Rdv fV 2 (w.alloc (.cells #[.int .i64 yt, .slice yx yn yc] 47)) (if c = k then some x0 else some (x0.add (k * 2))) (c - k) (l.drop k)) := R2.drop k (by omega)
    go_enter Try.func35, Try.ntmps35
    go_wp2_with fail
    generalize w.alloc (.cells #[.int .i64 yt, .slice yx yn yc] 47) = W at hBx hX0 R2 RD hbw ⊢
    have S0 : Below W.heap.size W W.drew ∧ W.drew.cell? ⟨w.heap.size, 0, none⟩ = some (.int .i64 yt) ∧ W.drew.cell? ⟨w.heap.size, 1, none⟩ = some (.slice yx yn yc) := ⟨(Below.refl _ _).drew, hX0.2⟩
    refine wp_region_noPanic ?_
    refine wp_region_held_drew (S := fun w' => Below W.heap.size W w' ∧ w'.cell? ⟨w.heap.size, 0, none⟩ = some (.int .i64 yt) ∧ w'.cell? ⟨w.heap.size, 1, none⟩ = some (.slice yx yn yc)) (by kernel_rfl) S0 (fun hH => ?_)
    clear S0
    refine wpAnyH_take (i := 0) (oi := { dst := some 7, op := _, type := _, pos := _, after := _, guard := _ }) (v := ?_) rfl (by kernel_rfl) (by kernel_rfl) (by kernel_rfl) (fun _ _ _ h => h) (Or.inl ⟨by rfl, ?_⟩) hH ?_
    rotate_left
    · intro wz hSw
      (try dsimp only at hSw)
      first | (go_simp; done) | (go_simp; with_reducible rfl)
    try simp only [Act.put, List.setIfInBounds_toArray, List.set_cons_zero, List.set_cons_succ]
    refine wpAnyH_take (i := 1) (oi := { dst := some 8, op := _, type := _, pos := _, after := _, guard := _ }) (v := ?_) rfl (by kernel_rfl) (by kernel_rfl) (by kernel_rfl) (fun _ _ _ h => h) (Or.inl ⟨by rfl, ?_⟩) hH ?_
    rotate_left
    · intro wz hSw
      (try dsimp only at hSw)
      first | (go_simp; done) | (go_simp; with_reducible rfl)
    try simp only [Act.put, List.setIfInBounds_toArray, List.set_cons_zero, List.set_cons_succ]
    refine wpAnyH_take (i := 2) (oi := { dst := some 9, op := _, type := _, pos := _, after := _, guard := _ }) (v := ?_) rfl (by kernel_rfl) (by kernel_rfl) (by kernel_rfl) (fun _ _ _ h => h) (Or.inl ⟨by rfl, ?_⟩) hH ?_
    rotate_left
    · intro wz hSw
      (try dsimp only at hSw)
      first | (go_simp; done) | (go_simp; with_reducible rfl)
    try simp only [Act.put, List.setIfInBounds_toArray, List.set_cons_zero, List.set_cons_succ]
    refine wpAnyH_take (i := 3) (oi := { dst := some 10, op := _, type := _, pos := _, after := _, guard := _ }) (v := ?_) rfl (by kernel_rfl) (by kernel_rfl) (by kernel_rfl) (fun _ _ _ h => h) (Or.inl ⟨by rfl, ?_⟩) hH ?_
    rotate_left
    · intro wz hSw
      (try dsimp only at hSw)
      first | (go_simp; done) | (go_simp; with_reducible rfl)
    try simp only [Act.put, List.setIfInBounds_toArray, List.set_cons_zero, List.set_cons_succ]
    refine wpAnyH_take (i := 4) (oi := { dst := some 11, op := _, type := _, pos := _, after := _, guard := _ }) (v := ?_) rfl (by kernel_rfl) (by kernel_rfl) (by kernel_rfl) (fun _ _ _ h => h) (Or.inl ⟨by rfl, ?_⟩) hH ?_
    rotate_left
    · intro wz hSw
      (try dsimp only at hSw)
      obtain ⟨-, z0, z1⟩ := hSw
      first | (go_simp; done) | (go_simp; with_reducible rfl)
    try simp only [Act.put, List.setIfInBounds_toArray, List.set_cons_zero, List.set_cons_succ]
    refine wpAnyH_take (i := 7) (oi := { dst := some 14, op := _, type := _, pos := _, after := _, guard := _ }) (v := ?_) rfl (by kernel_rfl) (by kernel_rfl) (by kernel_rfl) (fun _ _ _ h => h) (Or.inl ⟨by rfl, ?_⟩) hH ?_
    rotate_left
    · intro wz hSw
      (try dsimp only at hSw)
      first | (go_simp; done) | (go_simp; with_reducible rfl)
    try simp only [Act.put, List.setIfInBounds_toArray, List.set_cons_zero, List.set_cons_succ]
    refine wpAnyH_take (i := 8) (oi := { dst := some 15, op := _, type := _, pos := _, after := _, guard := _ }) (v := ?_) rfl (by kernel_rfl) (by kernel_rfl) (by kernel_rfl) (fun _ _ _ h => h) (Or.inl ⟨by rfl, ?_⟩) hH ?_
    rotate_left
    · intro wz hSw
      (try dsimp only at hSw)
      first | (go_simp; done) | (go_simp; with_reducible rfl)
    try simp only [Act.put, List.setIfInBounds_toArray, List.set_cons_zero, List.set_cons_succ]
    refine wpAnyH_take (i := 9) (oi := { dst := some 16, op := _, type := _, pos := _, after := _, guard := _ }) (v := ?_) rfl (by kernel_rfl) (by kernel_rfl) (by kernel_rfl) (fun _ _ _ h => h) (Or.inl ⟨by rfl, ?_⟩) hH ?_
    rotate_left
    · intro wz hSw
      (try dsimp only at hSw)
      first | (go_simp; done) | (go_simp; with_reducible rfl)
    try simp only [Act.put, List.setIfInBounds_toArray, List.set_cons_zero, List.set_cons_succ]
    refine wpAnyH_ready (rs := [5]) (by kernel_rfl) (by simp) ?_
    refine AllReadyH.cons (o := { dst := some 12, op := _, type := _, pos := _, after := _, guard := _ }) rfl (fun K hK => ?_) AllReadyH.nil
    go_simp
    have hn : Below W.drew.heap.size W.drew (W.alloc (.cells #[.int .i64 yt, .slice yx yn yc] 47)).drew := below_new W.drew (.cells #[.int .i64 yt, .slice yx yn yc] 47)
    have RY : Rdv fV 2 (W.alloc (.cells #[.int .i64 yt, .slice yx yn yc] 47)).drew (some ⟨W.heap.size, 0, none⟩) 1 [(⟨yt, yx, yn, yc⟩ : Vc)] := rdv_new (f := fV) fV_len W.drew (⟨yt, yx, yn, yc⟩ : Vc) 47 rfl
    generalize (W.alloc (.cells #[.int .i64 yt, .slice yx yn yc] 47)).drew = W1 at hn RY ⊢
    refine hK.out _ _ (kept_grownV hBx hH hn) (fun hH2 => ?_)
    clear hK K hH
    have hH := hH2
    clear hH2
    try simp only [Act.put, List.setIfInBounds_toArray, List.set_cons_zero, List.set_cons_succ]
    refine wpAnyH_ready (rs := [6]) (by kernel_rfl) (by simp) ?_
    refine AllReadyH.cons (o := { dst := some 13, op := _, type := _, pos := _, after := _, guard := _ }) rfl (fun K hK => ?_) AllReadyH.nil
    have hbX := hH.1
    refine stepRdv_cut fV_len fV_one (by decide) (by rfl) (.tmp 10) (.tmp 12) 22 (by rfl) 47 32 _ Try.underlying22 infoV9 rfl (by rfl) ((R2.later hbX).take k) HK.out (by rfl) RY HL6.out (by decide) ?_
    intro v3 w3 own3 hb3
    refine hK.out _ _ (kept_grownV hBx hH hb3) (fun hH2 => ?_)
    clear hK K hH
    have hH := hH2
    clear hH2
    try simp only [Act.put, List.setIfInBounds_toArray, List.set_cons_zero, List.set_cons_succ]
    refine wpAnyH_ready (rs := [10]) (by kernel_rfl) (by simp) ?_
    refine AllReadyH.cons (o := { dst := some 17, op := _, type := _, pos := _, after := _, guard := _ }) rfl (fun K hK => ?_) AllReadyH.nil
    have hbY := hH.1
    refine stepRdv_join fV_len fV_one (by decide) (by rfl) (.tmp 13) (.tmp 16) 22 (by rfl) W.heap.size 47 32 _ Try.underlying22 infoV9 rfl (by rfl) (own_base own3 hbX.size) (by rfl) ((RD.out).later hbY) HD.out HLL.out (by decide) hbY.size ?_
    intro v4 w4 own4 hg4 hp4
    have hb4 : Below W.heap.size W w4 := below_growW hbY (own_base own3 hbX.size) hg4 hbY.size
    refine hK.out _ _ (kept2_grownV hBx hX0 hb4) (fun hH2 => ?_)
    clear hK K hH
    have hH := hH2
    clear hH2
    try simp only [Act.put, List.setIfInBounds_toArray, List.set_cons_zero, List.set_cons_succ]
    refine wpAnyH_take (i := 11) (oi := { dst := some 6, op := _, type := _, pos := _, after := _, guard := _ }) (v := ?_) rfl (by kernel_rfl) (by kernel_rfl) (by kernel_rfl) (fun _ _ _ h => h) (Or.inl ⟨by rfl, ?_⟩) hH ?_
    rotate_left
    · intro wz hSw
      (try dsimp only at hSw)
      first | (go_simp; done) | (go_simp; with_reducible rfl)
    try simp only [Act.put, List.setIfInBounds_toArray, List.set_cons_zero, List.set_cons_succ]
    refine wpAnyH_done (by kernel_rfl) ?_ _
    refine NoPanic.normal ?_
    have e1 : ((l.take k ++ [(⟨yt, yx, yn, yc⟩ : Vc)]) ++ l.drop k) = l.take k ++ (⟨yt, yx, yn, yc⟩ : Vc) :: l.drop k := by simp
    have own5 := own_base (own_n (n' := m + 1) own4 (by omega) (congrArg (flatW fV) e1)) hbw.size
    have hb5 := below_step hbw hb4
    clear own4 own3 hg4 hp4 HS HL6 HLL HD HK R R2 RD RY
    go_wp2_with fail
    all_goals (go_ret; exact ⟨_, rfl, own5, hb5⟩)
end Go.Proofs.Ytlfnciiomfcjpaa
