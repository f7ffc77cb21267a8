/- What it means that a slice of structs of ints reads as a list, and how that stays so: came in, made by the call itself, appended to. -/
import Derived.Test.YtinmhjgnapbkmaaLies
import Derived.Deep.Slices
namespace Go.Proofs.Ytinmhjgnapbkmaa
open Go.ChangeShapes Go.WideShapes Go.ChangeAt Go.RowKit
set_option linter.unusedVariables false
set_option linter.unusedSimpArgs false

/-- the slice at address a with capacity c, as long as l, reads l, in the world w: f is how an element lies in its sz cells -/
structure Rds {α : Type} (f : α → List Int) (sz : Nat) (w : World) (a : Option Addr) (c : Nat) (l : List α) : Prop where
  le : l.length ≤ c
  max : c ≤ maxLen
  wf : ∀ x ∈ l, ∀ z ∈ f x, (Lit.int .i64 z).wf = true
  nil : a = none → c = 0
  cells : l ≠ [] → ∃ b o, a = some ⟨b, o, none⟩ ∧ b < w.heap.size ∧ ∀ i x, l[i]? = some x → ∀ j y, (f x)[j]? = some y → w.cell? ⟨b, o + i * sz + j, none⟩ = some (.int .i64 y)
section
variable {α : Type} {f : α → List Int} {sz : Nat} {w w' : World} {a : Option Addr} {c : Nat} {l : List α}
theorem Rds.later (h : Rds f sz w a c l) (hb : Below w.heap.size w w') : Rds f sz w' a c l :=
  ⟨h.le, h.max, h.wf, h.nil, fun hl => by
    obtain ⟨b, o, e, hlt, hc⟩ := h.cells hl
    exact ⟨b, o, e, Nat.lt_of_lt_of_le hlt hb.size, fun i x hi j y hy => (hb.cell (p := ⟨b, o + i * sz + j, none⟩) hlt).trans (hc i x hi j y hy)⟩⟩
theorem Rds.none (f : α → List Int) (sz : Nat) (w : World) : Rds f sz w none 0 [] := ⟨by simp, by simp [maxLen], by simp, fun _ => rfl, fun h => absurd rfl h⟩
/-- the cells, one behind the other -/
def flatV (f : α → List Int) (l : List α) : List Value := l.flatMap fun x => (f x).map (Value.int .i64)
theorem flatV_append (f : α → List Int) (l m : List α) : flatV f (l ++ m) = flatV f l ++ flatV f m := by simp [flatV]
theorem flatV_len (hf : ∀ x, (f x).length = sz) (l : List α) : (flatV f l).length = l.length * sz := by
  induction l with
  | nil => simp [flatV]
  | cons x l ih =>
    have e : flatV f (x :: l) = (f x).map (Value.int .i64) ++ flatV f l := rfl
    rw [e, List.length_append, ih, List.length_map, hf, List.length_cons, Nat.succ_mul]
    omega
theorem flatV_get (hf : ∀ x, (f x).length = sz) {l : List α} {i : Nat} {x : α} (hx : l[i]? = some x) {j : Nat} {y : Int} (hy : (f x)[j]? = some y) : (flatV f l)[i * sz + j]? = some (.int .i64 y) := by
  induction l generalizing i with
  | nil => simp at hx
  | cons z l ih =>
    have e : flatV f (z :: l) = (f z).map (Value.int .i64) ++ flatV f l := rfl
    rw [e]
    cases i with
    | zero =>
      obtain rfl : z = x := by simpa using hx
      have hj : j < (f z).length := (List.getElem?_eq_some_iff.1 hy).1
      rw [Nat.zero_mul, Nat.zero_add, List.getElem?_append_left (by simpa using hj), List.getElem?_map, hy]
      rfl
    | succ i =>
      have hj : j < (f x).length := (List.getElem?_eq_some_iff.1 hy).1
      rw [List.getElem?_append_right (by rw [List.length_map, hf, Nat.succ_mul]; omega), List.length_map, hf]
      have : (i + 1) * sz + j - sz = i * sz + j := by rw [Nat.succ_mul]; omega
      rw [this]
      exact ih (by simpa using hx)
theorem flatV_back (hf : ∀ x, (f x).length = sz) {l : List α} {k : Nat} {u : Value} (h : (flatV f l)[k]? = some u) : ∃ i x j y, l[i]? = some x ∧ (f x)[j]? = some y ∧ k = i * sz + j ∧ u = .int .i64 y := by
  induction l generalizing k with
  | nil => simp [flatV] at h
  | cons z l ih =>
    have e : flatV f (z :: l) = (f z).map (Value.int .i64) ++ flatV f l := rfl
    rw [e] at h
    by_cases hk : k < sz
    · rw [List.getElem?_append_left (by rw [List.length_map, hf]; exact hk), List.getElem?_map] at h
      obtain ⟨y, hy, rfl⟩ := Option.map_eq_some_iff.1 h
      exact ⟨0, z, k, y, rfl, hy, by omega, rfl⟩
    · rw [List.getElem?_append_right (by rw [List.length_map, hf]; omega), List.length_map, hf] at h
      obtain ⟨i, x, j, y, h1, h2, h3, h4⟩ := ih h
      exact ⟨i + 1, x, j, y, by simpa using h1, h2, by rw [Nat.succ_mul]; omega, h4⟩
theorem flatV_one (hf : ∀ x, (f x).length = sz) : ∀ u ∈ flatV f l, u.oneCell' = true := by
  intro u hu
  obtain ⟨k, hk⟩ := List.getElem?_of_mem hu
  obtain ⟨_, _, _, y, _, _, _, rfl⟩ := flatV_back hf hk
  rfl
/-- a slice that the call itself made reads what it owns -/
theorem rds_of_owns (hf : ∀ x, (f x).length = sz) {base e n : Nat} {v : Value} (h : w.ownsRow base e sz v n (flatV f l)) (hn : l.length = n) (hw : ∀ x ∈ l, ∀ z ∈ f x, (Lit.int .i64 z).wf = true) : ∃ a c, v = .slice a n c ∧ Rds f sz w a c l := by
  subst hn
  rcases h.2 with ⟨rfl, h0⟩ | ⟨g, cap, cur, rfl, hb, hg, hle, hmx, hsz, htk⟩
  · obtain rfl : l = [] := List.eq_nil_of_length_eq_zero h0
    exact ⟨_, _, rfl, Rds.none f sz w⟩
  · refine ⟨some ⟨g, 0, Option.none⟩, cap, rfl, ⟨hle, hmx, hw, fun h => (nomatch h), fun hne => ⟨g, 0, rfl, (Array.getElem?_eq_some_iff.1 hg).1, fun i x hx j y hy => ?_⟩⟩⟩
    have := h.cells (g := g) rfl (i * sz + j) (.int .i64 y) (flatV_get hf hx hy)
    rw [Addr.add_lit] at this
    rwa [Nat.zero_add] at this ⊢
theorem rds_of_owns2 (hf : ∀ x, (f x).length = sz) {base e n : Nat} {v : Value} (h : w.ownsRow base e sz v n (flatV f l)) (hn : l.length = n) (hw : ∀ x ∈ l, ∀ z ∈ f x, (Lit.int .i64 z).wf = true) : ∃ a c, v = .slice a n c ∧ Rds f sz w a c l ∧ ∀ x, a = some x → base ≤ x.block ∧ x.block < w.heap.size := by
  obtain ⟨a, c, rfl, R⟩ := rds_of_owns hf h hn hw
  refine ⟨a, c, rfl, R, fun x e => ?_⟩
  subst e
  exact h.lt x.block rfl
theorem cells_of_rds (hf : ∀ x, (f x).length = sz) {x : Addr} (h : Rds f sz w (some x) c l) : ∀ j u, (flatV f l)[j]? = some u → w.cell? (x.add j) = some u := by
  intro k u hu
  obtain ⟨i, z, j, y, h1, h2, rfl, rfl⟩ := flatV_back hf hu
  obtain ⟨b, o, e, _, hc⟩ := h.cells (by intro h0; subst h0; simp at h1)
  obtain rfl := Option.some.inj e
  rw [Addr.add_lit, ← Nat.add_assoc]
  exact hc i z h1 j y h2
/-- one element's cells -/
theorem Rds.at (h : Rds f sz w a c l) {i : Nat} {x : α} (hx : l[i]? = some x) : ∃ b o, a = some ⟨b, o, Option.none⟩ ∧ b < w.heap.size ∧ ∀ j y, (f x)[j]? = some y → w.cell? ⟨b, o + i * sz + j, Option.none⟩ = some (.int .i64 y) := by
  obtain ⟨b, o, e, hlt, hc⟩ := h.cells (by intro h0; subst h0; simp at hx)
  exact ⟨b, o, e, hlt, hc i x hx⟩
theorem Rds.take (h : Rds f sz w a c l) (n : Nat) : Rds f sz w a c (l.take n) := by
  refine ⟨by have := h.le; simp; omega, h.max, fun x hx => h.wf x (List.mem_of_mem_take hx), h.nil, fun hne => ?_⟩
  obtain ⟨b, o, e, hb, hc⟩ := h.cells (by intro h0; subst h0; simp at hne)
  refine ⟨b, o, e, hb, fun i x hx => hc i x ?_⟩
  rw [List.getElem?_take] at hx
  split at hx
  · exact hx
  · cases hx
theorem own_laterR {base e n : Nat} {v : Value} {xs : List Value} (h : w.ownsRow base e sz v n xs) (hb : Below w.heap.size w w') : w'.ownsRow base e sz v n xs := by
  refine ⟨h.1, ?_⟩
  rcases h.2 with h0 | ⟨g, cap, cur, hv, hbg, hg, rest⟩
  · exact .inl h0
  · exact .inr ⟨g, cap, cur, hv, hbg, (hb.block g (Array.getElem?_eq_some_iff.1 hg).1).trans hg, rest⟩
theorem below_growR {B : Nat} {w0 w w' : World} {e n : Nat} {v : Value} {xs : List Value} (hb : Below B w0 w) (hown : w.ownsRow B e sz v n xs) (hg : w.grownBy w' v.ownBlock) (hB : B ≤ w.heap.size) : Below B w0 w' :=
  hb.grown hg hB (fun k hk => (hown.lt k hk).1)
/-- what came in as an argument -/
theorem rds_of_trod {H : Type} {enc : TypeId × Value → H} {base : Nat} {spare : Nat → Bool} {t e : TypeId} {fuel : Nat} {a0 : Option Addr} {n0 c0 : Nat} {d : DataW H × List MemPlace} (ht : Try.prog.underlying t = some (.slice e)) (hce : Try.prog.cellsOf e = sz) (hs : ∀ b, spare b = true) (hpos : 0 < sz) (hf : ∀ x, (f x).length = sz)
    (elem : ∀ (n : Nat) (cs : List Value) (y : DataW H × List MemPlace), cs.length = sz → DataW.trod enc Try.prog w base spare true n e cs = some y → ∃ x : α, cs = (f x).map (Value.int .i64) ∧ ∀ z ∈ f x, (Lit.int .i64 z).wf = true)
    (h : DataW.trod enc Try.prog w base spare true fuel t [.slice a0 n0 c0] = some d) : ∃ l : List α, n0 = l.length ∧ Rds f sz w a0 c0 l := by
  rcases Go.Deep.open_slice ht h with ⟨h0, _⟩ | ⟨x, len, cap, m, n, D, Pl, hcs, hb, hl, hmx, hm, _, hx⟩
  · simp only [List.cons.injEq, Value.slice.injEq, and_true] at h0
    obtain ⟨rfl, rfl, rfl⟩ := h0
    exact ⟨[], rfl, Rds.none f sz w⟩
  · simp only [List.cons.injEq, Value.slice.injEq, and_true] at hcs
    obtain ⟨rfl, rfl, rfl⟩ := hcs
    rw [hs] at hm
    have each : ∀ i, i < n0 → ∃ x' : α, (∀ z ∈ f x', (Lit.int .i64 z).wf = true) ∧ ∀ j y, (f x')[j]? = some y → w.cell? (x.add (i * sz + j)) = some (.int .i64 y) := by
      intro i hi
      obtain ⟨cs', h1, h2⟩ := hx i (by simp at hm; omega)
      rw [hce] at h1
      obtain ⟨_, hlen, hcell⟩ := World.cells?_some h1
      obtain ⟨x', rfl, hw⟩ := elem n cs' _ hlen h2
      refine ⟨x', hw, fun j y hy => ?_⟩
      have hj : j < sz := by rw [← hf x']; exact (List.getElem?_eq_some_iff.1 hy).1
      have e0 := hcell j hj
      rw [Go.Deep.add_add] at e0
      rw [e0]
      simp [hy]
    rcases Nat.eq_zero_or_pos n0 with hz | hz
    · subst hz
      exact ⟨[], rfl, ⟨by simp, hmx, by simp, fun h => (nomatch h), fun h => absurd rfl h⟩⟩
    · obtain ⟨q, hq⟩ : ∃ q : Nat → α, ∀ i, i < n0 → (∀ z ∈ f (q i), (Lit.int .i64 z).wf = true) ∧ ∀ j y, (f (q i))[j]? = some y → w.cell? (x.add (i * sz + j)) = some (.int .i64 y) := by
        refine ⟨fun i => if h : i < n0 then (each i h).choose else (each 0 hz).choose, fun i hi => ?_⟩
        simp only [dif_pos hi]
        exact (each i hi).choose_spec
      refine ⟨(List.range n0).map q, by simp, ⟨by simpa using hl, hmx, fun x' hx' => ?_, fun h => (nomatch h), fun _ => ?_⟩⟩
      · obtain ⟨i, hi, rfl⟩ := List.mem_map.1 hx'
        exact (hq i (List.mem_range.1 hi)).1
      · obtain ⟨b, o, s⟩ := x
        obtain ⟨y, hy⟩ : ∃ y, (f (q 0))[0]? = some y := ⟨_, List.getElem?_eq_getElem (by rw [hf]; exact hpos)⟩
        have hc := (hq 0 hz).2 0 y hy
        have hs : s = Option.none := by simpa [Addr.add] using World.cell?_spot hc
        subst hs
        refine ⟨b, o, rfl, ?_, fun i x' hx' j y' hy' => ?_⟩
        · have := World.block_lt_of_cell? w _ hc; simpa [Addr.add] using this
        · have hi : i < n0 := by have := (List.getElem?_eq_some_iff.1 hx').1; simpa using this
          obtain rfl : q i = x' := by simpa [hi] using hx'
          have := (hq i hi).2 j y' hy'
          rw [Addr.add_lit, ← Nat.add_assoc] at this
          exact this
end
section
variable {α : Type} {f : α → List Int} {sz : Nat} {w : World} {ops : Array Oper} {rest : List Oper} {o : Oper} {a : Act} {Q : Exit → Act → World → Prop}
/-- 'append(s, x...)', s the call's own, x whatever reads l -/
theorem wpRds_join (hf : ∀ x, (f x).length = sz) (hpos : 0 < sz) (hgd : o.guard = none) (s x : Operand) (t : TypeId)
    (ho : o.op = .call { callee := .builtin .append, args := #[s, x], argTypes := #[t, t] })
    (B : Nat) (e : TypeId) (bytes : Nat) (z : Value) (ht : Try.prog.underlying t = some (.slice e)) (hinfo : (Try.prog.info? e).map (fun i => (i.zero, i.size, i.bytes)) = some (some z, sz, bytes)) (hz : z.cells.size = sz)
    {v : Value} {n : Nat} {ys : List α} (hs : a.eval s = v) (hown : w.ownsRow B e sz v n (flatV f ys))
    {ad : Option Addr} {m c : Nat} {l : List α} (hx : a.eval x = .slice ad m c) (R : Rds f sz w ad c l) (hm : l.length = m)
    (hb1 : n + m ≤ 1000000) (hb2 : bytes ≤ 1000) (hB : B ≤ w.heap.size)
    (h : ∀ v' w', w'.ownsRow B e sz v' (n + m) (flatV f (ys ++ l)) → w.grownBy w' v.ownBlock → wpList Try.prog ops Q rest (a.put o.dst v') w') : wpList Try.prog ops Q (o :: rest) a w := by
  obtain ⟨i0, hi, hz0, hz1, hz2⟩ := info_parts hinfo
  cases ad with
  | none =>
    have hc := R.nil rfl
    have hl : l = [] := List.eq_nil_of_length_eq_zero (by have := R.le; omega)
    subst hl
    simp at hm
    subst hm; subst hc
    refine wpList_append_own_none hgd s x t ho B e i0 sz ht hi v n _ hs hown hx ?_
    exact h v w (by simpa using hown) (World.grownBy.refl _ _)
  | some ad =>
    refine wpList_append_own _ hgd s x t ho B e i0 z sz bytes ht hi hz0 hz1 hz2 hz hpos v n _ hs hown ad m c (flatV f l) hx (by rw [flatV_len hf, hm]) (cells_of_rds hf R) (flatV_one hf) (by unfold maxLen; omega) ?_ hB ?_
    · have : (n + m) * bytes ≤ 1000000 * 1000 := Nat.mul_le_mul hb1 hb2
      omega
    · intro v' w' h1 h2 _
      rw [← flatV_append] at h1
      exact h v' w' h1 h2
/-- 'append(s, y)', s the call's own: y is laid in a block of its own first -/
theorem wpRds_one (hf : ∀ x, (f x).length = sz) (hpos : 0 < sz) (W : World) (y : α) (e : TypeId) (hW : w = W.alloc (.cells ((f y).map (Value.int .i64)).toArray e)) (hgd : o.guard = none) (s x : Operand) (t : TypeId)
    (ho : o.op = .call { callee := .builtin .append, args := #[s, x], argTypes := #[t, t] })
    (B : Nat) (bytes : Nat) (z : Value) (ht : Try.prog.underlying t = some (.slice e)) (hinfo : (Try.prog.info? e).map (fun i => (i.zero, i.size, i.bytes)) = some (some z, sz, bytes)) (hz : z.cells.size = sz)
    {v : Value} {n : Nat} {ys : List α} (hs : a.eval s = v) (hown : W.ownsRow B e sz v n (flatV f ys))
    (hx : a.eval x = .slice (some ⟨W.heap.size, 0, none⟩) 1 1)
    (hb1 : n + 1 ≤ 1000000) (hb2 : bytes ≤ 1000) (hB : B ≤ W.heap.size)
    (h : ∀ v' w', w'.ownsRow B e sz v' (n + 1) (flatV f (ys ++ [y])) → w.grownBy w' v.ownBlock → wpList Try.prog ops Q rest (a.put o.dst v') w') : wpList Try.prog ops Q (o :: rest) a w := by
  subst hW
  obtain ⟨i0, hi, hz0, hz1, hz2⟩ := info_parts hinfo
  have e1 : flatV f [y] = (f y).map (Value.int .i64) := by simp [flatV]
  refine wpList_append_own _ hgd s x t ho B e i0 z sz bytes ht hi hz0 hz1 hz2 hz hpos v n _ hs (hown.alloc _) _ 1 1 (flatV f [y]) hx (by rw [flatV_len hf]; simp) ?_ (flatV_one hf) (by unfold maxLen; omega) ?_ (by simp; omega) ?_
  · rw [e1]
    intro j u hu
    exact World.news_of_block (heap_alloc_new W (.cells ((f y).map (Value.int .i64)).toArray e)) j u (by simpa using hu)
  · have : (n + 1) * bytes ≤ 1000000 * 1000 := Nat.mul_le_mul hb1 hb2
    omega
  · intro v' w' h1 h2 _
    rw [← flatV_append] at h1
    exact h v' w' h1 h2
/-- the same at one step of a region that draws its order -/
theorem wpOp_join (hf : ∀ x, (f x).length = sz) (hpos : 0 < sz) {K : Act → World → Prop} (s x : Operand) (t : TypeId)
    (ho : o.op = .call { callee := .builtin .append, args := #[s, x], argTypes := #[t, t] })
    (B : Nat) (e : TypeId) (bytes : Nat) (z : Value) (ht : Try.prog.underlying t = some (.slice e)) (hinfo : (Try.prog.info? e).map (fun i => (i.zero, i.size, i.bytes)) = some (some z, sz, bytes)) (hz : z.cells.size = sz)
    {v : Value} {n : Nat} {ys : List α} (hs : a.eval s = v) (hown : w.ownsRow B e sz v n (flatV f ys))
    {ad : Option Addr} {m c : Nat} {l : List α} (hx : a.eval x = .slice ad m c) (R : Rds f sz w ad c l) (hm : l.length = m)
    (hb1 : n + m ≤ 1000000) (hb2 : bytes ≤ 1000) (hB : B ≤ w.heap.size)
    (h : ∀ v' w', w'.ownsRow B e sz v' (n + m) (flatV f (ys ++ l)) → w.grownBy w' v.ownBlock → K (a.put o.dst v') w') : o.wp Try.prog a w K Q := by
  obtain ⟨i0, hi, hz0, hz1, hz2⟩ := info_parts hinfo
  cases ad with
  | none =>
    have hc := R.nil rfl
    have hl : l = [] := List.eq_nil_of_length_eq_zero (by have := R.le; omega)
    subst hl
    simp at hm
    subst hm; subst hc
    have hrun := run_append_owned_none (P := Try.prog) (w := w) B t o.type e i0 sz ht hi v n _ hown
    unfold Oper.wp
    simp [execOp, ho, resolve, invoke, builtin, hs, hx, hrun, Result.andThen]
    exact h v w (by simpa using hown) (World.grownBy.refl _ _)
  | some ad =>
    refine wp_append_own _ s x t ho B e i0 z sz bytes ht hi hz0 hz1 hz2 hz hpos v n _ hs hown ad m c (flatV f l) hx (by rw [flatV_len hf, hm]) (cells_of_rds hf R) (flatV_one hf) (by unfold maxLen; omega) ?_ hB ?_
    · have : (n + m) * bytes ≤ 1000000 * 1000 := Nat.mul_le_mul hb1 hb2
      omega
    · intro v' w' h1 h2 _
      rw [← flatV_append] at h1
      exact h v' w' h1 h2
theorem stepRds_join (hf : ∀ x, (f x).length = sz) (hpos : 0 < sz) {K : Act → World → Prop} {E : Prop} (hgd : o.guard = none) (s x : Operand) (t : TypeId)
    (ho : o.op = .call { callee := .builtin .append, args := #[s, x], argTypes := #[t, t] })
    (B : Nat) (e : TypeId) (bytes : Nat) (z : Value) (ht : Try.prog.underlying t = some (.slice e)) (hinfo : (Try.prog.info? e).map (fun i => (i.zero, i.size, i.bytes)) = some (some z, sz, bytes)) (hz : z.cells.size = sz)
    {v : Value} {n : Nat} {ys : List α} (hs : a.eval s = v) (hown : w.ownsRow B e sz v n (flatV f ys))
    {ad : Option Addr} {m c : Nat} {l : List α} (hx : a.eval x = .slice ad m c) (R : Rds f sz w ad c l) (hm : l.length = m)
    (hb1 : n + m ≤ 1000000) (hb2 : bytes ≤ 1000) (hB : B ≤ w.heap.size)
    (h : ∀ v' w', w'.ownsRow B e sz v' (n + m) (flatV f (ys ++ l)) → w.grownBy w' v.ownBlock → K (a.put o.dst v') w') :
    if Region.wanted o (yielded ops a.tmps) = true then Oper.wp Try.prog o a w K Q else E := by
  have hw : Region.wanted o (yielded ops a.tmps) = true := by simp [Region.wanted, hgd]
  rw [if_pos hw]
  exact wpOp_join hf hpos s x t ho B e bytes z ht hinfo hz hs hown hx R hm hb1 hb2 hB h
/-- a slice of one element, just made -/
theorem rds_new (hf : ∀ x, (f x).length = sz) (W : World) (y : α) (e : TypeId) (hw : ∀ z ∈ f y, (Lit.int .i64 z).wf = true) {B : Nat} (hB : W.heap.size = B) : Rds f sz (W.alloc (.cells ((f y).map (Value.int .i64)).toArray e)) (some ⟨B, 0, none⟩) 1 [y] := by
  subst hB
  refine ⟨Nat.le_refl _, by unfold maxLen; omega, fun x hx => by rw [List.mem_singleton.1 hx]; exact hw, fun h => (nomatch h), fun _ => ⟨_, _, rfl, by simp, fun i x hx j u hu => ?_⟩⟩
  have hi : i = 0 := by have := (List.getElem?_eq_some_iff.1 hx).1; simp at this; exact this
  subst hi
  obtain rfl : y = x := by simpa using hx
  have := World.news_of_block (heap_alloc_new W (.cells ((f y).map (Value.int .i64)).toArray e)) j (.int .i64 u) (by simp [hu])
  rw [Addr.add_lit] at this
  simpa using this
end
end Go.Proofs.Ytinmhjgnapbkmaa
