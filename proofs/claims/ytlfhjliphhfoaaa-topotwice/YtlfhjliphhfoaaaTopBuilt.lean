/- Words for a topology that the call itself lays into a block, and whose links are then laid anew. -/
import Derived.Test.YtlfhjliphhfoaaaTopAwake
namespace Go.Proofs.Ytlfhjliphhfoaaa
open Go.ChangeShapes Go.WideShapes Go.ChangeAt Go.RowKit Go.Maps Tp
set_option linter.unusedVariables false
set_option linter.unusedSimpArgs false

/-- a topology lies in the block U, which may be written into -/
structure Tbox (w : World) (U : Nat) (s n : Int) (v : Value) : Prop where
  lt : U < w.heap.size
  c0 : w.cell? ⟨U, 0, none⟩ = some (.int .i64 s)
  c1 : w.cell? ⟨U, 1, none⟩ = some (.int .i64 n)
  c2 : w.cell? ⟨U, 2, none⟩ = some v
  fz : ∀ j, w.frozen? ⟨U, j, none⟩ = false
section
variable {w w' : World} {U : Nat} {s n : Int} {v : Value}
theorem Tbox.new (w : World) (s n : Int) (v : Value) (t : TypeId) : Tbox (w.alloc (.cells #[.int .i64 s, .int .i64 n, v] t)) w.heap.size s n v := by
  obtain ⟨h0, h1, h2⟩ := box3 w (.int .i64 s) (.int .i64 n) v t
  exact ⟨by simp, h0, h1, h2, fun j => by unfold World.frozen?; rw [heap_alloc_new]; simp⟩
theorem Tbox.later (X : Tbox w U s n v) (hb : Below w.heap.size w w') : Tbox w' U s n v :=
  ⟨Nat.lt_of_lt_of_le X.lt hb.size, (hb.cell (p := ⟨U, 0, none⟩) X.lt).trans X.c0, (hb.cell (p := ⟨U, 1, none⟩) X.lt).trans X.c1, (hb.cell (p := ⟨U, 2, none⟩) X.lt).trans X.c2, fun j => (hb.frozen (p := ⟨U, j, none⟩) X.lt).trans (X.fz j)⟩
theorem Tbox.put (X : Tbox w U s n v) (v2 : Value) : Tbox (w.setCell ⟨U, 2, none⟩ v2) U s n v2 :=
  ⟨by simp [X.lt], by rw [World.cell?_setCell_other w ⟨U, 2, none⟩ ⟨U, 0, none⟩ _ (by intro h; cases h)]; exact X.c0, by rw [World.cell?_setCell_other w ⟨U, 2, none⟩ ⟨U, 1, none⟩ _ (by intro h; cases h)]; exact X.c1,
    World.cell?_setCell_same' _ _ _ (by rw [X.c2]; rfl), fun j => by rw [World.frozen?_setCell]; exact X.fz j⟩
/-- the same behind what is changed in other blocks only, and what is new -/
theorem Tbox.under (X : Tbox w U s n v) {B : Nat} (hb : Below B w w') (h : U < B) : Tbox w' U s n v :=
  ⟨Nat.lt_of_lt_of_le X.lt hb.size, (hb.cell (p := ⟨U, 0, none⟩) h).trans X.c0, (hb.cell (p := ⟨U, 1, none⟩) h).trans X.c1, (hb.cell (p := ⟨U, 2, none⟩) h).trans X.c2, fun j => (hb.frozen (p := ⟨U, j, none⟩) h).trans (X.fz j)⟩
end
theorem rds_setCell {α : Type} {f : α → List Int} {sz : Nat} {w : World} {a : Option Addr} {c : Nat} {l : List α} (R : Rds f sz w a c l) {U j : Nat} (h : ∀ x, a = some x → x.block ≠ U) (v : Value) : Rds f sz (w.setCell ⟨U, j, none⟩ v) a c l :=
  R.kept ((Keeps.refl (only U) w).setCell (p := ⟨U, j, none⟩) (fun _ => rfl) v) (fun x e _ g => h x e g)
theorem rds_drop3 {α : Type} {f : α → List Int} {sz : Nat} {w : World} {x0 : Addr} {c : Nat} {l : List α} (h : Rds f sz w (some x0) c l) (n : Nat) (hn : n ≤ l.length) : Rds f sz w (if c = n then some x0 else some (x0.add (n * sz))) (c - n) (l.drop n) := by
  refine ⟨by have := h.le; simp; omega, by have := h.max; omega, fun x hx => h.wf x (List.mem_of_mem_drop hx), ?_, fun hne => ?_⟩
  · intro e; split at e <;> cases e
  · have hlt : n < l.length := by
      rcases Nat.lt_or_ge n l.length with h | h
      · exact h
      · exact absurd (List.drop_eq_nil_of_le h) hne
    rw [if_neg (by have := h.le; omega)]
    obtain ⟨b, o, e, hb, hc⟩ := h.cells (by intro h0; subst h0; simp at hlt)
    cases e
    refine ⟨b, o + n * sz, by simp [Addr.add_lit], hb, fun i x hx j y hy => ?_⟩
    rw [List.getElem?_drop] at hx
    have := hc (n + i) x hx j y hy
    rw [Nat.add_mul, ← Nat.add_assoc] at this
    exact this
theorem infoK : (Try.prog.info? 34).map (fun i => (i.zero, i.size, i.bytes)) = some (some (.agg #[.int .i64 0, .int .i64 0, .int .i64 0, .int .i64 0]), 4, 32) := by kernel_rfl
section
variable (s n : Int) (w : World) {a : Option Addr} {c k : Nat} {l : List Lk}
theorem may_at (R : Rds fK 4 w a c l) (hn : l.length = k) :
    Calls Try.prog 16 #[.agg #[.int .i64 s, .int .i64 n, .slice a k c]] w fun e w' => e = .returned (.bool (mayT s n l)) ∧ Below w.heap.size w w' := by
  subst hn; exact may_any s n w R
theorem edge_at (R : Rds fK 4 w a c l) (hn : l.length = k) (hl : l.length ≤ 100) (x y : Int) (hwe : We (x, y)) :
    Calls Try.prog 17 #[.agg #[.int .i64 s, .int .i64 n, .slice a k c], .int .i64 x, .int .i64 y] w fun e w' => e = .returned (.bool (edge s n l (x, y))) ∧ Below w.heap.size w w' := by
  subst hn; exact edge_any s n w R hl x y hwe
theorem far_at (R : Rds fK 4 w a c l) (hn : l.length = k) (hl : l.length ≤ 100) (x y : Int) (hwe : We (x, y)) :
    Calls Try.prog 12 #[.agg #[.int .i64 s, .int .i64 n, .slice a k c], .int .i64 x, .int .i64 y] w fun e w' => e = .returned (.tuple #[.int .i64 (other (far s n l (x, y))).1, .int .i64 (other (far s n l (x, y))).2, .bool (far s n l (x, y)).isSome]) ∧ Below w.heap.size w w' := by
  subst hn; exact far_any s n w R hl x y hwe
theorem edges_at (R : Rds fK 4 w a c l) (hn : l.length = k) (hl : l.length ≤ 100) :
    Calls Try.prog 14 #[.agg #[.int .i64 s, .int .i64 n, .slice a k c]] w fun e w' => ∃ x m, e = .returned (.slice x (edges s n l).length m) ∧ Below w.heap.size w w' := by
  subst hn; exact (edges_any s n w R hl).mono fun e w' ⟨x, m, h1, _, h2⟩ => ⟨x, m, h1, h2⟩
end
theorem own_setCellR {w : World} {base e n sz : Nat} {v : Value} {xs : List Value} (h : w.ownsRow base e sz v n xs) {U j : Nat} (hU : U < base) (u : Value) : (w.setCell ⟨U, j, none⟩ u).ownsRow base e sz v n xs := by
  refine ⟨h.1, ?_⟩
  rcases h.2 with h0 | ⟨g, cap, cur, hv, hbg, hg, rest⟩
  · exact .inl h0
  · exact .inr ⟨g, cap, cur, hv, hbg, by rw [RowKit.Below.heap_setCell _ _ _ _ (by show g ≠ U; omega)]; exact hg, rest⟩
/-- the links from the k-th on, turned -/
def turnK (l : List Lk) (k : Nat) : List Lk := (l.drop k).reverse.map Tp.flip
theorem turnK_end (l : List Lk) : turnK l l.length = [] := by simp [turnK]
theorem turnK_all (l : List Lk) : turnK l 0 = l.reverse.map Tp.flip := by simp [turnK]
theorem turnK_step {l : List Lk} {q : Nat} {x : Lk} (hx : l[q]? = some x) : turnK l q = turnK l (q + 1) ++ [Tp.flip x] := by
  obtain ⟨hq, rfl⟩ := List.getElem?_eq_some_iff.1 hx
  unfold turnK
  rw [List.drop_eq_getElem_cons hq, List.reverse_cons, List.map_append]
  rfl
theorem turnK_len (l : List Lk) (k : Nat) : (turnK l k).length = l.length - k := by simp [turnK]
theorem turnK_wf {l : List Lk} (h : ∀ x ∈ l, ∀ z ∈ fK x, (Lit.int .i64 z).wf = true) (k : Nat) : ∀ x ∈ turnK l k, ∀ z ∈ fK x, (Lit.int .i64 z).wf = true := by
  intro x hx z hz
  obtain ⟨y, hy, rfl⟩ := List.mem_map.1 hx
  have hw := h y (List.mem_of_mem_drop (List.mem_reverse.1 hy))
  simp only [fK, Tp.flip, List.mem_cons, List.not_mem_nil, or_false] at hz
  rcases hz with rfl | rfl | rfl | rfl <;> exact hw _ (by simp [fK])
theorem en_dec (a b c d : Int) : decide (((a, b) : En) = (c, d)) = (a == c && b == d) := by
  rw [Bool.eq_iff_iff]; simp
theorem ok_of_may {s n : Int} {l : List Lk} (hm : mayT s n l = true) : (((1 ≤ s ∧ s ≤ 6) ∧ 1 ≤ n) ∧ n ≤ 8) ∧ l.length ≤ 12 := by
  have h := ((mayT_iff s n l).1 hm).1
  simp only [okB, Bool.and_eq_true, decide_eq_true_eq] at h
  exact h
end Go.Proofs.Ytlfhjliphhfoaaa
