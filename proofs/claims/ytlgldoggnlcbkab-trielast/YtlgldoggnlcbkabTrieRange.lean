/- What the code's Walk answers: all that are told of, in a slice of its own. -/
import Derived.Test.YtlgldoggnlcbkabTrieIter
import Derived.RangeFuncBox
import Derived.Maps.AppendAt
namespace Go.Proofs.Ytlgldoggnlcbkab
open Go.ChangeShapes Go.WideShapes Go.ChangeAt Go.RowKit Go.Shelf Tt
set_option linter.unusedVariables false
set_option linter.unusedSimpArgs false
attribute [local go_sem] Oper.semAt_some

theorem Kp_t {n₀ : Nat} {X : Option Nat} {A B C : World} (h : Kp n₀ X A B) (h2 : Kp n₀ X B C) : Kp n₀ X A C := h.trans h2
/-- a block of cells that no store reaches -/
theorem block_own {W W' : World} {row : Option Nat} {k : Nat} {cs : Array Value} {e : TypeId} {z : Nat × Nat} (h : W.heap[k]? = some (.cells cs e z)) (hg : W.grownBy W' row) (hr : ∀ r, row = some r → ∃ o, W.heap[r]? = some o ∧ o.isCells = false) : W'.heap[k]? = some (.cells cs e z) := by
  refine (hg.block k (Array.getElem?_eq_some_iff.1 h).1 (fun e' => ?_)).trans h
  obtain ⟨o, ho, hc⟩ := hr k e'.symm
  rw [h] at ho; cases ho; cases hc
theorem nk_append {W w1 : World} {n₀ e size : Nat} {v : Value} {k : Nat} {xs : List Value} {tmp : Obj} (he : e ≠ 42) (hrow : W.ownsRow n₀ e size v k xs) (hgrow : (W.alloc tmp).grownBy w1 v.ownBlock) (X : Option Nat) : NK X W w1 := by
  intro j cs _ hj
  have h1 : (W.alloc tmp).heap[j]? = some (.cells cs 42 (0, 0)) := (Below.heap_alloc W _ j (Array.getElem?_eq_some_iff.1 hj).1).trans hj
  refine (hgrow.block j (Array.getElem?_eq_some_iff.1 h1).1 (fun e' => ?_)).trans h1
  rcases hrow.2 with ⟨rfl, _⟩ | ⟨g, cap, cur, rfl, _, hgb, _⟩
  · simp [Value.ownBlock] at e'
  · obtain rfl : j = g := by simpa [Value.ownBlock] using e'
    rw [hj] at hgb
    simp at hgb
    exact he hgb.2.symm
theorem nk_set {W : World} {b : Nat} {t : TypeId} {v : Value} (ht : t ≠ 42) (hb : Boxed W b t v) (u : Value) (X : Option Nat) : NK X W (W.setCell ⟨b, 0, none⟩ u) := by
  intro j cs _ hj
  refine (Below.heap_setCell _ _ _ j (fun e => ?_)).trans hj
  obtain rfl : j = b := e
  rw [show W.heap[j]? = _ from hb] at hj
  simp at hj
  exact ht hj.2
theorem NK.trans {X : Option Nat} {A B C : World} (h : NK X A B) (h2 : NK X B C) : NK X A C := fun k cs hk h0 => h2 k cs hk (h k cs hk h0)
theorem NK.refl (X : Option Nat) (A : World) : NK X A A := fun _ _ _ h => h
theorem told_hit (m : Mm) (pre : List Nat) {x : Nat} (h : m.told x = true) : toldOf m (pre ++ [x]) = toldOf m pre ++ [m.ent x] := by simp [toldOf, h]
theorem told_miss (m : Mm) (pre : List Nat) {x : Nat} (h : m.told x = false) : toldOf m (pre ++ [x]) = toldOf m pre := by simp [toldOf, h]
theorem told_len (m : Mm) (pre : List Nat) : (toldOf m pre).length ≤ pre.length := by unfold toldOf; rw [List.length_map]; exact List.length_filter_le _ _
theorem cells3 (W : World) (a b c : Value) (e : TypeId) : ∀ (j : Nat) (u : Value), [a, b, c][j]? = some u → (W.alloc (.cells #[a, b, c] e)).cell? ((⟨W.heap.size, 0, none⟩ : Addr).add j) = some u := fun j u hu =>
  World.news_of_block (heap_alloc_new W (.cells #[a, b, c] e)) j u (by simpa using hu)
set_option maxRecDepth 100000 in
set_option maxHeartbeats 2000000 in
theorem walk_any {w : World} {B : Nat} {m : Mm} {t : Tr} {ids : List Nat} (h : Has w B (cellOf m)) (ht : TreeAt m m.root t ids) (hlen : ids.length ≤ 1000) (hwf : ∀ x ∈ toldOf m ids, ∀ z ∈ fE x, (Lit.int .i64 z).wf = true) :
    Calls Try.prog 8 #[.pointer (some ⟨B, 0, none⟩)] w fun e w' => ∃ x c, e = .returned (.slice x (toldOf m ids).length c) ∧ (Rds fE 3 w' x c (toldOf m ids) ∧ ∀ y, x = some y → w.heap.size ≤ y.block) ∧ Below w.heap.size w w' := by
  refine (callsIn_wide (n := 4)).1 ?_
  obtain ⟨i0, hi, hz0, hz1, hz2⟩ := info_parts infoE
  have hro : Fence.wide.round = none := rfl
  have ca := fun W => callsIn_wide (n := 4 - 1) |>.2 (all_any B W)
  refine callsIn_of_wp_marks Try.func8 rfl trivial ?_ hro
  simp only [Try.ntmps8, List.size_toArray, List.length_cons, List.length_nil, Nat.reduceAdd, Nat.reduceSub, Array.replicate_succ, Array.replicate_zero, List.push_toArray, List.append_toArray, List.nil_append, List.cons_append]
  gi_wp2_with (refine ⟨trivial, ?_⟩; gi_at_call 17; refine (ca _).mono ?_; rintro e w' ⟨rfl, rfl⟩)
  have hlt := h.lt
  have bO := (Boxed.new w 22 (.slice none 0 0)).alloc (.cells #[.pointer (some ⟨B, 0, none⟩)] 29)
  have bN := Boxed.new (w.alloc (.cells #[.slice none 0 0] 22)) 29 (.pointer (some ⟨B, 0, none⟩))
  rw [World.size_alloc] at bN
  have hB0 : Below w.heap.size w ((w.alloc (.cells #[.slice none 0 0] 22)).alloc (.cells #[.pointer (some ⟨B, 0, none⟩)] 29)) := ((Below.refl _ w).alloc (Nat.le_refl _) _).alloc (by simp) _
  have hsz : ((w.alloc (.cells #[.slice none 0 0] 22)).alloc (.cells #[.pointer (some ⟨B, 0, none⟩)] 29)).heap.size = w.heap.size + 2 := by simp
  have h0 := h.later hB0
  obtain ⟨W0, hW0⟩ : ∃ W0, (w.alloc (.cells #[.slice none 0 0] 22)).alloc (.cells #[.pointer (some ⟨B, 0, none⟩)] 29) = W0 := ⟨_, rfl⟩
  rw [hW0] at bO bN hB0 hsz h0 ⊢
  clear hW0
  refine wpIn_rangeFunc_ownH hro (by decide) (gf := 24) (lb := #[.pointer (some ⟨w.heap.size + 1, 0, none⟩)]) rfl trivial (enters_of Try.func24 (by kernel_rfl) rfl)
    (all_stops (4 - 1) w.heap.size B (w.heap.size + 1) none m hlt ht W0 h0 (by omega) (fun b e => by cases e) (by omega) bN.cell) Kp_t (Kp_b (by omega)) (Below.refl _ _) (fun _ => rfl)
    (fun pre W => (∃ v, Boxed W w.heap.size 22 v ∧ W.ownsRow w.heap.size 26 3 v (toldOf m pre).length (flatV fE (toldOf m pre)) ∧ True) ∧ Below w.heap.size w W)
    (fun _ _ _ => False)
    (OwnFrom.and (Own.from (holdsRow_own w.heap.size w.heap.size 22 26 3 (fun pre => (toldOf m pre).length) (fun pre => flatV fE (toldOf m pre)) (fun pre v => True)) _) (ownFrom_below (Nat.le_refl _) (by omega)))
    (fun _ _ _ _ _ hs _ _ => hs)
    ⟨⟨_, bO, World.ownsRow_nil _ _ _ _, trivial⟩, hB0⟩
    (fun x a' W => ∃ Bx, w.heap.size < Bx ∧ W.heap[Bx]? = some (.cells (nodeCells m x) 42 (0, 0)) ∧ a' = { tmps := #[.pointer (some ⟨B, 0, none⟩), undef, .slice none 0 0, .pointer (some ⟨w.heap.size, 0, none⟩), .pointer (some ⟨Bx, 0, none⟩), .pointer (some ⟨B, 0, none⟩), .bool false, .pointer (some ⟨B, 0, none⟩), .func (.func 24) #[] #[.pointer (some ⟨w.heap.size + 1, 0, none⟩)], .agg (nodeCells m x), undef, undef, undef, undef, undef, undef, undef, undef], defers := [] })
    (fun x a' _ X Y row hs hg hr => by obtain ⟨Bx, h1, h2, h3⟩ := hs; exact ⟨Bx, h1, block_own h2 hg (fun r e => (hr r e).2), h3⟩)
    ?assign ?body ?done ?stop
  case assign =>
    rintro l pre x W K ⟨⟨v, hv, hrow, -⟩, hB⟩ hK
    dsimp only [nodeCells] at hK ⊢
    gi_wp2
    exact hK _ _ ((KeepsOthers.alloc _ _).from _) (Kp.of_below (below_new _ _) hB.size) ⟨⟨v, hv.alloc _, hrow.alloc _, trivial⟩, hB.alloc hB.size _⟩ ⟨W.heap.size, hv.lt, heap_alloc_new W _, rfl⟩
  case body =>
    rintro l pre x a' W hl ⟨r, hr⟩ ⟨⟨v, hv, hrow, -⟩, hB⟩ ⟨Bx, hBx, bX, rfl⟩ hpre
    obtain ⟨b0, b1, b2, b3, b4, b5⟩ := box_node bX
    have hc := hv.cell
    have hpl := told_len m pre
    have hsB := hB.size
    dsimp only [nodeCells]
    cases htd : m.told x with
    | true =>
      rw [htd] at b3
      gi_wp2_with (gi_at_builtin; refine wpListIn_append_own _ rfl _ _ 22 rfl w.heap.size 26 i0 _ 3 24 Try.underlying22 hi hz0 hz1 hz2 rfl (by decide) _ _ _ rfl (hrow.alloc _) ⟨W.heap.size, 0, none⟩ 1 1 [.int .i64 (m.a x), .int .i64 (m.n x), .int .i64 (m.v x)] rfl rfl (cells3 _ _ _ _ _) (by simp [Value.oneCell']) (by unfold maxLen; omega) (by omega) (by simp; omega) ?_; intro v' w1 hown' hgrow _; obtain ⟨g', cap', rfl⟩ := ownsRow_succ hown'; obtain ⟨hv1, hv2, hr2, hk2, hb2⟩ := hv.appended (by decide) hrow hB.size (Nat.le_refl _) hown' hgrow; have hc1 := hv1.cell; have hf1 := hv1.frozen)
      exact ⟨hk2.from _, ⟨hb2, (nk_append (by decide) hrow hgrow none).trans (nk_set (by decide) hv1 _ none)⟩, ⟨_, hv2, by rw [told_hit m pre htd, flatV_append, List.length_append]; exact hr2, trivial⟩, hB.trans hb2⟩
    | false =>
      rw [htd] at b3
      gi_wp2
      exact ⟨KeepsFrom.refl _ _, Kp.of_below (Below.refl _ _) hB.size, ⟨v, hv, by rw [told_miss m pre htd]; exact hrow, trivial⟩, hB⟩
  case done =>
    rintro D ys W hD rfl ⟨⟨v, hv, hrow, -⟩, hB⟩ hK
    have hc := hv.cell
    obtain ⟨x, c, rfl, R, hx⟩ := rds_of_owns2 fE_len (ownsRow_putObj hrow (.deferred none) hK rfl) rfl hwf
    gi_wp2
    refine ⟨by simp, .inl ⟨_, _, rfl, run_takeDeferred hK, ?_⟩⟩
    exact ⟨_, results_tmp rfl _ _ _, x, c, rfl, ⟨R, fun y e => (hx y e).1⟩, hB.trans (belowK_b (w := w) (Nat.le_refl _) W D _ _ (by omega) hK rfl rfl)⟩
  case stop =>
    rintro D c pre W _ _ h _
    exact h.elim
theorem walk_nil (w : World) : Calls Try.prog 8 #[.pointer none] w fun e w' => ∃ x c, e = .returned (.slice x 0 c) ∧ Below w.heap.size w w' := by
  go_enter Try.func8, Try.ntmps8
  go_wp2_with fail
  go_ret
  exact ⟨_, _, rfl, Below.refl _ _⟩
end Go.Proofs.Ytlgldoggnlcbkab
