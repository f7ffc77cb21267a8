/- Appending to a slice that the call itself made, in the words of 'Reads': laws for the walks of the claims on package octets. -/
import Derived.Test.YtihgpllbgliplaaOctWalks
namespace Go.Proofs.Ytihgpllbgliplaa
open Go.ChangeShapes Go.WideShapes Go.ChangeAt Go.RowKit O
set_option linter.unusedVariables false
set_option linter.unusedSimpArgs false

theorem info64 : (Try.prog.info? 3).map (fun i => (i.zero, i.size, i.bytes)) = some (some (.int .i64 0), 1, 8) := by kernel_rfl

section
variable {w : World} {ops : Array Oper} {rest : List Oper} {o : Oper} {a : Act} {Q : Exit → Act → World → Prop} {k : IntKind}
/-- 'append(s, x...)', s the call's own, x whatever reads l -/
theorem wpList_join (hgd : o.guard = none) (s x : Operand) (t : TypeId)
    (ho : o.op = .call { callee := .builtin .append, args := #[s, x], argTypes := #[t, t] })
    (B : Nat) (e : TypeId) (bytes : Nat) (ht : Try.prog.underlying t = some (.slice e)) (hinfo : (Try.prog.info? e).map (fun i => (i.zero, i.size, i.bytes)) = some (some (.int k 0), 1, bytes))
    {v : Value} {n : Nat} {ys : List Int} (hs : a.eval s = v) (hown : w.ownsRow B e 1 v n (ys.map (Value.int k)))
    {ad : Option Addr} {m c : Nat} {l : List Int} (hx : a.eval x = .slice ad m c) (R : Reads k w ad c l) (hm : l.length = m)
    (hb1 : n + m ≤ 1000000) (hb2 : bytes ≤ 8) (hB : B ≤ w.heap.size)
    (h : ∀ v' w', w'.ownsRow B e 1 v' (n + m) ((ys ++ l).map (Value.int k)) → w.grownBy w' v.ownBlock → wpList Try.prog ops Q rest (a.put o.dst v') w') : wpList Try.prog ops Q (o :: rest) a w := by
  obtain ⟨i0, hi, hz0, hz1, hz2⟩ := info_parts hinfo
  cases ad with
  | none =>
    have hc := R.nil rfl
    have hl : l = [] := List.eq_nil_of_length_eq_zero (by have := R.le; omega)
    subst hl
    simp at hm
    subst hm; subst hc
    refine wpList_append_own_none hgd s x t ho B e i0 1 ht hi v n _ hs hown hx ?_
    exact h v w (by simpa using hown) (World.grownBy.refl _ _)
  | some ad =>
    refine wpList_append_own _ hgd s x t ho B e i0 (.int k 0) 1 bytes ht hi hz0 hz1 hz2 rfl (by decide) v n _ hs hown ad m c (l.map (Value.int k)) hx (by simp [hm]) (cells_of_reads R) (ints_oneCell _ _) (by unfold maxLen; omega) ?_ hB ?_
    · have : (n + m) * bytes ≤ 1000000 * 8 := Nat.mul_le_mul hb1 hb2
      omega
    · intro v' w' h1 h2 _
      rw [← List.map_append] at h1
      exact h v' w' h1 h2
/-- 'append(s, z)', s the call's own: z is laid in a block of its own first -/
theorem wpList_one (W : World) (z : Int) (e : TypeId) (hW : w = W.alloc (.cells #[.int k z] e)) (hgd : o.guard = none) (s x : Operand) (t : TypeId)
    (ho : o.op = .call { callee := .builtin .append, args := #[s, x], argTypes := #[t, t] })
    (B : Nat) (bytes : Nat) (ht : Try.prog.underlying t = some (.slice e)) (hinfo : (Try.prog.info? e).map (fun i => (i.zero, i.size, i.bytes)) = some (some (.int k 0), 1, bytes))
    {v : Value} {n : Nat} {ys : List Int} (hs : a.eval s = v) (hown : W.ownsRow B e 1 v n (ys.map (Value.int k)))
    (hx : a.eval x = .slice (some ⟨W.heap.size, 0, none⟩) 1 1)
    (hb1 : n + 1 ≤ 1000000) (hb2 : bytes ≤ 8) (hB : B ≤ W.heap.size)
    (h : ∀ v' w', w'.ownsRow B e 1 v' (n + 1) ((ys ++ [z]).map (Value.int k)) → w.grownBy w' v.ownBlock → wpList Try.prog ops Q rest (a.put o.dst v') w') : wpList Try.prog ops Q (o :: rest) a w := by
  subst hW
  obtain ⟨i0, hi, hz0, hz1, hz2⟩ := info_parts hinfo
  refine wpList_append_own _ hgd s x t ho B e i0 (.int k 0) 1 bytes ht hi hz0 hz1 hz2 rfl (by decide) v n _ hs (hown.alloc _) _ 1 1 [.int k z] hx rfl (cell_one_new _ _ _) (ints_oneCell k [z]) (by unfold maxLen; omega) ?_ (by simp; omega) ?_
  · have : (n + 1) * bytes ≤ 1000000 * 8 := Nat.mul_le_mul hb1 hb2
    omega
  · intro v' w' h1 h2 _
    exact h v' w' (by rw [List.map_append]; exact h1) h2
end
theorem reads_own {k : IntKind} {w : World} {base e n c : Nat} {a : Option Addr} {l : List Int} (h : w.ownsRow base e 1 (.slice a n c) n (l.map (Value.int k))) (hw : ∀ z ∈ l, (Lit.int k z).wf = true) : Reads k w a c l ∧ l.length = n := by
  obtain ⟨a', c', e1, R, e2⟩ := reads_of_owns h hw
  simp only [Value.slice.injEq] at e1
  obtain ⟨rfl, _, rfl⟩ := e1
  exact ⟨R, e2.symm⟩
theorem own_cell {k : IntKind} {w : World} {base e n g cap p : Nat} {l : List Int} {x : Int} (h : w.ownsRow base e 1 (.slice (some ⟨g, 0, none⟩) n cap) n (l.map (Value.int k))) (hp : p < n) (hx : l[p]? = some x) : w.cell? ⟨g, p, none⟩ = some (.int k x) := by
  rw [h.cellAt p (by omega), List.getElem?_map, hx]; rfl
theorem own_turn {w : World} {base e n g cap i k : Nat} {l L : List Int} {x y u v : Int} (h : w.ownsRow base e 1 (.slice (some ⟨g, 0, none⟩) n cap) n (l.map (Value.int .u8))) (hL : L = (((l.set (2 * i) u).set (2 * i + 1) v).set (2 * k) x).set (2 * k + 1) y) :
    ((((w.setCell ⟨g, 2 * i, none⟩ (.int .u8 u)).setCell ⟨g, 2 * i + 1, none⟩ (.int .u8 v)).setCell ⟨g, 2 * k, none⟩ (.int .u8 x)).setCell ⟨g, 2 * k + 1, none⟩ (.int .u8 y)).ownsRow base e 1 (.slice (some ⟨g, 0, none⟩) n cap) n (L.map (Value.int .u8)) := by
  have := ((((h.stored (2 * i) (.int .u8 u)).1.stored (2 * i + 1) (.int .u8 v)).1.stored (2 * k) (.int .u8 x)).1.stored (2 * k + 1) (.int .u8 y)).1
  rw [← List.map_set, ← List.map_set, ← List.map_set, ← List.map_set, ← hL] at this
  exact this
theorem below_turn {B g : Nat} {w0 w : World} (i k : Nat) (u v x y : Int) (hb : Below B w0 w) (hg : B ≤ g) : Below B w0 ((((w.setCell ⟨g, 2 * i, none⟩ (.int .u8 u)).setCell ⟨g, 2 * i + 1, none⟩ (.int .u8 v)).setCell ⟨g, 2 * k, none⟩ (.int .u8 x)).setCell ⟨g, 2 * k + 1, none⟩ (.int .u8 y)) :=
  (((hb.setCell (p := ⟨g, 2 * i, none⟩) hg _).setCell (p := ⟨g, 2 * i + 1, none⟩) hg _).setCell (p := ⟨g, 2 * k, none⟩) hg _).setCell (p := ⟨g, 2 * k + 1, none⟩) hg _
theorem below_grow {B : Nat} {w0 w w' : World} {e n : Nat} {v : Value} {xs : List Value} (hb : Below B w0 w) (hown : w.ownsRow B e 1 v n xs) (hg : w.grownBy w' v.ownBlock) (hB : B ≤ w.heap.size) : Below B w0 w' :=
  hb.grown hg hB (fun k hk => (hown.lt k hk).1)
theorem below_fresh {B : Nat} {w w' : World} (hg : w.grownBy w' (Value.ownBlock (.slice none 0 0))) (hB : B ≤ w.heap.size) : Below B w w' :=
  (Below.refl B w).grown hg hB (fun k hk => by simp [Value.ownBlock] at hk)
theorem u8_wf {l : List Int} (h : Oct l) : ∀ z ∈ l, (Lit.int .u8 z).wf = true := fun z hz => wf_u8_mk (h z hz).1 (h z hz).2
end Go.Proofs.Ytihgpllbgliplaa
