/- A region that draws its order, only reads, and whose callees make memory of their own alone: walked once, in the order of the text; and what a row of numbers in a block is that a sort turns. -/
import Derived.Test.YtoedgnkoahcblaaRds
import Derived.Deep.QuietTactic
import Derived.Deep.LoopGhost
import Derived.Sort.LotA
import Derived.Shelf.Abstract
import Derived.Shelf.RegionOpenPlain
namespace Go.Proofs.Ytoedgnkoahcblaa
open Go.ChangeShapes Go.WideShapes Go.ChangeAt Go.RowKit
set_option linter.unusedVariables false
set_option linter.unusedSimpArgs false

/-- a world behind which all that was lies as it was -/
structure BW (w0 : World) where
  w : World
  hb : Below w0.heap.size w0 w
instance (w : World) : Inhabited (BW w) := ⟨⟨w, Below.refl _ _⟩⟩
theorem wp_region_below {P : Program} {id : Nat} {Q : Exit → Act → World → Prop} {a : Act} {w : World} {l : List Oper} (hm : P.follows .mixedOrders = true) (hB : Region.lexB .any l.toArray = true)
    (h : wpQuiet P l.toArray (fun w' => ∃ p : BW w, w' = p.w) (fun a' => ∀ w', (∃ p : BW w, w' = p.w) → Q .normal a' w') l a) : (Code.region id l.toArray true).wp P Q a w :=
  wp_region_quiet (C := fun w' => ∃ p : BW w, w' = p.w) hm hB ⟨⟨w.drew, (Below.refl _ _).drew⟩, rfl⟩ (by simpa using h)
theorem calls_bw {P : Program} {f : FuncId} {args : Array Value} {w : World} {p : BW w} {v : Value} (h : Calls P f args p.w fun e w' => e = .returned v ∧ Below p.w.heap.size p.w w') :
    Calls P f args p.w fun e w'' => e = .returned v ∧ ∃ q : BW w, w'' = q.w := h.mono fun _ w' ⟨he, hb⟩ => ⟨he, ⟨w', below_step p.hb hb⟩, rfl⟩
theorem cell_bw {w : World} {a : Addr} {v : Value} (hb : a.block < w.heap.size) (h : w.cell? a = some v) (p : BW w) : p.w.cell? a = some v := (p.hb.cell hb).trans h
def only (B : Nat) (k : Nat) : Prop := k = B
/-- the numbers d, each below n, lie in the block B, from its first cell on; behind w0 only that block is changed -/
structure Row {n : Nat} (w0 : World) (B : Nat) (d : Array (Fin (n + 1))) (w : World) : Prop where
  keep : Keeps (only B) w0 w
  lt : B < w0.heap.size
  cell : ∀ i, i < d.size → w.cell? ⟨B, i, none⟩ = some (.int .i64 ((d[i]! : Nat) : Int))
  frozen : ∀ i, i < d.size → w.frozen? ⟨B, i, none⟩ = false
section
variable {n : Nat} {w0 w w' : World} {B : Nat} {d : Array (Fin (n + 1))}
theorem Row.ltw (h : Row w0 B d w) : B < w.heap.size := Nat.lt_of_lt_of_le h.lt h.keep.size
theorem Row.later (h : Row w0 B d w) (hb : Below w.heap.size w w') : Row w0 B d w' :=
  ⟨h.keep.trans (S' := fun _ => False) (Keeps.of_below hb) (fun _ _ h => h.elim), h.lt, fun i hi => (hb.cell (p := ⟨B, i, none⟩) h.ltw).trans (h.cell i hi), fun i hi => (hb.frozen (p := ⟨B, i, none⟩) h.ltw).trans (h.frozen i hi)⟩
theorem Row.at (h : Row w0 B d w) {i : Nat} (hi : i < d.size) {x : Fin (n + 1)} (hx : d[i]! = x) : ∀ p : BW w, p.w.cell? ⟨B, i, none⟩ = some (.int .i64 ((x : Nat) : Int)) := fun p => by
  subst hx
  exact cell_bw (a := ⟨B, i, none⟩) h.ltw (h.cell i hi) p
theorem Row.swap (h : Row w0 B d w) {i j : Nat} (hi : i < d.size) (hj : j < d.size) {x y : Fin (n + 1)} (hx : d[i]! = x) (hy : d[j]! = y) :
    Row w0 B (Go.Sort.swp d i j) ((w.setCell ⟨B, i, none⟩ (.int .i64 ((y : Nat) : Int))).setCell ⟨B, j, none⟩ (.int .i64 ((x : Nat) : Int))) := by
  subst hx hy
  have e : ∀ k, k < d.size → (Go.Sort.swp d i j)[k]! = if k = j then d[i]! else if k = i then d[j]! else d[k]! := fun k _ => by
    rw [Go.Sort.swp_get d hi hj]
  refine ⟨(h.keep.setCell (p := ⟨B, i, none⟩) (fun _ => rfl) _).setCell (p := ⟨B, j, none⟩) (fun _ => rfl) _, h.lt, fun k hk => ?_, fun k hk => ?_⟩
  · rw [Go.Sort.swp_size] at hk
    have h1 : (w.setCell ⟨B, i, none⟩ (.int .i64 ((d[j]! : Nat) : Int))).cell? ⟨B, k, none⟩ = some (.int .i64 (((if k = i then d[j]! else d[k]! : Fin (n + 1)) : Nat) : Int)) := by
      by_cases e1 : k = i
      · subst e1; rw [if_pos rfl]; exact World.cell?_setCell_same' _ _ _ (by rw [h.cell k hk]; rfl)
      · rw [if_neg e1, World.cell?_setCell_other w ⟨B, i, none⟩ ⟨B, k, none⟩ _ (by intro h; injection h with h1 h2; exact e1 h2.symm)]; exact h.cell k hk
    rw [e k hk]
    by_cases e2 : k = j
    · subst e2; rw [if_pos rfl]; exact World.cell?_setCell_same' _ _ _ (by rw [h1]; rfl)
    · rw [if_neg e2, World.cell?_setCell_other _ ⟨B, j, none⟩ ⟨B, k, none⟩ _ (by intro h; injection h with h1 h2; exact e2 h2.symm)]; exact h1
  · rw [Go.Sort.swp_size] at hk
    rw [World.frozen?_setCell, World.frozen?_setCell]; exact h.frozen k hk
theorem Row.drew (h : Row w0 B d w) : Row w0 B d w.drew := h.later (Below.refl _ _).drew
end
end Go.Proofs.Ytoedgnkoahcblaa
