/- What it means that a call changed only what is its own: blocks of a set, and new ones; and how facts of other blocks stay. -/
import Derived.Test.YtinmhjgnapbkmaaRds
namespace Go.Proofs.Ytinmhjgnapbkmaa
open Go.ChangeShapes Go.WideShapes Go.ChangeAt Go.RowKit
set_option linter.unusedVariables false

/-- of the blocks that were there only those of S may have changed -/
structure Keeps (S : Nat → Prop) (w w' : World) : Prop where
  os : w'.os = w.os
  tape : w'.tape = w.tape
  output : w'.output = w.output
  size : w.heap.size ≤ w'.heap.size
  block : ∀ k, k < w.heap.size → ¬ S k → w'.heap[k]? = w.heap[k]?
/-- what a thing's blocks may be behind a call: those that were, and new ones -/
def Grow (F : Nat → Prop) (w w' : World) (k : Nat) : Prop := F k ∨ (w.heap.size ≤ k ∧ k < w'.heap.size)
section
variable {S S' : Nat → Prop} {w w' w2 : World}
theorem Keeps.of_below (h : Below w.heap.size w w') : Keeps S w w' := ⟨h.os, h.tape, h.output, h.size, fun k hk _ => h.block k hk⟩
theorem Keeps.refl (S : Nat → Prop) (w : World) : Keeps S w w := ⟨rfl, rfl, rfl, Nat.le_refl _, fun _ _ _ => rfl⟩
theorem Keeps.trans (h : Keeps S w w') (h2 : Keeps S' w' w2) (hS : ∀ k, k < w.heap.size → S' k → S k) : Keeps S w w2 :=
  ⟨h2.os.trans h.os, h2.tape.trans h.tape, h2.output.trans h.output, Nat.le_trans h.size h2.size, fun k hk hn => (h2.block k (Nat.lt_of_lt_of_le hk h.size) (fun hs => hn (hS k hk hs))).trans (h.block k hk hn)⟩
theorem Keeps.mono (h : Keeps S w w') (hS : ∀ k, k < w.heap.size → S k → S' k) : Keeps S' w w' := ⟨h.os, h.tape, h.output, h.size, fun k hk hn => h.block k hk fun hs => hn (hS k hk hs)⟩
theorem Keeps.below (h : Keeps S w w') {B : Nat} (hB : B ≤ w.heap.size) (hS : ∀ k, S k → B ≤ k) : Below B w w' :=
  ⟨h.os, h.tape, h.output, h.size, fun k hk => h.block k (Nat.lt_of_lt_of_le hk hB) fun hs => absurd (hS k hs) (by omega)⟩
theorem Keeps.cell (h : Keeps S w w') {p : Addr} (hp : p.block < w.heap.size) (hn : ¬ S p.block) : w'.cell? p = w.cell? p := World.cell?_of_block (w := w) (h.block p.block hp hn)
theorem Keeps.frozen (h : Keeps S w w') {p : Addr} (hp : p.block < w.heap.size) (hn : ¬ S p.block) : w'.frozen? p = w.frozen? p := World.frozen?_of_block (w := w) (h.block p.block hp hn)
theorem Keeps.setCell {p : Addr} (h : Keeps S w w') (hp : p.block < w.heap.size → S p.block) (v : Value) : Keeps S w (w'.setCell p v) :=
  ⟨h.os, h.tape, h.output, by simpa using h.size, fun k hk hn => (Below.heap_setCell w' p v k (fun e => hn (by rw [e]; exact hp (by rw [← e]; exact hk)))).trans (h.block k hk hn)⟩
theorem Rds.kept {α : Type} {f : α → List Int} {sz : Nat} {a : Option Addr} {c : Nat} {l : List α} (h : Rds f sz w a c l) (hk : Keeps S w w') (hS : ∀ x, a = some x → l ≠ [] → ¬ S x.block) : Rds f sz w' a c l :=
  ⟨h.le, h.max, h.wf, h.nil, fun hl => by
    obtain ⟨b, o, e, hlt, hc⟩ := h.cells hl
    exact ⟨b, o, e, Nat.lt_of_lt_of_le hlt hk.size, fun i x hi j y hy => (hk.cell (p := ⟨b, o + i * sz + j, Option.none⟩) hlt (hS ⟨b, o, Option.none⟩ e hl)).trans (hc i x hi j y hy)⟩⟩
end
end Go.Proofs.Ytinmhjgnapbkmaa
