/- What lies in a trie's block, cell by cell, and how a store into one cell turns it. -/
import Derived.Test.YtlgldoggnlcbkaaTrieIf
namespace Go.Proofs.Ytlgldoggnlcbkaa
open Go.ChangeShapes Go.WideShapes Go.ChangeAt Go.RowKit Tt
set_option linter.unusedVariables false
set_option linter.unusedSimpArgs false

/-- a trie's memory: of each node its prefix, value, whether it is told of, its two kids; the root, the first free node, the room, how many nodes are used -/
structure Mm where
  a : Nat → Int
  n : Nat → Int
  v : Nat → Int
  told : Nat → Bool
  kid : Nat → Bool → Nat
  root : Nat
  free : Nat
  room : Nat
  used : Nat
def nodeCell (m : Mm) (i : Nat) : Nat → Value
  | 0 => .int .i64 (m.a i)
  | 1 => .int .i64 (m.n i)
  | 2 => .int .i64 (m.v i)
  | 3 => .bool (m.told i)
  | 4 => .int .i64 (m.kid i false : Nat)
  | _ => .int .i64 (m.kid i true : Nat)
def headCell (m : Mm) : Nat → Value
  | 0 => .int .i64 (m.root : Nat)
  | 1 => .int .i64 (m.free : Nat)
  | 2 => .int .i64 (m.room : Nat)
  | _ => .int .i64 (m.used : Nat)
def cellOf (m : Mm) (o : Nat) : Value := if o < 6006 then nodeCell m (o / 6) (o % 6) else headCell m (o - 6006)
theorem cell_node (m : Mm) (i j : Nat) (hi : i ≤ 1000) (hj : j < 6) : cellOf m (i * 6 + j) = nodeCell m i j := by
  unfold cellOf
  rw [if_pos (by omega), show (i * 6 + j) / 6 = i by omega, show (i * 6 + j) % 6 = j by omega]
theorem cell_head (m : Mm) (j : Nat) : cellOf m (6006 + j) = headCell m j := by
  unfold cellOf
  rw [if_neg (by omega), show 6006 + j - 6006 = j by omega]
def upd (c : Nat → Value) (o : Nat) (x : Value) : Nat → Value := fun k => if k = o then x else c k
/-- at the block B lie these cells -/
structure Has (w : World) (B : Nat) (c : Nat → Value) : Prop where
  lt : B < w.heap.size
  cell : ∀ o, o < 6010 → w.cell? ⟨B, o, none⟩ = some (c o)
  frozen : ∀ o, o < 6010 → w.frozen? ⟨B, o, none⟩ = false
section
variable {w w' : World} {B : Nat} {c : Nat → Value} {m : Mm}
theorem Has.set (h : Has w B c) {o : Nat} (ho : o < 6010) (x : Value) : Has (w.setCell ⟨B, o, none⟩ x) B (upd c o x) :=
  ⟨by simpa using h.lt, fun k hk => by
    unfold upd
    by_cases e : k = o
    · subst e; rw [if_pos rfl]; exact World.cell?_setCell_same' _ _ _ (by rw [h.cell k hk]; rfl)
    · rw [if_neg e, World.cell?_setCell_other w ⟨B, o, none⟩ ⟨B, k, none⟩ x (by intro h; injection h with h1 h2; exact e h2.symm)]; exact h.cell k hk,
   fun k hk => by rw [World.frozen?_setCell]; exact h.frozen k hk⟩
theorem Has.later (h : Has w B c) (hb : Below w.heap.size w w') : Has w' B c :=
  ⟨Nat.lt_of_lt_of_le h.lt hb.size, fun o ho => (hb.cell (p := ⟨B, o, none⟩) h.lt).trans (h.cell o ho), fun o ho => (hb.frozen (p := ⟨B, o, none⟩) h.lt).trans (h.frozen o ho)⟩
theorem Has.drew (h : Has w B c) : Has w.drew B c := ⟨h.lt, h.cell, h.frozen⟩
theorem Has.kept {S : Nat → Prop} (h : Has w B c) (hk : Keeps S w w') (hn : ¬ S B) : Has w' B c :=
  ⟨Nat.lt_of_lt_of_le h.lt hk.size, fun o ho => (hk.cell (p := ⟨B, o, none⟩) h.lt hn).trans (h.cell o ho), fun o ho => (hk.frozen (p := ⟨B, o, none⟩) h.lt hn).trans (h.frozen o ho)⟩
theorem Has.node (h : Has w B (cellOf m)) {i : Nat} (hi : i ≤ 1000) :
    w.cell? ⟨B, i * 6, none⟩ = some (.int .i64 (m.a i)) ∧ w.cell? ⟨B, i * 6 + 1, none⟩ = some (.int .i64 (m.n i)) ∧ w.cell? ⟨B, i * 6 + 2, none⟩ = some (.int .i64 (m.v i)) ∧
    w.cell? ⟨B, i * 6 + 3, none⟩ = some (.bool (m.told i)) ∧ w.cell? ⟨B, i * 6 + 4, none⟩ = some (.int .i64 (m.kid i false : Nat)) ∧ w.cell? ⟨B, i * 6 + 5, none⟩ = some (.int .i64 (m.kid i true : Nat)) := by
  refine ⟨?_, ?_, ?_, ?_, ?_, ?_⟩
  · have := h.cell (i * 6 + 0) (by omega); rw [cell_node m i 0 hi (by omega)] at this; exact this
  · have := h.cell (i * 6 + 1) (by omega); rw [cell_node m i 1 hi (by omega)] at this; exact this
  · have := h.cell (i * 6 + 2) (by omega); rw [cell_node m i 2 hi (by omega)] at this; exact this
  · have := h.cell (i * 6 + 3) (by omega); rw [cell_node m i 3 hi (by omega)] at this; exact this
  · have := h.cell (i * 6 + 4) (by omega); rw [cell_node m i 4 hi (by omega)] at this; exact this
  · have := h.cell (i * 6 + 5) (by omega); rw [cell_node m i 5 hi (by omega)] at this; exact this
theorem Has.nodeF (h : Has w B (cellOf m)) {i : Nat} (hi : i ≤ 1000) :
    w.frozen? ⟨B, i * 6, none⟩ = false ∧ w.frozen? ⟨B, i * 6 + 1, none⟩ = false ∧ w.frozen? ⟨B, i * 6 + 2, none⟩ = false ∧ w.frozen? ⟨B, i * 6 + 3, none⟩ = false ∧ w.frozen? ⟨B, i * 6 + 4, none⟩ = false ∧ w.frozen? ⟨B, i * 6 + 5, none⟩ = false :=
  ⟨h.frozen _ (by omega), h.frozen _ (by omega), h.frozen _ (by omega), h.frozen _ (by omega), h.frozen _ (by omega), h.frozen _ (by omega)⟩
theorem Has.head (h : Has w B (cellOf m)) :
    w.cell? ⟨B, 6006, none⟩ = some (.int .i64 (m.root : Nat)) ∧ w.cell? ⟨B, 6007, none⟩ = some (.int .i64 (m.free : Nat)) ∧ w.cell? ⟨B, 6008, none⟩ = some (.int .i64 (m.room : Nat)) ∧ w.cell? ⟨B, 6009, none⟩ = some (.int .i64 (m.used : Nat)) := by
  refine ⟨?_, ?_, ?_, ?_⟩
  · have := h.cell (6006 + 0) (by omega); rw [cell_head m 0] at this; exact this
  · have := h.cell (6006 + 1) (by omega); rw [cell_head m 1] at this; exact this
  · have := h.cell (6006 + 2) (by omega); rw [cell_head m 2] at this; exact this
  · have := h.cell (6006 + 3) (by omega); rw [cell_head m 3] at this; exact this
theorem Has.headF (h : Has w B (cellOf m)) : w.frozen? ⟨B, 6006, none⟩ = false ∧ w.frozen? ⟨B, 6007, none⟩ = false ∧ w.frozen? ⟨B, 6008, none⟩ = false ∧ w.frozen? ⟨B, 6009, none⟩ = false :=
  ⟨h.frozen _ (by omega), h.frozen _ (by omega), h.frozen _ (by omega), h.frozen _ (by omega)⟩
end
/-! ### the stores -/
def Mm.setNode (m : Mm) (i : Nat) (a n v : Int) (t : Bool) (k0 k1 : Nat) : Mm :=
  { m with a := fun j => if j = i then a else m.a j, n := fun j => if j = i then n else m.n j, v := fun j => if j = i then v else m.v j, told := fun j => if j = i then t else m.told j,
           kid := fun j b => if j = i then (if b then k1 else k0) else m.kid j b }
def Mm.setKid (m : Mm) (i : Nat) (b : Bool) (x : Nat) : Mm := { m with kid := fun j d => if j = i ∧ d = b then x else m.kid j d }
def Mm.setTell (m : Mm) (i : Nat) (t : Bool) (x : Int) : Mm := { m with told := fun j => if j = i then t else m.told j, v := fun j => if j = i then x else m.v j }
theorem upd_at (c : Nat → Value) (o : Nat) (x : Value) : upd c o x o = x := if_pos rfl
theorem upd_off (c : Nat → Value) (x : Value) {o k : Nat} (h : k ≠ o) : upd c o x k = c k := if_neg h
/-- two memories whose cells are the same -/
theorem cells_ext {c : Nat → Value} {m : Mm} (hn : ∀ i j, i ≤ 1000 → j < 6 → c (i * 6 + j) = nodeCell m i j) (hh : ∀ j, j < 4 → c (6006 + j) = headCell m j) : ∀ o, o < 6010 → c o = cellOf m o := by
  intro o ho
  by_cases h : o < 6006
  · have := hn (o / 6) (o % 6) (by omega) (by omega)
    rw [show o / 6 * 6 + o % 6 = o by omega] at this
    rw [this]; unfold cellOf; rw [if_pos h]
  · have := hh (o - 6006) (by omega)
    rw [show 6006 + (o - 6006) = o by omega] at this
    rw [this]; unfold cellOf; rw [if_neg h]
theorem Has.ext {w : World} {B : Nat} {c d : Nat → Value} (h : Has w B c) (e : ∀ o, o < 6010 → c o = d o) : Has w B d := ⟨h.lt, fun o ho => by rw [← e o ho]; exact h.cell o ho, h.frozen⟩
theorem six {P : Nat → Prop} (h0 : P 0) (h1 : P 1) (h2 : P 2) (h3 : P 3) (h4 : P 4) (h5 : P 5) : ∀ j, j < 6 → P j
  | 0, _ => h0 | 1, _ => h1 | 2, _ => h2 | 3, _ => h3 | 4, _ => h4 | 5, _ => h5
theorem four' {P : Nat → Prop} (h0 : P 0) (h1 : P 1) (h2 : P 2) (h3 : P 3) : ∀ j, j < 4 → P j
  | 0, _ => h0 | 1, _ => h1 | 2, _ => h2 | 3, _ => h3
section
variable {w : World} {B : Nat} {m : Mm}
theorem Has.setNode (h : Has w B (cellOf m)) {i : Nat} (hi : i ≤ 1000) (a n v : Int) (t : Bool) (k0 k1 : Nat) :
    Has ((((((w.setCell ⟨B, i * 6, none⟩ (.int .i64 a)).setCell ⟨B, i * 6 + 1, none⟩ (.int .i64 n)).setCell ⟨B, i * 6 + 2, none⟩ (.int .i64 v)).setCell ⟨B, i * 6 + 3, none⟩ (.bool t)).setCell ⟨B, i * 6 + 4, none⟩ (.int .i64 k0)).setCell ⟨B, i * 6 + 5, none⟩ (.int .i64 k1)) B (cellOf (m.setNode i a n v t k0 k1)) := by
  refine ((((((h.set (o := i * 6) (by omega) _).set (o := i * 6 + 1) (by omega) _).set (o := i * 6 + 2) (by omega) _).set (o := i * 6 + 3) (by omega) _).set (o := i * 6 + 4) (by omega) _).set (o := i * 6 + 5) (by omega) _).ext (cells_ext ?_ ?_)
  · intro j k hj hk
    by_cases e : j = i
    · subst e
      revert k
      refine six ?_ ?_ ?_ ?_ ?_ ?_ <;> simp [upd, nodeCell, Mm.setNode]
    · have : ∀ z, z < 6 → j * 6 + k ≠ i * 6 + z := by intro z hz; omega
      rw [upd_off _ _ (this 5 (by omega)), upd_off _ _ (this 4 (by omega)), upd_off _ _ (this 3 (by omega)), upd_off _ _ (this 2 (by omega)), upd_off _ _ (this 1 (by omega)), upd_off (o := i * 6) _ _ (this 0 (by omega)), cell_node m j k hj hk]
      revert k
      refine fun k hk _ => six (P := fun k => nodeCell m j k = nodeCell (m.setNode i a n v t k0 k1) j k) ?_ ?_ ?_ ?_ ?_ ?_ k hk <;> simp [nodeCell, Mm.setNode, e]
  · intro j hj
    have : ∀ z, z < 6 → 6006 + j ≠ i * 6 + z := by intro z hz; omega
    rw [upd_off _ _ (this 5 (by omega)), upd_off _ _ (this 4 (by omega)), upd_off _ _ (this 3 (by omega)), upd_off _ _ (this 2 (by omega)), upd_off _ _ (this 1 (by omega)), upd_off (o := i * 6) _ _ (this 0 (by omega)), cell_head m j]
    rfl
theorem Has.setHead (h : Has w B (cellOf m)) {j : Nat} (hj : j < 4) (m' : Mm) (x : Value) (hn : ∀ i k, nodeCell m' i k = nodeCell m i k) (hx : headCell m' j = x) (ho : ∀ k, k < 4 → k ≠ j → headCell m' k = headCell m k) : Has (w.setCell ⟨B, 6006 + j, none⟩ x) B (cellOf m') := by
  refine (h.set (o := 6006 + j) (by omega) x).ext (cells_ext ?_ ?_)
  · intro i k hi hk
    rw [upd_off _ _ (by omega), cell_node m i k hi hk, hn]
  · intro k hk
    by_cases e : k = j
    · subst e; rw [upd_at, hx]
    · rw [upd_off _ _ (by omega), cell_head, ho k hk e]
theorem Has.setFree (h : Has w B (cellOf m)) (x : Nat) : Has (w.setCell ⟨B, 6007, none⟩ (.int .i64 x)) B (cellOf { m with free := x }) :=
  h.setHead (j := 1) (by decide) _ _ (fun _ _ => by unfold nodeCell; rfl) rfl (four' (fun _ => rfl) (fun h => absurd rfl h) (fun _ => rfl) (fun _ => rfl))
theorem Has.setRoot (h : Has w B (cellOf m)) (x : Nat) : Has (w.setCell ⟨B, 6006, none⟩ (.int .i64 x)) B (cellOf { m with root := x }) :=
  h.setHead (j := 0) (by decide) _ _ (fun _ _ => by unfold nodeCell; rfl) rfl (four' (fun h => absurd rfl h) (fun _ => rfl) (fun _ => rfl) (fun _ => rfl))
theorem Has.setUsed (h : Has w B (cellOf m)) (x : Nat) : Has (w.setCell ⟨B, 6009, none⟩ (.int .i64 x)) B (cellOf { m with used := x }) :=
  h.setHead (j := 3) (by decide) _ _ (fun _ _ => by unfold nodeCell; rfl) rfl (four' (fun _ => rfl) (fun _ => rfl) (fun _ => rfl) (fun h => absurd rfl h))
theorem Has.setKid (h : Has w B (cellOf m)) {i : Nat} (hi : i ≤ 1000) (b : Bool) (x : Nat) : Has (w.setCell ⟨B, i * 6 + 4 + b.toNat, none⟩ (.int .i64 x)) B (cellOf (m.setKid i b x)) := by
  have hb : b.toNat < 2 := by cases b <;> decide
  refine (h.set (o := i * 6 + 4 + b.toNat) (by omega) _).ext (cells_ext ?_ ?_)
  · intro j k hj hk
    by_cases e : j * 6 + k = i * 6 + 4 + b.toNat
    · have e1 : j = i := by omega
      have e2 : k = 4 + b.toNat := by omega
      subst e1 e2
      rw [e, upd_at]
      cases b <;> simp [nodeCell, Mm.setKid]
    · rw [upd_off _ _ e, cell_node m j k hj hk]
      have ne4 : k = 4 → ¬ (j = i ∧ false = b) := by rintro rfl ⟨rfl, rfl⟩; simp at e
      have ne5 : k = 5 → ¬ (j = i ∧ true = b) := by rintro rfl ⟨rfl, rfl⟩; simp at e
      clear e
      revert ne4 ne5
      revert k
      refine fun k hk => six (P := fun k => (k = 4 → ¬ (j = i ∧ false = b)) → (k = 5 → ¬ (j = i ∧ true = b)) → nodeCell m j k = nodeCell (m.setKid i b x) j k) (fun _ _ => rfl) (fun _ _ => rfl) (fun _ _ => rfl) (fun _ _ => rfl) ?_ ?_ k hk
      · intro h _; have := h rfl; simp only [nodeCell, Mm.setKid]; rw [if_neg this]
      · intro _ h; have := h rfl; simp only [nodeCell, Mm.setKid]; rw [if_neg this]
  · intro j hj
    rw [upd_off _ _ (by omega), cell_head m j]
    rfl
theorem Has.setTell (h : Has w B (cellOf m)) {i : Nat} (hi : i ≤ 1000) (t : Bool) (x : Int) : Has ((w.setCell ⟨B, i * 6 + 3, none⟩ (.bool t)).setCell ⟨B, i * 6 + 2, none⟩ (.int .i64 x)) B (cellOf (m.setTell i t x)) := by
  refine ((h.set (o := i * 6 + 3) (by omega) _).set (o := i * 6 + 2) (by omega) _).ext (cells_ext ?_ ?_)
  · intro j k hj hk
    by_cases e : j = i
    · subst e
      have hc := fun z hz => cell_node m j z hj hz
      revert k
      refine six ?_ ?_ ?_ ?_ ?_ ?_
      · have := hc 0 (by omega); simp only [upd] at *; simpa [nodeCell, Mm.setTell] using this
      · have := hc 1 (by omega); simpa [upd, nodeCell, Mm.setTell] using this
      · simp [upd, nodeCell, Mm.setTell]
      · simp [upd, nodeCell, Mm.setTell]
      · have := hc 4 (by omega); simpa [upd, nodeCell, Mm.setTell] using this
      · have := hc 5 (by omega); simpa [upd, nodeCell, Mm.setTell] using this
    · have : ∀ z, z < 6 → j * 6 + k ≠ i * 6 + z := by intro z hz; omega
      rw [upd_off _ _ (this 2 (by omega)), upd_off _ _ (this 3 (by omega)), cell_node m j k hj hk]
      revert k
      refine fun k hk _ => six (P := fun k => nodeCell m j k = nodeCell (m.setTell i t x) j k) ?_ ?_ ?_ ?_ ?_ ?_ k hk <;> simp [nodeCell, Mm.setTell, e]
  · intro j hj
    rw [upd_off _ _ (by omega), upd_off _ _ (by omega), cell_head m j]
    rfl
end
theorem Keeps.drew {S : Nat → Prop} {w w' : World} (h : Keeps S w w') : Keeps S w w'.drew := ⟨h.os, h.tape, h.output, h.size, h.block⟩
def only (B : Nat) (k : Nat) : Prop := k = B
theorem Keeps.put {w w' : World} {B : Nat} (h : Keeps (only B) w w') (o : Nat) (x : Value) : Keeps (only B) w (w'.setCell ⟨B, o, none⟩ x) := h.setCell (p := ⟨B, o, none⟩) (fun _ => rfl) x
theorem Keeps.then {w w' w2 : World} {B : Nat} (h : Keeps (only B) w w') (h2 : Keeps (only B) w' w2) : Keeps (only B) w w2 := h.trans h2 (fun _ _ h => h)
theorem Keeps.after {w w' w2 : World} {B : Nat} (h : Keeps (only B) w w') (h2 : Below w'.heap.size w' w2) : Keeps (only B) w w2 := h.then (Keeps.of_below h2)
end Go.Proofs.Ytlgldoggnlcbkaa
