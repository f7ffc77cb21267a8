/- What it means that numbers lie in a block of the call's own, one behind the other (a struct of ints, boxed), and how that stays so. -/
import Derived.Test.YtinmhjgnapbkmaaOctGets
namespace Go.Proofs.Ytinmhjgnapbkmaa
open Go.ChangeShapes Go.WideShapes Go.ChangeAt Go.RowKit O
set_option linter.unusedVariables false
set_option linter.unusedSimpArgs false

theorem below_new (w : World) (o : Obj) : Below w.heap.size w (w.alloc o) := (Below.refl _ _).alloc (Nat.le_refl _) _
/-- the numbers l lie in the block B, which may be written into -/
structure Lies (w : World) (B : Nat) (l : List Int) : Prop where
  lt : B < w.heap.size
  cells : ∀ j x, l[j]? = some x → w.cell? ⟨B, j, none⟩ = some (.int .i64 x)
  fz : ∀ j, w.frozen? ⟨B, j, none⟩ = false
theorem Lies.later {w w' : World} {B : Nat} {l : List Int} (X : Lies w B l) (hb : Below w.heap.size w w') : Lies w' B l :=
  ⟨Nat.lt_of_lt_of_le X.lt hb.size, fun j x hx => (hb.cell (p := ⟨B, j, none⟩) X.lt).trans (X.cells j x hx), fun j => (hb.frozen (p := ⟨B, j, none⟩) X.lt).trans (X.fz j)⟩
theorem Lies.new (w : World) (l : List Int) (e : TypeId) {B : Nat} (hB : w.heap.size = B) : Lies (w.alloc (.cells (l.map (Value.int .i64)).toArray e)) B l := by
  subst hB
  refine ⟨by simp, fun j x hx => ?_, fun j => by unfold World.frozen?; rw [heap_alloc_new]; simp⟩
  have := World.news_of_block (heap_alloc_new w (.cells (l.map (Value.int .i64)).toArray e)) j (.int .i64 x) (by simp [hx])
  rw [Addr.add_lit] at this
  simpa using this
theorem Lies.six {w : World} {B : Nat} {x0 x1 x2 x3 x4 x5 : Int} (X : Lies w B [x0, x1, x2, x3, x4, x5]) :
    w.cell? ⟨B, 0, none⟩ = some (.int .i64 x0) ∧ w.cell? ⟨B, 1, none⟩ = some (.int .i64 x1) ∧ w.cell? ⟨B, 2, none⟩ = some (.int .i64 x2) ∧ w.cell? ⟨B, 3, none⟩ = some (.int .i64 x3) ∧ w.cell? ⟨B, 4, none⟩ = some (.int .i64 x4) ∧ w.cell? ⟨B, 5, none⟩ = some (.int .i64 x5) :=
  ⟨X.cells 0 _ rfl, X.cells 1 _ rfl, X.cells 2 _ rfl, X.cells 3 _ rfl, X.cells 4 _ rfl, X.cells 5 _ rfl⟩
theorem Lies.three {w : World} {B : Nat} {x0 x1 x2 : Int} (X : Lies w B [x0, x1, x2]) :
    w.cell? ⟨B, 0, none⟩ = some (.int .i64 x0) ∧ w.cell? ⟨B, 1, none⟩ = some (.int .i64 x1) ∧ w.cell? ⟨B, 2, none⟩ = some (.int .i64 x2) :=
  ⟨X.cells 0 _ rfl, X.cells 1 _ rfl, X.cells 2 _ rfl⟩
theorem Lies.two {w : World} {B : Nat} {x0 x1 : Int} (X : Lies w B [x0, x1]) :
    w.cell? ⟨B, 0, none⟩ = some (.int .i64 x0) ∧ w.cell? ⟨B, 1, none⟩ = some (.int .i64 x1) :=
  ⟨X.cells 0 _ rfl, X.cells 1 _ rfl⟩
/-- a slice of ints, just made -/
theorem reads_new64 (w : World) (l : List Int) (hl : ∀ z ∈ l, (Lit.int .i64 z).wf = true) (h0 : l.length ≤ 100) {B n : Nat} (hB : w.heap.size = B) (hn : l.length = n) : Reads .i64 (w.alloc (.cells (l.map (Value.int .i64)).toArray 3)) (some ⟨B, 0, none⟩) n l := by
  subst hB hn
  refine ⟨Nat.le_refl _, by unfold maxLen; omega, hl, fun h => (nomatch h), fun _ => ⟨_, _, rfl, by simp, fun i hi => ?_⟩⟩
  have := World.news_of_block (heap_alloc_new w (.cells (l.map (Value.int .i64)).toArray 3)) i (.int .i64 (l.getD i 0)) (by simp [List.getD, hi])
  rw [Addr.add_lit] at this
  exact this
theorem own_new (w : World) (l : List Int) (h0 : l.length ≤ 100) : (w.alloc (.cells (l.map (Value.int .i64)).toArray 3)).ownsRow w.heap.size 3 1 (.slice (some ⟨w.heap.size, 0, none⟩) l.length l.length) l.length (l.map (Value.int .i64)) :=
  ⟨by simp, .inr ⟨w.heap.size, l.length, _, rfl, Nat.le_refl _, heap_alloc_new w _, Nat.le_refl _, by unfold maxLen; omega, by simp, by rw [Nat.mul_one]; exact List.take_of_length_le (by simp)⟩⟩
/-- what a slice that is not empty reads, cell by cell -/
theorem reads_at {k : IntKind} {w : World} {a : Option Addr} {c : Nat} {l : List Int} (R : Reads k w a c l) (h : l ≠ []) : ∃ b o, a = some ⟨b, o, none⟩ ∧ b < w.heap.size ∧ ∀ i x, l[i]? = some x → w.cell? ⟨b, o + i, none⟩ = some (.int k x) := by
  obtain ⟨b, o, e, hlt, hc⟩ := R.cells h
  refine ⟨b, o, e, hlt, fun i x hx => ?_⟩
  obtain ⟨hi, he⟩ := List.getElem?_eq_some_iff.1 hx
  rw [hc i hi, getD_el hi, he]
theorem reads_cut {k : IntKind} {w : World} {b o c : Nat} {l : List Int} (R : Reads k w (some ⟨b, o, none⟩) c l) (j n : Nat) (hj : j < l.length) : Reads k w (some ⟨b, o + j, none⟩) (c - j) ((l.drop j).take n) := by
  have h := (R.drop j (by omega)).take n
  rw [if_neg (by have := R.le; omega)] at h
  simpa [Addr.add_lit] using h
theorem strs_at {w : World} {a : Option Addr} {c n : Nat} {l : List Int} (R : Reads .u8 w a c l) (hn : l.length = n) : ∀ m, (convert 48 9 (.slice a n c)).run Try.prog (w.drewN m) = .ok (.string (strOfNums l)) (w.drewN m) := by
  subst hn
  exact run_strs R
theorem str_at {w : World} {a : Option Addr} {c n : Nat} {l : List Int} (R : Reads .u8 w a c l) (hn : l.length = n) : (convert 48 9 (.slice a n c)).run Try.prog w = .ok (.string (strOfNums l)) w := by
  subst hn
  exact run_str R
end Go.Proofs.Ytinmhjgnapbkmaa
