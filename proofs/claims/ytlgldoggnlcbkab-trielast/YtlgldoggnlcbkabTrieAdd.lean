/- What the document's 'add' answers: a prefix among others, once. -/
import Derived.Test.YtlgldoggnlcbkabTrieRefs
namespace Go.Proofs.Ytlgldoggnlcbkab
open Go.ChangeShapes Go.WideShapes Go.ChangeAt Go.RowKit Tt
set_option linter.unusedVariables false
set_option linter.unusedSimpArgs false

theorem eq_pre (a n b m : Int) (w : World) : (binOp .eql 24 (.agg #[.int .i64 a, .int .i64 n]) (.agg #[.int .i64 b, .int .i64 m])).run Try.prog w = .ok (.bool ((a == b) && (n == m))) w := by
  cases h0 : (a == b)
  · go_simp
  cases h1 : (n == m)
  · go_simp
  go_simp
theorem take_next {α : Type} {l : List α} {k : Nat} (h : k < l.length) {P : α → Prop} (ha : ∀ x ∈ l.take k, P x) (hx : P l[k]) : ∀ x ∈ l.take (k + 1), P x := by
  rw [List.take_succ_eq_append_getElem h]
  intro x hm
  rcases List.mem_append.1 hm with hm | hm
  · exact ha x hm
  · rw [List.mem_singleton.1 hm]; exact hx
theorem kept_add {b : Nat} {w w' w2 : World} {p0 p1 : Int} (hlt : b < w.heap.size) (h : Below w.heap.size w w' ∧ w'.cell? ⟨b, 0, none⟩ = some (.int .i64 p0) ∧ w'.cell? ⟨b, 1, none⟩ = some (.int .i64 p1)) (hb : Below w'.heap.size w' w2) : Below w.heap.size w w2 ∧ w2.cell? ⟨b, 0, none⟩ = some (.int .i64 p0) ∧ w2.cell? ⟨b, 1, none⟩ = some (.int .i64 p1) :=
  ⟨below_step h.1 hb, (hb.cell (p := ⟨b, 0, none⟩) (Nat.lt_of_lt_of_le hlt h.1.size)).trans h.2.1, (hb.cell (p := ⟨b, 1, none⟩) (Nat.lt_of_lt_of_le hlt h.1.size)).trans h.2.2⟩
theorem kept_add2 {b : Nat} {w w' w2 : World} {p0 p1 : Int} (hlt : b < w.heap.size) (h : Below w.heap.size w w' ∧ w'.cell? ⟨b, 0, none⟩ = some (.int .i64 p0) ∧ w'.cell? ⟨b, 1, none⟩ = some (.int .i64 p1)) (hb : Below w.heap.size w w2) : Below w.heap.size w w2 ∧ w2.cell? ⟨b, 0, none⟩ = some (.int .i64 p0) ∧ w2.cell? ⟨b, 1, none⟩ = some (.int .i64 p1) :=
  ⟨hb, (hb.cell (p := ⟨b, 0, none⟩) hlt).trans ((h.1.cell (p := ⟨b, 0, none⟩) hlt).symm.trans h.2.1), (hb.cell (p := ⟨b, 1, none⟩) hlt).trans ((h.1.cell (p := ⟨b, 1, none⟩) hlt).symm.trans h.2.2)⟩
theorem addP_no {l : List P2} {p : P2} (h : p ∉ l) : addP l p = l ++ [p] := if_neg h
theorem below_draw1 (w : World) : Below w.heap.size w w.drew := (Below.refl _ _).drew
theorem wf_more {α : Type} {f : α → List Int} {l : List α} {p : α} (hl : ∀ x ∈ l, ∀ z ∈ f x, (Lit.int .i64 z).wf = true) (hp : ∀ z ∈ f p, (Lit.int .i64 z).wf = true) : ∀ x ∈ l ++ [p], ∀ z ∈ f x, (Lit.int .i64 z).wf = true := by
  intro x hx
  rcases List.mem_append.1 hx with hx | hx
  · exact hl x hx
  · rw [List.mem_singleton.1 hx]; exact hp
end Go.Proofs.Ytlgldoggnlcbkab
