/- What the document's 'Nodes' answers: how many nodes prefixes have. -/
import Derived.Test.YtlgldoggnlcbkabTrieAdd
namespace Go.Proofs.Ytlgldoggnlcbkab
open Go.ChangeShapes Go.WideShapes Go.ChangeAt Go.RowKit Tt
set_option linter.unusedVariables false
set_option linter.unusedSimpArgs false

theorem kept_nodes {w w' w2 : World} {a x : Option Addr} {c k : Nat} {l : List T3} {L : List P2} (h : Below w.heap.size w w' ∧ Rds fE 3 w' a c l ∧ Rds fP 2 w' x k L) (hb : Below w'.heap.size w' w2) : Below w.heap.size w w2 ∧ Rds fE 3 w2 a c l ∧ Rds fP 2 w2 x k L :=
  ⟨below_step h.1 hb, h.2.1.later hb, h.2.2.later hb⟩
theorem nodesGo_snoc (l all done : List P2) (p : P2) : nodesGo all done (l ++ [p]) = innerP p (done ++ l) (addP (nodesGo all done l) p) := by
  induction l generalizing all done with
  | nil => simp [nodesGo]
  | cons q l ih =>
    rw [List.cons_append, nodesGo, nodesGo, ih]
    simp
theorem nodes_next {l : List P2} {k : Nat} (h : k < l.length) : nodesR (l.take (k + 1)) = innerP l[k] (l.take k) (addP (nodesR (l.take k)) l[k]) := by
  unfold nodesR
  rw [List.take_succ_eq_append_getElem h, nodesGo_snoc]
  rfl
theorem inner_next (p : P2) {l all : List P2} {j : Nat} (h : j < l.length) : innerP p (l.take (j + 1)) all = if apartP p l[j] = true then addP (innerP p (l.take j) all) (comP p l[j]) else innerP p (l.take j) all := by
  unfold innerP
  rw [List.take_succ_eq_append_getElem h, List.foldl_append]
  rfl
theorem add_len (all : List P2) (p : P2) : (addP all p).length ≤ all.length + 1 := by
  unfold addP
  split
  · omega
  · simp
theorem inner_len (p : P2) (done all : List P2) : (innerP p done all).length ≤ all.length + done.length := by
  induction done generalizing all with
  | nil => exact Nat.le_refl _
  | cons q done ih =>
    have e : innerP p (q :: done) all = innerP p done (if apartP p q = true then addP all (comP p q) else all) := rfl
    rw [e]
    have h := ih (if apartP p q = true then addP all (comP p q) else all)
    have h2 : (if apartP p q = true then addP all (comP p q) else all).length ≤ all.length + 1 := by
      split
      · exact add_len _ _
      · omega
    simp only [List.length_cons]
    omega
theorem nodes_len {l : List P2} (h : l.length ≤ 100) : ∀ k, k ≤ l.length → (nodesR (l.take k)).length ≤ 100 * k
  | 0, _ => by simp [nodesR, nodesGo]
  | k + 1, hk => by
    have ih := nodes_len h k (by omega)
    rw [nodes_next (by omega : k < l.length)]
    have h1 := inner_len l[k] (l.take k) (addP (nodesR (l.take k)) l[k])
    have h2 := add_len (nodesR (l.take k)) l[k]
    have h3 : (l.take k).length ≤ k := by simp; omega
    omega
theorem may_wf {p : P2} (h : may p = true) : (Lit.int .i64 p.1).wf = true ∧ (Lit.int .i64 p.2).wf = true := by
  have := may_bd h
  exact ⟨wf_i64_mk (by omega) (by omega), wf_i64_mk (by omega) (by omega)⟩
/-- the slice of what has been gathered so far -/
def AllIs (w : World) (v : Value) (L : List P2) : Prop := ∃ x c, v = .slice x L.length c ∧ Rds fP 2 w x c L
end Go.Proofs.Ytlgldoggnlcbkab
