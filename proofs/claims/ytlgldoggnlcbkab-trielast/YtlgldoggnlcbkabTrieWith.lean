/- What the document's 'with' answers: entries with one more, in order, in place of one that it was. -/
import Derived.Test.YtlgldoggnlcbkabTrieAdd
namespace Go.Proofs.Ytlgldoggnlcbkab
open Go.ChangeShapes Go.WideShapes Go.ChangeAt Go.RowKit Tt
set_option linter.unusedVariables false
set_option linter.unusedSimpArgs false

theorem kept_with {w w' w2 : World} {a : Option Addr} {c B : Nat} {l : List T3} {L : List Int} (h : Below w.heap.size w w' ∧ Rds fE 3 w' a c l ∧ Lies w' B L) (hb : Below w'.heap.size w' w2) : Below w.heap.size w w2 ∧ Rds fE 3 w2 a c l ∧ Lies w2 B L :=
  ⟨below_step h.1 hb, h.2.1.later hb, h.2.2.later hb⟩
theorem ne_pre (a n b m : Int) (w : World) : (binOp .neq 24 (.agg #[.int .i64 a, .int .i64 n]) (.agg #[.int .i64 b, .int .i64 m])).run Try.prog w = .ok (.bool (!((a == b) && (n == m)))) w := by
  cases h0 : (a == b)
  · go_simp
  cases h1 : (n == m)
  · go_simp
  go_simp
def stepW (e : T3) (s : List T3 × Bool) (x : T3) : List T3 × Bool := (s.1 ++ ((if (!s.2 && here e x) = true then [e] else []) ++ (if x.1 ≠ e.1 then [x] else [])), s.2 || here e x)
def stW (e : T3) (l : List T3) (k : Nat) : List T3 × Bool := (l.take k).foldl (stepW e) ([], false)
theorem stW_next (e : T3) {l : List T3} {k : Nat} (h : k < l.length) : stW e l (k + 1) = stepW e (stW e l k) l[k] := by
  unfold stW
  rw [List.take_succ_eq_append_getElem h, List.foldl_append]
  rfl
theorem with_fold (e : T3) (l : List T3) (s : List T3 × Bool) : s.1 ++ withGo e s.2 l = (l.foldl (stepW e) s).1 ++ (if (l.foldl (stepW e) s).2 = true then [] else [e]) := by
  induction l generalizing s with
  | nil => rfl
  | cons x l ih =>
    rw [List.foldl_cons, ← ih]
    simp only [withGo, stepW, List.append_assoc]
theorem with_st (e : T3) (l : List T3) : withGo e false l = (stW e l l.length).1 ++ (if (stW e l l.length).2 = true then [] else [e]) := by
  have := with_fold e l ([], false)
  unfold stW
  rw [List.take_length]
  exact this
theorem st_mem (e : T3) (l : List T3) (s : List T3 × Bool) : ∀ x ∈ (l.foldl (stepW e) s).1, x ∈ s.1 ∨ x = e ∨ x ∈ l := by
  induction l generalizing s with
  | nil => exact fun x hx => .inl hx
  | cons y l ih =>
    intro x hx
    rw [List.foldl_cons] at hx
    rcases ih _ x hx with h | h | h
    · simp only [stepW, List.mem_append] at h
      rcases h with h | h | h
      · exact .inl h
      · split at h
        · exact .inr (.inl (List.mem_singleton.1 h))
        · cases h
      · split at h
        · exact .inr (.inr (by rw [List.mem_singleton.1 h]; simp))
        · cases h
    · exact .inr (.inl h)
    · exact .inr (.inr (by simp [h]))
theorem st_len (e : T3) (l : List T3) (s : List T3 × Bool) : (l.foldl (stepW e) s).1.length ≤ s.1.length + 2 * l.length := by
  induction l generalizing s with
  | nil => exact Nat.le_refl _
  | cons y l ih =>
    rw [List.foldl_cons]
    have h := ih (stepW e s y)
    have h2 : (stepW e s y).1.length ≤ s.1.length + 2 := by
      simp only [stepW, List.length_append]
      split <;> split <;> simp
    simp only [List.length_cons]
    omega
/-- the row of what has been gathered so far -/
def OutIs (B : Nat) (w : World) (v : Value) (O : List T3) : Prop := w.ownsRow B 26 3 v O.length (flatV fE O)
theorem out_is {B : Nat} {w : World} {v : Value} {s s2 : List T3 × Bool} {O : List T3} (h : s = s2) (h2 : s2.1 = O) (h3 : OutIs B w v O) : OutIs B w v s.1 := by rw [h, h2]; exact h3
end Go.Proofs.Ytlgldoggnlcbkab
