/- What is found is among them, and has the address; one prefix alone; no program in sight. -/
import Derived.Test.YtlgldoggnlcbkabTrieMore
namespace Go.Proofs.Ytlgldoggnlcbkab
open Go.ChangeShapes Go.WideShapes Go.ChangeAt Go.RowKit Tt
set_option linter.unusedVariables false
set_option linter.unusedSimpArgs false

theorem find_in (addr : Int) (l : List T3) (best : Option T3) (x : T3) (h : findR l addr best = some x) : best = some x ∨ (x ∈ l ∧ M.hasB x.1.1 x.1.2 addr = true) := by
  induction l generalizing best with
  | nil => exact .inl h
  | cons z l ih =>
    have e : findR (z :: l) addr best = findR l addr (betterR addr best z) := rfl
    rw [e] at h
    rcases ih _ h with h1 | ⟨h1, h2⟩
    · unfold betterR at h1
      split at h1
      · rename_i hc
        obtain rfl := Option.some.inj h1
        exact .inr ⟨by simp, hc.1⟩
      · exact .inl h1
    · exact .inr ⟨by simp [h1], h2⟩
/-- among the first k: the one that was found, if it has the address -/
def inAt (addr : Int) (x : T3) (l : List T3) (k : Nat) : Bool := (l.take k).any (fun e => decide (e = x) && M.hasB e.1.1 e.1.2 addr)
theorem inAt_next (addr : Int) (x : T3) {l : List T3} {k : Nat} (h : k < l.length) : inAt addr x l (k + 1) = (inAt addr x l k || (decide (l[k] = x) && M.hasB l[k].1.1 l[k].1.2 addr)) := by
  unfold inAt
  rw [List.take_succ_eq_append_getElem h, List.any_append]
  simp
def bestT (b : Option T3) : T3 := b.getD ((0, 0), 0)
theorem bestT_is (b : Option T3) : bestE b = [(bestT b).1.1, (bestT b).1.2, (bestT b).2] := by cases b <;> rfl
theorem inAt_all (addr : Int) (l : List T3) : inAt addr (bestT (findR l addr none)) l l.length = (findR l addr none).isSome := by
  unfold inAt
  rw [List.take_length]
  cases h : findR l addr none with
  | none =>
    rw [Option.isSome_none, Bool.eq_false_iff]
    intro ha
    rw [List.any_eq_true] at ha
    obtain ⟨e, he, h2⟩ := ha
    simp only [Bool.and_eq_true] at h2
    obtain ⟨y, hy, _⟩ := (find_most addr l none).2 e he h2.2
    rw [h] at hy
    cases hy
  | some x =>
    rw [Option.isSome_some, List.any_eq_true]
    rcases find_in addr l none x h with h1 | ⟨h1, h2⟩
    · cases h1
    · exact ⟨x, h1, by simp [bestT, h2]⟩
theorem has_then {addr : Int} {l : List T3} {e : T3} (he : e ∈ l) (hh : M.hasB e.1.1 e.1.2 addr = true) : (findR l addr none).isSome = true ∧ e.1.2 ≤ (bestT (findR l addr none)).1.2 := by
  obtain ⟨y, hy, hl⟩ := (find_most addr l none).2 e he hh
  rw [hy]
  exact ⟨rfl, hl⟩
theorem one_put {p : P2} (hp : may p = true) (v : Int) : putErr 1 [] (p, v) = 0 ∧ putTo 1 [] (p, v) = [(p, v)] := by
  have hw : withGo (p, v) false [] = [(p, v)] := rfl
  have hc : count [(p, v)] = 1 := rfl
  have h1 : putErr 1 [] (p, v) = 0 := by unfold putErr; rw [if_pos hp, hw, hc]; rfl
  exact ⟨h1, by unfold putTo; rw [h1, hw]; rfl⟩
theorem one_find (p : P2) (v addr : Int) : findR [(p, v)] addr none = if M.hasB p.1 p.2 addr = true then some (p, v) else none := by
  show betterR addr none (p, v) = _
  unfold betterR
  by_cases h : M.hasB p.1 p.2 addr = true
  · rw [if_pos h, if_pos ⟨h, fun _ h => by cases h⟩]
  · rw [if_neg h, if_neg (fun hh => h hh.1)]
theorem eq_ent (a n v b m u : Int) (w : World) : (binOp .eql 26 (.agg #[.int .i64 a, .int .i64 n, .int .i64 v]) (.agg #[.int .i64 b, .int .i64 m, .int .i64 u])).run Try.prog w = .ok (.bool ((a == b) && ((n == m) && (v == u)))) w := by
  cases h0 : (a == b)
  · go_simp
  cases h1 : (n == m)
  · go_simp
  cases h2 : (v == u)
  · go_simp
  go_simp
theorem ent_dec (a n v b m u : Int) : ((a == b) && ((n == m) && (v == u))) = decide ((((a, n), v) : T3) = ((b, m), u)) := by
  rw [Bool.eq_iff_iff]
  simp [and_assoc]
end Go.Proofs.Ytlgldoggnlcbkab
