/- What comes of telling of entries one behind the other, and what is found among them; no program in sight. -/
import Derived.Test.YtlgldoggnlcbkabTrieAwake
namespace Go.Proofs.Ytlgldoggnlcbkab
open Go.ChangeShapes Go.WideShapes Go.ChangeAt Go.RowKit Tt
set_option linter.unusedVariables false
set_option linter.unusedSimpArgs false

def puts (room : Int) (l : List T3) (k : Nat) : List T3 := (l.take k).foldl (putTo room) []
theorem puts_next (room : Int) {l : List T3} {k : Nat} (h : k < l.length) : puts room l (k + 1) = putTo room (puts room l k) l[k] := by
  unfold puts
  rw [List.take_succ_eq_append_getElem h, List.foldl_append]
  rfl
theorem puts_fold_len (room : Int) (s : List T3) (l : List T3) : (s.foldl (putTo room) l).length ≤ l.length + s.length := by
  induction s generalizing l with
  | nil => exact Nat.le_refl _
  | cons o s ih =>
    rw [List.foldl_cons]
    have h1 := ih (putTo room l o)
    have h2 := put_len room l o
    simp only [List.length_cons]
    omega
theorem puts_len (room : Int) (s : List T3) (k : Nat) : (puts room s k).length ≤ k ∧ (puts room s k).length ≤ s.length := by
  have h1 := puts_fold_len room (s.take k) []
  have h2 : (s.take k).length = min k s.length := List.length_take
  unfold puts
  simp only [List.length_nil] at h1
  omega
theorem kept_b {w w' w2 : World} (h : Below w.heap.size w w') (hb : Below w'.heap.size w' w2) : Below w.heap.size w w2 := below_step h hb
theorem best_three (b : Option T3) : ∃ g0 g1 g2, bestE b = [g0, g1, g2] := by cases b <;> exact ⟨_, _, _, rfl⟩
/-- what is found has the address, is among them or was the best, and none that has it is longer -/
theorem find_most (addr : Int) (l : List T3) (best : Option T3) : (∀ b, best = some b → ∃ y, findR l addr best = some y ∧ b.1.2 ≤ y.1.2) ∧ (∀ x ∈ l, M.hasB x.1.1 x.1.2 addr = true → ∃ y, findR l addr best = some y ∧ x.1.2 ≤ y.1.2) := by
  induction l generalizing best with
  | nil => exact ⟨fun b h => ⟨b, h, Int.le_refl _⟩, fun x hx => by cases hx⟩
  | cons z l ih =>
    have e : findR (z :: l) addr best = findR l addr (betterR addr best z) := rfl
    obtain ⟨i1, i2⟩ := ih (betterR addr best z)
    rw [e]
    have step : ∀ b, best = some b → ∃ c, betterR addr best z = some c ∧ b.1.2 ≤ c.1.2 := by
      intro b hb
      unfold betterR
      by_cases h : M.hasB z.1.1 z.1.2 addr = true ∧ (∀ b, best = some b → b.1.2 < z.1.2)
      · rw [if_pos h]
        exact ⟨z, rfl, Int.le_of_lt (h.2 b hb)⟩
      · rw [if_neg h]
        exact ⟨b, hb, Int.le_refl _⟩
    have here : M.hasB z.1.1 z.1.2 addr = true → ∃ c, betterR addr best z = some c ∧ z.1.2 ≤ c.1.2 := by
      intro hz
      unfold betterR
      by_cases h : M.hasB z.1.1 z.1.2 addr = true ∧ (∀ b, best = some b → b.1.2 < z.1.2)
      · rw [if_pos h]
        exact ⟨z, rfl, Int.le_refl _⟩
      · rw [if_neg h]
        cases hb : best with
        | none => exact absurd ⟨hz, fun b h2 => by rw [hb] at h2; cases h2⟩ h
        | some b =>
          refine ⟨b, rfl, ?_⟩
          by_cases h3 : b.1.2 < z.1.2
          · exact absurd ⟨hz, fun c h4 => by rw [hb] at h4; cases h4; exact h3⟩ h
          · omega
    refine ⟨fun b hb => ?_, fun x hx hh => ?_⟩
    · obtain ⟨c, h1, h2⟩ := step b hb
      obtain ⟨y, h3, h4⟩ := i1 c h1
      exact ⟨y, h3, by omega⟩
    · rcases List.mem_cons.1 hx with rfl | hx
      · obtain ⟨c, h1, h2⟩ := here hh
        obtain ⟨y, h3, h4⟩ := i1 c h1
        exact ⟨y, h3, by omega⟩
      · exact i2 x hx hh
theorem find_own {l : List T3} (hm : AllMay l) {e : T3} (he : e ∈ l) : ∃ y, findR l e.1.1 none = some y ∧ e.1.2 ≤ y.1.2 := (find_most e.1.1 l none).2 e he (hm e he)
/-- two that stand next to each other -/
theorem next_less {l : List T3} (hm : AllMay l) (hs : Srt l) {j : Nat} (h : j + 1 < l.length) : l[j].1.1 < l[j + 1].1.1 ∨ (l[j].1.1 = l[j + 1].1.1 ∧ l[j].1.2 < l[j + 1].1.2) := by
  have hp := List.pairwise_iff_getElem.1 hs j (j + 1) (by simp; omega) (by simp; omega) (by omega)
  simp only [List.getElem_map] at hp
  exact less_of (hm _ (List.getElem_mem _)) (hm _ (List.getElem_mem _)) hp
end Go.Proofs.Ytlgldoggnlcbkab
