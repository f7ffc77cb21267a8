/- One more rule, put into rules in order behind all that it does not stand ahead of: plain. -/
import Derived.Test.YtinmhjgnapbkmaaPickPure
namespace Go.Proofs.Ytinmhjgnapbkmaa.Pk
open Go M O R
set_option linter.unusedVariables false
set_option linter.unusedSimpArgs false

/-- the list with r at the place q -/
def insL (r : Rl) (q : Nat) (l : List Rl) : List Rl := l.take q ++ ([r] ++ l.drop q)
theorem insL_len (r : Rl) (q : Nat) (l : List Rl) : (insL r q l).length = l.length + 1 := by
  unfold insL
  simp only [List.length_append, List.length_take, List.length_drop, List.length_cons, List.length_nil]
  omega
theorem insL_perm (r : Rl) (q : Nat) (l : List Rl) : (insL r q l).Perm (l ++ [r]) := by
  unfold insL
  have h : l = l.take q ++ l.drop q := (List.take_append_drop q l).symm
  refine List.Perm.trans ?_ (List.Perm.trans (List.Perm.append_right [r] (List.Perm.of_eq h.symm)) (List.Perm.refl _))
  rw [List.append_assoc]
  exact List.Perm.append_left _ List.perm_append_comm
theorem insL_ord {r : Rl} {q : Nat} {l : List Rl} (h : Ord l) (hq : q ≤ l.length) (h1 : ∀ j, q ≤ j → ∀ x, l[j]? = some x → bef r x) (h2 : q = 0 ∨ ∀ x, l[q - 1]? = some x → ¬ bef r x) : Ord (insL r q l) := by
  unfold Ord insL at *
  have hp := h
  rw [← List.take_append_drop q l, List.pairwise_append] at hp
  rw [List.pairwise_append]
  refine ⟨hp.1, ?_, ?_⟩
  · rw [List.singleton_append, List.pairwise_cons]
    refine ⟨fun x hx => ?_, hp.2.1⟩
    obtain ⟨i, hi, rfl⟩ := List.mem_iff_getElem.1 hx
    have hl : i < l.length - q := by simpa using hi
    refine bef_asymm (h1 (q + i) (by omega) _ ?_)
    rw [List.getElem_drop]
    exact List.getElem?_eq_getElem (by omega)
  · intro x hx y hy
    rw [List.singleton_append, List.mem_cons] at hy
    rcases hy with rfl | hy
    · obtain ⟨i, hi, rfl⟩ := List.mem_iff_getElem.1 hx
      have hi2 : i < q ∧ i < l.length := by simp at hi; omega
      rw [List.getElem_take]
      rcases h2 with h2 | h2
      · omega
      · have hlast : q - 1 < l.length := by omega
        have hb := h2 _ (List.getElem?_eq_getElem hlast)
        by_cases e : i = q - 1
        · subst e; exact hb
        · exact bef_ntrans hb ((List.pairwise_iff_getElem.1 h) i (q - 1) hi2.2 hlast (by omega))
    · exact hp.2.2 x hx y hy
end Go.Proofs.Ytinmhjgnapbkmaa.Pk
