/- Rules in order: there is one such list; no program in sight. -/
import Derived.Test.YtinmhjgnapbkmaaPickMath
import Derived.Sort.LotA
namespace Go.Proofs.Ytinmhjgnapbkmaa.Pk
open Go M O R
set_option linter.unusedVariables false
set_option linter.unusedSimpArgs false

/-- does a rule stand ahead of another one? -/
def bef (r s : Rl) : Prop := s.n < r.n ∨ (r.n = s.n ∧ (s.p < r.p ∨ (r.p = s.p ∧ (s.i < r.i ∨ (r.i = s.i ∧ (r.a < s.a ∨ (r.a = s.a ∧ (r.k < s.k ∨ (r.k = s.k ∧ r.t < s.t)))))))))
instance (r s : Rl) : Decidable (bef r s) := by unfold bef; infer_instance
theorem rl_ext {r s : Rl} (h1 : r.a = s.a) (h2 : r.n = s.n) (h3 : r.i = s.i) (h4 : r.p = s.p) (h5 : r.k = s.k) (h6 : r.t = s.t) : r = s := by
  cases r; cases s; simp_all
theorem bef_eq {r s : Rl} (h : ¬ bef r s) (h2 : ¬ bef s r) : r = s := by
  unfold bef at h h2
  exact rl_ext (by omega) (by omega) (by omega) (by omega) (by omega) (by omega)
theorem bef_irrefl (r : Rl) : ¬ bef r r := by unfold bef; omega
theorem bef_asymm {r s : Rl} (h : bef r s) : ¬ bef s r := by unfold bef at *; omega
theorem bef_ntrans {r s t : Rl} (h : ¬ bef r s) (h2 : ¬ bef s t) : ¬ bef r t := by unfold bef at *; omega
theorem cm_neg (a b : Int) : cm a b < 0 ↔ a < b := by
  unfold cm; split
  · constructor <;> intro <;> omega
  · split <;> constructor <;> intro h <;> omega
theorem cm_zero (a b : Int) : cm a b = 0 ↔ a = b := by
  unfold cm; split
  · constructor <;> intro h <;> omega
  · split <;> constructor <;> intro h <;> omega
theorem cf_neg (r s : Rl) (x y : Int) : cfR r s x y < 0 ↔ bef r s ∨ (r = s ∧ x < y) := by
  have key : (r = s) ↔ (r.a = s.a ∧ r.n = s.n ∧ r.i = s.i ∧ r.p = s.p ∧ r.k = s.k ∧ r.t = s.t) := ⟨fun h => by subst h; simp, fun h => rl_ext h.1 h.2.1 h.2.2.1 h.2.2.2.1 h.2.2.2.2.1 h.2.2.2.2.2⟩
  rw [key]
  unfold cfR bef
  by_cases h1 : ahead r s = true
  · rw [if_pos h1]
    rw [ahead_iff] at h1
    constructor
    · intro _; omega
    · intro _; omega
  · rw [if_neg h1]
    rw [ahead_iff] at h1
    by_cases h2 : ahead s r = true
    · rw [if_pos h2]
      rw [ahead_iff] at h2
      constructor <;> intro <;> omega
    · rw [if_neg h2]
      rw [ahead_iff] at h2
      unfold or4
      by_cases c1 : cm r.a s.a = 0
      · rw [if_pos c1]
        rw [cm_zero] at c1
        by_cases c2 : cm r.k s.k = 0
        · rw [if_pos c2]
          rw [cm_zero] at c2
          by_cases c3 : cm r.t s.t = 0
          · rw [if_pos c3, cm_neg]
            rw [cm_zero] at c3
            omega
          · rw [if_neg c3, cm_neg]
            rw [cm_zero] at c3
            omega
        · rw [if_neg c2, cm_neg]
          rw [cm_zero] at c2
          omega
      · rw [if_neg c1, cm_neg]
        rw [cm_zero] at c1
        omega
/-- a list in which none stands behind one that it is to be ahead of -/
def Ord (l : List Rl) : Prop := l.Pairwise (fun r s => ¬ bef s r)
theorem ord_unique : ∀ {l m : List Rl}, l.Perm m → Ord l → Ord m → l = m
  | [], m, h, _, _ => (List.nil_perm.1 h).symm
  | r :: l, [], h, _, _ => absurd h.symm (by simp)
  | r :: l, s :: m, h, h1, h2 => by
    obtain ⟨a1, a2⟩ := List.pairwise_cons.1 h1
    obtain ⟨b1, b2⟩ := List.pairwise_cons.1 h2
    have e : r = s := by
      rcases List.mem_cons.1 (h.mem_iff.1 (List.mem_cons_self (a := r) (l := l))) with e | hr
      · exact e
      · rcases List.mem_cons.1 (h.mem_iff.2 (List.mem_cons_self (a := s) (l := m))) with e | hs
        · exact e.symm
        · exact bef_eq (b1 r hr) (a1 s hs)
    subst e
    rw [ord_unique (h.cons_inv) a2 b2]
def sortL (l : List Rl) : List Rl := l.mergeSort (fun r s => !decide (bef s r))
theorem sort_perm (l : List Rl) : (sortL l).Perm l := List.mergeSort_perm l _
theorem sort_ord (l : List Rl) : Ord (sortL l) := by
  have := List.pairwise_mergeSort (le := fun r s : Rl => !decide (bef s r)) (fun a b c h1 h2 => by
    simp only [Bool.not_eq_true', decide_eq_false_iff_not] at h1 h2 ⊢
    exact bef_ntrans h2 h1) (fun a b => by
    by_cases h : bef b a
    · have := bef_asymm h; simp [this]
    · simp [h]) l
  unfold Ord sortL
  refine this.imp ?_
  intro a b h
  simpa using h
theorem sort_is {l m : List Rl} (h : m.Perm l) (ho : Ord m) : m = sortL l := ord_unique (h.trans (sort_perm l).symm) ho (sort_ord l)
end Go.Proofs.Ytinmhjgnapbkmaa.Pk
