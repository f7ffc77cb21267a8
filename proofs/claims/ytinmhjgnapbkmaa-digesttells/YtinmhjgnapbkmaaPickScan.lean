/- Steps of the scans, and of the loops of both partitions. -/
import Derived.Test.YtinmhjgnapbkmaaPickSmall
import Derived.Sort.LotC
namespace Go.Proofs.Ytinmhjgnapbkmaa
open Go.ChangeShapes Go.WideShapes Go.ChangeAt Go.RowKit Go.Sort Go.Shelf
set_option linter.unusedVariables false
set_option linter.unusedSimpArgs false

theorem w64_of {x : Int} {y : Nat} (h : x = (y : Int)) (hy : y ≤ 4000000) : wrap64 x = (y : Int) := by rw [h]; exact wrap_6 _ (by omega) (by omega)
theorem w64i_of {x : Int} {y : Nat} (h : x = (y : Int)) (hy : y ≤ 4000000) : IntKind.i64.wrap x = (y : Int) := by rw [h]; exact wrap_i _ (by omega) (by omega)
theorem part_facts (a b N : Nat) (hab : a < b) (h1 : 1 ≤ b) (hb : b ≤ N) (hN : N ≤ 1000) : ∃ i j : Nat, a + 1 = i ∧ b - 1 = j ∧ (a < i ∧ i ≤ j + 1 ∧ j < b) ∧ IntKind.i64.wrap ((a : Int) + 1) = (i : Int) ∧ wrap64 ((a : Int) + 1) = (i : Int) ∧ IntKind.i64.wrap ((b : Int) - 1) = (j : Int) ∧ wrap64 ((b : Int) - 1) = (j : Int) := by
  refine ⟨a + 1, b - 1, rfl, rfl, by omega, ?_, ?_, ?_, ?_⟩
  · rw [wrap_i _ (by omega) (by omega)]; omega
  · rw [wrap_6 _ (by omega) (by omega)]; omega
  · rw [wrap_i _ (by omega) (by omega)]; omega
  · rw [wrap_6 _ (by omega) (by omega)]; omega
theorem Row.c2 {n : Nat} {w0 w : World} {B : Nat} {d : Array (Fin (n + 1))} (h : Row w0 B d w) {i j : Nat} (hi : i < d.size) (hj : j < d.size) (v : Value) : ∃ u, (w.setCell ⟨B, i, none⟩ v).cell? ⟨B, j, none⟩ = some u := by
  by_cases e : i = j
  · subst e; exact ⟨_, World.cell?_setCell_same' _ _ _ (by rw [h.cell i hi]; rfl)⟩
  · exact ⟨_, (World.cell?_setCell_other w ⟨B, i, none⟩ ⟨B, j, none⟩ _ (by intro h; injection h with h1 h2; exact e h2)).trans (h.cell j hj)⟩
section
variable {α : Type} [Inhabited α] {p : α → Bool} {d : Array α} {i j : Nat}
theorem up_go (h : i ≤ j) (hp : p d[i]! = true) : scanUp p d j i = scanUp p d j (i + 1) := by
  rw [scanUp, if_pos (by simp [h, hp])]
theorem up_stop (hp : p d[i]! = false) : scanUp p d j i = i := by rw [scanUp, if_neg (by simp [hp])]
theorem up_end (h : j < i) : scanUp p d j i = i := by rw [scanUp, if_neg (by simp; intro h2; omega)]
theorem down_go (h : i ≤ j + 1) (hp : p d[j + 1]! = true) : scanDown p d i (j + 1) = scanDown p d i j := by
  rw [scanDown, if_pos (by simp [h, hp])]
theorem down_stop (hp : p d[j]! = false) : scanDown p d i j = j := by
  cases j with
  | zero => rfl
  | succ j => rw [scanDown, if_neg (by simp [hp])]
theorem down_end (h : j < i) : scanDown p d i j = j := by
  cases j with
  | zero => rfl
  | succ j => rw [scanDown, if_neg (by simp; intro h2; omega)]
variable {lt : α → α → Bool} {a k m : Nat} {r : Nat × Array α}
theorem part_done (h : partLoop lt a i j d = r) (h1 : scanUp (fun x => lt x d[a]!) d j i = k) (h2 : scanDown (fun x => !lt x d[a]!) d k j = m) (h3 : m < k) : r = (m, d) := by
  subst h1; rw [partLoop_eq, h2, if_pos h3] at h; exact h.symm
theorem part_next (h : partLoop lt a i j d = r) (h1 : scanUp (fun x => lt x d[a]!) d j i = k) (h2 : scanDown (fun x => !lt x d[a]!) d k j = m) (h3 : ¬ m < k) : partLoop lt a (k + 1) (m - 1) (swp d k m) = r := by
  subst h1; rw [partLoop_eq, h2, if_neg h3] at h; exact h
theorem partE_done (h : partEqLoop lt a i j d = r) (h1 : scanUp (fun x => !lt d[a]! x) d j i = k) (h2 : scanDown (fun x => lt d[a]! x) d k j = m) (h3 : m < k) : r = (k, d) := by
  subst h1; rw [partEqLoop_eq, h2, if_pos h3] at h; exact h.symm
theorem partE_next (h : partEqLoop lt a i j d = r) (h1 : scanUp (fun x => !lt d[a]! x) d j i = k) (h2 : scanDown (fun x => lt d[a]! x) d k j = m) (h3 : ¬ m < k) : partEqLoop lt a (k + 1) (m - 1) (swp d k m) = r := by
  subst h1; rw [partEqLoop_eq, h2, if_neg h3] at h; exact h
end
end Go.Proofs.Ytinmhjgnapbkmaa
