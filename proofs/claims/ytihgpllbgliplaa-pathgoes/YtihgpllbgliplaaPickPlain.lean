/- What the number that First answers says of the rules: plain. -/
import Derived.Test.YtihgpllbgliplaaPickFirst
namespace Go.Proofs.Ytihgpllbgliplaa
open Go Pk
set_option linter.unusedVariables false
set_option linter.unusedSimpArgs false

theorem ahead_self (r : Rl) : Pk.ahead r r = false := by rw [ahead_not]; omega
theorem ahead_trans {r s t : Rl} (h : Pk.ahead r s = true) (g : Pk.ahead s t = true) : Pk.ahead r t = true := by
  rw [ahead_iff] at *; omega
theorem ahead_left {r s t : Rl} (h : Pk.ahead t s = false) (g : Pk.ahead r s = true) : Pk.ahead r t = true := by
  rw [ahead_not] at h; rw [ahead_iff] at *; omega
theorem ahead_right {r s t : Rl} (h : Pk.ahead t s = false) (g : Pk.ahead s r = true ∨ Pk.ahead s r = false) (k : Pk.ahead s r = false) (g2 : Pk.ahead t r = true) : False := by
  rw [ahead_not] at h k; rw [ahead_iff] at g2; omega
/-- what First's number says, of the first k -/
theorem firstK_is (x d : Int) (l : List Rl) (k : Nat) :
    (firstK x d l k = -1 ∧ ∀ i, i < k → fits x d (l.getD i default) = false) ∨
    (∃ q : Nat, q < k ∧ firstK x d l k = (q : Int) ∧ fits x d (l.getD q default) = true ∧ ∀ i, i < k → fits x d (l.getD i default) = true → Pk.ahead (l.getD i default) (l.getD q default) = false) := by
  induction k with
  | zero => exact .inl ⟨rfl, fun i h => absurd h (Nat.not_lt_zero _)⟩
  | succ k ih =>
    unfold firstK
    by_cases hf : fits x d (l.getD k default) = true
    · rw [if_pos hf]
      rcases ih with ⟨e, hn⟩ | ⟨q, hq, e, hqf, hn⟩
      · rw [if_pos e]
        refine .inr ⟨k, by omega, rfl, hf, fun i hi hfi => ?_⟩
        by_cases hik : i = k
        · subst hik; exact ahead_self _
        · rw [hn i (by omega)] at hfi; cases hfi
      · rw [if_neg (by omega), e, Int.toNat_natCast]
        by_cases ha : Pk.ahead (l.getD k default) (l.getD q default) = true
        · rw [if_pos ha]
          refine .inr ⟨k, by omega, rfl, hf, fun i hi hfi => ?_⟩
          by_cases hik : i = k
          · subst hik; exact ahead_self _
          · have := hn i (by omega) hfi
            cases h2 : Pk.ahead (l.getD i default) (l.getD k default)
            · rfl
            · rw [ahead_trans h2 ha] at this; cases this
        · rw [if_neg ha]
          refine .inr ⟨q, by omega, rfl, hqf, fun i hi hfi => ?_⟩
          by_cases hik : i = k
          · subst hik; simpa using ha
          · exact hn i (by omega) hfi
    · rw [if_neg hf]
      have hf' : fits x d (l.getD k default) = false := by simpa using hf
      rcases ih with ⟨e, hn⟩ | ⟨q, hq, e, hqf, hn⟩
      · refine .inl ⟨e, fun i hi => ?_⟩
        by_cases hik : i = k
        · subst hik; exact hf'
        · exact hn i (by omega)
      · refine .inr ⟨q, by omega, e, hqf, fun i hi hfi => ?_⟩
        by_cases hik : i = k
        · subst hik; rw [hf'] at hfi; cases hfi
        · exact hn i (by omega) hfi
theorem firstL_is (x d : Int) (l : List Rl) :
    (firstL x d l = -1 ∧ ∀ i, i < l.length → fits x d (l.getD i default) = false) ∨
    (∃ q : Nat, q < l.length ∧ firstL x d l = (q : Int) ∧ fits x d (l.getD q default) = true ∧ ∀ i, i < l.length → fits x d (l.getD i default) = true → Pk.ahead (l.getD i default) (l.getD q default) = false) := firstK_is x d l l.length
theorem firstK_front (x d : Int) (l m : List Rl) (k : Nat) (hk : k ≤ l.length) : firstK x d (l ++ m) k = firstK x d l k := by
  induction k with
  | zero => rfl
  | succ k ih =>
    have hb := firstK_bd x d l k
    have e1 : (l ++ m).getD k default = l.getD k default := by
      rw [List.getD_eq_getElem?_getD, List.getD_eq_getElem?_getD, List.getElem?_append_left (by omega)]
    unfold firstK
    rw [e1, ih (by omega)]
    split
    · split
      · rfl
      · have e2 : (l ++ m).getD (firstK x d l k).toNat default = l.getD (firstK x d l k).toNat default := by
          rw [List.getD_eq_getElem?_getD, List.getD_eq_getElem?_getD, List.getElem?_append_left (by omega)]
        rw [e2]
    · rfl
theorem getD_mid (l : List Rl) (r : Rl) : (l ++ [r]).getD l.length default = r := by
  rw [List.getD_eq_getElem?_getD, List.getElem?_append_right (by omega)]; simp
theorem getD_front {l m : List Rl} {k : Nat} (hk : k < l.length) : (l ++ m).getD k default = l.getD k default := by
  rw [List.getD_eq_getElem?_getD, List.getD_eq_getElem?_getD, List.getElem?_append_left hk]
theorem firstK_succ (x d : Int) (l : List Rl) (k : Nat) : firstK x d l (k + 1) = if fits x d (l.getD k default) = true then (if firstK x d l k = -1 then (k : Int) else if Pk.ahead (l.getD k default) (l.getD (firstK x d l k).toNat default) = true then (k : Int) else firstK x d l k) else firstK x d l k := rfl
/-- one more -/
theorem firstL_more (x d : Int) (l : List Rl) (r : Rl) :
    firstL x d (l ++ [r]) = if fits x d r = true then (if firstL x d l = -1 then (l.length : Int) else if Pk.ahead r (l.getD (firstL x d l).toNat default) = true then (l.length : Int) else firstL x d l) else firstL x d l := by
  have hl : (l ++ [r]).length = l.length + 1 := by simp
  have hb := firstK_bd x d l l.length
  unfold firstL
  rw [hl]
  rw [firstK_succ, getD_mid, firstK_front _ _ _ _ _ (Nat.le_refl _)]
  split
  · split
    · rfl
    · rw [getD_front (by omega)]
  · rfl
/-- of those that fit alone -/
def keepK (x d : Int) (l : List Rl) : List Rl := l.filter (fits x d)
theorem keepK_take (x d : Int) (l : List Rl) (k : Nat) (hk : k < l.length) : keepK x d (l.take (k + 1)) = if fits x d (l.getD k default) = true then keepK x d (l.take k) ++ [l.getD k default] else keepK x d (l.take k) := by
  have e : l.take (k + 1) = l.take k ++ [l.getD k default] := by
    rw [List.take_add_one, getD_at hk]; rfl
  unfold keepK
  rw [e, List.filter_append]
  generalize l.getD k default = r
  split
  · next h => simp [List.filter, h]
  · next h => simp [List.filter, h]
/-- the one that counts is the same one -/
theorem first_keep (x d : Int) (l : List Rl) (k : Nat) (hk : k ≤ l.length) :
    (firstK x d l k = -1 ∧ keepK x d (l.take k) = []) ∨
    (∃ q p : Nat, q < k ∧ p < (keepK x d (l.take k)).length ∧ firstK x d l k = (q : Int) ∧ firstL x d (keepK x d (l.take k)) = (p : Int) ∧ (keepK x d (l.take k)).getD p default = l.getD q default) := by
  induction k with
  | zero => exact .inl ⟨rfl, rfl⟩
  | succ k ih =>
    rw [keepK_take x d l k (by omega)]
    unfold firstK
    by_cases hf : fits x d (l.getD k default) = true
    · rw [if_pos hf, if_pos hf, firstL_more, if_pos hf]
      rcases ih (by omega) with ⟨e, hn⟩ | ⟨q, p, hq, hp, e, e2, e3⟩
      · rw [if_pos e, hn]
        refine .inr ⟨k, 0, by omega, by simp, rfl, ?_, ?_⟩
        · rw [if_pos (by rfl)]; rfl
        · rfl
      · rw [if_neg (show ¬ firstK x d l k = -1 by omega), if_neg (show ¬ firstL x d (keepK x d (l.take k)) = -1 by omega), e, e2, Int.toNat_natCast, Int.toNat_natCast, e3]
        by_cases ha : Pk.ahead (l.getD k default) (l.getD q default) = true
        · rw [if_pos ha, if_pos ha]
          exact .inr ⟨k, (keepK x d (l.take k)).length, by omega, by simp, rfl, rfl, getD_mid _ _⟩
        · rw [if_neg ha, if_neg ha]
          exact .inr ⟨q, p, by omega, by simp; omega, rfl, rfl, by rw [getD_front hp]; exact e3⟩
    · rw [if_neg hf, if_neg hf]
      rcases ih (by omega) with h | ⟨q, p, hq, hp, e, e2, e3⟩
      · exact .inl h
      · exact .inr ⟨q, p, by omega, hp, e, e2, e3⟩
theorem firstL_keep (x d : Int) (l : List Rl) :
    (firstL x d l = -1 ∧ keepK x d l = [] ∧ firstL x d (keepK x d l) = -1) ∨
    (∃ q p : Nat, q < l.length ∧ p < (keepK x d l).length ∧ firstL x d l = (q : Int) ∧ firstL x d (keepK x d l) = (p : Int) ∧ (keepK x d l).getD p default = l.getD q default) := by
  have h := first_keep x d l l.length (Nat.le_refl _)
  rw [List.take_length] at h
  rcases h with ⟨e, hn⟩ | h
  · exact .inl ⟨e, hn, by rw [hn]; rfl⟩
  · exact .inr h
end Go.Proofs.Ytihgpllbgliplaa
