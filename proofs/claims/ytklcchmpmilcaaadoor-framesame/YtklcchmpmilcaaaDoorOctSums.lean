/- The plain arithmetic of checksums of changed, turned and joined bytes that the claims on package octets rest on; no program in sight. -/
import Derived.Test.YtklcchmpmilcaaaDoorOctMath
namespace Go.Proofs.YtklcchmpmilcaaaDoor.O
open Go
set_option linter.unusedVariables false
set_option linter.unusedSimpArgs false

theorem getD_set (l : List Int) (p q : Nat) (v : Int) (hp : p < l.length) : (l.set p v).getD q 0 = if q = p then v else l.getD q 0 := by
  simp only [List.getD, List.getElem?_set]
  by_cases h : q = p
  · subst h; simp [hp]
  · rw [if_neg (by omega), if_neg h]
theorem tot_set (l : List Int) (p : Nat) (v : Int) (hp : p < l.length) (n : Nat) : tot (l.set p v) n = tot l n + if p < n then (if p % 2 = 0 then (v - l.getD p 0) * 256 else v - l.getD p 0) else 0 := by
  induction n with
  | zero => simp [tot]
  | succ n ih =>
    simp only [tot]
    rw [ih, getD_set l p n v hp]
    by_cases h : n = p
    · subst h
      rw [if_neg (Nat.lt_irrefl _), if_pos rfl, if_pos (Nat.lt_succ_self _)]
      by_cases h2 : n % 2 = 0
      · simp only [if_pos h2]; omega
      · simp only [if_neg h2]; omega
    · rw [if_neg h]
      by_cases h1 : p < n
      · rw [if_pos h1, if_pos (show p < n + 1 by omega)]; omega
      · rw [if_neg h1, if_neg (show ¬ p < n + 1 by omega)]; omega
theorem tot_set_even (l : List Int) (p : Nat) (v : Int) (hp : p < l.length) (he : p % 2 = 0) (n : Nat) (hn : p < n) : tot (l.set p v) n = tot l n + (v - l.getD p 0) * 256 := by
  rw [tot_set l p v hp, if_pos hn, if_pos he]
theorem tot_set_odd (l : List Int) (p : Nat) (v : Int) (hp : p < l.length) (he : ¬ p % 2 = 0) (n : Nat) (hn : p < n) : tot (l.set p v) n = tot l n + (v - l.getD p 0) := by
  rw [tot_set l p v hp, if_pos hn, if_neg he]
theorem tot_append (l r : List Int) (n : Nat) (hn : n ≤ l.length) : tot (l ++ r) n = tot l n := by
  induction n with
  | zero => rfl
  | succ n ih =>
    simp only [tot]
    rw [ih (by omega)]
    have : (l ++ r).getD n 0 = l.getD n 0 := by simp [List.getD, List.getElem?_append_left (show n < l.length by omega)]
    rw [this]
theorem sum_zero {l : List Int} (h : Oct l) : sumN l = 0 ↔ 0 < tot l l.length ∧ tot l l.length % 65535 = 0 := by
  have hb := (tot_bd h l.length).1
  unfold sumN fo
  split <;> omega
theorem ok_sum {l : List Int} (h : Oct l) : okP (sumN l) 2 = true := by
  have hb := sumN_bd h
  exact okP_mk (by decide) hb.1 (by show sumN l < 65536; omega)
theorem oct_append {l r : List Int} (h : Oct l) (h2 : Oct r) : Oct (l ++ r) := fun z hz => by
  rcases List.mem_append.1 hz with h1 | h1
  · exact h z h1
  · exact h2 z h1
theorem oct_set {l : List Int} (h : Oct l) {p : Nat} {v : Int} (h0 : 0 ≤ v) (h1 : v ≤ 255) : Oct (l.set p v) := fun z hz => by
  rcases List.mem_or_eq_of_mem_set hz with h2 | rfl
  · exact h z h2
  · exact ⟨h0, h1⟩
theorem sum_append {l : List Int} (h : Oct l) (he : l.length % 2 = 0) : sumN (l ++ putL (sumN l) 2) = 0 := by
  have hb := sumN_bd h
  have ht := (tot_bd h l.length).1
  have e : putL (sumN l) 2 = [sumN l / 256 % 256, sumN l % 256] := by
    rw [putL_yes (ok_sum h)]
    show digs (sumN l) 2 = _
    rw [digs2, Int.ediv_one]
  have ho : Oct (l ++ putL (sumN l) 2) := oct_append h (putL_bd _ _)
  rw [sum_zero ho]
  have hl : (l ++ putL (sumN l) 2).length = l.length + 1 + 1 := by rw [e]; simp
  rw [hl, tot_odd (by omega), tot_even he, tot_append _ _ _ (Nat.le_refl _)]
  have g0 : (l ++ putL (sumN l) 2).getD l.length 0 = sumN l / 256 % 256 := by rw [e]; simp [List.getD]
  have g1 : (l ++ putL (sumN l) 2).getD (l.length + 1) 0 = sumN l % 256 := by
    rw [e]; simp [List.getD, List.getElem?_append_right]
  rw [g0, g1]
  have hs : sumN l = 65535 - fo (tot l l.length) := rfl
  unfold fo at hs
  split at hs <;> omega
theorem sum_changed {l : List Int} (h : Oct l) (h0 : sumN l = 0) {p : Nat} (hp : p < l.length) {v : Int} (v0 : 0 ≤ v) (v1 : v ≤ 255) (hv : v ≠ l.getD p 0) : sumN (l.set p v) ≠ 0 := by
  rw [sum_zero h] at h0
  intro h2
  rw [sum_zero (oct_set h v0 v1), List.length_set, tot_set l p v hp, if_pos hp] at h2
  have hd := h.at p
  by_cases h3 : p % 2 = 0
  · simp only [if_pos h3] at h2; omega
  · simp only [if_neg h3] at h2; omega
/-- two pairs of bytes changed for each other -/
def turn (l : List Int) (i k : Nat) : List Int := (((l.set (2 * i) (l.getD (2 * k) 0)).set (2 * i + 1) (l.getD (2 * k + 1) 0)).set (2 * k) (l.getD (2 * i) 0)).set (2 * k + 1) (l.getD (2 * i + 1) 0)
theorem turn_len (l : List Int) (i k : Nat) : (turn l i k).length = l.length := by simp [turn]
theorem sum_turn (l : List Int) (i k : Nat) (hi : 2 * i + 1 < l.length) (hk : 2 * k + 1 < l.length) : sumN (turn l i k) = sumN l := by
  unfold sumN
  rw [turn_len]
  have e : tot (turn l i k) l.length = tot l l.length := by
    unfold turn
    rw [tot_set_odd _ _ _ (by simp; omega) (by omega) _ (by omega), tot_set_even _ _ _ (by simp; omega) (by omega) _ (by omega), tot_set_odd _ _ _ (by simp; omega) (by omega) _ (by omega), tot_set_even _ _ _ (by omega) (by omega) _ (by omega)]
    have g1 : (l.set (2 * i) (l.getD (2 * k) 0)).getD (2 * i + 1) 0 = l.getD (2 * i + 1) 0 := by rw [getD_set _ _ _ _ (by omega), if_neg (by omega)]
    have g2 : ((l.set (2 * i) (l.getD (2 * k) 0)).set (2 * i + 1) (l.getD (2 * k + 1) 0)).getD (2 * k) 0 = l.getD (2 * k) 0 := by
      rw [getD_set _ _ _ _ (by simp; omega), if_neg (by omega), getD_set _ _ _ _ (by omega)]
      by_cases h : i = k
      · subst h; rw [if_pos rfl]
      · rw [if_neg (by omega)]
    have g3 : (((l.set (2 * i) (l.getD (2 * k) 0)).set (2 * i + 1) (l.getD (2 * k + 1) 0)).set (2 * k) (l.getD (2 * i) 0)).getD (2 * k + 1) 0 = l.getD (2 * k + 1) 0 := by
      rw [getD_set _ _ _ _ (by simp; omega), if_neg (by omega), getD_set _ _ _ _ (by simp; omega)]
      by_cases h : i = k
      · subst h; rw [if_pos rfl]
      · rw [if_neg (by omega), getD_set _ _ _ _ (by omega), if_neg (by omega)]
    rw [g1, g2, g3]
    omega
  rw [e]
theorem oct_turn {l : List Int} (h : Oct l) {i k : Nat} : Oct (turn l i k) :=
  oct_set (oct_set (oct_set (oct_set h (h.at _).1 (h.at _).2) (h.at _).1 (h.at _).2) (h.at _).1 (h.at _).2) (h.at _).1 (h.at _).2
theorem getD_some {l : List Int} {p : Nat} {x : Int} (hp : p < l.length) (h : l.getD p 0 = x) : l[p]? = some x := by
  rw [List.getElem?_eq_getElem hp, ← h]; simp only [List.getD, List.getElem?_eq_getElem hp, Option.getD_some]
theorem xor_other {a b : Int} (a0 : 0 ≤ a) (a1 : a ≤ 255) (b0 : 0 ≤ b) (b1 : b ≤ 255) (hb : b ≠ 0) : 0 ≤ bits .xor .u8 a b ∧ bits .xor .u8 a b ≤ 255 ∧ bits .xor .u8 a b ≠ a := by
  rw [u8_xor a b a0 (by omega) b0 (by omega)]
  have hx : a.toNat ^^^ b.toNat < 2 ^ 8 := Nat.xor_lt_two_pow (by omega) (by omega)
  refine ⟨by omega, by omega, fun h => ?_⟩
  have h1 : a.toNat ^^^ b.toNat = a.toNat := by omega
  have h2 : a.toNat ^^^ (a.toNat ^^^ b.toNat) = 0 := by rw [h1]; exact Nat.xor_self _
  rw [← Nat.xor_assoc, Nat.xor_self, Nat.zero_xor] at h2
  omega
end Go.Proofs.YtklcchmpmilcaaaDoor.O
