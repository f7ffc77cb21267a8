/- What the digest of one rule, and of two, comes to: sums of words; plain. -/
import Derived.Test.YtinmhjgnapbkmaaDigMath
namespace Go.Proofs.Ytinmhjgnapbkmaa.Dg
open Go O Pk Tb
set_option linter.unusedVariables false
set_option linter.unusedSimpArgs false

theorem tot_join (l m : List Int) (h : l.length % 2 = 0) : tot (l ++ m) (l ++ m).length = tot l l.length + tot m m.length := by
  have front : ∀ k, k ≤ l.length → tot (l ++ m) k = tot l k := by
    intro k
    induction k with
    | zero => intro _; rfl
    | succ k ih =>
      intro hk
      simp only [tot]
      rw [ih (by omega)]
      have e : (l ++ m).getD k 0 = l.getD k 0 := by simp [List.getD, List.getElem?_append_left (show k < l.length by omega)]
      rw [e]
  have back : ∀ k, k ≤ m.length → tot (l ++ m) (l.length + k) = tot l l.length + tot m k := by
    intro k
    induction k with
    | zero => intro _; rw [Nat.add_zero, front _ (Nat.le_refl _)]; simp [tot]
    | succ k ih =>
      intro hk
      rw [← Nat.add_assoc]
      simp only [tot]
      rw [ih (by omega)]
      have e : (l ++ m).getD (l.length + k) 0 = m.getD k 0 := by simp [List.getD, List.getElem?_append_right]
      rw [e]
      by_cases hk2 : k % 2 = 0
      · rw [if_pos (by omega), if_pos hk2]; omega
      · rw [if_neg (by omega), if_neg hk2]; omega
  rw [List.length_append]
  exact back _ (Nat.le_refl _)
theorem tot_word (t : Int) (h0 : 0 ≤ t) (h1 : t ≤ 65535) : tot (wordL t) (wordL t).length = t := by
  rw [word_len, word_is]
  simp [tot]
  omega
/-- the words of a rule, added up -/
def wR (r : Rl) : Int := tot (ruB r) (ruB r).length
def sumW : List Rl → Int
  | [] => 0
  | r :: l => wR r + sumW l
theorem ruB_even (r : Rl) : (ruB r).length % 2 = 0 := by
  cases h : mayR r
  · rw [ruB_no h]; rfl
  · rw [ruB_len h]
theorem tot_rus (l : List Rl) : tot (rusB l) (rusB l).length = sumW l := by
  induction l with
  | nil => rfl
  | cons r l ih => rw [rusB_cons, tot_join _ _ (ruB_even r), ih]; rfl
theorem sumW_perm {l m : List Rl} (h : l.Perm m) : sumW l = sumW m := by
  induction h with
  | nil => rfl
  | cons x _ ih => simp only [sumW, ih]
  | swap x y l => simp only [sumW]; omega
  | trans _ _ a b => exact a.trans b
theorem ofN_is (t : Int) (l : List Rl) (h0 : 0 ≤ t) (h1 : t ≤ 65535) : ofN t l = 65535 - fo (t + sumW l) := by
  unfold ofN sumN ofL
  rw [tot_join _ _ (by rw [word_len]), tot_word t h0 h1, tot_rus, sumW_perm (sort_perm l)]
theorem wR_is {r : Rl} (h : mayR r = true) : wR r = r.a / 65536 % 65536 + r.a % 65536 + r.n * 256 + (r.i + 1) + r.p * 256 + r.k + r.t * 256 := by
  obtain ⟨a, n, i, p, k, t⟩ := r
  have hb := R.okR_bd (show R.okR a n i p k t = true from h)
  unfold wR
  rw [ruB_len h, ruB_yes h, (R.body_ok (show R.okR a n i p k t = true from h)).2]
  rw [putL_yes (R.okP_four ⟨hb.1.1, hb.1.2⟩), putL_yes (R.okP_one ⟨hb.2.1.1, by omega⟩), putL_yes (R.okP_one (show 0 ≤ i + 1 ∧ i + 1 ≤ 255 by omega)), putL_yes (R.okP_one ⟨hb.2.2.2.1.1, hb.2.2.2.1.2⟩), putL_yes (R.okP_one (show 0 ≤ k ∧ k ≤ 255 by omega)), putL_yes (R.okP_one (show 0 ≤ t ∧ t ≤ 255 by omega))]
  simp only [show (4 : Int).toNat = 4 from rfl, show (1 : Int).toNat = 1 from rfl, digs4, digs1]
  simp [tot]
  omega
theorem fo_same {a b : Int} (ha : 0 < a) (hb : 0 < b) : fo a = fo b ↔ (a - b) % 65535 = 0 := by
  unfold fo
  rw [if_neg (by omega), if_neg (by omega)]
  omega
theorem wR_bd {r : Rl} (h : mayR r = true) : 0 ≤ wR r := by
  rw [wR_is h]
  have hb := R.okR_bd (show R.okR r.a r.n r.i r.p r.k r.t = true from h)
  omega
/-- whether two single rules are told alike -/
theorem one_same {t u : Int} {r s : Rl} (ht : 1 ≤ t ∧ t ≤ 4095) (hu : 1 ≤ u ∧ u ≤ 4095) (hr : mayR r = true) (hs : mayR s = true) : (ofN t [r] = ofN u [s]) ↔ (t + wR r - (u + wR s)) % 65535 = 0 := by
  rw [ofN_is t [r] (by omega) (by omega), ofN_is u [s] (by omega) (by omega)]
  have h1 := wR_bd hr
  have h2 := wR_bd hs
  simp only [sumW, Int.add_zero]
  rw [← fo_same (by omega) (by omega)]
  omega
end Go.Proofs.Ytinmhjgnapbkmaa.Dg
