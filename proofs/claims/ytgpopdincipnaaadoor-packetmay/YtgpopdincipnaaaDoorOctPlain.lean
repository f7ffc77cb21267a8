/- More plain arithmetic for the claims on package octets: digits and numbers there and back, the order of bytes, checksums of changed bytes; no program in sight. -/
import Derived.Test.YtgpopdincipnaaaDoorOctMath
import Derived.Laws.BytesArg
import Derived.Laws.Strings
namespace Go.Proofs.YtgpopdincipnaaaDoor.O
open Go
set_option linter.unusedVariables false
set_option linter.unusedSimpArgs false

/-! ### the number of some bytes is of these alone -/
theorem num_take (l : List Int) (j k : Nat) (h : k ≤ j) : num (l.take j) k = num l k := by
  induction k with
  | zero => rfl
  | succ k ih =>
    have : k < j := by omega
    simp only [num]; rw [ih (by omega)]
    simp [List.getD, this]
theorem getN_take {l : List Int} {j : Nat} (h : okW j = true) (hj : j ≤ l.length) : getN (l.take j) j = getN l j := by
  rw [getN_ok h (by simp; omega), getN_ok h (by omega), Int.toNat_natCast, num_take _ _ _ (Nat.le_refl _)]

/-! ### the order of bytes is the order of numbers -/
theorem u8_lt {a b : Int} (ha : 0 ≤ a) (ha2 : a ≤ 255) (hb : 0 ≤ b) (hb2 : b ≤ 255) : (UInt8.ofNat a.toNat < UInt8.ofNat b.toNat) ↔ a < b := by
  rw [UInt8.lt_iff_toNat_lt, UInt8.toNat_ofNat', UInt8.toNat_ofNat']; omega
theorem u8_eq {a b : Int} (ha : 0 ≤ a) (ha2 : a ≤ 255) (hb : 0 ≤ b) (hb2 : b ≤ 255) : (UInt8.ofNat a.toNat = UInt8.ofNat b.toNat) ↔ a = b := by
  rw [← UInt8.toNat_inj, UInt8.toNat_ofNat', UInt8.toNat_ofNat']; omega
theorem mod_step (a : Int) (k : Nat) : a % pw (k + 1) = a / pw k % 256 * pw k + a % pw k := by
  have hp := pw_pos k
  have h1 : pw (k + 1) = pw k * 256 := pw_succ k
  have e1 := Int.mul_ediv_add_emod a (pw k)
  have e2 := Int.mul_ediv_add_emod (a / pw k) 256
  have hb1 := Int.emod_nonneg a (show pw k ≠ 0 by omega)
  have hb2 := Int.emod_lt_of_pos a hp
  have hc1 := Int.emod_nonneg (a / pw k) (show (256 : Int) ≠ 0 by decide)
  have hc2 := Int.emod_lt_of_pos (a / pw k) (show (0 : Int) < 256 by decide)
  have key : a = (a / pw k % 256 * pw k + a % pw k) + pw (k + 1) * (a / pw k / 256) := by
    rw [h1]
    have : pw k * 256 * (a / pw k / 256) = pw k * (256 * (a / pw k / 256)) := by rw [Int.mul_assoc]
    rw [this]
    have e3 : 256 * (a / pw k / 256) = a / pw k - a / pw k % 256 := by omega
    rw [e3, Int.mul_sub, Int.mul_comm (a / pw k % 256)]
    omega
  have hlo : 0 ≤ a / pw k % 256 * pw k + a % pw k := Int.add_nonneg (Int.mul_nonneg hc1 (by omega)) hb1
  have hhi : a / pw k % 256 * pw k + a % pw k < pw (k + 1) := by
    have : a / pw k % 256 * pw k ≤ 255 * pw k := Int.mul_le_mul_of_nonneg_right (by omega) (by omega)
    omega
  conv => lhs; rw [key]
  rw [Int.add_mul_emod_self_left, Int.emod_eq_of_lt hlo hhi]
theorem lex {p x y r s : Int} (hp : 0 < p) (hr : 0 ≤ r) (hr2 : r < p) (hs : 0 ≤ s) (hs2 : s < p) : (x * p + r < y * p + s) ↔ (x < y ∨ (x = y ∧ r < s)) := by
  constructor
  · intro h
    rcases Int.lt_trichotomy x y with h1 | h1 | h1
    · exact .inl h1
    · subst h1; exact .inr ⟨rfl, by omega⟩
    · have : (y + 1) * p ≤ x * p := Int.mul_le_mul_of_nonneg_right (by omega) (by omega)
      rw [Int.add_mul] at this; omega
  · rintro (h | ⟨rfl, h⟩)
    · have : (x + 1) * p ≤ y * p := Int.mul_le_mul_of_nonneg_right (by omega) (by omega)
      rw [Int.add_mul] at this; omega
    · omega
theorem lexEq {p x y r s : Int} (hp : 0 < p) (hr : 0 ≤ r) (hr2 : r < p) (hs : 0 ≤ s) (hs2 : s < p) : (x * p + r = y * p + s) ↔ (x = y ∧ r = s) := by
  have h1 := lex (x := x) (y := y) hp hr hr2 hs hs2
  have h2 := lex (x := y) (y := x) hp hs hs2 hr hr2
  constructor
  · intro h; omega
  · rintro ⟨rfl, rfl⟩; rfl
def u8s (l : List Int) : List UInt8 := l.map fun n => UInt8.ofNat n.toNat
theorem less_digs (a b : Int) (k : Nat) : Op.bytesLess (u8s (digs a k)) (u8s (digs b k)) = decide (a % pw k < b % pw k) := by
  induction k with
  | zero => simp [digs, u8s, Op.bytesLess, pw]
  | succ k ih =>
    have hp := pw_pos k
    have ha := Int.emod_nonneg (a / pw k) (show (256 : Int) ≠ 0 by decide)
    have ha2 := Int.emod_lt_of_pos (a / pw k) (show (0 : Int) < 256 by decide)
    have hb := Int.emod_nonneg (b / pw k) (show (256 : Int) ≠ 0 by decide)
    have hb2 := Int.emod_lt_of_pos (b / pw k) (show (0 : Int) < 256 by decide)
    have hl := lex (x := a / pw k % 256) (y := b / pw k % 256) hp (Int.emod_nonneg a (by omega)) (Int.emod_lt_of_pos a hp) (Int.emod_nonneg b (by omega)) (Int.emod_lt_of_pos b hp)
    have h1 := u8_lt ha (by omega) hb (show b / pw k % 256 ≤ 255 by omega)
    have h2 := u8_eq ha (by omega) hb (show b / pw k % 256 ≤ 255 by omega)
    rw [mod_step a k, mod_step b k]
    simp only [digs, u8s, List.map_cons, Op.bytesLess] at ih ⊢
    rw [ih, Bool.eq_iff_iff]
    simp only [Bool.or_eq_true, Bool.and_eq_true, decide_eq_true_eq, beq_iff_eq]
    rw [h1, h2, hl]
theorem same_digs (a b : Int) (k : Nat) : (u8s (digs a k) == u8s (digs b k)) = decide (a % pw k = b % pw k) := by
  induction k with
  | zero => simp [digs, u8s, pw]
  | succ k ih =>
    have hp := pw_pos k
    have ha := Int.emod_nonneg (a / pw k) (show (256 : Int) ≠ 0 by decide)
    have ha2 := Int.emod_lt_of_pos (a / pw k) (show (0 : Int) < 256 by decide)
    have hb := Int.emod_nonneg (b / pw k) (show (256 : Int) ≠ 0 by decide)
    have hb2 := Int.emod_lt_of_pos (b / pw k) (show (0 : Int) < 256 by decide)
    have hl := lexEq (x := a / pw k % 256) (y := b / pw k % 256) hp (Int.emod_nonneg a (by omega)) (Int.emod_lt_of_pos a hp) (Int.emod_nonneg b (by omega)) (Int.emod_lt_of_pos b hp)
    have h2 := u8_eq ha (by omega) hb (show b / pw k % 256 ≤ 255 by omega)
    rw [mod_step a k, mod_step b k]
    rw [Bool.eq_iff_iff] at ih ⊢
    simp only [digs, u8s, List.map_cons, beq_iff_eq, List.cons.injEq, decide_eq_true_eq] at ih ⊢
    rw [ih, h2, hl]
theorem toList_nums (l : List Int) : (strOfNums l).toList = u8s l := by
  rw [ByteArray.toList_eq, strOfNums_data]
  rfl
theorem put_mod {n m : Int} (h : okP n m = true) : n % pw m.toNat = n := by
  obtain ⟨_, h0, h1⟩ := okP_of h
  exact Int.emod_eq_of_lt h0 h1
theorem put_less {a b m : Int} (ha : okP a m = true) (hb : okP b m = true) : Op.bytesLess (strOfNums (putL a m)).toList (strOfNums (putL b m)).toList = decide (a < b) := by
  rw [toList_nums, toList_nums, putL_yes ha, putL_yes hb, less_digs, put_mod ha, put_mod hb]
theorem put_same {a b m : Int} (ha : okP a m = true) (hb : okP b m = true) : ((strOfNums (putL a m)).toList == (strOfNums (putL b m)).toList) = (a == b) := by
  rw [toList_nums, toList_nums, putL_yes ha, putL_yes hb, same_digs, put_mod ha, put_mod hb, Bool.eq_iff_iff]
  simp

/-! ### a greater width has noughts in front -/
theorem put_wide {n m : Int} (h : okP n m = true) (h3 : m ≤ 3) : okP n (m + 1) = true ∧ putL n (m + 1) = 0 :: putL n m := by
  obtain ⟨hw, h0, h1⟩ := okP_of h
  have hm := okW_of hw
  have e : (m + 1).toNat = m.toNat + 1 := by omega
  have hp := pw_pos m.toNat
  have h2 : okP n (m + 1) = true := okP_mk (okW_mk (by omega) (by omega)) h0 (by rw [e, pw_succ]; omega)
  refine ⟨h2, ?_⟩
  rw [putL_yes h2, putL_yes h, e]
  simp only [digs]
  rw [Int.ediv_eq_zero_of_lt h0 h1]
  rfl
end Go.Proofs.YtgpopdincipnaaaDoor.O
