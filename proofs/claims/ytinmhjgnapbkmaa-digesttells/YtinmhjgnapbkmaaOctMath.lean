/- The plain arithmetic of numbers in bytes and of checksums that the claims on package octets rest on; no program in sight. -/
import Derived.RowKit
import Derived.Laws.BitsAllLaws
import Derived.Laws.BitsLemmas
namespace Go.Proofs.Ytinmhjgnapbkmaa.O
open Go
set_option linter.unusedVariables false
set_option linter.unusedSimpArgs false

/-- 256 to a power, for the widths that there are -/
def pw (k : Nat) : Int := 256 ^ k
theorem pw_pos (k : Nat) : 0 < pw k := Int.pow_pos (by decide)
theorem pw_succ (k : Nat) : pw (k + 1) = pw k * 256 := by unfold pw; rw [Int.pow_succ]
theorem pw0 : pw 0 = 1 := rfl
theorem pw1 : pw 1 = 256 := rfl
theorem pw2 : pw 2 = 65536 := rfl
theorem pw3 : pw 3 = 16777216 := rfl
theorem pw4 : pw 4 = 4294967296 := rfl

theorem pw_le4 {k : Nat} (hk : k ≤ 4) : pw k ≤ 4294967296 := by
  rcases (show k = 0 ∨ k = 1 ∨ k = 2 ∨ k = 3 ∨ k = 4 by omega) with rfl | rfl | rfl | rfl | rfl <;> decide
theorem quo_bd {n : Int} (j : Nat) (h0 : 0 ≤ n) (h1 : n < 4294967296) : 0 ≤ n / pw j ∧ n / pw j < 4294967296 := by
  have hp := pw_pos j
  exact ⟨Int.ediv_nonneg h0 (by omega), Int.lt_of_le_of_lt (Int.ediv_le_self _ h0) h1⟩
def okW (w : Int) : Bool := decide (1 ≤ w ∧ w ≤ 4)
theorem okW_of {w : Int} (h : okW w = true) : w = 1 ∨ w = 2 ∨ w = 3 ∨ w = 4 := by unfold okW at h; simp at h; omega
theorem okW_not {w : Int} (h : okW w = false) : w < 1 ∨ 4 < w := by unfold okW at h; simp at h; omega
theorem okW_mk {w : Int} (h1 : 1 ≤ w) (h2 : w ≤ 4) : okW w = true := by unfold okW; simp; omega
theorem okW_mkNot {w : Int} (h1 : w < 1 ∨ 4 < w) : okW w = false := by unfold okW; simp; omega
/-- may n be put in so many bytes? -/
def okP (n w : Int) : Bool := okW w && decide (0 ≤ n) && decide (n < pw w.toNat)
theorem okP_of {n w : Int} (h : okP n w = true) : okW w = true ∧ 0 ≤ n ∧ n < pw w.toNat := by unfold okP at h; simp at h; exact ⟨h.1.1, h.1.2, h.2⟩
theorem okP_mk {n w : Int} (h1 : okW w = true) (h2 : 0 ≤ n) (h3 : n < pw w.toNat) : okP n w = true := by unfold okP; simp [h1, h2, h3]
theorem okP_neg {n w : Int} (h : n < 0) : okP n w = false := by unfold okP; simp; omega
theorem okP_w {n w : Int} (h : okW w = false) : okP n w = false := by unfold okP; simp [h]
theorem okP1 {n : Int} (h : 0 ≤ n) : okP n 1 = decide (n < 256) := by unfold okP; simp [h, okW]; rfl
theorem okP2 {n : Int} (h : 0 ≤ n) : okP n 2 = decide (n < 65536) := by unfold okP; simp [h, okW]; rfl
theorem okP3 {n : Int} (h : 0 ≤ n) : okP n 3 = decide (n < 16777216) := by unfold okP; simp [h, okW]; rfl
theorem okP4 {n : Int} (h : 0 ≤ n) : okP n 4 = decide (n < 4294967296) := by unfold okP; simp [h, okW]; rfl
/-- the digits of a number, the highest one first -/
def digs (n : Int) : Nat → List Int
  | 0 => []
  | k + 1 => n / pw k % 256 :: digs n k
theorem digs_len (n : Int) (k : Nat) : (digs n k).length = k := by induction k with | zero => rfl | succ k ih => simp [digs, ih]
theorem digs_bd (n : Int) (k : Nat) : ∀ z ∈ digs n k, 0 ≤ z ∧ z ≤ 255 := by
  induction k with
  | zero => simp [digs]
  | succ k ih =>
    intro z hz
    simp only [digs, List.mem_cons] at hz
    rcases hz with rfl | hz
    · exact ⟨Int.emod_nonneg _ (by decide), by have := Int.emod_lt_of_pos (n / pw k) (show (0 : Int) < 256 by decide); omega⟩
    · exact ih z hz
/-- what Put answers: bytes and an error -/
def putL (n w : Int) : List Int := if okP n w = true then digs n w.toNat else []
def putE (n w : Int) : Int := if okP n w = true then 0 else 1
theorem putL_bd (n w : Int) : ∀ z ∈ putL n w, 0 ≤ z ∧ z ≤ 255 := by
  unfold putL; split
  · exact digs_bd _ _
  · simp
theorem putL_yes {n w : Int} (h : okP n w = true) : putL n w = digs n w.toNat := by unfold putL; rw [if_pos h]
theorem putL_no {n w : Int} (h : okP n w = false) : putL n w = [] := by unfold putL; rw [if_neg (by simp [h])]
theorem putE_yes {n w : Int} (h : okP n w = true) : putE n w = 0 := by unfold putE; rw [if_pos h]
theorem putE_no {n w : Int} (h : okP n w = false) : putE n w = 1 := by unfold putE; rw [if_neg (by simp [h])]
theorem putL_len {n w : Int} (h : okP n w = true) : (putL n w).length = w.toNat := by rw [putL_yes h, digs_len]
theorem putL_len_le (n w : Int) : (putL n w).length ≤ 4 := by
  cases h : okP n w
  · rw [putL_no h]; simp
  · rw [putL_len h]; have := okW_of (okP_of h).1; omega
theorem putE_01 (n w : Int) : putE n w = 0 ∨ putE n w = 1 := by unfold putE; split <;> simp
theorem putE_zero {n w : Int} (h : putE n w = 0) : okP n w = true := by
  cases h' : okP n w
  · rw [putE_no h'] at h; cases h
  · rfl
theorem digs_get (n : Int) (m j : Nat) (h : j < m) : (digs n m)[j]? = some (n / pw (m - 1 - j) % 256) := by
  induction m generalizing j with
  | zero => omega
  | succ m ih =>
    cases j with
    | zero => simp [digs]
    | succ j => simp only [digs, List.getElem?_cons_succ]; rw [ih j (by omega), show m + 1 - 1 - (j + 1) = m - 1 - j by omega]
theorem digs_snoc (n : Int) (m j : Nat) (h : j < m) : (digs n m).take (m - j) = (digs n m).take (m - (j + 1)) ++ [n / pw j % 256] := by
  rw [show m - j = m - (j + 1) + 1 by omega, List.take_add_one, digs_get n m (m - (j + 1)) (by omega), show m - 1 - (m - (j + 1)) = j by omega]
  rfl
theorem digs1 (n : Int) : digs n 1 = [n / 1 % 256] := rfl
theorem digs2 (n : Int) : digs n 2 = [n / 256 % 256, n / 1 % 256] := rfl
theorem digs3 (n : Int) : digs n 3 = [n / 65536 % 256, n / 256 % 256, n / 1 % 256] := rfl
theorem digs4 (n : Int) : digs n 4 = [n / 16777216 % 256, n / 65536 % 256, n / 256 % 256, n / 1 % 256] := rfl

/-- the number of the first k bytes -/
def num (l : List Int) : Nat → Int
  | 0 => 0
  | k + 1 => num l k * 256 + l.getD k 0
def Oct (l : List Int) : Prop := ∀ z ∈ l, 0 ≤ z ∧ z ≤ 255
theorem Oct.at {l : List Int} (h : Oct l) (k : Nat) : 0 ≤ l.getD k 0 ∧ l.getD k 0 ≤ 255 := by
  by_cases hk : k < l.length
  · have := h l[k] (List.getElem_mem hk); simpa [List.getD, hk] using this
  · simp [List.getD, List.getElem?_eq_none (show l.length ≤ k by omega)]
theorem Oct.el {l : List Int} (h : Oct l) {k : Nat} (hk : k < l.length) : 0 ≤ l[k] ∧ l[k] ≤ 255 := h l[k] (List.getElem_mem hk)
theorem getD_el {l : List Int} {k : Nat} (hk : k < l.length) : l.getD k 0 = l[k] := by simp [List.getD, hk]
theorem num_bd {l : List Int} (h : Oct l) (k : Nat) : 0 ≤ num l k ∧ num l k < pw k := by
  induction k with
  | zero => simp [num, pw]
  | succ k ih => have := h.at k; rw [pw_succ]; simp only [num]; omega
theorem num_bd4 {l : List Int} (h : Oct l) (k : Nat) (hk : k ≤ 4) : 0 ≤ num l k ∧ num l k < 4294967296 := by
  have hb := num_bd h k
  have : pw k ≤ 4294967296 := by
    rcases (show k = 0 ∨ k = 1 ∨ k = 2 ∨ k = 3 ∨ k = 4 by omega) with rfl | rfl | rfl | rfl | rfl <;> decide
  omega
def getE (l : List Int) (w : Int) : Int := if okW w = true then (if (l.length : Int) < w then 3 else 0) else 1
def getN (l : List Int) (w : Int) : Int := if getE l w = 0 then num l w.toNat else 0
theorem getE_bad {l : List Int} {w : Int} (h : okW w = false) : getE l w = 1 := by unfold getE; rw [if_neg (by simp [h])]
theorem getE_more {l : List Int} {w : Int} (h : okW w = true) (h2 : (l.length : Int) < w) : getE l w = 3 := by unfold getE; rw [if_pos h, if_pos h2]
theorem getE_ok {l : List Int} {w : Int} (h : okW w = true) (h2 : w ≤ (l.length : Int)) : getE l w = 0 := by unfold getE; rw [if_pos h, if_neg (by omega)]
theorem getN_bad {l : List Int} {w : Int} (h : okW w = false) : getN l w = 0 := by unfold getN; rw [getE_bad h]; rfl
theorem getN_more {l : List Int} {w : Int} (h : okW w = true) (h2 : (l.length : Int) < w) : getN l w = 0 := by unfold getN; rw [getE_more h h2]; rfl
theorem getN_ok {l : List Int} {w : Int} (h : okW w = true) (h2 : w ≤ (l.length : Int)) : getN l w = num l w.toNat := by unfold getN; rw [getE_ok h h2]; rfl
theorem getE_zero {l : List Int} {w : Int} (h : getE l w = 0) : okW w = true ∧ w ≤ (l.length : Int) := by
  unfold getE at h
  split at h
  · rename_i h1; split at h
    · cases h
    · exact ⟨h1, by omega⟩
  · cases h

/-- the bytes two by two, added up -/
def tot (l : List Int) : Nat → Int
  | 0 => 0
  | k + 1 => tot l k + if k % 2 = 0 then l.getD k 0 * 256 else l.getD k 0
theorem tot_even {l : List Int} {k : Nat} (h : k % 2 = 0) : tot l (k + 1) = tot l k + l.getD k 0 * 256 := by simp only [tot]; rw [if_pos h]
theorem tot_odd {l : List Int} {k : Nat} (h : ¬ k % 2 = 0) : tot l (k + 1) = tot l k + l.getD k 0 := by simp only [tot]; rw [if_neg h]
theorem tot_bd {l : List Int} (h : Oct l) (k : Nat) : 0 ≤ tot l k ∧ tot l k ≤ 65280 * k := by
  induction k with
  | zero => simp [tot]
  | succ k ih =>
    have := h.at k
    by_cases hk : k % 2 = 0
    · rw [tot_even hk]; omega
    · rw [tot_odd hk]; omega
/-- folded: what is above is added to the rest, till one word is left -/
def fo (n : Int) : Int := if n = 0 then 0 else (n - 1) % 65535 + 1
theorem fo_small {n : Int} (h0 : 0 ≤ n) (h : n ≤ 65535) : fo n = n := by unfold fo; split <;> omega
theorem fo_step {n : Int} (h : 65535 < n) : fo (n / 65536 + n % 65536) = fo n := by
  unfold fo
  rw [if_neg (by omega), if_neg (by omega)]
  omega
theorem fo_bd {n : Int} (h0 : 0 ≤ n) : 0 ≤ fo n ∧ fo n ≤ 65535 := by unfold fo; split <;> omega
def sumN (l : List Int) : Int := 65535 - fo (tot l l.length)
theorem sumN_bd {l : List Int} (h : Oct l) : 0 ≤ sumN l ∧ sumN l ≤ 65535 := by
  have := fo_bd (tot_bd h l.length).1; unfold sumN; omega

/-! ### the or of a shifted number and a byte -/
theorem or_add (a b : Nat) (hb : b < 256) : a * 256 ||| b = a * 256 + b := by
  have := Nat.shiftLeft_add_eq_or_of_lt (show b < 2 ^ 8 by simpa using hb) a
  rw [Nat.shiftLeft_eq] at this
  simpa using this.symm
theorem ofInt_i64 (a : Nat) (ha : a < 9223372036854775808) : (BitVec.ofInt 64 (a : Int)).toNat = a := by
  rw [BitVec.ofInt_natCast, BitVec.toNat_ofNat]; exact Nat.mod_eq_of_lt (by omega)
theorem i64_or (a b : Int) (h0 : 0 ≤ a) (h1 : a < 4294967296) (h2 : 0 ≤ b) (h3 : b ≤ 255) : bits .or .i64 (a * 256) b = a * 256 + b := by
  obtain ⟨m, rfl⟩ := Int.eq_ofNat_of_zero_le h0
  obtain ⟨n, rfl⟩ := Int.eq_ofNat_of_zero_le h2
  have e : (m : Int) * 256 = ((m * 256 : Nat) : Int) := by omega
  have k := or_add m n (by omega)
  rw [e]
  show IntKind.i64.wrap ((BitVec.ofInt 64 ((m * 256 : Nat) : Int) ||| BitVec.ofInt 64 (n : Int)).toNat : Int) = _
  rw [BitVec.toNat_or, ofInt_i64 _ (by omega), ofInt_i64 _ (by omega), IntKind.wrap_i64, k]
  omega
end Go.Proofs.Ytinmhjgnapbkmaa.O
