/- The plain arithmetic that the claims rest on: bytes and checksums, bits and prefixes, rules, their order; no program in sight. -/
import Derived.RowKit
import Derived.Laws.BitsAllLaws
import Derived.Laws.BitsLemmas
import Derived.Laws.Bits128
import Derived.Sort.LotA
/-! The plain arithmetic of numbers in bytes and of checksums that the claims on package octets rest on; no program in sight. -/
namespace Go.Proofs.Ytoedgnkoahcblaa.O
open Go
set_option linter.unusedVariables false
set_option linter.unusedSimpArgs false

/-- 256 to a power, for the widths that there are -/
def pw (k : Nat) : Int := 256 ^ k
theorem pw_pos (k : Nat) : 0 < pw k := Int.pow_pos (by decide)
theorem pw_succ (k : Nat) : pw (k + 1) = pw k * 256 := by unfold pw; rw [Int.pow_succ]
theorem pw0 : pw 0 = 1 := rfl
theorem pw1 : pw 1 = 256 := rfl
theorem pw2 : pw 2 = 65536 := rfl
theorem pw3 : pw 3 = 16777216 := rfl
theorem pw4 : pw 4 = 4294967296 := rfl

theorem pw_le4 {k : Nat} (hk : k ≤ 4) : pw k ≤ 4294967296 := by
  rcases (show k = 0 ∨ k = 1 ∨ k = 2 ∨ k = 3 ∨ k = 4 by omega) with rfl | rfl | rfl | rfl | rfl <;> decide
theorem quo_bd {n : Int} (j : Nat) (h0 : 0 ≤ n) (h1 : n < 4294967296) : 0 ≤ n / pw j ∧ n / pw j < 4294967296 := by
  have hp := pw_pos j
  exact ⟨Int.ediv_nonneg h0 (by omega), Int.lt_of_le_of_lt (Int.ediv_le_self _ h0) h1⟩
def okW (w : Int) : Bool := decide (1 ≤ w ∧ w ≤ 4)
theorem okW_of {w : Int} (h : okW w = true) : w = 1 ∨ w = 2 ∨ w = 3 ∨ w = 4 := by unfold okW at h; simp at h; omega
theorem okW_not {w : Int} (h : okW w = false) : w < 1 ∨ 4 < w := by unfold okW at h; simp at h; omega
theorem okW_mk {w : Int} (h1 : 1 ≤ w) (h2 : w ≤ 4) : okW w = true := by unfold okW; simp; omega
theorem okW_mkNot {w : Int} (h1 : w < 1 ∨ 4 < w) : okW w = false := by unfold okW; simp; omega
/-- may n be put in so many bytes? -/
def okP (n w : Int) : Bool := okW w && decide (0 ≤ n) && decide (n < pw w.toNat)
theorem okP_of {n w : Int} (h : okP n w = true) : okW w = true ∧ 0 ≤ n ∧ n < pw w.toNat := by unfold okP at h; simp at h; exact ⟨h.1.1, h.1.2, h.2⟩
theorem okP_mk {n w : Int} (h1 : okW w = true) (h2 : 0 ≤ n) (h3 : n < pw w.toNat) : okP n w = true := by unfold okP; simp [h1, h2, h3]
theorem okP_neg {n w : Int} (h : n < 0) : okP n w = false := by unfold okP; simp; omega
theorem okP_w {n w : Int} (h : okW w = false) : okP n w = false := by unfold okP; simp [h]
theorem okP1 {n : Int} (h : 0 ≤ n) : okP n 1 = decide (n < 256) := by unfold okP; simp [h, okW]; rfl
theorem okP2 {n : Int} (h : 0 ≤ n) : okP n 2 = decide (n < 65536) := by unfold okP; simp [h, okW]; rfl
theorem okP3 {n : Int} (h : 0 ≤ n) : okP n 3 = decide (n < 16777216) := by unfold okP; simp [h, okW]; rfl
theorem okP4 {n : Int} (h : 0 ≤ n) : okP n 4 = decide (n < 4294967296) := by unfold okP; simp [h, okW]; rfl
/-- the digits of a number, the highest one first -/
def digs (n : Int) : Nat → List Int
  | 0 => []
  | k + 1 => n / pw k % 256 :: digs n k
theorem digs_len (n : Int) (k : Nat) : (digs n k).length = k := by induction k with | zero => rfl | succ k ih => simp [digs, ih]
theorem digs_bd (n : Int) (k : Nat) : ∀ z ∈ digs n k, 0 ≤ z ∧ z ≤ 255 := by
  induction k with
  | zero => simp [digs]
  | succ k ih =>
    intro z hz
    simp only [digs, List.mem_cons] at hz
    rcases hz with rfl | hz
    · exact ⟨Int.emod_nonneg _ (by decide), by have := Int.emod_lt_of_pos (n / pw k) (show (0 : Int) < 256 by decide); omega⟩
    · exact ih z hz
/-- what Put answers: bytes and an error -/
def putL (n w : Int) : List Int := if okP n w = true then digs n w.toNat else []
def putE (n w : Int) : Int := if okP n w = true then 0 else 1
theorem putL_bd (n w : Int) : ∀ z ∈ putL n w, 0 ≤ z ∧ z ≤ 255 := by
  unfold putL; split
  · exact digs_bd _ _
  · simp
theorem putL_yes {n w : Int} (h : okP n w = true) : putL n w = digs n w.toNat := by unfold putL; rw [if_pos h]
theorem putL_no {n w : Int} (h : okP n w = false) : putL n w = [] := by unfold putL; rw [if_neg (by simp [h])]
theorem putE_yes {n w : Int} (h : okP n w = true) : putE n w = 0 := by unfold putE; rw [if_pos h]
theorem putE_no {n w : Int} (h : okP n w = false) : putE n w = 1 := by unfold putE; rw [if_neg (by simp [h])]
theorem putL_len {n w : Int} (h : okP n w = true) : (putL n w).length = w.toNat := by rw [putL_yes h, digs_len]
theorem putL_len_le (n w : Int) : (putL n w).length ≤ 4 := by
  cases h : okP n w
  · rw [putL_no h]; simp
  · rw [putL_len h]; have := okW_of (okP_of h).1; omega
theorem putE_01 (n w : Int) : putE n w = 0 ∨ putE n w = 1 := by unfold putE; split <;> simp
theorem putE_zero {n w : Int} (h : putE n w = 0) : okP n w = true := by
  cases h' : okP n w
  · rw [putE_no h'] at h; cases h
  · rfl
theorem digs_get (n : Int) (m j : Nat) (h : j < m) : (digs n m)[j]? = some (n / pw (m - 1 - j) % 256) := by
  induction m generalizing j with
  | zero => omega
  | succ m ih =>
    cases j with
    | zero => simp [digs]
    | succ j => simp only [digs, List.getElem?_cons_succ]; rw [ih j (by omega), show m + 1 - 1 - (j + 1) = m - 1 - j by omega]
theorem digs_snoc (n : Int) (m j : Nat) (h : j < m) : (digs n m).take (m - j) = (digs n m).take (m - (j + 1)) ++ [n / pw j % 256] := by
  rw [show m - j = m - (j + 1) + 1 by omega, List.take_add_one, digs_get n m (m - (j + 1)) (by omega), show m - 1 - (m - (j + 1)) = j by omega]
  rfl
theorem digs1 (n : Int) : digs n 1 = [n / 1 % 256] := rfl
theorem digs2 (n : Int) : digs n 2 = [n / 256 % 256, n / 1 % 256] := rfl
theorem digs3 (n : Int) : digs n 3 = [n / 65536 % 256, n / 256 % 256, n / 1 % 256] := rfl
theorem digs4 (n : Int) : digs n 4 = [n / 16777216 % 256, n / 65536 % 256, n / 256 % 256, n / 1 % 256] := rfl

/-- the number of the first k bytes -/
def num (l : List Int) : Nat → Int
  | 0 => 0
  | k + 1 => num l k * 256 + l.getD k 0
def Oct (l : List Int) : Prop := ∀ z ∈ l, 0 ≤ z ∧ z ≤ 255
theorem Oct.at {l : List Int} (h : Oct l) (k : Nat) : 0 ≤ l.getD k 0 ∧ l.getD k 0 ≤ 255 := by
  by_cases hk : k < l.length
  · have := h l[k] (List.getElem_mem hk); simpa [List.getD, hk] using this
  · simp [List.getD, List.getElem?_eq_none (show l.length ≤ k by omega)]
theorem Oct.el {l : List Int} (h : Oct l) {k : Nat} (hk : k < l.length) : 0 ≤ l[k] ∧ l[k] ≤ 255 := h l[k] (List.getElem_mem hk)
theorem getD_el {l : List Int} {k : Nat} (hk : k < l.length) : l.getD k 0 = l[k] := by simp [List.getD, hk]
theorem num_bd {l : List Int} (h : Oct l) (k : Nat) : 0 ≤ num l k ∧ num l k < pw k := by
  induction k with
  | zero => simp [num, pw]
  | succ k ih => have := h.at k; rw [pw_succ]; simp only [num]; omega
theorem num_bd4 {l : List Int} (h : Oct l) (k : Nat) (hk : k ≤ 4) : 0 ≤ num l k ∧ num l k < 4294967296 := by
  have hb := num_bd h k
  have : pw k ≤ 4294967296 := by
    rcases (show k = 0 ∨ k = 1 ∨ k = 2 ∨ k = 3 ∨ k = 4 by omega) with rfl | rfl | rfl | rfl | rfl <;> decide
  omega
def getE (l : List Int) (w : Int) : Int := if okW w = true then (if (l.length : Int) < w then 3 else 0) else 1
def getN (l : List Int) (w : Int) : Int := if getE l w = 0 then num l w.toNat else 0
theorem getE_bad {l : List Int} {w : Int} (h : okW w = false) : getE l w = 1 := by unfold getE; rw [if_neg (by simp [h])]
theorem getE_more {l : List Int} {w : Int} (h : okW w = true) (h2 : (l.length : Int) < w) : getE l w = 3 := by unfold getE; rw [if_pos h, if_pos h2]
theorem getE_ok {l : List Int} {w : Int} (h : okW w = true) (h2 : w ≤ (l.length : Int)) : getE l w = 0 := by unfold getE; rw [if_pos h, if_neg (by omega)]
theorem getN_bad {l : List Int} {w : Int} (h : okW w = false) : getN l w = 0 := by unfold getN; rw [getE_bad h]; rfl
theorem getN_more {l : List Int} {w : Int} (h : okW w = true) (h2 : (l.length : Int) < w) : getN l w = 0 := by unfold getN; rw [getE_more h h2]; rfl
theorem getN_ok {l : List Int} {w : Int} (h : okW w = true) (h2 : w ≤ (l.length : Int)) : getN l w = num l w.toNat := by unfold getN; rw [getE_ok h h2]; rfl
theorem getE_zero {l : List Int} {w : Int} (h : getE l w = 0) : okW w = true ∧ w ≤ (l.length : Int) := by
  unfold getE at h
  split at h
  · rename_i h1; split at h
    · cases h
    · exact ⟨h1, by omega⟩
  · cases h

/-- the bytes two by two, added up -/
def tot (l : List Int) : Nat → Int
  | 0 => 0
  | k + 1 => tot l k + if k % 2 = 0 then l.getD k 0 * 256 else l.getD k 0
theorem tot_even {l : List Int} {k : Nat} (h : k % 2 = 0) : tot l (k + 1) = tot l k + l.getD k 0 * 256 := by simp only [tot]; rw [if_pos h]
theorem tot_odd {l : List Int} {k : Nat} (h : ¬ k % 2 = 0) : tot l (k + 1) = tot l k + l.getD k 0 := by simp only [tot]; rw [if_neg h]
theorem tot_bd {l : List Int} (h : Oct l) (k : Nat) : 0 ≤ tot l k ∧ tot l k ≤ 65280 * k := by
  induction k with
  | zero => simp [tot]
  | succ k ih =>
    have := h.at k
    by_cases hk : k % 2 = 0
    · rw [tot_even hk]; omega
    · rw [tot_odd hk]; omega
/-- folded: what is above is added to the rest, till one word is left -/
def fo (n : Int) : Int := if n = 0 then 0 else (n - 1) % 65535 + 1
theorem fo_small {n : Int} (h0 : 0 ≤ n) (h : n ≤ 65535) : fo n = n := by unfold fo; split <;> omega
theorem fo_step {n : Int} (h : 65535 < n) : fo (n / 65536 + n % 65536) = fo n := by
  unfold fo
  rw [if_neg (by omega), if_neg (by omega)]
  omega
theorem fo_bd {n : Int} (h0 : 0 ≤ n) : 0 ≤ fo n ∧ fo n ≤ 65535 := by unfold fo; split <;> omega
def sumN (l : List Int) : Int := 65535 - fo (tot l l.length)
theorem sumN_bd {l : List Int} (h : Oct l) : 0 ≤ sumN l ∧ sumN l ≤ 65535 := by
  have := fo_bd (tot_bd h l.length).1; unfold sumN; omega

/-! ### the or of a shifted number and a byte -/
theorem or_add (a b : Nat) (hb : b < 256) : a * 256 ||| b = a * 256 + b := by
  have := Nat.shiftLeft_add_eq_or_of_lt (show b < 2 ^ 8 by simpa using hb) a
  rw [Nat.shiftLeft_eq] at this
  simpa using this.symm
theorem ofInt_i64 (a : Nat) (ha : a < 9223372036854775808) : (BitVec.ofInt 64 (a : Int)).toNat = a := by
  rw [BitVec.ofInt_natCast, BitVec.toNat_ofNat]; exact Nat.mod_eq_of_lt (by omega)
theorem i64_or (a b : Int) (h0 : 0 ≤ a) (h1 : a < 4294967296) (h2 : 0 ≤ b) (h3 : b ≤ 255) : bits .or .i64 (a * 256) b = a * 256 + b := by
  obtain ⟨m, rfl⟩ := Int.eq_ofNat_of_zero_le h0
  obtain ⟨n, rfl⟩ := Int.eq_ofNat_of_zero_le h2
  have e : (m : Int) * 256 = ((m * 256 : Nat) : Int) := by omega
  have k := or_add m n (by omega)
  rw [e]
  show IntKind.i64.wrap ((BitVec.ofInt 64 ((m * 256 : Nat) : Int) ||| BitVec.ofInt 64 (n : Int)).toNat : Int) = _
  rw [BitVec.toNat_or, ofInt_i64 _ (by omega), ofInt_i64 _ (by omega), IntKind.wrap_i64, k]
  omega
end Go.Proofs.Ytoedgnkoahcblaa.O

/-! Numbers one behind the other, as plain lists: what PutAll and GetAll come to, and that each is the other one's way back; no program in sight. -/
namespace Go.Proofs.Ytoedgnkoahcblaa.O
open Go
set_option linter.unusedVariables false
set_option linter.unusedSimpArgs false

/-! ### PutAll -/
def paE : List Int → List Int → Int
  | n :: l, m :: ms => if putE n m = 0 then paE l ms else 1
  | _, _ => 0
def paL : List Int → List Int → List Int
  | n :: l, m :: ms => putL n m ++ paL l ms
  | _, _ => []
theorem paE_append (l l2 ms ms2 : List Int) (h : l.length = ms.length) (he : paE l ms = 0) : paE (l ++ l2) (ms ++ ms2) = paE l2 ms2 := by
  induction l generalizing ms with
  | nil =>
    cases ms with
    | nil => simp
    | cons m ms => simp at h
  | cons n l ih =>
    cases ms with
    | nil => simp at h
    | cons m ms =>
      simp only [List.cons_append, paE] at he ⊢
      by_cases h1 : putE n m = 0
      · rw [if_pos h1] at he ⊢; exact ih ms (by simpa using h) he
      · rw [if_neg h1] at he; cases he
theorem paL_append (l l2 ms ms2 : List Int) (h : l.length = ms.length) : paL (l ++ l2) (ms ++ ms2) = paL l ms ++ paL l2 ms2 := by
  induction l generalizing ms with
  | nil =>
    cases ms with
    | nil => simp [paL]
    | cons m ms => simp at h
  | cons n l ih =>
    cases ms with
    | nil => simp at h
    | cons m ms =>
      simp only [List.cons_append, paL]
      rw [ih ms (by simpa using h), List.append_assoc]
theorem paL_len (l ms : List Int) : (paL l ms).length ≤ 4 * l.length := by
  induction l generalizing ms with
  | nil => simp [paL]
  | cons n l ih =>
    cases ms with
    | nil => simp [paL]
    | cons m ms =>
      have h1 := putL_len_le n m
      have h2 := ih ms
      simp only [paL, List.length_append, List.length_cons]
      omega
theorem paL_oct (l ms : List Int) : Oct (paL l ms) := by
  induction l generalizing ms with
  | nil => intro z hz; simp [paL] at hz
  | cons n l ih =>
    cases ms with
    | nil => intro z hz; simp [paL] at hz
    | cons m ms =>
      intro z hz
      simp only [paL, List.mem_append] at hz
      rcases hz with hz | hz
      · exact putL_bd n m z hz
      · exact ih ms z hz
def pallE (l ms : List Int) : Int := if l.length = ms.length then paE l ms else 1
def pallL (l ms : List Int) : List Int := if pallE l ms = 0 then paL l ms else []
theorem take_snoc {l : List Int} {k : Nat} (h : k < l.length) : l.take (k + 1) = l.take k ++ [l[k]] := by
  rw [List.take_succ_eq_append_getElem h]
theorem split_at {l : List Int} {k : Nat} (h : k < l.length) : l = l.take k ++ l[k] :: l.drop (k + 1) := by
  rw [← List.drop_eq_getElem_cons h, List.take_append_drop]
theorem pa_step {l ms : List Int} {k : Nat} (h1 : k < l.length) (h2 : k < ms.length) (he : paE (l.take k) (ms.take k) = 0) (hp : putE l[k] ms[k] = 0) :
    paE (l.take (k + 1)) (ms.take (k + 1)) = 0 ∧ paL (l.take (k + 1)) (ms.take (k + 1)) = paL (l.take k) (ms.take k) ++ putL l[k] ms[k] := by
  have hl : (l.take k).length = (ms.take k).length := by simp; omega
  rw [take_snoc h1, take_snoc h2, paE_append _ _ _ _ hl he, paL_append _ _ _ _ hl]
  simp [paE, paL, hp]
theorem pa_stop {l ms : List Int} {k : Nat} (h1 : k < l.length) (h2 : k < ms.length) (hn : l.length = ms.length) (he : paE (l.take k) (ms.take k) = 0) (hp : putE l[k] ms[k] = 1) : pallE l ms = 1 ∧ pallL l ms = [] := by
  have hl : (l.take k).length = (ms.take k).length := by simp; omega
  have e : pallE l ms = 1 := by
    unfold pallE
    rw [if_pos hn]
    conv => lhs; rw [split_at h1, split_at h2]
    rw [paE_append _ _ _ _ hl he]
    simp [paE, hp]
  exact ⟨e, by unfold pallL; rw [e]; rfl⟩
theorem pa_end {l ms : List Int} (hn : l.length = ms.length) (he : paE l ms = 0) : pallE l ms = 0 ∧ pallL l ms = paL l ms := by
  have e : pallE l ms = 0 := by unfold pallE; rw [if_pos hn]; exact he
  exact ⟨e, by unfold pallL; rw [e]; rfl⟩
theorem pa_odd {l ms : List Int} (hn : ¬ l.length = ms.length) : pallE l ms = 1 ∧ pallL l ms = [] := by
  have e : pallE l ms = 1 := by unfold pallE; rw [if_neg hn]
  exact ⟨e, by unfold pallL; rw [e]; rfl⟩

/-! ### GetAll -/
def gaE (b : List Int) : List Int → Int
  | [] => 0
  | m :: ms => if getE b m = 0 then gaE (b.drop m.toNat) ms else getE b m
def gaL (b : List Int) : List Int → List Int
  | [] => []
  | m :: ms => getN b m :: gaL (b.drop m.toNat) ms
def gaK : List Int → Nat
  | [] => 0
  | m :: ms => m.toNat + gaK ms
theorem gaK_append (ms ms2 : List Int) : gaK (ms ++ ms2) = gaK ms + gaK ms2 := by
  induction ms with
  | nil => simp [gaK]
  | cons m ms ih => simp only [List.cons_append, gaK]; rw [ih]; omega
theorem gaE_append (b ms ms2 : List Int) (he : gaE b ms = 0) : gaE b (ms ++ ms2) = gaE (b.drop (gaK ms)) ms2 := by
  induction ms generalizing b with
  | nil => simp [gaK]
  | cons m ms ih =>
    simp only [List.cons_append, gaE, gaK] at he ⊢
    by_cases h : getE b m = 0
    · rw [if_pos h] at he ⊢; rw [ih _ he, List.drop_drop]
    · rw [if_neg h] at he; exact absurd he h
theorem gaL_append (b ms ms2 : List Int) : gaL b (ms ++ ms2) = gaL b ms ++ gaL (b.drop (gaK ms)) ms2 := by
  induction ms generalizing b with
  | nil => simp [gaL, gaK]
  | cons m ms ih =>
    simp only [List.cons_append, gaL, gaK]
    rw [ih, List.drop_drop]
theorem gaL_len (b ms : List Int) : (gaL b ms).length = ms.length := by
  induction ms generalizing b with
  | nil => rfl
  | cons m ms ih => simp [gaL, ih]
theorem gaK_le {b ms : List Int} (h : gaE b ms = 0) : gaK ms ≤ b.length := by
  induction ms generalizing b with
  | nil => simp [gaK]
  | cons m ms ih =>
    simp only [gaE] at h
    by_cases h1 : getE b m = 0
    · rw [if_pos h1] at h
      have := ih h
      have h2 := (getE_zero h1).2
      simp only [List.length_drop, gaK] at this ⊢
      omega
    · rw [if_neg h1] at h; exact absurd h h1
theorem oct_drop {b : List Int} (h : Oct b) (j : Nat) : Oct (b.drop j) := fun z hz => h z (List.mem_of_mem_drop hz)
theorem getN_bd {b : List Int} (h : Oct b) (m : Int) : 0 ≤ getN b m ∧ getN b m < 4294967296 := by
  unfold getN
  split
  · rename_i h1
    have := okW_of (getE_zero h1).1
    exact num_bd4 h _ (by omega)
  · omega
theorem gaL_bd {b : List Int} (h : Oct b) (ms : List Int) : ∀ z ∈ gaL b ms, 0 ≤ z ∧ z < 4294967296 := by
  induction ms generalizing b with
  | nil => simp [gaL]
  | cons m ms ih =>
    intro z hz
    simp only [gaL, List.mem_cons] at hz
    rcases hz with rfl | hz
    · exact getN_bd h m
    · exact ih (oct_drop h _) z hz
def gallL (b ms : List Int) : List Int := if gaE b ms = 0 then gaL b ms else []
def gallK (b ms : List Int) : Int := if gaE b ms = 0 then (gaK ms : Int) else 0
theorem ga_step {b ms : List Int} {k : Nat} (h : k < ms.length) (he : gaE b (ms.take k) = 0) (hg : getE (b.drop (gaK (ms.take k))) ms[k] = 0) :
    gaE b (ms.take (k + 1)) = 0 ∧ gaL b (ms.take (k + 1)) = gaL b (ms.take k) ++ [getN (b.drop (gaK (ms.take k))) ms[k]] ∧ (gaK (ms.take (k + 1)) : Int) = gaK (ms.take k) + ms[k] := by
  rw [take_snoc h, gaE_append _ _ _ he, gaL_append, gaK_append]
  have := okW_of (getE_zero hg).1
  refine ⟨?_, ?_, ?_⟩
  · simp only [gaE]; rw [if_pos hg]
  · simp only [gaL]
  · simp only [gaK]; omega
theorem ga_stop {b ms : List Int} {k : Nat} (h : k < ms.length) (he : gaE b (ms.take k) = 0) (hg : getE (b.drop (gaK (ms.take k))) ms[k] ≠ 0) :
    gaE b ms = getE (b.drop (gaK (ms.take k))) ms[k] ∧ gallL b ms = [] ∧ gallK b ms = 0 := by
  have e : gaE b ms = getE (b.drop (gaK (ms.take k))) ms[k] := by
    conv => lhs; rw [split_at h]
    rw [gaE_append _ _ _ he]
    simp only [gaE]
    rw [if_neg hg]
  refine ⟨e, ?_, ?_⟩
  · unfold gallL; rw [if_neg (by rw [e]; exact hg)]
  · unfold gallK; rw [if_neg (by rw [e]; exact hg)]
theorem ga_end {b ms : List Int} (he : gaE b ms = 0) : gallL b ms = gaL b ms ∧ gallK b ms = gaK ms := by
  unfold gallL gallK; rw [if_pos he, if_pos he]; exact ⟨rfl, rfl⟩

theorem pallL_len (l ms : List Int) : (pallL l ms).length ≤ 4 * l.length := by
  unfold pallL
  split
  · exact paL_len l ms
  · simp
theorem pallL_oct (l ms : List Int) : Oct (pallL l ms) := by
  unfold pallL
  split
  · exact paL_oct l ms
  · intro z hz; simp at hz
theorem gallL_len (b ms : List Int) : (gallL b ms).length ≤ ms.length := by
  unfold gallL
  split
  · rw [gaL_len]; exact Nat.le_refl _
  · simp
theorem getE_vals (b : List Int) (m : Int) : getE b m = 0 ∨ getE b m = 1 ∨ getE b m = 3 := by
  unfold getE
  split
  · split <;> simp
  · simp
theorem gaE_vals (b ms : List Int) : gaE b ms = 0 ∨ gaE b ms = 1 ∨ gaE b ms = 3 := by
  induction ms generalizing b with
  | nil => simp [gaE]
  | cons m ms ih =>
    simp only [gaE]
    split
    · exact ih _
    · exact getE_vals b m
theorem ga_bad {b ms : List Int} (h : gaE b ms ≠ 0) : gallL b ms = [] ∧ gallK b ms = 0 := by
  unfold gallL gallK; rw [if_neg h, if_neg h]; exact ⟨rfl, rfl⟩
theorem pall_vals (l ms : List Int) : pallE l ms = 0 ∨ pallE l ms = 1 := by
  unfold pallE
  split
  · rename_i h
    clear h
    induction l generalizing ms with
    | nil => simp [paE]
    | cons n l ih =>
      cases ms with
      | nil => simp [paE]
      | cons m ms =>
        simp only [paE]
        split
        · exact ih ms
        · simp
  · simp
theorem pall_zero {l ms : List Int} (h : pallE l ms = 0) : l.length = ms.length ∧ paE l ms = 0 ∧ pallL l ms = paL l ms := by
  have e : pallL l ms = paL l ms := by unfold pallL; rw [if_pos h]
  unfold pallE at h
  split at h
  · rename_i h1; exact ⟨h1, h, e⟩
  · cases h

/-! ### there and back -/
theorem num_append (l r : List Int) (k : Nat) (hk : k ≤ l.length) : num (l ++ r) k = num l k := by
  induction k with
  | zero => rfl
  | succ k ih =>
    simp only [num]
    rw [ih (by omega)]
    have : (l ++ r).getD k 0 = l.getD k 0 := by simp [List.getD, List.getElem?_append_left (show k < l.length by omega)]
    rw [this]
theorem num_cons (x : Int) (l : List Int) (k : Nat) : num (x :: l) (k + 1) = x * pw k + num l k := by
  induction k with
  | zero => simp [num, pw]
  | succ k ih =>
    rw [num, ih, pw_succ]
    have : (x :: l).getD (k + 1) 0 = l.getD k 0 := by simp [List.getD]
    rw [this]
    simp only [num]
    rw [Int.add_mul, Int.mul_assoc]
    omega
theorem mod_step' (a : Int) (k : Nat) : a % pw (k + 1) = a / pw k % 256 * pw k + a % pw k := by
  have hp := pw_pos k
  have h1 : pw (k + 1) = pw k * 256 := pw_succ k
  have hb1 := Int.emod_nonneg a (show pw k ≠ 0 by omega)
  have hb2 := Int.emod_lt_of_pos a hp
  have hc1 := Int.emod_nonneg (a / pw k) (show (256 : Int) ≠ 0 by decide)
  have hc2 := Int.emod_lt_of_pos (a / pw k) (show (0 : Int) < 256 by decide)
  have e1 := Int.mul_ediv_add_emod a (pw k)
  have e2 := Int.mul_ediv_add_emod (a / pw k) 256
  have key : a = (a / pw k % 256 * pw k + a % pw k) + pw (k + 1) * (a / pw k / 256) := by
    rw [h1]
    have : pw k * 256 * (a / pw k / 256) = pw k * (256 * (a / pw k / 256)) := by rw [Int.mul_assoc]
    rw [this]
    have e3 : 256 * (a / pw k / 256) = a / pw k - a / pw k % 256 := by omega
    rw [e3, Int.mul_sub, Int.mul_comm (a / pw k % 256)]
    omega
  have hlo : 0 ≤ a / pw k % 256 * pw k + a % pw k := Int.add_nonneg (Int.mul_nonneg hc1 (by omega)) hb1
  have hhi : a / pw k % 256 * pw k + a % pw k < pw (k + 1) := by
    have : a / pw k % 256 * pw k ≤ 255 * pw k := Int.mul_le_mul_of_nonneg_right (by omega) (by omega)
    omega
  conv => lhs; rw [key]
  rw [Int.add_mul_emod_self_left, Int.emod_eq_of_lt hlo hhi]
theorem num_digs (n : Int) (k : Nat) : num (digs n k) k = n % pw k := by
  induction k with
  | zero => simp [num, pw]
  | succ k ih => rw [digs, num_cons, ih, mod_step']
theorem num_inj {l r : List Int} (hl : Oct l) (hr : Oct r) (h : l.length = r.length) (hn : num l l.length = num r r.length) : l = r := by
  induction l generalizing r with
  | nil => cases r with
    | nil => rfl
    | cons => simp at h
  | cons x l ih =>
    cases r with
    | nil => simp at h
    | cons y r =>
      have hll : l.length = r.length := by simpa using h
      have ol : Oct l := fun z hz => hl z (List.mem_cons_of_mem _ hz)
      have or' : Oct r := fun z hz => hr z (List.mem_cons_of_mem _ hz)
      have hp := pw_pos r.length
      have b1 := num_bd ol l.length
      have b2 := num_bd or' r.length
      rw [List.length_cons, List.length_cons, num_cons, num_cons, hll] at hn
      rw [hll] at b1
      have hxy : x = y := by
        rcases Int.lt_trichotomy x y with h1 | h1 | h1
        · have : (x + 1) * pw r.length ≤ y * pw r.length := Int.mul_le_mul_of_nonneg_right (by omega) (by omega)
          rw [Int.add_mul] at this; omega
        · exact h1
        · have : (y + 1) * pw r.length ≤ x * pw r.length := Int.mul_le_mul_of_nonneg_right (by omega) (by omega)
          rw [Int.add_mul] at this; omega
      subst hxy
      rw [ih ol or' hll (by rw [hll]; omega)]
theorem put_get {n m : Int} (h : okP n m = true) (r : List Int) : getE (putL n m ++ r) m = 0 ∧ getN (putL n m ++ r) m = n ∧ (putL n m ++ r).drop m.toNat = r := by
  obtain ⟨hw, h0, h1⟩ := okP_of h
  have hm := okW_of hw
  have hl := putL_len h
  have hge : m ≤ ((putL n m ++ r).length : Int) := by rw [List.length_append, hl]; omega
  refine ⟨getE_ok hw hge, ?_, ?_⟩
  · rw [getN_ok hw hge, num_append _ _ _ (by omega), putL_yes h, num_digs, Int.emod_eq_of_lt h0 h1]
  · rw [← hl]; simp
theorem get_put {b : List Int} {m : Int} (ho : Oct b) (h : getE b m = 0) : okP (getN b m) m = true ∧ putL (getN b m) m = b.take m.toNat := by
  obtain ⟨hw, hl⟩ := getE_zero h
  have hm := okW_of hw
  have hb := num_bd ho m.toNat
  have hN : getN b m = num b m.toNat := getN_ok hw hl
  have hok : okP (getN b m) m = true := by rw [hN]; exact okP_mk hw hb.1 hb.2
  refine ⟨hok, ?_⟩
  have hlen : (b.take m.toNat).length = m.toNat := by simp; omega
  apply num_inj (putL_bd _ _) (fun z hz => ho z (List.mem_of_mem_take hz))
  · rw [putL_len hok, hlen]
  · rw [putL_len hok, hlen, putL_yes hok, num_digs, hN, Int.emod_eq_of_lt hb.1 hb.2]
    have := num_append (b.take m.toNat) (b.drop m.toNat) m.toNat (by omega)
    rw [List.take_append_drop] at this
    exact this
theorem back_put {l ms : List Int} (hn : l.length = ms.length) (he : paE l ms = 0) (r : List Int) : gaE (paL l ms ++ r) ms = 0 ∧ gaL (paL l ms ++ r) ms = l ∧ gaK ms = (paL l ms).length := by
  induction l generalizing ms with
  | nil =>
    cases ms with
    | nil => simp [gaE, gaL, gaK, paL]
    | cons m ms => simp at hn
  | cons n l ih =>
    cases ms with
    | nil => simp at hn
    | cons m ms =>
      simp only [paE] at he
      by_cases h1 : putE n m = 0
      · rw [if_pos h1] at he
        have hok := putE_zero h1
        obtain ⟨i1, i2, i3⟩ := ih (by simpa using hn) he
        obtain ⟨g1, g2, g3⟩ := put_get hok (paL l ms ++ r)
        simp only [paL, List.append_assoc, gaE, gaL, gaK, List.length_append]
        rw [if_pos g1, g3, g2, i1, i2, i3, putL_len hok]
        exact ⟨rfl, rfl, rfl⟩
      · rw [if_neg h1] at he; cases he
theorem back_get {b ms : List Int} (ho : Oct b) (he : gaE b ms = 0) : paE (gaL b ms) ms = 0 ∧ paL (gaL b ms) ms = b.take (gaK ms) := by
  induction ms generalizing b with
  | nil => simp [gaL, paE, paL, gaK]
  | cons m ms ih =>
    simp only [gaE] at he
    by_cases h1 : getE b m = 0
    · rw [if_pos h1] at he
      obtain ⟨i1, i2⟩ := ih (oct_drop ho _) he
      obtain ⟨p1, p2⟩ := get_put ho h1
      simp only [gaL, paE, paL, gaK]
      rw [if_pos (putE_yes p1), i1, i2, p2]
      refine ⟨rfl, ?_⟩
      have h2 := getE_zero h1
      have hm := okW_of h2.1
      rw [List.take_add]
    · rw [if_neg h1] at he; exact absurd he h1
theorem all_back {l ms : List Int} (h : pallE l ms = 0) (r : List Int) : gaE (pallL l ms ++ r) ms = 0 ∧ gallL (pallL l ms ++ r) ms = l ∧ gallK (pallL l ms ++ r) ms = ((pallL l ms).length : Int) := by
  obtain ⟨hn, he, e⟩ := pall_zero h
  obtain ⟨g1, g2, g3⟩ := back_put hn he r
  rw [e]
  obtain ⟨k1, k2⟩ := ga_end g1
  exact ⟨g1, k1.trans g2, by rw [k2, g3]⟩
theorem got_back {b ms : List Int} (ho : Oct b) (h : gaE b ms = 0) : pallE (gaL b ms) ms = 0 ∧ pallL (gaL b ms) ms = b.take (gaK ms) := by
  obtain ⟨h1, h2⟩ := back_get ho h
  obtain ⟨e1, e2⟩ := pa_end (gaL_len b ms) h1
  exact ⟨e1, e2.trans h2⟩
end Go.Proofs.Ytoedgnkoahcblaa.O

/-! The plain arithmetic of 32-bit addresses that the claims on package bits rest on: bits, heads, cuts and common beginnings of integers; no program in sight. -/
namespace Go.Proofs.Ytoedgnkoahcblaa.M
open Go

/-- a number of bits, brought between 0 and 32 -/
def cl (n : Int) : Int := if n < 0 then 0 else if 32 < n then 32 else n
theorem cl_lo (n : Int) : 0 ≤ cl n := by unfold cl; split <;> (try split) <;> omega
theorem cl_hi (n : Int) : cl n ≤ 32 := by unfold cl; split <;> (try split) <;> omega
theorem cl_id {n : Int} (h0 : 0 ≤ n) (h1 : n ≤ 32) : cl n = n := by unfold cl; rw [if_neg (by omega), if_neg (by omega)]
theorem cl_cl (n : Int) : cl (cl n) = cl n := cl_id (cl_lo n) (cl_hi n)
theorem cl_of_eq {n : Int} (h : cl n = n) : 0 ≤ n ∧ n ≤ 32 := by have := cl_lo n; have := cl_hi n; omega

/-- the first n of 32 bits, as a number of 32 bits -/
def hd (n : Int) : Int := 4294967296 - 2 ^ (32 - cl n).toNat
/-- bit i of an address, from the highest one on -/
def bt (a i : Int) : Int := if 0 ≤ i ∧ i < 32 then a % 4294967296 / 2 ^ (31 - i).toNat % 2 else 0
/-- what an address begins with: its first n bits, the others 0 -/
def ct (a n : Int) : Int := a % 4294967296 / 2 ^ (32 - cl n).toNat * 2 ^ (32 - cl n).toNat
/-- the first k bits of an address, as a number of k bits -/
def tp (a : Int) (k : Nat) : Int := a % 4294967296 / 2 ^ (32 - k)

theorem pw_pos (k : Nat) : (0 : Int) < 2 ^ k := Int.pow_pos (by decide)

theorem shl_all : ∀ k : Fin 33, ((4294967295 : Int) * 2 ^ k.val) % 4294967296 = 4294967296 - 2 ^ k.val := by decide +kernel
theorem shl_head (n : Int) : 4294967295 * 2 ^ (32 - cl n).toNat % 4294967296 = hd n := by
  have h0 := cl_lo n; have h1 := cl_hi n
  exact shl_all ⟨(32 - cl n).toNat, by omega⟩
theorem hd_all : ∀ k : Fin 33, (0 : Int) ≤ 4294967296 - 2 ^ k.val ∧ ((4294967296 : Int) - 2 ^ k.val) ≤ 4294967295 := by decide +kernel
theorem hd_bd (n : Int) : 0 ≤ hd n ∧ hd n ≤ 4294967295 := by
  have h0 := cl_lo n; have h1 := cl_hi n
  exact hd_all ⟨(32 - cl n).toNat, by omega⟩

theorem and_high (X k : Nat) (hX : X < 4294967296) (hk : k ≤ 32) : X &&& (4294967296 - 2 ^ k) = X / 2 ^ k * 2 ^ k := by
  have e : 4294967296 - 2 ^ k = (2 ^ (32 - k) - 1) <<< k := by
    rw [Nat.shiftLeft_eq, Nat.sub_mul, Nat.one_mul, ← Nat.pow_add, show 32 - k + k = 32 by omega]
  rw [e, ← Nat.shiftLeft_eq, ← Nat.shiftRight_eq_div_pow]
  apply Nat.eq_of_testBit_eq
  intro i
  simp only [Nat.testBit_and, Nat.testBit_shiftLeft, Nat.testBit_two_pow_sub_one, Nat.testBit_shiftRight]
  by_cases h : k ≤ i
  · by_cases h2 : i - k < 32 - k
    · simp [h, h2]
    · have : X.testBit i = false := Nat.testBit_lt_two_pow (Nat.lt_of_lt_of_le hX (show 2 ^ 32 ≤ 2 ^ i from Nat.pow_le_pow_right (by decide) (by omega)))
      have e2 : k + (i - k) = i := by omega
      simp [this, e2]
  · simp [h]

theorem and_head (a n : Int) : bits .and .u32 (a % 4294967296) (hd n) = ct a n := by
  have h0 := cl_lo n; have h1 := cl_hi n; have hb := hd_bd n
  have hm : 0 ≤ a % 4294967296 := Int.emod_nonneg _ (by decide)
  have hm2 : a % 4294967296 < 4294967296 := Int.emod_lt_of_pos _ (by decide)
  rw [u32_and _ _ hm hm2 hb.1 (by omega)]
  have e : (hd n).toNat = 4294967296 - 2 ^ (32 - cl n).toNat := by
    have : (2 : Int) ^ (32 - cl n).toNat = ((2 ^ (32 - cl n).toNat : Nat) : Int) := by simp
    unfold hd at hb ⊢; rw [this] at hb ⊢; omega
  rw [e, and_high _ _ (by omega) (by omega)]
  unfold ct
  rw [Int.natCast_mul, Int.natCast_ediv, Int.toNat_of_nonneg hm]
  simp

theorem bt_01 (a i : Int) : 0 ≤ bt a i ∧ bt a i ≤ 1 := by
  unfold bt; split
  · omega
  · omega

theorem and_one (x : Int) (h0 : 0 ≤ x) (h1 : x ≤ 4294967295) (j : Nat) : bits .and .u32 (x / 2 ^ j) 1 = x / 2 ^ j % 2 := by
  have hd0 : 0 ≤ x / 2 ^ j := Int.ediv_nonneg h0 (Int.le_of_lt (pw_pos j))
  have hd1 : x / 2 ^ j ≤ x := Int.ediv_le_self _ h0
  rw [u32_and _ _ hd0 (by omega) (by decide) (by decide), show (1 : Int).toNat = 1 from rfl, nat_mask1]
  omega

theorem bt_in {a i : Int} (h0 : 0 ≤ i) (h1 : i < 32) : bt a i = a % 4294967296 / 2 ^ (31 - i).toNat % 2 := by unfold bt; rw [if_pos ⟨h0, h1⟩]
theorem bt_out {a i : Int} (h : i < 0 ∨ 32 ≤ i) : bt a i = 0 := by unfold bt; rw [if_neg (by omega)]
theorem bt_mod (a i : Int) : bt (a % 4294967296) i = bt a i := by unfold bt; rw [Int.emod_emod_of_dvd _ (Int.dvd_refl _)]
theorem ct_mod (a n : Int) : ct (a % 4294967296) n = ct a n := by unfold ct; rw [Int.emod_emod_of_dvd _ (Int.dvd_refl _)]
theorem ct_cl (a n : Int) : ct a (cl n) = ct a n := by unfold ct; rw [cl_cl]
theorem hd_cl (n : Int) : hd (cl n) = hd n := by unfold hd; rw [cl_cl]

/-- one bit more -/
theorem tp_succ (a : Int) (k : Nat) (hk : k < 32) : tp a (k + 1) = tp a k * 2 + bt a k := by
  rw [bt_in (by omega) (by omega)]
  unfold tp
  have e : 32 - k = (32 - (k + 1)) + 1 := by omega
  have e2 : (31 - (k : Int)).toNat = 32 - (k + 1) := by omega
  rw [e, e2, Int.pow_succ, ← Int.ediv_ediv_of_nonneg (Int.le_of_lt (pw_pos _))]
  omega
theorem tp_zero (a : Int) : tp a 0 = 0 := by
  unfold tp
  have h1 : 0 ≤ a % 4294967296 := Int.emod_nonneg _ (by decide)
  have h2 : a % 4294967296 < 4294967296 := Int.emod_lt_of_pos _ (by decide)
  exact Int.ediv_eq_zero_of_lt h1 h2
theorem tp_all (a : Int) : tp a 32 = a % 4294967296 := by unfold tp; simp
theorem tp_lo (a : Int) (k : Nat) : 0 ≤ tp a k := Int.ediv_nonneg (Int.emod_nonneg _ (by decide)) (Int.le_of_lt (pw_pos _))
theorem tp_hi (a : Int) (k : Nat) : tp a k ≤ 4294967295 := by
  have h1 : 0 ≤ a % 4294967296 := Int.emod_nonneg _ (by decide)
  have h2 : a % 4294967296 < 4294967296 := Int.emod_lt_of_pos _ (by decide)
  have h3 : tp a k ≤ a % 4294967296 := Int.ediv_le_self _ h1
  omega

theorem ct_tp (a n : Int) : ct a n = tp a (cl n).toNat * 2 ^ (32 - cl n).toNat := by
  have h0 := cl_lo n; have h1 := cl_hi n
  unfold ct tp
  rw [show 32 - (cl n).toNat = (32 - cl n).toNat by omega]
theorem ct_bd (a n : Int) : 0 ≤ ct a n ∧ ct a n ≤ 4294967295 := by
  have h1 : 0 ≤ a % 4294967296 := Int.emod_nonneg _ (by decide)
  have h2 : a % 4294967296 < 4294967296 := Int.emod_lt_of_pos _ (by decide)
  have h3 := Int.ediv_mul_le (a % 4294967296) (Int.ne_of_gt (pw_pos (32 - cl n).toNat))
  have h4 : 0 ≤ a % 4294967296 / 2 ^ (32 - cl n).toNat := Int.ediv_nonneg h1 (Int.le_of_lt (pw_pos _))
  have h5 : 0 ≤ ct a n := Int.mul_nonneg h4 (Int.le_of_lt (pw_pos _))
  unfold ct at h5 ⊢
  omega

/-- the first n bits of two addresses are the same just where the cuts are -/
theorem ct_eq (a b n : Int) : ct a n = ct b n ↔ tp a (cl n).toNat = tp b (cl n).toNat := by
  rw [ct_tp, ct_tp]
  exact ⟨fun h => Int.eq_of_mul_eq_mul_right (Int.ne_of_gt (pw_pos _)) h, fun h => by rw [h]⟩

/-- the first k bits are the same just where the first k bits, taken as one number, are -/
theorem same_tp (a b : Int) (k : Nat) (hk : k ≤ 32) : (∀ j : Nat, j < k → bt a j = bt b j) ↔ tp a k = tp b k := by
  induction k with
  | zero => simp [tp_zero]
  | succ k ih =>
    have ih' := ih (by omega)
    have ea := tp_succ a k (by omega); have eb := tp_succ b k (by omega)
    have ba := bt_01 a k; have bb := bt_01 b k
    constructor
    · intro h
      have := ih'.1 (fun j hj => h j (by omega)); have := h k (by omega); omega
    · intro h
      have h1 : tp a k = tp b k := by omega
      have h2 : bt a k = bt b k := by omega
      intro j hj
      by_cases e : j = k
      · rw [e]; exact h2
      · exact ih'.2 h1 j (by omega)

/-- how many bits two addresses have in common at first -/
def cmN (a b : Int) : Nat := ((List.range 32).find? (fun j : Nat => bt a (j : Int) != bt b (j : Int))).getD 32
theorem cm_of (a b : Int) (k : Nat) (h1 : ∀ j : Nat, j < k → bt a j = bt b j) (h2 : k < 32 ∧ bt a k ≠ bt b k ∨ k = 32) : cmN a b = k := by
  unfold cmN
  rcases h2 with ⟨h2, h3⟩ | rfl
  · have : (List.range 32).find? (fun j : Nat => bt a (j : Int) != bt b (j : Int)) = some k := by
      rw [List.find?_range_eq_some]
      exact ⟨by simpa using h3, by simpa using h2, fun j hj => by simpa using h1 j hj⟩
    rw [this]; rfl
  · have : (List.range 32).find? (fun j : Nat => bt a (j : Int) != bt b (j : Int)) = none := by
      rw [List.find?_eq_none]; intro j hj; simpa using h1 j (by simpa using hj)
    rw [this]; rfl
theorem cm_is (a b : Int) : cmN a b ≤ 32 ∧ (∀ j : Nat, j < cmN a b → bt a j = bt b j) ∧ (cmN a b < 32 → bt a (cmN a b) ≠ bt b (cmN a b)) := by
  have key : ∃ k : Nat, (∀ j : Nat, j < k → bt a j = bt b j) ∧ (k < 32 ∧ bt a k ≠ bt b k ∨ k = 32) := by
    by_cases h : ∀ j : Nat, j < 32 → bt a j = bt b j
    · exact ⟨32, h, .inr rfl⟩
    · have h' : ∃ j : Nat, j < 32 ∧ bt a j ≠ bt b j := by
        apply Classical.byContradiction; intro hn; apply h; intro j hj
        apply Classical.byContradiction; intro hne; exact hn ⟨j, hj, hne⟩
      have least : ∀ n : Nat, ∀ j : Nat, j < n → j < 32 → bt a j ≠ bt b j → ∃ k : Nat, (∀ i : Nat, i < k → bt a i = bt b i) ∧ (k < 32 ∧ bt a k ≠ bt b k ∨ k = 32) := by
        intro n
        induction n with
        | zero => intro j hj; omega
        | succ n ih =>
          intro j hj h32 hne
          by_cases hall : ∀ i : Nat, i < j → bt a i = bt b i
          · exact ⟨j, hall, .inl ⟨h32, hne⟩⟩
          · have : ∃ i : Nat, i < j ∧ bt a i ≠ bt b i := by
              apply Classical.byContradiction; intro hn; apply hall; intro i hi
              apply Classical.byContradiction; intro hne2; exact hn ⟨i, hi, hne2⟩
            obtain ⟨i, hi, hne2⟩ := this
            exact ih i (by omega) (by omega) hne2
      obtain ⟨j, hj, hne⟩ := h'
      exact least (j + 1) j (by omega) hj hne
  obtain ⟨k, h1, h2⟩ := key
  have e := cm_of a b k h1 h2
  rw [e]
  refine ⟨by omega, h1, fun hk => ?_⟩
  rcases h2 with ⟨_, h⟩ | h
  · exact h
  · omega
theorem cm_comm (a b : Int) : cmN a b = cmN b a := by
  obtain ⟨h1, h2, h3⟩ := cm_is b a
  refine cm_of a b _ (fun j hj => (h2 j hj).symm) ?_
  by_cases h : cmN b a < 32
  · exact .inl ⟨h, fun e => h3 h e.symm⟩
  · exact .inr (by omega)
/-- n bits in common: the cuts are the same -/
theorem cm_ge (a b : Int) (k : Nat) (hk : k ≤ 32) : k ≤ cmN a b ↔ tp a k = tp b k := by
  obtain ⟨h1, h2, h3⟩ := cm_is a b
  rw [← same_tp a b k hk]
  constructor
  · intro h j hj; exact h2 j (by omega)
  · intro h
    by_cases hlt : cmN a b < k
    · exact absurd (h _ hlt) (h3 (by omega))
    · omega
theorem cm_32 (a b : Int) : cmN a b = 32 ↔ a % 4294967296 = b % 4294967296 := by
  have h := cm_ge a b 32 (by omega)
  rw [tp_all, tp_all] at h
  have := (cm_is a b).1
  rw [← h]; omega

/-- fewer bits of a cut are a cut -/
theorem ct_ct (a m n : Int) (h : cl n ≤ cl m) : ct (ct a m) n = ct a n := by
  have h0 := cl_lo n; have h1 := cl_hi m
  have hb := ct_bd a m
  have e : (32 - cl n).toNat = (32 - cl m).toNat + (cl m - cl n).toNat := by omega
  have hp := pw_pos (32 - cl m).toNat
  unfold ct at hb ⊢
  rw [Int.emod_eq_of_lt hb.1 (by omega), e, Int.pow_add, ← Int.ediv_ediv_of_nonneg (Int.le_of_lt hp), ← Int.ediv_ediv_of_nonneg (Int.le_of_lt hp), Int.mul_ediv_cancel _ (Int.ne_of_gt hp)]
theorem ct_zero (a : Int) : ct a 0 = 0 := by rw [ct_tp]; show tp a 0 * _ = 0; rw [tp_zero]; simp
theorem ct_all (a : Int) : ct a 32 = a % 4294967296 := by rw [ct_tp]; show tp a 32 * 2 ^ 0 = _; rw [tp_all]; simp

theorem bt_hd_all : ∀ k : Fin 33, ∀ i : Fin 32, ((4294967296 : Int) - 2 ^ (32 - k.val)) % 4294967296 / 2 ^ (31 - i.val) % 2 = if i.val < k.val then 1 else 0 := by decide +kernel
/-- the bits of a mask -/
theorem bt_hd (n i : Int) (h0 : 0 ≤ i) (h1 : i < 32) : bt (hd n) i = if i < n then 1 else 0 := by
  have a0 := cl_lo n; have a1 := cl_hi n
  have h := bt_hd_all ⟨(cl n).toNat, by omega⟩ ⟨i.toNat, by omega⟩
  rw [bt_in h0 h1]
  unfold hd
  rw [show (32 - cl n).toNat = 32 - (cl n).toNat by omega, show (31 - i).toNat = 31 - i.toNat by omega]
  simp only at h
  rw [h]
  have hc : cl n = if n < 0 then 0 else if 32 < n then 32 else n := rfl
  by_cases hn : i < n
  · rw [if_pos hn, if_pos (by split at hc <;> (try split at hc) <;> omega)]
  · rw [if_neg hn, if_neg (by split at hc <;> (try split at hc) <;> omega)]
theorem and_hd_all : ∀ k l : Fin 33, l.val ≤ k.val → bits .and .i64 ((4294967296 : Int) - 2 ^ k.val) ((4294967296 : Int) - 2 ^ l.val) = (4294967296 : Int) - 2 ^ k.val := by decide +kernel
/-- a greater mask has all of a lesser one -/
theorem and_hd (n m : Int) (h : n ≤ m) : bits .and .i64 (hd n) (hd m) = hd n := by
  have a0 := cl_lo n; have a1 := cl_hi n; have b0 := cl_lo m; have b1 := cl_hi m
  have hc : cl n = if n < 0 then 0 else if 32 < n then 32 else n := rfl
  have hd' : cl m = if m < 0 then 0 else if 32 < m then 32 else m := rfl
  have hle : cl n ≤ cl m := by split at hc <;> (try split at hc) <;> split at hd' <;> (try split at hd') <;> omega
  exact and_hd_all ⟨(32 - cl n).toNat, by omega⟩ ⟨(32 - cl m).toNat, by omega⟩ (by simp only; omega)

/-- may a prefix be? -/
def mayB (a n : Int) : Bool := decide (cl n = n ∧ ct a n = a)
/-- has a prefix an address? -/
def hasB (a n x : Int) : Bool := decide (cl n = n ∧ ct x n = a)
/-- is the second prefix within the first one? -/
def inB (a n b m : Int) : Bool := mayB a n && mayB b m && decide (n ≤ m) && hasB a n b
theorem mayB_hasB (a n : Int) : mayB a n = hasB a n a := rfl

theorem mayB_iff {a n : Int} : mayB a n = true ↔ cl n = n ∧ ct a n = a := by unfold mayB; simp
theorem hasB_iff {a n x : Int} : hasB a n x = true ↔ cl n = n ∧ ct x n = a := by unfold hasB; simp
theorem inB_iff {a n b m : Int} : inB a n b m = true ↔ mayB a n = true ∧ mayB b m = true ∧ n ≤ m ∧ hasB a n b = true := by unfold inB; simp [and_assoc]
/-- of two prefixes that may be: one is within the other one, or they have no address in common; two within each other are one; what is of the inner one is of the outer one -/
theorem two_ok (a n b m x : Int) (hp : mayB a n = true) (hq : mayB b m = true) :
    ((inB a n b m || inB b m a n || !(hasB a n x && hasB b m x)) && ((inB a n b m && inB b m a n) == (a == b && n == m)) && (!inB a n b m || !hasB b m x || hasB a n x)) = true := by
  have p2 := mayB_iff.1 hp; have q2 := mayB_iff.1 hq
  obtain ⟨p3, p4⟩ := p2; obtain ⟨q3, q4⟩ := q2
  have down : ∀ {a n b m : Int}, cl n = n → cl m = m → n ≤ m → ct x n = a → ct x m = b → ct b n = a := fun h1 h2 h3 h4 h5 => by
    rw [← h5, ct_ct x _ _ (by rw [h1, h2]; exact h3)]; exact h4
  have up : inB a n b m = true → hasB b m x = true → hasB a n x = true := fun h1 h2 => by
    obtain ⟨_, _, h3, h4⟩ := inB_iff.1 h1
    obtain ⟨_, h5⟩ := hasB_iff.1 h4
    obtain ⟨_, h6⟩ := hasB_iff.1 h2
    exact hasB_iff.2 ⟨p3, by rw [← h5, ← h6, ct_ct x _ _ (by rw [p3, q3]; exact h3)]⟩
  have one : hasB a n x = true → hasB b m x = true → inB a n b m = true ∨ inB b m a n = true := fun h1 h2 => by
    obtain ⟨_, h3⟩ := hasB_iff.1 h1
    obtain ⟨_, h4⟩ := hasB_iff.1 h2
    rcases Int.le_total n m with h | h
    · exact .inl (inB_iff.2 ⟨hp, hq, h, hasB_iff.2 ⟨p3, down p3 q3 h h3 h4⟩⟩)
    · exact .inr (inB_iff.2 ⟨hq, hp, h, hasB_iff.2 ⟨q3, down q3 p3 h h4 h3⟩⟩)
  have eqv : (inB a n b m && inB b m a n) = (a == b && n == m) := by
    rw [Bool.eq_iff_iff]
    simp only [Bool.and_eq_true, beq_iff_eq]
    constructor
    · rintro ⟨h1, h2⟩
      obtain ⟨_, _, h3, h4⟩ := inB_iff.1 h1
      obtain ⟨_, _, h5, h6⟩ := inB_iff.1 h2
      have e : n = m := by omega
      subst e
      exact ⟨by rw [← (hasB_iff.1 h4).2]; exact q4, rfl⟩
    · rintro ⟨rfl, rfl⟩
      have : inB a n a n = true := inB_iff.2 ⟨hp, hp, Int.le_refl _, hasB_iff.2 ⟨p3, p4⟩⟩
      exact ⟨this, this⟩
  rw [eqv]
  cases h1 : inB a n b m <;> cases h2 : inB b m a n <;> cases h3 : hasB a n x <;> cases h4 : hasB b m x <;> simp_all

/-- a cut may be, has its address, and of the others those that have as many bits in common -/
theorem may_cut (a n : Int) (h : cl n = n) : mayB (ct a n) n = true := mayB_iff.2 ⟨h, ct_ct a n n (Int.le_refl _)⟩
theorem has_cut (a n : Int) (h : cl n = n) : hasB (ct a n) n a = true := hasB_iff.2 ⟨h, rfl⟩
theorem has_cut_b (a b n : Int) (h : cl n = n) : hasB (ct a n) n b = decide (n ≤ (cmN a b : Int)) := by
  have hb := cl_of_eq h
  have k := cm_ge a b n.toNat (by omega)
  rw [Bool.eq_iff_iff, hasB_iff, decide_eq_true_eq, ct_eq, h]
  constructor
  · rintro ⟨_, h2⟩; have := k.2 h2.symm; omega
  · intro h2; exact ⟨rfl, (k.1 (by omega)).symm⟩
theorem in_cut (a n m : Int) (h : cl n = n) (h2 : cl m = m) (hm : n ≤ m) : inB (ct a n) n (ct a m) m = true :=
  inB_iff.2 ⟨may_cut a n h, may_cut a m h2, hm, hasB_iff.2 ⟨h, ct_ct a m n (by rw [h, h2]; exact hm)⟩⟩

end Go.Proofs.Ytoedgnkoahcblaa.M

/-! Plain arithmetic for the document's answers on package bits: what their loops add up to. -/
namespace Go.Proofs.Ytoedgnkoahcblaa.M
open Go

theorem i64_low (n : Int) : bits .and .i64 n 4294967295 = n % 4294967296 := by
  have h127 : (BitVec.ofInt 64 4294967295).toNat = 2 ^ 32 - 1 := by decide
  have key : (BitVec.ofInt 64 n &&& BitVec.ofInt 64 4294967295).toNat = (n % ((2 ^ 64 : Nat) : Int)).toNat % 2 ^ 32 := by
    rw [BitVec.toNat_and, BitVec.toNat_ofInt, h127, Nat.and_two_pow_sub_one_eq_mod]
  show IntKind.i64.wrap ((BitVec.ofInt 64 n &&& BitVec.ofInt 64 4294967295).toNat : Nat) = n % 4294967296
  rw [key, IntKind.wrap_i64]
  omega

/-- what the mask's loop holds behind i rounds -/
def mkN (c : Nat) : Nat → Nat
  | 0 => 0
  | i + 1 => mkN c i * 2 + if i < c then 1 else 0
theorem mk_all : ∀ k : Fin 33, ((mkN k.val 32 : Nat) : Int) = 4294967296 - 2 ^ (32 - k.val) := by decide +kernel
theorem mk_hd (n : Int) : ((mkN (cl n).toNat 32 : Nat) : Int) = hd n := by
  have h0 := cl_lo n; have h1 := cl_hi n
  have := mk_all ⟨(cl n).toNat, by omega⟩
  unfold hd
  rw [show (32 - cl n).toNat = 32 - (cl n).toNat by omega]
  exact this
theorem mk_lt (c : Nat) : ∀ i, mkN c i < 2 ^ i
  | 0 => by unfold mkN; decide
  | i + 1 => by
    have := mk_lt c i
    have e : 2 ^ (i + 1) = 2 ^ i * 2 := Nat.pow_succ ..
    unfold mkN; split <;> omega

/-- what the cut's loop holds behind i rounds -/
def cuZ (a : Int) (c : Nat) : Nat → Int
  | 0 => 0
  | i + 1 => cuZ a c i * 2 + if i < c then bt a i else 0
theorem cu_lo (a : Int) (c : Nat) : ∀ i, i ≤ c → c ≤ 32 → cuZ a c i = tp a i
  | 0, _, _ => (tp_zero a).symm
  | i + 1, h, hc => by
    have := cu_lo a c i (by omega) hc
    unfold cuZ
    rw [this, if_pos (by omega), tp_succ a i (by omega)]
theorem cu_hi (a : Int) (c : Nat) (hc : c ≤ 32) : ∀ j, cuZ a c (c + j) = tp a c * 2 ^ j
  | 0 => by rw [Nat.add_zero, cu_lo a c c (Nat.le_refl _) hc]; simp
  | j + 1 => by
    have := cu_hi a c hc j
    show cuZ a c (c + j) * 2 + (if c + j < c then bt a ((c + j : Nat) : Int) else 0) = _
    rw [this, if_neg (by omega), Int.pow_succ]; simp [Int.mul_assoc]
theorem cu_ct (a n : Int) : cuZ a (cl n).toNat 32 = ct a n := by
  have h0 := cl_lo n; have h1 := cl_hi n
  have h := cu_hi a (cl n).toNat (by omega) (32 - cl n).toNat
  rw [show (cl n).toNat + (32 - cl n).toNat = 32 by omega] at h
  rw [h, ct_tp]
theorem cu_bd (a : Int) (c : Nat) : ∀ i, 0 ≤ cuZ a c i ∧ cuZ a c i < 2 ^ i
  | 0 => by unfold cuZ; decide
  | i + 1 => by
    have := cu_bd a c i
    have hb := bt_01 a i
    have e : (2 : Int) ^ (i + 1) = 2 ^ i * 2 := Int.pow_succ ..
    unfold cuZ; split <;> omega

/-- the bits from n on are 0 just where a cut changes nothing -/
theorem tail_zero (a : Int) (ha0 : 0 ≤ a) (ha1 : a ≤ 4294967295) (n : Nat) (hn : n ≤ 32) : (∀ j : Nat, n ≤ j → j < 32 → bt a j = 0) ↔ ct a n = a := by
  have e : a % 4294967296 = a := Int.emod_eq_of_lt ha0 (by omega)
  have key : ∀ d, n + d ≤ 32 → ((∀ j : Nat, n ≤ j → j < n + d → bt a j = 0) ↔ tp a (n + d) = tp a n * 2 ^ d) := by
    intro d
    induction d with
    | zero => intro _; simp; intro j h1 h2; omega
    | succ d ih =>
      intro hd
      have ih' := ih (by omega)
      have hs := tp_succ a (n + d) (by omega)
      have hb := bt_01 a (n + d : Nat)
      have hlow : tp a n * 2 ^ d ≤ tp a (n + d) := by
        unfold tp
        have e2 : 32 - n = (32 - (n + d)) + d := by omega
        rw [e2, Int.pow_add, ← Int.ediv_ediv_of_nonneg (Int.le_of_lt (pw_pos _))]
        exact Int.ediv_mul_le _ (Int.ne_of_gt (pw_pos d))
      have e3 : tp a n * 2 ^ (d + 1) = tp a n * 2 ^ d * 2 := by rw [Int.pow_succ, Int.mul_assoc]
      rw [show n + (d + 1) = n + d + 1 by omega, e3]
      constructor
      · intro h
        have h1 := ih'.1 (fun j h1 h2 => h j h1 (by omega))
        have h2 := h (n + d) (by omega) (by omega)
        omega
      · intro h
        have h1 : tp a (n + d) = tp a n * 2 ^ d := by omega
        have h2 : bt a (n + d : Nat) = 0 := by omega
        intro j hj1 hj2
        by_cases ej : j = n + d
        · rw [ej]; exact h2
        · exact ih'.2 h1 j hj1 (by omega)
  have k := key (32 - n) (by omega)
  rw [show n + (32 - n) = 32 by omega, tp_all, e] at k
  rw [k, ct_tp, cl_id (by omega) (by omega), show (32 - (n : Int)).toNat = 32 - n by omega, Int.toNat_natCast]
  exact eq_comm
theorem may_out (a n : Int) (h : n < 0 ∨ 32 < n ∨ a < 0 ∨ 4294967295 < a) : mayB a n = false := by
  cases hm : mayB a n
  · rfl
  · obtain ⟨h1, h2⟩ := mayB_iff.1 hm
    have := cl_of_eq h1; have hb := ct_bd a n
    rw [h2] at hb; omega

end Go.Proofs.Ytoedgnkoahcblaa.M

/-! Rules and their bytes, as plain numbers and lists: what the calls of package rule come to; no program in sight. -/
namespace Go.Proofs.Ytoedgnkoahcblaa.R
open Go M O
set_option linter.unusedVariables false
set_option linter.unusedSimpArgs false

/-- may what a rule does be? -/
def actB (k t : Int) : Bool := if k = 0 then decide (t = 0) else if k = 1 then decide (0 ≤ t ∧ t ≤ 7) else false
/-- may a rule be? -/
def okR (a n i p k t : Int) : Bool := mayB a n && decide (-1 ≤ i ∧ i ≤ 7) && decide (0 ≤ p ∧ p ≤ 255) && actB k t
/-- is a rule for packets from the port x to the address d? -/
def fitB (a n i x d : Int) : Bool := hasB a n d && (decide (i = -1) || decide (i = x))
/-- is the rule of n, p, i ahead of the one of m, q, j? -/
def ahB (n p i m q j : Int) : Bool := if n = m then (if p = q then decide (j < i) else decide (q < p)) else decide (m < n)
/-- are two rules alike? -/
def likeB (a n i p b m j q : Int) : Bool := decide (a = b ∧ n = m ∧ i = j ∧ p = q)

theorem may_bd {a n : Int} (h : mayB a n = true) : (0 ≤ a ∧ a ≤ 4294967295) ∧ 0 ≤ n ∧ n ≤ 32 := by
  rw [mayB_iff] at h
  have h1 := ct_bd a n
  have h2 := cl_lo n
  have h3 := cl_hi n
  omega
theorem act_bd {k t : Int} (h : actB k t = true) : (k = 0 ∧ t = 0) ∨ (k = 1 ∧ 0 ≤ t ∧ t ≤ 7) := by
  unfold actB at h
  split at h
  · rename_i hk; exact .inl ⟨hk, by simpa using h⟩
  · split at h
    · rename_i hk; exact .inr ⟨hk, by simpa using h⟩
    · cases h
theorem okR_of {a n i p k t : Int} (h : okR a n i p k t = true) : mayB a n = true ∧ (-1 ≤ i ∧ i ≤ 7) ∧ (0 ≤ p ∧ p ≤ 255) ∧ actB k t = true := by
  unfold okR at h
  simp only [Bool.and_eq_true, decide_eq_true_eq] at h
  exact ⟨h.1.1.1, h.1.1.2, h.1.2, h.2⟩
theorem okR_bd {a n i p k t : Int} (h : okR a n i p k t = true) : (0 ≤ a ∧ a ≤ 4294967295) ∧ (0 ≤ n ∧ n ≤ 32) ∧ (-1 ≤ i ∧ i ≤ 7) ∧ (0 ≤ p ∧ p ≤ 255) ∧ (0 ≤ k ∧ k ≤ 1) ∧ (0 ≤ t ∧ t ≤ 7) := by
  obtain ⟨h1, h2, h3, h4⟩ := okR_of h
  have h5 := may_bd h1
  have h6 := act_bd h4
  omega
theorem okP_four {n : Int} (h : 0 ≤ n ∧ n ≤ 4294967295) : okP n 4 = true := okP_mk (by decide) h.1 (by show n < 4294967296; omega)
theorem okP_one {n : Int} (h : 0 ≤ n ∧ n ≤ 255) : okP n 1 = true := okP_mk (by decide) h.1 (by show n < 256; omega)

/-- a rule's bytes, one number behind the other -/
def bodyR (a n i p k t : Int) : List Int := pallL [a, n, i + 1, p, k, t] [4, 1, 1, 1, 1, 1]
theorem body_ok {a n i p k t : Int} (h : okR a n i p k t = true) : pallE [a, n, i + 1, p, k, t] [4, 1, 1, 1, 1, 1] = 0 ∧ bodyR a n i p k t = putL a 4 ++ (putL n 1 ++ (putL (i + 1) 1 ++ (putL p 1 ++ (putL k 1 ++ putL t 1)))) := by
  obtain ⟨h1, h2, h3, h4, h5, h6⟩ := okR_bd h
  have e : paE [a, n, i + 1, p, k, t] [4, 1, 1, 1, 1, 1] = 0 := by
    simp only [paE]
    rw [if_pos (putE_yes (okP_four h1)), if_pos (putE_yes (okP_one (by omega))), if_pos (putE_yes (okP_one (by omega))), if_pos (putE_yes (okP_one (by omega))), if_pos (putE_yes (okP_one (by omega))), if_pos (putE_yes (okP_one (by omega)))]
  obtain ⟨e1, e2⟩ := pa_end (l := [a, n, i + 1, p, k, t]) (ms := [4, 1, 1, 1, 1, 1]) rfl e
  exact ⟨e1, by unfold bodyR; rw [e2]; simp [paL]⟩
theorem body_len {a n i p k t : Int} (h : okR a n i p k t = true) : (bodyR a n i p k t).length = 9 := by
  obtain ⟨h1, h2, h3, h4, h5, h6⟩ := okR_bd h
  rw [(body_ok h).2]
  simp only [List.length_append]
  rw [putL_len (okP_four h1), putL_len (okP_one (n := n) (by omega)), putL_len (okP_one (n := i + 1) (by omega)), putL_len (okP_one (n := p) (by omega)), putL_len (okP_one (n := k) (by omega)), putL_len (okP_one (n := t) (by omega))]
  rfl
theorem body_oct (a n i p k t : Int) : Oct (bodyR a n i p k t) := pallL_oct _ _
def rputL (a n i p k t : Int) : List Int := if okR a n i p k t = true then bodyR a n i p k t else []
def rputE (a n i p k t : Int) : Int := if okR a n i p k t = true then 0 else 1
theorem rput_yes {a n i p k t : Int} (h : okR a n i p k t = true) : rputL a n i p k t = bodyR a n i p k t ∧ rputE a n i p k t = 0 := by
  unfold rputL rputE; rw [if_pos h, if_pos h]; exact ⟨rfl, rfl⟩
theorem rput_no {a n i p k t : Int} (h : okR a n i p k t = false) : rputL a n i p k t = [] ∧ rputE a n i p k t = 1 := by
  unfold rputL rputE; rw [if_neg (by simp [h]), if_neg (by simp [h])]; exact ⟨rfl, rfl⟩

/-! ### Get -/
theorem gaE_len (ms : List Int) (hm : ∀ m ∈ ms, okW m = true) (b : List Int) : gaE b ms = if b.length < gaK ms then 3 else 0 := by
  induction ms generalizing b with
  | nil => simp [gaE, gaK]
  | cons m ms ih =>
    have h1 := hm m (by simp)
    have hw := okW_of h1
    have hi := ih (fun x hx => hm x (by simp [hx])) (b.drop m.toNat)
    have eK : gaK (m :: ms) = m.toNat + gaK ms := rfl
    have eL : (b.drop m.toNat).length = b.length - m.toNat := List.length_drop
    simp only [gaE]
    by_cases h : (b.length : Int) < m
    · rw [getE_more h1 h, if_neg (by decide), if_pos (by rw [eK]; omega)]
    · rw [getE_ok h1 (by omega), if_pos rfl, hi]
      by_cases h2 : b.length < gaK (m :: ms)
      · rw [if_pos h2, if_pos (by rw [eL]; omega)]
      · rw [if_neg h2, if_neg (by rw [eL]; omega)]
theorem gaE9 (b : List Int) : gaE b [4, 1, 1, 1, 1, 1] = if b.length < 9 then 3 else 0 := gaE_len [4, 1, 1, 1, 1, 1] (by decide) b
/-- the numbers that bytes begin with -/
def n0 (b : List Int) : Int := getN b 4
def n1 (b : List Int) : Int := getN (b.drop 4) 1
def n2 (b : List Int) : Int := getN (b.drop 5) 1
def n3 (b : List Int) : Int := getN (b.drop 6) 1
def n4 (b : List Int) : Int := getN (b.drop 7) 1
def n5 (b : List Int) : Int := getN (b.drop 8) 1
theorem gaL9 (b : List Int) : gaL b [4, 1, 1, 1, 1, 1] = [n0 b, n1 b, n2 b, n3 b, n4 b, n5 b] := by
  simp [gaL, List.drop_drop, n0, n1, n2, n3, n4, n5]
theorem all9 {b : List Int} (h : 9 ≤ b.length) : gaE b [4, 1, 1, 1, 1, 1] = 0 ∧ gallL b [4, 1, 1, 1, 1, 1] = [n0 b, n1 b, n2 b, n3 b, n4 b, n5 b] ∧ gallK b [4, 1, 1, 1, 1, 1] = 9 := by
  have e : gaE b [4, 1, 1, 1, 1, 1] = 0 := by rw [gaE9, if_neg (by omega)]
  obtain ⟨h1, h2⟩ := ga_end e
  exact ⟨e, h1.trans (gaL9 b), h2⟩
theorem all9_short {b : List Int} (h : b.length < 9) : gaE b [4, 1, 1, 1, 1, 1] = 3 ∧ gallL b [4, 1, 1, 1, 1, 1] = [] ∧ gallK b [4, 1, 1, 1, 1, 1] = 0 := by
  have e : gaE b [4, 1, 1, 1, 1, 1] = 3 := by rw [gaE9, if_pos h]
  obtain ⟨h1, h2⟩ := ga_bad (b := b) (ms := [4, 1, 1, 1, 1, 1]) (by rw [e]; decide)
  exact ⟨e, h1, h2⟩
/-- may what stands there be? -/
def okGot (b : List Int) : Bool := okR (n0 b) (n1 b) (n2 b - 1) (n3 b) (n4 b) (n5 b)
def rgE (b : List Int) : Int := if b.length < 9 then 3 else if okGot b = true then 0 else 2
theorem rgE_short {b : List Int} (h : b.length < 9) : rgE b = 3 := by unfold rgE; rw [if_pos h]
theorem rgE_form {b : List Int} (h : 9 ≤ b.length) (hk : okGot b = false) : rgE b = 2 := by unfold rgE; rw [if_neg (by omega), if_neg (by simp [hk])]
theorem rgE_ok {b : List Int} (h : 9 ≤ b.length) (hk : okGot b = true) : rgE b = 0 := by unfold rgE; rw [if_neg (by omega), if_pos hk]
theorem rgE_zero {b : List Int} (h : rgE b = 0) : 9 ≤ b.length ∧ okGot b = true := by
  unfold rgE at h
  split at h
  · cases h
  · split at h
    · rename_i h1 h2; exact ⟨by omega, h2⟩
    · cases h
/-- a field of what is got: a nought where nothing is -/
def rgF (b : List Int) (x : Int) : Int := if rgE b = 0 then x else 0
theorem rgF_ok {b : List Int} (h : rgE b = 0) (x : Int) : rgF b x = x := by unfold rgF; rw [if_pos h]
theorem rgF_no {b : List Int} (h : rgE b ≠ 0) (x : Int) : rgF b x = 0 := by unfold rgF; rw [if_neg h]
theorem got_bd {b : List Int} (h : Oct b) (j : Nat) (m : Int) : 0 ≤ getN (b.drop j) m ∧ getN (b.drop j) m < 4294967296 := getN_bd (oct_drop h j) m
theorem got_all {b : List Int} (h : Oct b) : (0 ≤ n0 b ∧ n0 b < 4294967296) ∧ (0 ≤ n1 b ∧ n1 b < 4294967296) ∧ (0 ≤ n2 b ∧ n2 b < 4294967296) ∧ (0 ≤ n3 b ∧ n3 b < 4294967296) ∧ (0 ≤ n4 b ∧ n4 b < 4294967296) ∧ (0 ≤ n5 b ∧ n5 b < 4294967296) :=
  ⟨getN_bd h 4, got_bd h 4 1, got_bd h 5 1, got_bd h 6 1, got_bd h 7 1, got_bd h 8 1⟩

/-! ### there and back -/
theorem put_got {a n i p k t : Int} (h : okR a n i p k t = true) (r : List Int) : rgE (bodyR a n i p k t ++ r) = 0 ∧ n0 (bodyR a n i p k t ++ r) = a ∧ n1 (bodyR a n i p k t ++ r) = n ∧ n2 (bodyR a n i p k t ++ r) = i + 1 ∧ n3 (bodyR a n i p k t ++ r) = p ∧ n4 (bodyR a n i p k t ++ r) = k ∧ n5 (bodyR a n i p k t ++ r) = t := by
  have hl := body_len h
  have hl9 : 9 ≤ (bodyR a n i p k t ++ r).length := by rw [List.length_append, hl]; omega
  obtain ⟨_, g2, _⟩ := all_back (body_ok h).1 r
  have e : pallL [a, n, i + 1, p, k, t] [4, 1, 1, 1, 1, 1] = bodyR a n i p k t := rfl
  rw [e, (all9 hl9).2.1] at g2
  simp only [List.cons.injEq, and_true] at g2
  obtain ⟨e1, e2, e3, e4, e5, e6⟩ := g2
  refine ⟨rgE_ok hl9 ?_, e1, e2, e3, e4, e5, e6⟩
  unfold okGot
  rw [e1, e2, e3, e4, e5, e6, show i + 1 - 1 = i by omega]
  exact h
theorem got_put {b : List Int} (ho : Oct b) (h : 9 ≤ b.length) : bodyR (n0 b) (n1 b) (n2 b - 1) (n3 b) (n4 b) (n5 b) = b.take 9 := by
  obtain ⟨_, h2⟩ := got_back ho (all9 h).1
  rw [gaL9] at h2
  unfold bodyR
  rw [show n2 b - 1 + 1 = n2 b by omega]
  exact h2
end Go.Proofs.Ytoedgnkoahcblaa.R

/-! Rules as six numbers, which is ahead, how two compare: plain; no program in sight. -/
namespace Go.Proofs.Ytoedgnkoahcblaa.Pk
open Go M O R
set_option linter.unusedVariables false
set_option linter.unusedSimpArgs false

/-- a rule: its prefix's address and length, its port, its priority, what it does -/
structure Rl where
  a : Int
  n : Int
  i : Int
  p : Int
  k : Int
  t : Int
  deriving DecidableEq, Inhabited
def fR (r : Rl) : List Int := [r.a, r.n, r.i, r.p, r.k, r.t]
theorem fR_len (r : Rl) : (fR r).length = 6 := rfl
def fits (x d : Int) (r : Rl) : Bool := fitB r.a r.n r.i x d
def ahead (r s : Rl) : Bool := ahB r.n r.p r.i s.n s.p s.i
def alike (r s : Rl) : Bool := likeB r.a r.n r.i r.p s.a s.n s.i s.p
def mayR (r : Rl) : Bool := okR r.a r.n r.i r.p r.k r.t
theorem ahead_iff (r s : Rl) : ahead r s = true ↔ s.n < r.n ∨ (r.n = s.n ∧ (s.p < r.p ∨ (r.p = s.p ∧ s.i < r.i))) := by
  unfold ahead ahB
  split
  · split
    · simp; omega
    · simp; omega
  · simp; omega
theorem ahead_not (r s : Rl) : ahead r s = false ↔ ¬ (s.n < r.n ∨ (r.n = s.n ∧ (s.p < r.p ∨ (r.p = s.p ∧ s.i < r.i)))) := by
  rw [← ahead_iff]; simp
/-- how two numbers compare -/
def cm (a b : Int) : Int := if a < b then -1 else if b < a then 1 else 0
def or4 (x y z u : Int) : Int := if x = 0 then (if y = 0 then (if z = 0 then u else z) else y) else x
/-- which of two rules stands first, where they stand at x and y -/
def cfR (r s : Rl) (x y : Int) : Int := if ahead r s = true then -1 else if ahead s r = true then 1 else or4 (cm r.a s.a) (cm r.k s.k) (cm r.t s.t) (cm x y)
end Go.Proofs.Ytoedgnkoahcblaa.Pk

/-! Rules in order: there is one such list; no program in sight. -/
namespace Go.Proofs.Ytoedgnkoahcblaa.Pk
open Go M O R
set_option linter.unusedVariables false
set_option linter.unusedSimpArgs false

/-- does a rule stand ahead of another one? -/
def bef (r s : Rl) : Prop := s.n < r.n ∨ (r.n = s.n ∧ (s.p < r.p ∨ (r.p = s.p ∧ (s.i < r.i ∨ (r.i = s.i ∧ (r.a < s.a ∨ (r.a = s.a ∧ (r.k < s.k ∨ (r.k = s.k ∧ r.t < s.t)))))))))
instance (r s : Rl) : Decidable (bef r s) := by unfold bef; infer_instance
theorem rl_ext {r s : Rl} (h1 : r.a = s.a) (h2 : r.n = s.n) (h3 : r.i = s.i) (h4 : r.p = s.p) (h5 : r.k = s.k) (h6 : r.t = s.t) : r = s := by
  cases r; cases s; simp_all
theorem bef_eq {r s : Rl} (h : ¬ bef r s) (h2 : ¬ bef s r) : r = s := by
  unfold bef at h h2
  exact rl_ext (by omega) (by omega) (by omega) (by omega) (by omega) (by omega)
theorem bef_irrefl (r : Rl) : ¬ bef r r := by unfold bef; omega
theorem bef_asymm {r s : Rl} (h : bef r s) : ¬ bef s r := by unfold bef at *; omega
theorem bef_ntrans {r s t : Rl} (h : ¬ bef r s) (h2 : ¬ bef s t) : ¬ bef r t := by unfold bef at *; omega
theorem cm_neg (a b : Int) : cm a b < 0 ↔ a < b := by
  unfold cm; split
  · constructor <;> intro <;> omega
  · split <;> constructor <;> intro h <;> omega
theorem cm_zero (a b : Int) : cm a b = 0 ↔ a = b := by
  unfold cm; split
  · constructor <;> intro h <;> omega
  · split <;> constructor <;> intro h <;> omega
theorem cf_neg (r s : Rl) (x y : Int) : cfR r s x y < 0 ↔ bef r s ∨ (r = s ∧ x < y) := by
  have key : (r = s) ↔ (r.a = s.a ∧ r.n = s.n ∧ r.i = s.i ∧ r.p = s.p ∧ r.k = s.k ∧ r.t = s.t) := ⟨fun h => by subst h; simp, fun h => rl_ext h.1 h.2.1 h.2.2.1 h.2.2.2.1 h.2.2.2.2.1 h.2.2.2.2.2⟩
  rw [key]
  unfold cfR bef
  by_cases h1 : ahead r s = true
  · rw [if_pos h1]
    rw [ahead_iff] at h1
    constructor
    · intro _; omega
    · intro _; omega
  · rw [if_neg h1]
    rw [ahead_iff] at h1
    by_cases h2 : ahead s r = true
    · rw [if_pos h2]
      rw [ahead_iff] at h2
      constructor <;> intro <;> omega
    · rw [if_neg h2]
      rw [ahead_iff] at h2
      unfold or4
      by_cases c1 : cm r.a s.a = 0
      · rw [if_pos c1]
        rw [cm_zero] at c1
        by_cases c2 : cm r.k s.k = 0
        · rw [if_pos c2]
          rw [cm_zero] at c2
          by_cases c3 : cm r.t s.t = 0
          · rw [if_pos c3, cm_neg]
            rw [cm_zero] at c3
            omega
          · rw [if_neg c3, cm_neg]
            rw [cm_zero] at c3
            omega
        · rw [if_neg c2, cm_neg]
          rw [cm_zero] at c2
          omega
      · rw [if_neg c1, cm_neg]
        rw [cm_zero] at c1
        omega
/-- a list in which none stands behind one that it is to be ahead of -/
def Ord (l : List Rl) : Prop := l.Pairwise (fun r s => ¬ bef s r)
theorem ord_unique : ∀ {l m : List Rl}, l.Perm m → Ord l → Ord m → l = m
  | [], m, h, _, _ => (List.nil_perm.1 h).symm
  | r :: l, [], h, _, _ => absurd h.symm (by simp)
  | r :: l, s :: m, h, h1, h2 => by
    obtain ⟨a1, a2⟩ := List.pairwise_cons.1 h1
    obtain ⟨b1, b2⟩ := List.pairwise_cons.1 h2
    have e : r = s := by
      rcases List.mem_cons.1 (h.mem_iff.1 (List.mem_cons_self (a := r) (l := l))) with e | hr
      · exact e
      · rcases List.mem_cons.1 (h.mem_iff.2 (List.mem_cons_self (a := s) (l := m))) with e | hs
        · exact e.symm
        · exact bef_eq (b1 r hr) (a1 s hs)
    subst e
    rw [ord_unique (h.cons_inv) a2 b2]
def sortL (l : List Rl) : List Rl := l.mergeSort (fun r s => !decide (bef s r))
theorem sort_perm (l : List Rl) : (sortL l).Perm l := List.mergeSort_perm l _
theorem sort_ord (l : List Rl) : Ord (sortL l) := by
  have := List.pairwise_mergeSort (le := fun r s : Rl => !decide (bef s r)) (fun a b c h1 h2 => by
    simp only [Bool.not_eq_true', decide_eq_false_iff_not] at h1 h2 ⊢
    exact bef_ntrans h2 h1) (fun a b => by
    by_cases h : bef b a
    · have := bef_asymm h; simp [this]
    · simp [h]) l
  unfold Ord sortL
  refine this.imp ?_
  intro a b h
  simpa using h
theorem sort_is {l m : List Rl} (h : m.Perm l) (ho : Ord m) : m = sortL l := ord_unique (h.trans (sort_perm l).symm) ho (sort_ord l)
end Go.Proofs.Ytoedgnkoahcblaa.Pk

/-! One more rule, put into rules in order behind all that it does not stand ahead of: plain. -/
namespace Go.Proofs.Ytoedgnkoahcblaa.Pk
open Go M O R
set_option linter.unusedVariables false
set_option linter.unusedSimpArgs false

/-- the list with r at the place q -/
def insL (r : Rl) (q : Nat) (l : List Rl) : List Rl := l.take q ++ ([r] ++ l.drop q)
theorem insL_len (r : Rl) (q : Nat) (l : List Rl) : (insL r q l).length = l.length + 1 := by
  unfold insL
  simp only [List.length_append, List.length_take, List.length_drop, List.length_cons, List.length_nil]
  omega
theorem insL_perm (r : Rl) (q : Nat) (l : List Rl) : (insL r q l).Perm (l ++ [r]) := by
  unfold insL
  have h : l = l.take q ++ l.drop q := (List.take_append_drop q l).symm
  refine List.Perm.trans ?_ (List.Perm.trans (List.Perm.append_right [r] (List.Perm.of_eq h.symm)) (List.Perm.refl _))
  rw [List.append_assoc]
  exact List.Perm.append_left _ List.perm_append_comm
theorem insL_ord {r : Rl} {q : Nat} {l : List Rl} (h : Ord l) (hq : q ≤ l.length) (h1 : ∀ j, q ≤ j → ∀ x, l[j]? = some x → bef r x) (h2 : q = 0 ∨ ∀ x, l[q - 1]? = some x → ¬ bef r x) : Ord (insL r q l) := by
  unfold Ord insL at *
  have hp := h
  rw [← List.take_append_drop q l, List.pairwise_append] at hp
  rw [List.pairwise_append]
  refine ⟨hp.1, ?_, ?_⟩
  · rw [List.singleton_append, List.pairwise_cons]
    refine ⟨fun x hx => ?_, hp.2.1⟩
    obtain ⟨i, hi, rfl⟩ := List.mem_iff_getElem.1 hx
    have hl : i < l.length - q := by simpa using hi
    refine bef_asymm (h1 (q + i) (by omega) _ ?_)
    rw [List.getElem_drop]
    exact List.getElem?_eq_getElem (by omega)
  · intro x hx y hy
    rw [List.singleton_append, List.mem_cons] at hy
    rcases hy with rfl | hy
    · obtain ⟨i, hi, rfl⟩ := List.mem_iff_getElem.1 hx
      have hi2 : i < q ∧ i < l.length := by simp at hi; omega
      rw [List.getElem_take]
      rcases h2 with h2 | h2
      · omega
      · have hlast : q - 1 < l.length := by omega
        have hb := h2 _ (List.getElem?_eq_getElem hlast)
        by_cases e : i = q - 1
        · subst e; exact hb
        · exact bef_ntrans hb ((List.pairwise_iff_getElem.1 h) i (q - 1) hi2.2 hlast (by omega))
    · exact hp.2.2 x hx y hy
end Go.Proofs.Ytoedgnkoahcblaa.Pk

/-! Two lists, one by one: plain. -/
namespace Go.Proofs.Ytoedgnkoahcblaa
set_option linter.unusedVariables false

/-- the two lists are as long, and what stands at one place is so -/
inductive All2 {α β : Type} (P : α → β → Prop) : List α → List β → Prop
  | nil : All2 P [] []
  | cons {x : α} {y : β} {l : List α} {m : List β} : P x y → All2 P l m → All2 P (x :: l) (y :: m)
theorem all2_imp {α β : Type} {P Q : α → β → Prop} {l : List α} {m : List β} (h : All2 P l m) (hi : ∀ x y, P x y → Q x y) : All2 Q l m := by
  induction h with
  | nil => exact .nil
  | cons h1 _ ih => exact .cons (hi _ _ h1) ih
theorem all2_len {α β : Type} {P : α → β → Prop} {l : List α} {m : List β} (h : All2 P l m) : l.length = m.length := by
  induction h with
  | nil => rfl
  | cons _ _ ih => simp [ih]
theorem all2_app {α β : Type} {P : α → β → Prop} {l l2 : List α} {m m2 : List β} (h : All2 P l m) (h2 : All2 P l2 m2) : All2 P (l ++ l2) (m ++ m2) := by
  induction h with
  | nil => exact h2
  | cons h1 _ ih => exact .cons h1 ih
theorem all2_get {α β : Type} {P : α → β → Prop} {l : List α} {m : List β} (h : All2 P l m) : ∀ {i : Nat} {y : β}, m[i]? = some y → ∃ x, l[i]? = some x ∧ P x y := by
  induction h with
  | nil => intro i y h; simp at h
  | cons h1 _ ih =>
    intro i y h
    cases i with
    | zero => simp at h; subst h; exact ⟨_, rfl, h1⟩
    | succ i => exact ih (by simpa using h)
theorem all2_set {α β : Type} {P : α → β → Prop} {l : List α} {m : List β} (h : All2 P l m) {x : α} {y : β} (hp : P x y) : ∀ i, All2 P (l.set i x) (m.set i y) := by
  induction h with
  | nil => intro i; exact .nil
  | cons h1 h2 ih =>
    intro i
    cases i with
    | zero => exact .cons hp h2
    | succ i => exact .cons h1 (ih i)
theorem all2_take {α β : Type} {P : α → β → Prop} {l : List α} {m : List β} (h : All2 P l m) : ∀ i, All2 P (l.take i) (m.take i) := by
  induction h with
  | nil => intro i; rw [List.take_nil, List.take_nil]; exact .nil
  | cons h1 h2 ih =>
    intro i
    cases i with
    | zero => exact .nil
    | succ i => exact .cons h1 (ih i)
end Go.Proofs.Ytoedgnkoahcblaa
