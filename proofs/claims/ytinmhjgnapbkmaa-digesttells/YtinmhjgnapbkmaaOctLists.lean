/- Numbers one behind the other, as plain lists: what PutAll and GetAll come to, and that each is the other one's way back; no program in sight. -/
import Derived.Test.YtinmhjgnapbkmaaOctMath
namespace Go.Proofs.Ytinmhjgnapbkmaa.O
open Go
set_option linter.unusedVariables false
set_option linter.unusedSimpArgs false

/-! ### PutAll -/
def paE : List Int → List Int → Int
  | n :: l, m :: ms => if putE n m = 0 then paE l ms else 1
  | _, _ => 0
def paL : List Int → List Int → List Int
  | n :: l, m :: ms => putL n m ++ paL l ms
  | _, _ => []
theorem paE_append (l l2 ms ms2 : List Int) (h : l.length = ms.length) (he : paE l ms = 0) : paE (l ++ l2) (ms ++ ms2) = paE l2 ms2 := by
  induction l generalizing ms with
  | nil =>
    cases ms with
    | nil => simp
    | cons m ms => simp at h
  | cons n l ih =>
    cases ms with
    | nil => simp at h
    | cons m ms =>
      simp only [List.cons_append, paE] at he ⊢
      by_cases h1 : putE n m = 0
      · rw [if_pos h1] at he ⊢; exact ih ms (by simpa using h) he
      · rw [if_neg h1] at he; cases he
theorem paL_append (l l2 ms ms2 : List Int) (h : l.length = ms.length) : paL (l ++ l2) (ms ++ ms2) = paL l ms ++ paL l2 ms2 := by
  induction l generalizing ms with
  | nil =>
    cases ms with
    | nil => simp [paL]
    | cons m ms => simp at h
  | cons n l ih =>
    cases ms with
    | nil => simp at h
    | cons m ms =>
      simp only [List.cons_append, paL]
      rw [ih ms (by simpa using h), List.append_assoc]
theorem paL_len (l ms : List Int) : (paL l ms).length ≤ 4 * l.length := by
  induction l generalizing ms with
  | nil => simp [paL]
  | cons n l ih =>
    cases ms with
    | nil => simp [paL]
    | cons m ms =>
      have h1 := putL_len_le n m
      have h2 := ih ms
      simp only [paL, List.length_append, List.length_cons]
      omega
theorem paL_oct (l ms : List Int) : Oct (paL l ms) := by
  induction l generalizing ms with
  | nil => intro z hz; simp [paL] at hz
  | cons n l ih =>
    cases ms with
    | nil => intro z hz; simp [paL] at hz
    | cons m ms =>
      intro z hz
      simp only [paL, List.mem_append] at hz
      rcases hz with hz | hz
      · exact putL_bd n m z hz
      · exact ih ms z hz
def pallE (l ms : List Int) : Int := if l.length = ms.length then paE l ms else 1
def pallL (l ms : List Int) : List Int := if pallE l ms = 0 then paL l ms else []
theorem take_snoc {l : List Int} {k : Nat} (h : k < l.length) : l.take (k + 1) = l.take k ++ [l[k]] := by
  rw [List.take_succ_eq_append_getElem h]
theorem split_at {l : List Int} {k : Nat} (h : k < l.length) : l = l.take k ++ l[k] :: l.drop (k + 1) := by
  rw [← List.drop_eq_getElem_cons h, List.take_append_drop]
theorem pa_step {l ms : List Int} {k : Nat} (h1 : k < l.length) (h2 : k < ms.length) (he : paE (l.take k) (ms.take k) = 0) (hp : putE l[k] ms[k] = 0) :
    paE (l.take (k + 1)) (ms.take (k + 1)) = 0 ∧ paL (l.take (k + 1)) (ms.take (k + 1)) = paL (l.take k) (ms.take k) ++ putL l[k] ms[k] := by
  have hl : (l.take k).length = (ms.take k).length := by simp; omega
  rw [take_snoc h1, take_snoc h2, paE_append _ _ _ _ hl he, paL_append _ _ _ _ hl]
  simp [paE, paL, hp]
theorem pa_stop {l ms : List Int} {k : Nat} (h1 : k < l.length) (h2 : k < ms.length) (hn : l.length = ms.length) (he : paE (l.take k) (ms.take k) = 0) (hp : putE l[k] ms[k] = 1) : pallE l ms = 1 ∧ pallL l ms = [] := by
  have hl : (l.take k).length = (ms.take k).length := by simp; omega
  have e : pallE l ms = 1 := by
    unfold pallE
    rw [if_pos hn]
    conv => lhs; rw [split_at h1, split_at h2]
    rw [paE_append _ _ _ _ hl he]
    simp [paE, hp]
  exact ⟨e, by unfold pallL; rw [e]; rfl⟩
theorem pa_end {l ms : List Int} (hn : l.length = ms.length) (he : paE l ms = 0) : pallE l ms = 0 ∧ pallL l ms = paL l ms := by
  have e : pallE l ms = 0 := by unfold pallE; rw [if_pos hn]; exact he
  exact ⟨e, by unfold pallL; rw [e]; rfl⟩
theorem pa_odd {l ms : List Int} (hn : ¬ l.length = ms.length) : pallE l ms = 1 ∧ pallL l ms = [] := by
  have e : pallE l ms = 1 := by unfold pallE; rw [if_neg hn]
  exact ⟨e, by unfold pallL; rw [e]; rfl⟩

/-! ### GetAll -/
def gaE (b : List Int) : List Int → Int
  | [] => 0
  | m :: ms => if getE b m = 0 then gaE (b.drop m.toNat) ms else getE b m
def gaL (b : List Int) : List Int → List Int
  | [] => []
  | m :: ms => getN b m :: gaL (b.drop m.toNat) ms
def gaK : List Int → Nat
  | [] => 0
  | m :: ms => m.toNat + gaK ms
theorem gaK_append (ms ms2 : List Int) : gaK (ms ++ ms2) = gaK ms + gaK ms2 := by
  induction ms with
  | nil => simp [gaK]
  | cons m ms ih => simp only [List.cons_append, gaK]; rw [ih]; omega
theorem gaE_append (b ms ms2 : List Int) (he : gaE b ms = 0) : gaE b (ms ++ ms2) = gaE (b.drop (gaK ms)) ms2 := by
  induction ms generalizing b with
  | nil => simp [gaK]
  | cons m ms ih =>
    simp only [List.cons_append, gaE, gaK] at he ⊢
    by_cases h : getE b m = 0
    · rw [if_pos h] at he ⊢; rw [ih _ he, List.drop_drop]
    · rw [if_neg h] at he; exact absurd he h
theorem gaL_append (b ms ms2 : List Int) : gaL b (ms ++ ms2) = gaL b ms ++ gaL (b.drop (gaK ms)) ms2 := by
  induction ms generalizing b with
  | nil => simp [gaL, gaK]
  | cons m ms ih =>
    simp only [List.cons_append, gaL, gaK]
    rw [ih, List.drop_drop]
theorem gaL_len (b ms : List Int) : (gaL b ms).length = ms.length := by
  induction ms generalizing b with
  | nil => rfl
  | cons m ms ih => simp [gaL, ih]
theorem gaK_le {b ms : List Int} (h : gaE b ms = 0) : gaK ms ≤ b.length := by
  induction ms generalizing b with
  | nil => simp [gaK]
  | cons m ms ih =>
    simp only [gaE] at h
    by_cases h1 : getE b m = 0
    · rw [if_pos h1] at h
      have := ih h
      have h2 := (getE_zero h1).2
      simp only [List.length_drop, gaK] at this ⊢
      omega
    · rw [if_neg h1] at h; exact absurd h h1
theorem oct_drop {b : List Int} (h : Oct b) (j : Nat) : Oct (b.drop j) := fun z hz => h z (List.mem_of_mem_drop hz)
theorem getN_bd {b : List Int} (h : Oct b) (m : Int) : 0 ≤ getN b m ∧ getN b m < 4294967296 := by
  unfold getN
  split
  · rename_i h1
    have := okW_of (getE_zero h1).1
    exact num_bd4 h _ (by omega)
  · omega
theorem gaL_bd {b : List Int} (h : Oct b) (ms : List Int) : ∀ z ∈ gaL b ms, 0 ≤ z ∧ z < 4294967296 := by
  induction ms generalizing b with
  | nil => simp [gaL]
  | cons m ms ih =>
    intro z hz
    simp only [gaL, List.mem_cons] at hz
    rcases hz with rfl | hz
    · exact getN_bd h m
    · exact ih (oct_drop h _) z hz
def gallL (b ms : List Int) : List Int := if gaE b ms = 0 then gaL b ms else []
def gallK (b ms : List Int) : Int := if gaE b ms = 0 then (gaK ms : Int) else 0
theorem ga_step {b ms : List Int} {k : Nat} (h : k < ms.length) (he : gaE b (ms.take k) = 0) (hg : getE (b.drop (gaK (ms.take k))) ms[k] = 0) :
    gaE b (ms.take (k + 1)) = 0 ∧ gaL b (ms.take (k + 1)) = gaL b (ms.take k) ++ [getN (b.drop (gaK (ms.take k))) ms[k]] ∧ (gaK (ms.take (k + 1)) : Int) = gaK (ms.take k) + ms[k] := by
  rw [take_snoc h, gaE_append _ _ _ he, gaL_append, gaK_append]
  have := okW_of (getE_zero hg).1
  refine ⟨?_, ?_, ?_⟩
  · simp only [gaE]; rw [if_pos hg]
  · simp only [gaL]
  · simp only [gaK]; omega
theorem ga_stop {b ms : List Int} {k : Nat} (h : k < ms.length) (he : gaE b (ms.take k) = 0) (hg : getE (b.drop (gaK (ms.take k))) ms[k] ≠ 0) :
    gaE b ms = getE (b.drop (gaK (ms.take k))) ms[k] ∧ gallL b ms = [] ∧ gallK b ms = 0 := by
  have e : gaE b ms = getE (b.drop (gaK (ms.take k))) ms[k] := by
    conv => lhs; rw [split_at h]
    rw [gaE_append _ _ _ he]
    simp only [gaE]
    rw [if_neg hg]
  refine ⟨e, ?_, ?_⟩
  · unfold gallL; rw [if_neg (by rw [e]; exact hg)]
  · unfold gallK; rw [if_neg (by rw [e]; exact hg)]
theorem ga_end {b ms : List Int} (he : gaE b ms = 0) : gallL b ms = gaL b ms ∧ gallK b ms = gaK ms := by
  unfold gallL gallK; rw [if_pos he, if_pos he]; exact ⟨rfl, rfl⟩

theorem pallL_len (l ms : List Int) : (pallL l ms).length ≤ 4 * l.length := by
  unfold pallL
  split
  · exact paL_len l ms
  · simp
theorem pallL_oct (l ms : List Int) : Oct (pallL l ms) := by
  unfold pallL
  split
  · exact paL_oct l ms
  · intro z hz; simp at hz
theorem gallL_len (b ms : List Int) : (gallL b ms).length ≤ ms.length := by
  unfold gallL
  split
  · rw [gaL_len]; exact Nat.le_refl _
  · simp
theorem getE_vals (b : List Int) (m : Int) : getE b m = 0 ∨ getE b m = 1 ∨ getE b m = 3 := by
  unfold getE
  split
  · split <;> simp
  · simp
theorem gaE_vals (b ms : List Int) : gaE b ms = 0 ∨ gaE b ms = 1 ∨ gaE b ms = 3 := by
  induction ms generalizing b with
  | nil => simp [gaE]
  | cons m ms ih =>
    simp only [gaE]
    split
    · exact ih _
    · exact getE_vals b m
theorem ga_bad {b ms : List Int} (h : gaE b ms ≠ 0) : gallL b ms = [] ∧ gallK b ms = 0 := by
  unfold gallL gallK; rw [if_neg h, if_neg h]; exact ⟨rfl, rfl⟩
theorem pall_vals (l ms : List Int) : pallE l ms = 0 ∨ pallE l ms = 1 := by
  unfold pallE
  split
  · rename_i h
    clear h
    induction l generalizing ms with
    | nil => simp [paE]
    | cons n l ih =>
      cases ms with
      | nil => simp [paE]
      | cons m ms =>
        simp only [paE]
        split
        · exact ih ms
        · simp
  · simp
theorem pall_zero {l ms : List Int} (h : pallE l ms = 0) : l.length = ms.length ∧ paE l ms = 0 ∧ pallL l ms = paL l ms := by
  have e : pallL l ms = paL l ms := by unfold pallL; rw [if_pos h]
  unfold pallE at h
  split at h
  · rename_i h1; exact ⟨h1, h, e⟩
  · cases h

/-! ### there and back -/
theorem num_append (l r : List Int) (k : Nat) (hk : k ≤ l.length) : num (l ++ r) k = num l k := by
  induction k with
  | zero => rfl
  | succ k ih =>
    simp only [num]
    rw [ih (by omega)]
    have : (l ++ r).getD k 0 = l.getD k 0 := by simp [List.getD, List.getElem?_append_left (show k < l.length by omega)]
    rw [this]
theorem num_cons (x : Int) (l : List Int) (k : Nat) : num (x :: l) (k + 1) = x * pw k + num l k := by
  induction k with
  | zero => simp [num, pw]
  | succ k ih =>
    rw [num, ih, pw_succ]
    have : (x :: l).getD (k + 1) 0 = l.getD k 0 := by simp [List.getD]
    rw [this]
    simp only [num]
    rw [Int.add_mul, Int.mul_assoc]
    omega
theorem mod_step' (a : Int) (k : Nat) : a % pw (k + 1) = a / pw k % 256 * pw k + a % pw k := by
  have hp := pw_pos k
  have h1 : pw (k + 1) = pw k * 256 := pw_succ k
  have hb1 := Int.emod_nonneg a (show pw k ≠ 0 by omega)
  have hb2 := Int.emod_lt_of_pos a hp
  have hc1 := Int.emod_nonneg (a / pw k) (show (256 : Int) ≠ 0 by decide)
  have hc2 := Int.emod_lt_of_pos (a / pw k) (show (0 : Int) < 256 by decide)
  have e1 := Int.mul_ediv_add_emod a (pw k)
  have e2 := Int.mul_ediv_add_emod (a / pw k) 256
  have key : a = (a / pw k % 256 * pw k + a % pw k) + pw (k + 1) * (a / pw k / 256) := by
    rw [h1]
    have : pw k * 256 * (a / pw k / 256) = pw k * (256 * (a / pw k / 256)) := by rw [Int.mul_assoc]
    rw [this]
    have e3 : 256 * (a / pw k / 256) = a / pw k - a / pw k % 256 := by omega
    rw [e3, Int.mul_sub, Int.mul_comm (a / pw k % 256)]
    omega
  have hlo : 0 ≤ a / pw k % 256 * pw k + a % pw k := Int.add_nonneg (Int.mul_nonneg hc1 (by omega)) hb1
  have hhi : a / pw k % 256 * pw k + a % pw k < pw (k + 1) := by
    have : a / pw k % 256 * pw k ≤ 255 * pw k := Int.mul_le_mul_of_nonneg_right (by omega) (by omega)
    omega
  conv => lhs; rw [key]
  rw [Int.add_mul_emod_self_left, Int.emod_eq_of_lt hlo hhi]
theorem num_digs (n : Int) (k : Nat) : num (digs n k) k = n % pw k := by
  induction k with
  | zero => simp [num, pw]
  | succ k ih => rw [digs, num_cons, ih, mod_step']
theorem num_inj {l r : List Int} (hl : Oct l) (hr : Oct r) (h : l.length = r.length) (hn : num l l.length = num r r.length) : l = r := by
  induction l generalizing r with
  | nil => cases r with
    | nil => rfl
    | cons => simp at h
  | cons x l ih =>
    cases r with
    | nil => simp at h
    | cons y r =>
      have hll : l.length = r.length := by simpa using h
      have ol : Oct l := fun z hz => hl z (List.mem_cons_of_mem _ hz)
      have or' : Oct r := fun z hz => hr z (List.mem_cons_of_mem _ hz)
      have hp := pw_pos r.length
      have b1 := num_bd ol l.length
      have b2 := num_bd or' r.length
      rw [List.length_cons, List.length_cons, num_cons, num_cons, hll] at hn
      rw [hll] at b1
      have hxy : x = y := by
        rcases Int.lt_trichotomy x y with h1 | h1 | h1
        · have : (x + 1) * pw r.length ≤ y * pw r.length := Int.mul_le_mul_of_nonneg_right (by omega) (by omega)
          rw [Int.add_mul] at this; omega
        · exact h1
        · have : (y + 1) * pw r.length ≤ x * pw r.length := Int.mul_le_mul_of_nonneg_right (by omega) (by omega)
          rw [Int.add_mul] at this; omega
      subst hxy
      rw [ih ol or' hll (by rw [hll]; omega)]
theorem put_get {n m : Int} (h : okP n m = true) (r : List Int) : getE (putL n m ++ r) m = 0 ∧ getN (putL n m ++ r) m = n ∧ (putL n m ++ r).drop m.toNat = r := by
  obtain ⟨hw, h0, h1⟩ := okP_of h
  have hm := okW_of hw
  have hl := putL_len h
  have hge : m ≤ ((putL n m ++ r).length : Int) := by rw [List.length_append, hl]; omega
  refine ⟨getE_ok hw hge, ?_, ?_⟩
  · rw [getN_ok hw hge, num_append _ _ _ (by omega), putL_yes h, num_digs, Int.emod_eq_of_lt h0 h1]
  · rw [← hl]; simp
theorem get_put {b : List Int} {m : Int} (ho : Oct b) (h : getE b m = 0) : okP (getN b m) m = true ∧ putL (getN b m) m = b.take m.toNat := by
  obtain ⟨hw, hl⟩ := getE_zero h
  have hm := okW_of hw
  have hb := num_bd ho m.toNat
  have hN : getN b m = num b m.toNat := getN_ok hw hl
  have hok : okP (getN b m) m = true := by rw [hN]; exact okP_mk hw hb.1 hb.2
  refine ⟨hok, ?_⟩
  have hlen : (b.take m.toNat).length = m.toNat := by simp; omega
  apply num_inj (putL_bd _ _) (fun z hz => ho z (List.mem_of_mem_take hz))
  · rw [putL_len hok, hlen]
  · rw [putL_len hok, hlen, putL_yes hok, num_digs, hN, Int.emod_eq_of_lt hb.1 hb.2]
    have := num_append (b.take m.toNat) (b.drop m.toNat) m.toNat (by omega)
    rw [List.take_append_drop] at this
    exact this
theorem back_put {l ms : List Int} (hn : l.length = ms.length) (he : paE l ms = 0) (r : List Int) : gaE (paL l ms ++ r) ms = 0 ∧ gaL (paL l ms ++ r) ms = l ∧ gaK ms = (paL l ms).length := by
  induction l generalizing ms with
  | nil =>
    cases ms with
    | nil => simp [gaE, gaL, gaK, paL]
    | cons m ms => simp at hn
  | cons n l ih =>
    cases ms with
    | nil => simp at hn
    | cons m ms =>
      simp only [paE] at he
      by_cases h1 : putE n m = 0
      · rw [if_pos h1] at he
        have hok := putE_zero h1
        obtain ⟨i1, i2, i3⟩ := ih (by simpa using hn) he
        obtain ⟨g1, g2, g3⟩ := put_get hok (paL l ms ++ r)
        simp only [paL, List.append_assoc, gaE, gaL, gaK, List.length_append]
        rw [if_pos g1, g3, g2, i1, i2, i3, putL_len hok]
        exact ⟨rfl, rfl, rfl⟩
      · rw [if_neg h1] at he; cases he
theorem back_get {b ms : List Int} (ho : Oct b) (he : gaE b ms = 0) : paE (gaL b ms) ms = 0 ∧ paL (gaL b ms) ms = b.take (gaK ms) := by
  induction ms generalizing b with
  | nil => simp [gaL, paE, paL, gaK]
  | cons m ms ih =>
    simp only [gaE] at he
    by_cases h1 : getE b m = 0
    · rw [if_pos h1] at he
      obtain ⟨i1, i2⟩ := ih (oct_drop ho _) he
      obtain ⟨p1, p2⟩ := get_put ho h1
      simp only [gaL, paE, paL, gaK]
      rw [if_pos (putE_yes p1), i1, i2, p2]
      refine ⟨rfl, ?_⟩
      have h2 := getE_zero h1
      have hm := okW_of h2.1
      rw [List.take_add]
    · rw [if_neg h1] at he; exact absurd he h1
theorem all_back {l ms : List Int} (h : pallE l ms = 0) (r : List Int) : gaE (pallL l ms ++ r) ms = 0 ∧ gallL (pallL l ms ++ r) ms = l ∧ gallK (pallL l ms ++ r) ms = ((pallL l ms).length : Int) := by
  obtain ⟨hn, he, e⟩ := pall_zero h
  obtain ⟨g1, g2, g3⟩ := back_put hn he r
  rw [e]
  obtain ⟨k1, k2⟩ := ga_end g1
  exact ⟨g1, k1.trans g2, by rw [k2, g3]⟩
theorem got_back {b ms : List Int} (ho : Oct b) (h : gaE b ms = 0) : pallE (gaL b ms) ms = 0 ∧ pallL (gaL b ms) ms = b.take (gaK ms) := by
  obtain ⟨h1, h2⟩ := back_get ho h
  obtain ⟨e1, e2⟩ := pa_end (gaL_len b ms) h1
  exact ⟨e1, e2.trans h2⟩
end Go.Proofs.Ytinmhjgnapbkmaa.O
