/- Rules and their bytes, as plain numbers and lists: what the calls of package rule come to; no program in sight. -/
import Derived.Test.YtinmhjgnapbkmaaBitsMath
import Derived.Test.YtinmhjgnapbkmaaOctLists
namespace Go.Proofs.Ytinmhjgnapbkmaa.R
open Go M O
set_option linter.unusedVariables false
set_option linter.unusedSimpArgs false

/-- may what a rule does be? -/
def actB (k t : Int) : Bool := if k = 0 then decide (t = 0) else if k = 1 then decide (0 ≤ t ∧ t ≤ 7) else false
/-- may a rule be? -/
def okR (a n i p k t : Int) : Bool := mayB a n && decide (-1 ≤ i ∧ i ≤ 7) && decide (0 ≤ p ∧ p ≤ 255) && actB k t
/-- is a rule for packets from the port x to the address d? -/
def fitB (a n i x d : Int) : Bool := hasB a n d && (decide (i = -1) || decide (i = x))
/-- is the rule of n, p, i ahead of the one of m, q, j? -/
def ahB (n p i m q j : Int) : Bool := if n = m then (if p = q then decide (j < i) else decide (q < p)) else decide (m < n)
/-- are two rules alike? -/
def likeB (a n i p b m j q : Int) : Bool := decide (a = b ∧ n = m ∧ i = j ∧ p = q)

theorem may_bd {a n : Int} (h : mayB a n = true) : (0 ≤ a ∧ a ≤ 4294967295) ∧ 0 ≤ n ∧ n ≤ 32 := by
  rw [mayB_iff] at h
  have h1 := ct_bd a n
  have h2 := cl_lo n
  have h3 := cl_hi n
  omega
theorem act_bd {k t : Int} (h : actB k t = true) : (k = 0 ∧ t = 0) ∨ (k = 1 ∧ 0 ≤ t ∧ t ≤ 7) := by
  unfold actB at h
  split at h
  · rename_i hk; exact .inl ⟨hk, by simpa using h⟩
  · split at h
    · rename_i hk; exact .inr ⟨hk, by simpa using h⟩
    · cases h
theorem okR_of {a n i p k t : Int} (h : okR a n i p k t = true) : mayB a n = true ∧ (-1 ≤ i ∧ i ≤ 7) ∧ (0 ≤ p ∧ p ≤ 255) ∧ actB k t = true := by
  unfold okR at h
  simp only [Bool.and_eq_true, decide_eq_true_eq] at h
  exact ⟨h.1.1.1, h.1.1.2, h.1.2, h.2⟩
theorem okR_bd {a n i p k t : Int} (h : okR a n i p k t = true) : (0 ≤ a ∧ a ≤ 4294967295) ∧ (0 ≤ n ∧ n ≤ 32) ∧ (-1 ≤ i ∧ i ≤ 7) ∧ (0 ≤ p ∧ p ≤ 255) ∧ (0 ≤ k ∧ k ≤ 1) ∧ (0 ≤ t ∧ t ≤ 7) := by
  obtain ⟨h1, h2, h3, h4⟩ := okR_of h
  have h5 := may_bd h1
  have h6 := act_bd h4
  omega
theorem okP_four {n : Int} (h : 0 ≤ n ∧ n ≤ 4294967295) : okP n 4 = true := okP_mk (by decide) h.1 (by show n < 4294967296; omega)
theorem okP_one {n : Int} (h : 0 ≤ n ∧ n ≤ 255) : okP n 1 = true := okP_mk (by decide) h.1 (by show n < 256; omega)

/-- a rule's bytes, one number behind the other -/
def bodyR (a n i p k t : Int) : List Int := pallL [a, n, i + 1, p, k, t] [4, 1, 1, 1, 1, 1]
theorem body_ok {a n i p k t : Int} (h : okR a n i p k t = true) : pallE [a, n, i + 1, p, k, t] [4, 1, 1, 1, 1, 1] = 0 ∧ bodyR a n i p k t = putL a 4 ++ (putL n 1 ++ (putL (i + 1) 1 ++ (putL p 1 ++ (putL k 1 ++ putL t 1)))) := by
  obtain ⟨h1, h2, h3, h4, h5, h6⟩ := okR_bd h
  have e : paE [a, n, i + 1, p, k, t] [4, 1, 1, 1, 1, 1] = 0 := by
    simp only [paE]
    rw [if_pos (putE_yes (okP_four h1)), if_pos (putE_yes (okP_one (by omega))), if_pos (putE_yes (okP_one (by omega))), if_pos (putE_yes (okP_one (by omega))), if_pos (putE_yes (okP_one (by omega))), if_pos (putE_yes (okP_one (by omega)))]
  obtain ⟨e1, e2⟩ := pa_end (l := [a, n, i + 1, p, k, t]) (ms := [4, 1, 1, 1, 1, 1]) rfl e
  exact ⟨e1, by unfold bodyR; rw [e2]; simp [paL]⟩
theorem body_len {a n i p k t : Int} (h : okR a n i p k t = true) : (bodyR a n i p k t).length = 9 := by
  obtain ⟨h1, h2, h3, h4, h5, h6⟩ := okR_bd h
  rw [(body_ok h).2]
  simp only [List.length_append]
  rw [putL_len (okP_four h1), putL_len (okP_one (n := n) (by omega)), putL_len (okP_one (n := i + 1) (by omega)), putL_len (okP_one (n := p) (by omega)), putL_len (okP_one (n := k) (by omega)), putL_len (okP_one (n := t) (by omega))]
  rfl
theorem body_oct (a n i p k t : Int) : Oct (bodyR a n i p k t) := pallL_oct _ _
def rputL (a n i p k t : Int) : List Int := if okR a n i p k t = true then bodyR a n i p k t else []
def rputE (a n i p k t : Int) : Int := if okR a n i p k t = true then 0 else 1
theorem rput_yes {a n i p k t : Int} (h : okR a n i p k t = true) : rputL a n i p k t = bodyR a n i p k t ∧ rputE a n i p k t = 0 := by
  unfold rputL rputE; rw [if_pos h, if_pos h]; exact ⟨rfl, rfl⟩
theorem rput_no {a n i p k t : Int} (h : okR a n i p k t = false) : rputL a n i p k t = [] ∧ rputE a n i p k t = 1 := by
  unfold rputL rputE; rw [if_neg (by simp [h]), if_neg (by simp [h])]; exact ⟨rfl, rfl⟩

/-! ### Get -/
theorem gaE_len (ms : List Int) (hm : ∀ m ∈ ms, okW m = true) (b : List Int) : gaE b ms = if b.length < gaK ms then 3 else 0 := by
  induction ms generalizing b with
  | nil => simp [gaE, gaK]
  | cons m ms ih =>
    have h1 := hm m (by simp)
    have hw := okW_of h1
    have hi := ih (fun x hx => hm x (by simp [hx])) (b.drop m.toNat)
    have eK : gaK (m :: ms) = m.toNat + gaK ms := rfl
    have eL : (b.drop m.toNat).length = b.length - m.toNat := List.length_drop
    simp only [gaE]
    by_cases h : (b.length : Int) < m
    · rw [getE_more h1 h, if_neg (by decide), if_pos (by rw [eK]; omega)]
    · rw [getE_ok h1 (by omega), if_pos rfl, hi]
      by_cases h2 : b.length < gaK (m :: ms)
      · rw [if_pos h2, if_pos (by rw [eL]; omega)]
      · rw [if_neg h2, if_neg (by rw [eL]; omega)]
theorem gaE9 (b : List Int) : gaE b [4, 1, 1, 1, 1, 1] = if b.length < 9 then 3 else 0 := gaE_len [4, 1, 1, 1, 1, 1] (by decide) b
/-- the numbers that bytes begin with -/
def n0 (b : List Int) : Int := getN b 4
def n1 (b : List Int) : Int := getN (b.drop 4) 1
def n2 (b : List Int) : Int := getN (b.drop 5) 1
def n3 (b : List Int) : Int := getN (b.drop 6) 1
def n4 (b : List Int) : Int := getN (b.drop 7) 1
def n5 (b : List Int) : Int := getN (b.drop 8) 1
theorem gaL9 (b : List Int) : gaL b [4, 1, 1, 1, 1, 1] = [n0 b, n1 b, n2 b, n3 b, n4 b, n5 b] := by
  simp [gaL, List.drop_drop, n0, n1, n2, n3, n4, n5]
theorem all9 {b : List Int} (h : 9 ≤ b.length) : gaE b [4, 1, 1, 1, 1, 1] = 0 ∧ gallL b [4, 1, 1, 1, 1, 1] = [n0 b, n1 b, n2 b, n3 b, n4 b, n5 b] ∧ gallK b [4, 1, 1, 1, 1, 1] = 9 := by
  have e : gaE b [4, 1, 1, 1, 1, 1] = 0 := by rw [gaE9, if_neg (by omega)]
  obtain ⟨h1, h2⟩ := ga_end e
  exact ⟨e, h1.trans (gaL9 b), h2⟩
theorem all9_short {b : List Int} (h : b.length < 9) : gaE b [4, 1, 1, 1, 1, 1] = 3 ∧ gallL b [4, 1, 1, 1, 1, 1] = [] ∧ gallK b [4, 1, 1, 1, 1, 1] = 0 := by
  have e : gaE b [4, 1, 1, 1, 1, 1] = 3 := by rw [gaE9, if_pos h]
  obtain ⟨h1, h2⟩ := ga_bad (b := b) (ms := [4, 1, 1, 1, 1, 1]) (by rw [e]; decide)
  exact ⟨e, h1, h2⟩
/-- may what stands there be? -/
def okGot (b : List Int) : Bool := okR (n0 b) (n1 b) (n2 b - 1) (n3 b) (n4 b) (n5 b)
def rgE (b : List Int) : Int := if b.length < 9 then 3 else if okGot b = true then 0 else 2
theorem rgE_short {b : List Int} (h : b.length < 9) : rgE b = 3 := by unfold rgE; rw [if_pos h]
theorem rgE_form {b : List Int} (h : 9 ≤ b.length) (hk : okGot b = false) : rgE b = 2 := by unfold rgE; rw [if_neg (by omega), if_neg (by simp [hk])]
theorem rgE_ok {b : List Int} (h : 9 ≤ b.length) (hk : okGot b = true) : rgE b = 0 := by unfold rgE; rw [if_neg (by omega), if_pos hk]
theorem rgE_zero {b : List Int} (h : rgE b = 0) : 9 ≤ b.length ∧ okGot b = true := by
  unfold rgE at h
  split at h
  · cases h
  · split at h
    · rename_i h1 h2; exact ⟨by omega, h2⟩
    · cases h
/-- a field of what is got: a nought where nothing is -/
def rgF (b : List Int) (x : Int) : Int := if rgE b = 0 then x else 0
theorem rgF_ok {b : List Int} (h : rgE b = 0) (x : Int) : rgF b x = x := by unfold rgF; rw [if_pos h]
theorem rgF_no {b : List Int} (h : rgE b ≠ 0) (x : Int) : rgF b x = 0 := by unfold rgF; rw [if_neg h]
theorem got_bd {b : List Int} (h : Oct b) (j : Nat) (m : Int) : 0 ≤ getN (b.drop j) m ∧ getN (b.drop j) m < 4294967296 := getN_bd (oct_drop h j) m
theorem got_all {b : List Int} (h : Oct b) : (0 ≤ n0 b ∧ n0 b < 4294967296) ∧ (0 ≤ n1 b ∧ n1 b < 4294967296) ∧ (0 ≤ n2 b ∧ n2 b < 4294967296) ∧ (0 ≤ n3 b ∧ n3 b < 4294967296) ∧ (0 ≤ n4 b ∧ n4 b < 4294967296) ∧ (0 ≤ n5 b ∧ n5 b < 4294967296) :=
  ⟨getN_bd h 4, got_bd h 4 1, got_bd h 5 1, got_bd h 6 1, got_bd h 7 1, got_bd h 8 1⟩

/-! ### there and back -/
theorem put_got {a n i p k t : Int} (h : okR a n i p k t = true) (r : List Int) : rgE (bodyR a n i p k t ++ r) = 0 ∧ n0 (bodyR a n i p k t ++ r) = a ∧ n1 (bodyR a n i p k t ++ r) = n ∧ n2 (bodyR a n i p k t ++ r) = i + 1 ∧ n3 (bodyR a n i p k t ++ r) = p ∧ n4 (bodyR a n i p k t ++ r) = k ∧ n5 (bodyR a n i p k t ++ r) = t := by
  have hl := body_len h
  have hl9 : 9 ≤ (bodyR a n i p k t ++ r).length := by rw [List.length_append, hl]; omega
  obtain ⟨_, g2, _⟩ := all_back (body_ok h).1 r
  have e : pallL [a, n, i + 1, p, k, t] [4, 1, 1, 1, 1, 1] = bodyR a n i p k t := rfl
  rw [e, (all9 hl9).2.1] at g2
  simp only [List.cons.injEq, and_true] at g2
  obtain ⟨e1, e2, e3, e4, e5, e6⟩ := g2
  refine ⟨rgE_ok hl9 ?_, e1, e2, e3, e4, e5, e6⟩
  unfold okGot
  rw [e1, e2, e3, e4, e5, e6, show i + 1 - 1 = i by omega]
  exact h
theorem got_put {b : List Int} (ho : Oct b) (h : 9 ≤ b.length) : bodyR (n0 b) (n1 b) (n2 b - 1) (n3 b) (n4 b) (n5 b) = b.take 9 := by
  obtain ⟨_, h2⟩ := got_back ho (all9 h).1
  rw [gaL9] at h2
  unfold bodyR
  rw [show n2 b - 1 + 1 = n2 b by omega]
  exact h2
end Go.Proofs.Ytinmhjgnapbkmaa.R
