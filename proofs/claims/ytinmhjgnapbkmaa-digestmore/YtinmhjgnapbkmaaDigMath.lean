/- The digest of rules and of tables as plain arithmetic on bytes; no program in sight. -/
import Derived.Test.YtinmhjgnapbkmaaMaths
import Derived.Test.YtinmhjgnapbkmaaTabMath
namespace Go.Proofs.Ytinmhjgnapbkmaa.Dg
open Go O Pk Tb
set_option linter.unusedVariables false
set_option linter.unusedSimpArgs false

/-- the last 16 bits of a number, in two bytes -/
def wordL (n : Int) : List Int := putL (n % 65536) 2
theorem ok_word (n : Int) : okP (n % 65536) 2 = true := okP_mk (by decide) (by omega) (by show n % 65536 < 65536; omega)
theorem word_len (n : Int) : (wordL n).length = 2 := putL_len (ok_word n)
theorem word_oct (n : Int) : Oct (wordL n) := putL_bd _ _
theorem word_is (n : Int) : wordL n = [n % 65536 / 256, n % 256] := by
  unfold wordL
  rw [putL_yes (ok_word n), show (2 : Int).toNat = 2 from rfl, digs2]
  simp only [List.cons.injEq, and_true]
  omega
/-- a rule's bytes, with a nought behind them; of one that may not be: none -/
def ruB (r : Rl) : List Int := if mayR r = true then R.bodyR r.a r.n r.i r.p r.k r.t ++ [0] else []
theorem ruB_yes {r : Rl} (h : mayR r = true) : ruB r = R.bodyR r.a r.n r.i r.p r.k r.t ++ [0] := by unfold ruB; rw [if_pos h]
theorem ruB_no {r : Rl} (h : mayR r = false) : ruB r = [] := by unfold ruB; rw [if_neg (by simp [h])]
theorem ruB_len {r : Rl} (h : mayR r = true) : (ruB r).length = 10 := by
  rw [ruB_yes h, List.length_append, R.body_len h]; rfl
theorem ruB_len_le (r : Rl) : (ruB r).length ≤ 10 := by
  cases h : mayR r
  · rw [ruB_no h]; exact Nat.zero_le _
  · rw [ruB_len h]; exact Nat.le_refl _
theorem ruB_oct (r : Rl) : Oct (ruB r) := by
  unfold ruB
  split
  · intro z hz
    rcases List.mem_append.1 hz with h | h
    · exact R.body_oct _ _ _ _ _ _ z h
    · rw [List.mem_singleton.1 h]; exact ⟨by decide, by decide⟩
  · exact fun z hz => nomatch hz
def rusB (l : List Rl) : List Int := (l.map ruB).flatten
theorem rusB_nil : rusB [] = [] := rfl
theorem rusB_cons (r : Rl) (l : List Rl) : rusB (r :: l) = ruB r ++ rusB l := by simp [rusB]
theorem rusB_snoc (l : List Rl) (r : Rl) : rusB (l ++ [r]) = rusB l ++ ruB r := by simp [rusB]
theorem rusB_len (l : List Rl) : (rusB l).length ≤ 10 * l.length := by
  induction l with
  | nil => exact Nat.le_refl _
  | cons r l ih => rw [rusB_cons, List.length_append, List.length_cons]; have := ruB_len_le r; omega
theorem rusB_oct (l : List Rl) : Oct (rusB l) := by
  induction l with
  | nil => exact fun z hz => nomatch hz
  | cons r l ih =>
    rw [rusB_cons]
    intro z hz
    rcases List.mem_append.1 hz with h | h
    · exact ruB_oct r z h
    · exact ih z h
/-- what the rules of a tag are told by -/
def ofL (t : Int) (l : List Rl) : List Int := wordL t ++ rusB (sortL l)
theorem ofL_len (t : Int) (l : List Rl) : (ofL t l).length ≤ 2 + 10 * l.length := by
  unfold ofL
  rw [List.length_append, word_len]
  have := rusB_len (sortL l)
  rw [(sort_perm l).length_eq] at this
  omega
theorem ofL_oct (t : Int) (l : List Rl) : Oct (ofL t l) := by
  intro z hz
  rcases List.mem_append.1 hz with h | h
  · exact word_oct t z h
  · exact rusB_oct _ z h
def ofN (t : Int) (l : List Rl) : Int := sumN (ofL t l)
theorem ofN_bd (t : Int) (l : List Rl) : 0 ≤ ofN t l ∧ ofN t l ≤ 65535 := sumN_bd (ofL_oct t l)
/-- what a table is told by -/
def allL (l : List Vr) : List Int := (l.map fun v => wordL (ofN v.t v.l)).flatten
theorem allL_snoc (l : List Vr) (v : Vr) : allL (l ++ [v]) = allL l ++ wordL (ofN v.t v.l) := by simp [allL]
theorem allL_len (l : List Vr) : (allL l).length = 2 * l.length := by
  induction l with
  | nil => rfl
  | cons v l ih =>
    have : allL (v :: l) = wordL (ofN v.t v.l) ++ allL l := by simp [allL]
    rw [this, List.length_append, word_len, ih, List.length_cons]; omega
theorem allL_oct (l : List Vr) : Oct (allL l) := by
  induction l with
  | nil => exact fun z hz => nomatch hz
  | cons v l ih =>
    have e : allL (v :: l) = wordL (ofN v.t v.l) ++ allL l := by simp [allL]
    rw [e]
    intro z hz
    rcases List.mem_append.1 hz with h | h
    · exact word_oct _ z h
    · exact ih z h
def allN (l : List Vr) : Int := sumN (allL l)
end Go.Proofs.Ytinmhjgnapbkmaa.Dg
