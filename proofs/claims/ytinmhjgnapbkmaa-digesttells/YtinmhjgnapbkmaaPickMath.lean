/- Rules as six numbers, which is ahead, how two compare: plain; no program in sight. -/
import Derived.Test.YtinmhjgnapbkmaaRuleMath
namespace Go.Proofs.Ytinmhjgnapbkmaa.Pk
open Go M O R
set_option linter.unusedVariables false
set_option linter.unusedSimpArgs false

/-- a rule: its prefix's address and length, its port, its priority, what it does -/
structure Rl where
  a : Int
  n : Int
  i : Int
  p : Int
  k : Int
  t : Int
  deriving DecidableEq, Inhabited
def fR (r : Rl) : List Int := [r.a, r.n, r.i, r.p, r.k, r.t]
theorem fR_len (r : Rl) : (fR r).length = 6 := rfl
def fits (x d : Int) (r : Rl) : Bool := fitB r.a r.n r.i x d
def ahead (r s : Rl) : Bool := ahB r.n r.p r.i s.n s.p s.i
def alike (r s : Rl) : Bool := likeB r.a r.n r.i r.p s.a s.n s.i s.p
def mayR (r : Rl) : Bool := okR r.a r.n r.i r.p r.k r.t
theorem ahead_iff (r s : Rl) : ahead r s = true ↔ s.n < r.n ∨ (r.n = s.n ∧ (s.p < r.p ∨ (r.p = s.p ∧ s.i < r.i))) := by
  unfold ahead ahB
  split
  · split
    · simp; omega
    · simp; omega
  · simp; omega
theorem ahead_not (r s : Rl) : ahead r s = false ↔ ¬ (s.n < r.n ∨ (r.n = s.n ∧ (s.p < r.p ∨ (r.p = s.p ∧ s.i < r.i)))) := by
  rw [← ahead_iff]; simp
/-- how two numbers compare -/
def cm (a b : Int) : Int := if a < b then -1 else if b < a then 1 else 0
def or4 (x y z u : Int) : Int := if x = 0 then (if y = 0 then (if z = 0 then u else z) else y) else x
/-- which of two rules stands first, where they stand at x and y -/
def cfR (r s : Rl) (x y : Int) : Int := if ahead r s = true then -1 else if ahead s r = true then 1 else or4 (cm r.a s.a) (cm r.k s.k) (cm r.t s.t) (cm x y)
end Go.Proofs.Ytinmhjgnapbkmaa.Pk
