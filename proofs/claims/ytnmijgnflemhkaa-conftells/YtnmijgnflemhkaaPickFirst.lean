/- What the code's First answers. -/
import Derived.Test.YtnmijgnflemhkaaQuiets
import Derived.Test.YtnmijgnflemhkaaRuleAhead
import Derived.Test.YtnmijgnflemhkaaMaths
namespace Go.Proofs.Ytnmijgnflemhkaa
open Go.ChangeShapes Go.WideShapes Go.ChangeAt Go.RowKit Pk R
set_option linter.unusedVariables false
set_option linter.unusedSimpArgs false

theorem allReady_pass {P : Program} {ops : Array Oper} {Q : Exit → Act → World → Prop} {md : Region.Mode} {S : World → Prop} {fuel : Nat} {listed : Array Bool} {a : Act} {w : World} {i : Nat} {o : Oper} {rs : List Nat} (ho : ops[i]? = some o)
    (hw : Region.wanted o (yielded ops a.tmps) = false) (hS : S w) (h : wpAnyH P md ops Q S fuel (listed.setIfInBounds i true) (a.put o.dst undef) w) (hs : AllReadyH P md ops Q S fuel listed a w rs) : AllReadyH P md ops Q S fuel listed a w (i :: rs) :=
  AllReadyH.cons ho (fun K' hK => by rw [if_neg (by rw [hw]; exact Bool.false_ne_true)]; exact hK.out _ _ hS (fun _ => h)) hs
theorem kept_w {W w' w2 : World} (h : Below W.heap.size W w') (hb : Below w'.heap.size w' w2) : Below W.heap.size W w2 := below_step h hb
/-- the number of the one that counts, of the first k -/
def firstK (x d : Int) (l : List Rl) : Nat → Int
  | 0 => -1
  | k + 1 => if fits x d (l.getD k default) = true then (if firstK x d l k = -1 then (k : Int) else if Pk.ahead (l.getD k default) (l.getD (firstK x d l k).toNat default) = true then (k : Int) else firstK x d l k) else firstK x d l k
theorem firstK_bd (x d : Int) (l : List Rl) (k : Nat) : firstK x d l k = -1 ∨ (0 ≤ firstK x d l k ∧ firstK x d l k < (k : Int)) := by
  induction k with
  | zero => exact .inl rfl
  | succ k ih =>
    unfold firstK
    split
    · split
      · right; omega
      · split
        · right; omega
        · rcases ih with h | h
          · exact .inl h
          · right; omega
    · rcases ih with h | h
      · exact .inl h
      · right; omega
def firstL (x d : Int) (l : List Rl) : Int := firstK x d l l.length
theorem getD_at {l : List Rl} {k : Nat} (h : k < l.length) : l[k]? = some (l.getD k default) := by rw [List.getD_eq_getElem?_getD, List.getElem?_eq_getElem h]; rfl
end Go.Proofs.Ytnmijgnflemhkaa
