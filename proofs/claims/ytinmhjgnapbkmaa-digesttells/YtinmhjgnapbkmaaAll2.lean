/- Two lists, one by one: plain. -/
import Derived.Test.YtinmhjgnapbkmaaOctMath
namespace Go.Proofs.Ytinmhjgnapbkmaa
set_option linter.unusedVariables false

/-- the two lists are as long, and what stands at one place is so -/
inductive All2 {α β : Type} (P : α → β → Prop) : List α → List β → Prop
  | nil : All2 P [] []
  | cons {x : α} {y : β} {l : List α} {m : List β} : P x y → All2 P l m → All2 P (x :: l) (y :: m)
theorem all2_imp {α β : Type} {P Q : α → β → Prop} {l : List α} {m : List β} (h : All2 P l m) (hi : ∀ x y, P x y → Q x y) : All2 Q l m := by
  induction h with
  | nil => exact .nil
  | cons h1 _ ih => exact .cons (hi _ _ h1) ih
theorem all2_len {α β : Type} {P : α → β → Prop} {l : List α} {m : List β} (h : All2 P l m) : l.length = m.length := by
  induction h with
  | nil => rfl
  | cons _ _ ih => simp [ih]
theorem all2_app {α β : Type} {P : α → β → Prop} {l l2 : List α} {m m2 : List β} (h : All2 P l m) (h2 : All2 P l2 m2) : All2 P (l ++ l2) (m ++ m2) := by
  induction h with
  | nil => exact h2
  | cons h1 _ ih => exact .cons h1 ih
theorem all2_get {α β : Type} {P : α → β → Prop} {l : List α} {m : List β} (h : All2 P l m) : ∀ {i : Nat} {y : β}, m[i]? = some y → ∃ x, l[i]? = some x ∧ P x y := by
  induction h with
  | nil => intro i y h; simp at h
  | cons h1 _ ih =>
    intro i y h
    cases i with
    | zero => simp at h; subst h; exact ⟨_, rfl, h1⟩
    | succ i => exact ih (by simpa using h)
theorem all2_set {α β : Type} {P : α → β → Prop} {l : List α} {m : List β} (h : All2 P l m) {x : α} {y : β} (hp : P x y) : ∀ i, All2 P (l.set i x) (m.set i y) := by
  induction h with
  | nil => intro i; exact .nil
  | cons h1 h2 ih =>
    intro i
    cases i with
    | zero => exact .cons hp h2
    | succ i => exact .cons h1 (ih i)
theorem all2_take {α β : Type} {P : α → β → Prop} {l : List α} {m : List β} (h : All2 P l m) : ∀ i, All2 P (l.take i) (m.take i) := by
  induction h with
  | nil => intro i; rw [List.take_nil, List.take_nil]; exact .nil
  | cons h1 h2 ih =>
    intro i
    cases i with
    | zero => exact .nil
    | succ i => exact .cons h1 (ih i)
end Go.Proofs.Ytinmhjgnapbkmaa
