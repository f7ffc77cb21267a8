/- What the statements on package conf ask of its functions, as one structure: whatever the code is, it is to be shown of it. And that the chapter's example holds. -/
import Derived.Test.YtihgpllbgliplaaConfPlain
import Derived.Test.YtihgpllbgliplaaTopMay
namespace Go.Proofs.Ytihgpllbgliplaa
open Go.ChangeShapes Go.WideShapes Go.ChangeAt Go.RowKit Pk Cf R
set_option linter.unusedVariables false
set_option linter.unusedSimpArgs false

structure CCode : Prop where
  may : ∀ (s n : Int) {x a : Option Addr} {c k : Nat} {l : List Tp.Lk} {L : Cnf} (w : World), Rds Tp.fK 4 w x c l → Lists w a k L →
    Calls Try.prog 17 #[.agg #[.int .i64 s, .int .i64 n, .slice x l.length c], .slice a L.length k] w fun e w' => e = .returned (.bool (mayC s n l L)) ∧ Below w.heap.size w w'
  at' : ∀ {a : Option Addr} {k : Nat} {L : Cnf} (w : World), Lists w a k L → (∀ l ∈ L, l.length ≤ 60) → ∀ sw : Int,
    Calls Try.prog 30 #[.slice a L.length k, .int .i64 sw] w fun e w' => ∃ (x : Option Addr) (m : Nat), e = .returned (.slice x (atC L sw).length m) ∧ Rds fR 6 w' x m (atC L sw) ∧ (∀ y, x = some y → atC L sw ≠ [] → w.heap.size ≤ y.block ∧ ∀ j, w'.frozen? ⟨y.block, j, none⟩ = false) ∧ Below w.heap.size w w'
  same : ∀ {a a2 : Option Addr} {k k2 : Nat} {A B : Cnf} (w : World), Lists w a k A → Lists w a2 k2 B → (∀ l ∈ A, l.length ≤ 60) → (∀ l ∈ B, l.length ≤ 60) →
    Calls Try.prog 18 #[.slice a A.length k, .slice a2 B.length k2] w fun e w' => e = .returned (.bool (sameC A B)) ∧ Below w.heap.size w w'
theorem box3f (w : World) (u v x : Value) (t : TypeId) (j : Nat) : (w.alloc (.cells #[u, v, x] t)).frozen? ⟨w.heap.size, j, none⟩ = false := by unfold World.frozen?; rw [heap_alloc_new]; simp
/-- a conf of one list, just laid -/
theorem lists_one (W : World) {x : Option Addr} {n k : Nat} {l : List Rl} (R : Rds fR 6 W x k l) (hn : n = l.length) (t : TypeId) {B : Nat} (hB : W.heap.size = B) : Lists (W.alloc (.cells #[.slice x n k] t)) (some ⟨B, 0, none⟩) 1 [l] :=
  ⟨[⟨x, n, k⟩], rdv_new fS_len W ⟨x, n, k⟩ t hB, .cons ⟨hn, R.later (below_new _ _), fun _ _ _ e => by cases e⟩ .nil⟩
theorem sort_one (x : Rl) : sortL [x] = [x] := List.perm_singleton.1 (sort_perm [x])
def exA : Rl := ⟨0, 0, -1, 0, 1, 1⟩
def exB : Rl := ⟨0, 0, -1, 0, 1, 2⟩
theorem exC_a : mayC 1 2 [] [[exA]] = true := by decide +kernel
theorem exC_b : mayC 1 2 [] [[exB]] = false := by decide +kernel
theorem exC_m : mostC [[exA]] = 1 := by decide +kernel
theorem exC_s : sameC [[exA]] [[exA]] = true := same_refl _
theorem exC_t : sameC [[exA]] [[exB]] = false := by
  unfold sameC
  rw [List.map_cons, List.map_cons, sort_one, sort_one]
  decide +kernel
theorem exA_wf : ∀ z ∈ fR exA, (Lit.int .i64 z).wf = true := by intro z hz; simp only [fR, exA, List.mem_cons, List.not_mem_nil, or_false] at hz; rcases hz with rfl | rfl | rfl | rfl | rfl | rfl <;> decide
theorem exB_wf : ∀ z ∈ fR exB, (Lit.int .i64 z).wf = true := by intro z hz; simp only [fR, exB, List.mem_cons, List.not_mem_nil, or_false] at hz; rcases hz with rfl | rfl | rfl | rfl | rfl | rfl <;> decide
end Go.Proofs.Ytihgpllbgliplaa
