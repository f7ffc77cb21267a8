/- What the statements' Two answers. -/
import Derived.Test.YtihgpllbgliplaaPathMath
import Derived.Test.YtihgpllbgliplaaConfIf
namespace Go.Proofs.Ytihgpllbgliplaa
open Go.ChangeShapes Go.WideShapes Go.ChangeAt Go.RowKit Pk Cf Pa
set_option linter.unusedVariables false
set_option linter.unusedSimpArgs false

def lk2 : Tp.Lk := ⟨0, 1, 1, 0⟩
/-- two lists that lie in one place -/
theorem lists_two (W : World) {x : Option Addr} {n k : Nat} {l : List Rl} (R : Rds fR 6 W x k l) (hn : n = l.length) (t : TypeId) {B : Nat} (hB : W.heap.size = B) : Lists (W.alloc (.cells #[.slice x n k, .slice x n k] t)) (some ⟨B, 0, none⟩) 2 [l, l] := by
  subst hB
  have hr : RowAt none (W.alloc (.cells #[.slice x n k, .slice x n k] t)) ⟨x, n, k⟩ l := ⟨hn, R.later (below_new _ _), fun _ _ _ e => by cases e⟩
  refine ⟨[⟨x, n, k⟩, ⟨x, n, k⟩], ⟨by simp, by decide, fun h => (nomatch h), fun _ => ⟨W.heap.size, 0, rfl, by simp, fun i z hz j y hy => ?_⟩⟩, .cons hr (.cons hr .nil)⟩
  match i, hz with
  | 0, hz =>
    obtain rfl : (⟨x, n, k⟩ : Sl) = z := by simpa using hz
    match j, hy with
    | 0, hy =>
      obtain rfl : Value.slice x n k = y := by simpa [fS] using hy
      simp
  | 1, hz =>
    obtain rfl : (⟨x, n, k⟩ : Sl) = z := by simpa using hz
    match j, hy with
    | 0, hy =>
      obtain rfl : Value.slice x n k = y := by simpa [fS] using hy
      simp
set_option maxRecDepth 100000 in
set_option maxHeartbeats 4000000 in
theorem two_any (w : World) : Calls Try.prog 19 #[] w fun e w' => ∃ (x a : Option Addr) (c k : Nat), e = .returned (.tuple #[.agg #[.int .i64 2, .int .i64 2, .slice x 1 c], .slice a 2 k]) ∧ Rds Tp.fK 4 w' x c [lk2] ∧ Lists w' a k [[exA], [exA]] ∧ Below w.heap.size w w' := by
  go_enter Try.func19, Try.ntmps19
  go_wp2_with fail
  refine bodyPost_ret (v := .tuple #[.agg #[.int .i64 2, .int .i64 2, .slice (some ⟨w.heap.size + 1 + 1, 0, none⟩) 1 1], .slice (some ⟨w.heap.size + 1 + 1 + 1, 0, none⟩) 2 2]) (by simp [results, Try.results19, go_sem]) rfl ?_
  have h1 := below_new w (.cells #[.int .i64 2, .int .i64 2, .slice (some ⟨w.heap.size + 1 + 1, 0, none⟩) 1 1] 24)
  generalize hW : w.alloc (.cells #[.int .i64 2, .int .i64 2, .slice (some ⟨w.heap.size + 1 + 1, 0, none⟩) 1 1] 24) = W1 at h1 ⊢
  have hs : W1.heap.size = w.heap.size + 1 := by rw [← hW]; simp
  clear hW
  have h2 := below_new W1 (.cells #[.int .i64 0, .int .i64 0, .int .i64 (-1), .int .i64 0, .int .i64 1, .int .i64 1] 60)
  have R1 : Rds fR 6 (W1.alloc (.cells #[.int .i64 0, .int .i64 0, .int .i64 (-1), .int .i64 0, .int .i64 1, .int .i64 1] 60)) (some ⟨w.heap.size + 1, 0, none⟩) 1 [exA] := rds_new fR_len W1 exA 60 exA_wf hs
  have hs2 : (W1.alloc (.cells #[.int .i64 0, .int .i64 0, .int .i64 (-1), .int .i64 0, .int .i64 1, .int .i64 1] 60)).heap.size = w.heap.size + 1 + 1 := by simp [hs]
  generalize W1.alloc (.cells #[.int .i64 0, .int .i64 0, .int .i64 (-1), .int .i64 0, .int .i64 1, .int .i64 1] 60) = W2 at h2 R1 hs2 ⊢
  have h3 := below_new W2 (.cells #[.int .i64 0, .int .i64 1, .int .i64 1, .int .i64 0] 71)
  have R2 : Rds Tp.fK 4 (W2.alloc (.cells #[.int .i64 0, .int .i64 1, .int .i64 1, .int .i64 0] 71)) (some ⟨w.heap.size + 1 + 1, 0, none⟩) 1 [lk2] := rds_new Tp.fK_len W2 lk2 71 (by intro z hz; simp only [Tp.fK, lk2, List.mem_cons, List.not_mem_nil, or_false] at hz; rcases hz with rfl | rfl | rfl | rfl <;> decide) hs2
  have hs3 : (W2.alloc (.cells #[.int .i64 0, .int .i64 1, .int .i64 1, .int .i64 0] 71)).heap.size = w.heap.size + 1 + 1 + 1 := by simp [hs2]
  replace R1 := R1.later h3
  generalize W2.alloc (.cells #[.int .i64 0, .int .i64 1, .int .i64 1, .int .i64 0] 71) = W3 at h3 R1 R2 hs3 ⊢
  have h4 := below_new W3 (.cells #[.slice (some ⟨w.heap.size + 1, 0, none⟩) 1 1, .slice (some ⟨w.heap.size + 1, 0, none⟩) 1 1] 48)
  exact ⟨_, _, _, _, rfl, R2.later h4, lists_two W3 R1 rfl 48 hs3, below_step (below_step (below_step h1 h2) h3) h4⟩
end Go.Proofs.Ytihgpllbgliplaa
