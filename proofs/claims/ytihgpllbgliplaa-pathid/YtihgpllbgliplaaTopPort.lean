/- What the code's isPort, keep and others answer. -/
import Derived.Test.YtihgpllbgliplaaTopMaps
import Derived.Test.YtihgpllbgliplaaQuiets
namespace Go.Proofs.Ytihgpllbgliplaa
open Go.ChangeShapes Go.WideShapes Go.ChangeAt Go.RowKit Go.Maps Tp
set_option linter.unusedVariables false
set_option linter.unusedSimpArgs false

theorem hmk11 : Try.prog.follows .mixedOrders = true := by kernel_rfl
set_option maxHeartbeats 2000000 in
theorem isPort_any (s n : Int) (a : Option Addr) (k c : Nat) (x y : Int) (w : World) :
    Calls Try.prog 38 #[.agg #[.int .i64 s, .int .i64 n, .slice a k c], .agg #[.int .i64 x, .int .i64 y]] w fun e w' => e = .returned (.bool (isP s n (x, y))) ∧ Below w.heap.size w w' := by
  have hb1 := below_new w (.cells #[.int .i64 s, .int .i64 n, .slice a k c] 24)
  have hb2 := below_step hb1 (below_new (w.alloc (.cells #[.int .i64 s, .int .i64 n, .slice a k c] 24)) (.cells #[.int .i64 x, .int .i64 y] 78))
  by_cases h0 : 0 ≤ x
  case neg =>
    have hr : isP s n (x, y) = false := by simp [isP, h0]
    go_enter Try.func38, Try.ntmps38
    go_wp2
    go_ret
    exact ⟨rfl, hb2⟩
  by_cases h1 : x < s
  case neg =>
    have hr : isP s n (x, y) = false := by simp [isP, h1]
    go_enter Try.func38, Try.ntmps38
    go_wp2
    go_ret
    exact ⟨rfl, hb2⟩
  by_cases h2 : 0 ≤ y
  case neg =>
    have hr : isP s n (x, y) = false := by simp [isP, h2]
    go_enter Try.func38, Try.ntmps38
    go_wp2
    go_ret
    exact ⟨rfl, hb2⟩
  by_cases h3 : y < n
  case neg =>
    have hr : isP s n (x, y) = false := by simp [isP, h3]
    go_enter Try.func38, Try.ntmps38
    go_wp2
    go_ret
    exact ⟨rfl, hb2⟩
  have hr : isP s n (x, y) = true := by simp [isP, h0, h1, h2, h3]
  go_enter Try.func38, Try.ntmps38
  go_wp2
  go_ret
  exact ⟨ret_bool hr.symm, hb2⟩
set_option maxHeartbeats 2000000 in
theorem rport_any (s n : Int) (a : Option Addr) (k c : Nat) (x y : Int) (w : World) :
    Calls Try.prog 35 #[.agg #[.int .i64 s, .int .i64 n, .slice a k c], .int .i64 x, .int .i64 y] w fun e w' => e = .returned (.bool (isP s n (x, y))) ∧ Below w.heap.size w w' := by
  have hb1 := below_new w (.cells #[.int .i64 s, .int .i64 n, .slice a k c] 24)
  by_cases h0 : 0 ≤ x
  case neg =>
    have hr : isP s n (x, y) = false := by simp [isP, h0]
    go_enter Try.func35, Try.ntmps35
    go_wp2
    go_ret
    exact ⟨rfl, hb1⟩
  by_cases h1 : x < s
  case neg =>
    have hr : isP s n (x, y) = false := by simp [isP, h1]
    go_enter Try.func35, Try.ntmps35
    go_wp2
    go_ret
    exact ⟨rfl, hb1⟩
  by_cases h2 : 0 ≤ y
  case neg =>
    have hr : isP s n (x, y) = false := by simp [isP, h2]
    go_enter Try.func35, Try.ntmps35
    go_wp2
    go_ret
    exact ⟨rfl, hb1⟩
  by_cases h3 : y < n
  case neg =>
    have hr : isP s n (x, y) = false := by simp [isP, h3]
    go_enter Try.func35, Try.ntmps35
    go_wp2
    go_ret
    exact ⟨rfl, hb1⟩
  have hr : isP s n (x, y) = true := by simp [isP, h0, h1, h2, h3]
  go_enter Try.func35, Try.ntmps35
  go_wp2
  go_ret
  exact ⟨ret_bool hr.symm, hb1⟩
/-- an end goes into the map, if it is not there -/
theorem grown_of_below {w w' w2 : World} {b : Nat} (h : Below w.heap.size w w') (hg : w'.grownBy w2 (some b)) (hb : b < w.heap.size) : w.grownBy w2 (some b) :=
  ⟨hg.os.trans h.os, hg.tape.trans h.tape, hg.output.trans h.output, Nat.le_trans h.size hg.size, fun k hk hne => (hg.block k (Nat.lt_of_lt_of_le hk h.size) hne).trans (h.block k hk)⟩
theorem grown_below {w w' : World} (h : Below w.heap.size w w') (row : Option Nat) : w.grownBy w' row := ⟨h.os, h.tape, h.output, h.size, fun k hk _ => h.block k hk⟩
set_option maxHeartbeats 2000000 in
theorem keep_any (w : World) {b : Nat} {m : List (En × En)} (M : MapAt w b m) (x y u v : Int) (hk : We (x, y)) (hl : m.length < maxLen) :
    Calls Try.prog 47 #[.map (some b), .agg #[.int .i64 x, .int .i64 y], .agg #[.int .i64 u, .int .i64 v]] w fun e w' => e = .returned (.tuple #[]) ∧ MapAt w' b (ins m (x, y) (u, v)) ∧ w.grownBy w' (some b) := by
  have hb1 := below_new w (.cells #[.int .i64 x, .int .i64 y] 78)
  have hb2 := below_step hb1 (below_new (w.alloc (.cells #[.int .i64 x, .int .i64 y] 78)) (.cells #[.int .i64 u, .int .i64 v] 78))
  have M2 := M.later hb2
  have hL := M2.look hk
  cases hg : getE m (x, y) with
  | some o =>
    obtain ⟨o0, o1⟩ := o
    have hi : ins m (x, y) (u, v) = m := by unfold ins; rw [hg]; rfl
    rw [hi]
    rw [hg] at hL
    dsimp only [arr, Option.getD_some, Option.isSome_some] at hL
    have hb3 := below_step hb2 (below_new ((w.alloc (.cells #[.int .i64 x, .int .i64 y] 78)).alloc (.cells #[.int .i64 u, .int .i64 v] 78)) (.cells #[.int .i64 o0, .int .i64 o1] 78))
    have M3 := M.later hb3
    have hG := grown_below hb3 (some b)
    go_enter Try.func47, Try.ntmps47
    go_wp2
    go_end0
    exact ⟨rfl, M3, hG⟩
  | none =>
    have hi : ins m (x, y) (u, v) = m ++ [((x, y), (u, v))] := by unfold ins; rw [hg]; rfl
    rw [hi]
    rw [hg] at hL
    dsimp only [arr, Option.getD_none, Option.isSome_none] at hL
    have hb3 := below_step hb2 (below_new ((w.alloc (.cells #[.int .i64 x, .int .i64 y] 78)).alloc (.cells #[.int .i64 u, .int .i64 v] 78)) (.cells #[.int .i64 0, .int .i64 0] 78))
    have M3 := M.later hb3
    have hlt := M.lt
    go_enter Try.func47, Try.ntmps47
    go_wp2_with (at_mapUpdate; refine wpList_store_map _ rfl _ _ _ rfl rfl M3 rfl rfl hk hg hl ?_; intro w4 M4 hG4)
    go_end0
    exact ⟨rfl, M4, grown_of_below hb3 hG4 hlt⟩
end Go.Proofs.Ytihgpllbgliplaa
