/- What the table of package msg holds, and what its small functions answer: the contracts that the claims on its statements rest on. -/
import Derived.Test.YtklcchmpmilcaaaDoorMsgMath
import Derived.Test.YtklcchmpmilcaaaDoorRuleMore
namespace Go.Proofs.YtklcchmpmilcaaaDoor
open Go.ChangeShapes Go.WideShapes Go.ChangeAt Go.RowKit R Q
set_option linter.unusedVariables false
set_option linter.unusedSimpArgs false

/-- the values l lie in the block B, one behind the other -/
structure Holds (w : World) (B : Nat) (l : List Value) : Prop where
  lt : B < w.heap.size
  cells : ∀ j x, l[j]? = some x → w.cell? ⟨B, j, none⟩ = some x
theorem Holds.later {w w' : World} {B : Nat} {l : List Value} (X : Holds w B l) (hb : Below w.heap.size w w') : Holds w' B l :=
  ⟨Nat.lt_of_lt_of_le X.lt hb.size, fun j x hx => (hb.cell (p := ⟨B, j, none⟩) X.lt).trans (X.cells j x hx)⟩
theorem Holds.new (w : World) (l : List Value) (e : TypeId) {B : Nat} (hB : w.heap.size = B) : Holds (w.alloc (.cells l.toArray e)) B l := by
  subst hB
  refine ⟨by simp, fun j x hx => ?_⟩
  have := World.news_of_block (heap_alloc_new w (.cells l.toArray e)) j x (by simpa using hx)
  rw [Addr.add_lit] at this
  simpa using this
/-- a row of the table -/
abbrev rowL (l m l2 m2 : Int) (r : Bool) : List Value := [.int .i64 1, .int .i64 1048576, .int .i64 l, .int .i64 m, .int .i64 l2, .int .i64 m2, .bool r]
/-- the table, as it lies in memory -/
abbrev rowsL : List Value := rowL 0 0 0 0 false ++ rowL 0 1048576 0 4095 false ++ rowL 1 1048576 1 4095 true ++ rowL 1 1048576 1 4095 false ++ rowL 1 1048576 1 4095 false ++ rowL 1 1048576 0 0 false
abbrev Tab (w : World) : Prop := Holds w 0 rowsL
theorem Holds.seven {w : World} {B : Nat} {x0 x1 x2 x3 x4 x5 x6 : Value} (X : Holds w B [x0, x1, x2, x3, x4, x5, x6]) :
    w.cell? ⟨B, 0, none⟩ = some x0 ∧ w.cell? ⟨B, 1, none⟩ = some x1 ∧ w.cell? ⟨B, 2, none⟩ = some x2 ∧ w.cell? ⟨B, 3, none⟩ = some x3 ∧ w.cell? ⟨B, 4, none⟩ = some x4 ∧ w.cell? ⟨B, 5, none⟩ = some x5 ∧ w.cell? ⟨B, 6, none⟩ = some x6 :=
  ⟨X.cells 0 _ rfl, X.cells 1 _ rfl, X.cells 2 _ rfl, X.cells 3 _ rfl, X.cells 4 _ rfl, X.cells 5 _ rfl, X.cells 6 _ rfl⟩
theorem Lies.ten {w : World} {B : Nat} {x0 x1 x2 x3 x4 x5 x6 x7 x8 x9 : Int} (X : Lies w B [x0, x1, x2, x3, x4, x5, x6, x7, x8, x9]) :
    w.cell? ⟨B, 0, none⟩ = some (.int .i64 x0) ∧ w.cell? ⟨B, 1, none⟩ = some (.int .i64 x1) ∧ w.cell? ⟨B, 2, none⟩ = some (.int .i64 x2) ∧ w.cell? ⟨B, 3, none⟩ = some (.int .i64 x3) ∧ w.cell? ⟨B, 4, none⟩ = some (.int .i64 x4) ∧ w.cell? ⟨B, 5, none⟩ = some (.int .i64 x5) ∧ w.cell? ⟨B, 6, none⟩ = some (.int .i64 x6) ∧ w.cell? ⟨B, 7, none⟩ = some (.int .i64 x7) ∧ w.cell? ⟨B, 8, none⟩ = some (.int .i64 x8) ∧ w.cell? ⟨B, 9, none⟩ = some (.int .i64 x9) :=
  ⟨X.cells 0 _ rfl, X.cells 1 _ rfl, X.cells 2 _ rfl, X.cells 3 _ rfl, X.cells 4 _ rfl, X.cells 5 _ rfl, X.cells 6 _ rfl, X.cells 7 _ rfl, X.cells 8 _ rfl, X.cells 9 _ rfl⟩

theorem mKind_any (y : Int) (w : World) :
    Calls Tryd.prog 31 #[.int .i64 y] w fun e w' => e = .returned (.bool (decide (0 ≤ y ∧ y < 6))) ∧ w' = w := by
  by_cases h : 0 ≤ y
  · go_enter Tryd.func31, Tryd.ntmps31
    go_wp2
    go_ret
    exact ⟨ret_bool (by simp [h]), rfl⟩
  · go_enter Tryd.func31, Tryd.ntmps31
    go_wp2
    go_ret
    exact ⟨ret_bool (by simp; omega), rfl⟩
theorem mHas_any (l m n : Int) (w : World) :
    Calls Tryd.prog 32 #[.agg #[.int .i64 l, .int .i64 m], .int .i64 n] w fun e w' => e = .returned (.bool (decide (l ≤ n ∧ n ≤ m))) ∧ Below w.heap.size w w' := by
  have hb0 := below_new w (.cells #[.int .i64 l, .int .i64 m] 56)
  by_cases h : l ≤ n
  · go_enter Tryd.func32, Tryd.ntmps32
    go_wp2
    go_ret
    exact ⟨ret_bool (by simp [h]), hb0⟩
  · go_enter Tryd.func32, Tryd.ntmps32
    go_wp2
    go_ret
    exact ⟨ret_bool (by simp; omega), hb0⟩
theorem mTells_any (y : Int) (w : World) (T : Tab w) :
    Calls Tryd.prog 29 #[.int .i64 y] w fun e w' => e = .returned (.bool (decide (y = 2))) ∧ w' = w := by
  by_cases h : 0 ≤ y ∧ y < 6
  · have t0 := T.cells 6 _ rfl
    have t1 := T.cells 13 _ rfl
    have t2 := T.cells 20 _ rfl
    have t3 := T.cells 27 _ rfl
    have t4 := T.cells 34 _ rfl
    have t5 := T.cells 41 _ rfl
    rcases six_of h with rfl | rfl | rfl | rfl | rfl | rfl
    all_goals
      clear h
      go_enter Tryd.func29, Tryd.ntmps29
      go_wp2_with (go_at_call 31; refine (mKind_any _ _).mono ?_; rintro e w' ⟨rfl, rfl⟩)
      go_ret
      exact ⟨rfl, rfl⟩
  · have c1 := fun w => mKind_any y w
    have HE : Hid (decide (y = 2) = false) := by unfold Hid; simp; omega
    rw [decide_eq_false h] at c1
    clear h
    go_enter Tryd.func29, Tryd.ntmps29
    go_wp2_with fail
    refine (c1 _).mono ?_
    rintro e w' ⟨rfl, rfl⟩
    go_wp2_with fail
    go_ret
    exact ⟨ret_bool HE.out.symm, rfl⟩
/-- a rule held against noughts -/
theorem eq_zero (a n i p k t : Int) (w : World) : (binOp .eql 27 (.agg #[.int .i64 a, .int .i64 n, .int .i64 i, .int .i64 p, .int .i64 k, .int .i64 t]) (.agg #[.int .i64 0, .int .i64 0, .int .i64 0, .int .i64 0, .int .i64 0, .int .i64 0])).run Tryd.prog w = .ok (.bool (zeroR a n i p k t)) w := by
  have hz : zeroR a n i p k t = (a == 0 && (n == 0 && (i == 0 && (p == 0 && (k == 0 && t == 0))))) := by
    unfold zeroR; rw [Bool.eq_iff_iff]; simp
  rw [hz]
  clear hz
  cases h0 : (a == 0)
  · go_simp
  cases h1 : (n == 0)
  · go_simp
  cases h2 : (i == 0)
  · go_simp
  cases h3 : (p == 0)
  · go_simp
  cases h4 : (k == 0)
  · go_simp
  cases h5 : (t == 0)
  · go_simp
  · go_simp
end Go.Proofs.YtklcchmpmilcaaaDoor
