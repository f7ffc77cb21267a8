/- Which rule is ahead: what Compare, leads and Ahead answer, for all arguments. -/
import Derived.Test.YtihgpllbgliplaaRuleWalks
namespace Go.Proofs.Ytihgpllbgliplaa
open Go.ChangeShapes Go.WideShapes Go.ChangeAt Go.RowKit R
set_option linter.unusedVariables false
set_option linter.unusedSimpArgs false

/-- how two numbers compare -/
def cmpI (a b : Int) : Int := if a < b then -1 else if b < a then 1 else 0
/-- the first of three that is not 0 tells -/
def leadB (x y z : Int) : Bool := if x = 0 then (if y = 0 then (if z = 0 then false else decide (0 < z)) else decide (0 < y)) else decide (0 < x)
theorem cmp_wf (a b : Int) : (Lit.int .i64 (cmpI a b)).wf = true := by
  unfold cmpI; split
  · decide
  · split <;> decide
theorem cmp_zero (a b : Int) : cmpI a b = 0 ↔ a = b := by
  unfold cmpI; split
  · constructor
    · intro h; cases h
    · intro h; omega
  · split
    · constructor
      · intro h; cases h
      · intro h; omega
    · constructor
      · intro h; omega
      · intro h; rfl
theorem cmp_pos (a b : Int) : 0 < cmpI a b ↔ b < a := by
  unfold cmpI; split
  · constructor <;> intro h <;> omega
  · split
    · constructor <;> intro h <;> omega
    · constructor <;> intro h <;> omega
theorem lead_is (n p i m q j : Int) : leadB (cmpI n m) (cmpI p q) (cmpI i j) = ahB n p i m q j := by
  unfold leadB ahB
  simp only [cmp_zero, cmp_pos]
  by_cases h1 : n = m
  · rw [if_pos h1, if_pos h1]
    by_cases h2 : p = q
    · rw [if_pos h2, if_pos h2]
      by_cases h3 : i = j
      · rw [if_pos h3]; rw [Bool.eq_iff_iff]; simp; omega
      · rw [if_neg h3]
    · rw [if_neg h2, if_neg h2]
  · rw [if_neg h1, if_neg h1]

theorem isNaN_any (a : Int) (w : World) :
    Calls Try.prog 62 #[.int .i64 a] w fun e w' => e = .returned (.bool false) ∧ w' = w := by
  go_enter Try.func62, Try.ntmps62
  go_wp2
  go_ret
  exact ⟨ret_bool (by simp), rfl⟩
theorem compare_any (a b : Int) (w : World) :
    Calls Try.prog 53 #[.int .i64 a, .int .i64 b] w fun e w' => e = .returned (.int .i64 (cmpI a b)) ∧ w' = w := by
  by_cases h1 : a < b
  · go_enter Try.func53, Try.ntmps53
    go_wp2_with (go_at_call 62; refine (isNaN_any _ _).mono ?_; rintro e w' ⟨rfl, rfl⟩)
    go_ret
    exact ⟨ret_int (by unfold cmpI; rw [if_pos (by omega)]), rfl⟩
  by_cases h2 : b < a
  · go_enter Try.func53, Try.ntmps53
    go_wp2_with (go_at_call 62; refine (isNaN_any _ _).mono ?_; rintro e w' ⟨rfl, rfl⟩)
    go_ret
    exact ⟨ret_int (by unfold cmpI; rw [if_neg (by omega), if_pos (by omega)]), rfl⟩
  · go_enter Try.func53, Try.ntmps53
    go_wp2_with (go_at_call 62; refine (isNaN_any _ _).mono ?_; rintro e w' ⟨rfl, rfl⟩)
    go_ret
    exact ⟨ret_int (by unfold cmpI; rw [if_neg (by omega), if_neg (by omega)]), rfl⟩

set_option maxHeartbeats 1000000 in
theorem leads_any (x y z : Int) (w : World) {a : Option Addr} {c : Nat} (R : Reads .i64 w a c [x, y, z]) :
    Calls Try.prog 52 #[.slice a 3 c] w fun e w' => e = .returned (.bool (leadB x y z)) ∧ w' = w := by
  obtain ⟨b, o, rfl, lt, hc⟩ := reads_at R (by simp)
  have y0 := hc 0 x rfl
  have y1 := hc 1 y rfl
  have y2 := hc 2 z rfl
  rw [Nat.add_zero] at y0
  clear hc R
  by_cases hx : x = 0
  · subst hx
    by_cases hy : y = 0
    · subst hy
      by_cases hz : z = 0
      · subst hz
        go_enter Try.func52, Try.ntmps52
        go_wp2
        refine wp_loop_rounds 4 ?_
        rw [rounds_succ]; go_wp2
        rw [rounds_succ]; go_wp2
        rw [rounds_succ]; go_wp2
        rw [rounds_succ]; go_wp2
        go_ret
        exact ⟨rfl, rfl⟩
      · have HE : Hid (leadB 0 0 z = decide (0 < z)) := by unfold Hid leadB; rw [if_pos rfl, if_pos rfl, if_neg hz]
        go_enter Try.func52, Try.ntmps52
        go_wp2
        refine wp_loop_rounds 4 ?_
        rw [rounds_succ]; go_wp2
        rw [rounds_succ]; go_wp2
        rw [rounds_succ]; go_wp2
        go_ret
        exact ⟨ret_bool HE.out.symm, rfl⟩
    · have HE : Hid (leadB 0 y z = decide (0 < y)) := by unfold Hid leadB; rw [if_pos rfl, if_neg hy]
      go_enter Try.func52, Try.ntmps52
      go_wp2
      refine wp_loop_rounds 4 ?_
      rw [rounds_succ]; go_wp2
      rw [rounds_succ]; go_wp2
      go_ret
      exact ⟨ret_bool HE.out.symm, rfl⟩
  · have HE : Hid (leadB x y z = decide (0 < x)) := by unfold Hid leadB; rw [if_neg hx]
    go_enter Try.func52, Try.ntmps52
    go_wp2
    refine wp_loop_rounds 4 ?_
    rw [rounds_succ]; go_wp2
    go_ret
    exact ⟨ret_bool HE.out.symm, rfl⟩

theorem leads_new (x y z : Int) (W : World) {B : Nat} (hB : W.heap.size = B) (hx : (Lit.int .i64 x).wf = true) (hy : (Lit.int .i64 y).wf = true) (hz : (Lit.int .i64 z).wf = true) :
    Calls Try.prog 52 #[.slice (some ⟨B, 0, none⟩) 3 3] (W.alloc (.cells #[.int .i64 x, .int .i64 y, .int .i64 z] 3)).drew fun e w' => e = .returned (.bool (leadB x y z)) ∧ w' = (W.alloc (.cells #[.int .i64 x, .int .i64 y, .int .i64 z] 3)).drew := by
  have hwf : ∀ u ∈ [x, y, z], (Lit.int .i64 u).wf = true := by
    intro u hu
    simp only [List.mem_cons, List.not_mem_nil, or_false] at hu
    rcases hu with rfl | rfl | rfl <;> assumption
  exact leads_any x y z _ ((reads_new64 W [x, y, z] hwf (by simp) hB rfl).later (Below.refl _ _).drew)
theorem keptA {w w' w2 : World} {n p i m q j : Int} {B C : Nat} (h : Below w.heap.size w w' ∧ B < w'.heap.size ∧ C < w'.heap.size ∧
  w'.cell? ⟨B, 1, none⟩ = some (.int .i64 n) ∧ w'.cell? ⟨B, 2, none⟩ = some (.int .i64 i) ∧ w'.cell? ⟨B, 3, none⟩ = some (.int .i64 p) ∧
  w'.cell? ⟨C, 1, none⟩ = some (.int .i64 m) ∧ w'.cell? ⟨C, 2, none⟩ = some (.int .i64 j) ∧ w'.cell? ⟨C, 3, none⟩ = some (.int .i64 q)) (hb : Below w'.heap.size w' w2) :
  Below w.heap.size w w2 ∧ B < w2.heap.size ∧ C < w2.heap.size ∧
  w2.cell? ⟨B, 1, none⟩ = some (.int .i64 n) ∧ w2.cell? ⟨B, 2, none⟩ = some (.int .i64 i) ∧ w2.cell? ⟨B, 3, none⟩ = some (.int .i64 p) ∧
  w2.cell? ⟨C, 1, none⟩ = some (.int .i64 m) ∧ w2.cell? ⟨C, 2, none⟩ = some (.int .i64 j) ∧ w2.cell? ⟨C, 3, none⟩ = some (.int .i64 q) := by
  obtain ⟨h0, h1, h2, c1, c2, c3, d1, d2, d3⟩ := h
  exact ⟨below_step h0 hb, Nat.lt_of_lt_of_le h1 hb.size, Nat.lt_of_lt_of_le h2 hb.size, (hb.cell (p := ⟨B, 1, none⟩) h1).trans c1, (hb.cell (p := ⟨B, 2, none⟩) h1).trans c2, (hb.cell (p := ⟨B, 3, none⟩) h1).trans c3,
    (hb.cell (p := ⟨C, 1, none⟩) h2).trans d1, (hb.cell (p := ⟨C, 2, none⟩) h2).trans d2, (hb.cell (p := ⟨C, 3, none⟩) h2).trans d3⟩
set_option maxHeartbeats 400000 in
theorem ruAhead_any (a n i p k t b m j q l u : Int) (w : World) :
    Calls Try.prog 45 #[.agg #[.int .i64 a, .int .i64 n, .int .i64 i, .int .i64 p, .int .i64 k, .int .i64 t], .agg #[.int .i64 b, .int .i64 m, .int .i64 j, .int .i64 q, .int .i64 l, .int .i64 u]] w fun e w' => e = .returned (.bool (ahB n p i m q j)) ∧ Below w.heap.size w w' := by
  have hb0 := below_step (below_new w (.cells #[.int .i64 a, .int .i64 n, .int .i64 i, .int .i64 p, .int .i64 k, .int .i64 t] 60)) (below_new (w.alloc (.cells #[.int .i64 a, .int .i64 n, .int .i64 i, .int .i64 p, .int .i64 k, .int .i64 t] 60)) (.cells #[.int .i64 b, .int .i64 m, .int .i64 j, .int .i64 q, .int .i64 l, .int .i64 u] 60))
  obtain ⟨_, x1, x2, x3, _, _⟩ := ((Lies.new w [a, n, i, p, k, t] 60 rfl).later (below_new (w.alloc (.cells #[.int .i64 a, .int .i64 n, .int .i64 i, .int .i64 p, .int .i64 k, .int .i64 t] 60)) (.cells #[.int .i64 b, .int .i64 m, .int .i64 j, .int .i64 q, .int .i64 l, .int .i64 u] 60))).six
  obtain ⟨_, y1, y2, y3, _, _⟩ := (Lies.new (w.alloc (.cells #[.int .i64 a, .int .i64 n, .int .i64 i, .int .i64 p, .int .i64 k, .int .i64 t] 60)) [b, m, j, q, l, u] 60 (B := w.heap.size + 1) (by simp)).six
  have z1 : w.heap.size < ((w.alloc (.cells #[.int .i64 a, .int .i64 n, .int .i64 i, .int .i64 p, .int .i64 k, .int .i64 t] 60)).alloc (.cells #[.int .i64 b, .int .i64 m, .int .i64 j, .int .i64 q, .int .i64 l, .int .i64 u] 60)).drew.heap.size := by simp; omega
  have z2 : w.heap.size + 1 < ((w.alloc (.cells #[.int .i64 a, .int .i64 n, .int .i64 i, .int .i64 p, .int .i64 k, .int .i64 t] 60)).alloc (.cells #[.int .i64 b, .int .i64 m, .int .i64 j, .int .i64 q, .int .i64 l, .int .i64 u] 60)).drew.heap.size := by simp
  obtain ⟨W, hW⟩ : ∃ W, W = ((w.alloc (.cells #[.int .i64 a, .int .i64 n, .int .i64 i, .int .i64 p, .int .i64 k, .int .i64 t] 60)).alloc (.cells #[.int .i64 b, .int .i64 m, .int .i64 j, .int .i64 q, .int .i64 l, .int .i64 u] 60)).drew := ⟨_, rfl⟩
  rw [← hW] at z1 z2
  have S0 : Below w.heap.size w W ∧ w.heap.size < W.heap.size ∧ w.heap.size + 1 < W.heap.size ∧
   W.cell? ⟨w.heap.size, 1, none⟩ = some (.int .i64 n) ∧ W.cell? ⟨w.heap.size, 2, none⟩ = some (.int .i64 i) ∧ W.cell? ⟨w.heap.size, 3, none⟩ = some (.int .i64 p) ∧
   W.cell? ⟨w.heap.size + 1, 1, none⟩ = some (.int .i64 m) ∧ W.cell? ⟨w.heap.size + 1, 2, none⟩ = some (.int .i64 j) ∧ W.cell? ⟨w.heap.size + 1, 3, none⟩ = some (.int .i64 q) := by
    rw [hW] at z1 z2 ⊢
    exact ⟨hb0.drew, z1, z2, x1, x2, x3, y1, y2, y3⟩
  clear x1 x2 x3 y1 y2 y3 z1 z2
  rw [hW] at S0
  clear hW W
  rw [← lead_is]
  go_enter Try.func45, Try.ntmps45
  go_wp2_with fail
  go_region_held3 (fun w' => Below w.heap.size w w' ∧ w.heap.size < w'.heap.size ∧ w.heap.size + 1 < w'.heap.size ∧ w'.cell? ⟨w.heap.size, 1, none⟩ = some (.int .i64 n) ∧ w'.cell? ⟨w.heap.size, 2, none⟩ = some (.int .i64 i) ∧ w'.cell? ⟨w.heap.size, 3, none⟩ = some (.int .i64 p) ∧ w'.cell? ⟨w.heap.size + 1, 1, none⟩ = some (.int .i64 m) ∧ w'.cell? ⟨w.heap.size + 1, 2, none⟩ = some (.int .i64 j) ∧ w'.cell? ⟨w.heap.size + 1, 3, none⟩ = some (.int .i64 q))
    (first | assumption | exact keptA (by assumption) (below_new _ _))
    (first | (go_at_call 53; refine (compare_any _ _ _).mono ?_; rintro e w' ⟨rfl, rfl⟩) | (go_at_call 52; refine (leads_new _ _ _ _ (by simp) (cmp_wf _ _) (cmp_wf _ _) (cmp_wf _ _)).mono ?_; rintro e w' ⟨rfl, rfl⟩))
  go_wp2_with fail
  go_ret
  exact ⟨rfl, (below_step hb0 (below_new _ _)).drew⟩
end Go.Proofs.Ytihgpllbgliplaa
