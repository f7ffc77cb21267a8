/- Proved: for every rule a, every prefix p and all ints in and dst the call RuleFits(a, p, in, dst) returns true: a rule for any port fits wherever one for a port does; a shorter prefix fits wherever a longer one that is within it does. No condition. -/
import Derived.Test.YtkpgifpnmccdcaaRuleAhead
import Derived.Test.YtkpgifpnmccdcaaRulePut
import Derived.Test.YtkpgifpnmccdcaaRuleOpen
import Derived.Lib.SmallJoins
namespace Go.Proofs.Ytkpgifpnmccdcaa.ruleFits
open Go.ChangeShapes Go.WideShapes Go.ChangeAt Go.RowKit R
set_option linter.unusedVariables false

theorem allReady_pass {P : Program} {ops : Array Oper} {Q : Exit → Act → World → Prop} {md : Region.Mode} {S : World → Prop} {fuel : Nat} {listed : Array Bool} {a : Act} {w : World} {i : Nat} {o : Oper} {rs : List Nat} (ho : ops[i]? = some o)
    (hw : Region.wanted o (yielded ops a.tmps) = false) (hS : S w) (h : wpAnyH P md ops Q S fuel (listed.setIfInBounds i true) (a.put o.dst undef) w) (hs : AllReadyH P md ops Q S fuel listed a w rs) : AllReadyH P md ops Q S fuel listed a w (i :: rs) :=
  AllReadyH.cons ho (fun K' hK => by rw [if_neg (by rw [hw]; exact Bool.false_ne_true)]; exact hK.out _ _ hS (fun _ => h)) hs
theorem kept_fits {w w' w2 : World} {B1 B2 B3 B4 : Nat} {a n i p k t b m a3 n3 i3 p3 k3 t3 a4 n4 i4 p4 k4 t4 : Int} (h : Below w.heap.size w w' ∧ B1 < w'.heap.size ∧ B2 < w'.heap.size ∧ B3 < w'.heap.size ∧ B4 < w'.heap.size ∧ w'.cell? ⟨B1, 0, none⟩ = some (.int .i64 a) ∧ w'.cell? ⟨B1, 1, none⟩ = some (.int .i64 n) ∧ w'.cell? ⟨B1, 2, none⟩ = some (.int .i64 i) ∧ w'.cell? ⟨B1, 3, none⟩ = some (.int .i64 p) ∧ w'.cell? ⟨B1, 4, none⟩ = some (.int .i64 k) ∧ w'.cell? ⟨B1, 5, none⟩ = some (.int .i64 t) ∧ w'.cell? ⟨B2, 0, none⟩ = some (.int .i64 b) ∧ w'.cell? ⟨B2, 1, none⟩ = some (.int .i64 m) ∧ w'.cell? ⟨B3, 0, none⟩ = some (.int .i64 a3) ∧ w'.cell? ⟨B3, 1, none⟩ = some (.int .i64 n3) ∧ w'.cell? ⟨B3, 2, none⟩ = some (.int .i64 i3) ∧ w'.cell? ⟨B3, 3, none⟩ = some (.int .i64 p3) ∧ w'.cell? ⟨B3, 4, none⟩ = some (.int .i64 k3) ∧ w'.cell? ⟨B3, 5, none⟩ = some (.int .i64 t3) ∧ w'.cell? ⟨B4, 0, none⟩ = some (.int .i64 a4) ∧ w'.cell? ⟨B4, 1, none⟩ = some (.int .i64 n4) ∧ w'.cell? ⟨B4, 2, none⟩ = some (.int .i64 i4) ∧ w'.cell? ⟨B4, 3, none⟩ = some (.int .i64 p4) ∧ w'.cell? ⟨B4, 4, none⟩ = some (.int .i64 k4) ∧ w'.cell? ⟨B4, 5, none⟩ = some (.int .i64 t4)) (hb : Below w'.heap.size w' w2) :
    Below w.heap.size w w2 ∧ B1 < w2.heap.size ∧ B2 < w2.heap.size ∧ B3 < w2.heap.size ∧ B4 < w2.heap.size ∧ w2.cell? ⟨B1, 0, none⟩ = some (.int .i64 a) ∧ w2.cell? ⟨B1, 1, none⟩ = some (.int .i64 n) ∧ w2.cell? ⟨B1, 2, none⟩ = some (.int .i64 i) ∧ w2.cell? ⟨B1, 3, none⟩ = some (.int .i64 p) ∧ w2.cell? ⟨B1, 4, none⟩ = some (.int .i64 k) ∧ w2.cell? ⟨B1, 5, none⟩ = some (.int .i64 t) ∧ w2.cell? ⟨B2, 0, none⟩ = some (.int .i64 b) ∧ w2.cell? ⟨B2, 1, none⟩ = some (.int .i64 m) ∧ w2.cell? ⟨B3, 0, none⟩ = some (.int .i64 a3) ∧ w2.cell? ⟨B3, 1, none⟩ = some (.int .i64 n3) ∧ w2.cell? ⟨B3, 2, none⟩ = some (.int .i64 i3) ∧ w2.cell? ⟨B3, 3, none⟩ = some (.int .i64 p3) ∧ w2.cell? ⟨B3, 4, none⟩ = some (.int .i64 k3) ∧ w2.cell? ⟨B3, 5, none⟩ = some (.int .i64 t3) ∧ w2.cell? ⟨B4, 0, none⟩ = some (.int .i64 a4) ∧ w2.cell? ⟨B4, 1, none⟩ = some (.int .i64 n4) ∧ w2.cell? ⟨B4, 2, none⟩ = some (.int .i64 i4) ∧ w2.cell? ⟨B4, 3, none⟩ = some (.int .i64 p4) ∧ w2.cell? ⟨B4, 4, none⟩ = some (.int .i64 k4) ∧ w2.cell? ⟨B4, 5, none⟩ = some (.int .i64 t4) := by
  obtain ⟨h0, r0, r1, r2, r3, c0, c1, c2, c3, c4, c5, c6, c7, c8, c9, c10, c11, c12, c13, c14, c15, c16, c17, c18, c19⟩ := h
  exact ⟨below_step h0 hb, Nat.lt_of_lt_of_le r0 hb.size, Nat.lt_of_lt_of_le r1 hb.size, Nat.lt_of_lt_of_le r2 hb.size, Nat.lt_of_lt_of_le r3 hb.size, (hb.cell (p := ⟨B1, 0, none⟩) r0).trans c0, (hb.cell (p := ⟨B1, 1, none⟩) r0).trans c1, (hb.cell (p := ⟨B1, 2, none⟩) r0).trans c2, (hb.cell (p := ⟨B1, 3, none⟩) r0).trans c3, (hb.cell (p := ⟨B1, 4, none⟩) r0).trans c4, (hb.cell (p := ⟨B1, 5, none⟩) r0).trans c5, (hb.cell (p := ⟨B2, 0, none⟩) r1).trans c6, (hb.cell (p := ⟨B2, 1, none⟩) r1).trans c7, (hb.cell (p := ⟨B3, 0, none⟩) r2).trans c8, (hb.cell (p := ⟨B3, 1, none⟩) r2).trans c9, (hb.cell (p := ⟨B3, 2, none⟩) r2).trans c10, (hb.cell (p := ⟨B3, 3, none⟩) r2).trans c11, (hb.cell (p := ⟨B3, 4, none⟩) r2).trans c12, (hb.cell (p := ⟨B3, 5, none⟩) r2).trans c13, (hb.cell (p := ⟨B4, 0, none⟩) r3).trans c14, (hb.cell (p := ⟨B4, 1, none⟩) r3).trans c15, (hb.cell (p := ⟨B4, 2, none⟩) r3).trans c16, (hb.cell (p := ⟨B4, 3, none⟩) r3).trans c17, (hb.cell (p := ⟨B4, 4, none⟩) r3).trans c18, (hb.cell (p := ⟨B4, 5, none⟩) r3).trans c19⟩
set_option maxHeartbeats 4000000 in
theorem fits_tt (a n i p k t b m x d : Int) (w : World)
    (cM : ∀ w, Calls Try.prog 16 #[.agg #[.int .i64 a, .int .i64 n, .int .i64 i, .int .i64 p, .int .i64 k, .int .i64 t]] w fun e w' => e = .returned (.bool true) ∧ Below w.heap.size w w')
    (cP : ∀ w, Calls Try.prog 22 #[.agg #[.int .i64 b, .int .i64 m]] w fun e w' => e = .returned (.bool true) ∧ Below w.heap.size w w')
    (hF : fitB a n i x d = true)
    (hAny : fitB a n (-1) x d = true)
    (hV : M.inB b m a n = true)
    (hH0 : M.hasB a n d = true)
    (hWide : fitB b m i x d = true) :
    Calls Try.prog 7 #[.agg #[.int .i64 a, .int .i64 n, .int .i64 i, .int .i64 p, .int .i64 k, .int .i64 t], .agg #[.int .i64 b, .int .i64 m], .int .i64 x, .int .i64 d] w fun e w' => e = .returned (.bool true) ∧ Below w.heap.size w w' := by
  have hn0 := below_new w (.cells #[.int .i64 a, .int .i64 n, .int .i64 i, .int .i64 p, .int .i64 k, .int .i64 t] 27)
  have X0 := Lies.new w [a, n, i, p, k, t] 27 (B := w.heap.size) rfl
  have hB := hn0
  have hn1 := below_new (w.alloc (.cells #[.int .i64 a, .int .i64 n, .int .i64 i, .int .i64 p, .int .i64 k, .int .i64 t] 27)) (.cells #[.int .i64 b, .int .i64 m] 23)
  have X1 := Lies.new (w.alloc (.cells #[.int .i64 a, .int .i64 n, .int .i64 i, .int .i64 p, .int .i64 k, .int .i64 t] 27)) [b, m] 23 (B := w.heap.size + 1) (by simp)
  replace X0 := X0.later hn1
  replace hB := below_step hB hn1
  clear hn0 hn1
  obtain ⟨x00, x01, x02, x03, x04, x05⟩ := X0.six
  obtain ⟨x10, x11⟩ := X1.two
  go_enter Try.func7, Try.ntmps7
  go_wp2_with fail
  refine (awake_any _).mono ?_
  rintro e w1 ⟨rfl, hb1⟩
  clear x00 x01 x02 x03 x04 x05
  clear x10 x11
  replace X0 := X0.later hb1
  replace X1 := X1.later hb1
  replace hB := below_step hB hb1
  clear hb1
  obtain ⟨x00, x01, x02, x03, x04, x05⟩ := X0.six
  obtain ⟨x10, x11⟩ := X1.two
  go_wp2_with fail
  refine (cM _).mono ?_
  rintro e w2 ⟨rfl, hb2⟩
  clear x00 x01 x02 x03 x04 x05
  clear x10 x11
  replace X0 := X0.later hb2
  replace X1 := X1.later hb2
  replace hB := below_step hB hb2
  clear hb2
  obtain ⟨x00, x01, x02, x03, x04, x05⟩ := X0.six
  obtain ⟨x10, x11⟩ := X1.two
  go_wp2_with fail
  refine (cP _).mono ?_
  rintro e w3 ⟨rfl, hb3⟩
  clear x00 x01 x02 x03 x04 x05
  clear x10 x11
  replace X0 := X0.later hb3
  replace X1 := X1.later hb3
  replace hB := below_step hB hb3
  clear hb3
  obtain ⟨x00, x01, x02, x03, x04, x05⟩ := X0.six
  obtain ⟨x10, x11⟩ := X1.two
  have hq0 := below_new w3 (.cells #[.int .i64 a, .int .i64 n, .int .i64 i, .int .i64 p, .int .i64 k, .int .i64 t] 27)
  obtain ⟨x0q0, x0q1, x0q2, x0q3, x0q4, x0q5⟩ := (X0.later hq0).six
  obtain ⟨x1q0, x1q1⟩ := (X1.later hq0).two
  clear hq0
  have hv0 := below_new w3 (.cells #[.int .i64 a, .int .i64 n, .int .i64 (-1), .int .i64 p, .int .i64 k, .int .i64 t] 27)
  replace X0 := X0.later hv0
  replace X1 := X1.later hv0
  replace hB := below_step hB hv0
  clear hv0
  have V0 := Lies.new w3 [a, n, -1, p, k, t] 27 (B := w3.heap.size) rfl
  obtain ⟨x00, x01, x02, x03, x04, x05⟩ := X0.six
  obtain ⟨x10, x11⟩ := X1.two
  obtain ⟨v00, v01, v02, v03, v04, v05⟩ := V0.six
  have hq1 := below_new (w3.alloc (.cells #[.int .i64 a, .int .i64 n, .int .i64 (-1), .int .i64 p, .int .i64 k, .int .i64 t] 27)) (.cells #[.int .i64 a, .int .i64 n, .int .i64 i, .int .i64 p, .int .i64 k, .int .i64 t] 27)
  obtain ⟨x0q0, x0q1, x0q2, x0q3, x0q4, x0q5⟩ := (X0.later hq1).six
  obtain ⟨x1q0, x1q1⟩ := (X1.later hq1).two
  obtain ⟨v0q0, v0q1, v0q2, v0q3, v0q4, v0q5⟩ := (V0.later hq1).six
  clear hq1
  have hv1 := below_new (w3.alloc (.cells #[.int .i64 a, .int .i64 n, .int .i64 (-1), .int .i64 p, .int .i64 k, .int .i64 t] 27)) (.cells #[.int .i64 b, .int .i64 m, .int .i64 i, .int .i64 p, .int .i64 k, .int .i64 t] 27)
  replace X0 := X0.later hv1
  replace X1 := X1.later hv1
  replace V0 := V0.later hv1
  replace hB := below_step hB hv1
  clear hv1
  have V1 := Lies.new (w3.alloc (.cells #[.int .i64 a, .int .i64 n, .int .i64 (-1), .int .i64 p, .int .i64 k, .int .i64 t] 27)) [b, m, i, p, k, t] 27 (B := w3.heap.size + 1) (by simp)
  obtain ⟨x00, x01, x02, x03, x04, x05⟩ := X0.six
  obtain ⟨x10, x11⟩ := X1.two
  obtain ⟨v00, v01, v02, v03, v04, v05⟩ := V0.six
  obtain ⟨v10, v11, v12, v13, v14, v15⟩ := V1.six
  have S0 : Below w.heap.size w ((w3.alloc (.cells #[.int .i64 a, .int .i64 n, .int .i64 (-1), .int .i64 p, .int .i64 k, .int .i64 t] 27)).alloc (.cells #[.int .i64 b, .int .i64 m, .int .i64 i, .int .i64 p, .int .i64 k, .int .i64 t] 27)).drew ∧ w.heap.size < ((w3.alloc (.cells #[.int .i64 a, .int .i64 n, .int .i64 (-1), .int .i64 p, .int .i64 k, .int .i64 t] 27)).alloc (.cells #[.int .i64 b, .int .i64 m, .int .i64 i, .int .i64 p, .int .i64 k, .int .i64 t] 27)).drew.heap.size ∧ w.heap.size + 1 < ((w3.alloc (.cells #[.int .i64 a, .int .i64 n, .int .i64 (-1), .int .i64 p, .int .i64 k, .int .i64 t] 27)).alloc (.cells #[.int .i64 b, .int .i64 m, .int .i64 i, .int .i64 p, .int .i64 k, .int .i64 t] 27)).drew.heap.size ∧ w3.heap.size < ((w3.alloc (.cells #[.int .i64 a, .int .i64 n, .int .i64 (-1), .int .i64 p, .int .i64 k, .int .i64 t] 27)).alloc (.cells #[.int .i64 b, .int .i64 m, .int .i64 i, .int .i64 p, .int .i64 k, .int .i64 t] 27)).drew.heap.size ∧ w3.heap.size + 1 < ((w3.alloc (.cells #[.int .i64 a, .int .i64 n, .int .i64 (-1), .int .i64 p, .int .i64 k, .int .i64 t] 27)).alloc (.cells #[.int .i64 b, .int .i64 m, .int .i64 i, .int .i64 p, .int .i64 k, .int .i64 t] 27)).drew.heap.size ∧ ((w3.alloc (.cells #[.int .i64 a, .int .i64 n, .int .i64 (-1), .int .i64 p, .int .i64 k, .int .i64 t] 27)).alloc (.cells #[.int .i64 b, .int .i64 m, .int .i64 i, .int .i64 p, .int .i64 k, .int .i64 t] 27)).drew.cell? ⟨w.heap.size, 0, none⟩ = some (.int .i64 a) ∧ ((w3.alloc (.cells #[.int .i64 a, .int .i64 n, .int .i64 (-1), .int .i64 p, .int .i64 k, .int .i64 t] 27)).alloc (.cells #[.int .i64 b, .int .i64 m, .int .i64 i, .int .i64 p, .int .i64 k, .int .i64 t] 27)).drew.cell? ⟨w.heap.size, 1, none⟩ = some (.int .i64 n) ∧ ((w3.alloc (.cells #[.int .i64 a, .int .i64 n, .int .i64 (-1), .int .i64 p, .int .i64 k, .int .i64 t] 27)).alloc (.cells #[.int .i64 b, .int .i64 m, .int .i64 i, .int .i64 p, .int .i64 k, .int .i64 t] 27)).drew.cell? ⟨w.heap.size, 2, none⟩ = some (.int .i64 i) ∧ ((w3.alloc (.cells #[.int .i64 a, .int .i64 n, .int .i64 (-1), .int .i64 p, .int .i64 k, .int .i64 t] 27)).alloc (.cells #[.int .i64 b, .int .i64 m, .int .i64 i, .int .i64 p, .int .i64 k, .int .i64 t] 27)).drew.cell? ⟨w.heap.size, 3, none⟩ = some (.int .i64 p) ∧ ((w3.alloc (.cells #[.int .i64 a, .int .i64 n, .int .i64 (-1), .int .i64 p, .int .i64 k, .int .i64 t] 27)).alloc (.cells #[.int .i64 b, .int .i64 m, .int .i64 i, .int .i64 p, .int .i64 k, .int .i64 t] 27)).drew.cell? ⟨w.heap.size, 4, none⟩ = some (.int .i64 k) ∧ ((w3.alloc (.cells #[.int .i64 a, .int .i64 n, .int .i64 (-1), .int .i64 p, .int .i64 k, .int .i64 t] 27)).alloc (.cells #[.int .i64 b, .int .i64 m, .int .i64 i, .int .i64 p, .int .i64 k, .int .i64 t] 27)).drew.cell? ⟨w.heap.size, 5, none⟩ = some (.int .i64 t) ∧ ((w3.alloc (.cells #[.int .i64 a, .int .i64 n, .int .i64 (-1), .int .i64 p, .int .i64 k, .int .i64 t] 27)).alloc (.cells #[.int .i64 b, .int .i64 m, .int .i64 i, .int .i64 p, .int .i64 k, .int .i64 t] 27)).drew.cell? ⟨w.heap.size + 1, 0, none⟩ = some (.int .i64 b) ∧ ((w3.alloc (.cells #[.int .i64 a, .int .i64 n, .int .i64 (-1), .int .i64 p, .int .i64 k, .int .i64 t] 27)).alloc (.cells #[.int .i64 b, .int .i64 m, .int .i64 i, .int .i64 p, .int .i64 k, .int .i64 t] 27)).drew.cell? ⟨w.heap.size + 1, 1, none⟩ = some (.int .i64 m) ∧ ((w3.alloc (.cells #[.int .i64 a, .int .i64 n, .int .i64 (-1), .int .i64 p, .int .i64 k, .int .i64 t] 27)).alloc (.cells #[.int .i64 b, .int .i64 m, .int .i64 i, .int .i64 p, .int .i64 k, .int .i64 t] 27)).drew.cell? ⟨w3.heap.size, 0, none⟩ = some (.int .i64 a) ∧ ((w3.alloc (.cells #[.int .i64 a, .int .i64 n, .int .i64 (-1), .int .i64 p, .int .i64 k, .int .i64 t] 27)).alloc (.cells #[.int .i64 b, .int .i64 m, .int .i64 i, .int .i64 p, .int .i64 k, .int .i64 t] 27)).drew.cell? ⟨w3.heap.size, 1, none⟩ = some (.int .i64 n) ∧ ((w3.alloc (.cells #[.int .i64 a, .int .i64 n, .int .i64 (-1), .int .i64 p, .int .i64 k, .int .i64 t] 27)).alloc (.cells #[.int .i64 b, .int .i64 m, .int .i64 i, .int .i64 p, .int .i64 k, .int .i64 t] 27)).drew.cell? ⟨w3.heap.size, 2, none⟩ = some (.int .i64 (-1)) ∧ ((w3.alloc (.cells #[.int .i64 a, .int .i64 n, .int .i64 (-1), .int .i64 p, .int .i64 k, .int .i64 t] 27)).alloc (.cells #[.int .i64 b, .int .i64 m, .int .i64 i, .int .i64 p, .int .i64 k, .int .i64 t] 27)).drew.cell? ⟨w3.heap.size, 3, none⟩ = some (.int .i64 p) ∧ ((w3.alloc (.cells #[.int .i64 a, .int .i64 n, .int .i64 (-1), .int .i64 p, .int .i64 k, .int .i64 t] 27)).alloc (.cells #[.int .i64 b, .int .i64 m, .int .i64 i, .int .i64 p, .int .i64 k, .int .i64 t] 27)).drew.cell? ⟨w3.heap.size, 4, none⟩ = some (.int .i64 k) ∧ ((w3.alloc (.cells #[.int .i64 a, .int .i64 n, .int .i64 (-1), .int .i64 p, .int .i64 k, .int .i64 t] 27)).alloc (.cells #[.int .i64 b, .int .i64 m, .int .i64 i, .int .i64 p, .int .i64 k, .int .i64 t] 27)).drew.cell? ⟨w3.heap.size, 5, none⟩ = some (.int .i64 t) ∧ ((w3.alloc (.cells #[.int .i64 a, .int .i64 n, .int .i64 (-1), .int .i64 p, .int .i64 k, .int .i64 t] 27)).alloc (.cells #[.int .i64 b, .int .i64 m, .int .i64 i, .int .i64 p, .int .i64 k, .int .i64 t] 27)).drew.cell? ⟨w3.heap.size + 1, 0, none⟩ = some (.int .i64 b) ∧ ((w3.alloc (.cells #[.int .i64 a, .int .i64 n, .int .i64 (-1), .int .i64 p, .int .i64 k, .int .i64 t] 27)).alloc (.cells #[.int .i64 b, .int .i64 m, .int .i64 i, .int .i64 p, .int .i64 k, .int .i64 t] 27)).drew.cell? ⟨w3.heap.size + 1, 1, none⟩ = some (.int .i64 m) ∧ ((w3.alloc (.cells #[.int .i64 a, .int .i64 n, .int .i64 (-1), .int .i64 p, .int .i64 k, .int .i64 t] 27)).alloc (.cells #[.int .i64 b, .int .i64 m, .int .i64 i, .int .i64 p, .int .i64 k, .int .i64 t] 27)).drew.cell? ⟨w3.heap.size + 1, 2, none⟩ = some (.int .i64 i) ∧ ((w3.alloc (.cells #[.int .i64 a, .int .i64 n, .int .i64 (-1), .int .i64 p, .int .i64 k, .int .i64 t] 27)).alloc (.cells #[.int .i64 b, .int .i64 m, .int .i64 i, .int .i64 p, .int .i64 k, .int .i64 t] 27)).drew.cell? ⟨w3.heap.size + 1, 3, none⟩ = some (.int .i64 p) ∧ ((w3.alloc (.cells #[.int .i64 a, .int .i64 n, .int .i64 (-1), .int .i64 p, .int .i64 k, .int .i64 t] 27)).alloc (.cells #[.int .i64 b, .int .i64 m, .int .i64 i, .int .i64 p, .int .i64 k, .int .i64 t] 27)).drew.cell? ⟨w3.heap.size + 1, 4, none⟩ = some (.int .i64 k) ∧ ((w3.alloc (.cells #[.int .i64 a, .int .i64 n, .int .i64 (-1), .int .i64 p, .int .i64 k, .int .i64 t] 27)).alloc (.cells #[.int .i64 b, .int .i64 m, .int .i64 i, .int .i64 p, .int .i64 k, .int .i64 t] 27)).drew.cell? ⟨w3.heap.size + 1, 5, none⟩ = some (.int .i64 t) := ⟨hB.drew, X0.lt, X1.lt, V0.lt, V1.lt, x00, x01, x02, x03, x04, x05, x10, x11, v00, v01, v02, v03, v04, v05, v10, v11, v12, v13, v14, v15⟩
  clear X0 X1 V0 V1
  go_wp2_with fail
  refine wp_region_noPanic ?_
  refine wp_region_held_drew (S := fun w' => Below w.heap.size w w' ∧ w.heap.size < w'.heap.size ∧ w.heap.size + 1 < w'.heap.size ∧ w3.heap.size < w'.heap.size ∧ w3.heap.size + 1 < w'.heap.size ∧ w'.cell? ⟨w.heap.size, 0, none⟩ = some (.int .i64 a) ∧ w'.cell? ⟨w.heap.size, 1, none⟩ = some (.int .i64 n) ∧ w'.cell? ⟨w.heap.size, 2, none⟩ = some (.int .i64 i) ∧ w'.cell? ⟨w.heap.size, 3, none⟩ = some (.int .i64 p) ∧ w'.cell? ⟨w.heap.size, 4, none⟩ = some (.int .i64 k) ∧ w'.cell? ⟨w.heap.size, 5, none⟩ = some (.int .i64 t) ∧ w'.cell? ⟨w.heap.size + 1, 0, none⟩ = some (.int .i64 b) ∧ w'.cell? ⟨w.heap.size + 1, 1, none⟩ = some (.int .i64 m) ∧ w'.cell? ⟨w3.heap.size, 0, none⟩ = some (.int .i64 a) ∧ w'.cell? ⟨w3.heap.size, 1, none⟩ = some (.int .i64 n) ∧ w'.cell? ⟨w3.heap.size, 2, none⟩ = some (.int .i64 (-1)) ∧ w'.cell? ⟨w3.heap.size, 3, none⟩ = some (.int .i64 p) ∧ w'.cell? ⟨w3.heap.size, 4, none⟩ = some (.int .i64 k) ∧ w'.cell? ⟨w3.heap.size, 5, none⟩ = some (.int .i64 t) ∧ w'.cell? ⟨w3.heap.size + 1, 0, none⟩ = some (.int .i64 b) ∧ w'.cell? ⟨w3.heap.size + 1, 1, none⟩ = some (.int .i64 m) ∧ w'.cell? ⟨w3.heap.size + 1, 2, none⟩ = some (.int .i64 i) ∧ w'.cell? ⟨w3.heap.size + 1, 3, none⟩ = some (.int .i64 p) ∧ w'.cell? ⟨w3.heap.size + 1, 4, none⟩ = some (.int .i64 k) ∧ w'.cell? ⟨w3.heap.size + 1, 5, none⟩ = some (.int .i64 t)) (by kernel_rfl) S0 (fun hH => ?_)
  clear S0 hB x00 x01 x02 x03 x04 x05 x10 x11 v00 v01 v02 v03 v04 v05 v10 v11 v12 v13 v14 v15 x0q0 x0q1 x0q2 x0q3 x0q4 x0q5 x1q0 x1q1
  refine wpAnyH_take (i := 0) (oi := { dst := some 31, op := Op.load 27 (Operand.tmp 4), type := 27, pos := "law.go:86", after := _, guard := none }) (v := ?_) rfl (by kernel_rfl) (by kernel_rfl) (by kernel_rfl) (fun _ _ _ h => h) (Or.inl ⟨by rfl, ?_⟩) hH ?_
  rotate_left
  · intro wz hSw
    (try dsimp only at hSw)
    first | (go_simp; done) | (go_simp; with_reducible rfl)
  try simp only [Act.put, List.setIfInBounds_toArray, List.set_cons_zero, List.set_cons_succ]
  refine wpAnyH_take (i := 1) (oi := { dst := some 32, op := Op.move (Operand.tmp 2), type := 3, pos := "law.go:86", after := _, guard := none }) (v := ?_) rfl (by kernel_rfl) (by kernel_rfl) (by kernel_rfl) (fun _ _ _ h => h) (Or.inl ⟨by rfl, ?_⟩) hH ?_
  rotate_left
  · intro wz hSw
    (try dsimp only at hSw)
    first | (go_simp; done) | (go_simp; with_reducible rfl)
  try simp only [Act.put, List.setIfInBounds_toArray, List.set_cons_zero, List.set_cons_succ]
  refine wpAnyH_take (i := 2) (oi := { dst := some 33, op := Op.move (Operand.tmp 3), type := 3, pos := "law.go:86", after := _, guard := none }) (v := ?_) rfl (by kernel_rfl) (by kernel_rfl) (by kernel_rfl) (fun _ _ _ h => h) (Or.inl ⟨by rfl, ?_⟩) hH ?_
  rotate_left
  · intro wz hSw
    (try dsimp only at hSw)
    first | (go_simp; done) | (go_simp; with_reducible rfl)
  try simp only [Act.put, List.setIfInBounds_toArray, List.set_cons_zero, List.set_cons_succ]
  refine wpAnyH_ready (rs := [3]) (by kernel_rfl) (by simp) ?_
  refine AllReadyH.cons (o := { dst := some 34, op := Op.call { callee := Callee.value (Operand.func 17), args := #[Operand.tmp 31, Operand.tmp 32, Operand.tmp 33], argTypes := #[27, 3, 3] }, type := 4, pos := "law.go:86", after := _, guard := none }) rfl (fun K hK => ?_) AllReadyH.nil
  go_simp
  refine (ruFits_any a n i p k t x d _).mono ?_
  rw [hF]
  rintro e wq3 ⟨rfl, hbq⟩
  go_wp2_with fail
  refine hK.out _ _ (kept_fits hH hbq) (fun hH2 => ?_)
  clear hK K hH hbq
  have hH := hH2
  clear hH2
  try simp only [Act.put, List.setIfInBounds_toArray, List.set_cons_zero, List.set_cons_succ]
  refine wpAnyH_take (i := 4) (oi := { dst := some 35, op := Op.unOp UnOp.not 4 (Operand.tmp 34), type := 4, pos := "law.go:86", after := _, guard := none }) (v := ?_) rfl (by kernel_rfl) (by kernel_rfl) (by kernel_rfl) (fun _ _ _ h => h) (Or.inl ⟨by rfl, ?_⟩) hH ?_
  rotate_left
  · intro wz hSw
    (try dsimp only at hSw)
    first | (go_simp; done) | (go_simp; with_reducible rfl)
  try simp only [Act.put, List.setIfInBounds_toArray, List.set_cons_zero, List.set_cons_succ]
  refine wpAnyH_take (i := 5) (oi := { dst := some 36, op := Op.move (Operand.tmp 35), type := 4, pos := "law.go:86", after := _, guard := none }) (v := ?_) rfl (by kernel_rfl) (by kernel_rfl) (by kernel_rfl) (fun _ _ _ h => h) (Or.inl ⟨by rfl, ?_⟩) hH ?_
  rotate_left
  · intro wz hSw
    (try dsimp only at hSw)
    first | (go_simp; done) | (go_simp; with_reducible rfl)
  try simp only [Act.put, List.setIfInBounds_toArray, List.set_cons_zero, List.set_cons_succ]
  refine wpAnyH_take (i := 6) (oi := { dst := some 37, op := Op.load 27 (Operand.tmp 10), type := 27, pos := "law.go:86", after := _, guard := some (5, false) }) (v := ?_) rfl (by kernel_rfl) (by kernel_rfl) (by kernel_rfl) (fun _ _ _ h => h) (Or.inl ⟨by rfl, ?_⟩) hH ?_
  rotate_left
  · intro wz hSw
    (try dsimp only at hSw)
    first | (go_simp; done) | (go_simp; with_reducible rfl)
  try simp only [Act.put, List.setIfInBounds_toArray, List.set_cons_zero, List.set_cons_succ]
  refine wpAnyH_take (i := 7) (oi := { dst := some 38, op := Op.move (Operand.tmp 2), type := 3, pos := "law.go:86", after := _, guard := some (5, false) }) (v := ?_) rfl (by kernel_rfl) (by kernel_rfl) (by kernel_rfl) (fun _ _ _ h => h) (Or.inl ⟨by rfl, ?_⟩) hH ?_
  rotate_left
  · intro wz hSw
    (try dsimp only at hSw)
    first | (go_simp; done) | (go_simp; with_reducible rfl)
  try simp only [Act.put, List.setIfInBounds_toArray, List.set_cons_zero, List.set_cons_succ]
  refine wpAnyH_take (i := 8) (oi := { dst := some 39, op := Op.move (Operand.tmp 3), type := 3, pos := "law.go:86", after := _, guard := some (5, false) }) (v := ?_) rfl (by kernel_rfl) (by kernel_rfl) (by kernel_rfl) (fun _ _ _ h => h) (Or.inl ⟨by rfl, ?_⟩) hH ?_
  rotate_left
  · intro wz hSw
    (try dsimp only at hSw)
    first | (go_simp; done) | (go_simp; with_reducible rfl)
  try simp only [Act.put, List.setIfInBounds_toArray, List.set_cons_zero, List.set_cons_succ]
  refine wpAnyH_ready (rs := [9]) (by kernel_rfl) (by simp) ?_
  refine AllReadyH.cons (o := { dst := some 40, op := Op.call { callee := Callee.value (Operand.func 17), args := #[Operand.tmp 37, Operand.tmp 38, Operand.tmp 39], argTypes := #[27, 3, 3] }, type := 4, pos := "law.go:86", after := _, guard := some (5, false) }) rfl (fun K hK => ?_) AllReadyH.nil
  go_simp
  refine (ruFits_any a n (-1) p k t x d _).mono ?_
  rw [hAny]
  rintro e wq9 ⟨rfl, hbq⟩
  go_wp2_with fail
  refine hK.out _ _ (kept_fits hH hbq) (fun hH2 => ?_)
  clear hK K hH hbq
  have hH := hH2
  clear hH2
  try simp only [Act.put, List.setIfInBounds_toArray, List.set_cons_zero, List.set_cons_succ]
  refine wpAnyH_take (i := 10) (oi := { dst := some 41, op := Op.pick (Operand.tmp 36) (Operand.const (Value.bool true)) (Operand.tmp 40), type := 4, pos := "law.go:86", after := _, guard := none }) (v := ?_) rfl (by kernel_rfl) (by kernel_rfl) (by kernel_rfl) (fun _ _ _ h => h) (Or.inl ⟨by rfl, ?_⟩) hH ?_
  rotate_left
  · intro wz hSw
    (try dsimp only at hSw)
    first | (go_simp; done) | (go_simp; with_reducible rfl)
  try simp only [Act.put, List.setIfInBounds_toArray, List.set_cons_zero, List.set_cons_succ]
  refine wpAnyH_take (i := 11) (oi := { dst := some 42, op := Op.move (Operand.tmp 41), type := 4, pos := "law.go:86", after := _, guard := none }) (v := ?_) rfl (by kernel_rfl) (by kernel_rfl) (by kernel_rfl) (fun _ _ _ h => h) (Or.inl ⟨by rfl, ?_⟩) hH ?_
  rotate_left
  · intro wz hSw
    (try dsimp only at hSw)
    first | (go_simp; done) | (go_simp; with_reducible rfl)
  try simp only [Act.put, List.setIfInBounds_toArray, List.set_cons_zero, List.set_cons_succ]
  refine wpAnyH_take (i := 12) (oi := { dst := some 43, op := Op.load 23 (Operand.tmp 5), type := 23, pos := "law.go:86", after := _, guard := some (11, true) }) (v := ?_) rfl (by kernel_rfl) (by kernel_rfl) (by kernel_rfl) (fun _ _ _ h => h) (Or.inl ⟨by rfl, ?_⟩) hH ?_
  rotate_left
  · intro wz hSw
    (try dsimp only at hSw)
    first | (go_simp; done) | (go_simp; with_reducible rfl)
  try simp only [Act.put, List.setIfInBounds_toArray, List.set_cons_zero, List.set_cons_succ]
  refine wpAnyH_take (i := 13) (oi := { dst := some 44, op := Op.fieldAddr 27 (Operand.tmp 4) 0, type := 0, pos := "law.go:86", after := _, guard := some (11, true) }) (v := ?_) rfl (by kernel_rfl) (by kernel_rfl) (by kernel_rfl) (fun _ _ _ h => h) (Or.inl ⟨by rfl, ?_⟩) hH ?_
  rotate_left
  · intro wz hSw
    (try dsimp only at hSw)
    first | (go_simp; done) | (go_simp; with_reducible rfl)
  try simp only [Act.put, List.setIfInBounds_toArray, List.set_cons_zero, List.set_cons_succ]
  refine wpAnyH_take (i := 14) (oi := { dst := some 45, op := Op.load 23 (Operand.tmp 44), type := 23, pos := "law.go:86", after := _, guard := some (11, true) }) (v := ?_) rfl (by kernel_rfl) (by kernel_rfl) (by kernel_rfl) (fun _ _ _ h => h) (Or.inl ⟨by rfl, ?_⟩) hH ?_
  rotate_left
  · intro wz hSw
    (try dsimp only at hSw)
    first | (go_simp; done) | (go_simp; with_reducible rfl)
  try simp only [Act.put, List.setIfInBounds_toArray, List.set_cons_zero, List.set_cons_succ]
  refine wpAnyH_ready (rs := [15]) (by kernel_rfl) (by simp) ?_
  refine AllReadyH.cons (o := { dst := some 46, op := Op.call { callee := Callee.value (Operand.func 23), args := #[Operand.tmp 43, Operand.tmp 45], argTypes := #[23, 23] }, type := 4, pos := "law.go:86", after := _, guard := some (11, true) }) rfl (fun K hK => ?_) AllReadyH.nil
  go_simp
  refine (within_any b m a n _).mono ?_
  rw [hV]
  rintro e wq15 ⟨rfl, hbq⟩
  go_wp2_with fail
  refine hK.out _ _ (kept_fits hH hbq) (fun hH2 => ?_)
  clear hK K hH hbq
  have hH := hH2
  clear hH2
  try simp only [Act.put, List.setIfInBounds_toArray, List.set_cons_zero, List.set_cons_succ]
  refine wpAnyH_take (i := 16) (oi := { dst := some 47, op := Op.unOp UnOp.not 4 (Operand.tmp 46), type := 4, pos := "law.go:86", after := _, guard := some (11, true) }) (v := ?_) rfl (by kernel_rfl) (by kernel_rfl) (by kernel_rfl) (fun _ _ _ h => h) (Or.inl ⟨by rfl, ?_⟩) hH ?_
  rotate_left
  · intro wz hSw
    (try dsimp only at hSw)
    first | (go_simp; done) | (go_simp; with_reducible rfl)
  try simp only [Act.put, List.setIfInBounds_toArray, List.set_cons_zero, List.set_cons_succ]
  refine wpAnyH_take (i := 17) (oi := { dst := some 48, op := Op.move (Operand.tmp 47), type := 4, pos := "law.go:86", after := _, guard := some (11, true) }) (v := ?_) rfl (by kernel_rfl) (by kernel_rfl) (by kernel_rfl) (fun _ _ _ h => h) (Or.inl ⟨by rfl, ?_⟩) hH ?_
  rotate_left
  · intro wz hSw
    (try dsimp only at hSw)
    first | (go_simp; done) | (go_simp; with_reducible rfl)
  try simp only [Act.put, List.setIfInBounds_toArray, List.set_cons_zero, List.set_cons_succ]
  refine wpAnyH_take (i := 18) (oi := { dst := some 49, op := Op.load 27 (Operand.tmp 4), type := 27, pos := "law.go:86", after := _, guard := some (17, false) }) (v := ?_) rfl (by kernel_rfl) (by kernel_rfl) (by kernel_rfl) (fun _ _ _ h => h) (Or.inl ⟨by rfl, ?_⟩) hH ?_
  rotate_left
  · intro wz hSw
    (try dsimp only at hSw)
    first | (go_simp; done) | (go_simp; with_reducible rfl)
  try simp only [Act.put, List.setIfInBounds_toArray, List.set_cons_zero, List.set_cons_succ]
  refine wpAnyH_take (i := 19) (oi := { dst := some 50, op := Op.move (Operand.tmp 2), type := 3, pos := "law.go:86", after := _, guard := some (17, false) }) (v := ?_) rfl (by kernel_rfl) (by kernel_rfl) (by kernel_rfl) (fun _ _ _ h => h) (Or.inl ⟨by rfl, ?_⟩) hH ?_
  rotate_left
  · intro wz hSw
    (try dsimp only at hSw)
    first | (go_simp; done) | (go_simp; with_reducible rfl)
  try simp only [Act.put, List.setIfInBounds_toArray, List.set_cons_zero, List.set_cons_succ]
  refine wpAnyH_take (i := 20) (oi := { dst := some 51, op := Op.move (Operand.tmp 3), type := 3, pos := "law.go:86", after := _, guard := some (17, false) }) (v := ?_) rfl (by kernel_rfl) (by kernel_rfl) (by kernel_rfl) (fun _ _ _ h => h) (Or.inl ⟨by rfl, ?_⟩) hH ?_
  rotate_left
  · intro wz hSw
    (try dsimp only at hSw)
    first | (go_simp; done) | (go_simp; with_reducible rfl)
  try simp only [Act.put, List.setIfInBounds_toArray, List.set_cons_zero, List.set_cons_succ]
  refine wpAnyH_ready (rs := [21]) (by kernel_rfl) (by simp) ?_
  refine AllReadyH.cons (o := { dst := some 52, op := Op.call { callee := Callee.value (Operand.func 17), args := #[Operand.tmp 49, Operand.tmp 50, Operand.tmp 51], argTypes := #[27, 3, 3] }, type := 4, pos := "law.go:86", after := _, guard := some (17, false) }) rfl (fun K hK => ?_) AllReadyH.nil
  go_simp
  refine (ruFits_any a n i p k t x d _).mono ?_
  rw [hF]
  rintro e wq21 ⟨rfl, hbq⟩
  go_wp2_with fail
  refine hK.out _ _ (kept_fits hH hbq) (fun hH2 => ?_)
  clear hK K hH hbq
  have hH := hH2
  clear hH2
  try simp only [Act.put, List.setIfInBounds_toArray, List.set_cons_zero, List.set_cons_succ]
  refine wpAnyH_take (i := 22) (oi := { dst := some 53, op := Op.unOp UnOp.not 4 (Operand.tmp 52), type := 4, pos := "law.go:86", after := _, guard := some (17, false) }) (v := ?_) rfl (by kernel_rfl) (by kernel_rfl) (by kernel_rfl) (fun _ _ _ h => h) (Or.inl ⟨by rfl, ?_⟩) hH ?_
  rotate_left
  · intro wz hSw
    (try dsimp only at hSw)
    first | (go_simp; done) | (go_simp; with_reducible rfl)
  try simp only [Act.put, List.setIfInBounds_toArray, List.set_cons_zero, List.set_cons_succ]
  refine wpAnyH_take (i := 23) (oi := { dst := some 54, op := Op.pick (Operand.tmp 48) (Operand.const (Value.bool true)) (Operand.tmp 53), type := 4, pos := "law.go:86", after := _, guard := some (11, true) }) (v := ?_) rfl (by kernel_rfl) (by kernel_rfl) (by kernel_rfl) (fun _ _ _ h => h) (Or.inl ⟨by rfl, ?_⟩) hH ?_
  rotate_left
  · intro wz hSw
    (try dsimp only at hSw)
    first | (go_simp; done) | (go_simp; with_reducible rfl)
  try simp only [Act.put, List.setIfInBounds_toArray, List.set_cons_zero, List.set_cons_succ]
  refine wpAnyH_take (i := 24) (oi := { dst := some 55, op := Op.move (Operand.tmp 54), type := 4, pos := "law.go:86", after := _, guard := some (11, true) }) (v := ?_) rfl (by kernel_rfl) (by kernel_rfl) (by kernel_rfl) (fun _ _ _ h => h) (Or.inl ⟨by rfl, ?_⟩) hH ?_
  rotate_left
  · intro wz hSw
    (try dsimp only at hSw)
    first | (go_simp; done) | (go_simp; with_reducible rfl)
  try simp only [Act.put, List.setIfInBounds_toArray, List.set_cons_zero, List.set_cons_succ]
  refine wpAnyH_take (i := 25) (oi := { dst := some 56, op := Op.load 27 (Operand.tmp 11), type := 27, pos := "law.go:86", after := _, guard := some (24, false) }) (v := ?_) rfl (by kernel_rfl) (by kernel_rfl) (by kernel_rfl) (fun _ _ _ h => h) (Or.inl ⟨by rfl, ?_⟩) hH ?_
  rotate_left
  · intro wz hSw
    (try dsimp only at hSw)
    first | (go_simp; done) | (go_simp; with_reducible rfl)
  try simp only [Act.put, List.setIfInBounds_toArray, List.set_cons_zero, List.set_cons_succ]
  refine wpAnyH_take (i := 26) (oi := { dst := some 57, op := Op.move (Operand.tmp 2), type := 3, pos := "law.go:86", after := _, guard := some (24, false) }) (v := ?_) rfl (by kernel_rfl) (by kernel_rfl) (by kernel_rfl) (fun _ _ _ h => h) (Or.inl ⟨by rfl, ?_⟩) hH ?_
  rotate_left
  · intro wz hSw
    (try dsimp only at hSw)
    first | (go_simp; done) | (go_simp; with_reducible rfl)
  try simp only [Act.put, List.setIfInBounds_toArray, List.set_cons_zero, List.set_cons_succ]
  refine wpAnyH_take (i := 27) (oi := { dst := some 58, op := Op.move (Operand.tmp 3), type := 3, pos := "law.go:86", after := _, guard := some (24, false) }) (v := ?_) rfl (by kernel_rfl) (by kernel_rfl) (by kernel_rfl) (fun _ _ _ h => h) (Or.inl ⟨by rfl, ?_⟩) hH ?_
  rotate_left
  · intro wz hSw
    (try dsimp only at hSw)
    first | (go_simp; done) | (go_simp; with_reducible rfl)
  try simp only [Act.put, List.setIfInBounds_toArray, List.set_cons_zero, List.set_cons_succ]
  refine wpAnyH_ready (rs := [28]) (by kernel_rfl) (by simp) ?_
  refine AllReadyH.cons (o := { dst := some 59, op := Op.call { callee := Callee.value (Operand.func 17), args := #[Operand.tmp 56, Operand.tmp 57, Operand.tmp 58], argTypes := #[27, 3, 3] }, type := 4, pos := "law.go:86", after := _, guard := some (24, false) }) rfl (fun K hK => ?_) AllReadyH.nil
  go_simp
  refine (ruFits_any b m i p k t x d _).mono ?_
  rw [hWide]
  rintro e wq28 ⟨rfl, hbq⟩
  go_wp2_with fail
  refine hK.out _ _ (kept_fits hH hbq) (fun hH2 => ?_)
  clear hK K hH hbq
  have hH := hH2
  clear hH2
  try simp only [Act.put, List.setIfInBounds_toArray, List.set_cons_zero, List.set_cons_succ]
  refine wpAnyH_take (i := 29) (oi := { dst := some 60, op := Op.pick (Operand.tmp 55) (Operand.const (Value.bool true)) (Operand.tmp 59), type := 4, pos := "law.go:86", after := _, guard := some (11, true) }) (v := ?_) rfl (by kernel_rfl) (by kernel_rfl) (by kernel_rfl) (fun _ _ _ h => h) (Or.inl ⟨by rfl, ?_⟩) hH ?_
  rotate_left
  · intro wz hSw
    (try dsimp only at hSw)
    first | (go_simp; done) | (go_simp; with_reducible rfl)
  try simp only [Act.put, List.setIfInBounds_toArray, List.set_cons_zero, List.set_cons_succ]
  refine wpAnyH_take (i := 30) (oi := { dst := some 61, op := Op.pick (Operand.tmp 42) (Operand.tmp 60) (Operand.const (Value.bool false)), type := 4, pos := "law.go:86", after := _, guard := none }) (v := ?_) rfl (by kernel_rfl) (by kernel_rfl) (by kernel_rfl) (fun _ _ _ h => h) (Or.inl ⟨by rfl, ?_⟩) hH ?_
  rotate_left
  · intro wz hSw
    (try dsimp only at hSw)
    first | (go_simp; done) | (go_simp; with_reducible rfl)
  try simp only [Act.put, List.setIfInBounds_toArray, List.set_cons_zero, List.set_cons_succ]
  refine wpAnyH_take (i := 31) (oi := { dst := some 62, op := Op.move (Operand.tmp 61), type := 4, pos := "law.go:86", after := _, guard := none }) (v := ?_) rfl (by kernel_rfl) (by kernel_rfl) (by kernel_rfl) (fun _ _ _ h => h) (Or.inl ⟨by rfl, ?_⟩) hH ?_
  rotate_left
  · intro wz hSw
    (try dsimp only at hSw)
    first | (go_simp; done) | (go_simp; with_reducible rfl)
  try simp only [Act.put, List.setIfInBounds_toArray, List.set_cons_zero, List.set_cons_succ]
  refine wpAnyH_take (i := 32) (oi := { dst := some 63, op := Op.load 27 (Operand.tmp 10), type := 27, pos := "law.go:86", after := _, guard := some (31, true) }) (v := ?_) rfl (by kernel_rfl) (by kernel_rfl) (by kernel_rfl) (fun _ _ _ h => h) (Or.inl ⟨by rfl, ?_⟩) hH ?_
  rotate_left
  · intro wz hSw
    (try dsimp only at hSw)
    first | (go_simp; done) | (go_simp; with_reducible rfl)
  try simp only [Act.put, List.setIfInBounds_toArray, List.set_cons_zero, List.set_cons_succ]
  refine wpAnyH_take (i := 33) (oi := { dst := some 64, op := Op.move (Operand.tmp 2), type := 3, pos := "law.go:86", after := _, guard := some (31, true) }) (v := ?_) rfl (by kernel_rfl) (by kernel_rfl) (by kernel_rfl) (fun _ _ _ h => h) (Or.inl ⟨by rfl, ?_⟩) hH ?_
  rotate_left
  · intro wz hSw
    (try dsimp only at hSw)
    first | (go_simp; done) | (go_simp; with_reducible rfl)
  try simp only [Act.put, List.setIfInBounds_toArray, List.set_cons_zero, List.set_cons_succ]
  refine wpAnyH_take (i := 34) (oi := { dst := some 65, op := Op.move (Operand.tmp 3), type := 3, pos := "law.go:86", after := _, guard := some (31, true) }) (v := ?_) rfl (by kernel_rfl) (by kernel_rfl) (by kernel_rfl) (fun _ _ _ h => h) (Or.inl ⟨by rfl, ?_⟩) hH ?_
  rotate_left
  · intro wz hSw
    (try dsimp only at hSw)
    first | (go_simp; done) | (go_simp; with_reducible rfl)
  try simp only [Act.put, List.setIfInBounds_toArray, List.set_cons_zero, List.set_cons_succ]
  refine wpAnyH_take (i := 36) (oi := { dst := some 67, op := Op.fieldAddr 27 (Operand.tmp 4) 0, type := 0, pos := "law.go:86", after := _, guard := some (31, true) }) (v := ?_) rfl (by kernel_rfl) (by kernel_rfl) (by kernel_rfl) (fun _ _ _ h => h) (Or.inl ⟨by rfl, ?_⟩) hH ?_
  rotate_left
  · intro wz hSw
    (try dsimp only at hSw)
    first | (go_simp; done) | (go_simp; with_reducible rfl)
  try simp only [Act.put, List.setIfInBounds_toArray, List.set_cons_zero, List.set_cons_succ]
  refine wpAnyH_take (i := 37) (oi := { dst := some 68, op := Op.load 23 (Operand.tmp 67), type := 23, pos := "law.go:86", after := _, guard := some (31, true) }) (v := ?_) rfl (by kernel_rfl) (by kernel_rfl) (by kernel_rfl) (fun _ _ _ h => h) (Or.inl ⟨by rfl, ?_⟩) hH ?_
  rotate_left
  · intro wz hSw
    (try dsimp only at hSw)
    first | (go_simp; done) | (go_simp; with_reducible rfl)
  try simp only [Act.put, List.setIfInBounds_toArray, List.set_cons_zero, List.set_cons_succ]
  refine wpAnyH_take (i := 38) (oi := { dst := some 69, op := Op.move (Operand.tmp 3), type := 3, pos := "law.go:86", after := _, guard := some (31, true) }) (v := ?_) rfl (by kernel_rfl) (by kernel_rfl) (by kernel_rfl) (fun _ _ _ h => h) (Or.inl ⟨by rfl, ?_⟩) hH ?_
  rotate_left
  · intro wz hSw
    (try dsimp only at hSw)
    first | (go_simp; done) | (go_simp; with_reducible rfl)
  try simp only [Act.put, List.setIfInBounds_toArray, List.set_cons_zero, List.set_cons_succ]
  refine wpAnyH_ready (rs := [35]) (by kernel_rfl) (by simp) ?_
  refine AllReadyH.cons (o := { dst := some 66, op := Op.call { callee := Callee.value (Operand.func 17), args := #[Operand.tmp 63, Operand.tmp 64, Operand.tmp 65], argTypes := #[27, 3, 3] }, type := 4, pos := "law.go:86", after := _, guard := some (31, true) }) rfl (fun K hK => ?_) AllReadyH.nil
  go_simp
  refine (ruFits_any a n (-1) p k t x d _).mono ?_
  rw [hAny]
  rintro e wq35 ⟨rfl, hbq⟩
  go_wp2_with fail
  refine hK.out _ _ (kept_fits hH hbq) (fun hH2 => ?_)
  clear hK K hH hbq
  have hH := hH2
  clear hH2
  try simp only [Act.put, List.setIfInBounds_toArray, List.set_cons_zero, List.set_cons_succ]
  refine wpAnyH_ready (rs := [39]) (by kernel_rfl) (by simp) ?_
  refine AllReadyH.cons (o := { dst := some 70, op := Op.call { callee := Callee.value (Operand.func 24), args := #[Operand.tmp 68, Operand.tmp 69], argTypes := #[23, 3] }, type := 4, pos := "law.go:86", after := _, guard := some (31, true) }) rfl (fun K hK => ?_) AllReadyH.nil
  go_simp
  refine (has_any a n d _).mono ?_
  rw [hH0]
  rintro e wq39 ⟨rfl, hbq⟩
  go_wp2_with fail
  refine hK.out _ _ (kept_fits hH hbq) (fun hH2 => ?_)
  clear hK K hH hbq
  have hH := hH2
  clear hH2
  try simp only [Act.put, List.setIfInBounds_toArray, List.set_cons_zero, List.set_cons_succ]
  refine wpAnyH_take (i := 40) (oi := { dst := some 71, op := Op.binOp BinOp.eql 4 (Operand.tmp 66) (Operand.tmp 70) 4, type := 4, pos := "law.go:86", after := _, guard := some (31, true) }) (v := ?_) rfl (by kernel_rfl) (by kernel_rfl) (by kernel_rfl) (fun _ _ _ h => h) (Or.inl ⟨by rfl, ?_⟩) hH ?_
  rotate_left
  · intro wz hSw
    (try dsimp only at hSw)
    first | (go_simp; done) | (go_simp; with_reducible rfl)
  try simp only [Act.put, List.setIfInBounds_toArray, List.set_cons_zero, List.set_cons_succ]
  refine wpAnyH_take (i := 41) (oi := { dst := some 72, op := Op.pick (Operand.tmp 62) (Operand.tmp 71) (Operand.const (Value.bool false)), type := 4, pos := "law.go:86", after := _, guard := none }) (v := ?_) rfl (by kernel_rfl) (by kernel_rfl) (by kernel_rfl) (fun _ _ _ h => h) (Or.inl ⟨by rfl, ?_⟩) hH ?_
  rotate_left
  · intro wz hSw
    (try dsimp only at hSw)
    first | (go_simp; done) | (go_simp; with_reducible rfl)
  try simp only [Act.put, List.setIfInBounds_toArray, List.set_cons_zero, List.set_cons_succ]
  refine wpAnyH_take (i := 42) (oi := { dst := some 8, op := Op.assign (Operand.tmp 72), type := 4, pos := "law.go:86", after := _, guard := none }) (v := ?_) rfl (by kernel_rfl) (by kernel_rfl) (by kernel_rfl) (fun _ _ _ h => h) (Or.inl ⟨by rfl, ?_⟩) hH ?_
  rotate_left
  · intro wz hSw
    (try dsimp only at hSw)
    first | (go_simp; done) | (go_simp; with_reducible rfl)
  try simp only [Act.put, List.setIfInBounds_toArray, List.set_cons_zero, List.set_cons_succ]
  refine wpAnyH_done (by kernel_rfl) ?_ _
  refine NoPanic.normal ?_
  go_wp2_with fail
  go_ret
  exact ⟨rfl, hH.1⟩
set_option maxHeartbeats 4000000 in
theorem fits_tf (a n i p k t b m x d : Int) (w : World)
    (cM : ∀ w, Calls Try.prog 16 #[.agg #[.int .i64 a, .int .i64 n, .int .i64 i, .int .i64 p, .int .i64 k, .int .i64 t]] w fun e w' => e = .returned (.bool true) ∧ Below w.heap.size w w')
    (cP : ∀ w, Calls Try.prog 22 #[.agg #[.int .i64 b, .int .i64 m]] w fun e w' => e = .returned (.bool true) ∧ Below w.heap.size w w')
    (hF : fitB a n i x d = true)
    (hAny : fitB a n (-1) x d = true)
    (hV : M.inB b m a n = false)
    (hH0 : M.hasB a n d = true) :
    Calls Try.prog 7 #[.agg #[.int .i64 a, .int .i64 n, .int .i64 i, .int .i64 p, .int .i64 k, .int .i64 t], .agg #[.int .i64 b, .int .i64 m], .int .i64 x, .int .i64 d] w fun e w' => e = .returned (.bool true) ∧ Below w.heap.size w w' := by
  have hn0 := below_new w (.cells #[.int .i64 a, .int .i64 n, .int .i64 i, .int .i64 p, .int .i64 k, .int .i64 t] 27)
  have X0 := Lies.new w [a, n, i, p, k, t] 27 (B := w.heap.size) rfl
  have hB := hn0
  have hn1 := below_new (w.alloc (.cells #[.int .i64 a, .int .i64 n, .int .i64 i, .int .i64 p, .int .i64 k, .int .i64 t] 27)) (.cells #[.int .i64 b, .int .i64 m] 23)
  have X1 := Lies.new (w.alloc (.cells #[.int .i64 a, .int .i64 n, .int .i64 i, .int .i64 p, .int .i64 k, .int .i64 t] 27)) [b, m] 23 (B := w.heap.size + 1) (by simp)
  replace X0 := X0.later hn1
  replace hB := below_step hB hn1
  clear hn0 hn1
  obtain ⟨x00, x01, x02, x03, x04, x05⟩ := X0.six
  obtain ⟨x10, x11⟩ := X1.two
  go_enter Try.func7, Try.ntmps7
  go_wp2_with fail
  refine (awake_any _).mono ?_
  rintro e w1 ⟨rfl, hb1⟩
  clear x00 x01 x02 x03 x04 x05
  clear x10 x11
  replace X0 := X0.later hb1
  replace X1 := X1.later hb1
  replace hB := below_step hB hb1
  clear hb1
  obtain ⟨x00, x01, x02, x03, x04, x05⟩ := X0.six
  obtain ⟨x10, x11⟩ := X1.two
  go_wp2_with fail
  refine (cM _).mono ?_
  rintro e w2 ⟨rfl, hb2⟩
  clear x00 x01 x02 x03 x04 x05
  clear x10 x11
  replace X0 := X0.later hb2
  replace X1 := X1.later hb2
  replace hB := below_step hB hb2
  clear hb2
  obtain ⟨x00, x01, x02, x03, x04, x05⟩ := X0.six
  obtain ⟨x10, x11⟩ := X1.two
  go_wp2_with fail
  refine (cP _).mono ?_
  rintro e w3 ⟨rfl, hb3⟩
  clear x00 x01 x02 x03 x04 x05
  clear x10 x11
  replace X0 := X0.later hb3
  replace X1 := X1.later hb3
  replace hB := below_step hB hb3
  clear hb3
  obtain ⟨x00, x01, x02, x03, x04, x05⟩ := X0.six
  obtain ⟨x10, x11⟩ := X1.two
  have hq0 := below_new w3 (.cells #[.int .i64 a, .int .i64 n, .int .i64 i, .int .i64 p, .int .i64 k, .int .i64 t] 27)
  obtain ⟨x0q0, x0q1, x0q2, x0q3, x0q4, x0q5⟩ := (X0.later hq0).six
  obtain ⟨x1q0, x1q1⟩ := (X1.later hq0).two
  clear hq0
  have hv0 := below_new w3 (.cells #[.int .i64 a, .int .i64 n, .int .i64 (-1), .int .i64 p, .int .i64 k, .int .i64 t] 27)
  replace X0 := X0.later hv0
  replace X1 := X1.later hv0
  replace hB := below_step hB hv0
  clear hv0
  have V0 := Lies.new w3 [a, n, -1, p, k, t] 27 (B := w3.heap.size) rfl
  obtain ⟨x00, x01, x02, x03, x04, x05⟩ := X0.six
  obtain ⟨x10, x11⟩ := X1.two
  obtain ⟨v00, v01, v02, v03, v04, v05⟩ := V0.six
  have hq1 := below_new (w3.alloc (.cells #[.int .i64 a, .int .i64 n, .int .i64 (-1), .int .i64 p, .int .i64 k, .int .i64 t] 27)) (.cells #[.int .i64 a, .int .i64 n, .int .i64 i, .int .i64 p, .int .i64 k, .int .i64 t] 27)
  obtain ⟨x0q0, x0q1, x0q2, x0q3, x0q4, x0q5⟩ := (X0.later hq1).six
  obtain ⟨x1q0, x1q1⟩ := (X1.later hq1).two
  obtain ⟨v0q0, v0q1, v0q2, v0q3, v0q4, v0q5⟩ := (V0.later hq1).six
  clear hq1
  have hv1 := below_new (w3.alloc (.cells #[.int .i64 a, .int .i64 n, .int .i64 (-1), .int .i64 p, .int .i64 k, .int .i64 t] 27)) (.cells #[.int .i64 b, .int .i64 m, .int .i64 i, .int .i64 p, .int .i64 k, .int .i64 t] 27)
  replace X0 := X0.later hv1
  replace X1 := X1.later hv1
  replace V0 := V0.later hv1
  replace hB := below_step hB hv1
  clear hv1
  have V1 := Lies.new (w3.alloc (.cells #[.int .i64 a, .int .i64 n, .int .i64 (-1), .int .i64 p, .int .i64 k, .int .i64 t] 27)) [b, m, i, p, k, t] 27 (B := w3.heap.size + 1) (by simp)
  obtain ⟨x00, x01, x02, x03, x04, x05⟩ := X0.six
  obtain ⟨x10, x11⟩ := X1.two
  obtain ⟨v00, v01, v02, v03, v04, v05⟩ := V0.six
  obtain ⟨v10, v11, v12, v13, v14, v15⟩ := V1.six
  have S0 : Below w.heap.size w ((w3.alloc (.cells #[.int .i64 a, .int .i64 n, .int .i64 (-1), .int .i64 p, .int .i64 k, .int .i64 t] 27)).alloc (.cells #[.int .i64 b, .int .i64 m, .int .i64 i, .int .i64 p, .int .i64 k, .int .i64 t] 27)).drew ∧ w.heap.size < ((w3.alloc (.cells #[.int .i64 a, .int .i64 n, .int .i64 (-1), .int .i64 p, .int .i64 k, .int .i64 t] 27)).alloc (.cells #[.int .i64 b, .int .i64 m, .int .i64 i, .int .i64 p, .int .i64 k, .int .i64 t] 27)).drew.heap.size ∧ w.heap.size + 1 < ((w3.alloc (.cells #[.int .i64 a, .int .i64 n, .int .i64 (-1), .int .i64 p, .int .i64 k, .int .i64 t] 27)).alloc (.cells #[.int .i64 b, .int .i64 m, .int .i64 i, .int .i64 p, .int .i64 k, .int .i64 t] 27)).drew.heap.size ∧ w3.heap.size < ((w3.alloc (.cells #[.int .i64 a, .int .i64 n, .int .i64 (-1), .int .i64 p, .int .i64 k, .int .i64 t] 27)).alloc (.cells #[.int .i64 b, .int .i64 m, .int .i64 i, .int .i64 p, .int .i64 k, .int .i64 t] 27)).drew.heap.size ∧ w3.heap.size + 1 < ((w3.alloc (.cells #[.int .i64 a, .int .i64 n, .int .i64 (-1), .int .i64 p, .int .i64 k, .int .i64 t] 27)).alloc (.cells #[.int .i64 b, .int .i64 m, .int .i64 i, .int .i64 p, .int .i64 k, .int .i64 t] 27)).drew.heap.size ∧ ((w3.alloc (.cells #[.int .i64 a, .int .i64 n, .int .i64 (-1), .int .i64 p, .int .i64 k, .int .i64 t] 27)).alloc (.cells #[.int .i64 b, .int .i64 m, .int .i64 i, .int .i64 p, .int .i64 k, .int .i64 t] 27)).drew.cell? ⟨w.heap.size, 0, none⟩ = some (.int .i64 a) ∧ ((w3.alloc (.cells #[.int .i64 a, .int .i64 n, .int .i64 (-1), .int .i64 p, .int .i64 k, .int .i64 t] 27)).alloc (.cells #[.int .i64 b, .int .i64 m, .int .i64 i, .int .i64 p, .int .i64 k, .int .i64 t] 27)).drew.cell? ⟨w.heap.size, 1, none⟩ = some (.int .i64 n) ∧ ((w3.alloc (.cells #[.int .i64 a, .int .i64 n, .int .i64 (-1), .int .i64 p, .int .i64 k, .int .i64 t] 27)).alloc (.cells #[.int .i64 b, .int .i64 m, .int .i64 i, .int .i64 p, .int .i64 k, .int .i64 t] 27)).drew.cell? ⟨w.heap.size, 2, none⟩ = some (.int .i64 i) ∧ ((w3.alloc (.cells #[.int .i64 a, .int .i64 n, .int .i64 (-1), .int .i64 p, .int .i64 k, .int .i64 t] 27)).alloc (.cells #[.int .i64 b, .int .i64 m, .int .i64 i, .int .i64 p, .int .i64 k, .int .i64 t] 27)).drew.cell? ⟨w.heap.size, 3, none⟩ = some (.int .i64 p) ∧ ((w3.alloc (.cells #[.int .i64 a, .int .i64 n, .int .i64 (-1), .int .i64 p, .int .i64 k, .int .i64 t] 27)).alloc (.cells #[.int .i64 b, .int .i64 m, .int .i64 i, .int .i64 p, .int .i64 k, .int .i64 t] 27)).drew.cell? ⟨w.heap.size, 4, none⟩ = some (.int .i64 k) ∧ ((w3.alloc (.cells #[.int .i64 a, .int .i64 n, .int .i64 (-1), .int .i64 p, .int .i64 k, .int .i64 t] 27)).alloc (.cells #[.int .i64 b, .int .i64 m, .int .i64 i, .int .i64 p, .int .i64 k, .int .i64 t] 27)).drew.cell? ⟨w.heap.size, 5, none⟩ = some (.int .i64 t) ∧ ((w3.alloc (.cells #[.int .i64 a, .int .i64 n, .int .i64 (-1), .int .i64 p, .int .i64 k, .int .i64 t] 27)).alloc (.cells #[.int .i64 b, .int .i64 m, .int .i64 i, .int .i64 p, .int .i64 k, .int .i64 t] 27)).drew.cell? ⟨w.heap.size + 1, 0, none⟩ = some (.int .i64 b) ∧ ((w3.alloc (.cells #[.int .i64 a, .int .i64 n, .int .i64 (-1), .int .i64 p, .int .i64 k, .int .i64 t] 27)).alloc (.cells #[.int .i64 b, .int .i64 m, .int .i64 i, .int .i64 p, .int .i64 k, .int .i64 t] 27)).drew.cell? ⟨w.heap.size + 1, 1, none⟩ = some (.int .i64 m) ∧ ((w3.alloc (.cells #[.int .i64 a, .int .i64 n, .int .i64 (-1), .int .i64 p, .int .i64 k, .int .i64 t] 27)).alloc (.cells #[.int .i64 b, .int .i64 m, .int .i64 i, .int .i64 p, .int .i64 k, .int .i64 t] 27)).drew.cell? ⟨w3.heap.size, 0, none⟩ = some (.int .i64 a) ∧ ((w3.alloc (.cells #[.int .i64 a, .int .i64 n, .int .i64 (-1), .int .i64 p, .int .i64 k, .int .i64 t] 27)).alloc (.cells #[.int .i64 b, .int .i64 m, .int .i64 i, .int .i64 p, .int .i64 k, .int .i64 t] 27)).drew.cell? ⟨w3.heap.size, 1, none⟩ = some (.int .i64 n) ∧ ((w3.alloc (.cells #[.int .i64 a, .int .i64 n, .int .i64 (-1), .int .i64 p, .int .i64 k, .int .i64 t] 27)).alloc (.cells #[.int .i64 b, .int .i64 m, .int .i64 i, .int .i64 p, .int .i64 k, .int .i64 t] 27)).drew.cell? ⟨w3.heap.size, 2, none⟩ = some (.int .i64 (-1)) ∧ ((w3.alloc (.cells #[.int .i64 a, .int .i64 n, .int .i64 (-1), .int .i64 p, .int .i64 k, .int .i64 t] 27)).alloc (.cells #[.int .i64 b, .int .i64 m, .int .i64 i, .int .i64 p, .int .i64 k, .int .i64 t] 27)).drew.cell? ⟨w3.heap.size, 3, none⟩ = some (.int .i64 p) ∧ ((w3.alloc (.cells #[.int .i64 a, .int .i64 n, .int .i64 (-1), .int .i64 p, .int .i64 k, .int .i64 t] 27)).alloc (.cells #[.int .i64 b, .int .i64 m, .int .i64 i, .int .i64 p, .int .i64 k, .int .i64 t] 27)).drew.cell? ⟨w3.heap.size, 4, none⟩ = some (.int .i64 k) ∧ ((w3.alloc (.cells #[.int .i64 a, .int .i64 n, .int .i64 (-1), .int .i64 p, .int .i64 k, .int .i64 t] 27)).alloc (.cells #[.int .i64 b, .int .i64 m, .int .i64 i, .int .i64 p, .int .i64 k, .int .i64 t] 27)).drew.cell? ⟨w3.heap.size, 5, none⟩ = some (.int .i64 t) ∧ ((w3.alloc (.cells #[.int .i64 a, .int .i64 n, .int .i64 (-1), .int .i64 p, .int .i64 k, .int .i64 t] 27)).alloc (.cells #[.int .i64 b, .int .i64 m, .int .i64 i, .int .i64 p, .int .i64 k, .int .i64 t] 27)).drew.cell? ⟨w3.heap.size + 1, 0, none⟩ = some (.int .i64 b) ∧ ((w3.alloc (.cells #[.int .i64 a, .int .i64 n, .int .i64 (-1), .int .i64 p, .int .i64 k, .int .i64 t] 27)).alloc (.cells #[.int .i64 b, .int .i64 m, .int .i64 i, .int .i64 p, .int .i64 k, .int .i64 t] 27)).drew.cell? ⟨w3.heap.size + 1, 1, none⟩ = some (.int .i64 m) ∧ ((w3.alloc (.cells #[.int .i64 a, .int .i64 n, .int .i64 (-1), .int .i64 p, .int .i64 k, .int .i64 t] 27)).alloc (.cells #[.int .i64 b, .int .i64 m, .int .i64 i, .int .i64 p, .int .i64 k, .int .i64 t] 27)).drew.cell? ⟨w3.heap.size + 1, 2, none⟩ = some (.int .i64 i) ∧ ((w3.alloc (.cells #[.int .i64 a, .int .i64 n, .int .i64 (-1), .int .i64 p, .int .i64 k, .int .i64 t] 27)).alloc (.cells #[.int .i64 b, .int .i64 m, .int .i64 i, .int .i64 p, .int .i64 k, .int .i64 t] 27)).drew.cell? ⟨w3.heap.size + 1, 3, none⟩ = some (.int .i64 p) ∧ ((w3.alloc (.cells #[.int .i64 a, .int .i64 n, .int .i64 (-1), .int .i64 p, .int .i64 k, .int .i64 t] 27)).alloc (.cells #[.int .i64 b, .int .i64 m, .int .i64 i, .int .i64 p, .int .i64 k, .int .i64 t] 27)).drew.cell? ⟨w3.heap.size + 1, 4, none⟩ = some (.int .i64 k) ∧ ((w3.alloc (.cells #[.int .i64 a, .int .i64 n, .int .i64 (-1), .int .i64 p, .int .i64 k, .int .i64 t] 27)).alloc (.cells #[.int .i64 b, .int .i64 m, .int .i64 i, .int .i64 p, .int .i64 k, .int .i64 t] 27)).drew.cell? ⟨w3.heap.size + 1, 5, none⟩ = some (.int .i64 t) := ⟨hB.drew, X0.lt, X1.lt, V0.lt, V1.lt, x00, x01, x02, x03, x04, x05, x10, x11, v00, v01, v02, v03, v04, v05, v10, v11, v12, v13, v14, v15⟩
  clear X0 X1 V0 V1
  go_wp2_with fail
  refine wp_region_noPanic ?_
  refine wp_region_held_drew (S := fun w' => Below w.heap.size w w' ∧ w.heap.size < w'.heap.size ∧ w.heap.size + 1 < w'.heap.size ∧ w3.heap.size < w'.heap.size ∧ w3.heap.size + 1 < w'.heap.size ∧ w'.cell? ⟨w.heap.size, 0, none⟩ = some (.int .i64 a) ∧ w'.cell? ⟨w.heap.size, 1, none⟩ = some (.int .i64 n) ∧ w'.cell? ⟨w.heap.size, 2, none⟩ = some (.int .i64 i) ∧ w'.cell? ⟨w.heap.size, 3, none⟩ = some (.int .i64 p) ∧ w'.cell? ⟨w.heap.size, 4, none⟩ = some (.int .i64 k) ∧ w'.cell? ⟨w.heap.size, 5, none⟩ = some (.int .i64 t) ∧ w'.cell? ⟨w.heap.size + 1, 0, none⟩ = some (.int .i64 b) ∧ w'.cell? ⟨w.heap.size + 1, 1, none⟩ = some (.int .i64 m) ∧ w'.cell? ⟨w3.heap.size, 0, none⟩ = some (.int .i64 a) ∧ w'.cell? ⟨w3.heap.size, 1, none⟩ = some (.int .i64 n) ∧ w'.cell? ⟨w3.heap.size, 2, none⟩ = some (.int .i64 (-1)) ∧ w'.cell? ⟨w3.heap.size, 3, none⟩ = some (.int .i64 p) ∧ w'.cell? ⟨w3.heap.size, 4, none⟩ = some (.int .i64 k) ∧ w'.cell? ⟨w3.heap.size, 5, none⟩ = some (.int .i64 t) ∧ w'.cell? ⟨w3.heap.size + 1, 0, none⟩ = some (.int .i64 b) ∧ w'.cell? ⟨w3.heap.size + 1, 1, none⟩ = some (.int .i64 m) ∧ w'.cell? ⟨w3.heap.size + 1, 2, none⟩ = some (.int .i64 i) ∧ w'.cell? ⟨w3.heap.size + 1, 3, none⟩ = some (.int .i64 p) ∧ w'.cell? ⟨w3.heap.size + 1, 4, none⟩ = some (.int .i64 k) ∧ w'.cell? ⟨w3.heap.size + 1, 5, none⟩ = some (.int .i64 t)) (by kernel_rfl) S0 (fun hH => ?_)
  clear S0 hB x00 x01 x02 x03 x04 x05 x10 x11 v00 v01 v02 v03 v04 v05 v10 v11 v12 v13 v14 v15 x0q0 x0q1 x0q2 x0q3 x0q4 x0q5 x1q0 x1q1
  refine wpAnyH_take (i := 0) (oi := { dst := some 31, op := Op.load 27 (Operand.tmp 4), type := 27, pos := "law.go:86", after := _, guard := none }) (v := ?_) rfl (by kernel_rfl) (by kernel_rfl) (by kernel_rfl) (fun _ _ _ h => h) (Or.inl ⟨by rfl, ?_⟩) hH ?_
  rotate_left
  · intro wz hSw
    (try dsimp only at hSw)
    first | (go_simp; done) | (go_simp; with_reducible rfl)
  try simp only [Act.put, List.setIfInBounds_toArray, List.set_cons_zero, List.set_cons_succ]
  refine wpAnyH_take (i := 1) (oi := { dst := some 32, op := Op.move (Operand.tmp 2), type := 3, pos := "law.go:86", after := _, guard := none }) (v := ?_) rfl (by kernel_rfl) (by kernel_rfl) (by kernel_rfl) (fun _ _ _ h => h) (Or.inl ⟨by rfl, ?_⟩) hH ?_
  rotate_left
  · intro wz hSw
    (try dsimp only at hSw)
    first | (go_simp; done) | (go_simp; with_reducible rfl)
  try simp only [Act.put, List.setIfInBounds_toArray, List.set_cons_zero, List.set_cons_succ]
  refine wpAnyH_take (i := 2) (oi := { dst := some 33, op := Op.move (Operand.tmp 3), type := 3, pos := "law.go:86", after := _, guard := none }) (v := ?_) rfl (by kernel_rfl) (by kernel_rfl) (by kernel_rfl) (fun _ _ _ h => h) (Or.inl ⟨by rfl, ?_⟩) hH ?_
  rotate_left
  · intro wz hSw
    (try dsimp only at hSw)
    first | (go_simp; done) | (go_simp; with_reducible rfl)
  try simp only [Act.put, List.setIfInBounds_toArray, List.set_cons_zero, List.set_cons_succ]
  refine wpAnyH_ready (rs := [3]) (by kernel_rfl) (by simp) ?_
  refine AllReadyH.cons (o := { dst := some 34, op := Op.call { callee := Callee.value (Operand.func 17), args := #[Operand.tmp 31, Operand.tmp 32, Operand.tmp 33], argTypes := #[27, 3, 3] }, type := 4, pos := "law.go:86", after := _, guard := none }) rfl (fun K hK => ?_) AllReadyH.nil
  go_simp
  refine (ruFits_any a n i p k t x d _).mono ?_
  rw [hF]
  rintro e wq3 ⟨rfl, hbq⟩
  go_wp2_with fail
  refine hK.out _ _ (kept_fits hH hbq) (fun hH2 => ?_)
  clear hK K hH hbq
  have hH := hH2
  clear hH2
  try simp only [Act.put, List.setIfInBounds_toArray, List.set_cons_zero, List.set_cons_succ]
  refine wpAnyH_take (i := 4) (oi := { dst := some 35, op := Op.unOp UnOp.not 4 (Operand.tmp 34), type := 4, pos := "law.go:86", after := _, guard := none }) (v := ?_) rfl (by kernel_rfl) (by kernel_rfl) (by kernel_rfl) (fun _ _ _ h => h) (Or.inl ⟨by rfl, ?_⟩) hH ?_
  rotate_left
  · intro wz hSw
    (try dsimp only at hSw)
    first | (go_simp; done) | (go_simp; with_reducible rfl)
  try simp only [Act.put, List.setIfInBounds_toArray, List.set_cons_zero, List.set_cons_succ]
  refine wpAnyH_take (i := 5) (oi := { dst := some 36, op := Op.move (Operand.tmp 35), type := 4, pos := "law.go:86", after := _, guard := none }) (v := ?_) rfl (by kernel_rfl) (by kernel_rfl) (by kernel_rfl) (fun _ _ _ h => h) (Or.inl ⟨by rfl, ?_⟩) hH ?_
  rotate_left
  · intro wz hSw
    (try dsimp only at hSw)
    first | (go_simp; done) | (go_simp; with_reducible rfl)
  try simp only [Act.put, List.setIfInBounds_toArray, List.set_cons_zero, List.set_cons_succ]
  refine wpAnyH_take (i := 6) (oi := { dst := some 37, op := Op.load 27 (Operand.tmp 10), type := 27, pos := "law.go:86", after := _, guard := some (5, false) }) (v := ?_) rfl (by kernel_rfl) (by kernel_rfl) (by kernel_rfl) (fun _ _ _ h => h) (Or.inl ⟨by rfl, ?_⟩) hH ?_
  rotate_left
  · intro wz hSw
    (try dsimp only at hSw)
    first | (go_simp; done) | (go_simp; with_reducible rfl)
  try simp only [Act.put, List.setIfInBounds_toArray, List.set_cons_zero, List.set_cons_succ]
  refine wpAnyH_take (i := 7) (oi := { dst := some 38, op := Op.move (Operand.tmp 2), type := 3, pos := "law.go:86", after := _, guard := some (5, false) }) (v := ?_) rfl (by kernel_rfl) (by kernel_rfl) (by kernel_rfl) (fun _ _ _ h => h) (Or.inl ⟨by rfl, ?_⟩) hH ?_
  rotate_left
  · intro wz hSw
    (try dsimp only at hSw)
    first | (go_simp; done) | (go_simp; with_reducible rfl)
  try simp only [Act.put, List.setIfInBounds_toArray, List.set_cons_zero, List.set_cons_succ]
  refine wpAnyH_take (i := 8) (oi := { dst := some 39, op := Op.move (Operand.tmp 3), type := 3, pos := "law.go:86", after := _, guard := some (5, false) }) (v := ?_) rfl (by kernel_rfl) (by kernel_rfl) (by kernel_rfl) (fun _ _ _ h => h) (Or.inl ⟨by rfl, ?_⟩) hH ?_
  rotate_left
  · intro wz hSw
    (try dsimp only at hSw)
    first | (go_simp; done) | (go_simp; with_reducible rfl)
  try simp only [Act.put, List.setIfInBounds_toArray, List.set_cons_zero, List.set_cons_succ]
  refine wpAnyH_ready (rs := [9]) (by kernel_rfl) (by simp) ?_
  refine AllReadyH.cons (o := { dst := some 40, op := Op.call { callee := Callee.value (Operand.func 17), args := #[Operand.tmp 37, Operand.tmp 38, Operand.tmp 39], argTypes := #[27, 3, 3] }, type := 4, pos := "law.go:86", after := _, guard := some (5, false) }) rfl (fun K hK => ?_) AllReadyH.nil
  go_simp
  refine (ruFits_any a n (-1) p k t x d _).mono ?_
  rw [hAny]
  rintro e wq9 ⟨rfl, hbq⟩
  go_wp2_with fail
  refine hK.out _ _ (kept_fits hH hbq) (fun hH2 => ?_)
  clear hK K hH hbq
  have hH := hH2
  clear hH2
  try simp only [Act.put, List.setIfInBounds_toArray, List.set_cons_zero, List.set_cons_succ]
  refine wpAnyH_take (i := 10) (oi := { dst := some 41, op := Op.pick (Operand.tmp 36) (Operand.const (Value.bool true)) (Operand.tmp 40), type := 4, pos := "law.go:86", after := _, guard := none }) (v := ?_) rfl (by kernel_rfl) (by kernel_rfl) (by kernel_rfl) (fun _ _ _ h => h) (Or.inl ⟨by rfl, ?_⟩) hH ?_
  rotate_left
  · intro wz hSw
    (try dsimp only at hSw)
    first | (go_simp; done) | (go_simp; with_reducible rfl)
  try simp only [Act.put, List.setIfInBounds_toArray, List.set_cons_zero, List.set_cons_succ]
  refine wpAnyH_take (i := 11) (oi := { dst := some 42, op := Op.move (Operand.tmp 41), type := 4, pos := "law.go:86", after := _, guard := none }) (v := ?_) rfl (by kernel_rfl) (by kernel_rfl) (by kernel_rfl) (fun _ _ _ h => h) (Or.inl ⟨by rfl, ?_⟩) hH ?_
  rotate_left
  · intro wz hSw
    (try dsimp only at hSw)
    first | (go_simp; done) | (go_simp; with_reducible rfl)
  try simp only [Act.put, List.setIfInBounds_toArray, List.set_cons_zero, List.set_cons_succ]
  refine wpAnyH_take (i := 12) (oi := { dst := some 43, op := Op.load 23 (Operand.tmp 5), type := 23, pos := "law.go:86", after := _, guard := some (11, true) }) (v := ?_) rfl (by kernel_rfl) (by kernel_rfl) (by kernel_rfl) (fun _ _ _ h => h) (Or.inl ⟨by rfl, ?_⟩) hH ?_
  rotate_left
  · intro wz hSw
    (try dsimp only at hSw)
    first | (go_simp; done) | (go_simp; with_reducible rfl)
  try simp only [Act.put, List.setIfInBounds_toArray, List.set_cons_zero, List.set_cons_succ]
  refine wpAnyH_take (i := 13) (oi := { dst := some 44, op := Op.fieldAddr 27 (Operand.tmp 4) 0, type := 0, pos := "law.go:86", after := _, guard := some (11, true) }) (v := ?_) rfl (by kernel_rfl) (by kernel_rfl) (by kernel_rfl) (fun _ _ _ h => h) (Or.inl ⟨by rfl, ?_⟩) hH ?_
  rotate_left
  · intro wz hSw
    (try dsimp only at hSw)
    first | (go_simp; done) | (go_simp; with_reducible rfl)
  try simp only [Act.put, List.setIfInBounds_toArray, List.set_cons_zero, List.set_cons_succ]
  refine wpAnyH_take (i := 14) (oi := { dst := some 45, op := Op.load 23 (Operand.tmp 44), type := 23, pos := "law.go:86", after := _, guard := some (11, true) }) (v := ?_) rfl (by kernel_rfl) (by kernel_rfl) (by kernel_rfl) (fun _ _ _ h => h) (Or.inl ⟨by rfl, ?_⟩) hH ?_
  rotate_left
  · intro wz hSw
    (try dsimp only at hSw)
    first | (go_simp; done) | (go_simp; with_reducible rfl)
  try simp only [Act.put, List.setIfInBounds_toArray, List.set_cons_zero, List.set_cons_succ]
  refine wpAnyH_ready (rs := [15]) (by kernel_rfl) (by simp) ?_
  refine AllReadyH.cons (o := { dst := some 46, op := Op.call { callee := Callee.value (Operand.func 23), args := #[Operand.tmp 43, Operand.tmp 45], argTypes := #[23, 23] }, type := 4, pos := "law.go:86", after := _, guard := some (11, true) }) rfl (fun K hK => ?_) AllReadyH.nil
  go_simp
  refine (within_any b m a n _).mono ?_
  rw [hV]
  rintro e wq15 ⟨rfl, hbq⟩
  go_wp2_with fail
  refine hK.out _ _ (kept_fits hH hbq) (fun hH2 => ?_)
  clear hK K hH hbq
  have hH := hH2
  clear hH2
  try simp only [Act.put, List.setIfInBounds_toArray, List.set_cons_zero, List.set_cons_succ]
  refine wpAnyH_take (i := 16) (oi := { dst := some 47, op := Op.unOp UnOp.not 4 (Operand.tmp 46), type := 4, pos := "law.go:86", after := _, guard := some (11, true) }) (v := ?_) rfl (by kernel_rfl) (by kernel_rfl) (by kernel_rfl) (fun _ _ _ h => h) (Or.inl ⟨by rfl, ?_⟩) hH ?_
  rotate_left
  · intro wz hSw
    (try dsimp only at hSw)
    first | (go_simp; done) | (go_simp; with_reducible rfl)
  try simp only [Act.put, List.setIfInBounds_toArray, List.set_cons_zero, List.set_cons_succ]
  refine wpAnyH_take (i := 17) (oi := { dst := some 48, op := Op.move (Operand.tmp 47), type := 4, pos := "law.go:86", after := _, guard := some (11, true) }) (v := ?_) rfl (by kernel_rfl) (by kernel_rfl) (by kernel_rfl) (fun _ _ _ h => h) (Or.inl ⟨by rfl, ?_⟩) hH ?_
  rotate_left
  · intro wz hSw
    (try dsimp only at hSw)
    first | (go_simp; done) | (go_simp; with_reducible rfl)
  try simp only [Act.put, List.setIfInBounds_toArray, List.set_cons_zero, List.set_cons_succ]
  refine wpAnyH_take (i := 18) (oi := { dst := some 49, op := Op.load 27 (Operand.tmp 4), type := 27, pos := "law.go:86", after := _, guard := some (17, false) }) (v := undef) rfl (by kernel_rfl) (by kernel_rfl) (by kernel_rfl) (fun _ _ _ h => h) (Or.inr ⟨by rfl, rfl⟩) hH ?_
  try simp only [Act.put, List.setIfInBounds_toArray, List.set_cons_zero, List.set_cons_succ]
  refine wpAnyH_take (i := 19) (oi := { dst := some 50, op := Op.move (Operand.tmp 2), type := 3, pos := "law.go:86", after := _, guard := some (17, false) }) (v := undef) rfl (by kernel_rfl) (by kernel_rfl) (by kernel_rfl) (fun _ _ _ h => h) (Or.inr ⟨by rfl, rfl⟩) hH ?_
  try simp only [Act.put, List.setIfInBounds_toArray, List.set_cons_zero, List.set_cons_succ]
  refine wpAnyH_take (i := 20) (oi := { dst := some 51, op := Op.move (Operand.tmp 3), type := 3, pos := "law.go:86", after := _, guard := some (17, false) }) (v := undef) rfl (by kernel_rfl) (by kernel_rfl) (by kernel_rfl) (fun _ _ _ h => h) (Or.inr ⟨by rfl, rfl⟩) hH ?_
  try simp only [Act.put, List.setIfInBounds_toArray, List.set_cons_zero, List.set_cons_succ]
  refine wpAnyH_ready (rs := [21]) (by kernel_rfl) (by simp) ?_
  refine allReady_pass (o := { dst := some 52, op := Op.call { callee := Callee.value (Operand.func 17), args := #[Operand.tmp 49, Operand.tmp 50, Operand.tmp 51], argTypes := #[27, 3, 3] }, type := 4, pos := "law.go:86", after := _, guard := some (17, false) }) rfl (by rfl) hH ?_ AllReadyH.nil
  try simp only [Act.put, List.setIfInBounds_toArray, List.set_cons_zero, List.set_cons_succ]
  refine wpAnyH_take (i := 22) (oi := { dst := some 53, op := Op.unOp UnOp.not 4 (Operand.tmp 52), type := 4, pos := "law.go:86", after := _, guard := some (17, false) }) (v := undef) rfl (by kernel_rfl) (by kernel_rfl) (by kernel_rfl) (fun _ _ _ h => h) (Or.inr ⟨by rfl, rfl⟩) hH ?_
  try simp only [Act.put, List.setIfInBounds_toArray, List.set_cons_zero, List.set_cons_succ]
  refine wpAnyH_take (i := 23) (oi := { dst := some 54, op := Op.pick (Operand.tmp 48) (Operand.const (Value.bool true)) (Operand.tmp 53), type := 4, pos := "law.go:86", after := _, guard := some (11, true) }) (v := ?_) rfl (by kernel_rfl) (by kernel_rfl) (by kernel_rfl) (fun _ _ _ h => h) (Or.inl ⟨by rfl, ?_⟩) hH ?_
  rotate_left
  · intro wz hSw
    (try dsimp only at hSw)
    first | (go_simp; done) | (go_simp; with_reducible rfl)
  try simp only [Act.put, List.setIfInBounds_toArray, List.set_cons_zero, List.set_cons_succ]
  refine wpAnyH_take (i := 24) (oi := { dst := some 55, op := Op.move (Operand.tmp 54), type := 4, pos := "law.go:86", after := _, guard := some (11, true) }) (v := ?_) rfl (by kernel_rfl) (by kernel_rfl) (by kernel_rfl) (fun _ _ _ h => h) (Or.inl ⟨by rfl, ?_⟩) hH ?_
  rotate_left
  · intro wz hSw
    (try dsimp only at hSw)
    first | (go_simp; done) | (go_simp; with_reducible rfl)
  try simp only [Act.put, List.setIfInBounds_toArray, List.set_cons_zero, List.set_cons_succ]
  refine wpAnyH_take (i := 25) (oi := { dst := some 56, op := Op.load 27 (Operand.tmp 11), type := 27, pos := "law.go:86", after := _, guard := some (24, false) }) (v := undef) rfl (by kernel_rfl) (by kernel_rfl) (by kernel_rfl) (fun _ _ _ h => h) (Or.inr ⟨by rfl, rfl⟩) hH ?_
  try simp only [Act.put, List.setIfInBounds_toArray, List.set_cons_zero, List.set_cons_succ]
  refine wpAnyH_take (i := 26) (oi := { dst := some 57, op := Op.move (Operand.tmp 2), type := 3, pos := "law.go:86", after := _, guard := some (24, false) }) (v := undef) rfl (by kernel_rfl) (by kernel_rfl) (by kernel_rfl) (fun _ _ _ h => h) (Or.inr ⟨by rfl, rfl⟩) hH ?_
  try simp only [Act.put, List.setIfInBounds_toArray, List.set_cons_zero, List.set_cons_succ]
  refine wpAnyH_take (i := 27) (oi := { dst := some 58, op := Op.move (Operand.tmp 3), type := 3, pos := "law.go:86", after := _, guard := some (24, false) }) (v := undef) rfl (by kernel_rfl) (by kernel_rfl) (by kernel_rfl) (fun _ _ _ h => h) (Or.inr ⟨by rfl, rfl⟩) hH ?_
  try simp only [Act.put, List.setIfInBounds_toArray, List.set_cons_zero, List.set_cons_succ]
  refine wpAnyH_ready (rs := [28]) (by kernel_rfl) (by simp) ?_
  refine allReady_pass (o := { dst := some 59, op := Op.call { callee := Callee.value (Operand.func 17), args := #[Operand.tmp 56, Operand.tmp 57, Operand.tmp 58], argTypes := #[27, 3, 3] }, type := 4, pos := "law.go:86", after := _, guard := some (24, false) }) rfl (by rfl) hH ?_ AllReadyH.nil
  try simp only [Act.put, List.setIfInBounds_toArray, List.set_cons_zero, List.set_cons_succ]
  refine wpAnyH_take (i := 29) (oi := { dst := some 60, op := Op.pick (Operand.tmp 55) (Operand.const (Value.bool true)) (Operand.tmp 59), type := 4, pos := "law.go:86", after := _, guard := some (11, true) }) (v := ?_) rfl (by kernel_rfl) (by kernel_rfl) (by kernel_rfl) (fun _ _ _ h => h) (Or.inl ⟨by rfl, ?_⟩) hH ?_
  rotate_left
  · intro wz hSw
    (try dsimp only at hSw)
    first | (go_simp; done) | (go_simp; with_reducible rfl)
  try simp only [Act.put, List.setIfInBounds_toArray, List.set_cons_zero, List.set_cons_succ]
  refine wpAnyH_take (i := 30) (oi := { dst := some 61, op := Op.pick (Operand.tmp 42) (Operand.tmp 60) (Operand.const (Value.bool false)), type := 4, pos := "law.go:86", after := _, guard := none }) (v := ?_) rfl (by kernel_rfl) (by kernel_rfl) (by kernel_rfl) (fun _ _ _ h => h) (Or.inl ⟨by rfl, ?_⟩) hH ?_
  rotate_left
  · intro wz hSw
    (try dsimp only at hSw)
    first | (go_simp; done) | (go_simp; with_reducible rfl)
  try simp only [Act.put, List.setIfInBounds_toArray, List.set_cons_zero, List.set_cons_succ]
  refine wpAnyH_take (i := 31) (oi := { dst := some 62, op := Op.move (Operand.tmp 61), type := 4, pos := "law.go:86", after := _, guard := none }) (v := ?_) rfl (by kernel_rfl) (by kernel_rfl) (by kernel_rfl) (fun _ _ _ h => h) (Or.inl ⟨by rfl, ?_⟩) hH ?_
  rotate_left
  · intro wz hSw
    (try dsimp only at hSw)
    first | (go_simp; done) | (go_simp; with_reducible rfl)
  try simp only [Act.put, List.setIfInBounds_toArray, List.set_cons_zero, List.set_cons_succ]
  refine wpAnyH_take (i := 32) (oi := { dst := some 63, op := Op.load 27 (Operand.tmp 10), type := 27, pos := "law.go:86", after := _, guard := some (31, true) }) (v := ?_) rfl (by kernel_rfl) (by kernel_rfl) (by kernel_rfl) (fun _ _ _ h => h) (Or.inl ⟨by rfl, ?_⟩) hH ?_
  rotate_left
  · intro wz hSw
    (try dsimp only at hSw)
    first | (go_simp; done) | (go_simp; with_reducible rfl)
  try simp only [Act.put, List.setIfInBounds_toArray, List.set_cons_zero, List.set_cons_succ]
  refine wpAnyH_take (i := 33) (oi := { dst := some 64, op := Op.move (Operand.tmp 2), type := 3, pos := "law.go:86", after := _, guard := some (31, true) }) (v := ?_) rfl (by kernel_rfl) (by kernel_rfl) (by kernel_rfl) (fun _ _ _ h => h) (Or.inl ⟨by rfl, ?_⟩) hH ?_
  rotate_left
  · intro wz hSw
    (try dsimp only at hSw)
    first | (go_simp; done) | (go_simp; with_reducible rfl)
  try simp only [Act.put, List.setIfInBounds_toArray, List.set_cons_zero, List.set_cons_succ]
  refine wpAnyH_take (i := 34) (oi := { dst := some 65, op := Op.move (Operand.tmp 3), type := 3, pos := "law.go:86", after := _, guard := some (31, true) }) (v := ?_) rfl (by kernel_rfl) (by kernel_rfl) (by kernel_rfl) (fun _ _ _ h => h) (Or.inl ⟨by rfl, ?_⟩) hH ?_
  rotate_left
  · intro wz hSw
    (try dsimp only at hSw)
    first | (go_simp; done) | (go_simp; with_reducible rfl)
  try simp only [Act.put, List.setIfInBounds_toArray, List.set_cons_zero, List.set_cons_succ]
  refine wpAnyH_take (i := 36) (oi := { dst := some 67, op := Op.fieldAddr 27 (Operand.tmp 4) 0, type := 0, pos := "law.go:86", after := _, guard := some (31, true) }) (v := ?_) rfl (by kernel_rfl) (by kernel_rfl) (by kernel_rfl) (fun _ _ _ h => h) (Or.inl ⟨by rfl, ?_⟩) hH ?_
  rotate_left
  · intro wz hSw
    (try dsimp only at hSw)
    first | (go_simp; done) | (go_simp; with_reducible rfl)
  try simp only [Act.put, List.setIfInBounds_toArray, List.set_cons_zero, List.set_cons_succ]
  refine wpAnyH_take (i := 37) (oi := { dst := some 68, op := Op.load 23 (Operand.tmp 67), type := 23, pos := "law.go:86", after := _, guard := some (31, true) }) (v := ?_) rfl (by kernel_rfl) (by kernel_rfl) (by kernel_rfl) (fun _ _ _ h => h) (Or.inl ⟨by rfl, ?_⟩) hH ?_
  rotate_left
  · intro wz hSw
    (try dsimp only at hSw)
    first | (go_simp; done) | (go_simp; with_reducible rfl)
  try simp only [Act.put, List.setIfInBounds_toArray, List.set_cons_zero, List.set_cons_succ]
  refine wpAnyH_take (i := 38) (oi := { dst := some 69, op := Op.move (Operand.tmp 3), type := 3, pos := "law.go:86", after := _, guard := some (31, true) }) (v := ?_) rfl (by kernel_rfl) (by kernel_rfl) (by kernel_rfl) (fun _ _ _ h => h) (Or.inl ⟨by rfl, ?_⟩) hH ?_
  rotate_left
  · intro wz hSw
    (try dsimp only at hSw)
    first | (go_simp; done) | (go_simp; with_reducible rfl)
  try simp only [Act.put, List.setIfInBounds_toArray, List.set_cons_zero, List.set_cons_succ]
  refine wpAnyH_ready (rs := [35]) (by kernel_rfl) (by simp) ?_
  refine AllReadyH.cons (o := { dst := some 66, op := Op.call { callee := Callee.value (Operand.func 17), args := #[Operand.tmp 63, Operand.tmp 64, Operand.tmp 65], argTypes := #[27, 3, 3] }, type := 4, pos := "law.go:86", after := _, guard := some (31, true) }) rfl (fun K hK => ?_) AllReadyH.nil
  go_simp
  refine (ruFits_any a n (-1) p k t x d _).mono ?_
  rw [hAny]
  rintro e wq35 ⟨rfl, hbq⟩
  go_wp2_with fail
  refine hK.out _ _ (kept_fits hH hbq) (fun hH2 => ?_)
  clear hK K hH hbq
  have hH := hH2
  clear hH2
  try simp only [Act.put, List.setIfInBounds_toArray, List.set_cons_zero, List.set_cons_succ]
  refine wpAnyH_ready (rs := [39]) (by kernel_rfl) (by simp) ?_
  refine AllReadyH.cons (o := { dst := some 70, op := Op.call { callee := Callee.value (Operand.func 24), args := #[Operand.tmp 68, Operand.tmp 69], argTypes := #[23, 3] }, type := 4, pos := "law.go:86", after := _, guard := some (31, true) }) rfl (fun K hK => ?_) AllReadyH.nil
  go_simp
  refine (has_any a n d _).mono ?_
  rw [hH0]
  rintro e wq39 ⟨rfl, hbq⟩
  go_wp2_with fail
  refine hK.out _ _ (kept_fits hH hbq) (fun hH2 => ?_)
  clear hK K hH hbq
  have hH := hH2
  clear hH2
  try simp only [Act.put, List.setIfInBounds_toArray, List.set_cons_zero, List.set_cons_succ]
  refine wpAnyH_take (i := 40) (oi := { dst := some 71, op := Op.binOp BinOp.eql 4 (Operand.tmp 66) (Operand.tmp 70) 4, type := 4, pos := "law.go:86", after := _, guard := some (31, true) }) (v := ?_) rfl (by kernel_rfl) (by kernel_rfl) (by kernel_rfl) (fun _ _ _ h => h) (Or.inl ⟨by rfl, ?_⟩) hH ?_
  rotate_left
  · intro wz hSw
    (try dsimp only at hSw)
    first | (go_simp; done) | (go_simp; with_reducible rfl)
  try simp only [Act.put, List.setIfInBounds_toArray, List.set_cons_zero, List.set_cons_succ]
  refine wpAnyH_take (i := 41) (oi := { dst := some 72, op := Op.pick (Operand.tmp 62) (Operand.tmp 71) (Operand.const (Value.bool false)), type := 4, pos := "law.go:86", after := _, guard := none }) (v := ?_) rfl (by kernel_rfl) (by kernel_rfl) (by kernel_rfl) (fun _ _ _ h => h) (Or.inl ⟨by rfl, ?_⟩) hH ?_
  rotate_left
  · intro wz hSw
    (try dsimp only at hSw)
    first | (go_simp; done) | (go_simp; with_reducible rfl)
  try simp only [Act.put, List.setIfInBounds_toArray, List.set_cons_zero, List.set_cons_succ]
  refine wpAnyH_take (i := 42) (oi := { dst := some 8, op := Op.assign (Operand.tmp 72), type := 4, pos := "law.go:86", after := _, guard := none }) (v := ?_) rfl (by kernel_rfl) (by kernel_rfl) (by kernel_rfl) (fun _ _ _ h => h) (Or.inl ⟨by rfl, ?_⟩) hH ?_
  rotate_left
  · intro wz hSw
    (try dsimp only at hSw)
    first | (go_simp; done) | (go_simp; with_reducible rfl)
  try simp only [Act.put, List.setIfInBounds_toArray, List.set_cons_zero, List.set_cons_succ]
  refine wpAnyH_done (by kernel_rfl) ?_ _
  refine NoPanic.normal ?_
  go_wp2_with fail
  go_ret
  exact ⟨rfl, hH.1⟩
set_option maxHeartbeats 4000000 in
theorem fits_ftt (a n i p k t b m x d : Int) (w : World)
    (cM : ∀ w, Calls Try.prog 16 #[.agg #[.int .i64 a, .int .i64 n, .int .i64 i, .int .i64 p, .int .i64 k, .int .i64 t]] w fun e w' => e = .returned (.bool true) ∧ Below w.heap.size w w')
    (cP : ∀ w, Calls Try.prog 22 #[.agg #[.int .i64 b, .int .i64 m]] w fun e w' => e = .returned (.bool true) ∧ Below w.heap.size w w')
    (hF : fitB a n i x d = false)
    (hAny : fitB a n (-1) x d = true)
    (hV : M.inB b m a n = true)
    (hH0 : M.hasB a n d = true) :
    Calls Try.prog 7 #[.agg #[.int .i64 a, .int .i64 n, .int .i64 i, .int .i64 p, .int .i64 k, .int .i64 t], .agg #[.int .i64 b, .int .i64 m], .int .i64 x, .int .i64 d] w fun e w' => e = .returned (.bool true) ∧ Below w.heap.size w w' := by
  have hn0 := below_new w (.cells #[.int .i64 a, .int .i64 n, .int .i64 i, .int .i64 p, .int .i64 k, .int .i64 t] 27)
  have X0 := Lies.new w [a, n, i, p, k, t] 27 (B := w.heap.size) rfl
  have hB := hn0
  have hn1 := below_new (w.alloc (.cells #[.int .i64 a, .int .i64 n, .int .i64 i, .int .i64 p, .int .i64 k, .int .i64 t] 27)) (.cells #[.int .i64 b, .int .i64 m] 23)
  have X1 := Lies.new (w.alloc (.cells #[.int .i64 a, .int .i64 n, .int .i64 i, .int .i64 p, .int .i64 k, .int .i64 t] 27)) [b, m] 23 (B := w.heap.size + 1) (by simp)
  replace X0 := X0.later hn1
  replace hB := below_step hB hn1
  clear hn0 hn1
  obtain ⟨x00, x01, x02, x03, x04, x05⟩ := X0.six
  obtain ⟨x10, x11⟩ := X1.two
  go_enter Try.func7, Try.ntmps7
  go_wp2_with fail
  refine (awake_any _).mono ?_
  rintro e w1 ⟨rfl, hb1⟩
  clear x00 x01 x02 x03 x04 x05
  clear x10 x11
  replace X0 := X0.later hb1
  replace X1 := X1.later hb1
  replace hB := below_step hB hb1
  clear hb1
  obtain ⟨x00, x01, x02, x03, x04, x05⟩ := X0.six
  obtain ⟨x10, x11⟩ := X1.two
  go_wp2_with fail
  refine (cM _).mono ?_
  rintro e w2 ⟨rfl, hb2⟩
  clear x00 x01 x02 x03 x04 x05
  clear x10 x11
  replace X0 := X0.later hb2
  replace X1 := X1.later hb2
  replace hB := below_step hB hb2
  clear hb2
  obtain ⟨x00, x01, x02, x03, x04, x05⟩ := X0.six
  obtain ⟨x10, x11⟩ := X1.two
  go_wp2_with fail
  refine (cP _).mono ?_
  rintro e w3 ⟨rfl, hb3⟩
  clear x00 x01 x02 x03 x04 x05
  clear x10 x11
  replace X0 := X0.later hb3
  replace X1 := X1.later hb3
  replace hB := below_step hB hb3
  clear hb3
  obtain ⟨x00, x01, x02, x03, x04, x05⟩ := X0.six
  obtain ⟨x10, x11⟩ := X1.two
  have hq0 := below_new w3 (.cells #[.int .i64 a, .int .i64 n, .int .i64 i, .int .i64 p, .int .i64 k, .int .i64 t] 27)
  obtain ⟨x0q0, x0q1, x0q2, x0q3, x0q4, x0q5⟩ := (X0.later hq0).six
  obtain ⟨x1q0, x1q1⟩ := (X1.later hq0).two
  clear hq0
  have hv0 := below_new w3 (.cells #[.int .i64 a, .int .i64 n, .int .i64 (-1), .int .i64 p, .int .i64 k, .int .i64 t] 27)
  replace X0 := X0.later hv0
  replace X1 := X1.later hv0
  replace hB := below_step hB hv0
  clear hv0
  have V0 := Lies.new w3 [a, n, -1, p, k, t] 27 (B := w3.heap.size) rfl
  obtain ⟨x00, x01, x02, x03, x04, x05⟩ := X0.six
  obtain ⟨x10, x11⟩ := X1.two
  obtain ⟨v00, v01, v02, v03, v04, v05⟩ := V0.six
  have hq1 := below_new (w3.alloc (.cells #[.int .i64 a, .int .i64 n, .int .i64 (-1), .int .i64 p, .int .i64 k, .int .i64 t] 27)) (.cells #[.int .i64 a, .int .i64 n, .int .i64 i, .int .i64 p, .int .i64 k, .int .i64 t] 27)
  obtain ⟨x0q0, x0q1, x0q2, x0q3, x0q4, x0q5⟩ := (X0.later hq1).six
  obtain ⟨x1q0, x1q1⟩ := (X1.later hq1).two
  obtain ⟨v0q0, v0q1, v0q2, v0q3, v0q4, v0q5⟩ := (V0.later hq1).six
  clear hq1
  have hv1 := below_new (w3.alloc (.cells #[.int .i64 a, .int .i64 n, .int .i64 (-1), .int .i64 p, .int .i64 k, .int .i64 t] 27)) (.cells #[.int .i64 b, .int .i64 m, .int .i64 i, .int .i64 p, .int .i64 k, .int .i64 t] 27)
  replace X0 := X0.later hv1
  replace X1 := X1.later hv1
  replace V0 := V0.later hv1
  replace hB := below_step hB hv1
  clear hv1
  have V1 := Lies.new (w3.alloc (.cells #[.int .i64 a, .int .i64 n, .int .i64 (-1), .int .i64 p, .int .i64 k, .int .i64 t] 27)) [b, m, i, p, k, t] 27 (B := w3.heap.size + 1) (by simp)
  obtain ⟨x00, x01, x02, x03, x04, x05⟩ := X0.six
  obtain ⟨x10, x11⟩ := X1.two
  obtain ⟨v00, v01, v02, v03, v04, v05⟩ := V0.six
  obtain ⟨v10, v11, v12, v13, v14, v15⟩ := V1.six
  have S0 : Below w.heap.size w ((w3.alloc (.cells #[.int .i64 a, .int .i64 n, .int .i64 (-1), .int .i64 p, .int .i64 k, .int .i64 t] 27)).alloc (.cells #[.int .i64 b, .int .i64 m, .int .i64 i, .int .i64 p, .int .i64 k, .int .i64 t] 27)).drew ∧ w.heap.size < ((w3.alloc (.cells #[.int .i64 a, .int .i64 n, .int .i64 (-1), .int .i64 p, .int .i64 k, .int .i64 t] 27)).alloc (.cells #[.int .i64 b, .int .i64 m, .int .i64 i, .int .i64 p, .int .i64 k, .int .i64 t] 27)).drew.heap.size ∧ w.heap.size + 1 < ((w3.alloc (.cells #[.int .i64 a, .int .i64 n, .int .i64 (-1), .int .i64 p, .int .i64 k, .int .i64 t] 27)).alloc (.cells #[.int .i64 b, .int .i64 m, .int .i64 i, .int .i64 p, .int .i64 k, .int .i64 t] 27)).drew.heap.size ∧ w3.heap.size < ((w3.alloc (.cells #[.int .i64 a, .int .i64 n, .int .i64 (-1), .int .i64 p, .int .i64 k, .int .i64 t] 27)).alloc (.cells #[.int .i64 b, .int .i64 m, .int .i64 i, .int .i64 p, .int .i64 k, .int .i64 t] 27)).drew.heap.size ∧ w3.heap.size + 1 < ((w3.alloc (.cells #[.int .i64 a, .int .i64 n, .int .i64 (-1), .int .i64 p, .int .i64 k, .int .i64 t] 27)).alloc (.cells #[.int .i64 b, .int .i64 m, .int .i64 i, .int .i64 p, .int .i64 k, .int .i64 t] 27)).drew.heap.size ∧ ((w3.alloc (.cells #[.int .i64 a, .int .i64 n, .int .i64 (-1), .int .i64 p, .int .i64 k, .int .i64 t] 27)).alloc (.cells #[.int .i64 b, .int .i64 m, .int .i64 i, .int .i64 p, .int .i64 k, .int .i64 t] 27)).drew.cell? ⟨w.heap.size, 0, none⟩ = some (.int .i64 a) ∧ ((w3.alloc (.cells #[.int .i64 a, .int .i64 n, .int .i64 (-1), .int .i64 p, .int .i64 k, .int .i64 t] 27)).alloc (.cells #[.int .i64 b, .int .i64 m, .int .i64 i, .int .i64 p, .int .i64 k, .int .i64 t] 27)).drew.cell? ⟨w.heap.size, 1, none⟩ = some (.int .i64 n) ∧ ((w3.alloc (.cells #[.int .i64 a, .int .i64 n, .int .i64 (-1), .int .i64 p, .int .i64 k, .int .i64 t] 27)).alloc (.cells #[.int .i64 b, .int .i64 m, .int .i64 i, .int .i64 p, .int .i64 k, .int .i64 t] 27)).drew.cell? ⟨w.heap.size, 2, none⟩ = some (.int .i64 i) ∧ ((w3.alloc (.cells #[.int .i64 a, .int .i64 n, .int .i64 (-1), .int .i64 p, .int .i64 k, .int .i64 t] 27)).alloc (.cells #[.int .i64 b, .int .i64 m, .int .i64 i, .int .i64 p, .int .i64 k, .int .i64 t] 27)).drew.cell? ⟨w.heap.size, 3, none⟩ = some (.int .i64 p) ∧ ((w3.alloc (.cells #[.int .i64 a, .int .i64 n, .int .i64 (-1), .int .i64 p, .int .i64 k, .int .i64 t] 27)).alloc (.cells #[.int .i64 b, .int .i64 m, .int .i64 i, .int .i64 p, .int .i64 k, .int .i64 t] 27)).drew.cell? ⟨w.heap.size, 4, none⟩ = some (.int .i64 k) ∧ ((w3.alloc (.cells #[.int .i64 a, .int .i64 n, .int .i64 (-1), .int .i64 p, .int .i64 k, .int .i64 t] 27)).alloc (.cells #[.int .i64 b, .int .i64 m, .int .i64 i, .int .i64 p, .int .i64 k, .int .i64 t] 27)).drew.cell? ⟨w.heap.size, 5, none⟩ = some (.int .i64 t) ∧ ((w3.alloc (.cells #[.int .i64 a, .int .i64 n, .int .i64 (-1), .int .i64 p, .int .i64 k, .int .i64 t] 27)).alloc (.cells #[.int .i64 b, .int .i64 m, .int .i64 i, .int .i64 p, .int .i64 k, .int .i64 t] 27)).drew.cell? ⟨w.heap.size + 1, 0, none⟩ = some (.int .i64 b) ∧ ((w3.alloc (.cells #[.int .i64 a, .int .i64 n, .int .i64 (-1), .int .i64 p, .int .i64 k, .int .i64 t] 27)).alloc (.cells #[.int .i64 b, .int .i64 m, .int .i64 i, .int .i64 p, .int .i64 k, .int .i64 t] 27)).drew.cell? ⟨w.heap.size + 1, 1, none⟩ = some (.int .i64 m) ∧ ((w3.alloc (.cells #[.int .i64 a, .int .i64 n, .int .i64 (-1), .int .i64 p, .int .i64 k, .int .i64 t] 27)).alloc (.cells #[.int .i64 b, .int .i64 m, .int .i64 i, .int .i64 p, .int .i64 k, .int .i64 t] 27)).drew.cell? ⟨w3.heap.size, 0, none⟩ = some (.int .i64 a) ∧ ((w3.alloc (.cells #[.int .i64 a, .int .i64 n, .int .i64 (-1), .int .i64 p, .int .i64 k, .int .i64 t] 27)).alloc (.cells #[.int .i64 b, .int .i64 m, .int .i64 i, .int .i64 p, .int .i64 k, .int .i64 t] 27)).drew.cell? ⟨w3.heap.size, 1, none⟩ = some (.int .i64 n) ∧ ((w3.alloc (.cells #[.int .i64 a, .int .i64 n, .int .i64 (-1), .int .i64 p, .int .i64 k, .int .i64 t] 27)).alloc (.cells #[.int .i64 b, .int .i64 m, .int .i64 i, .int .i64 p, .int .i64 k, .int .i64 t] 27)).drew.cell? ⟨w3.heap.size, 2, none⟩ = some (.int .i64 (-1)) ∧ ((w3.alloc (.cells #[.int .i64 a, .int .i64 n, .int .i64 (-1), .int .i64 p, .int .i64 k, .int .i64 t] 27)).alloc (.cells #[.int .i64 b, .int .i64 m, .int .i64 i, .int .i64 p, .int .i64 k, .int .i64 t] 27)).drew.cell? ⟨w3.heap.size, 3, none⟩ = some (.int .i64 p) ∧ ((w3.alloc (.cells #[.int .i64 a, .int .i64 n, .int .i64 (-1), .int .i64 p, .int .i64 k, .int .i64 t] 27)).alloc (.cells #[.int .i64 b, .int .i64 m, .int .i64 i, .int .i64 p, .int .i64 k, .int .i64 t] 27)).drew.cell? ⟨w3.heap.size, 4, none⟩ = some (.int .i64 k) ∧ ((w3.alloc (.cells #[.int .i64 a, .int .i64 n, .int .i64 (-1), .int .i64 p, .int .i64 k, .int .i64 t] 27)).alloc (.cells #[.int .i64 b, .int .i64 m, .int .i64 i, .int .i64 p, .int .i64 k, .int .i64 t] 27)).drew.cell? ⟨w3.heap.size, 5, none⟩ = some (.int .i64 t) ∧ ((w3.alloc (.cells #[.int .i64 a, .int .i64 n, .int .i64 (-1), .int .i64 p, .int .i64 k, .int .i64 t] 27)).alloc (.cells #[.int .i64 b, .int .i64 m, .int .i64 i, .int .i64 p, .int .i64 k, .int .i64 t] 27)).drew.cell? ⟨w3.heap.size + 1, 0, none⟩ = some (.int .i64 b) ∧ ((w3.alloc (.cells #[.int .i64 a, .int .i64 n, .int .i64 (-1), .int .i64 p, .int .i64 k, .int .i64 t] 27)).alloc (.cells #[.int .i64 b, .int .i64 m, .int .i64 i, .int .i64 p, .int .i64 k, .int .i64 t] 27)).drew.cell? ⟨w3.heap.size + 1, 1, none⟩ = some (.int .i64 m) ∧ ((w3.alloc (.cells #[.int .i64 a, .int .i64 n, .int .i64 (-1), .int .i64 p, .int .i64 k, .int .i64 t] 27)).alloc (.cells #[.int .i64 b, .int .i64 m, .int .i64 i, .int .i64 p, .int .i64 k, .int .i64 t] 27)).drew.cell? ⟨w3.heap.size + 1, 2, none⟩ = some (.int .i64 i) ∧ ((w3.alloc (.cells #[.int .i64 a, .int .i64 n, .int .i64 (-1), .int .i64 p, .int .i64 k, .int .i64 t] 27)).alloc (.cells #[.int .i64 b, .int .i64 m, .int .i64 i, .int .i64 p, .int .i64 k, .int .i64 t] 27)).drew.cell? ⟨w3.heap.size + 1, 3, none⟩ = some (.int .i64 p) ∧ ((w3.alloc (.cells #[.int .i64 a, .int .i64 n, .int .i64 (-1), .int .i64 p, .int .i64 k, .int .i64 t] 27)).alloc (.cells #[.int .i64 b, .int .i64 m, .int .i64 i, .int .i64 p, .int .i64 k, .int .i64 t] 27)).drew.cell? ⟨w3.heap.size + 1, 4, none⟩ = some (.int .i64 k) ∧ ((w3.alloc (.cells #[.int .i64 a, .int .i64 n, .int .i64 (-1), .int .i64 p, .int .i64 k, .int .i64 t] 27)).alloc (.cells #[.int .i64 b, .int .i64 m, .int .i64 i, .int .i64 p, .int .i64 k, .int .i64 t] 27)).drew.cell? ⟨w3.heap.size + 1, 5, none⟩ = some (.int .i64 t) := ⟨hB.drew, X0.lt, X1.lt, V0.lt, V1.lt, x00, x01, x02, x03, x04, x05, x10, x11, v00, v01, v02, v03, v04, v05, v10, v11, v12, v13, v14, v15⟩
  clear X0 X1 V0 V1
  go_wp2_with fail
  refine wp_region_noPanic ?_
  refine wp_region_held_drew (S := fun w' => Below w.heap.size w w' ∧ w.heap.size < w'.heap.size ∧ w.heap.size + 1 < w'.heap.size ∧ w3.heap.size < w'.heap.size ∧ w3.heap.size + 1 < w'.heap.size ∧ w'.cell? ⟨w.heap.size, 0, none⟩ = some (.int .i64 a) ∧ w'.cell? ⟨w.heap.size, 1, none⟩ = some (.int .i64 n) ∧ w'.cell? ⟨w.heap.size, 2, none⟩ = some (.int .i64 i) ∧ w'.cell? ⟨w.heap.size, 3, none⟩ = some (.int .i64 p) ∧ w'.cell? ⟨w.heap.size, 4, none⟩ = some (.int .i64 k) ∧ w'.cell? ⟨w.heap.size, 5, none⟩ = some (.int .i64 t) ∧ w'.cell? ⟨w.heap.size + 1, 0, none⟩ = some (.int .i64 b) ∧ w'.cell? ⟨w.heap.size + 1, 1, none⟩ = some (.int .i64 m) ∧ w'.cell? ⟨w3.heap.size, 0, none⟩ = some (.int .i64 a) ∧ w'.cell? ⟨w3.heap.size, 1, none⟩ = some (.int .i64 n) ∧ w'.cell? ⟨w3.heap.size, 2, none⟩ = some (.int .i64 (-1)) ∧ w'.cell? ⟨w3.heap.size, 3, none⟩ = some (.int .i64 p) ∧ w'.cell? ⟨w3.heap.size, 4, none⟩ = some (.int .i64 k) ∧ w'.cell? ⟨w3.heap.size, 5, none⟩ = some (.int .i64 t) ∧ w'.cell? ⟨w3.heap.size + 1, 0, none⟩ = some (.int .i64 b) ∧ w'.cell? ⟨w3.heap.size + 1, 1, none⟩ = some (.int .i64 m) ∧ w'.cell? ⟨w3.heap.size + 1, 2, none⟩ = some (.int .i64 i) ∧ w'.cell? ⟨w3.heap.size + 1, 3, none⟩ = some (.int .i64 p) ∧ w'.cell? ⟨w3.heap.size + 1, 4, none⟩ = some (.int .i64 k) ∧ w'.cell? ⟨w3.heap.size + 1, 5, none⟩ = some (.int .i64 t)) (by kernel_rfl) S0 (fun hH => ?_)
  clear S0 hB x00 x01 x02 x03 x04 x05 x10 x11 v00 v01 v02 v03 v04 v05 v10 v11 v12 v13 v14 v15 x0q0 x0q1 x0q2 x0q3 x0q4 x0q5 x1q0 x1q1
  refine wpAnyH_take (i := 0) (oi := { dst := some 31, op := Op.load 27 (Operand.tmp 4), type := 27, pos := "law.go:86", after := _, guard := none }) (v := ?_) rfl (by kernel_rfl) (by kernel_rfl) (by kernel_rfl) (fun _ _ _ h => h) (Or.inl ⟨by rfl, ?_⟩) hH ?_
  rotate_left
  · intro wz hSw
    (try dsimp only at hSw)
    first | (go_simp; done) | (go_simp; with_reducible rfl)
  try simp only [Act.put, List.setIfInBounds_toArray, List.set_cons_zero, List.set_cons_succ]
  refine wpAnyH_take (i := 1) (oi := { dst := some 32, op := Op.move (Operand.tmp 2), type := 3, pos := "law.go:86", after := _, guard := none }) (v := ?_) rfl (by kernel_rfl) (by kernel_rfl) (by kernel_rfl) (fun _ _ _ h => h) (Or.inl ⟨by rfl, ?_⟩) hH ?_
  rotate_left
  · intro wz hSw
    (try dsimp only at hSw)
    first | (go_simp; done) | (go_simp; with_reducible rfl)
  try simp only [Act.put, List.setIfInBounds_toArray, List.set_cons_zero, List.set_cons_succ]
  refine wpAnyH_take (i := 2) (oi := { dst := some 33, op := Op.move (Operand.tmp 3), type := 3, pos := "law.go:86", after := _, guard := none }) (v := ?_) rfl (by kernel_rfl) (by kernel_rfl) (by kernel_rfl) (fun _ _ _ h => h) (Or.inl ⟨by rfl, ?_⟩) hH ?_
  rotate_left
  · intro wz hSw
    (try dsimp only at hSw)
    first | (go_simp; done) | (go_simp; with_reducible rfl)
  try simp only [Act.put, List.setIfInBounds_toArray, List.set_cons_zero, List.set_cons_succ]
  refine wpAnyH_ready (rs := [3]) (by kernel_rfl) (by simp) ?_
  refine AllReadyH.cons (o := { dst := some 34, op := Op.call { callee := Callee.value (Operand.func 17), args := #[Operand.tmp 31, Operand.tmp 32, Operand.tmp 33], argTypes := #[27, 3, 3] }, type := 4, pos := "law.go:86", after := _, guard := none }) rfl (fun K hK => ?_) AllReadyH.nil
  go_simp
  refine (ruFits_any a n i p k t x d _).mono ?_
  rw [hF]
  rintro e wq3 ⟨rfl, hbq⟩
  go_wp2_with fail
  refine hK.out _ _ (kept_fits hH hbq) (fun hH2 => ?_)
  clear hK K hH hbq
  have hH := hH2
  clear hH2
  try simp only [Act.put, List.setIfInBounds_toArray, List.set_cons_zero, List.set_cons_succ]
  refine wpAnyH_take (i := 4) (oi := { dst := some 35, op := Op.unOp UnOp.not 4 (Operand.tmp 34), type := 4, pos := "law.go:86", after := _, guard := none }) (v := ?_) rfl (by kernel_rfl) (by kernel_rfl) (by kernel_rfl) (fun _ _ _ h => h) (Or.inl ⟨by rfl, ?_⟩) hH ?_
  rotate_left
  · intro wz hSw
    (try dsimp only at hSw)
    first | (go_simp; done) | (go_simp; with_reducible rfl)
  try simp only [Act.put, List.setIfInBounds_toArray, List.set_cons_zero, List.set_cons_succ]
  refine wpAnyH_take (i := 5) (oi := { dst := some 36, op := Op.move (Operand.tmp 35), type := 4, pos := "law.go:86", after := _, guard := none }) (v := ?_) rfl (by kernel_rfl) (by kernel_rfl) (by kernel_rfl) (fun _ _ _ h => h) (Or.inl ⟨by rfl, ?_⟩) hH ?_
  rotate_left
  · intro wz hSw
    (try dsimp only at hSw)
    first | (go_simp; done) | (go_simp; with_reducible rfl)
  try simp only [Act.put, List.setIfInBounds_toArray, List.set_cons_zero, List.set_cons_succ]
  refine wpAnyH_take (i := 6) (oi := { dst := some 37, op := Op.load 27 (Operand.tmp 10), type := 27, pos := "law.go:86", after := _, guard := some (5, false) }) (v := undef) rfl (by kernel_rfl) (by kernel_rfl) (by kernel_rfl) (fun _ _ _ h => h) (Or.inr ⟨by rfl, rfl⟩) hH ?_
  try simp only [Act.put, List.setIfInBounds_toArray, List.set_cons_zero, List.set_cons_succ]
  refine wpAnyH_take (i := 7) (oi := { dst := some 38, op := Op.move (Operand.tmp 2), type := 3, pos := "law.go:86", after := _, guard := some (5, false) }) (v := undef) rfl (by kernel_rfl) (by kernel_rfl) (by kernel_rfl) (fun _ _ _ h => h) (Or.inr ⟨by rfl, rfl⟩) hH ?_
  try simp only [Act.put, List.setIfInBounds_toArray, List.set_cons_zero, List.set_cons_succ]
  refine wpAnyH_take (i := 8) (oi := { dst := some 39, op := Op.move (Operand.tmp 3), type := 3, pos := "law.go:86", after := _, guard := some (5, false) }) (v := undef) rfl (by kernel_rfl) (by kernel_rfl) (by kernel_rfl) (fun _ _ _ h => h) (Or.inr ⟨by rfl, rfl⟩) hH ?_
  try simp only [Act.put, List.setIfInBounds_toArray, List.set_cons_zero, List.set_cons_succ]
  refine wpAnyH_ready (rs := [9]) (by kernel_rfl) (by simp) ?_
  refine allReady_pass (o := { dst := some 40, op := Op.call { callee := Callee.value (Operand.func 17), args := #[Operand.tmp 37, Operand.tmp 38, Operand.tmp 39], argTypes := #[27, 3, 3] }, type := 4, pos := "law.go:86", after := _, guard := some (5, false) }) rfl (by rfl) hH ?_ AllReadyH.nil
  try simp only [Act.put, List.setIfInBounds_toArray, List.set_cons_zero, List.set_cons_succ]
  refine wpAnyH_take (i := 10) (oi := { dst := some 41, op := Op.pick (Operand.tmp 36) (Operand.const (Value.bool true)) (Operand.tmp 40), type := 4, pos := "law.go:86", after := _, guard := none }) (v := ?_) rfl (by kernel_rfl) (by kernel_rfl) (by kernel_rfl) (fun _ _ _ h => h) (Or.inl ⟨by rfl, ?_⟩) hH ?_
  rotate_left
  · intro wz hSw
    (try dsimp only at hSw)
    first | (go_simp; done) | (go_simp; with_reducible rfl)
  try simp only [Act.put, List.setIfInBounds_toArray, List.set_cons_zero, List.set_cons_succ]
  refine wpAnyH_take (i := 11) (oi := { dst := some 42, op := Op.move (Operand.tmp 41), type := 4, pos := "law.go:86", after := _, guard := none }) (v := ?_) rfl (by kernel_rfl) (by kernel_rfl) (by kernel_rfl) (fun _ _ _ h => h) (Or.inl ⟨by rfl, ?_⟩) hH ?_
  rotate_left
  · intro wz hSw
    (try dsimp only at hSw)
    first | (go_simp; done) | (go_simp; with_reducible rfl)
  try simp only [Act.put, List.setIfInBounds_toArray, List.set_cons_zero, List.set_cons_succ]
  refine wpAnyH_take (i := 12) (oi := { dst := some 43, op := Op.load 23 (Operand.tmp 5), type := 23, pos := "law.go:86", after := _, guard := some (11, true) }) (v := ?_) rfl (by kernel_rfl) (by kernel_rfl) (by kernel_rfl) (fun _ _ _ h => h) (Or.inl ⟨by rfl, ?_⟩) hH ?_
  rotate_left
  · intro wz hSw
    (try dsimp only at hSw)
    first | (go_simp; done) | (go_simp; with_reducible rfl)
  try simp only [Act.put, List.setIfInBounds_toArray, List.set_cons_zero, List.set_cons_succ]
  refine wpAnyH_take (i := 13) (oi := { dst := some 44, op := Op.fieldAddr 27 (Operand.tmp 4) 0, type := 0, pos := "law.go:86", after := _, guard := some (11, true) }) (v := ?_) rfl (by kernel_rfl) (by kernel_rfl) (by kernel_rfl) (fun _ _ _ h => h) (Or.inl ⟨by rfl, ?_⟩) hH ?_
  rotate_left
  · intro wz hSw
    (try dsimp only at hSw)
    first | (go_simp; done) | (go_simp; with_reducible rfl)
  try simp only [Act.put, List.setIfInBounds_toArray, List.set_cons_zero, List.set_cons_succ]
  refine wpAnyH_take (i := 14) (oi := { dst := some 45, op := Op.load 23 (Operand.tmp 44), type := 23, pos := "law.go:86", after := _, guard := some (11, true) }) (v := ?_) rfl (by kernel_rfl) (by kernel_rfl) (by kernel_rfl) (fun _ _ _ h => h) (Or.inl ⟨by rfl, ?_⟩) hH ?_
  rotate_left
  · intro wz hSw
    (try dsimp only at hSw)
    first | (go_simp; done) | (go_simp; with_reducible rfl)
  try simp only [Act.put, List.setIfInBounds_toArray, List.set_cons_zero, List.set_cons_succ]
  refine wpAnyH_ready (rs := [15]) (by kernel_rfl) (by simp) ?_
  refine AllReadyH.cons (o := { dst := some 46, op := Op.call { callee := Callee.value (Operand.func 23), args := #[Operand.tmp 43, Operand.tmp 45], argTypes := #[23, 23] }, type := 4, pos := "law.go:86", after := _, guard := some (11, true) }) rfl (fun K hK => ?_) AllReadyH.nil
  go_simp
  refine (within_any b m a n _).mono ?_
  rw [hV]
  rintro e wq15 ⟨rfl, hbq⟩
  go_wp2_with fail
  refine hK.out _ _ (kept_fits hH hbq) (fun hH2 => ?_)
  clear hK K hH hbq
  have hH := hH2
  clear hH2
  try simp only [Act.put, List.setIfInBounds_toArray, List.set_cons_zero, List.set_cons_succ]
  refine wpAnyH_take (i := 16) (oi := { dst := some 47, op := Op.unOp UnOp.not 4 (Operand.tmp 46), type := 4, pos := "law.go:86", after := _, guard := some (11, true) }) (v := ?_) rfl (by kernel_rfl) (by kernel_rfl) (by kernel_rfl) (fun _ _ _ h => h) (Or.inl ⟨by rfl, ?_⟩) hH ?_
  rotate_left
  · intro wz hSw
    (try dsimp only at hSw)
    first | (go_simp; done) | (go_simp; with_reducible rfl)
  try simp only [Act.put, List.setIfInBounds_toArray, List.set_cons_zero, List.set_cons_succ]
  refine wpAnyH_take (i := 17) (oi := { dst := some 48, op := Op.move (Operand.tmp 47), type := 4, pos := "law.go:86", after := _, guard := some (11, true) }) (v := ?_) rfl (by kernel_rfl) (by kernel_rfl) (by kernel_rfl) (fun _ _ _ h => h) (Or.inl ⟨by rfl, ?_⟩) hH ?_
  rotate_left
  · intro wz hSw
    (try dsimp only at hSw)
    first | (go_simp; done) | (go_simp; with_reducible rfl)
  try simp only [Act.put, List.setIfInBounds_toArray, List.set_cons_zero, List.set_cons_succ]
  refine wpAnyH_take (i := 18) (oi := { dst := some 49, op := Op.load 27 (Operand.tmp 4), type := 27, pos := "law.go:86", after := _, guard := some (17, false) }) (v := ?_) rfl (by kernel_rfl) (by kernel_rfl) (by kernel_rfl) (fun _ _ _ h => h) (Or.inl ⟨by rfl, ?_⟩) hH ?_
  rotate_left
  · intro wz hSw
    (try dsimp only at hSw)
    first | (go_simp; done) | (go_simp; with_reducible rfl)
  try simp only [Act.put, List.setIfInBounds_toArray, List.set_cons_zero, List.set_cons_succ]
  refine wpAnyH_take (i := 19) (oi := { dst := some 50, op := Op.move (Operand.tmp 2), type := 3, pos := "law.go:86", after := _, guard := some (17, false) }) (v := ?_) rfl (by kernel_rfl) (by kernel_rfl) (by kernel_rfl) (fun _ _ _ h => h) (Or.inl ⟨by rfl, ?_⟩) hH ?_
  rotate_left
  · intro wz hSw
    (try dsimp only at hSw)
    first | (go_simp; done) | (go_simp; with_reducible rfl)
  try simp only [Act.put, List.setIfInBounds_toArray, List.set_cons_zero, List.set_cons_succ]
  refine wpAnyH_take (i := 20) (oi := { dst := some 51, op := Op.move (Operand.tmp 3), type := 3, pos := "law.go:86", after := _, guard := some (17, false) }) (v := ?_) rfl (by kernel_rfl) (by kernel_rfl) (by kernel_rfl) (fun _ _ _ h => h) (Or.inl ⟨by rfl, ?_⟩) hH ?_
  rotate_left
  · intro wz hSw
    (try dsimp only at hSw)
    first | (go_simp; done) | (go_simp; with_reducible rfl)
  try simp only [Act.put, List.setIfInBounds_toArray, List.set_cons_zero, List.set_cons_succ]
  refine wpAnyH_ready (rs := [21]) (by kernel_rfl) (by simp) ?_
  refine AllReadyH.cons (o := { dst := some 52, op := Op.call { callee := Callee.value (Operand.func 17), args := #[Operand.tmp 49, Operand.tmp 50, Operand.tmp 51], argTypes := #[27, 3, 3] }, type := 4, pos := "law.go:86", after := _, guard := some (17, false) }) rfl (fun K hK => ?_) AllReadyH.nil
  go_simp
  refine (ruFits_any a n i p k t x d _).mono ?_
  rw [hF]
  rintro e wq21 ⟨rfl, hbq⟩
  go_wp2_with fail
  refine hK.out _ _ (kept_fits hH hbq) (fun hH2 => ?_)
  clear hK K hH hbq
  have hH := hH2
  clear hH2
  try simp only [Act.put, List.setIfInBounds_toArray, List.set_cons_zero, List.set_cons_succ]
  refine wpAnyH_take (i := 22) (oi := { dst := some 53, op := Op.unOp UnOp.not 4 (Operand.tmp 52), type := 4, pos := "law.go:86", after := _, guard := some (17, false) }) (v := ?_) rfl (by kernel_rfl) (by kernel_rfl) (by kernel_rfl) (fun _ _ _ h => h) (Or.inl ⟨by rfl, ?_⟩) hH ?_
  rotate_left
  · intro wz hSw
    (try dsimp only at hSw)
    first | (go_simp; done) | (go_simp; with_reducible rfl)
  try simp only [Act.put, List.setIfInBounds_toArray, List.set_cons_zero, List.set_cons_succ]
  refine wpAnyH_take (i := 23) (oi := { dst := some 54, op := Op.pick (Operand.tmp 48) (Operand.const (Value.bool true)) (Operand.tmp 53), type := 4, pos := "law.go:86", after := _, guard := some (11, true) }) (v := ?_) rfl (by kernel_rfl) (by kernel_rfl) (by kernel_rfl) (fun _ _ _ h => h) (Or.inl ⟨by rfl, ?_⟩) hH ?_
  rotate_left
  · intro wz hSw
    (try dsimp only at hSw)
    first | (go_simp; done) | (go_simp; with_reducible rfl)
  try simp only [Act.put, List.setIfInBounds_toArray, List.set_cons_zero, List.set_cons_succ]
  refine wpAnyH_take (i := 24) (oi := { dst := some 55, op := Op.move (Operand.tmp 54), type := 4, pos := "law.go:86", after := _, guard := some (11, true) }) (v := ?_) rfl (by kernel_rfl) (by kernel_rfl) (by kernel_rfl) (fun _ _ _ h => h) (Or.inl ⟨by rfl, ?_⟩) hH ?_
  rotate_left
  · intro wz hSw
    (try dsimp only at hSw)
    first | (go_simp; done) | (go_simp; with_reducible rfl)
  try simp only [Act.put, List.setIfInBounds_toArray, List.set_cons_zero, List.set_cons_succ]
  refine wpAnyH_take (i := 25) (oi := { dst := some 56, op := Op.load 27 (Operand.tmp 11), type := 27, pos := "law.go:86", after := _, guard := some (24, false) }) (v := undef) rfl (by kernel_rfl) (by kernel_rfl) (by kernel_rfl) (fun _ _ _ h => h) (Or.inr ⟨by rfl, rfl⟩) hH ?_
  try simp only [Act.put, List.setIfInBounds_toArray, List.set_cons_zero, List.set_cons_succ]
  refine wpAnyH_take (i := 26) (oi := { dst := some 57, op := Op.move (Operand.tmp 2), type := 3, pos := "law.go:86", after := _, guard := some (24, false) }) (v := undef) rfl (by kernel_rfl) (by kernel_rfl) (by kernel_rfl) (fun _ _ _ h => h) (Or.inr ⟨by rfl, rfl⟩) hH ?_
  try simp only [Act.put, List.setIfInBounds_toArray, List.set_cons_zero, List.set_cons_succ]
  refine wpAnyH_take (i := 27) (oi := { dst := some 58, op := Op.move (Operand.tmp 3), type := 3, pos := "law.go:86", after := _, guard := some (24, false) }) (v := undef) rfl (by kernel_rfl) (by kernel_rfl) (by kernel_rfl) (fun _ _ _ h => h) (Or.inr ⟨by rfl, rfl⟩) hH ?_
  try simp only [Act.put, List.setIfInBounds_toArray, List.set_cons_zero, List.set_cons_succ]
  refine wpAnyH_ready (rs := [28]) (by kernel_rfl) (by simp) ?_
  refine allReady_pass (o := { dst := some 59, op := Op.call { callee := Callee.value (Operand.func 17), args := #[Operand.tmp 56, Operand.tmp 57, Operand.tmp 58], argTypes := #[27, 3, 3] }, type := 4, pos := "law.go:86", after := _, guard := some (24, false) }) rfl (by rfl) hH ?_ AllReadyH.nil
  try simp only [Act.put, List.setIfInBounds_toArray, List.set_cons_zero, List.set_cons_succ]
  refine wpAnyH_take (i := 29) (oi := { dst := some 60, op := Op.pick (Operand.tmp 55) (Operand.const (Value.bool true)) (Operand.tmp 59), type := 4, pos := "law.go:86", after := _, guard := some (11, true) }) (v := ?_) rfl (by kernel_rfl) (by kernel_rfl) (by kernel_rfl) (fun _ _ _ h => h) (Or.inl ⟨by rfl, ?_⟩) hH ?_
  rotate_left
  · intro wz hSw
    (try dsimp only at hSw)
    first | (go_simp; done) | (go_simp; with_reducible rfl)
  try simp only [Act.put, List.setIfInBounds_toArray, List.set_cons_zero, List.set_cons_succ]
  refine wpAnyH_take (i := 30) (oi := { dst := some 61, op := Op.pick (Operand.tmp 42) (Operand.tmp 60) (Operand.const (Value.bool false)), type := 4, pos := "law.go:86", after := _, guard := none }) (v := ?_) rfl (by kernel_rfl) (by kernel_rfl) (by kernel_rfl) (fun _ _ _ h => h) (Or.inl ⟨by rfl, ?_⟩) hH ?_
  rotate_left
  · intro wz hSw
    (try dsimp only at hSw)
    first | (go_simp; done) | (go_simp; with_reducible rfl)
  try simp only [Act.put, List.setIfInBounds_toArray, List.set_cons_zero, List.set_cons_succ]
  refine wpAnyH_take (i := 31) (oi := { dst := some 62, op := Op.move (Operand.tmp 61), type := 4, pos := "law.go:86", after := _, guard := none }) (v := ?_) rfl (by kernel_rfl) (by kernel_rfl) (by kernel_rfl) (fun _ _ _ h => h) (Or.inl ⟨by rfl, ?_⟩) hH ?_
  rotate_left
  · intro wz hSw
    (try dsimp only at hSw)
    first | (go_simp; done) | (go_simp; with_reducible rfl)
  try simp only [Act.put, List.setIfInBounds_toArray, List.set_cons_zero, List.set_cons_succ]
  refine wpAnyH_take (i := 32) (oi := { dst := some 63, op := Op.load 27 (Operand.tmp 10), type := 27, pos := "law.go:86", after := _, guard := some (31, true) }) (v := ?_) rfl (by kernel_rfl) (by kernel_rfl) (by kernel_rfl) (fun _ _ _ h => h) (Or.inl ⟨by rfl, ?_⟩) hH ?_
  rotate_left
  · intro wz hSw
    (try dsimp only at hSw)
    first | (go_simp; done) | (go_simp; with_reducible rfl)
  try simp only [Act.put, List.setIfInBounds_toArray, List.set_cons_zero, List.set_cons_succ]
  refine wpAnyH_take (i := 33) (oi := { dst := some 64, op := Op.move (Operand.tmp 2), type := 3, pos := "law.go:86", after := _, guard := some (31, true) }) (v := ?_) rfl (by kernel_rfl) (by kernel_rfl) (by kernel_rfl) (fun _ _ _ h => h) (Or.inl ⟨by rfl, ?_⟩) hH ?_
  rotate_left
  · intro wz hSw
    (try dsimp only at hSw)
    first | (go_simp; done) | (go_simp; with_reducible rfl)
  try simp only [Act.put, List.setIfInBounds_toArray, List.set_cons_zero, List.set_cons_succ]
  refine wpAnyH_take (i := 34) (oi := { dst := some 65, op := Op.move (Operand.tmp 3), type := 3, pos := "law.go:86", after := _, guard := some (31, true) }) (v := ?_) rfl (by kernel_rfl) (by kernel_rfl) (by kernel_rfl) (fun _ _ _ h => h) (Or.inl ⟨by rfl, ?_⟩) hH ?_
  rotate_left
  · intro wz hSw
    (try dsimp only at hSw)
    first | (go_simp; done) | (go_simp; with_reducible rfl)
  try simp only [Act.put, List.setIfInBounds_toArray, List.set_cons_zero, List.set_cons_succ]
  refine wpAnyH_take (i := 36) (oi := { dst := some 67, op := Op.fieldAddr 27 (Operand.tmp 4) 0, type := 0, pos := "law.go:86", after := _, guard := some (31, true) }) (v := ?_) rfl (by kernel_rfl) (by kernel_rfl) (by kernel_rfl) (fun _ _ _ h => h) (Or.inl ⟨by rfl, ?_⟩) hH ?_
  rotate_left
  · intro wz hSw
    (try dsimp only at hSw)
    first | (go_simp; done) | (go_simp; with_reducible rfl)
  try simp only [Act.put, List.setIfInBounds_toArray, List.set_cons_zero, List.set_cons_succ]
  refine wpAnyH_take (i := 37) (oi := { dst := some 68, op := Op.load 23 (Operand.tmp 67), type := 23, pos := "law.go:86", after := _, guard := some (31, true) }) (v := ?_) rfl (by kernel_rfl) (by kernel_rfl) (by kernel_rfl) (fun _ _ _ h => h) (Or.inl ⟨by rfl, ?_⟩) hH ?_
  rotate_left
  · intro wz hSw
    (try dsimp only at hSw)
    first | (go_simp; done) | (go_simp; with_reducible rfl)
  try simp only [Act.put, List.setIfInBounds_toArray, List.set_cons_zero, List.set_cons_succ]
  refine wpAnyH_take (i := 38) (oi := { dst := some 69, op := Op.move (Operand.tmp 3), type := 3, pos := "law.go:86", after := _, guard := some (31, true) }) (v := ?_) rfl (by kernel_rfl) (by kernel_rfl) (by kernel_rfl) (fun _ _ _ h => h) (Or.inl ⟨by rfl, ?_⟩) hH ?_
  rotate_left
  · intro wz hSw
    (try dsimp only at hSw)
    first | (go_simp; done) | (go_simp; with_reducible rfl)
  try simp only [Act.put, List.setIfInBounds_toArray, List.set_cons_zero, List.set_cons_succ]
  refine wpAnyH_ready (rs := [35]) (by kernel_rfl) (by simp) ?_
  refine AllReadyH.cons (o := { dst := some 66, op := Op.call { callee := Callee.value (Operand.func 17), args := #[Operand.tmp 63, Operand.tmp 64, Operand.tmp 65], argTypes := #[27, 3, 3] }, type := 4, pos := "law.go:86", after := _, guard := some (31, true) }) rfl (fun K hK => ?_) AllReadyH.nil
  go_simp
  refine (ruFits_any a n (-1) p k t x d _).mono ?_
  rw [hAny]
  rintro e wq35 ⟨rfl, hbq⟩
  go_wp2_with fail
  refine hK.out _ _ (kept_fits hH hbq) (fun hH2 => ?_)
  clear hK K hH hbq
  have hH := hH2
  clear hH2
  try simp only [Act.put, List.setIfInBounds_toArray, List.set_cons_zero, List.set_cons_succ]
  refine wpAnyH_ready (rs := [39]) (by kernel_rfl) (by simp) ?_
  refine AllReadyH.cons (o := { dst := some 70, op := Op.call { callee := Callee.value (Operand.func 24), args := #[Operand.tmp 68, Operand.tmp 69], argTypes := #[23, 3] }, type := 4, pos := "law.go:86", after := _, guard := some (31, true) }) rfl (fun K hK => ?_) AllReadyH.nil
  go_simp
  refine (has_any a n d _).mono ?_
  rw [hH0]
  rintro e wq39 ⟨rfl, hbq⟩
  go_wp2_with fail
  refine hK.out _ _ (kept_fits hH hbq) (fun hH2 => ?_)
  clear hK K hH hbq
  have hH := hH2
  clear hH2
  try simp only [Act.put, List.setIfInBounds_toArray, List.set_cons_zero, List.set_cons_succ]
  refine wpAnyH_take (i := 40) (oi := { dst := some 71, op := Op.binOp BinOp.eql 4 (Operand.tmp 66) (Operand.tmp 70) 4, type := 4, pos := "law.go:86", after := _, guard := some (31, true) }) (v := ?_) rfl (by kernel_rfl) (by kernel_rfl) (by kernel_rfl) (fun _ _ _ h => h) (Or.inl ⟨by rfl, ?_⟩) hH ?_
  rotate_left
  · intro wz hSw
    (try dsimp only at hSw)
    first | (go_simp; done) | (go_simp; with_reducible rfl)
  try simp only [Act.put, List.setIfInBounds_toArray, List.set_cons_zero, List.set_cons_succ]
  refine wpAnyH_take (i := 41) (oi := { dst := some 72, op := Op.pick (Operand.tmp 62) (Operand.tmp 71) (Operand.const (Value.bool false)), type := 4, pos := "law.go:86", after := _, guard := none }) (v := ?_) rfl (by kernel_rfl) (by kernel_rfl) (by kernel_rfl) (fun _ _ _ h => h) (Or.inl ⟨by rfl, ?_⟩) hH ?_
  rotate_left
  · intro wz hSw
    (try dsimp only at hSw)
    first | (go_simp; done) | (go_simp; with_reducible rfl)
  try simp only [Act.put, List.setIfInBounds_toArray, List.set_cons_zero, List.set_cons_succ]
  refine wpAnyH_take (i := 42) (oi := { dst := some 8, op := Op.assign (Operand.tmp 72), type := 4, pos := "law.go:86", after := _, guard := none }) (v := ?_) rfl (by kernel_rfl) (by kernel_rfl) (by kernel_rfl) (fun _ _ _ h => h) (Or.inl ⟨by rfl, ?_⟩) hH ?_
  rotate_left
  · intro wz hSw
    (try dsimp only at hSw)
    first | (go_simp; done) | (go_simp; with_reducible rfl)
  try simp only [Act.put, List.setIfInBounds_toArray, List.set_cons_zero, List.set_cons_succ]
  refine wpAnyH_done (by kernel_rfl) ?_ _
  refine NoPanic.normal ?_
  go_wp2_with fail
  go_ret
  exact ⟨rfl, hH.1⟩
set_option maxHeartbeats 4000000 in
theorem fits_fft (a n i p k t b m x d : Int) (w : World)
    (cM : ∀ w, Calls Try.prog 16 #[.agg #[.int .i64 a, .int .i64 n, .int .i64 i, .int .i64 p, .int .i64 k, .int .i64 t]] w fun e w' => e = .returned (.bool true) ∧ Below w.heap.size w w')
    (cP : ∀ w, Calls Try.prog 22 #[.agg #[.int .i64 b, .int .i64 m]] w fun e w' => e = .returned (.bool true) ∧ Below w.heap.size w w')
    (hF : fitB a n i x d = false)
    (hAny : fitB a n (-1) x d = true)
    (hV : M.inB b m a n = false)
    (hH0 : M.hasB a n d = true) :
    Calls Try.prog 7 #[.agg #[.int .i64 a, .int .i64 n, .int .i64 i, .int .i64 p, .int .i64 k, .int .i64 t], .agg #[.int .i64 b, .int .i64 m], .int .i64 x, .int .i64 d] w fun e w' => e = .returned (.bool true) ∧ Below w.heap.size w w' := by
  have hn0 := below_new w (.cells #[.int .i64 a, .int .i64 n, .int .i64 i, .int .i64 p, .int .i64 k, .int .i64 t] 27)
  have X0 := Lies.new w [a, n, i, p, k, t] 27 (B := w.heap.size) rfl
  have hB := hn0
  have hn1 := below_new (w.alloc (.cells #[.int .i64 a, .int .i64 n, .int .i64 i, .int .i64 p, .int .i64 k, .int .i64 t] 27)) (.cells #[.int .i64 b, .int .i64 m] 23)
  have X1 := Lies.new (w.alloc (.cells #[.int .i64 a, .int .i64 n, .int .i64 i, .int .i64 p, .int .i64 k, .int .i64 t] 27)) [b, m] 23 (B := w.heap.size + 1) (by simp)
  replace X0 := X0.later hn1
  replace hB := below_step hB hn1
  clear hn0 hn1
  obtain ⟨x00, x01, x02, x03, x04, x05⟩ := X0.six
  obtain ⟨x10, x11⟩ := X1.two
  go_enter Try.func7, Try.ntmps7
  go_wp2_with fail
  refine (awake_any _).mono ?_
  rintro e w1 ⟨rfl, hb1⟩
  clear x00 x01 x02 x03 x04 x05
  clear x10 x11
  replace X0 := X0.later hb1
  replace X1 := X1.later hb1
  replace hB := below_step hB hb1
  clear hb1
  obtain ⟨x00, x01, x02, x03, x04, x05⟩ := X0.six
  obtain ⟨x10, x11⟩ := X1.two
  go_wp2_with fail
  refine (cM _).mono ?_
  rintro e w2 ⟨rfl, hb2⟩
  clear x00 x01 x02 x03 x04 x05
  clear x10 x11
  replace X0 := X0.later hb2
  replace X1 := X1.later hb2
  replace hB := below_step hB hb2
  clear hb2
  obtain ⟨x00, x01, x02, x03, x04, x05⟩ := X0.six
  obtain ⟨x10, x11⟩ := X1.two
  go_wp2_with fail
  refine (cP _).mono ?_
  rintro e w3 ⟨rfl, hb3⟩
  clear x00 x01 x02 x03 x04 x05
  clear x10 x11
  replace X0 := X0.later hb3
  replace X1 := X1.later hb3
  replace hB := below_step hB hb3
  clear hb3
  obtain ⟨x00, x01, x02, x03, x04, x05⟩ := X0.six
  obtain ⟨x10, x11⟩ := X1.two
  have hq0 := below_new w3 (.cells #[.int .i64 a, .int .i64 n, .int .i64 i, .int .i64 p, .int .i64 k, .int .i64 t] 27)
  obtain ⟨x0q0, x0q1, x0q2, x0q3, x0q4, x0q5⟩ := (X0.later hq0).six
  obtain ⟨x1q0, x1q1⟩ := (X1.later hq0).two
  clear hq0
  have hv0 := below_new w3 (.cells #[.int .i64 a, .int .i64 n, .int .i64 (-1), .int .i64 p, .int .i64 k, .int .i64 t] 27)
  replace X0 := X0.later hv0
  replace X1 := X1.later hv0
  replace hB := below_step hB hv0
  clear hv0
  have V0 := Lies.new w3 [a, n, -1, p, k, t] 27 (B := w3.heap.size) rfl
  obtain ⟨x00, x01, x02, x03, x04, x05⟩ := X0.six
  obtain ⟨x10, x11⟩ := X1.two
  obtain ⟨v00, v01, v02, v03, v04, v05⟩ := V0.six
  have hq1 := below_new (w3.alloc (.cells #[.int .i64 a, .int .i64 n, .int .i64 (-1), .int .i64 p, .int .i64 k, .int .i64 t] 27)) (.cells #[.int .i64 a, .int .i64 n, .int .i64 i, .int .i64 p, .int .i64 k, .int .i64 t] 27)
  obtain ⟨x0q0, x0q1, x0q2, x0q3, x0q4, x0q5⟩ := (X0.later hq1).six
  obtain ⟨x1q0, x1q1⟩ := (X1.later hq1).two
  obtain ⟨v0q0, v0q1, v0q2, v0q3, v0q4, v0q5⟩ := (V0.later hq1).six
  clear hq1
  have hv1 := below_new (w3.alloc (.cells #[.int .i64 a, .int .i64 n, .int .i64 (-1), .int .i64 p, .int .i64 k, .int .i64 t] 27)) (.cells #[.int .i64 b, .int .i64 m, .int .i64 i, .int .i64 p, .int .i64 k, .int .i64 t] 27)
  replace X0 := X0.later hv1
  replace X1 := X1.later hv1
  replace V0 := V0.later hv1
  replace hB := below_step hB hv1
  clear hv1
  have V1 := Lies.new (w3.alloc (.cells #[.int .i64 a, .int .i64 n, .int .i64 (-1), .int .i64 p, .int .i64 k, .int .i64 t] 27)) [b, m, i, p, k, t] 27 (B := w3.heap.size + 1) (by simp)
  obtain ⟨x00, x01, x02, x03, x04, x05⟩ := X0.six
  obtain ⟨x10, x11⟩ := X1.two
  obtain ⟨v00, v01, v02, v03, v04, v05⟩ := V0.six
  obtain ⟨v10, v11, v12, v13, v14, v15⟩ := V1.six
  have S0 : Below w.heap.size w ((w3.alloc (.cells #[.int .i64 a, .int .i64 n, .int .i64 (-1), .int .i64 p, .int .i64 k, .int .i64 t] 27)).alloc (.cells #[.int .i64 b, .int .i64 m, .int .i64 i, .int .i64 p, .int .i64 k, .int .i64 t] 27)).drew ∧ w.heap.size < ((w3.alloc (.cells #[.int .i64 a, .int .i64 n, .int .i64 (-1), .int .i64 p, .int .i64 k, .int .i64 t] 27)).alloc (.cells #[.int .i64 b, .int .i64 m, .int .i64 i, .int .i64 p, .int .i64 k, .int .i64 t] 27)).drew.heap.size ∧ w.heap.size + 1 < ((w3.alloc (.cells #[.int .i64 a, .int .i64 n, .int .i64 (-1), .int .i64 p, .int .i64 k, .int .i64 t] 27)).alloc (.cells #[.int .i64 b, .int .i64 m, .int .i64 i, .int .i64 p, .int .i64 k, .int .i64 t] 27)).drew.heap.size ∧ w3.heap.size < ((w3.alloc (.cells #[.int .i64 a, .int .i64 n, .int .i64 (-1), .int .i64 p, .int .i64 k, .int .i64 t] 27)).alloc (.cells #[.int .i64 b, .int .i64 m, .int .i64 i, .int .i64 p, .int .i64 k, .int .i64 t] 27)).drew.heap.size ∧ w3.heap.size + 1 < ((w3.alloc (.cells #[.int .i64 a, .int .i64 n, .int .i64 (-1), .int .i64 p, .int .i64 k, .int .i64 t] 27)).alloc (.cells #[.int .i64 b, .int .i64 m, .int .i64 i, .int .i64 p, .int .i64 k, .int .i64 t] 27)).drew.heap.size ∧ ((w3.alloc (.cells #[.int .i64 a, .int .i64 n, .int .i64 (-1), .int .i64 p, .int .i64 k, .int .i64 t] 27)).alloc (.cells #[.int .i64 b, .int .i64 m, .int .i64 i, .int .i64 p, .int .i64 k, .int .i64 t] 27)).drew.cell? ⟨w.heap.size, 0, none⟩ = some (.int .i64 a) ∧ ((w3.alloc (.cells #[.int .i64 a, .int .i64 n, .int .i64 (-1), .int .i64 p, .int .i64 k, .int .i64 t] 27)).alloc (.cells #[.int .i64 b, .int .i64 m, .int .i64 i, .int .i64 p, .int .i64 k, .int .i64 t] 27)).drew.cell? ⟨w.heap.size, 1, none⟩ = some (.int .i64 n) ∧ ((w3.alloc (.cells #[.int .i64 a, .int .i64 n, .int .i64 (-1), .int .i64 p, .int .i64 k, .int .i64 t] 27)).alloc (.cells #[.int .i64 b, .int .i64 m, .int .i64 i, .int .i64 p, .int .i64 k, .int .i64 t] 27)).drew.cell? ⟨w.heap.size, 2, none⟩ = some (.int .i64 i) ∧ ((w3.alloc (.cells #[.int .i64 a, .int .i64 n, .int .i64 (-1), .int .i64 p, .int .i64 k, .int .i64 t] 27)).alloc (.cells #[.int .i64 b, .int .i64 m, .int .i64 i, .int .i64 p, .int .i64 k, .int .i64 t] 27)).drew.cell? ⟨w.heap.size, 3, none⟩ = some (.int .i64 p) ∧ ((w3.alloc (.cells #[.int .i64 a, .int .i64 n, .int .i64 (-1), .int .i64 p, .int .i64 k, .int .i64 t] 27)).alloc (.cells #[.int .i64 b, .int .i64 m, .int .i64 i, .int .i64 p, .int .i64 k, .int .i64 t] 27)).drew.cell? ⟨w.heap.size, 4, none⟩ = some (.int .i64 k) ∧ ((w3.alloc (.cells #[.int .i64 a, .int .i64 n, .int .i64 (-1), .int .i64 p, .int .i64 k, .int .i64 t] 27)).alloc (.cells #[.int .i64 b, .int .i64 m, .int .i64 i, .int .i64 p, .int .i64 k, .int .i64 t] 27)).drew.cell? ⟨w.heap.size, 5, none⟩ = some (.int .i64 t) ∧ ((w3.alloc (.cells #[.int .i64 a, .int .i64 n, .int .i64 (-1), .int .i64 p, .int .i64 k, .int .i64 t] 27)).alloc (.cells #[.int .i64 b, .int .i64 m, .int .i64 i, .int .i64 p, .int .i64 k, .int .i64 t] 27)).drew.cell? ⟨w.heap.size + 1, 0, none⟩ = some (.int .i64 b) ∧ ((w3.alloc (.cells #[.int .i64 a, .int .i64 n, .int .i64 (-1), .int .i64 p, .int .i64 k, .int .i64 t] 27)).alloc (.cells #[.int .i64 b, .int .i64 m, .int .i64 i, .int .i64 p, .int .i64 k, .int .i64 t] 27)).drew.cell? ⟨w.heap.size + 1, 1, none⟩ = some (.int .i64 m) ∧ ((w3.alloc (.cells #[.int .i64 a, .int .i64 n, .int .i64 (-1), .int .i64 p, .int .i64 k, .int .i64 t] 27)).alloc (.cells #[.int .i64 b, .int .i64 m, .int .i64 i, .int .i64 p, .int .i64 k, .int .i64 t] 27)).drew.cell? ⟨w3.heap.size, 0, none⟩ = some (.int .i64 a) ∧ ((w3.alloc (.cells #[.int .i64 a, .int .i64 n, .int .i64 (-1), .int .i64 p, .int .i64 k, .int .i64 t] 27)).alloc (.cells #[.int .i64 b, .int .i64 m, .int .i64 i, .int .i64 p, .int .i64 k, .int .i64 t] 27)).drew.cell? ⟨w3.heap.size, 1, none⟩ = some (.int .i64 n) ∧ ((w3.alloc (.cells #[.int .i64 a, .int .i64 n, .int .i64 (-1), .int .i64 p, .int .i64 k, .int .i64 t] 27)).alloc (.cells #[.int .i64 b, .int .i64 m, .int .i64 i, .int .i64 p, .int .i64 k, .int .i64 t] 27)).drew.cell? ⟨w3.heap.size, 2, none⟩ = some (.int .i64 (-1)) ∧ ((w3.alloc (.cells #[.int .i64 a, .int .i64 n, .int .i64 (-1), .int .i64 p, .int .i64 k, .int .i64 t] 27)).alloc (.cells #[.int .i64 b, .int .i64 m, .int .i64 i, .int .i64 p, .int .i64 k, .int .i64 t] 27)).drew.cell? ⟨w3.heap.size, 3, none⟩ = some (.int .i64 p) ∧ ((w3.alloc (.cells #[.int .i64 a, .int .i64 n, .int .i64 (-1), .int .i64 p, .int .i64 k, .int .i64 t] 27)).alloc (.cells #[.int .i64 b, .int .i64 m, .int .i64 i, .int .i64 p, .int .i64 k, .int .i64 t] 27)).drew.cell? ⟨w3.heap.size, 4, none⟩ = some (.int .i64 k) ∧ ((w3.alloc (.cells #[.int .i64 a, .int .i64 n, .int .i64 (-1), .int .i64 p, .int .i64 k, .int .i64 t] 27)).alloc (.cells #[.int .i64 b, .int .i64 m, .int .i64 i, .int .i64 p, .int .i64 k, .int .i64 t] 27)).drew.cell? ⟨w3.heap.size, 5, none⟩ = some (.int .i64 t) ∧ ((w3.alloc (.cells #[.int .i64 a, .int .i64 n, .int .i64 (-1), .int .i64 p, .int .i64 k, .int .i64 t] 27)).alloc (.cells #[.int .i64 b, .int .i64 m, .int .i64 i, .int .i64 p, .int .i64 k, .int .i64 t] 27)).drew.cell? ⟨w3.heap.size + 1, 0, none⟩ = some (.int .i64 b) ∧ ((w3.alloc (.cells #[.int .i64 a, .int .i64 n, .int .i64 (-1), .int .i64 p, .int .i64 k, .int .i64 t] 27)).alloc (.cells #[.int .i64 b, .int .i64 m, .int .i64 i, .int .i64 p, .int .i64 k, .int .i64 t] 27)).drew.cell? ⟨w3.heap.size + 1, 1, none⟩ = some (.int .i64 m) ∧ ((w3.alloc (.cells #[.int .i64 a, .int .i64 n, .int .i64 (-1), .int .i64 p, .int .i64 k, .int .i64 t] 27)).alloc (.cells #[.int .i64 b, .int .i64 m, .int .i64 i, .int .i64 p, .int .i64 k, .int .i64 t] 27)).drew.cell? ⟨w3.heap.size + 1, 2, none⟩ = some (.int .i64 i) ∧ ((w3.alloc (.cells #[.int .i64 a, .int .i64 n, .int .i64 (-1), .int .i64 p, .int .i64 k, .int .i64 t] 27)).alloc (.cells #[.int .i64 b, .int .i64 m, .int .i64 i, .int .i64 p, .int .i64 k, .int .i64 t] 27)).drew.cell? ⟨w3.heap.size + 1, 3, none⟩ = some (.int .i64 p) ∧ ((w3.alloc (.cells #[.int .i64 a, .int .i64 n, .int .i64 (-1), .int .i64 p, .int .i64 k, .int .i64 t] 27)).alloc (.cells #[.int .i64 b, .int .i64 m, .int .i64 i, .int .i64 p, .int .i64 k, .int .i64 t] 27)).drew.cell? ⟨w3.heap.size + 1, 4, none⟩ = some (.int .i64 k) ∧ ((w3.alloc (.cells #[.int .i64 a, .int .i64 n, .int .i64 (-1), .int .i64 p, .int .i64 k, .int .i64 t] 27)).alloc (.cells #[.int .i64 b, .int .i64 m, .int .i64 i, .int .i64 p, .int .i64 k, .int .i64 t] 27)).drew.cell? ⟨w3.heap.size + 1, 5, none⟩ = some (.int .i64 t) := ⟨hB.drew, X0.lt, X1.lt, V0.lt, V1.lt, x00, x01, x02, x03, x04, x05, x10, x11, v00, v01, v02, v03, v04, v05, v10, v11, v12, v13, v14, v15⟩
  clear X0 X1 V0 V1
  go_wp2_with fail
  refine wp_region_noPanic ?_
  refine wp_region_held_drew (S := fun w' => Below w.heap.size w w' ∧ w.heap.size < w'.heap.size ∧ w.heap.size + 1 < w'.heap.size ∧ w3.heap.size < w'.heap.size ∧ w3.heap.size + 1 < w'.heap.size ∧ w'.cell? ⟨w.heap.size, 0, none⟩ = some (.int .i64 a) ∧ w'.cell? ⟨w.heap.size, 1, none⟩ = some (.int .i64 n) ∧ w'.cell? ⟨w.heap.size, 2, none⟩ = some (.int .i64 i) ∧ w'.cell? ⟨w.heap.size, 3, none⟩ = some (.int .i64 p) ∧ w'.cell? ⟨w.heap.size, 4, none⟩ = some (.int .i64 k) ∧ w'.cell? ⟨w.heap.size, 5, none⟩ = some (.int .i64 t) ∧ w'.cell? ⟨w.heap.size + 1, 0, none⟩ = some (.int .i64 b) ∧ w'.cell? ⟨w.heap.size + 1, 1, none⟩ = some (.int .i64 m) ∧ w'.cell? ⟨w3.heap.size, 0, none⟩ = some (.int .i64 a) ∧ w'.cell? ⟨w3.heap.size, 1, none⟩ = some (.int .i64 n) ∧ w'.cell? ⟨w3.heap.size, 2, none⟩ = some (.int .i64 (-1)) ∧ w'.cell? ⟨w3.heap.size, 3, none⟩ = some (.int .i64 p) ∧ w'.cell? ⟨w3.heap.size, 4, none⟩ = some (.int .i64 k) ∧ w'.cell? ⟨w3.heap.size, 5, none⟩ = some (.int .i64 t) ∧ w'.cell? ⟨w3.heap.size + 1, 0, none⟩ = some (.int .i64 b) ∧ w'.cell? ⟨w3.heap.size + 1, 1, none⟩ = some (.int .i64 m) ∧ w'.cell? ⟨w3.heap.size + 1, 2, none⟩ = some (.int .i64 i) ∧ w'.cell? ⟨w3.heap.size + 1, 3, none⟩ = some (.int .i64 p) ∧ w'.cell? ⟨w3.heap.size + 1, 4, none⟩ = some (.int .i64 k) ∧ w'.cell? ⟨w3.heap.size + 1, 5, none⟩ = some (.int .i64 t)) (by kernel_rfl) S0 (fun hH => ?_)
  clear S0 hB x00 x01 x02 x03 x04 x05 x10 x11 v00 v01 v02 v03 v04 v05 v10 v11 v12 v13 v14 v15 x0q0 x0q1 x0q2 x0q3 x0q4 x0q5 x1q0 x1q1
  refine wpAnyH_take (i := 0) (oi := { dst := some 31, op := Op.load 27 (Operand.tmp 4), type := 27, pos := "law.go:86", after := _, guard := none }) (v := ?_) rfl (by kernel_rfl) (by kernel_rfl) (by kernel_rfl) (fun _ _ _ h => h) (Or.inl ⟨by rfl, ?_⟩) hH ?_
  rotate_left
  · intro wz hSw
    (try dsimp only at hSw)
    first | (go_simp; done) | (go_simp; with_reducible rfl)
  try simp only [Act.put, List.setIfInBounds_toArray, List.set_cons_zero, List.set_cons_succ]
  refine wpAnyH_take (i := 1) (oi := { dst := some 32, op := Op.move (Operand.tmp 2), type := 3, pos := "law.go:86", after := _, guard := none }) (v := ?_) rfl (by kernel_rfl) (by kernel_rfl) (by kernel_rfl) (fun _ _ _ h => h) (Or.inl ⟨by rfl, ?_⟩) hH ?_
  rotate_left
  · intro wz hSw
    (try dsimp only at hSw)
    first | (go_simp; done) | (go_simp; with_reducible rfl)
  try simp only [Act.put, List.setIfInBounds_toArray, List.set_cons_zero, List.set_cons_succ]
  refine wpAnyH_take (i := 2) (oi := { dst := some 33, op := Op.move (Operand.tmp 3), type := 3, pos := "law.go:86", after := _, guard := none }) (v := ?_) rfl (by kernel_rfl) (by kernel_rfl) (by kernel_rfl) (fun _ _ _ h => h) (Or.inl ⟨by rfl, ?_⟩) hH ?_
  rotate_left
  · intro wz hSw
    (try dsimp only at hSw)
    first | (go_simp; done) | (go_simp; with_reducible rfl)
  try simp only [Act.put, List.setIfInBounds_toArray, List.set_cons_zero, List.set_cons_succ]
  refine wpAnyH_ready (rs := [3]) (by kernel_rfl) (by simp) ?_
  refine AllReadyH.cons (o := { dst := some 34, op := Op.call { callee := Callee.value (Operand.func 17), args := #[Operand.tmp 31, Operand.tmp 32, Operand.tmp 33], argTypes := #[27, 3, 3] }, type := 4, pos := "law.go:86", after := _, guard := none }) rfl (fun K hK => ?_) AllReadyH.nil
  go_simp
  refine (ruFits_any a n i p k t x d _).mono ?_
  rw [hF]
  rintro e wq3 ⟨rfl, hbq⟩
  go_wp2_with fail
  refine hK.out _ _ (kept_fits hH hbq) (fun hH2 => ?_)
  clear hK K hH hbq
  have hH := hH2
  clear hH2
  try simp only [Act.put, List.setIfInBounds_toArray, List.set_cons_zero, List.set_cons_succ]
  refine wpAnyH_take (i := 4) (oi := { dst := some 35, op := Op.unOp UnOp.not 4 (Operand.tmp 34), type := 4, pos := "law.go:86", after := _, guard := none }) (v := ?_) rfl (by kernel_rfl) (by kernel_rfl) (by kernel_rfl) (fun _ _ _ h => h) (Or.inl ⟨by rfl, ?_⟩) hH ?_
  rotate_left
  · intro wz hSw
    (try dsimp only at hSw)
    first | (go_simp; done) | (go_simp; with_reducible rfl)
  try simp only [Act.put, List.setIfInBounds_toArray, List.set_cons_zero, List.set_cons_succ]
  refine wpAnyH_take (i := 5) (oi := { dst := some 36, op := Op.move (Operand.tmp 35), type := 4, pos := "law.go:86", after := _, guard := none }) (v := ?_) rfl (by kernel_rfl) (by kernel_rfl) (by kernel_rfl) (fun _ _ _ h => h) (Or.inl ⟨by rfl, ?_⟩) hH ?_
  rotate_left
  · intro wz hSw
    (try dsimp only at hSw)
    first | (go_simp; done) | (go_simp; with_reducible rfl)
  try simp only [Act.put, List.setIfInBounds_toArray, List.set_cons_zero, List.set_cons_succ]
  refine wpAnyH_take (i := 6) (oi := { dst := some 37, op := Op.load 27 (Operand.tmp 10), type := 27, pos := "law.go:86", after := _, guard := some (5, false) }) (v := undef) rfl (by kernel_rfl) (by kernel_rfl) (by kernel_rfl) (fun _ _ _ h => h) (Or.inr ⟨by rfl, rfl⟩) hH ?_
  try simp only [Act.put, List.setIfInBounds_toArray, List.set_cons_zero, List.set_cons_succ]
  refine wpAnyH_take (i := 7) (oi := { dst := some 38, op := Op.move (Operand.tmp 2), type := 3, pos := "law.go:86", after := _, guard := some (5, false) }) (v := undef) rfl (by kernel_rfl) (by kernel_rfl) (by kernel_rfl) (fun _ _ _ h => h) (Or.inr ⟨by rfl, rfl⟩) hH ?_
  try simp only [Act.put, List.setIfInBounds_toArray, List.set_cons_zero, List.set_cons_succ]
  refine wpAnyH_take (i := 8) (oi := { dst := some 39, op := Op.move (Operand.tmp 3), type := 3, pos := "law.go:86", after := _, guard := some (5, false) }) (v := undef) rfl (by kernel_rfl) (by kernel_rfl) (by kernel_rfl) (fun _ _ _ h => h) (Or.inr ⟨by rfl, rfl⟩) hH ?_
  try simp only [Act.put, List.setIfInBounds_toArray, List.set_cons_zero, List.set_cons_succ]
  refine wpAnyH_ready (rs := [9]) (by kernel_rfl) (by simp) ?_
  refine allReady_pass (o := { dst := some 40, op := Op.call { callee := Callee.value (Operand.func 17), args := #[Operand.tmp 37, Operand.tmp 38, Operand.tmp 39], argTypes := #[27, 3, 3] }, type := 4, pos := "law.go:86", after := _, guard := some (5, false) }) rfl (by rfl) hH ?_ AllReadyH.nil
  try simp only [Act.put, List.setIfInBounds_toArray, List.set_cons_zero, List.set_cons_succ]
  refine wpAnyH_take (i := 10) (oi := { dst := some 41, op := Op.pick (Operand.tmp 36) (Operand.const (Value.bool true)) (Operand.tmp 40), type := 4, pos := "law.go:86", after := _, guard := none }) (v := ?_) rfl (by kernel_rfl) (by kernel_rfl) (by kernel_rfl) (fun _ _ _ h => h) (Or.inl ⟨by rfl, ?_⟩) hH ?_
  rotate_left
  · intro wz hSw
    (try dsimp only at hSw)
    first | (go_simp; done) | (go_simp; with_reducible rfl)
  try simp only [Act.put, List.setIfInBounds_toArray, List.set_cons_zero, List.set_cons_succ]
  refine wpAnyH_take (i := 11) (oi := { dst := some 42, op := Op.move (Operand.tmp 41), type := 4, pos := "law.go:86", after := _, guard := none }) (v := ?_) rfl (by kernel_rfl) (by kernel_rfl) (by kernel_rfl) (fun _ _ _ h => h) (Or.inl ⟨by rfl, ?_⟩) hH ?_
  rotate_left
  · intro wz hSw
    (try dsimp only at hSw)
    first | (go_simp; done) | (go_simp; with_reducible rfl)
  try simp only [Act.put, List.setIfInBounds_toArray, List.set_cons_zero, List.set_cons_succ]
  refine wpAnyH_take (i := 12) (oi := { dst := some 43, op := Op.load 23 (Operand.tmp 5), type := 23, pos := "law.go:86", after := _, guard := some (11, true) }) (v := ?_) rfl (by kernel_rfl) (by kernel_rfl) (by kernel_rfl) (fun _ _ _ h => h) (Or.inl ⟨by rfl, ?_⟩) hH ?_
  rotate_left
  · intro wz hSw
    (try dsimp only at hSw)
    first | (go_simp; done) | (go_simp; with_reducible rfl)
  try simp only [Act.put, List.setIfInBounds_toArray, List.set_cons_zero, List.set_cons_succ]
  refine wpAnyH_take (i := 13) (oi := { dst := some 44, op := Op.fieldAddr 27 (Operand.tmp 4) 0, type := 0, pos := "law.go:86", after := _, guard := some (11, true) }) (v := ?_) rfl (by kernel_rfl) (by kernel_rfl) (by kernel_rfl) (fun _ _ _ h => h) (Or.inl ⟨by rfl, ?_⟩) hH ?_
  rotate_left
  · intro wz hSw
    (try dsimp only at hSw)
    first | (go_simp; done) | (go_simp; with_reducible rfl)
  try simp only [Act.put, List.setIfInBounds_toArray, List.set_cons_zero, List.set_cons_succ]
  refine wpAnyH_take (i := 14) (oi := { dst := some 45, op := Op.load 23 (Operand.tmp 44), type := 23, pos := "law.go:86", after := _, guard := some (11, true) }) (v := ?_) rfl (by kernel_rfl) (by kernel_rfl) (by kernel_rfl) (fun _ _ _ h => h) (Or.inl ⟨by rfl, ?_⟩) hH ?_
  rotate_left
  · intro wz hSw
    (try dsimp only at hSw)
    first | (go_simp; done) | (go_simp; with_reducible rfl)
  try simp only [Act.put, List.setIfInBounds_toArray, List.set_cons_zero, List.set_cons_succ]
  refine wpAnyH_ready (rs := [15]) (by kernel_rfl) (by simp) ?_
  refine AllReadyH.cons (o := { dst := some 46, op := Op.call { callee := Callee.value (Operand.func 23), args := #[Operand.tmp 43, Operand.tmp 45], argTypes := #[23, 23] }, type := 4, pos := "law.go:86", after := _, guard := some (11, true) }) rfl (fun K hK => ?_) AllReadyH.nil
  go_simp
  refine (within_any b m a n _).mono ?_
  rw [hV]
  rintro e wq15 ⟨rfl, hbq⟩
  go_wp2_with fail
  refine hK.out _ _ (kept_fits hH hbq) (fun hH2 => ?_)
  clear hK K hH hbq
  have hH := hH2
  clear hH2
  try simp only [Act.put, List.setIfInBounds_toArray, List.set_cons_zero, List.set_cons_succ]
  refine wpAnyH_take (i := 16) (oi := { dst := some 47, op := Op.unOp UnOp.not 4 (Operand.tmp 46), type := 4, pos := "law.go:86", after := _, guard := some (11, true) }) (v := ?_) rfl (by kernel_rfl) (by kernel_rfl) (by kernel_rfl) (fun _ _ _ h => h) (Or.inl ⟨by rfl, ?_⟩) hH ?_
  rotate_left
  · intro wz hSw
    (try dsimp only at hSw)
    first | (go_simp; done) | (go_simp; with_reducible rfl)
  try simp only [Act.put, List.setIfInBounds_toArray, List.set_cons_zero, List.set_cons_succ]
  refine wpAnyH_take (i := 17) (oi := { dst := some 48, op := Op.move (Operand.tmp 47), type := 4, pos := "law.go:86", after := _, guard := some (11, true) }) (v := ?_) rfl (by kernel_rfl) (by kernel_rfl) (by kernel_rfl) (fun _ _ _ h => h) (Or.inl ⟨by rfl, ?_⟩) hH ?_
  rotate_left
  · intro wz hSw
    (try dsimp only at hSw)
    first | (go_simp; done) | (go_simp; with_reducible rfl)
  try simp only [Act.put, List.setIfInBounds_toArray, List.set_cons_zero, List.set_cons_succ]
  refine wpAnyH_take (i := 18) (oi := { dst := some 49, op := Op.load 27 (Operand.tmp 4), type := 27, pos := "law.go:86", after := _, guard := some (17, false) }) (v := undef) rfl (by kernel_rfl) (by kernel_rfl) (by kernel_rfl) (fun _ _ _ h => h) (Or.inr ⟨by rfl, rfl⟩) hH ?_
  try simp only [Act.put, List.setIfInBounds_toArray, List.set_cons_zero, List.set_cons_succ]
  refine wpAnyH_take (i := 19) (oi := { dst := some 50, op := Op.move (Operand.tmp 2), type := 3, pos := "law.go:86", after := _, guard := some (17, false) }) (v := undef) rfl (by kernel_rfl) (by kernel_rfl) (by kernel_rfl) (fun _ _ _ h => h) (Or.inr ⟨by rfl, rfl⟩) hH ?_
  try simp only [Act.put, List.setIfInBounds_toArray, List.set_cons_zero, List.set_cons_succ]
  refine wpAnyH_take (i := 20) (oi := { dst := some 51, op := Op.move (Operand.tmp 3), type := 3, pos := "law.go:86", after := _, guard := some (17, false) }) (v := undef) rfl (by kernel_rfl) (by kernel_rfl) (by kernel_rfl) (fun _ _ _ h => h) (Or.inr ⟨by rfl, rfl⟩) hH ?_
  try simp only [Act.put, List.setIfInBounds_toArray, List.set_cons_zero, List.set_cons_succ]
  refine wpAnyH_ready (rs := [21]) (by kernel_rfl) (by simp) ?_
  refine allReady_pass (o := { dst := some 52, op := Op.call { callee := Callee.value (Operand.func 17), args := #[Operand.tmp 49, Operand.tmp 50, Operand.tmp 51], argTypes := #[27, 3, 3] }, type := 4, pos := "law.go:86", after := _, guard := some (17, false) }) rfl (by rfl) hH ?_ AllReadyH.nil
  try simp only [Act.put, List.setIfInBounds_toArray, List.set_cons_zero, List.set_cons_succ]
  refine wpAnyH_take (i := 22) (oi := { dst := some 53, op := Op.unOp UnOp.not 4 (Operand.tmp 52), type := 4, pos := "law.go:86", after := _, guard := some (17, false) }) (v := undef) rfl (by kernel_rfl) (by kernel_rfl) (by kernel_rfl) (fun _ _ _ h => h) (Or.inr ⟨by rfl, rfl⟩) hH ?_
  try simp only [Act.put, List.setIfInBounds_toArray, List.set_cons_zero, List.set_cons_succ]
  refine wpAnyH_take (i := 23) (oi := { dst := some 54, op := Op.pick (Operand.tmp 48) (Operand.const (Value.bool true)) (Operand.tmp 53), type := 4, pos := "law.go:86", after := _, guard := some (11, true) }) (v := ?_) rfl (by kernel_rfl) (by kernel_rfl) (by kernel_rfl) (fun _ _ _ h => h) (Or.inl ⟨by rfl, ?_⟩) hH ?_
  rotate_left
  · intro wz hSw
    (try dsimp only at hSw)
    first | (go_simp; done) | (go_simp; with_reducible rfl)
  try simp only [Act.put, List.setIfInBounds_toArray, List.set_cons_zero, List.set_cons_succ]
  refine wpAnyH_take (i := 24) (oi := { dst := some 55, op := Op.move (Operand.tmp 54), type := 4, pos := "law.go:86", after := _, guard := some (11, true) }) (v := ?_) rfl (by kernel_rfl) (by kernel_rfl) (by kernel_rfl) (fun _ _ _ h => h) (Or.inl ⟨by rfl, ?_⟩) hH ?_
  rotate_left
  · intro wz hSw
    (try dsimp only at hSw)
    first | (go_simp; done) | (go_simp; with_reducible rfl)
  try simp only [Act.put, List.setIfInBounds_toArray, List.set_cons_zero, List.set_cons_succ]
  refine wpAnyH_take (i := 25) (oi := { dst := some 56, op := Op.load 27 (Operand.tmp 11), type := 27, pos := "law.go:86", after := _, guard := some (24, false) }) (v := undef) rfl (by kernel_rfl) (by kernel_rfl) (by kernel_rfl) (fun _ _ _ h => h) (Or.inr ⟨by rfl, rfl⟩) hH ?_
  try simp only [Act.put, List.setIfInBounds_toArray, List.set_cons_zero, List.set_cons_succ]
  refine wpAnyH_take (i := 26) (oi := { dst := some 57, op := Op.move (Operand.tmp 2), type := 3, pos := "law.go:86", after := _, guard := some (24, false) }) (v := undef) rfl (by kernel_rfl) (by kernel_rfl) (by kernel_rfl) (fun _ _ _ h => h) (Or.inr ⟨by rfl, rfl⟩) hH ?_
  try simp only [Act.put, List.setIfInBounds_toArray, List.set_cons_zero, List.set_cons_succ]
  refine wpAnyH_take (i := 27) (oi := { dst := some 58, op := Op.move (Operand.tmp 3), type := 3, pos := "law.go:86", after := _, guard := some (24, false) }) (v := undef) rfl (by kernel_rfl) (by kernel_rfl) (by kernel_rfl) (fun _ _ _ h => h) (Or.inr ⟨by rfl, rfl⟩) hH ?_
  try simp only [Act.put, List.setIfInBounds_toArray, List.set_cons_zero, List.set_cons_succ]
  refine wpAnyH_ready (rs := [28]) (by kernel_rfl) (by simp) ?_
  refine allReady_pass (o := { dst := some 59, op := Op.call { callee := Callee.value (Operand.func 17), args := #[Operand.tmp 56, Operand.tmp 57, Operand.tmp 58], argTypes := #[27, 3, 3] }, type := 4, pos := "law.go:86", after := _, guard := some (24, false) }) rfl (by rfl) hH ?_ AllReadyH.nil
  try simp only [Act.put, List.setIfInBounds_toArray, List.set_cons_zero, List.set_cons_succ]
  refine wpAnyH_take (i := 29) (oi := { dst := some 60, op := Op.pick (Operand.tmp 55) (Operand.const (Value.bool true)) (Operand.tmp 59), type := 4, pos := "law.go:86", after := _, guard := some (11, true) }) (v := ?_) rfl (by kernel_rfl) (by kernel_rfl) (by kernel_rfl) (fun _ _ _ h => h) (Or.inl ⟨by rfl, ?_⟩) hH ?_
  rotate_left
  · intro wz hSw
    (try dsimp only at hSw)
    first | (go_simp; done) | (go_simp; with_reducible rfl)
  try simp only [Act.put, List.setIfInBounds_toArray, List.set_cons_zero, List.set_cons_succ]
  refine wpAnyH_take (i := 30) (oi := { dst := some 61, op := Op.pick (Operand.tmp 42) (Operand.tmp 60) (Operand.const (Value.bool false)), type := 4, pos := "law.go:86", after := _, guard := none }) (v := ?_) rfl (by kernel_rfl) (by kernel_rfl) (by kernel_rfl) (fun _ _ _ h => h) (Or.inl ⟨by rfl, ?_⟩) hH ?_
  rotate_left
  · intro wz hSw
    (try dsimp only at hSw)
    first | (go_simp; done) | (go_simp; with_reducible rfl)
  try simp only [Act.put, List.setIfInBounds_toArray, List.set_cons_zero, List.set_cons_succ]
  refine wpAnyH_take (i := 31) (oi := { dst := some 62, op := Op.move (Operand.tmp 61), type := 4, pos := "law.go:86", after := _, guard := none }) (v := ?_) rfl (by kernel_rfl) (by kernel_rfl) (by kernel_rfl) (fun _ _ _ h => h) (Or.inl ⟨by rfl, ?_⟩) hH ?_
  rotate_left
  · intro wz hSw
    (try dsimp only at hSw)
    first | (go_simp; done) | (go_simp; with_reducible rfl)
  try simp only [Act.put, List.setIfInBounds_toArray, List.set_cons_zero, List.set_cons_succ]
  refine wpAnyH_take (i := 32) (oi := { dst := some 63, op := Op.load 27 (Operand.tmp 10), type := 27, pos := "law.go:86", after := _, guard := some (31, true) }) (v := ?_) rfl (by kernel_rfl) (by kernel_rfl) (by kernel_rfl) (fun _ _ _ h => h) (Or.inl ⟨by rfl, ?_⟩) hH ?_
  rotate_left
  · intro wz hSw
    (try dsimp only at hSw)
    first | (go_simp; done) | (go_simp; with_reducible rfl)
  try simp only [Act.put, List.setIfInBounds_toArray, List.set_cons_zero, List.set_cons_succ]
  refine wpAnyH_take (i := 33) (oi := { dst := some 64, op := Op.move (Operand.tmp 2), type := 3, pos := "law.go:86", after := _, guard := some (31, true) }) (v := ?_) rfl (by kernel_rfl) (by kernel_rfl) (by kernel_rfl) (fun _ _ _ h => h) (Or.inl ⟨by rfl, ?_⟩) hH ?_
  rotate_left
  · intro wz hSw
    (try dsimp only at hSw)
    first | (go_simp; done) | (go_simp; with_reducible rfl)
  try simp only [Act.put, List.setIfInBounds_toArray, List.set_cons_zero, List.set_cons_succ]
  refine wpAnyH_take (i := 34) (oi := { dst := some 65, op := Op.move (Operand.tmp 3), type := 3, pos := "law.go:86", after := _, guard := some (31, true) }) (v := ?_) rfl (by kernel_rfl) (by kernel_rfl) (by kernel_rfl) (fun _ _ _ h => h) (Or.inl ⟨by rfl, ?_⟩) hH ?_
  rotate_left
  · intro wz hSw
    (try dsimp only at hSw)
    first | (go_simp; done) | (go_simp; with_reducible rfl)
  try simp only [Act.put, List.setIfInBounds_toArray, List.set_cons_zero, List.set_cons_succ]
  refine wpAnyH_take (i := 36) (oi := { dst := some 67, op := Op.fieldAddr 27 (Operand.tmp 4) 0, type := 0, pos := "law.go:86", after := _, guard := some (31, true) }) (v := ?_) rfl (by kernel_rfl) (by kernel_rfl) (by kernel_rfl) (fun _ _ _ h => h) (Or.inl ⟨by rfl, ?_⟩) hH ?_
  rotate_left
  · intro wz hSw
    (try dsimp only at hSw)
    first | (go_simp; done) | (go_simp; with_reducible rfl)
  try simp only [Act.put, List.setIfInBounds_toArray, List.set_cons_zero, List.set_cons_succ]
  refine wpAnyH_take (i := 37) (oi := { dst := some 68, op := Op.load 23 (Operand.tmp 67), type := 23, pos := "law.go:86", after := _, guard := some (31, true) }) (v := ?_) rfl (by kernel_rfl) (by kernel_rfl) (by kernel_rfl) (fun _ _ _ h => h) (Or.inl ⟨by rfl, ?_⟩) hH ?_
  rotate_left
  · intro wz hSw
    (try dsimp only at hSw)
    first | (go_simp; done) | (go_simp; with_reducible rfl)
  try simp only [Act.put, List.setIfInBounds_toArray, List.set_cons_zero, List.set_cons_succ]
  refine wpAnyH_take (i := 38) (oi := { dst := some 69, op := Op.move (Operand.tmp 3), type := 3, pos := "law.go:86", after := _, guard := some (31, true) }) (v := ?_) rfl (by kernel_rfl) (by kernel_rfl) (by kernel_rfl) (fun _ _ _ h => h) (Or.inl ⟨by rfl, ?_⟩) hH ?_
  rotate_left
  · intro wz hSw
    (try dsimp only at hSw)
    first | (go_simp; done) | (go_simp; with_reducible rfl)
  try simp only [Act.put, List.setIfInBounds_toArray, List.set_cons_zero, List.set_cons_succ]
  refine wpAnyH_ready (rs := [35]) (by kernel_rfl) (by simp) ?_
  refine AllReadyH.cons (o := { dst := some 66, op := Op.call { callee := Callee.value (Operand.func 17), args := #[Operand.tmp 63, Operand.tmp 64, Operand.tmp 65], argTypes := #[27, 3, 3] }, type := 4, pos := "law.go:86", after := _, guard := some (31, true) }) rfl (fun K hK => ?_) AllReadyH.nil
  go_simp
  refine (ruFits_any a n (-1) p k t x d _).mono ?_
  rw [hAny]
  rintro e wq35 ⟨rfl, hbq⟩
  go_wp2_with fail
  refine hK.out _ _ (kept_fits hH hbq) (fun hH2 => ?_)
  clear hK K hH hbq
  have hH := hH2
  clear hH2
  try simp only [Act.put, List.setIfInBounds_toArray, List.set_cons_zero, List.set_cons_succ]
  refine wpAnyH_ready (rs := [39]) (by kernel_rfl) (by simp) ?_
  refine AllReadyH.cons (o := { dst := some 70, op := Op.call { callee := Callee.value (Operand.func 24), args := #[Operand.tmp 68, Operand.tmp 69], argTypes := #[23, 3] }, type := 4, pos := "law.go:86", after := _, guard := some (31, true) }) rfl (fun K hK => ?_) AllReadyH.nil
  go_simp
  refine (has_any a n d _).mono ?_
  rw [hH0]
  rintro e wq39 ⟨rfl, hbq⟩
  go_wp2_with fail
  refine hK.out _ _ (kept_fits hH hbq) (fun hH2 => ?_)
  clear hK K hH hbq
  have hH := hH2
  clear hH2
  try simp only [Act.put, List.setIfInBounds_toArray, List.set_cons_zero, List.set_cons_succ]
  refine wpAnyH_take (i := 40) (oi := { dst := some 71, op := Op.binOp BinOp.eql 4 (Operand.tmp 66) (Operand.tmp 70) 4, type := 4, pos := "law.go:86", after := _, guard := some (31, true) }) (v := ?_) rfl (by kernel_rfl) (by kernel_rfl) (by kernel_rfl) (fun _ _ _ h => h) (Or.inl ⟨by rfl, ?_⟩) hH ?_
  rotate_left
  · intro wz hSw
    (try dsimp only at hSw)
    first | (go_simp; done) | (go_simp; with_reducible rfl)
  try simp only [Act.put, List.setIfInBounds_toArray, List.set_cons_zero, List.set_cons_succ]
  refine wpAnyH_take (i := 41) (oi := { dst := some 72, op := Op.pick (Operand.tmp 62) (Operand.tmp 71) (Operand.const (Value.bool false)), type := 4, pos := "law.go:86", after := _, guard := none }) (v := ?_) rfl (by kernel_rfl) (by kernel_rfl) (by kernel_rfl) (fun _ _ _ h => h) (Or.inl ⟨by rfl, ?_⟩) hH ?_
  rotate_left
  · intro wz hSw
    (try dsimp only at hSw)
    first | (go_simp; done) | (go_simp; with_reducible rfl)
  try simp only [Act.put, List.setIfInBounds_toArray, List.set_cons_zero, List.set_cons_succ]
  refine wpAnyH_take (i := 42) (oi := { dst := some 8, op := Op.assign (Operand.tmp 72), type := 4, pos := "law.go:86", after := _, guard := none }) (v := ?_) rfl (by kernel_rfl) (by kernel_rfl) (by kernel_rfl) (fun _ _ _ h => h) (Or.inl ⟨by rfl, ?_⟩) hH ?_
  rotate_left
  · intro wz hSw
    (try dsimp only at hSw)
    first | (go_simp; done) | (go_simp; with_reducible rfl)
  try simp only [Act.put, List.setIfInBounds_toArray, List.set_cons_zero, List.set_cons_succ]
  refine wpAnyH_done (by kernel_rfl) ?_ _
  refine NoPanic.normal ?_
  go_wp2_with fail
  go_ret
  exact ⟨rfl, hH.1⟩
set_option maxHeartbeats 4000000 in
theorem fits_ftf (a n i p k t b m x d : Int) (w : World)
    (cM : ∀ w, Calls Try.prog 16 #[.agg #[.int .i64 a, .int .i64 n, .int .i64 i, .int .i64 p, .int .i64 k, .int .i64 t]] w fun e w' => e = .returned (.bool true) ∧ Below w.heap.size w w')
    (cP : ∀ w, Calls Try.prog 22 #[.agg #[.int .i64 b, .int .i64 m]] w fun e w' => e = .returned (.bool true) ∧ Below w.heap.size w w')
    (hF : fitB a n i x d = false)
    (hAny : fitB a n (-1) x d = false)
    (hV : M.inB b m a n = true)
    (hH0 : M.hasB a n d = false) :
    Calls Try.prog 7 #[.agg #[.int .i64 a, .int .i64 n, .int .i64 i, .int .i64 p, .int .i64 k, .int .i64 t], .agg #[.int .i64 b, .int .i64 m], .int .i64 x, .int .i64 d] w fun e w' => e = .returned (.bool true) ∧ Below w.heap.size w w' := by
  have hn0 := below_new w (.cells #[.int .i64 a, .int .i64 n, .int .i64 i, .int .i64 p, .int .i64 k, .int .i64 t] 27)
  have X0 := Lies.new w [a, n, i, p, k, t] 27 (B := w.heap.size) rfl
  have hB := hn0
  have hn1 := below_new (w.alloc (.cells #[.int .i64 a, .int .i64 n, .int .i64 i, .int .i64 p, .int .i64 k, .int .i64 t] 27)) (.cells #[.int .i64 b, .int .i64 m] 23)
  have X1 := Lies.new (w.alloc (.cells #[.int .i64 a, .int .i64 n, .int .i64 i, .int .i64 p, .int .i64 k, .int .i64 t] 27)) [b, m] 23 (B := w.heap.size + 1) (by simp)
  replace X0 := X0.later hn1
  replace hB := below_step hB hn1
  clear hn0 hn1
  obtain ⟨x00, x01, x02, x03, x04, x05⟩ := X0.six
  obtain ⟨x10, x11⟩ := X1.two
  go_enter Try.func7, Try.ntmps7
  go_wp2_with fail
  refine (awake_any _).mono ?_
  rintro e w1 ⟨rfl, hb1⟩
  clear x00 x01 x02 x03 x04 x05
  clear x10 x11
  replace X0 := X0.later hb1
  replace X1 := X1.later hb1
  replace hB := below_step hB hb1
  clear hb1
  obtain ⟨x00, x01, x02, x03, x04, x05⟩ := X0.six
  obtain ⟨x10, x11⟩ := X1.two
  go_wp2_with fail
  refine (cM _).mono ?_
  rintro e w2 ⟨rfl, hb2⟩
  clear x00 x01 x02 x03 x04 x05
  clear x10 x11
  replace X0 := X0.later hb2
  replace X1 := X1.later hb2
  replace hB := below_step hB hb2
  clear hb2
  obtain ⟨x00, x01, x02, x03, x04, x05⟩ := X0.six
  obtain ⟨x10, x11⟩ := X1.two
  go_wp2_with fail
  refine (cP _).mono ?_
  rintro e w3 ⟨rfl, hb3⟩
  clear x00 x01 x02 x03 x04 x05
  clear x10 x11
  replace X0 := X0.later hb3
  replace X1 := X1.later hb3
  replace hB := below_step hB hb3
  clear hb3
  obtain ⟨x00, x01, x02, x03, x04, x05⟩ := X0.six
  obtain ⟨x10, x11⟩ := X1.two
  have hq0 := below_new w3 (.cells #[.int .i64 a, .int .i64 n, .int .i64 i, .int .i64 p, .int .i64 k, .int .i64 t] 27)
  obtain ⟨x0q0, x0q1, x0q2, x0q3, x0q4, x0q5⟩ := (X0.later hq0).six
  obtain ⟨x1q0, x1q1⟩ := (X1.later hq0).two
  clear hq0
  have hv0 := below_new w3 (.cells #[.int .i64 a, .int .i64 n, .int .i64 (-1), .int .i64 p, .int .i64 k, .int .i64 t] 27)
  replace X0 := X0.later hv0
  replace X1 := X1.later hv0
  replace hB := below_step hB hv0
  clear hv0
  have V0 := Lies.new w3 [a, n, -1, p, k, t] 27 (B := w3.heap.size) rfl
  obtain ⟨x00, x01, x02, x03, x04, x05⟩ := X0.six
  obtain ⟨x10, x11⟩ := X1.two
  obtain ⟨v00, v01, v02, v03, v04, v05⟩ := V0.six
  have hq1 := below_new (w3.alloc (.cells #[.int .i64 a, .int .i64 n, .int .i64 (-1), .int .i64 p, .int .i64 k, .int .i64 t] 27)) (.cells #[.int .i64 a, .int .i64 n, .int .i64 i, .int .i64 p, .int .i64 k, .int .i64 t] 27)
  obtain ⟨x0q0, x0q1, x0q2, x0q3, x0q4, x0q5⟩ := (X0.later hq1).six
  obtain ⟨x1q0, x1q1⟩ := (X1.later hq1).two
  obtain ⟨v0q0, v0q1, v0q2, v0q3, v0q4, v0q5⟩ := (V0.later hq1).six
  clear hq1
  have hv1 := below_new (w3.alloc (.cells #[.int .i64 a, .int .i64 n, .int .i64 (-1), .int .i64 p, .int .i64 k, .int .i64 t] 27)) (.cells #[.int .i64 b, .int .i64 m, .int .i64 i, .int .i64 p, .int .i64 k, .int .i64 t] 27)
  replace X0 := X0.later hv1
  replace X1 := X1.later hv1
  replace V0 := V0.later hv1
  replace hB := below_step hB hv1
  clear hv1
  have V1 := Lies.new (w3.alloc (.cells #[.int .i64 a, .int .i64 n, .int .i64 (-1), .int .i64 p, .int .i64 k, .int .i64 t] 27)) [b, m, i, p, k, t] 27 (B := w3.heap.size + 1) (by simp)
  obtain ⟨x00, x01, x02, x03, x04, x05⟩ := X0.six
  obtain ⟨x10, x11⟩ := X1.two
  obtain ⟨v00, v01, v02, v03, v04, v05⟩ := V0.six
  obtain ⟨v10, v11, v12, v13, v14, v15⟩ := V1.six
  have S0 : Below w.heap.size w ((w3.alloc (.cells #[.int .i64 a, .int .i64 n, .int .i64 (-1), .int .i64 p, .int .i64 k, .int .i64 t] 27)).alloc (.cells #[.int .i64 b, .int .i64 m, .int .i64 i, .int .i64 p, .int .i64 k, .int .i64 t] 27)).drew ∧ w.heap.size < ((w3.alloc (.cells #[.int .i64 a, .int .i64 n, .int .i64 (-1), .int .i64 p, .int .i64 k, .int .i64 t] 27)).alloc (.cells #[.int .i64 b, .int .i64 m, .int .i64 i, .int .i64 p, .int .i64 k, .int .i64 t] 27)).drew.heap.size ∧ w.heap.size + 1 < ((w3.alloc (.cells #[.int .i64 a, .int .i64 n, .int .i64 (-1), .int .i64 p, .int .i64 k, .int .i64 t] 27)).alloc (.cells #[.int .i64 b, .int .i64 m, .int .i64 i, .int .i64 p, .int .i64 k, .int .i64 t] 27)).drew.heap.size ∧ w3.heap.size < ((w3.alloc (.cells #[.int .i64 a, .int .i64 n, .int .i64 (-1), .int .i64 p, .int .i64 k, .int .i64 t] 27)).alloc (.cells #[.int .i64 b, .int .i64 m, .int .i64 i, .int .i64 p, .int .i64 k, .int .i64 t] 27)).drew.heap.size ∧ w3.heap.size + 1 < ((w3.alloc (.cells #[.int .i64 a, .int .i64 n, .int .i64 (-1), .int .i64 p, .int .i64 k, .int .i64 t] 27)).alloc (.cells #[.int .i64 b, .int .i64 m, .int .i64 i, .int .i64 p, .int .i64 k, .int .i64 t] 27)).drew.heap.size ∧ ((w3.alloc (.cells #[.int .i64 a, .int .i64 n, .int .i64 (-1), .int .i64 p, .int .i64 k, .int .i64 t] 27)).alloc (.cells #[.int .i64 b, .int .i64 m, .int .i64 i, .int .i64 p, .int .i64 k, .int .i64 t] 27)).drew.cell? ⟨w.heap.size, 0, none⟩ = some (.int .i64 a) ∧ ((w3.alloc (.cells #[.int .i64 a, .int .i64 n, .int .i64 (-1), .int .i64 p, .int .i64 k, .int .i64 t] 27)).alloc (.cells #[.int .i64 b, .int .i64 m, .int .i64 i, .int .i64 p, .int .i64 k, .int .i64 t] 27)).drew.cell? ⟨w.heap.size, 1, none⟩ = some (.int .i64 n) ∧ ((w3.alloc (.cells #[.int .i64 a, .int .i64 n, .int .i64 (-1), .int .i64 p, .int .i64 k, .int .i64 t] 27)).alloc (.cells #[.int .i64 b, .int .i64 m, .int .i64 i, .int .i64 p, .int .i64 k, .int .i64 t] 27)).drew.cell? ⟨w.heap.size, 2, none⟩ = some (.int .i64 i) ∧ ((w3.alloc (.cells #[.int .i64 a, .int .i64 n, .int .i64 (-1), .int .i64 p, .int .i64 k, .int .i64 t] 27)).alloc (.cells #[.int .i64 b, .int .i64 m, .int .i64 i, .int .i64 p, .int .i64 k, .int .i64 t] 27)).drew.cell? ⟨w.heap.size, 3, none⟩ = some (.int .i64 p) ∧ ((w3.alloc (.cells #[.int .i64 a, .int .i64 n, .int .i64 (-1), .int .i64 p, .int .i64 k, .int .i64 t] 27)).alloc (.cells #[.int .i64 b, .int .i64 m, .int .i64 i, .int .i64 p, .int .i64 k, .int .i64 t] 27)).drew.cell? ⟨w.heap.size, 4, none⟩ = some (.int .i64 k) ∧ ((w3.alloc (.cells #[.int .i64 a, .int .i64 n, .int .i64 (-1), .int .i64 p, .int .i64 k, .int .i64 t] 27)).alloc (.cells #[.int .i64 b, .int .i64 m, .int .i64 i, .int .i64 p, .int .i64 k, .int .i64 t] 27)).drew.cell? ⟨w.heap.size, 5, none⟩ = some (.int .i64 t) ∧ ((w3.alloc (.cells #[.int .i64 a, .int .i64 n, .int .i64 (-1), .int .i64 p, .int .i64 k, .int .i64 t] 27)).alloc (.cells #[.int .i64 b, .int .i64 m, .int .i64 i, .int .i64 p, .int .i64 k, .int .i64 t] 27)).drew.cell? ⟨w.heap.size + 1, 0, none⟩ = some (.int .i64 b) ∧ ((w3.alloc (.cells #[.int .i64 a, .int .i64 n, .int .i64 (-1), .int .i64 p, .int .i64 k, .int .i64 t] 27)).alloc (.cells #[.int .i64 b, .int .i64 m, .int .i64 i, .int .i64 p, .int .i64 k, .int .i64 t] 27)).drew.cell? ⟨w.heap.size + 1, 1, none⟩ = some (.int .i64 m) ∧ ((w3.alloc (.cells #[.int .i64 a, .int .i64 n, .int .i64 (-1), .int .i64 p, .int .i64 k, .int .i64 t] 27)).alloc (.cells #[.int .i64 b, .int .i64 m, .int .i64 i, .int .i64 p, .int .i64 k, .int .i64 t] 27)).drew.cell? ⟨w3.heap.size, 0, none⟩ = some (.int .i64 a) ∧ ((w3.alloc (.cells #[.int .i64 a, .int .i64 n, .int .i64 (-1), .int .i64 p, .int .i64 k, .int .i64 t] 27)).alloc (.cells #[.int .i64 b, .int .i64 m, .int .i64 i, .int .i64 p, .int .i64 k, .int .i64 t] 27)).drew.cell? ⟨w3.heap.size, 1, none⟩ = some (.int .i64 n) ∧ ((w3.alloc (.cells #[.int .i64 a, .int .i64 n, .int .i64 (-1), .int .i64 p, .int .i64 k, .int .i64 t] 27)).alloc (.cells #[.int .i64 b, .int .i64 m, .int .i64 i, .int .i64 p, .int .i64 k, .int .i64 t] 27)).drew.cell? ⟨w3.heap.size, 2, none⟩ = some (.int .i64 (-1)) ∧ ((w3.alloc (.cells #[.int .i64 a, .int .i64 n, .int .i64 (-1), .int .i64 p, .int .i64 k, .int .i64 t] 27)).alloc (.cells #[.int .i64 b, .int .i64 m, .int .i64 i, .int .i64 p, .int .i64 k, .int .i64 t] 27)).drew.cell? ⟨w3.heap.size, 3, none⟩ = some (.int .i64 p) ∧ ((w3.alloc (.cells #[.int .i64 a, .int .i64 n, .int .i64 (-1), .int .i64 p, .int .i64 k, .int .i64 t] 27)).alloc (.cells #[.int .i64 b, .int .i64 m, .int .i64 i, .int .i64 p, .int .i64 k, .int .i64 t] 27)).drew.cell? ⟨w3.heap.size, 4, none⟩ = some (.int .i64 k) ∧ ((w3.alloc (.cells #[.int .i64 a, .int .i64 n, .int .i64 (-1), .int .i64 p, .int .i64 k, .int .i64 t] 27)).alloc (.cells #[.int .i64 b, .int .i64 m, .int .i64 i, .int .i64 p, .int .i64 k, .int .i64 t] 27)).drew.cell? ⟨w3.heap.size, 5, none⟩ = some (.int .i64 t) ∧ ((w3.alloc (.cells #[.int .i64 a, .int .i64 n, .int .i64 (-1), .int .i64 p, .int .i64 k, .int .i64 t] 27)).alloc (.cells #[.int .i64 b, .int .i64 m, .int .i64 i, .int .i64 p, .int .i64 k, .int .i64 t] 27)).drew.cell? ⟨w3.heap.size + 1, 0, none⟩ = some (.int .i64 b) ∧ ((w3.alloc (.cells #[.int .i64 a, .int .i64 n, .int .i64 (-1), .int .i64 p, .int .i64 k, .int .i64 t] 27)).alloc (.cells #[.int .i64 b, .int .i64 m, .int .i64 i, .int .i64 p, .int .i64 k, .int .i64 t] 27)).drew.cell? ⟨w3.heap.size + 1, 1, none⟩ = some (.int .i64 m) ∧ ((w3.alloc (.cells #[.int .i64 a, .int .i64 n, .int .i64 (-1), .int .i64 p, .int .i64 k, .int .i64 t] 27)).alloc (.cells #[.int .i64 b, .int .i64 m, .int .i64 i, .int .i64 p, .int .i64 k, .int .i64 t] 27)).drew.cell? ⟨w3.heap.size + 1, 2, none⟩ = some (.int .i64 i) ∧ ((w3.alloc (.cells #[.int .i64 a, .int .i64 n, .int .i64 (-1), .int .i64 p, .int .i64 k, .int .i64 t] 27)).alloc (.cells #[.int .i64 b, .int .i64 m, .int .i64 i, .int .i64 p, .int .i64 k, .int .i64 t] 27)).drew.cell? ⟨w3.heap.size + 1, 3, none⟩ = some (.int .i64 p) ∧ ((w3.alloc (.cells #[.int .i64 a, .int .i64 n, .int .i64 (-1), .int .i64 p, .int .i64 k, .int .i64 t] 27)).alloc (.cells #[.int .i64 b, .int .i64 m, .int .i64 i, .int .i64 p, .int .i64 k, .int .i64 t] 27)).drew.cell? ⟨w3.heap.size + 1, 4, none⟩ = some (.int .i64 k) ∧ ((w3.alloc (.cells #[.int .i64 a, .int .i64 n, .int .i64 (-1), .int .i64 p, .int .i64 k, .int .i64 t] 27)).alloc (.cells #[.int .i64 b, .int .i64 m, .int .i64 i, .int .i64 p, .int .i64 k, .int .i64 t] 27)).drew.cell? ⟨w3.heap.size + 1, 5, none⟩ = some (.int .i64 t) := ⟨hB.drew, X0.lt, X1.lt, V0.lt, V1.lt, x00, x01, x02, x03, x04, x05, x10, x11, v00, v01, v02, v03, v04, v05, v10, v11, v12, v13, v14, v15⟩
  clear X0 X1 V0 V1
  go_wp2_with fail
  refine wp_region_noPanic ?_
  refine wp_region_held_drew (S := fun w' => Below w.heap.size w w' ∧ w.heap.size < w'.heap.size ∧ w.heap.size + 1 < w'.heap.size ∧ w3.heap.size < w'.heap.size ∧ w3.heap.size + 1 < w'.heap.size ∧ w'.cell? ⟨w.heap.size, 0, none⟩ = some (.int .i64 a) ∧ w'.cell? ⟨w.heap.size, 1, none⟩ = some (.int .i64 n) ∧ w'.cell? ⟨w.heap.size, 2, none⟩ = some (.int .i64 i) ∧ w'.cell? ⟨w.heap.size, 3, none⟩ = some (.int .i64 p) ∧ w'.cell? ⟨w.heap.size, 4, none⟩ = some (.int .i64 k) ∧ w'.cell? ⟨w.heap.size, 5, none⟩ = some (.int .i64 t) ∧ w'.cell? ⟨w.heap.size + 1, 0, none⟩ = some (.int .i64 b) ∧ w'.cell? ⟨w.heap.size + 1, 1, none⟩ = some (.int .i64 m) ∧ w'.cell? ⟨w3.heap.size, 0, none⟩ = some (.int .i64 a) ∧ w'.cell? ⟨w3.heap.size, 1, none⟩ = some (.int .i64 n) ∧ w'.cell? ⟨w3.heap.size, 2, none⟩ = some (.int .i64 (-1)) ∧ w'.cell? ⟨w3.heap.size, 3, none⟩ = some (.int .i64 p) ∧ w'.cell? ⟨w3.heap.size, 4, none⟩ = some (.int .i64 k) ∧ w'.cell? ⟨w3.heap.size, 5, none⟩ = some (.int .i64 t) ∧ w'.cell? ⟨w3.heap.size + 1, 0, none⟩ = some (.int .i64 b) ∧ w'.cell? ⟨w3.heap.size + 1, 1, none⟩ = some (.int .i64 m) ∧ w'.cell? ⟨w3.heap.size + 1, 2, none⟩ = some (.int .i64 i) ∧ w'.cell? ⟨w3.heap.size + 1, 3, none⟩ = some (.int .i64 p) ∧ w'.cell? ⟨w3.heap.size + 1, 4, none⟩ = some (.int .i64 k) ∧ w'.cell? ⟨w3.heap.size + 1, 5, none⟩ = some (.int .i64 t)) (by kernel_rfl) S0 (fun hH => ?_)
  clear S0 hB x00 x01 x02 x03 x04 x05 x10 x11 v00 v01 v02 v03 v04 v05 v10 v11 v12 v13 v14 v15 x0q0 x0q1 x0q2 x0q3 x0q4 x0q5 x1q0 x1q1
  refine wpAnyH_take (i := 0) (oi := { dst := some 31, op := Op.load 27 (Operand.tmp 4), type := 27, pos := "law.go:86", after := _, guard := none }) (v := ?_) rfl (by kernel_rfl) (by kernel_rfl) (by kernel_rfl) (fun _ _ _ h => h) (Or.inl ⟨by rfl, ?_⟩) hH ?_
  rotate_left
  · intro wz hSw
    (try dsimp only at hSw)
    first | (go_simp; done) | (go_simp; with_reducible rfl)
  try simp only [Act.put, List.setIfInBounds_toArray, List.set_cons_zero, List.set_cons_succ]
  refine wpAnyH_take (i := 1) (oi := { dst := some 32, op := Op.move (Operand.tmp 2), type := 3, pos := "law.go:86", after := _, guard := none }) (v := ?_) rfl (by kernel_rfl) (by kernel_rfl) (by kernel_rfl) (fun _ _ _ h => h) (Or.inl ⟨by rfl, ?_⟩) hH ?_
  rotate_left
  · intro wz hSw
    (try dsimp only at hSw)
    first | (go_simp; done) | (go_simp; with_reducible rfl)
  try simp only [Act.put, List.setIfInBounds_toArray, List.set_cons_zero, List.set_cons_succ]
  refine wpAnyH_take (i := 2) (oi := { dst := some 33, op := Op.move (Operand.tmp 3), type := 3, pos := "law.go:86", after := _, guard := none }) (v := ?_) rfl (by kernel_rfl) (by kernel_rfl) (by kernel_rfl) (fun _ _ _ h => h) (Or.inl ⟨by rfl, ?_⟩) hH ?_
  rotate_left
  · intro wz hSw
    (try dsimp only at hSw)
    first | (go_simp; done) | (go_simp; with_reducible rfl)
  try simp only [Act.put, List.setIfInBounds_toArray, List.set_cons_zero, List.set_cons_succ]
  refine wpAnyH_ready (rs := [3]) (by kernel_rfl) (by simp) ?_
  refine AllReadyH.cons (o := { dst := some 34, op := Op.call { callee := Callee.value (Operand.func 17), args := #[Operand.tmp 31, Operand.tmp 32, Operand.tmp 33], argTypes := #[27, 3, 3] }, type := 4, pos := "law.go:86", after := _, guard := none }) rfl (fun K hK => ?_) AllReadyH.nil
  go_simp
  refine (ruFits_any a n i p k t x d _).mono ?_
  rw [hF]
  rintro e wq3 ⟨rfl, hbq⟩
  go_wp2_with fail
  refine hK.out _ _ (kept_fits hH hbq) (fun hH2 => ?_)
  clear hK K hH hbq
  have hH := hH2
  clear hH2
  try simp only [Act.put, List.setIfInBounds_toArray, List.set_cons_zero, List.set_cons_succ]
  refine wpAnyH_take (i := 4) (oi := { dst := some 35, op := Op.unOp UnOp.not 4 (Operand.tmp 34), type := 4, pos := "law.go:86", after := _, guard := none }) (v := ?_) rfl (by kernel_rfl) (by kernel_rfl) (by kernel_rfl) (fun _ _ _ h => h) (Or.inl ⟨by rfl, ?_⟩) hH ?_
  rotate_left
  · intro wz hSw
    (try dsimp only at hSw)
    first | (go_simp; done) | (go_simp; with_reducible rfl)
  try simp only [Act.put, List.setIfInBounds_toArray, List.set_cons_zero, List.set_cons_succ]
  refine wpAnyH_take (i := 5) (oi := { dst := some 36, op := Op.move (Operand.tmp 35), type := 4, pos := "law.go:86", after := _, guard := none }) (v := ?_) rfl (by kernel_rfl) (by kernel_rfl) (by kernel_rfl) (fun _ _ _ h => h) (Or.inl ⟨by rfl, ?_⟩) hH ?_
  rotate_left
  · intro wz hSw
    (try dsimp only at hSw)
    first | (go_simp; done) | (go_simp; with_reducible rfl)
  try simp only [Act.put, List.setIfInBounds_toArray, List.set_cons_zero, List.set_cons_succ]
  refine wpAnyH_take (i := 6) (oi := { dst := some 37, op := Op.load 27 (Operand.tmp 10), type := 27, pos := "law.go:86", after := _, guard := some (5, false) }) (v := undef) rfl (by kernel_rfl) (by kernel_rfl) (by kernel_rfl) (fun _ _ _ h => h) (Or.inr ⟨by rfl, rfl⟩) hH ?_
  try simp only [Act.put, List.setIfInBounds_toArray, List.set_cons_zero, List.set_cons_succ]
  refine wpAnyH_take (i := 7) (oi := { dst := some 38, op := Op.move (Operand.tmp 2), type := 3, pos := "law.go:86", after := _, guard := some (5, false) }) (v := undef) rfl (by kernel_rfl) (by kernel_rfl) (by kernel_rfl) (fun _ _ _ h => h) (Or.inr ⟨by rfl, rfl⟩) hH ?_
  try simp only [Act.put, List.setIfInBounds_toArray, List.set_cons_zero, List.set_cons_succ]
  refine wpAnyH_take (i := 8) (oi := { dst := some 39, op := Op.move (Operand.tmp 3), type := 3, pos := "law.go:86", after := _, guard := some (5, false) }) (v := undef) rfl (by kernel_rfl) (by kernel_rfl) (by kernel_rfl) (fun _ _ _ h => h) (Or.inr ⟨by rfl, rfl⟩) hH ?_
  try simp only [Act.put, List.setIfInBounds_toArray, List.set_cons_zero, List.set_cons_succ]
  refine wpAnyH_ready (rs := [9]) (by kernel_rfl) (by simp) ?_
  refine allReady_pass (o := { dst := some 40, op := Op.call { callee := Callee.value (Operand.func 17), args := #[Operand.tmp 37, Operand.tmp 38, Operand.tmp 39], argTypes := #[27, 3, 3] }, type := 4, pos := "law.go:86", after := _, guard := some (5, false) }) rfl (by rfl) hH ?_ AllReadyH.nil
  try simp only [Act.put, List.setIfInBounds_toArray, List.set_cons_zero, List.set_cons_succ]
  refine wpAnyH_take (i := 10) (oi := { dst := some 41, op := Op.pick (Operand.tmp 36) (Operand.const (Value.bool true)) (Operand.tmp 40), type := 4, pos := "law.go:86", after := _, guard := none }) (v := ?_) rfl (by kernel_rfl) (by kernel_rfl) (by kernel_rfl) (fun _ _ _ h => h) (Or.inl ⟨by rfl, ?_⟩) hH ?_
  rotate_left
  · intro wz hSw
    (try dsimp only at hSw)
    first | (go_simp; done) | (go_simp; with_reducible rfl)
  try simp only [Act.put, List.setIfInBounds_toArray, List.set_cons_zero, List.set_cons_succ]
  refine wpAnyH_take (i := 11) (oi := { dst := some 42, op := Op.move (Operand.tmp 41), type := 4, pos := "law.go:86", after := _, guard := none }) (v := ?_) rfl (by kernel_rfl) (by kernel_rfl) (by kernel_rfl) (fun _ _ _ h => h) (Or.inl ⟨by rfl, ?_⟩) hH ?_
  rotate_left
  · intro wz hSw
    (try dsimp only at hSw)
    first | (go_simp; done) | (go_simp; with_reducible rfl)
  try simp only [Act.put, List.setIfInBounds_toArray, List.set_cons_zero, List.set_cons_succ]
  refine wpAnyH_take (i := 12) (oi := { dst := some 43, op := Op.load 23 (Operand.tmp 5), type := 23, pos := "law.go:86", after := _, guard := some (11, true) }) (v := ?_) rfl (by kernel_rfl) (by kernel_rfl) (by kernel_rfl) (fun _ _ _ h => h) (Or.inl ⟨by rfl, ?_⟩) hH ?_
  rotate_left
  · intro wz hSw
    (try dsimp only at hSw)
    first | (go_simp; done) | (go_simp; with_reducible rfl)
  try simp only [Act.put, List.setIfInBounds_toArray, List.set_cons_zero, List.set_cons_succ]
  refine wpAnyH_take (i := 13) (oi := { dst := some 44, op := Op.fieldAddr 27 (Operand.tmp 4) 0, type := 0, pos := "law.go:86", after := _, guard := some (11, true) }) (v := ?_) rfl (by kernel_rfl) (by kernel_rfl) (by kernel_rfl) (fun _ _ _ h => h) (Or.inl ⟨by rfl, ?_⟩) hH ?_
  rotate_left
  · intro wz hSw
    (try dsimp only at hSw)
    first | (go_simp; done) | (go_simp; with_reducible rfl)
  try simp only [Act.put, List.setIfInBounds_toArray, List.set_cons_zero, List.set_cons_succ]
  refine wpAnyH_take (i := 14) (oi := { dst := some 45, op := Op.load 23 (Operand.tmp 44), type := 23, pos := "law.go:86", after := _, guard := some (11, true) }) (v := ?_) rfl (by kernel_rfl) (by kernel_rfl) (by kernel_rfl) (fun _ _ _ h => h) (Or.inl ⟨by rfl, ?_⟩) hH ?_
  rotate_left
  · intro wz hSw
    (try dsimp only at hSw)
    first | (go_simp; done) | (go_simp; with_reducible rfl)
  try simp only [Act.put, List.setIfInBounds_toArray, List.set_cons_zero, List.set_cons_succ]
  refine wpAnyH_ready (rs := [15]) (by kernel_rfl) (by simp) ?_
  refine AllReadyH.cons (o := { dst := some 46, op := Op.call { callee := Callee.value (Operand.func 23), args := #[Operand.tmp 43, Operand.tmp 45], argTypes := #[23, 23] }, type := 4, pos := "law.go:86", after := _, guard := some (11, true) }) rfl (fun K hK => ?_) AllReadyH.nil
  go_simp
  refine (within_any b m a n _).mono ?_
  rw [hV]
  rintro e wq15 ⟨rfl, hbq⟩
  go_wp2_with fail
  refine hK.out _ _ (kept_fits hH hbq) (fun hH2 => ?_)
  clear hK K hH hbq
  have hH := hH2
  clear hH2
  try simp only [Act.put, List.setIfInBounds_toArray, List.set_cons_zero, List.set_cons_succ]
  refine wpAnyH_take (i := 16) (oi := { dst := some 47, op := Op.unOp UnOp.not 4 (Operand.tmp 46), type := 4, pos := "law.go:86", after := _, guard := some (11, true) }) (v := ?_) rfl (by kernel_rfl) (by kernel_rfl) (by kernel_rfl) (fun _ _ _ h => h) (Or.inl ⟨by rfl, ?_⟩) hH ?_
  rotate_left
  · intro wz hSw
    (try dsimp only at hSw)
    first | (go_simp; done) | (go_simp; with_reducible rfl)
  try simp only [Act.put, List.setIfInBounds_toArray, List.set_cons_zero, List.set_cons_succ]
  refine wpAnyH_take (i := 17) (oi := { dst := some 48, op := Op.move (Operand.tmp 47), type := 4, pos := "law.go:86", after := _, guard := some (11, true) }) (v := ?_) rfl (by kernel_rfl) (by kernel_rfl) (by kernel_rfl) (fun _ _ _ h => h) (Or.inl ⟨by rfl, ?_⟩) hH ?_
  rotate_left
  · intro wz hSw
    (try dsimp only at hSw)
    first | (go_simp; done) | (go_simp; with_reducible rfl)
  try simp only [Act.put, List.setIfInBounds_toArray, List.set_cons_zero, List.set_cons_succ]
  refine wpAnyH_take (i := 18) (oi := { dst := some 49, op := Op.load 27 (Operand.tmp 4), type := 27, pos := "law.go:86", after := _, guard := some (17, false) }) (v := ?_) rfl (by kernel_rfl) (by kernel_rfl) (by kernel_rfl) (fun _ _ _ h => h) (Or.inl ⟨by rfl, ?_⟩) hH ?_
  rotate_left
  · intro wz hSw
    (try dsimp only at hSw)
    first | (go_simp; done) | (go_simp; with_reducible rfl)
  try simp only [Act.put, List.setIfInBounds_toArray, List.set_cons_zero, List.set_cons_succ]
  refine wpAnyH_take (i := 19) (oi := { dst := some 50, op := Op.move (Operand.tmp 2), type := 3, pos := "law.go:86", after := _, guard := some (17, false) }) (v := ?_) rfl (by kernel_rfl) (by kernel_rfl) (by kernel_rfl) (fun _ _ _ h => h) (Or.inl ⟨by rfl, ?_⟩) hH ?_
  rotate_left
  · intro wz hSw
    (try dsimp only at hSw)
    first | (go_simp; done) | (go_simp; with_reducible rfl)
  try simp only [Act.put, List.setIfInBounds_toArray, List.set_cons_zero, List.set_cons_succ]
  refine wpAnyH_take (i := 20) (oi := { dst := some 51, op := Op.move (Operand.tmp 3), type := 3, pos := "law.go:86", after := _, guard := some (17, false) }) (v := ?_) rfl (by kernel_rfl) (by kernel_rfl) (by kernel_rfl) (fun _ _ _ h => h) (Or.inl ⟨by rfl, ?_⟩) hH ?_
  rotate_left
  · intro wz hSw
    (try dsimp only at hSw)
    first | (go_simp; done) | (go_simp; with_reducible rfl)
  try simp only [Act.put, List.setIfInBounds_toArray, List.set_cons_zero, List.set_cons_succ]
  refine wpAnyH_ready (rs := [21]) (by kernel_rfl) (by simp) ?_
  refine AllReadyH.cons (o := { dst := some 52, op := Op.call { callee := Callee.value (Operand.func 17), args := #[Operand.tmp 49, Operand.tmp 50, Operand.tmp 51], argTypes := #[27, 3, 3] }, type := 4, pos := "law.go:86", after := _, guard := some (17, false) }) rfl (fun K hK => ?_) AllReadyH.nil
  go_simp
  refine (ruFits_any a n i p k t x d _).mono ?_
  rw [hF]
  rintro e wq21 ⟨rfl, hbq⟩
  go_wp2_with fail
  refine hK.out _ _ (kept_fits hH hbq) (fun hH2 => ?_)
  clear hK K hH hbq
  have hH := hH2
  clear hH2
  try simp only [Act.put, List.setIfInBounds_toArray, List.set_cons_zero, List.set_cons_succ]
  refine wpAnyH_take (i := 22) (oi := { dst := some 53, op := Op.unOp UnOp.not 4 (Operand.tmp 52), type := 4, pos := "law.go:86", after := _, guard := some (17, false) }) (v := ?_) rfl (by kernel_rfl) (by kernel_rfl) (by kernel_rfl) (fun _ _ _ h => h) (Or.inl ⟨by rfl, ?_⟩) hH ?_
  rotate_left
  · intro wz hSw
    (try dsimp only at hSw)
    first | (go_simp; done) | (go_simp; with_reducible rfl)
  try simp only [Act.put, List.setIfInBounds_toArray, List.set_cons_zero, List.set_cons_succ]
  refine wpAnyH_take (i := 23) (oi := { dst := some 54, op := Op.pick (Operand.tmp 48) (Operand.const (Value.bool true)) (Operand.tmp 53), type := 4, pos := "law.go:86", after := _, guard := some (11, true) }) (v := ?_) rfl (by kernel_rfl) (by kernel_rfl) (by kernel_rfl) (fun _ _ _ h => h) (Or.inl ⟨by rfl, ?_⟩) hH ?_
  rotate_left
  · intro wz hSw
    (try dsimp only at hSw)
    first | (go_simp; done) | (go_simp; with_reducible rfl)
  try simp only [Act.put, List.setIfInBounds_toArray, List.set_cons_zero, List.set_cons_succ]
  refine wpAnyH_take (i := 24) (oi := { dst := some 55, op := Op.move (Operand.tmp 54), type := 4, pos := "law.go:86", after := _, guard := some (11, true) }) (v := ?_) rfl (by kernel_rfl) (by kernel_rfl) (by kernel_rfl) (fun _ _ _ h => h) (Or.inl ⟨by rfl, ?_⟩) hH ?_
  rotate_left
  · intro wz hSw
    (try dsimp only at hSw)
    first | (go_simp; done) | (go_simp; with_reducible rfl)
  try simp only [Act.put, List.setIfInBounds_toArray, List.set_cons_zero, List.set_cons_succ]
  refine wpAnyH_take (i := 25) (oi := { dst := some 56, op := Op.load 27 (Operand.tmp 11), type := 27, pos := "law.go:86", after := _, guard := some (24, false) }) (v := undef) rfl (by kernel_rfl) (by kernel_rfl) (by kernel_rfl) (fun _ _ _ h => h) (Or.inr ⟨by rfl, rfl⟩) hH ?_
  try simp only [Act.put, List.setIfInBounds_toArray, List.set_cons_zero, List.set_cons_succ]
  refine wpAnyH_take (i := 26) (oi := { dst := some 57, op := Op.move (Operand.tmp 2), type := 3, pos := "law.go:86", after := _, guard := some (24, false) }) (v := undef) rfl (by kernel_rfl) (by kernel_rfl) (by kernel_rfl) (fun _ _ _ h => h) (Or.inr ⟨by rfl, rfl⟩) hH ?_
  try simp only [Act.put, List.setIfInBounds_toArray, List.set_cons_zero, List.set_cons_succ]
  refine wpAnyH_take (i := 27) (oi := { dst := some 58, op := Op.move (Operand.tmp 3), type := 3, pos := "law.go:86", after := _, guard := some (24, false) }) (v := undef) rfl (by kernel_rfl) (by kernel_rfl) (by kernel_rfl) (fun _ _ _ h => h) (Or.inr ⟨by rfl, rfl⟩) hH ?_
  try simp only [Act.put, List.setIfInBounds_toArray, List.set_cons_zero, List.set_cons_succ]
  refine wpAnyH_ready (rs := [28]) (by kernel_rfl) (by simp) ?_
  refine allReady_pass (o := { dst := some 59, op := Op.call { callee := Callee.value (Operand.func 17), args := #[Operand.tmp 56, Operand.tmp 57, Operand.tmp 58], argTypes := #[27, 3, 3] }, type := 4, pos := "law.go:86", after := _, guard := some (24, false) }) rfl (by rfl) hH ?_ AllReadyH.nil
  try simp only [Act.put, List.setIfInBounds_toArray, List.set_cons_zero, List.set_cons_succ]
  refine wpAnyH_take (i := 29) (oi := { dst := some 60, op := Op.pick (Operand.tmp 55) (Operand.const (Value.bool true)) (Operand.tmp 59), type := 4, pos := "law.go:86", after := _, guard := some (11, true) }) (v := ?_) rfl (by kernel_rfl) (by kernel_rfl) (by kernel_rfl) (fun _ _ _ h => h) (Or.inl ⟨by rfl, ?_⟩) hH ?_
  rotate_left
  · intro wz hSw
    (try dsimp only at hSw)
    first | (go_simp; done) | (go_simp; with_reducible rfl)
  try simp only [Act.put, List.setIfInBounds_toArray, List.set_cons_zero, List.set_cons_succ]
  refine wpAnyH_take (i := 30) (oi := { dst := some 61, op := Op.pick (Operand.tmp 42) (Operand.tmp 60) (Operand.const (Value.bool false)), type := 4, pos := "law.go:86", after := _, guard := none }) (v := ?_) rfl (by kernel_rfl) (by kernel_rfl) (by kernel_rfl) (fun _ _ _ h => h) (Or.inl ⟨by rfl, ?_⟩) hH ?_
  rotate_left
  · intro wz hSw
    (try dsimp only at hSw)
    first | (go_simp; done) | (go_simp; with_reducible rfl)
  try simp only [Act.put, List.setIfInBounds_toArray, List.set_cons_zero, List.set_cons_succ]
  refine wpAnyH_take (i := 31) (oi := { dst := some 62, op := Op.move (Operand.tmp 61), type := 4, pos := "law.go:86", after := _, guard := none }) (v := ?_) rfl (by kernel_rfl) (by kernel_rfl) (by kernel_rfl) (fun _ _ _ h => h) (Or.inl ⟨by rfl, ?_⟩) hH ?_
  rotate_left
  · intro wz hSw
    (try dsimp only at hSw)
    first | (go_simp; done) | (go_simp; with_reducible rfl)
  try simp only [Act.put, List.setIfInBounds_toArray, List.set_cons_zero, List.set_cons_succ]
  refine wpAnyH_take (i := 32) (oi := { dst := some 63, op := Op.load 27 (Operand.tmp 10), type := 27, pos := "law.go:86", after := _, guard := some (31, true) }) (v := ?_) rfl (by kernel_rfl) (by kernel_rfl) (by kernel_rfl) (fun _ _ _ h => h) (Or.inl ⟨by rfl, ?_⟩) hH ?_
  rotate_left
  · intro wz hSw
    (try dsimp only at hSw)
    first | (go_simp; done) | (go_simp; with_reducible rfl)
  try simp only [Act.put, List.setIfInBounds_toArray, List.set_cons_zero, List.set_cons_succ]
  refine wpAnyH_take (i := 33) (oi := { dst := some 64, op := Op.move (Operand.tmp 2), type := 3, pos := "law.go:86", after := _, guard := some (31, true) }) (v := ?_) rfl (by kernel_rfl) (by kernel_rfl) (by kernel_rfl) (fun _ _ _ h => h) (Or.inl ⟨by rfl, ?_⟩) hH ?_
  rotate_left
  · intro wz hSw
    (try dsimp only at hSw)
    first | (go_simp; done) | (go_simp; with_reducible rfl)
  try simp only [Act.put, List.setIfInBounds_toArray, List.set_cons_zero, List.set_cons_succ]
  refine wpAnyH_take (i := 34) (oi := { dst := some 65, op := Op.move (Operand.tmp 3), type := 3, pos := "law.go:86", after := _, guard := some (31, true) }) (v := ?_) rfl (by kernel_rfl) (by kernel_rfl) (by kernel_rfl) (fun _ _ _ h => h) (Or.inl ⟨by rfl, ?_⟩) hH ?_
  rotate_left
  · intro wz hSw
    (try dsimp only at hSw)
    first | (go_simp; done) | (go_simp; with_reducible rfl)
  try simp only [Act.put, List.setIfInBounds_toArray, List.set_cons_zero, List.set_cons_succ]
  refine wpAnyH_take (i := 36) (oi := { dst := some 67, op := Op.fieldAddr 27 (Operand.tmp 4) 0, type := 0, pos := "law.go:86", after := _, guard := some (31, true) }) (v := ?_) rfl (by kernel_rfl) (by kernel_rfl) (by kernel_rfl) (fun _ _ _ h => h) (Or.inl ⟨by rfl, ?_⟩) hH ?_
  rotate_left
  · intro wz hSw
    (try dsimp only at hSw)
    first | (go_simp; done) | (go_simp; with_reducible rfl)
  try simp only [Act.put, List.setIfInBounds_toArray, List.set_cons_zero, List.set_cons_succ]
  refine wpAnyH_take (i := 37) (oi := { dst := some 68, op := Op.load 23 (Operand.tmp 67), type := 23, pos := "law.go:86", after := _, guard := some (31, true) }) (v := ?_) rfl (by kernel_rfl) (by kernel_rfl) (by kernel_rfl) (fun _ _ _ h => h) (Or.inl ⟨by rfl, ?_⟩) hH ?_
  rotate_left
  · intro wz hSw
    (try dsimp only at hSw)
    first | (go_simp; done) | (go_simp; with_reducible rfl)
  try simp only [Act.put, List.setIfInBounds_toArray, List.set_cons_zero, List.set_cons_succ]
  refine wpAnyH_take (i := 38) (oi := { dst := some 69, op := Op.move (Operand.tmp 3), type := 3, pos := "law.go:86", after := _, guard := some (31, true) }) (v := ?_) rfl (by kernel_rfl) (by kernel_rfl) (by kernel_rfl) (fun _ _ _ h => h) (Or.inl ⟨by rfl, ?_⟩) hH ?_
  rotate_left
  · intro wz hSw
    (try dsimp only at hSw)
    first | (go_simp; done) | (go_simp; with_reducible rfl)
  try simp only [Act.put, List.setIfInBounds_toArray, List.set_cons_zero, List.set_cons_succ]
  refine wpAnyH_ready (rs := [35]) (by kernel_rfl) (by simp) ?_
  refine AllReadyH.cons (o := { dst := some 66, op := Op.call { callee := Callee.value (Operand.func 17), args := #[Operand.tmp 63, Operand.tmp 64, Operand.tmp 65], argTypes := #[27, 3, 3] }, type := 4, pos := "law.go:86", after := _, guard := some (31, true) }) rfl (fun K hK => ?_) AllReadyH.nil
  go_simp
  refine (ruFits_any a n (-1) p k t x d _).mono ?_
  rw [hAny]
  rintro e wq35 ⟨rfl, hbq⟩
  go_wp2_with fail
  refine hK.out _ _ (kept_fits hH hbq) (fun hH2 => ?_)
  clear hK K hH hbq
  have hH := hH2
  clear hH2
  try simp only [Act.put, List.setIfInBounds_toArray, List.set_cons_zero, List.set_cons_succ]
  refine wpAnyH_ready (rs := [39]) (by kernel_rfl) (by simp) ?_
  refine AllReadyH.cons (o := { dst := some 70, op := Op.call { callee := Callee.value (Operand.func 24), args := #[Operand.tmp 68, Operand.tmp 69], argTypes := #[23, 3] }, type := 4, pos := "law.go:86", after := _, guard := some (31, true) }) rfl (fun K hK => ?_) AllReadyH.nil
  go_simp
  refine (has_any a n d _).mono ?_
  rw [hH0]
  rintro e wq39 ⟨rfl, hbq⟩
  go_wp2_with fail
  refine hK.out _ _ (kept_fits hH hbq) (fun hH2 => ?_)
  clear hK K hH hbq
  have hH := hH2
  clear hH2
  try simp only [Act.put, List.setIfInBounds_toArray, List.set_cons_zero, List.set_cons_succ]
  refine wpAnyH_take (i := 40) (oi := { dst := some 71, op := Op.binOp BinOp.eql 4 (Operand.tmp 66) (Operand.tmp 70) 4, type := 4, pos := "law.go:86", after := _, guard := some (31, true) }) (v := ?_) rfl (by kernel_rfl) (by kernel_rfl) (by kernel_rfl) (fun _ _ _ h => h) (Or.inl ⟨by rfl, ?_⟩) hH ?_
  rotate_left
  · intro wz hSw
    (try dsimp only at hSw)
    first | (go_simp; done) | (go_simp; with_reducible rfl)
  try simp only [Act.put, List.setIfInBounds_toArray, List.set_cons_zero, List.set_cons_succ]
  refine wpAnyH_take (i := 41) (oi := { dst := some 72, op := Op.pick (Operand.tmp 62) (Operand.tmp 71) (Operand.const (Value.bool false)), type := 4, pos := "law.go:86", after := _, guard := none }) (v := ?_) rfl (by kernel_rfl) (by kernel_rfl) (by kernel_rfl) (fun _ _ _ h => h) (Or.inl ⟨by rfl, ?_⟩) hH ?_
  rotate_left
  · intro wz hSw
    (try dsimp only at hSw)
    first | (go_simp; done) | (go_simp; with_reducible rfl)
  try simp only [Act.put, List.setIfInBounds_toArray, List.set_cons_zero, List.set_cons_succ]
  refine wpAnyH_take (i := 42) (oi := { dst := some 8, op := Op.assign (Operand.tmp 72), type := 4, pos := "law.go:86", after := _, guard := none }) (v := ?_) rfl (by kernel_rfl) (by kernel_rfl) (by kernel_rfl) (fun _ _ _ h => h) (Or.inl ⟨by rfl, ?_⟩) hH ?_
  rotate_left
  · intro wz hSw
    (try dsimp only at hSw)
    first | (go_simp; done) | (go_simp; with_reducible rfl)
  try simp only [Act.put, List.setIfInBounds_toArray, List.set_cons_zero, List.set_cons_succ]
  refine wpAnyH_done (by kernel_rfl) ?_ _
  refine NoPanic.normal ?_
  go_wp2_with fail
  go_ret
  exact ⟨rfl, hH.1⟩
set_option maxHeartbeats 4000000 in
theorem fits_fff (a n i p k t b m x d : Int) (w : World)
    (cM : ∀ w, Calls Try.prog 16 #[.agg #[.int .i64 a, .int .i64 n, .int .i64 i, .int .i64 p, .int .i64 k, .int .i64 t]] w fun e w' => e = .returned (.bool true) ∧ Below w.heap.size w w')
    (cP : ∀ w, Calls Try.prog 22 #[.agg #[.int .i64 b, .int .i64 m]] w fun e w' => e = .returned (.bool true) ∧ Below w.heap.size w w')
    (hF : fitB a n i x d = false)
    (hAny : fitB a n (-1) x d = false)
    (hV : M.inB b m a n = false)
    (hH0 : M.hasB a n d = false) :
    Calls Try.prog 7 #[.agg #[.int .i64 a, .int .i64 n, .int .i64 i, .int .i64 p, .int .i64 k, .int .i64 t], .agg #[.int .i64 b, .int .i64 m], .int .i64 x, .int .i64 d] w fun e w' => e = .returned (.bool true) ∧ Below w.heap.size w w' := by
  have hn0 := below_new w (.cells #[.int .i64 a, .int .i64 n, .int .i64 i, .int .i64 p, .int .i64 k, .int .i64 t] 27)
  have X0 := Lies.new w [a, n, i, p, k, t] 27 (B := w.heap.size) rfl
  have hB := hn0
  have hn1 := below_new (w.alloc (.cells #[.int .i64 a, .int .i64 n, .int .i64 i, .int .i64 p, .int .i64 k, .int .i64 t] 27)) (.cells #[.int .i64 b, .int .i64 m] 23)
  have X1 := Lies.new (w.alloc (.cells #[.int .i64 a, .int .i64 n, .int .i64 i, .int .i64 p, .int .i64 k, .int .i64 t] 27)) [b, m] 23 (B := w.heap.size + 1) (by simp)
  replace X0 := X0.later hn1
  replace hB := below_step hB hn1
  clear hn0 hn1
  obtain ⟨x00, x01, x02, x03, x04, x05⟩ := X0.six
  obtain ⟨x10, x11⟩ := X1.two
  go_enter Try.func7, Try.ntmps7
  go_wp2_with fail
  refine (awake_any _).mono ?_
  rintro e w1 ⟨rfl, hb1⟩
  clear x00 x01 x02 x03 x04 x05
  clear x10 x11
  replace X0 := X0.later hb1
  replace X1 := X1.later hb1
  replace hB := below_step hB hb1
  clear hb1
  obtain ⟨x00, x01, x02, x03, x04, x05⟩ := X0.six
  obtain ⟨x10, x11⟩ := X1.two
  go_wp2_with fail
  refine (cM _).mono ?_
  rintro e w2 ⟨rfl, hb2⟩
  clear x00 x01 x02 x03 x04 x05
  clear x10 x11
  replace X0 := X0.later hb2
  replace X1 := X1.later hb2
  replace hB := below_step hB hb2
  clear hb2
  obtain ⟨x00, x01, x02, x03, x04, x05⟩ := X0.six
  obtain ⟨x10, x11⟩ := X1.two
  go_wp2_with fail
  refine (cP _).mono ?_
  rintro e w3 ⟨rfl, hb3⟩
  clear x00 x01 x02 x03 x04 x05
  clear x10 x11
  replace X0 := X0.later hb3
  replace X1 := X1.later hb3
  replace hB := below_step hB hb3
  clear hb3
  obtain ⟨x00, x01, x02, x03, x04, x05⟩ := X0.six
  obtain ⟨x10, x11⟩ := X1.two
  have hq0 := below_new w3 (.cells #[.int .i64 a, .int .i64 n, .int .i64 i, .int .i64 p, .int .i64 k, .int .i64 t] 27)
  obtain ⟨x0q0, x0q1, x0q2, x0q3, x0q4, x0q5⟩ := (X0.later hq0).six
  obtain ⟨x1q0, x1q1⟩ := (X1.later hq0).two
  clear hq0
  have hv0 := below_new w3 (.cells #[.int .i64 a, .int .i64 n, .int .i64 (-1), .int .i64 p, .int .i64 k, .int .i64 t] 27)
  replace X0 := X0.later hv0
  replace X1 := X1.later hv0
  replace hB := below_step hB hv0
  clear hv0
  have V0 := Lies.new w3 [a, n, -1, p, k, t] 27 (B := w3.heap.size) rfl
  obtain ⟨x00, x01, x02, x03, x04, x05⟩ := X0.six
  obtain ⟨x10, x11⟩ := X1.two
  obtain ⟨v00, v01, v02, v03, v04, v05⟩ := V0.six
  have hq1 := below_new (w3.alloc (.cells #[.int .i64 a, .int .i64 n, .int .i64 (-1), .int .i64 p, .int .i64 k, .int .i64 t] 27)) (.cells #[.int .i64 a, .int .i64 n, .int .i64 i, .int .i64 p, .int .i64 k, .int .i64 t] 27)
  obtain ⟨x0q0, x0q1, x0q2, x0q3, x0q4, x0q5⟩ := (X0.later hq1).six
  obtain ⟨x1q0, x1q1⟩ := (X1.later hq1).two
  obtain ⟨v0q0, v0q1, v0q2, v0q3, v0q4, v0q5⟩ := (V0.later hq1).six
  clear hq1
  have hv1 := below_new (w3.alloc (.cells #[.int .i64 a, .int .i64 n, .int .i64 (-1), .int .i64 p, .int .i64 k, .int .i64 t] 27)) (.cells #[.int .i64 b, .int .i64 m, .int .i64 i, .int .i64 p, .int .i64 k, .int .i64 t] 27)
  replace X0 := X0.later hv1
  replace X1 := X1.later hv1
  replace V0 := V0.later hv1
  replace hB := below_step hB hv1
  clear hv1
  have V1 := Lies.new (w3.alloc (.cells #[.int .i64 a, .int .i64 n, .int .i64 (-1), .int .i64 p, .int .i64 k, .int .i64 t] 27)) [b, m, i, p, k, t] 27 (B := w3.heap.size + 1) (by simp)
  obtain ⟨x00, x01, x02, x03, x04, x05⟩ := X0.six
  obtain ⟨x10, x11⟩ := X1.two
  obtain ⟨v00, v01, v02, v03, v04, v05⟩ := V0.six
  obtain ⟨v10, v11, v12, v13, v14, v15⟩ := V1.six
  have S0 : Below w.heap.size w ((w3.alloc (.cells #[.int .i64 a, .int .i64 n, .int .i64 (-1), .int .i64 p, .int .i64 k, .int .i64 t] 27)).alloc (.cells #[.int .i64 b, .int .i64 m, .int .i64 i, .int .i64 p, .int .i64 k, .int .i64 t] 27)).drew ∧ w.heap.size < ((w3.alloc (.cells #[.int .i64 a, .int .i64 n, .int .i64 (-1), .int .i64 p, .int .i64 k, .int .i64 t] 27)).alloc (.cells #[.int .i64 b, .int .i64 m, .int .i64 i, .int .i64 p, .int .i64 k, .int .i64 t] 27)).drew.heap.size ∧ w.heap.size + 1 < ((w3.alloc (.cells #[.int .i64 a, .int .i64 n, .int .i64 (-1), .int .i64 p, .int .i64 k, .int .i64 t] 27)).alloc (.cells #[.int .i64 b, .int .i64 m, .int .i64 i, .int .i64 p, .int .i64 k, .int .i64 t] 27)).drew.heap.size ∧ w3.heap.size < ((w3.alloc (.cells #[.int .i64 a, .int .i64 n, .int .i64 (-1), .int .i64 p, .int .i64 k, .int .i64 t] 27)).alloc (.cells #[.int .i64 b, .int .i64 m, .int .i64 i, .int .i64 p, .int .i64 k, .int .i64 t] 27)).drew.heap.size ∧ w3.heap.size + 1 < ((w3.alloc (.cells #[.int .i64 a, .int .i64 n, .int .i64 (-1), .int .i64 p, .int .i64 k, .int .i64 t] 27)).alloc (.cells #[.int .i64 b, .int .i64 m, .int .i64 i, .int .i64 p, .int .i64 k, .int .i64 t] 27)).drew.heap.size ∧ ((w3.alloc (.cells #[.int .i64 a, .int .i64 n, .int .i64 (-1), .int .i64 p, .int .i64 k, .int .i64 t] 27)).alloc (.cells #[.int .i64 b, .int .i64 m, .int .i64 i, .int .i64 p, .int .i64 k, .int .i64 t] 27)).drew.cell? ⟨w.heap.size, 0, none⟩ = some (.int .i64 a) ∧ ((w3.alloc (.cells #[.int .i64 a, .int .i64 n, .int .i64 (-1), .int .i64 p, .int .i64 k, .int .i64 t] 27)).alloc (.cells #[.int .i64 b, .int .i64 m, .int .i64 i, .int .i64 p, .int .i64 k, .int .i64 t] 27)).drew.cell? ⟨w.heap.size, 1, none⟩ = some (.int .i64 n) ∧ ((w3.alloc (.cells #[.int .i64 a, .int .i64 n, .int .i64 (-1), .int .i64 p, .int .i64 k, .int .i64 t] 27)).alloc (.cells #[.int .i64 b, .int .i64 m, .int .i64 i, .int .i64 p, .int .i64 k, .int .i64 t] 27)).drew.cell? ⟨w.heap.size, 2, none⟩ = some (.int .i64 i) ∧ ((w3.alloc (.cells #[.int .i64 a, .int .i64 n, .int .i64 (-1), .int .i64 p, .int .i64 k, .int .i64 t] 27)).alloc (.cells #[.int .i64 b, .int .i64 m, .int .i64 i, .int .i64 p, .int .i64 k, .int .i64 t] 27)).drew.cell? ⟨w.heap.size, 3, none⟩ = some (.int .i64 p) ∧ ((w3.alloc (.cells #[.int .i64 a, .int .i64 n, .int .i64 (-1), .int .i64 p, .int .i64 k, .int .i64 t] 27)).alloc (.cells #[.int .i64 b, .int .i64 m, .int .i64 i, .int .i64 p, .int .i64 k, .int .i64 t] 27)).drew.cell? ⟨w.heap.size, 4, none⟩ = some (.int .i64 k) ∧ ((w3.alloc (.cells #[.int .i64 a, .int .i64 n, .int .i64 (-1), .int .i64 p, .int .i64 k, .int .i64 t] 27)).alloc (.cells #[.int .i64 b, .int .i64 m, .int .i64 i, .int .i64 p, .int .i64 k, .int .i64 t] 27)).drew.cell? ⟨w.heap.size, 5, none⟩ = some (.int .i64 t) ∧ ((w3.alloc (.cells #[.int .i64 a, .int .i64 n, .int .i64 (-1), .int .i64 p, .int .i64 k, .int .i64 t] 27)).alloc (.cells #[.int .i64 b, .int .i64 m, .int .i64 i, .int .i64 p, .int .i64 k, .int .i64 t] 27)).drew.cell? ⟨w.heap.size + 1, 0, none⟩ = some (.int .i64 b) ∧ ((w3.alloc (.cells #[.int .i64 a, .int .i64 n, .int .i64 (-1), .int .i64 p, .int .i64 k, .int .i64 t] 27)).alloc (.cells #[.int .i64 b, .int .i64 m, .int .i64 i, .int .i64 p, .int .i64 k, .int .i64 t] 27)).drew.cell? ⟨w.heap.size + 1, 1, none⟩ = some (.int .i64 m) ∧ ((w3.alloc (.cells #[.int .i64 a, .int .i64 n, .int .i64 (-1), .int .i64 p, .int .i64 k, .int .i64 t] 27)).alloc (.cells #[.int .i64 b, .int .i64 m, .int .i64 i, .int .i64 p, .int .i64 k, .int .i64 t] 27)).drew.cell? ⟨w3.heap.size, 0, none⟩ = some (.int .i64 a) ∧ ((w3.alloc (.cells #[.int .i64 a, .int .i64 n, .int .i64 (-1), .int .i64 p, .int .i64 k, .int .i64 t] 27)).alloc (.cells #[.int .i64 b, .int .i64 m, .int .i64 i, .int .i64 p, .int .i64 k, .int .i64 t] 27)).drew.cell? ⟨w3.heap.size, 1, none⟩ = some (.int .i64 n) ∧ ((w3.alloc (.cells #[.int .i64 a, .int .i64 n, .int .i64 (-1), .int .i64 p, .int .i64 k, .int .i64 t] 27)).alloc (.cells #[.int .i64 b, .int .i64 m, .int .i64 i, .int .i64 p, .int .i64 k, .int .i64 t] 27)).drew.cell? ⟨w3.heap.size, 2, none⟩ = some (.int .i64 (-1)) ∧ ((w3.alloc (.cells #[.int .i64 a, .int .i64 n, .int .i64 (-1), .int .i64 p, .int .i64 k, .int .i64 t] 27)).alloc (.cells #[.int .i64 b, .int .i64 m, .int .i64 i, .int .i64 p, .int .i64 k, .int .i64 t] 27)).drew.cell? ⟨w3.heap.size, 3, none⟩ = some (.int .i64 p) ∧ ((w3.alloc (.cells #[.int .i64 a, .int .i64 n, .int .i64 (-1), .int .i64 p, .int .i64 k, .int .i64 t] 27)).alloc (.cells #[.int .i64 b, .int .i64 m, .int .i64 i, .int .i64 p, .int .i64 k, .int .i64 t] 27)).drew.cell? ⟨w3.heap.size, 4, none⟩ = some (.int .i64 k) ∧ ((w3.alloc (.cells #[.int .i64 a, .int .i64 n, .int .i64 (-1), .int .i64 p, .int .i64 k, .int .i64 t] 27)).alloc (.cells #[.int .i64 b, .int .i64 m, .int .i64 i, .int .i64 p, .int .i64 k, .int .i64 t] 27)).drew.cell? ⟨w3.heap.size, 5, none⟩ = some (.int .i64 t) ∧ ((w3.alloc (.cells #[.int .i64 a, .int .i64 n, .int .i64 (-1), .int .i64 p, .int .i64 k, .int .i64 t] 27)).alloc (.cells #[.int .i64 b, .int .i64 m, .int .i64 i, .int .i64 p, .int .i64 k, .int .i64 t] 27)).drew.cell? ⟨w3.heap.size + 1, 0, none⟩ = some (.int .i64 b) ∧ ((w3.alloc (.cells #[.int .i64 a, .int .i64 n, .int .i64 (-1), .int .i64 p, .int .i64 k, .int .i64 t] 27)).alloc (.cells #[.int .i64 b, .int .i64 m, .int .i64 i, .int .i64 p, .int .i64 k, .int .i64 t] 27)).drew.cell? ⟨w3.heap.size + 1, 1, none⟩ = some (.int .i64 m) ∧ ((w3.alloc (.cells #[.int .i64 a, .int .i64 n, .int .i64 (-1), .int .i64 p, .int .i64 k, .int .i64 t] 27)).alloc (.cells #[.int .i64 b, .int .i64 m, .int .i64 i, .int .i64 p, .int .i64 k, .int .i64 t] 27)).drew.cell? ⟨w3.heap.size + 1, 2, none⟩ = some (.int .i64 i) ∧ ((w3.alloc (.cells #[.int .i64 a, .int .i64 n, .int .i64 (-1), .int .i64 p, .int .i64 k, .int .i64 t] 27)).alloc (.cells #[.int .i64 b, .int .i64 m, .int .i64 i, .int .i64 p, .int .i64 k, .int .i64 t] 27)).drew.cell? ⟨w3.heap.size + 1, 3, none⟩ = some (.int .i64 p) ∧ ((w3.alloc (.cells #[.int .i64 a, .int .i64 n, .int .i64 (-1), .int .i64 p, .int .i64 k, .int .i64 t] 27)).alloc (.cells #[.int .i64 b, .int .i64 m, .int .i64 i, .int .i64 p, .int .i64 k, .int .i64 t] 27)).drew.cell? ⟨w3.heap.size + 1, 4, none⟩ = some (.int .i64 k) ∧ ((w3.alloc (.cells #[.int .i64 a, .int .i64 n, .int .i64 (-1), .int .i64 p, .int .i64 k, .int .i64 t] 27)).alloc (.cells #[.int .i64 b, .int .i64 m, .int .i64 i, .int .i64 p, .int .i64 k, .int .i64 t] 27)).drew.cell? ⟨w3.heap.size + 1, 5, none⟩ = some (.int .i64 t) := ⟨hB.drew, X0.lt, X1.lt, V0.lt, V1.lt, x00, x01, x02, x03, x04, x05, x10, x11, v00, v01, v02, v03, v04, v05, v10, v11, v12, v13, v14, v15⟩
  clear X0 X1 V0 V1
  go_wp2_with fail
  refine wp_region_noPanic ?_
  refine wp_region_held_drew (S := fun w' => Below w.heap.size w w' ∧ w.heap.size < w'.heap.size ∧ w.heap.size + 1 < w'.heap.size ∧ w3.heap.size < w'.heap.size ∧ w3.heap.size + 1 < w'.heap.size ∧ w'.cell? ⟨w.heap.size, 0, none⟩ = some (.int .i64 a) ∧ w'.cell? ⟨w.heap.size, 1, none⟩ = some (.int .i64 n) ∧ w'.cell? ⟨w.heap.size, 2, none⟩ = some (.int .i64 i) ∧ w'.cell? ⟨w.heap.size, 3, none⟩ = some (.int .i64 p) ∧ w'.cell? ⟨w.heap.size, 4, none⟩ = some (.int .i64 k) ∧ w'.cell? ⟨w.heap.size, 5, none⟩ = some (.int .i64 t) ∧ w'.cell? ⟨w.heap.size + 1, 0, none⟩ = some (.int .i64 b) ∧ w'.cell? ⟨w.heap.size + 1, 1, none⟩ = some (.int .i64 m) ∧ w'.cell? ⟨w3.heap.size, 0, none⟩ = some (.int .i64 a) ∧ w'.cell? ⟨w3.heap.size, 1, none⟩ = some (.int .i64 n) ∧ w'.cell? ⟨w3.heap.size, 2, none⟩ = some (.int .i64 (-1)) ∧ w'.cell? ⟨w3.heap.size, 3, none⟩ = some (.int .i64 p) ∧ w'.cell? ⟨w3.heap.size, 4, none⟩ = some (.int .i64 k) ∧ w'.cell? ⟨w3.heap.size, 5, none⟩ = some (.int .i64 t) ∧ w'.cell? ⟨w3.heap.size + 1, 0, none⟩ = some (.int .i64 b) ∧ w'.cell? ⟨w3.heap.size + 1, 1, none⟩ = some (.int .i64 m) ∧ w'.cell? ⟨w3.heap.size + 1, 2, none⟩ = some (.int .i64 i) ∧ w'.cell? ⟨w3.heap.size + 1, 3, none⟩ = some (.int .i64 p) ∧ w'.cell? ⟨w3.heap.size + 1, 4, none⟩ = some (.int .i64 k) ∧ w'.cell? ⟨w3.heap.size + 1, 5, none⟩ = some (.int .i64 t)) (by kernel_rfl) S0 (fun hH => ?_)
  clear S0 hB x00 x01 x02 x03 x04 x05 x10 x11 v00 v01 v02 v03 v04 v05 v10 v11 v12 v13 v14 v15 x0q0 x0q1 x0q2 x0q3 x0q4 x0q5 x1q0 x1q1
  refine wpAnyH_take (i := 0) (oi := { dst := some 31, op := Op.load 27 (Operand.tmp 4), type := 27, pos := "law.go:86", after := _, guard := none }) (v := ?_) rfl (by kernel_rfl) (by kernel_rfl) (by kernel_rfl) (fun _ _ _ h => h) (Or.inl ⟨by rfl, ?_⟩) hH ?_
  rotate_left
  · intro wz hSw
    (try dsimp only at hSw)
    first | (go_simp; done) | (go_simp; with_reducible rfl)
  try simp only [Act.put, List.setIfInBounds_toArray, List.set_cons_zero, List.set_cons_succ]
  refine wpAnyH_take (i := 1) (oi := { dst := some 32, op := Op.move (Operand.tmp 2), type := 3, pos := "law.go:86", after := _, guard := none }) (v := ?_) rfl (by kernel_rfl) (by kernel_rfl) (by kernel_rfl) (fun _ _ _ h => h) (Or.inl ⟨by rfl, ?_⟩) hH ?_
  rotate_left
  · intro wz hSw
    (try dsimp only at hSw)
    first | (go_simp; done) | (go_simp; with_reducible rfl)
  try simp only [Act.put, List.setIfInBounds_toArray, List.set_cons_zero, List.set_cons_succ]
  refine wpAnyH_take (i := 2) (oi := { dst := some 33, op := Op.move (Operand.tmp 3), type := 3, pos := "law.go:86", after := _, guard := none }) (v := ?_) rfl (by kernel_rfl) (by kernel_rfl) (by kernel_rfl) (fun _ _ _ h => h) (Or.inl ⟨by rfl, ?_⟩) hH ?_
  rotate_left
  · intro wz hSw
    (try dsimp only at hSw)
    first | (go_simp; done) | (go_simp; with_reducible rfl)
  try simp only [Act.put, List.setIfInBounds_toArray, List.set_cons_zero, List.set_cons_succ]
  refine wpAnyH_ready (rs := [3]) (by kernel_rfl) (by simp) ?_
  refine AllReadyH.cons (o := { dst := some 34, op := Op.call { callee := Callee.value (Operand.func 17), args := #[Operand.tmp 31, Operand.tmp 32, Operand.tmp 33], argTypes := #[27, 3, 3] }, type := 4, pos := "law.go:86", after := _, guard := none }) rfl (fun K hK => ?_) AllReadyH.nil
  go_simp
  refine (ruFits_any a n i p k t x d _).mono ?_
  rw [hF]
  rintro e wq3 ⟨rfl, hbq⟩
  go_wp2_with fail
  refine hK.out _ _ (kept_fits hH hbq) (fun hH2 => ?_)
  clear hK K hH hbq
  have hH := hH2
  clear hH2
  try simp only [Act.put, List.setIfInBounds_toArray, List.set_cons_zero, List.set_cons_succ]
  refine wpAnyH_take (i := 4) (oi := { dst := some 35, op := Op.unOp UnOp.not 4 (Operand.tmp 34), type := 4, pos := "law.go:86", after := _, guard := none }) (v := ?_) rfl (by kernel_rfl) (by kernel_rfl) (by kernel_rfl) (fun _ _ _ h => h) (Or.inl ⟨by rfl, ?_⟩) hH ?_
  rotate_left
  · intro wz hSw
    (try dsimp only at hSw)
    first | (go_simp; done) | (go_simp; with_reducible rfl)
  try simp only [Act.put, List.setIfInBounds_toArray, List.set_cons_zero, List.set_cons_succ]
  refine wpAnyH_take (i := 5) (oi := { dst := some 36, op := Op.move (Operand.tmp 35), type := 4, pos := "law.go:86", after := _, guard := none }) (v := ?_) rfl (by kernel_rfl) (by kernel_rfl) (by kernel_rfl) (fun _ _ _ h => h) (Or.inl ⟨by rfl, ?_⟩) hH ?_
  rotate_left
  · intro wz hSw
    (try dsimp only at hSw)
    first | (go_simp; done) | (go_simp; with_reducible rfl)
  try simp only [Act.put, List.setIfInBounds_toArray, List.set_cons_zero, List.set_cons_succ]
  refine wpAnyH_take (i := 6) (oi := { dst := some 37, op := Op.load 27 (Operand.tmp 10), type := 27, pos := "law.go:86", after := _, guard := some (5, false) }) (v := undef) rfl (by kernel_rfl) (by kernel_rfl) (by kernel_rfl) (fun _ _ _ h => h) (Or.inr ⟨by rfl, rfl⟩) hH ?_
  try simp only [Act.put, List.setIfInBounds_toArray, List.set_cons_zero, List.set_cons_succ]
  refine wpAnyH_take (i := 7) (oi := { dst := some 38, op := Op.move (Operand.tmp 2), type := 3, pos := "law.go:86", after := _, guard := some (5, false) }) (v := undef) rfl (by kernel_rfl) (by kernel_rfl) (by kernel_rfl) (fun _ _ _ h => h) (Or.inr ⟨by rfl, rfl⟩) hH ?_
  try simp only [Act.put, List.setIfInBounds_toArray, List.set_cons_zero, List.set_cons_succ]
  refine wpAnyH_take (i := 8) (oi := { dst := some 39, op := Op.move (Operand.tmp 3), type := 3, pos := "law.go:86", after := _, guard := some (5, false) }) (v := undef) rfl (by kernel_rfl) (by kernel_rfl) (by kernel_rfl) (fun _ _ _ h => h) (Or.inr ⟨by rfl, rfl⟩) hH ?_
  try simp only [Act.put, List.setIfInBounds_toArray, List.set_cons_zero, List.set_cons_succ]
  refine wpAnyH_ready (rs := [9]) (by kernel_rfl) (by simp) ?_
  refine allReady_pass (o := { dst := some 40, op := Op.call { callee := Callee.value (Operand.func 17), args := #[Operand.tmp 37, Operand.tmp 38, Operand.tmp 39], argTypes := #[27, 3, 3] }, type := 4, pos := "law.go:86", after := _, guard := some (5, false) }) rfl (by rfl) hH ?_ AllReadyH.nil
  try simp only [Act.put, List.setIfInBounds_toArray, List.set_cons_zero, List.set_cons_succ]
  refine wpAnyH_take (i := 10) (oi := { dst := some 41, op := Op.pick (Operand.tmp 36) (Operand.const (Value.bool true)) (Operand.tmp 40), type := 4, pos := "law.go:86", after := _, guard := none }) (v := ?_) rfl (by kernel_rfl) (by kernel_rfl) (by kernel_rfl) (fun _ _ _ h => h) (Or.inl ⟨by rfl, ?_⟩) hH ?_
  rotate_left
  · intro wz hSw
    (try dsimp only at hSw)
    first | (go_simp; done) | (go_simp; with_reducible rfl)
  try simp only [Act.put, List.setIfInBounds_toArray, List.set_cons_zero, List.set_cons_succ]
  refine wpAnyH_take (i := 11) (oi := { dst := some 42, op := Op.move (Operand.tmp 41), type := 4, pos := "law.go:86", after := _, guard := none }) (v := ?_) rfl (by kernel_rfl) (by kernel_rfl) (by kernel_rfl) (fun _ _ _ h => h) (Or.inl ⟨by rfl, ?_⟩) hH ?_
  rotate_left
  · intro wz hSw
    (try dsimp only at hSw)
    first | (go_simp; done) | (go_simp; with_reducible rfl)
  try simp only [Act.put, List.setIfInBounds_toArray, List.set_cons_zero, List.set_cons_succ]
  refine wpAnyH_take (i := 12) (oi := { dst := some 43, op := Op.load 23 (Operand.tmp 5), type := 23, pos := "law.go:86", after := _, guard := some (11, true) }) (v := ?_) rfl (by kernel_rfl) (by kernel_rfl) (by kernel_rfl) (fun _ _ _ h => h) (Or.inl ⟨by rfl, ?_⟩) hH ?_
  rotate_left
  · intro wz hSw
    (try dsimp only at hSw)
    first | (go_simp; done) | (go_simp; with_reducible rfl)
  try simp only [Act.put, List.setIfInBounds_toArray, List.set_cons_zero, List.set_cons_succ]
  refine wpAnyH_take (i := 13) (oi := { dst := some 44, op := Op.fieldAddr 27 (Operand.tmp 4) 0, type := 0, pos := "law.go:86", after := _, guard := some (11, true) }) (v := ?_) rfl (by kernel_rfl) (by kernel_rfl) (by kernel_rfl) (fun _ _ _ h => h) (Or.inl ⟨by rfl, ?_⟩) hH ?_
  rotate_left
  · intro wz hSw
    (try dsimp only at hSw)
    first | (go_simp; done) | (go_simp; with_reducible rfl)
  try simp only [Act.put, List.setIfInBounds_toArray, List.set_cons_zero, List.set_cons_succ]
  refine wpAnyH_take (i := 14) (oi := { dst := some 45, op := Op.load 23 (Operand.tmp 44), type := 23, pos := "law.go:86", after := _, guard := some (11, true) }) (v := ?_) rfl (by kernel_rfl) (by kernel_rfl) (by kernel_rfl) (fun _ _ _ h => h) (Or.inl ⟨by rfl, ?_⟩) hH ?_
  rotate_left
  · intro wz hSw
    (try dsimp only at hSw)
    first | (go_simp; done) | (go_simp; with_reducible rfl)
  try simp only [Act.put, List.setIfInBounds_toArray, List.set_cons_zero, List.set_cons_succ]
  refine wpAnyH_ready (rs := [15]) (by kernel_rfl) (by simp) ?_
  refine AllReadyH.cons (o := { dst := some 46, op := Op.call { callee := Callee.value (Operand.func 23), args := #[Operand.tmp 43, Operand.tmp 45], argTypes := #[23, 23] }, type := 4, pos := "law.go:86", after := _, guard := some (11, true) }) rfl (fun K hK => ?_) AllReadyH.nil
  go_simp
  refine (within_any b m a n _).mono ?_
  rw [hV]
  rintro e wq15 ⟨rfl, hbq⟩
  go_wp2_with fail
  refine hK.out _ _ (kept_fits hH hbq) (fun hH2 => ?_)
  clear hK K hH hbq
  have hH := hH2
  clear hH2
  try simp only [Act.put, List.setIfInBounds_toArray, List.set_cons_zero, List.set_cons_succ]
  refine wpAnyH_take (i := 16) (oi := { dst := some 47, op := Op.unOp UnOp.not 4 (Operand.tmp 46), type := 4, pos := "law.go:86", after := _, guard := some (11, true) }) (v := ?_) rfl (by kernel_rfl) (by kernel_rfl) (by kernel_rfl) (fun _ _ _ h => h) (Or.inl ⟨by rfl, ?_⟩) hH ?_
  rotate_left
  · intro wz hSw
    (try dsimp only at hSw)
    first | (go_simp; done) | (go_simp; with_reducible rfl)
  try simp only [Act.put, List.setIfInBounds_toArray, List.set_cons_zero, List.set_cons_succ]
  refine wpAnyH_take (i := 17) (oi := { dst := some 48, op := Op.move (Operand.tmp 47), type := 4, pos := "law.go:86", after := _, guard := some (11, true) }) (v := ?_) rfl (by kernel_rfl) (by kernel_rfl) (by kernel_rfl) (fun _ _ _ h => h) (Or.inl ⟨by rfl, ?_⟩) hH ?_
  rotate_left
  · intro wz hSw
    (try dsimp only at hSw)
    first | (go_simp; done) | (go_simp; with_reducible rfl)
  try simp only [Act.put, List.setIfInBounds_toArray, List.set_cons_zero, List.set_cons_succ]
  refine wpAnyH_take (i := 18) (oi := { dst := some 49, op := Op.load 27 (Operand.tmp 4), type := 27, pos := "law.go:86", after := _, guard := some (17, false) }) (v := undef) rfl (by kernel_rfl) (by kernel_rfl) (by kernel_rfl) (fun _ _ _ h => h) (Or.inr ⟨by rfl, rfl⟩) hH ?_
  try simp only [Act.put, List.setIfInBounds_toArray, List.set_cons_zero, List.set_cons_succ]
  refine wpAnyH_take (i := 19) (oi := { dst := some 50, op := Op.move (Operand.tmp 2), type := 3, pos := "law.go:86", after := _, guard := some (17, false) }) (v := undef) rfl (by kernel_rfl) (by kernel_rfl) (by kernel_rfl) (fun _ _ _ h => h) (Or.inr ⟨by rfl, rfl⟩) hH ?_
  try simp only [Act.put, List.setIfInBounds_toArray, List.set_cons_zero, List.set_cons_succ]
  refine wpAnyH_take (i := 20) (oi := { dst := some 51, op := Op.move (Operand.tmp 3), type := 3, pos := "law.go:86", after := _, guard := some (17, false) }) (v := undef) rfl (by kernel_rfl) (by kernel_rfl) (by kernel_rfl) (fun _ _ _ h => h) (Or.inr ⟨by rfl, rfl⟩) hH ?_
  try simp only [Act.put, List.setIfInBounds_toArray, List.set_cons_zero, List.set_cons_succ]
  refine wpAnyH_ready (rs := [21]) (by kernel_rfl) (by simp) ?_
  refine allReady_pass (o := { dst := some 52, op := Op.call { callee := Callee.value (Operand.func 17), args := #[Operand.tmp 49, Operand.tmp 50, Operand.tmp 51], argTypes := #[27, 3, 3] }, type := 4, pos := "law.go:86", after := _, guard := some (17, false) }) rfl (by rfl) hH ?_ AllReadyH.nil
  try simp only [Act.put, List.setIfInBounds_toArray, List.set_cons_zero, List.set_cons_succ]
  refine wpAnyH_take (i := 22) (oi := { dst := some 53, op := Op.unOp UnOp.not 4 (Operand.tmp 52), type := 4, pos := "law.go:86", after := _, guard := some (17, false) }) (v := undef) rfl (by kernel_rfl) (by kernel_rfl) (by kernel_rfl) (fun _ _ _ h => h) (Or.inr ⟨by rfl, rfl⟩) hH ?_
  try simp only [Act.put, List.setIfInBounds_toArray, List.set_cons_zero, List.set_cons_succ]
  refine wpAnyH_take (i := 23) (oi := { dst := some 54, op := Op.pick (Operand.tmp 48) (Operand.const (Value.bool true)) (Operand.tmp 53), type := 4, pos := "law.go:86", after := _, guard := some (11, true) }) (v := ?_) rfl (by kernel_rfl) (by kernel_rfl) (by kernel_rfl) (fun _ _ _ h => h) (Or.inl ⟨by rfl, ?_⟩) hH ?_
  rotate_left
  · intro wz hSw
    (try dsimp only at hSw)
    first | (go_simp; done) | (go_simp; with_reducible rfl)
  try simp only [Act.put, List.setIfInBounds_toArray, List.set_cons_zero, List.set_cons_succ]
  refine wpAnyH_take (i := 24) (oi := { dst := some 55, op := Op.move (Operand.tmp 54), type := 4, pos := "law.go:86", after := _, guard := some (11, true) }) (v := ?_) rfl (by kernel_rfl) (by kernel_rfl) (by kernel_rfl) (fun _ _ _ h => h) (Or.inl ⟨by rfl, ?_⟩) hH ?_
  rotate_left
  · intro wz hSw
    (try dsimp only at hSw)
    first | (go_simp; done) | (go_simp; with_reducible rfl)
  try simp only [Act.put, List.setIfInBounds_toArray, List.set_cons_zero, List.set_cons_succ]
  refine wpAnyH_take (i := 25) (oi := { dst := some 56, op := Op.load 27 (Operand.tmp 11), type := 27, pos := "law.go:86", after := _, guard := some (24, false) }) (v := undef) rfl (by kernel_rfl) (by kernel_rfl) (by kernel_rfl) (fun _ _ _ h => h) (Or.inr ⟨by rfl, rfl⟩) hH ?_
  try simp only [Act.put, List.setIfInBounds_toArray, List.set_cons_zero, List.set_cons_succ]
  refine wpAnyH_take (i := 26) (oi := { dst := some 57, op := Op.move (Operand.tmp 2), type := 3, pos := "law.go:86", after := _, guard := some (24, false) }) (v := undef) rfl (by kernel_rfl) (by kernel_rfl) (by kernel_rfl) (fun _ _ _ h => h) (Or.inr ⟨by rfl, rfl⟩) hH ?_
  try simp only [Act.put, List.setIfInBounds_toArray, List.set_cons_zero, List.set_cons_succ]
  refine wpAnyH_take (i := 27) (oi := { dst := some 58, op := Op.move (Operand.tmp 3), type := 3, pos := "law.go:86", after := _, guard := some (24, false) }) (v := undef) rfl (by kernel_rfl) (by kernel_rfl) (by kernel_rfl) (fun _ _ _ h => h) (Or.inr ⟨by rfl, rfl⟩) hH ?_
  try simp only [Act.put, List.setIfInBounds_toArray, List.set_cons_zero, List.set_cons_succ]
  refine wpAnyH_ready (rs := [28]) (by kernel_rfl) (by simp) ?_
  refine allReady_pass (o := { dst := some 59, op := Op.call { callee := Callee.value (Operand.func 17), args := #[Operand.tmp 56, Operand.tmp 57, Operand.tmp 58], argTypes := #[27, 3, 3] }, type := 4, pos := "law.go:86", after := _, guard := some (24, false) }) rfl (by rfl) hH ?_ AllReadyH.nil
  try simp only [Act.put, List.setIfInBounds_toArray, List.set_cons_zero, List.set_cons_succ]
  refine wpAnyH_take (i := 29) (oi := { dst := some 60, op := Op.pick (Operand.tmp 55) (Operand.const (Value.bool true)) (Operand.tmp 59), type := 4, pos := "law.go:86", after := _, guard := some (11, true) }) (v := ?_) rfl (by kernel_rfl) (by kernel_rfl) (by kernel_rfl) (fun _ _ _ h => h) (Or.inl ⟨by rfl, ?_⟩) hH ?_
  rotate_left
  · intro wz hSw
    (try dsimp only at hSw)
    first | (go_simp; done) | (go_simp; with_reducible rfl)
  try simp only [Act.put, List.setIfInBounds_toArray, List.set_cons_zero, List.set_cons_succ]
  refine wpAnyH_take (i := 30) (oi := { dst := some 61, op := Op.pick (Operand.tmp 42) (Operand.tmp 60) (Operand.const (Value.bool false)), type := 4, pos := "law.go:86", after := _, guard := none }) (v := ?_) rfl (by kernel_rfl) (by kernel_rfl) (by kernel_rfl) (fun _ _ _ h => h) (Or.inl ⟨by rfl, ?_⟩) hH ?_
  rotate_left
  · intro wz hSw
    (try dsimp only at hSw)
    first | (go_simp; done) | (go_simp; with_reducible rfl)
  try simp only [Act.put, List.setIfInBounds_toArray, List.set_cons_zero, List.set_cons_succ]
  refine wpAnyH_take (i := 31) (oi := { dst := some 62, op := Op.move (Operand.tmp 61), type := 4, pos := "law.go:86", after := _, guard := none }) (v := ?_) rfl (by kernel_rfl) (by kernel_rfl) (by kernel_rfl) (fun _ _ _ h => h) (Or.inl ⟨by rfl, ?_⟩) hH ?_
  rotate_left
  · intro wz hSw
    (try dsimp only at hSw)
    first | (go_simp; done) | (go_simp; with_reducible rfl)
  try simp only [Act.put, List.setIfInBounds_toArray, List.set_cons_zero, List.set_cons_succ]
  refine wpAnyH_take (i := 32) (oi := { dst := some 63, op := Op.load 27 (Operand.tmp 10), type := 27, pos := "law.go:86", after := _, guard := some (31, true) }) (v := ?_) rfl (by kernel_rfl) (by kernel_rfl) (by kernel_rfl) (fun _ _ _ h => h) (Or.inl ⟨by rfl, ?_⟩) hH ?_
  rotate_left
  · intro wz hSw
    (try dsimp only at hSw)
    first | (go_simp; done) | (go_simp; with_reducible rfl)
  try simp only [Act.put, List.setIfInBounds_toArray, List.set_cons_zero, List.set_cons_succ]
  refine wpAnyH_take (i := 33) (oi := { dst := some 64, op := Op.move (Operand.tmp 2), type := 3, pos := "law.go:86", after := _, guard := some (31, true) }) (v := ?_) rfl (by kernel_rfl) (by kernel_rfl) (by kernel_rfl) (fun _ _ _ h => h) (Or.inl ⟨by rfl, ?_⟩) hH ?_
  rotate_left
  · intro wz hSw
    (try dsimp only at hSw)
    first | (go_simp; done) | (go_simp; with_reducible rfl)
  try simp only [Act.put, List.setIfInBounds_toArray, List.set_cons_zero, List.set_cons_succ]
  refine wpAnyH_take (i := 34) (oi := { dst := some 65, op := Op.move (Operand.tmp 3), type := 3, pos := "law.go:86", after := _, guard := some (31, true) }) (v := ?_) rfl (by kernel_rfl) (by kernel_rfl) (by kernel_rfl) (fun _ _ _ h => h) (Or.inl ⟨by rfl, ?_⟩) hH ?_
  rotate_left
  · intro wz hSw
    (try dsimp only at hSw)
    first | (go_simp; done) | (go_simp; with_reducible rfl)
  try simp only [Act.put, List.setIfInBounds_toArray, List.set_cons_zero, List.set_cons_succ]
  refine wpAnyH_take (i := 36) (oi := { dst := some 67, op := Op.fieldAddr 27 (Operand.tmp 4) 0, type := 0, pos := "law.go:86", after := _, guard := some (31, true) }) (v := ?_) rfl (by kernel_rfl) (by kernel_rfl) (by kernel_rfl) (fun _ _ _ h => h) (Or.inl ⟨by rfl, ?_⟩) hH ?_
  rotate_left
  · intro wz hSw
    (try dsimp only at hSw)
    first | (go_simp; done) | (go_simp; with_reducible rfl)
  try simp only [Act.put, List.setIfInBounds_toArray, List.set_cons_zero, List.set_cons_succ]
  refine wpAnyH_take (i := 37) (oi := { dst := some 68, op := Op.load 23 (Operand.tmp 67), type := 23, pos := "law.go:86", after := _, guard := some (31, true) }) (v := ?_) rfl (by kernel_rfl) (by kernel_rfl) (by kernel_rfl) (fun _ _ _ h => h) (Or.inl ⟨by rfl, ?_⟩) hH ?_
  rotate_left
  · intro wz hSw
    (try dsimp only at hSw)
    first | (go_simp; done) | (go_simp; with_reducible rfl)
  try simp only [Act.put, List.setIfInBounds_toArray, List.set_cons_zero, List.set_cons_succ]
  refine wpAnyH_take (i := 38) (oi := { dst := some 69, op := Op.move (Operand.tmp 3), type := 3, pos := "law.go:86", after := _, guard := some (31, true) }) (v := ?_) rfl (by kernel_rfl) (by kernel_rfl) (by kernel_rfl) (fun _ _ _ h => h) (Or.inl ⟨by rfl, ?_⟩) hH ?_
  rotate_left
  · intro wz hSw
    (try dsimp only at hSw)
    first | (go_simp; done) | (go_simp; with_reducible rfl)
  try simp only [Act.put, List.setIfInBounds_toArray, List.set_cons_zero, List.set_cons_succ]
  refine wpAnyH_ready (rs := [35]) (by kernel_rfl) (by simp) ?_
  refine AllReadyH.cons (o := { dst := some 66, op := Op.call { callee := Callee.value (Operand.func 17), args := #[Operand.tmp 63, Operand.tmp 64, Operand.tmp 65], argTypes := #[27, 3, 3] }, type := 4, pos := "law.go:86", after := _, guard := some (31, true) }) rfl (fun K hK => ?_) AllReadyH.nil
  go_simp
  refine (ruFits_any a n (-1) p k t x d _).mono ?_
  rw [hAny]
  rintro e wq35 ⟨rfl, hbq⟩
  go_wp2_with fail
  refine hK.out _ _ (kept_fits hH hbq) (fun hH2 => ?_)
  clear hK K hH hbq
  have hH := hH2
  clear hH2
  try simp only [Act.put, List.setIfInBounds_toArray, List.set_cons_zero, List.set_cons_succ]
  refine wpAnyH_ready (rs := [39]) (by kernel_rfl) (by simp) ?_
  refine AllReadyH.cons (o := { dst := some 70, op := Op.call { callee := Callee.value (Operand.func 24), args := #[Operand.tmp 68, Operand.tmp 69], argTypes := #[23, 3] }, type := 4, pos := "law.go:86", after := _, guard := some (31, true) }) rfl (fun K hK => ?_) AllReadyH.nil
  go_simp
  refine (has_any a n d _).mono ?_
  rw [hH0]
  rintro e wq39 ⟨rfl, hbq⟩
  go_wp2_with fail
  refine hK.out _ _ (kept_fits hH hbq) (fun hH2 => ?_)
  clear hK K hH hbq
  have hH := hH2
  clear hH2
  try simp only [Act.put, List.setIfInBounds_toArray, List.set_cons_zero, List.set_cons_succ]
  refine wpAnyH_take (i := 40) (oi := { dst := some 71, op := Op.binOp BinOp.eql 4 (Operand.tmp 66) (Operand.tmp 70) 4, type := 4, pos := "law.go:86", after := _, guard := some (31, true) }) (v := ?_) rfl (by kernel_rfl) (by kernel_rfl) (by kernel_rfl) (fun _ _ _ h => h) (Or.inl ⟨by rfl, ?_⟩) hH ?_
  rotate_left
  · intro wz hSw
    (try dsimp only at hSw)
    first | (go_simp; done) | (go_simp; with_reducible rfl)
  try simp only [Act.put, List.setIfInBounds_toArray, List.set_cons_zero, List.set_cons_succ]
  refine wpAnyH_take (i := 41) (oi := { dst := some 72, op := Op.pick (Operand.tmp 62) (Operand.tmp 71) (Operand.const (Value.bool false)), type := 4, pos := "law.go:86", after := _, guard := none }) (v := ?_) rfl (by kernel_rfl) (by kernel_rfl) (by kernel_rfl) (fun _ _ _ h => h) (Or.inl ⟨by rfl, ?_⟩) hH ?_
  rotate_left
  · intro wz hSw
    (try dsimp only at hSw)
    first | (go_simp; done) | (go_simp; with_reducible rfl)
  try simp only [Act.put, List.setIfInBounds_toArray, List.set_cons_zero, List.set_cons_succ]
  refine wpAnyH_take (i := 42) (oi := { dst := some 8, op := Op.assign (Operand.tmp 72), type := 4, pos := "law.go:86", after := _, guard := none }) (v := ?_) rfl (by kernel_rfl) (by kernel_rfl) (by kernel_rfl) (fun _ _ _ h => h) (Or.inl ⟨by rfl, ?_⟩) hH ?_
  rotate_left
  · intro wz hSw
    (try dsimp only at hSw)
    first | (go_simp; done) | (go_simp; with_reducible rfl)
  try simp only [Act.put, List.setIfInBounds_toArray, List.set_cons_zero, List.set_cons_succ]
  refine wpAnyH_done (by kernel_rfl) ?_ _
  refine NoPanic.normal ?_
  go_wp2_with fail
  go_ret
  exact ⟨rfl, hH.1⟩
set_option maxHeartbeats 1000000 in
theorem fits_bad1 (a n i p k t b m x d : Int) (w : World) (cM : ∀ w, Calls Try.prog 16 #[.agg #[.int .i64 a, .int .i64 n, .int .i64 i, .int .i64 p, .int .i64 k, .int .i64 t]] w fun e w' => e = .returned (.bool false) ∧ Below w.heap.size w w') :
    Calls Try.prog 7 #[.agg #[.int .i64 a, .int .i64 n, .int .i64 i, .int .i64 p, .int .i64 k, .int .i64 t], .agg #[.int .i64 b, .int .i64 m], .int .i64 x, .int .i64 d] w fun e w' => e = .returned (.bool true) ∧ Below w.heap.size w w' := by
  have hn0 := below_new w (.cells #[.int .i64 a, .int .i64 n, .int .i64 i, .int .i64 p, .int .i64 k, .int .i64 t] 27)
  have X0 := Lies.new w [a, n, i, p, k, t] 27 (B := w.heap.size) rfl
  have hB := hn0
  have hn1 := below_new (w.alloc (.cells #[.int .i64 a, .int .i64 n, .int .i64 i, .int .i64 p, .int .i64 k, .int .i64 t] 27)) (.cells #[.int .i64 b, .int .i64 m] 23)
  have X1 := Lies.new (w.alloc (.cells #[.int .i64 a, .int .i64 n, .int .i64 i, .int .i64 p, .int .i64 k, .int .i64 t] 27)) [b, m] 23 (B := w.heap.size + 1) (by simp)
  replace X0 := X0.later hn1
  replace hB := below_step hB hn1
  clear hn0 hn1
  obtain ⟨x00, x01, x02, x03, x04, x05⟩ := X0.six
  obtain ⟨x10, x11⟩ := X1.two
  go_enter Try.func7, Try.ntmps7
  go_wp2_with fail
  refine (awake_any _).mono ?_
  rintro e w1 ⟨rfl, hb1⟩
  clear x00 x01 x02 x03 x04 x05
  clear x10 x11
  replace X0 := X0.later hb1
  replace X1 := X1.later hb1
  replace hB := below_step hB hb1
  clear hb1
  obtain ⟨x00, x01, x02, x03, x04, x05⟩ := X0.six
  obtain ⟨x10, x11⟩ := X1.two
  go_wp2_with fail
  refine (cM _).mono ?_
  rintro e w2 ⟨rfl, hb2⟩
  clear x00 x01 x02 x03 x04 x05
  clear x10 x11
  replace X0 := X0.later hb2
  replace X1 := X1.later hb2
  replace hB := below_step hB hb2
  clear hb2
  obtain ⟨x00, x01, x02, x03, x04, x05⟩ := X0.six
  obtain ⟨x10, x11⟩ := X1.two
  go_wp2_with fail
  go_ret
  exact ⟨rfl, hB⟩
set_option maxHeartbeats 1000000 in
theorem fits_bad2 (a n i p k t b m x d : Int) (w : World) (cM : ∀ w, Calls Try.prog 16 #[.agg #[.int .i64 a, .int .i64 n, .int .i64 i, .int .i64 p, .int .i64 k, .int .i64 t]] w fun e w' => e = .returned (.bool true) ∧ Below w.heap.size w w') (cP : ∀ w, Calls Try.prog 22 #[.agg #[.int .i64 b, .int .i64 m]] w fun e w' => e = .returned (.bool false) ∧ Below w.heap.size w w') :
    Calls Try.prog 7 #[.agg #[.int .i64 a, .int .i64 n, .int .i64 i, .int .i64 p, .int .i64 k, .int .i64 t], .agg #[.int .i64 b, .int .i64 m], .int .i64 x, .int .i64 d] w fun e w' => e = .returned (.bool true) ∧ Below w.heap.size w w' := by
  have hn0 := below_new w (.cells #[.int .i64 a, .int .i64 n, .int .i64 i, .int .i64 p, .int .i64 k, .int .i64 t] 27)
  have X0 := Lies.new w [a, n, i, p, k, t] 27 (B := w.heap.size) rfl
  have hB := hn0
  have hn1 := below_new (w.alloc (.cells #[.int .i64 a, .int .i64 n, .int .i64 i, .int .i64 p, .int .i64 k, .int .i64 t] 27)) (.cells #[.int .i64 b, .int .i64 m] 23)
  have X1 := Lies.new (w.alloc (.cells #[.int .i64 a, .int .i64 n, .int .i64 i, .int .i64 p, .int .i64 k, .int .i64 t] 27)) [b, m] 23 (B := w.heap.size + 1) (by simp)
  replace X0 := X0.later hn1
  replace hB := below_step hB hn1
  clear hn0 hn1
  obtain ⟨x00, x01, x02, x03, x04, x05⟩ := X0.six
  obtain ⟨x10, x11⟩ := X1.two
  go_enter Try.func7, Try.ntmps7
  go_wp2_with fail
  refine (awake_any _).mono ?_
  rintro e w1 ⟨rfl, hb1⟩
  clear x00 x01 x02 x03 x04 x05
  clear x10 x11
  replace X0 := X0.later hb1
  replace X1 := X1.later hb1
  replace hB := below_step hB hb1
  clear hb1
  obtain ⟨x00, x01, x02, x03, x04, x05⟩ := X0.six
  obtain ⟨x10, x11⟩ := X1.two
  go_wp2_with fail
  refine (cM _).mono ?_
  rintro e w2 ⟨rfl, hb2⟩
  clear x00 x01 x02 x03 x04 x05
  clear x10 x11
  replace X0 := X0.later hb2
  replace X1 := X1.later hb2
  replace hB := below_step hB hb2
  clear hb2
  obtain ⟨x00, x01, x02, x03, x04, x05⟩ := X0.six
  obtain ⟨x10, x11⟩ := X1.two
  go_wp2_with fail
  refine (cP _).mono ?_
  rintro e w3 ⟨rfl, hb3⟩
  clear x00 x01 x02 x03 x04 x05
  clear x10 x11
  replace X0 := X0.later hb3
  replace X1 := X1.later hb3
  replace hB := below_step hB hb3
  clear hb3
  obtain ⟨x00, x01, x02, x03, x04, x05⟩ := X0.six
  obtain ⟨x10, x11⟩ := X1.two
  go_wp2_with fail
  go_ret
  exact ⟨rfl, hB⟩
theorem fit_any (a n x d : Int) : fitB a n (-1) x d = M.hasB a n d := by unfold fitB; simp
theorem fit_has {a n i x d : Int} (h : fitB a n i x d = true) : M.hasB a n d = true := by unfold fitB at h; simp at h; exact h.1
theorem fit_wide {a n i x d b m : Int} (hP : M.mayB b m = true) (hA : M.mayB a n = true) (h : fitB a n i x d = true) (hv : M.inB b m a n = true) : fitB b m i x d = true := by
  have h1 := fit_has h
  have h3 := M.two_ok b m a n d hP hA
  rw [Bool.and_eq_true] at h3
  have h2 := h3.2
  rw [hv, h1] at h2
  simp at h2
  unfold fitB at *
  rw [h1] at h
  rw [h2]
  exact h
theorem walk (a n i p k t b m x d : Int) (wa : (Lit.int .i64 a).wf = true) (wn : (Lit.int .i64 n).wf = true) (wi : (Lit.int .i64 i).wf = true) (wp : (Lit.int .i64 p).wf = true) (wk : (Lit.int .i64 k).wf = true) (wt : (Lit.int .i64 t).wf = true) (wb : (Lit.int .i64 b).wf = true) (wm : (Lit.int .i64 m).wf = true) (wx : (Lit.int .i64 x).wf = true) (wd : (Lit.int .i64 d).wf = true) (w : World) :
    Calls Try.prog 7 #[.agg #[.int .i64 a, .int .i64 n, .int .i64 i, .int .i64 p, .int .i64 k, .int .i64 t], .agg #[.int .i64 b, .int .i64 m], .int .i64 x, .int .i64 d] w fun e w' => e = .returned (.bool true) ∧ Below w.heap.size w w' := by
  have cM := fun w => ruMay_any a n i p k t w
  have cP := fun w => may_any b m w
  cases hA : okR a n i p k t
  · rw [hA] at cM; exact fits_bad1 a n i p k t b m x d w cM
  rw [hA] at cM
  cases hP : M.mayB b m
  · rw [hP] at cP; exact fits_bad2 a n i p k t b m x d w cM cP
  rw [hP] at cP
  have hmA := (okR_of hA).1
  have hAny := fit_any a n x d
  cases hF : fitB a n i x d
  · cases hH : M.hasB a n d
    · rw [hH] at hAny
      cases hV : M.inB b m a n
      · exact fits_fff a n i p k t b m x d w cM cP hF hAny hV hH
      · exact fits_ftf a n i p k t b m x d w cM cP hF hAny hV hH
    · rw [hH] at hAny
      cases hV : M.inB b m a n
      · exact fits_fft a n i p k t b m x d w cM cP hF hAny hV hH
      · exact fits_ftt a n i p k t b m x d w cM cP hF hAny hV hH
  · have hH := fit_has hF
    rw [hH] at hAny
    cases hV : M.inB b m a n
    · exact fits_tf a n i p k t b m x d w cM cP hF hAny hV hH
    · exact fits_tt a n i p k t b m x d w cM cP hF hAny hV hH (fit_wide hP hmA hF hV)

theorem own : ownKnob Try.prog.godebug = none := by kernel_rfl
theorem laidOut : laidOutB Try.prog = true := by kernel_rfl
set_option maxRecDepth 100000 in
theorem lifted (os : Os) (started : os.Started) (H : Type) (enc : TypeId × Value → H) :
    ReturnsInHanded {} Try.checked os 7 .any (Rows.ruleFitsSpec.pre6 enc Try.prog Try.f7 Rows.ruleFitsRow.domain false) (Rows.ruleFitsSpec.post enc Try.prog Try.f7 false true false false) := by
  refine returnsInHanded_of_change (C := Try.checked) own started (by kernel_rfl) Try.func7
    (ChangeSpec.witness6 (enc := enc) (C := Try.checked) false ⟨#[], #[.agg #[.int .i64 0, .int .i64 0, .int .i64 0, .int .i64 0, .int .i64 0, .int .i64 0], .agg #[.int .i64 0, .int .i64 0], .int .i64 0, .int .i64 0], []⟩ 8 (by kernel_rfl) (by kernel_rfl) (by kernel_rfl) (by kernel_rfl)) ?_
  intro W base args ds gs before hval0 hW hcnd _
  have hval : ∀ (j : Nat) t v, Try.f7.params[j]? = some t → args[j]? = some v → Value.okWide Try.prog W .any base t v := hval0
  have hW' := hW
  obtain ⟨p, q, hA0, hV, rfl, hfz, hnd⟩ := hW
  have hA : DataW.TrodAll enc Try.prog W 0 (fun _ => true) true Try.f7.params.toList args.toList ds p := hA0
  rw [Try.params7] at hA hval
  obtain ⟨v0, vs0, d0, ds0, p0, q0, hargs, rfl, rfl, h0, r0⟩ := trodAll_cons hA
  obtain ⟨v1, vs1, d1, ds1, p1, q1, rfl, rfl, rfl, h1, r1⟩ := trodAll_cons r0
  obtain ⟨v2, vs2, d2, ds2, p2, q2, rfl, rfl, rfl, h2, r2⟩ := trodAll_cons r1
  obtain ⟨v3, vs3, d3, ds3, p3, q3, rfl, rfl, rfl, h3, r3⟩ := trodAll_cons r2
  obtain ⟨rfl, rfl, rfl⟩ := trodAll_nil r3
  obtain rfl : args = #[v0, v1, v2, v3] := by cases args; simp_all
  obtain ⟨rfl, rfl⟩ := trodVars_none hV
  have k0 := h0
  have lt0 : ∀ x ∈ p0, x.block < W.heap.size := by obtain ⟨m, hm⟩ := k0; exact DataW.trod_lt m _ _ _ hm
  have k1 := h1
  have lt1 : ∀ x ∈ p1, x.block < W.heap.size := by obtain ⟨m, hm⟩ := k1; exact DataW.trod_lt m _ _ _ hm
  have k2 := h2
  have lt2 : ∀ x ∈ p2, x.block < W.heap.size := by obtain ⟨m, hm⟩ := k2; exact DataW.trod_lt m _ _ _ hm
  have k3 := h3
  have lt3 : ∀ x ∈ p3, x.block < W.heap.size := by obtain ⟨m, hm⟩ := k3; exact DataW.trod_lt m _ _ _ hm
  obtain ⟨a0, b0, c0, d0, e0, f0, rfl, w0a, w0b, w0c, w0d, w0e, w0f⟩ := open_rule (hval 0 27 v0 rfl rfl) h0
  obtain ⟨x1a, x1b, y1a, y1b, n1, rfl, rfl, hp1, t1a, t1b⟩ := Go.Joins.open_agg2 Try.underlying23 (by kernel_rfl) (by kernel_rfl) (hval 1 23 v1 rfl rfl) h1
  obtain ⟨a1, e1a, f1a, w1a⟩ := DataW.trod_int Try.underlying3 t1a
  obtain rfl : x1a = .int .i64 a1 := by simpa using e1a
  obtain ⟨b1, e1b, f1b, w1b⟩ := DataW.trod_int Try.underlying3 t1b
  obtain rfl : x1b = .int .i64 b1 := by simpa using e1b
  obtain ⟨a2, rfl, rfl, hp2, w2⟩ := open_int Try.underlying3 (hval 2 3 v2 rfl rfl) h2
  obtain ⟨a3, rfl, rfl, hp3, w3⟩ := open_int Try.underlying3 (hval 3 3 v3 rfl rfl) h3
  clear hA0 hval0
  refine (walk a0 b0 c0 d0 e0 f0 a1 b1 a2 a3 w0a w0b w0c w0d w0e w0f w1a w1b w2 w3 W ).mono fun e W' ⟨he, bel⟩ => ?_
  subst he
  exact ⟨_, rfl, _, _, _, [], _, [], hW', trodAll_mk1 (shut_bool Try.underlying4 _), (trodAll_cons_mk (Below.trod laidOut (by kernel_rfl) (of_decide_eq_true (by kernel_rfl)) k0 bel lt0) (trodAll_cons_mk (Below.trod laidOut (by kernel_rfl) (of_decide_eq_true (by kernel_rfl)) k1 bel lt1) (trodAll_cons_mk (Below.trod laidOut (by kernel_rfl) (of_decide_eq_true (by kernel_rfl)) k2 bel lt2) (trodAll_cons_mk (Below.trod laidOut (by kernel_rfl) (of_decide_eq_true (by kernel_rfl)) k3 bel lt3) trodAll_mk0)))), rfl, bel.frame _, fun h => by cases h⟩

theorem over : Rows.ruleFitsRow.holds Try.pinned (OpenSpec.ofChange Rows.ruleFitsSpec) :=
  OpenClaim.holds_of_wide 7 Try.f7 rfl rfl rfl rfl rfl rfl rfl ⟨rfl, rfl, rfl, rfl, rfl⟩ rfl rfl rfl rfl rfl (by kernel_rfl) Try.func7 (by kernel_rfl)
    (of_decide_eq_true (by kernel_rfl)) (by unfold Func.isWrapper; first | (rw [if_pos (by decide +kernel)]; kernel_rfl) | (rw [if_neg (by decide +kernel)]; exact ⟨rfl, rfl⟩))
    (fun os started H enc _ => lifted os started H enc)
end Go.Proofs.Ytkpgifpnmccdcaa.ruleFits
namespace Go.Proofs.Ytkpgifpnmccdcaa
theorem ruleFits_holds : Rows.RuleFitsSaid := ruleFits.over
#print axioms ruleFits_holds
end Go.Proofs.Ytkpgifpnmccdcaa
