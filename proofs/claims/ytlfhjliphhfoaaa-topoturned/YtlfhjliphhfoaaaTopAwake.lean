/- That the chapter's example holds, which each statement asks first. -/
import Derived.Test.YtlfhjliphhfoaaaTopEdges
namespace Go.Proofs.Ytlfhjliphhfoaaa
open Go.ChangeShapes Go.WideShapes Go.ChangeAt Go.RowKit Go.Maps Tp
set_option linter.unusedVariables false
set_option linter.unusedSimpArgs false

def exL : List Lk := [⟨0, 1, 1, 0⟩]
theorem ex_far : far 2 2 exL (0, 1) = some (1, 0) := by decide +kernel
theorem ex_may : mayT 2 2 exL = true := by decide +kernel
theorem ex_edge : edge 2 2 exL (0, 0) = true := by decide +kernel
theorem ex_edges : edges 2 2 exL = [(0, 0), (1, 1)] := by decide +kernel
theorem eq_ends {a b c d : Int} (he : We (a, b)) (ho : We (c, d)) (w : World) : (Op.equalIn 10000 32 (.agg #[.int .i64 a, .int .i64 b]) (.agg #[.int .i64 c, .int .i64 d])).run Try.prog w = .ok (a == c && b == d) w := by
  have hk : ∀ e : En, We e → Try.prog.keyLits 2 32 (arr e).cells.toList = some [.int .i64 e.1, .int .i64 e.2] := fun e h => by
    rw [show (arr e).cells.toList = [.int .i64 e.1, .int .i64 e.2] from rfl, keyLits_pair, keyLits_int, keyLits_int]
    simp [h.1, h.2]
  have hf : ∀ e : En, (arr e).formed Try.prog 32 = true := fun e => by simp [Value.formed, Try.underlying32, cPair11]
  obtain ⟨r, hr, hi⟩ := run_equalIn_deep (P := Try.prog) 9998 2 32 (by kernel_rfl) w 2 2 (arr (a, b)) (arr (c, d)) _ _ (hf _) (hf _) (hk _ he) (hk _ ho)
  have : r = (a == c && b == d) := by
    rw [Bool.eq_iff_iff, hi]
    simp
  rw [← this]
  exact hr
set_option maxRecDepth 100000 in
set_option maxHeartbeats 4000000 in
theorem tawake_any (w : World) : Calls Try.prog 9 #[] w fun e w' => e = .returned (.bool true) ∧ Below w.heap.size w w' := by
  have hb1 := below_new w (.cells #[.int .i64 0, .int .i64 1, .int .i64 1, .int .i64 0] 34)
  have R0 : Rds fK 4 (w.alloc (.cells #[.int .i64 0, .int .i64 1, .int .i64 1, .int .i64 0] 34)) (some ⟨w.heap.size, 0, none⟩) 1 exL := rds_new fK_len w ⟨0, 1, 1, 0⟩ 34 (by intro z hz; simp only [fK, List.mem_cons, List.not_mem_nil, or_false] at hz; rcases hz with rfl | rfl | rfl | rfl <;> decide) rfl
  generalize hW : w.alloc (.cells #[.int .i64 0, .int .i64 1, .int .i64 1, .int .i64 0] 34) = w1 at R0 hb1
  obtain ⟨t0, t1, t2⟩ := box3 w1 (.int .i64 2) (.int .i64 2) (.slice (some ⟨w.heap.size, 0, none⟩) 1 1) 24
  have hb2 := below_new w1 (.cells #[.int .i64 2, .int .i64 2, .slice (some ⟨w.heap.size, 0, none⟩) 1 1] 24)
  have hBT : w1.heap.size < (w1.alloc (.cells #[.int .i64 2, .int .i64 2, .slice (some ⟨w.heap.size, 0, none⟩) 1 1] 24)).heap.size := by simp
  have R := R0.later hb2
  have hB := below_step hb1 hb2
  have cF : ∀ w', Rds fK 4 w' (some ⟨w.heap.size, 0, none⟩) 1 exL → Calls Try.prog 12 #[.agg #[.int .i64 2, .int .i64 2, .slice (some ⟨w.heap.size, 0, none⟩) 1 1], .int .i64 0, .int .i64 1] w' fun e w2 => e = .returned (.tuple #[.int .i64 1, .int .i64 0, .bool true]) ∧ Below w'.heap.size w' w2 := fun w' R => by
    have h := far_any 2 2 w' R (by decide) 0 1 ⟨by decide, by decide⟩
    rw [ex_far] at h
    exact h
  have cG : ∀ w', Rds fK 4 w' (some ⟨w.heap.size, 0, none⟩) 1 exL → Calls Try.prog 14 #[.agg #[.int .i64 2, .int .i64 2, .slice (some ⟨w.heap.size, 0, none⟩) 1 1]] w' fun e w2 => ∃ x k, e = .returned (.slice x 2 k) ∧ Rds fQ 2 w2 x k [(0, 0), (1, 1)] ∧ Below w'.heap.size w' w2 := fun w' R => by
    have h := edges_any 2 2 w' R (by decide)
    rw [ex_edges] at h
    exact h
  have cM : ∀ w', Rds fK 4 w' (some ⟨w.heap.size, 0, none⟩) 1 exL → Calls Try.prog 16 #[.agg #[.int .i64 2, .int .i64 2, .slice (some ⟨w.heap.size, 0, none⟩) 1 1]] w' fun e w2 => e = .returned (.bool true) ∧ Below w'.heap.size w' w2 := fun w' R => by
    have h := may_any 2 2 w' R
    rw [ex_may] at h
    exact h
  have cE : ∀ w', Rds fK 4 w' (some ⟨w.heap.size, 0, none⟩) 1 exL → Calls Try.prog 17 #[.agg #[.int .i64 2, .int .i64 2, .slice (some ⟨w.heap.size, 0, none⟩) 1 1], .int .i64 0, .int .i64 0] w' fun e w2 => e = .returned (.bool true) ∧ Below w'.heap.size w' w2 := fun w' R => by
    have h := edge_any 2 2 w' R (by decide) 0 0 ⟨by decide, by decide⟩
    rw [ex_edge] at h
    exact h
  have heq := fun w => eq_ends (a := 1) (b := 1) (c := 1) (d := 1) ⟨by decide, by decide⟩ ⟨by decide, by decide⟩ w
  clear R0 hb1 hb2
  go_enter Try.func9, Try.ntmps9
  go_wp2_with fail
  refine (cF _ R).mono ?_
  rintro e w2 ⟨rfl, hb⟩
  replace t0 := (hb.cell (p := ⟨w1.heap.size, 0, none⟩) hBT).trans t0
  replace t1 := (hb.cell (p := ⟨w1.heap.size, 1, none⟩) hBT).trans t1
  replace t2 := (hb.cell (p := ⟨w1.heap.size, 2, none⟩) hBT).trans t2
  replace hBT := Nat.lt_of_lt_of_le hBT hb.size
  replace R := R.later hb
  replace hB := below_step hB hb
  clear hb hW cF
  go_wp2_with fail
  refine (cG _ R).mono ?_
  rintro e w3 ⟨x, k, rfl, RE, hb⟩
  replace t0 := (hb.cell (p := ⟨w1.heap.size, 0, none⟩) hBT).trans t0
  replace t1 := (hb.cell (p := ⟨w1.heap.size, 1, none⟩) hBT).trans t1
  replace t2 := (hb.cell (p := ⟨w1.heap.size, 2, none⟩) hBT).trans t2
  replace hBT := Nat.lt_of_lt_of_le hBT hb.size
  replace R := R.later hb
  replace hB := below_step hB hb
  obtain ⟨b, o, rfl, hbl, hc⟩ := RE.at (i := 1) (x := (1, 1)) rfl
  have y0 := hc 0 _ rfl
  have y1 := hc 1 _ rfl
  simp only [Nat.one_mul, Nat.add_zero] at y0 y1
  clear hb cG hc RE
  go_wp2_with fail
  refine (cM _ R).mono ?_
  rintro e w4 ⟨rfl, hb⟩
  replace t0 := (hb.cell (p := ⟨w1.heap.size, 0, none⟩) hBT).trans t0
  replace t1 := (hb.cell (p := ⟨w1.heap.size, 1, none⟩) hBT).trans t1
  replace t2 := (hb.cell (p := ⟨w1.heap.size, 2, none⟩) hBT).trans t2
  replace hBT := Nat.lt_of_lt_of_le hBT hb.size
  replace R := R.later hb
  replace hB := below_step hB hb
  replace y0 := (hb.cell (p := ⟨b, o + 2, none⟩) hbl).trans y0
  replace y1 := (hb.cell (p := ⟨b, o + 2 + 1, none⟩) hbl).trans y1
  clear hb cM
  go_wp2_with fail
  refine (cE _ R).mono ?_
  rintro e w5 ⟨rfl, hb⟩
  replace t0 := (hb.cell (p := ⟨w1.heap.size, 0, none⟩) hBT).trans t0
  replace t1 := (hb.cell (p := ⟨w1.heap.size, 1, none⟩) hBT).trans t1
  replace t2 := (hb.cell (p := ⟨w1.heap.size, 2, none⟩) hBT).trans t2
  replace hBT := Nat.lt_of_lt_of_le hBT hb.size
  replace R := R.later hb
  replace hB := below_step hB hb
  go_wp2_with fail
  go_ret
  exact ⟨rfl, hB⟩
end Go.Proofs.Ytlfhjliphhfoaaa
