/- That the chapter's example holds, which each statement on package pick asks first. -/
import Derived.Test.YtbjgnlednkegiaaPickSorted
import Derived.Test.YtbjgnlednkegiaaPickFirst
namespace Go.Proofs.Ytbjgnlednkegiaa
open Go.ChangeShapes Go.WideShapes Go.ChangeAt Go.RowKit Pk
set_option linter.unusedVariables false
set_option linter.unusedSimpArgs false

theorem rds_news {α : Type} {f : α → List Int} {sz : Nat} (hf : ∀ x, (f x).length = sz) (W : World) (l : List α) (e : TypeId) (hw : ∀ x ∈ l, ∀ z ∈ f x, (Lit.int .i64 z).wf = true) (hl : l.length ≤ 100) {B n : Nat} (hB : W.heap.size = B) (hn : l.length = n) {cs : Array Value} (hc : cs = (flatV f l).toArray) :
    Rds f sz (W.alloc (.cells cs e)) (some ⟨B, 0, none⟩) n l := by
  subst hB hn hc
  refine ⟨Nat.le_refl _, by unfold maxLen; omega, hw, fun h => (nomatch h), fun _ => ⟨_, _, rfl, by simp, fun i x hx j u hu => ?_⟩⟩
  have := World.news_of_block (heap_alloc_new W (.cells (flatV f l).toArray e)) (i * sz + j) (.int .i64 u) (by simpa using flatV_get hf hx hu)
  rw [Addr.add_lit] at this
  simpa using this
def ex0 : Rl := ⟨167772160, 8, -1, 0, 0, 0⟩
def ex1 : Rl := ⟨167837696, 16, 2, 0, 0, 0⟩
theorem ex_sort : sortL [ex0, ex1] = [ex1, ex0] := by
  symm
  refine sort_is (List.Perm.swap _ _ _) ?_
  unfold Pk.Ord
  rw [List.pairwise_cons, List.pairwise_cons]
  refine ⟨fun s hs => ?_, fun s hs => (by cases hs), List.Pairwise.nil⟩
  rw [List.mem_singleton.1 hs]
  decide
theorem ex_1 : firstL 2 167838211 [ex0, ex1] = 1 := by decide +kernel
theorem ex_2 : firstL 1 167838211 [ex0, ex1] = 0 := by decide +kernel
theorem ex_3 : firstL 1 0 [ex0, ex1] = -1 := by decide +kernel
theorem ex_wf : ∀ x ∈ [ex0, ex1], ∀ z ∈ fR x, (Lit.int .i64 z).wf = true := by decide
theorem eq_ex (w : World) : (binOp .eql 34 (.agg #[.int .i64 167837696, .int .i64 16, .int .i64 2, .int .i64 0, .int .i64 0, .int .i64 0]) (.agg #[.int .i64 167837696, .int .i64 16, .int .i64 2, .int .i64 0, .int .i64 0, .int .i64 0])).run Try.prog w = .ok (.bool true) w := by kernel_rfl
set_option maxRecDepth 100000 in
set_option maxHeartbeats 4000000 in
theorem awake_any (w : World) : Calls Try.prog 9 #[] w fun e w' => e = .returned (.bool true) ∧ Below w.heap.size w w' := by
  have hb0 := below_new w (.cells #[.int .i64 167772160, .int .i64 8, .int .i64 (-1), .int .i64 0, .int .i64 0, .int .i64 0, .int .i64 167837696, .int .i64 16, .int .i64 2, .int .i64 0, .int .i64 0, .int .i64 0] 34)
  have R0 : Rds fR 6 (w.alloc (.cells #[.int .i64 167772160, .int .i64 8, .int .i64 (-1), .int .i64 0, .int .i64 0, .int .i64 0, .int .i64 167837696, .int .i64 16, .int .i64 2, .int .i64 0, .int .i64 0, .int .i64 0] 34)) (some ⟨w.heap.size, 0, none⟩) 2 [ex0, ex1] := rds_news fR_len w [ex0, ex1] 34 ex_wf (by simp) rfl rfl rfl
  have co := order_any sortsTo_12 (by omega) _ R0 (by simp)
  rw [ex_sort] at co
  have heq := eq_ex
  go_enter Try.func9, Try.ntmps9
  go_wp2_with fail
  refine co.mono ?_
  clear co
  rintro e w2 ⟨x, k, rfl, ⟨Ro, -⟩, hb2⟩
  have R2 := R0.later hb2
  have hb3 := below_step hb0 hb2
  obtain ⟨b, o, rfl, hbb, hc⟩ := Ro.at (i := 0) (x := ex1) rfl
  obtain ⟨b9, o9, e9, hbl, hd⟩ := R2.at (i := 1) (x := ex1) rfl
  cases e9
  clear R0 hb0
  have c1 := fun p : BW w2 => calls_bw (p := p) (first_any p.w (R2.later p.hb) 2 167838211)
  have c2 := fun p : BW w2 => calls_bw (p := p) (first_any p.w (R2.later p.hb) 1 167838211)
  have c3 := fun p : BW w2 => calls_bw (p := p) (first_any p.w (R2.later p.hb) 1 0)
  rw [ex_1] at c1
  rw [ex_2] at c2
  rw [ex_3] at c3
  have x0 := cell_bw (a := ⟨b, o + 0 * 6 + 0, none⟩) hbb (hc 0 _ rfl)
  have x1 := cell_bw (a := ⟨b, o + 0 * 6 + 1, none⟩) hbb (hc 1 _ rfl)
  have x2 := cell_bw (a := ⟨b, o + 0 * 6 + 2, none⟩) hbb (hc 2 _ rfl)
  have x3 := cell_bw (a := ⟨b, o + 0 * 6 + 3, none⟩) hbb (hc 3 _ rfl)
  have x4 := cell_bw (a := ⟨b, o + 0 * 6 + 4, none⟩) hbb (hc 4 _ rfl)
  have x5 := cell_bw (a := ⟨b, o + 0 * 6 + 5, none⟩) hbb (hc 5 _ rfl)
  have y0 := cell_bw (a := ⟨w.heap.size, 0 + 1 * 6 + 0, none⟩) hbl (hd 0 _ rfl)
  have y1 := cell_bw (a := ⟨w.heap.size, 0 + 1 * 6 + 1, none⟩) hbl (hd 1 _ rfl)
  have y2 := cell_bw (a := ⟨w.heap.size, 0 + 1 * 6 + 2, none⟩) hbl (hd 2 _ rfl)
  have y3 := cell_bw (a := ⟨w.heap.size, 0 + 1 * 6 + 3, none⟩) hbl (hd 3 _ rfl)
  have y4 := cell_bw (a := ⟨w.heap.size, 0 + 1 * 6 + 4, none⟩) hbl (hd 4 _ rfl)
  have y5 := cell_bw (a := ⟨w.heap.size, 0 + 1 * 6 + 5, none⟩) hbl (hd 5 _ rfl)
  simp only [Nat.zero_mul, Nat.one_mul, Nat.zero_add, Nat.add_zero, Nat.reduceAdd] at x0 x1 x2 x3 x4 x5 y0 y1 y2 y3 y4 y5
  clear hc hd R2 Ro
  dsimp only [ex1] at x0 x1 x2 x3 x4 x5 y0 y1 y2 y3 y4 y5
  go_wp2_with fail
  refine wp_region_below (by kernel_rfl) (by kernel_rfl) ?_
  iterate 2 (quiet_step (fail))
  quiet_step ((go_at_call 13; exact c1 _))
  iterate 4 (quiet_step (fail))
  quiet_step ((go_at_call 13; exact c2 _))
  iterate 4 (quiet_step (fail))
  quiet_step ((go_at_call 13; exact c3 _))
  repeat (quiet_step (fail))
  refine wpQuiet_nil ?_
  rintro _ ⟨p, rfl⟩
  have hb4 := below_step hb3 p.hb
  generalize p.w = w3 at hb4 ⊢
  go_wp2_with fail
  go_ret
  exact ⟨rfl, hb4⟩
end Go.Proofs.Ytbjgnlednkegiaa
