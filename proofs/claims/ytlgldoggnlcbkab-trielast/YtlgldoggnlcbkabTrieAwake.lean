/- That the chapter's example holds, which each statement on package trie asks first. -/
import Derived.Test.YtlgldoggnlcbkabTrieIf
namespace Go.Proofs.Ytlgldoggnlcbkab
open Go.ChangeShapes Go.WideShapes Go.ChangeAt Go.RowKit Tt
set_option linter.unusedVariables false
set_option linter.unusedSimpArgs false

theorem grow_ge {F F' : Nat → Prop} {w w' : World} {b : Nat} (hF : ∀ k, F k → b ≤ k) (hb : b ≤ w.heap.size) (g : ∀ k, F' k → Grow F w w' k) : ∀ k, F' k → b ≤ k := by
  intro k hk
  rcases g k hk with h | ⟨h, _⟩
  · exact hF k h
  · omega
set_option maxHeartbeats 2000000 in
theorem awake7_of (C : Code) (w : World) : Calls Try.prog 4 #[] w fun e w' => e = .returned (.bool true) ∧ Below w.heap.size w w' := by
  have hB := Below.refl w.heap.size w
  have r4 : roomOf 4 = 4 := by decide
  go_enter Try.func4, Try.ntmps4
  go_wp2_with fail
  refine (C.new 4 _).mono ?_
  rintro e w1 ⟨B, F, rfl, A1, g, hb⟩
  rw [r4] at A1
  have hB := hb
  clear hb
  go_wp2_with fail
  refine (C.put 167772160 8 1 (by decide) A1 (by simp)).mono ?_
  rw [show putErr 4 _ ((167772160, 8), 1) = 0 from ex_1.1, show putTo 4 _ ((167772160, 8), 1) = _ from ex_1.2]
  rintro e w2 ⟨rfl, ⟨F', A2, gg⟩, kk⟩
  have g2 := grow_ge g hB.size gg
  replace hB := hB.trans (kk.below hB.size g)
  clear kk gg A1 g
  have A1 := A2
  have g := g2
  clear A2 g2
  go_wp2_with fail
  refine (C.put 167837696 16 2 (by decide) A1 (by simp)).mono ?_
  rw [show putErr 4 _ ((167837696, 16), 2) = 0 from ex_2.1, show putTo 4 _ ((167837696, 16), 2) = _ from ex_2.2.1]
  rintro e w3 ⟨rfl, ⟨F', A2, gg⟩, kk⟩
  have g2 := grow_ge g hB.size gg
  replace hB := hB.trans (kk.below hB.size g)
  clear kk gg A1 g
  have A1 := A2
  have g := g2
  clear A2 g2
  go_wp2_with fail
  refine (C.nodes A1 (by simp)).mono ?_
  rw [ex_2.2.2]
  rintro e w4 ⟨rfl, hb⟩
  replace A1 := C.later A1 hb
  replace hB := hB.trans (hb.mono hB.size)
  clear hb
  go_wp2_with fail
  refine (C.put 184549376 8 3 (by decide) A1 (by simp)).mono ?_
  rw [show putErr 4 _ ((184549376, 8), 3) = 0 from ex_3.1, show putTo 4 _ ((184549376, 8), 3) = _ from ex_3.2.1]
  rintro e w5 ⟨rfl, ⟨F', A2, gg⟩, kk⟩
  have g2 := grow_ge g hB.size gg
  replace hB := hB.trans (kk.below hB.size g)
  clear kk gg A1 g
  have A1 := A2
  have g := g2
  clear A2 g2
  go_wp2_with fail
  refine (C.find 167838211 (by decide) A1 (by simp) ex_4.1).mono ?_
  rw [ex_4.2]
  rintro e w6 ⟨rfl, hb⟩
  have hn6 := below_new w6 (.cells #[.int .i64 167837696, .int .i64 16, .int .i64 2] 26)
  replace A1 := C.later (C.later A1 hb) hn6
  have X := Lies.new w6 [167837696, 16, 2] 26 rfl
  replace hB := (hB.trans (hb.mono hB.size)).trans (hn6.mono (Nat.le_trans hB.size hb.size))
  clear hb hn6
  go_wp2_with fail
  refine (C.find 167903232 (by decide) A1 (by simp) ex_5.1).mono ?_
  rw [ex_5.2]
  rintro e w7 ⟨rfl, hb⟩
  have hn7 := below_new w7 (.cells #[.int .i64 167772160, .int .i64 8, .int .i64 1] 26)
  replace A1 := C.later (C.later A1 hb) hn7
  replace X := (X.later hb).later hn7
  have Y := Lies.new w7 [167772160, 8, 1] 26 rfl
  replace hB := (hB.trans (hb.mono hB.size)).trans (hn7.mono (Nat.le_trans hB.size hb.size))
  clear hb hn7
  go_wp2_with fail
  refine (C.nodes A1 (by simp)).mono ?_
  rw [ex_3.2.2]
  rintro e w8 ⟨rfl, hb⟩
  obtain ⟨x0, x1, x2⟩ := (X.later hb).three
  obtain ⟨y0, y1, y2⟩ := (Y.later hb).three
  replace hB := hB.trans (hb.mono hB.size)
  go_wp2_with fail
  go_ret
  exact ⟨rfl, hB⟩
end Go.Proofs.Ytlgldoggnlcbkab
