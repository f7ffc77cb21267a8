/- The chapter's examples, which each statement on package bits asks first, hold. -/
import Derived.Test.YtghdchbbheklnaaBitsWalks
namespace Go.Proofs.Ytghdchbbheklnaa
open Go.ChangeShapes Go.WideShapes Go.ChangeAt Go.RowKit M

theorem awake_any (w : World) :
    Calls Try.prog 9 #[] w fun e w' => e = .returned (.bool true) ∧ Below w.heap.size w w' := by
  have e1 : mayB 167772160 8 = true := by decide +kernel
  have e2 : hasB 167772160 8 167838211 = true := by decide +kernel
  have e3 : hasB 167772160 8 0 = false := by decide +kernel
  have e4 : cmN 0 1 = 31 := by decide +kernel
  have e5 : hd 1 = 2147483648 := by decide +kernel
  have b0 : Below w.heap.size w (w.alloc (.cells #[.int .i64 167772160, .int .i64 8] 26)) := (Below.refl _ _).alloc (Nat.le_refl _) _
  go_enter Try.func9, Try.ntmps9
  go_wp2_with fail
  refine (may_any _ _ _).mono ?_
  rintro e w1 ⟨rfl, hb1⟩
  obtain ⟨hc1, hf1⟩ := bcell hb1
  have hz1 := hb1.size
  simp at hz1
  have z1 : w.heap.size < w1.heap.size := by omega
  clear hz1
  go_wp2_with fail
  refine (has_any _ _ _ _).mono ?_
  rintro e w2 ⟨rfl, hb2⟩
  obtain ⟨hc2, hf2⟩ := bcell hb2
  have hz2 := hb2.size
  have z2 : w.heap.size < w2.heap.size := by omega
  clear hz2
  go_wp2_with fail
  refine (has_any _ _ _ _).mono ?_
  rintro e w3 ⟨rfl, hb3⟩
  go_wp2_with (first | (go_at_call 12; refine (common_any _ _ _).mono ?_; rintro e w' ⟨rfl, rfl⟩) | (go_at_call 14; refine (mask_any _ _).mono ?_; rintro e w' ⟨rfl, rfl⟩))
  go_ret
  exact ⟨rfl, below_step (below_step (below_step b0 hb1) hb2) hb3⟩
end Go.Proofs.Ytghdchbbheklnaa
