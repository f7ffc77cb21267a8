/- The chapter's examples hold: what the statements on package octets begin with. -/
import Derived.Test.YthclgoohhpdgkaaOctWalks
namespace Go.Proofs.Ythclgoohhpdgkaa
open Go.ChangeShapes Go.WideShapes Go.ChangeAt Go.RowKit O
set_option linter.unusedVariables false

theorem s012 : strOfNums [0, 1, 2] = ⟨#[0, 1, 2]⟩ := by decide +kernel
theorem str_012 {w : World} {a : Option Addr} {c : Nat} (R : Reads .u8 w a c [0, 1, 2]) : (convert 22 9 (.slice a 3 c)).run Try.prog w = .ok (.string ⟨#[0, 1, 2]⟩) w := by
  have := run_str R
  rw [s012] at this
  exact this
theorem sum_12 (w : World) : Calls Try.prog 14 #[.slice (some ⟨w.heap.size, 0, none⟩) 2 2] (w.alloc (.cells #[.int .u8 1, .int .u8 2] 5)) fun e w' => e = .returned (.int .i64 65277) ∧ w' = w.alloc (.cells #[.int .u8 1, .int .u8 2] 5) := by
  have s1 : sumN [1, 2] = 65277 := by decide +kernel
  have := sum_any (l := [1, 2]) _ (reads_new w [1, 2] (by unfold Oct; simp) (by simp)) (by simp)
  rw [s1] at this
  exact this
theorem sum_1234 (w : World) (B : Nat) (hB : w.heap.size = B) : Calls Try.prog 14 #[.slice (some ⟨B, 0, none⟩) 4 4] (w.alloc (.cells #[.int .u8 1, .int .u8 2, .int .u8 254, .int .u8 253] 5)) fun e w' => e = .returned (.int .i64 0) ∧ w' = w.alloc (.cells #[.int .u8 1, .int .u8 2, .int .u8 254, .int .u8 253] 5) := by
  subst hB
  have s1 : sumN [1, 2, 254, 253] = 0 := by decide +kernel
  have := sum_any (l := [1, 2, 254, 253]) _ (reads_new w [1, 2, 254, 253] (by unfold Oct; simp) (by simp)) (by simp)
  rw [s1] at this
  exact this
set_option maxHeartbeats 1000000 in
theorem awake_any (w : World) :
    Calls Try.prog 9 #[] w fun e w' => e = .returned (.bool true) ∧ Below w.heap.size w w' := by
  have hL : putL 258 3 = [0, 1, 2] := by decide +kernel
  have hE : putE 258 3 = 0 := by decide +kernel
  go_enter Try.func9, Try.ntmps9
  go_wp2_with (first | (go_at_call 10; refine (put_any _ _ _).mono ?_; rintro e w1 ⟨a, c, rfl, R, hb⟩; (rw [hL] at R); have hs : (convert 22 9 (.slice a 3 c)).run Try.prog w1 = .ok (.string ⟨#[0, 1, 2]⟩) w1 := str_012 R))
  refine (sum_12 _).mono ?_
  rintro e w' ⟨rfl, rfl⟩
  go_wp2_with fail
  refine (sum_1234 _ _ (by simp)).mono ?_
  rintro e w' ⟨rfl, rfl⟩
  go_wp2_with fail
  go_ret
  exact ⟨rfl, (hb.alloc hb.size _).alloc (by have := hb.size; simp; omega) _⟩
end Go.Proofs.Ythclgoohhpdgkaa
