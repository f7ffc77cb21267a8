/- The small functions and the closures of package frame: what each answers. -/
import Derived.Test.YtklcchmpmilcaaaDoorFrameMath
import Derived.Test.YtklcchmpmilcaaaDoorLies
import Derived.LoopN
import Derived.FnLit
namespace Go.Proofs.YtklcchmpmilcaaaDoor
open Go.ChangeShapes Go.WideShapes Go.ChangeAt Go.RowKit O
set_option linter.unusedVariables false
set_option linter.unusedSimpArgs false

theorem rem_two (n : Nat) : (n : Int).tmod 2 = ((n % 2 : Nat) : Int) := rfl
theorem fOdd_yes {n : Nat} (h : n % 2 = 1) (w : World) : Calls Tryd.prog 34 #[.int .i64 (n : Int)] w fun e w' => e = .returned (.bool true) ∧ w' = w := by
  have h1 : (n : Int).tmod 2 = 1 := by rw [rem_two, h]; rfl
  go_enter Tryd.func34, Tryd.ntmps34
  go_wp2
  go_ret
  exact ⟨rfl, rfl⟩
theorem fOdd_no {n : Nat} (h : n % 2 = 0) (w : World) : Calls Tryd.prog 34 #[.int .i64 (n : Int)] w fun e w' => e = .returned (.bool false) ∧ w' = w := by
  have h1 : (n : Int).tmod 2 = 0 := by rw [rem_two, h]; rfl
  go_enter Tryd.func34, Tryd.ntmps34
  go_wp2
  go_ret
  exact ⟨rfl, rfl⟩
theorem fPadded_any {n : Nat} (hn : n ≤ 1000000) (w : World) : Calls Tryd.prog 59 #[.int .i64 (n : Int)] w fun e w' => e = .returned (.int .i64 ((n + n % 2 : Nat) : Int)) ∧ w' = w := by
  by_cases h : n % 2 = 1
  · go_enter Tryd.func59, Tryd.ntmps59
    go_wp2_with fail
    refine (fOdd_yes h _).mono ?_
    rintro e w' ⟨rfl, rfl⟩
    go_wp2_with fail
    go_ret
    exact ⟨ret_int (by omega), rfl⟩
  · go_enter Tryd.func59, Tryd.ntmps59
    go_wp2_with fail
    refine (fOdd_no (by omega) _).mono ?_
    rintro e w' ⟨rfl, rfl⟩
    go_wp2_with fail
    go_ret
    exact ⟨ret_int (by omega), rfl⟩
theorem fSize_any {n : Nat} (hn : n ≤ 1000000) (w : World) : Calls Tryd.prog 44 #[.int .i64 (n : Int)] w fun e w' => e = .returned (.int .i64 ((n + n % 2 + 4 : Nat) : Int)) ∧ w' = w := by
  go_enter Tryd.func44, Tryd.ntmps44
  go_wp2_with fail
  refine (fPadded_any hn _).mono ?_
  rintro e w' ⟨rfl, rfl⟩
  go_wp2_with fail
  go_ret
  exact ⟨ret_int (by omega), rfl⟩

/-- what the closures have caught: the bytes, and the function that tells how many there are -/
structure Held (w : World) (B T bb oo n c N : Nat) (x0 : Int) : Prop where
  ltB : B < w.heap.size
  ltT : T < w.heap.size
  ltb : bb < w.heap.size
  cb : w.cell? ⟨B, 0, none⟩ = some (.slice (some ⟨bb, oo, none⟩) n c)
  ct : w.cell? ⟨T, 0, none⟩ = some (.func (.func 42) #[] #[.pointer (some ⟨B, 0, none⟩)])
  c0 : w.cell? ⟨bb, oo, none⟩ = some (.int .u8 x0)
  c1 : w.cell? ⟨bb, oo + 1, none⟩ = some (.int .u8 (N : Int))
  hN : N ≤ 255
  h4 : 4 ≤ n
  hm : n ≤ 100000
theorem Held.later {w w' : World} {B T bb oo n c N : Nat} {x0 : Int} (H : Held w B T bb oo n c N x0) (hb : Below w.heap.size w w') : Held w' B T bb oo n c N x0 :=
  ⟨Nat.lt_of_lt_of_le H.ltB hb.size, Nat.lt_of_lt_of_le H.ltT hb.size, Nat.lt_of_lt_of_le H.ltb hb.size, (hb.cell (p := ⟨B, 0, none⟩) H.ltB).trans H.cb, (hb.cell (p := ⟨T, 0, none⟩) H.ltT).trans H.ct, (hb.cell (p := ⟨bb, oo, none⟩) H.ltb).trans H.c0, (hb.cell (p := ⟨bb, oo + 1, none⟩) H.ltb).trans H.c1, H.hN, H.h4, H.hm⟩

theorem told_any (w : World) {B T bb oo n c N : Nat} {x0 : Int} (H : Held w B T bb oo n c N x0) :
    Calls Tryd.prog 42 #[.pointer (some ⟨B, 0, none⟩)] w fun e w' => e = .returned (.int .i64 (N : Int)) ∧ w' = w := by
  obtain ⟨_, _, _, cb, ct, _, c1, hN, h4, hm⟩ := H
  have h1 : (1 : Int) < (n : Int) := by omega
  go_enter Tryd.func42, Tryd.ntmps42
  go_wp2
  go_ret
  exact ⟨rfl, rfl⟩
theorem size_zero (w : World) : Calls Tryd.prog 44 #[.int .i64 0] w fun e w' => e = .returned (.int .i64 4) ∧ w' = w := fSize_any (n := 0) (by omega) w
/-- fewer than 4 bytes? -/
theorem clo2_any (w : World) {B n c : Nat} {a : Option Addr} (cb : w.cell? ⟨B, 0, none⟩ = some (.slice a n c)) (r : Bool) (hr : decide ((n : Int) < 4) = r) :
    Calls Tryd.prog 43 #[.pointer (some ⟨B, 0, none⟩)] w fun e w' => e = .returned (.bool r) ∧ Below w.heap.size w w' := by
  go_enter Tryd.func43, Tryd.ntmps43
  go_wp2_with fail
  go_quiet ((go_at_call 44; exact Calls.quiet_of_same (size_zero _)))
  go_wp2_with fail
  go_ret
  exact ⟨ret_bool (by simp), below_draws _ _ _⟩
/-- another mark? -/
theorem clo3_any (w : World) {B T bb oo n c N : Nat} {x0 : Int} (H : Held w B T bb oo n c N x0) (r : Bool) (hr : (x0 != 197) = r) :
    Calls Tryd.prog 45 #[.pointer (some ⟨B, 0, none⟩)] w fun e w' => e = .returned (.bool r) ∧ Below w.heap.size w w' := by
  obtain ⟨_, _, _, cb, ct, c0, c1, hN, h4, hm⟩ := H
  have h1 : (0 : Int) < (n : Int) := by omega
  go_enter Tryd.func45, Tryd.ntmps45
  go_wp2
  go_ret
  exact ⟨rfl, Below.refl _ _⟩
/-- too few? -/
theorem clo4_any (w : World) {B T bb oo n c N : Nat} {x0 : Int} (H : Held w B T bb oo n c N x0) (r : Bool) (hr : decide ((n : Int) < ((N + N % 2 + 4 : Nat) : Int)) = r) :
    Calls Tryd.prog 46 #[.pointer (some ⟨B, 0, none⟩), .pointer (some ⟨T, 0, none⟩)] w fun e w' => e = .returned (.bool r) ∧ Below w.heap.size w w' := by
  have HH := H
  obtain ⟨_, _, _, cb, ct, c0, c1, hN, h4, hm⟩ := H
  go_enter Tryd.func46, Tryd.ntmps46
  go_wp2_with fail
  go_quiet (first | (go_at_call 42; exact Calls.quiet_of_same (told_any _ (HH.later (below_draws _ _ _)))) | (go_at_call 44; exact Calls.quiet_of_same (fSize_any (by omega) _)))
  go_wp2_with fail
  go_ret
  exact ⟨ret_bool (by simpa using hr), below_draws _ _ _⟩
/-- too many? -/
theorem clo5_any (w : World) {B T bb oo n c N : Nat} {x0 : Int} (H : Held w B T bb oo n c N x0) (r : Bool) (hr : decide (((N + N % 2 + 4 : Nat) : Int) < (n : Int)) = r) :
    Calls Tryd.prog 47 #[.pointer (some ⟨B, 0, none⟩), .pointer (some ⟨T, 0, none⟩)] w fun e w' => e = .returned (.bool r) ∧ Below w.heap.size w w' := by
  have HH := H
  obtain ⟨_, _, _, cb, ct, c0, c1, hN, h4, hm⟩ := H
  go_enter Tryd.func47, Tryd.ntmps47
  go_wp2_with fail
  go_quiet (first | (go_at_call 42; exact Calls.quiet_of_same (told_any _ (HH.later (below_draws _ _ _)))) | (go_at_call 44; exact Calls.quiet_of_same (fSize_any (by omega) _)))
  go_wp2_with fail
  go_ret
  exact ⟨ret_bool (by simpa using hr), below_draws _ _ _⟩
/-- another sum? -/
theorem clo6_any (w : World) {B c n : Nat} {a : Option Addr} {b : List Int} (cb : w.cell? ⟨B, 0, none⟩ = some (.slice a n c)) (R : Reads .u8 w a c b) (hn : b.length = n) (hm : b.length ≤ 100000) (r : Bool) (hr : (sumN b != 0) = r) :
    Calls Tryd.prog 48 #[.pointer (some ⟨B, 0, none⟩)] w fun e w' => e = .returned (.bool r) ∧ Below w.heap.size w w' := by
  go_enter Tryd.func48, Tryd.ntmps48
  go_wp2_with fail
  refine (sum_at _ R hn hm).mono ?_
  rintro e w' ⟨rfl, rfl⟩
  go_wp2_with fail
  go_ret
  exact ⟨rfl, Below.refl _ _⟩
/-- something but a nought? -/
theorem clo7_even (w : World) {B T bb oo n c N : Nat} {x0 : Int} (H : Held w B T bb oo n c N x0) (he : N % 2 = 0) :
    Calls Tryd.prog 49 #[.pointer (some ⟨T, 0, none⟩), .pointer (some ⟨B, 0, none⟩)] w fun e w' => e = .returned (.bool false) ∧ Below w.heap.size w w' := by
  have HH := H
  obtain ⟨_, _, _, cb, ct, c0, c1, hN, h4, hm⟩ := H
  go_enter Tryd.func49, Tryd.ntmps49
  go_wp2_with fail
  go_quiet (first | (go_at_call 42; exact Calls.quiet_of_same (told_any _ (HH.later (below_draws _ _ _)))) | (go_at_call 34; exact Calls.quiet_of_same (fOdd_no he _)))
  go_wp2_with fail
  go_ret
  exact ⟨rfl, below_draws _ _ _⟩
theorem clo7_odd (w : World) {B T bb oo n c N : Nat} {x0 xp : Int} (H : Held w B T bb oo n c N x0) (he : N % 2 = 1) (hn : n = N + N % 2 + 4) (cp : w.cell? ⟨bb, oo + (2 + N), none⟩ = some (.int .u8 xp)) (r : Bool) (hr : (xp != 0) = r) :
    Calls Tryd.prog 49 #[.pointer (some ⟨T, 0, none⟩), .pointer (some ⟨B, 0, none⟩)] w fun e w' => e = .returned (.bool r) ∧ Below w.heap.size w w' := by
  have HH := H
  obtain ⟨_, _, _, cb, ct, c0, c1, hN, h4, hm⟩ := H
  have h1 : (2 : Int) + (N : Int) < (n : Int) := by omega
  have h0 : (0 : Int) ≤ (2 : Int) + (N : Int) := by omega
  have ht : ((2 : Int) + (N : Int)).toNat = 2 + N := by omega
  go_enter Tryd.func49, Tryd.ntmps49
  go_wp2_with fail
  go_quiet (first | (go_at_call 42; exact Calls.quiet_of_same (told_any _ (HH.later (below_draws _ _ _)))) | (go_at_call 34; exact Calls.quiet_of_same (fOdd_yes he _)))
  go_wp2_with fail
  go_ret
  exact ⟨rfl, below_draws _ _ _⟩
end Go.Proofs.YtklcchmpmilcaaaDoor
