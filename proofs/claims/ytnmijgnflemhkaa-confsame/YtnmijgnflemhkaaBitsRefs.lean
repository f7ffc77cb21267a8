/- What the document's answers on package bits are, for all arguments: the contracts of the reference functions. -/
import Derived.Test.YtnmijgnflemhkaaBitsWalks
import Derived.Test.YtnmijgnflemhkaaMaths
namespace Go.Proofs.Ytnmijgnflemhkaa
open Go.ChangeShapes Go.WideShapes Go.ChangeAt Go.RowKit M

theorem half_step (x : Int) (d : Nat) : x / 2 ^ d / 2 = x / 2 ^ (d + 1) := by
  rw [Int.pow_succ, Int.ediv_ediv_of_nonneg (Int.le_of_lt (pw_pos d))]

theorem rbit_any (a i : Int) (w : World) :
    Calls Try.prog 46 #[.int .i64 a, .int .i64 i] w fun e w' => e = .returned (.int .i64 (bt a i)) ∧ w' = w := by
  by_cases h1 : i < 0
  · go_enter Try.func46, Try.ntmps46
    go_wp2
    go_ret
    exact ⟨ret_int (bt_out (.inl h1)).symm, rfl⟩
  by_cases h2 : 31 < i
  · go_enter Try.func46, Try.ntmps46
    go_wp2
    go_ret
    exact ⟨ret_int (bt_out (.inr (by omega))).symm, rfl⟩
  have hl := i64_low a
  have hx0 : 0 ≤ a % 4294967296 := Int.emod_nonneg _ (by decide)
  have hx1 : a % 4294967296 ≤ 4294967295 := by omega
  go_enter Try.func46, Try.ntmps46
  go_wp2
  go_loop [5, 6] (fun x k => ∃ d : Nat, (d : Int) ≤ 31 - i ∧ k = .int .i64 (31 - d) ∧ x = .int .i64 (a % 4294967296 / 2 ^ d)) (fun _ k => (intOf k).toNat)
  case atStart => exact ⟨0, by omega, rfl, by simp⟩
  case round =>
    obtain ⟨d, hd, rfl, rfl⟩ := hrel
    have hq0 : 0 ≤ a % 4294967296 / 2 ^ d := Int.ediv_nonneg hx0 (Int.le_of_lt (pw_pos d))
    have hq1 : a % 4294967296 / 2 ^ d ≤ a % 4294967296 := Int.ediv_le_self _ hx0
    by_cases hlt : i < 31 - (d : Int)
    · go_wp2
      go_round
      case rel => exact ⟨d + 1, by omega, by go_num, by rw [half_step]⟩
      case measure => simp [intOf]; omega
    · go_wp2
      go_ret
      exact ⟨ret_int (by rw [bt_in (by omega) (by omega), show (31 - i).toNat = d by omega]), rfl⟩

theorem may_true {a : Int} {L : Nat} {k : Nat} (ha0 : 0 ≤ a) (ha1 : a ≤ 4294967295) (hL : L ≤ 32) (hk : 32 ≤ k) (h : Hid (∀ j : Nat, L ≤ j → j < k → bt a j = 0)) : mayB a L = true :=
  mayB_iff.2 ⟨cl_id (by omega) (by omega), (tail_zero a ha0 ha1 L hL).1 fun j h1 h2 => h.out j h1 (by omega)⟩
theorem may_false {a : Int} {L : Nat} {k : Nat} (ha0 : 0 ≤ a) (ha1 : a ≤ 4294967295) (hL : L ≤ k) (hk : k < 32) (h : Hid (bt a k = 1)) : mayB a L = false := by
  cases hm : mayB a L
  · rfl
  · have := (tail_zero a ha0 ha1 L (by omega)).2 (mayB_iff.1 hm).2 k hL hk
    have := h.out; omega
theorem zero_step {a : Int} {L k : Nat} (h : Hid (∀ j : Nat, L ≤ j → j < k → bt a j = 0)) (he : Hid (bt a k = 0)) : ∀ j : Nat, L ≤ j → j < k + 1 → bt a j = 0 := by
  intro j h1 h2
  by_cases ej : j = k
  · rw [ej]; exact he.out
  · exact h.out j h1 (by omega)

set_option maxHeartbeats 1000000 in
theorem rmay_any (p0 p1 : Int) (w : World) :
    Calls Try.prog 40 #[.agg #[.int .i64 p0, .int .i64 p1]] w fun e w' => e = .returned (.bool (mayB p0 p1)) ∧ Below w.heap.size w w' := by
  have b0 : Below w.heap.size w (w.alloc (.cells #[.int .i64 p0, .int .i64 p1] 38)) := (Below.refl _ _).alloc (Nat.le_refl _) _
  by_cases h1 : p1 < 0
  · have hm := may_out p0 p1 (by omega)
    go_enter Try.func40, Try.ntmps40
    go_wp2
    go_ret
    first | exact ⟨rfl, b0⟩ | exact ⟨ret_bool hm.symm, b0⟩
  by_cases h2 : 32 < p1
  · have hm := may_out p0 p1 (by omega)
    go_enter Try.func40, Try.ntmps40
    go_wp2
    go_ret
    first | exact ⟨rfl, b0⟩ | exact ⟨ret_bool hm.symm, b0⟩
  by_cases h3 : p0 < 0
  · have hm := may_out p0 p1 (by omega)
    go_enter Try.func40, Try.ntmps40
    go_wp2
    go_ret
    first | exact ⟨rfl, b0⟩ | exact ⟨ret_bool hm.symm, b0⟩
  by_cases h4 : 4294967295 < p0
  · have hm := may_out p0 p1 (by omega)
    go_enter Try.func40, Try.ntmps40
    go_wp2
    go_ret
    first | exact ⟨rfl, b0⟩ | exact ⟨ret_bool hm.symm, b0⟩
  obtain ⟨L, rfl⟩ : ∃ L : Nat, p1 = (L : Int) := ⟨p1.toNat, by omega⟩
  have hL : L ≤ 32 := by omega
  go_enter Try.func40, Try.ntmps40
  go_wp2
  go_loop [3] (fun i => ∃ k : Nat, L ≤ k ∧ k ≤ 32 ∧ i = .int .i64 k ∧ Hid (∀ j : Nat, L ≤ j → j < k → bt p0 j = 0)) (fun i => 32 - (intOf i).toNat)
  case atStart => exact ⟨L, by omega, by omega, rfl, fun j h1 h2 => by omega⟩
  case round =>
    obtain ⟨k, hk0, hk, rfl, HA⟩ := hrel
    by_cases hlt : k < 32
    · by_cases he : bt p0 k = 1
      · have hb : (bt p0 k == 1) = true := by simpa using he
        have HE : Hid (bt p0 k = 1) := he
        clear he
        go_wp2_with (go_at_call 46; refine (rbit_any _ _ _).mono ?_; rintro e w' ⟨rfl, rfl⟩)
        go_ret
        exact ⟨ret_bool (may_false (by omega) (by omega) hk0 hlt HE).symm, b0⟩
      · have hb : (bt p0 k == 1) = false := by simpa using he
        have HE : Hid (bt p0 k = 0) := by have := bt_01 p0 k; show bt p0 k = 0; omega
        clear he
        go_wp2_with (go_at_call 46; refine (rbit_any _ _ _).mono ?_; rintro e w' ⟨rfl, rfl⟩)
        go_round
        case rel => exact ⟨k + 1, by omega, by omega, by go_num, zero_step HA HE⟩
        case measure => simp [intOf]; omega
    · go_wp2
      go_ret
      exact ⟨ret_bool (may_true (by omega) (by omega) hL (by omega) HA).symm, b0⟩

end Go.Proofs.Ytnmijgnflemhkaa
