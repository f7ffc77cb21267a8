/- What the document's answers on package bits are, for all arguments: the contracts of the reference functions. -/
import Derived.Test.YtghdchbbheklnabBitsWalks
import Derived.Test.YtghdchbbheklnabBitsRefMath
namespace Go.Proofs.Ytghdchbbheklnab
open Go.ChangeShapes Go.WideShapes Go.ChangeAt Go.RowKit M

theorem rbound_any (n : Int) (w : World) :
    Calls Try.prog 15 #[.int .i64 n] w fun e w' => e = .returned (.int .i64 (cl n)) ∧ w' = w := by
  by_cases h1 : n < 0
  · go_enter Try.func15, Try.ntmps15
    go_wp2
    go_ret
    exact ⟨ret_int (by unfold cl; rw [if_pos h1]), rfl⟩
  · by_cases h2 : 32 < n
    · go_enter Try.func15, Try.ntmps15
      go_wp2
      go_ret
      exact ⟨ret_int (by unfold cl; rw [if_neg (by omega), if_pos (by omega)]), rfl⟩
    · go_enter Try.func15, Try.ntmps15
      go_wp2
      go_ret
      exact ⟨ret_int (by unfold cl; rw [if_neg (by omega), if_neg (by omega)]), rfl⟩

theorem rmask_any (n : Int) (w : World) :
    Calls Try.prog 10 #[.int .i64 n] w fun e w' => e = .returned (.int .i64 (hd n)) ∧ w' = w := by
  have HM : Hid (((mkN (cl n).toNat 32 : Nat) : Int) = hd n) := mk_hd n
  have c0 := cl_lo n
  have c1 := cl_hi n
  go_enter Try.func10, Try.ntmps10
  go_wp2
  go_loop [3, 4] (fun m i => ∃ k : Nat, k ≤ 32 ∧ i = .int .i64 k ∧ m = .int .i64 (mkN (cl n).toNat k : Nat)) (fun _ i => 32 - (intOf i).toNat)
  case atStart => exact ⟨0, by omega, rfl, rfl⟩
  case round =>
    obtain ⟨k, hk, rfl, rfl⟩ := hrel
    have hb : mkN (cl n).toNat k < 4294967296 := Nat.lt_of_lt_of_le (mk_lt _ k) (show 2 ^ k ≤ 2 ^ 32 from Nat.pow_le_pow_right (by decide) hk)
    by_cases hlt : k < 32
    · by_cases hc : (k : Int) < cl n
      · have HS : Hid (mkN (cl n).toNat (k + 1) = mkN (cl n).toNat k * 2 + 1) := by show mkN _ k * 2 + _ = _; rw [if_pos (by omega)]
        go_wp2_with (go_at_call 15; refine (rbound_any _ _).mono ?_; rintro e w' ⟨rfl, rfl⟩)
        go_round
        case rel => exact ⟨k + 1, by omega, by go_num, by rw [HS.out]; go_num⟩
        case measure => simp [intOf]; omega
      · have HS : Hid (mkN (cl n).toNat (k + 1) = mkN (cl n).toNat k * 2) := by show mkN _ k * 2 + _ = _; rw [if_neg (by omega)]; rfl
        go_wp2_with (go_at_call 15; refine (rbound_any _ _).mono ?_; rintro e w' ⟨rfl, rfl⟩)
        go_round
        case rel => exact ⟨k + 1, by omega, by go_num, by rw [HS.out]; go_num⟩
        case measure => simp [intOf]; omega
    · go_wp2
      go_ret
      exact ⟨ret_int (by rw [show k = 32 by omega]; exact HM.out), rfl⟩

end Go.Proofs.Ytghdchbbheklnab
