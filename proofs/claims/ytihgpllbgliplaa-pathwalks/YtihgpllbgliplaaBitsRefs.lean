/- What the document's answers on package bits are, for all arguments: the contracts of the reference functions. -/
import Derived.Test.YtihgpllbgliplaaBitsWalks
import Derived.Test.YtihgpllbgliplaaMaths
namespace Go.Proofs.Ytihgpllbgliplaa
open Go.ChangeShapes Go.WideShapes Go.ChangeAt Go.RowKit M

theorem rbound_any (n : Int) (w : World) :
    Calls Try.prog 63 #[.int .i64 n] w fun e w' => e = .returned (.int .i64 (cl n)) ∧ w' = w := by
  by_cases h1 : n < 0
  · go_enter Try.func63, Try.ntmps63
    go_wp2
    go_ret
    exact ⟨ret_int (by unfold cl; rw [if_pos h1]), rfl⟩
  · by_cases h2 : 32 < n
    · go_enter Try.func63, Try.ntmps63
      go_wp2
      go_ret
      exact ⟨ret_int (by unfold cl; rw [if_neg (by omega), if_pos (by omega)]), rfl⟩
    · go_enter Try.func63, Try.ntmps63
      go_wp2
      go_ret
      exact ⟨ret_int (by unfold cl; rw [if_neg (by omega), if_neg (by omega)]), rfl⟩

theorem half_step (x : Int) (d : Nat) : x / 2 ^ d / 2 = x / 2 ^ (d + 1) := by
  rw [Int.pow_succ, Int.ediv_ediv_of_nonneg (Int.le_of_lt (pw_pos d))]

theorem rbit_any (a i : Int) (w : World) :
    Calls Try.prog 64 #[.int .i64 a, .int .i64 i] w fun e w' => e = .returned (.int .i64 (bt a i)) ∧ w' = w := by
  by_cases h1 : i < 0
  · go_enter Try.func64, Try.ntmps64
    go_wp2
    go_ret
    exact ⟨ret_int (bt_out (.inl h1)).symm, rfl⟩
  by_cases h2 : 31 < i
  · go_enter Try.func64, Try.ntmps64
    go_wp2
    go_ret
    exact ⟨ret_int (bt_out (.inr (by omega))).symm, rfl⟩
  have hl := i64_low a
  have hx0 : 0 ≤ a % 4294967296 := Int.emod_nonneg _ (by decide)
  have hx1 : a % 4294967296 ≤ 4294967295 := by omega
  go_enter Try.func64, Try.ntmps64
  go_wp2
  go_loop [5, 6] (fun x k => ∃ d : Nat, (d : Int) ≤ 31 - i ∧ k = .int .i64 (31 - d) ∧ x = .int .i64 (a % 4294967296 / 2 ^ d)) (fun _ k => (intOf k).toNat)
  case atStart => exact ⟨0, by omega, rfl, by simp⟩
  case round =>
    obtain ⟨d, hd, rfl, rfl⟩ := hrel
    have hq0 : 0 ≤ a % 4294967296 / 2 ^ d := Int.ediv_nonneg hx0 (Int.le_of_lt (pw_pos d))
    have hq1 : a % 4294967296 / 2 ^ d ≤ a % 4294967296 := Int.ediv_le_self _ hx0
    by_cases hlt : i < 31 - (d : Int)
    · go_wp2
      go_round
      case rel => exact ⟨d + 1, by omega, by go_num, by rw [half_step]⟩
      case measure => simp [intOf]; omega
    · go_wp2
      go_ret
      exact ⟨ret_int (by rw [bt_in (by omega) (by omega), show (31 - i).toNat = d by omega]), rfl⟩

theorem pw_le32 : ∀ k : Fin 33, (2 : Int) ^ k.val ≤ 4294967296 := by decide +kernel
theorem rcut_any (a n : Int) (w : World) :
    Calls Try.prog 54 #[.int .i64 a, .int .i64 n] w fun e w' => e = .returned (.agg #[.int .i64 (ct a n), .int .i64 (cl n)]) ∧ Below w.heap.size w w' := by
  have HM : Hid (cuZ a (cl n).toNat 32 = ct a n) := cu_ct a n
  have c0 := cl_lo n
  have c1 := cl_hi n
  go_enter Try.func54, Try.ntmps54
  go_wp2
  go_loop [5, 6] (fun m i => ∃ k : Nat, k ≤ 32 ∧ i = .int .i64 k ∧ m = .int .i64 (cuZ a (cl n).toNat k)) (fun _ i => 32 - (intOf i).toNat)
  case atStart => exact ⟨0, by omega, rfl, rfl⟩
  case round =>
    obtain ⟨k, hk, rfl, rfl⟩ := hrel
    have hb0 := (cu_bd a (cl n).toNat k).1
    have hb1 : cuZ a (cl n).toNat k < 4294967296 := Int.lt_of_lt_of_le (cu_bd a (cl n).toNat k).2 (pw_le32 ⟨k, by omega⟩)
    have ht := bt_01 a k
    obtain ⟨ht0, ht1⟩ := ht
    by_cases hlt : k < 32
    · by_cases hc : (k : Int) < cl n
      · have HS : Hid (cuZ a (cl n).toNat (k + 1) = cuZ a (cl n).toNat k * 2 + bt a k) := by show cuZ a _ k * 2 + _ = _; rw [if_pos (by omega)]
        go_wp2_with (first | (go_at_call 63; refine (rbound_any _ _).mono ?_; rintro e w' ⟨rfl, rfl⟩) | (go_at_call 64; refine (rbit_any _ _ _).mono ?_; rintro e w' ⟨rfl, rfl⟩))
        go_round
        case rel => exact ⟨k + 1, by omega, by go_num, by rw [HS.out]⟩
        case measure => simp [intOf]; omega
      · have HS : Hid (cuZ a (cl n).toNat (k + 1) = cuZ a (cl n).toNat k * 2) := by show cuZ a _ k * 2 + _ = _; rw [if_neg (by omega), Int.add_zero]
        go_wp2_with (first | (go_at_call 63; refine (rbound_any _ _).mono ?_; rintro e w' ⟨rfl, rfl⟩) | (go_at_call 64; refine (rbit_any _ _ _).mono ?_; rintro e w' ⟨rfl, rfl⟩))
        go_round
        case rel => exact ⟨k + 1, by omega, by go_num, by rw [HS.out]⟩
        case measure => simp [intOf]; omega
    · have hk32 : k = 32 := by omega
      subst hk32
      go_wp2_with (go_at_call 63; refine (rbound_any _ _).mono ?_; rintro e w' ⟨rfl, rfl⟩)
      exact bodyPost_ret (v := .agg #[.int .i64 (cuZ a (cl n).toNat 32), .int .i64 (cl n)]) (by simp [results, Try.results54, go_sem]) rfl ⟨by rw [HM.out], (Below.refl _ _).alloc (Nat.le_refl _) _⟩
theorem rhas_any (p0 p1 x : Int) (w : World) :
    Calls Try.prog 46 #[.agg #[.int .i64 p0, .int .i64 p1], .int .i64 x] w fun e w' => e = .returned (.bool (hasB p0 p1 x)) ∧ Below w.heap.size w w' := by
  have heq := eq_prefix
  go_enter Try.func46, Try.ntmps46
  go_wp2
  go_region_with (go_at_call 54; refine (rcut_any _ _ _).mono ?_; rintro e w1 ⟨rfl, hb⟩; obtain ⟨hc, hf⟩ := bcell hb)
  all_goals go_wp2
  all_goals go_ret
  all_goals exact ⟨ret_bool (has_is _ _ _), below_step (((Below.refl _ _).alloc (Nat.le_refl _) _).drew) hb⟩

end Go.Proofs.Ytihgpllbgliplaa
