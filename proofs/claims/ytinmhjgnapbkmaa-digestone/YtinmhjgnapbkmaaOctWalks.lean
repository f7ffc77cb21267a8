/- What the calls of package octets answer, for all arguments: the contracts that the claims on its statements rest on. -/
import Derived.Test.YtinmhjgnapbkmaaOctReads
import Derived.WalkLawsBesides
import Derived.Outline
import Derived.WalkMore
import Derived.ScopeJumps
namespace Go.Proofs.Ytinmhjgnapbkmaa
open Go.ChangeShapes Go.WideShapes Go.ChangeAt Go.RowKit O
set_option linter.unusedVariables false
set_option linter.unusedSimpArgs false

/-! ### mayWidth, mayPut -/
theorem mayWidth_any (n : Int) (w : World) :
    Calls Try.prog 58 #[.int .i64 n] w fun e w' => e = .returned (.bool (okW n)) ∧ w' = w := by
  by_cases h : 1 ≤ n
  · go_enter Try.func58, Try.ntmps58
    go_wp2
    go_ret
    exact ⟨ret_bool (by unfold okW; simp [h]), rfl⟩
  · go_enter Try.func58, Try.ntmps58
    go_wp2
    go_ret
    exact ⟨ret_bool (by unfold okW; simp; omega), rfl⟩

theorem mayPut_any (n m : Int) (w : World) :
    Calls Try.prog 49 #[.int .i64 n, .int .i64 m] w fun e w' => e = .returned (.bool (okP n m)) ∧ w' = w := by
  cases h : okW m
  · go_enter Try.func49, Try.ntmps49
    go_wp2_with (go_at_call 58; refine (mayWidth_any _ _).mono ?_; rintro e w' ⟨rfl, rfl⟩)
    go_ret
    exact ⟨ret_bool (okP_w h).symm, rfl⟩
  · by_cases h0 : 0 ≤ n
    · rcases okW_of h with rfl | rfl | rfl | rfl
      all_goals
        go_enter Try.func49, Try.ntmps49
        go_wp2_with (go_at_call 58; refine (mayWidth_any _ _).mono ?_; rintro e w' ⟨rfl, rfl⟩)
        go_ret
        exact ⟨ret_bool (by first | exact (okP1 h0).symm | exact (okP2 h0).symm | exact (okP3 h0).symm | exact (okP4 h0).symm), rfl⟩
    · go_enter Try.func49, Try.ntmps49
      go_wp2_with (go_at_call 58; refine (mayWidth_any _ _).mono ?_; rintro e w' ⟨rfl, rfl⟩)
      go_ret
      exact ⟨ret_bool (okP_neg (by omega)).symm, rfl⟩

/-! ### fold, total, Sum -/
theorem total_any (w : World) {a : Option Addr} {c : Nat} {l : List Int} (R : Reads .u8 w a c l) (hl : l.length ≤ 100000) :
    Calls Try.prog 39 #[.slice a l.length c] w fun e w' => e = .returned (.int .i64 (tot l l.length)) ∧ w' = w := by
  have hoct := R.oct
  go_enter Try.func39, Try.ntmps39
  go_wp2
  go_loop [3, 8] (fun n i => ∃ k : Nat, k ≤ l.length ∧ i = .int .i64 k ∧ n = .int .i64 (tot l k)) (fun _ i => l.length - (intOf i).toNat)
  case atStart => exact ⟨0, Nat.zero_le _, rfl, rfl⟩
  case round =>
    obtain ⟨k, hk, rfl, rfl⟩ := hrel
    have hb := tot_bd hoct k
    obtain ⟨hb1, hb2⟩ := hb
    by_cases hlt : k < l.length
    · obtain ⟨hz1, hz2⟩ := hoct.el hlt
      obtain ⟨b, o, rfl, hbl, hc⟩ := R.cells (by intro h; subst h; simp at hlt)
      have hck := hc k hlt
      clear hc
      by_cases hk2 : k % 2 = 0
      · have HT : Hid (tot l (k + 1) = tot l k + l.getD k 0 * 256) := tot_even (l := l) hk2
        have hke : ((k : Int) % 2) = 0 := by omega
        go_wp2
        go_round
        case rel => exact ⟨k + 1, by omega, by go_num, by rw [HT.out]; simp [List.getD, hlt]⟩
        case measure => simp [intOf]; omega
      · have HT : Hid (tot l (k + 1) = tot l k + l.getD k 0) := tot_odd (l := l) hk2
        have hke : ((k : Int) % 2) = 1 := by omega
        go_wp2
        go_round
        case rel => exact ⟨k + 1, by omega, by go_num, by rw [HT.out]; simp [List.getD, hlt]⟩
        case measure => simp [intOf]; omega
    · go_wp2
      go_ret
      exact ⟨ret_int (by rw [show k = l.length by omega]), rfl⟩

set_option maxRecDepth 1000000 in
theorem fold_any (n : Int) (h0 : 0 ≤ n) (h1 : n ≤ 1000000000000) (w : World) :
    Calls Try.prog 38 #[.int .i64 n] w fun e w' => e = .returned (.int .i64 (fo n)) ∧ w' = w := by
  go_enter Try.func38, Try.ntmps38
  go_wp2
  refine wp_scope_jumps 0 (fun a' w' => w' = w ∧ ∃ (m : Int) (u3 u4 u5 u6 u7 u8 u9 u10 : Value), a' = { tmps := #[.int .i64 m, undef, .int .i64 0, u3, u4, u5, u6, u7, u8, u9, u10], defers := [] } ∧ fo m = fo n ∧ 0 ≤ m ∧ m ≤ 1000000000000) (fun a' _ => (intOf (a'.tmps.getD 0 undef)).toNat) rfl ?_ ?_
  · go_wp2
    go_step3
    by_cases hp : 65535 < n
    · go_wp2
      go_step3
      exact ⟨rfl, rfl, _, _, _, _, _, _, _, _, _, rfl, fo_step hp, by omega, by omega⟩
    · go_wp2
      simp only [Exit.jump]
      go_ret
      exact ⟨ret_int (fo_small h0 (by omega)).symm, rfl⟩
  · rintro a' w' ⟨rfl, m, u3, u4, u5, u6, u7, u8, u9, u10, rfl, hs, hm0, hm1⟩
    have HS : Hid (fo m = fo n) := hs
    clear hs
    by_cases hp : 65535 < m
    · go_wp2
      go_step3
      refine ⟨rfl, ⟨rfl, _, _, _, _, _, _, _, _, _, rfl, (fo_step hp).trans HS.out, by omega, by omega⟩, ?_⟩
      simp [intOf]
      omega
    · go_wp2
      simp only [Exit.jump]
      go_ret
      exact ⟨ret_int ((fo_small hm0 (by omega)).symm.trans HS.out), rfl⟩

theorem sum_any (w : World) {a : Option Addr} {c : Nat} {l : List Int} (R : Reads .u8 w a c l) (hl : l.length ≤ 100000) :
    Calls Try.prog 27 #[.slice a l.length c] w fun e w' => e = .returned (.int .i64 (sumN l)) ∧ w' = w := by
  have hb := tot_bd R.oct l.length
  have hf := fo_bd hb.1
  go_enter Try.func27, Try.ntmps27
  go_wp2_with (first | (go_at_call 39; refine (total_any _ R hl).mono ?_; rintro e w' ⟨rfl, rfl⟩) | (go_at_call 38; refine (fold_any _ (by omega) (by omega) _).mono ?_; rintro e w' ⟨rfl, rfl⟩))
  go_ret
  exact ⟨rfl, rfl⟩


/-! ### Put -/
theorem make1 (w : World) : (Instr.makeSlice 48 (.int .i64 1) (.int .i64 1)).run Try.prog w = .ok (.slice (some ⟨w.heap.size, 0, none⟩) 1 1) (w.alloc (.cells #[.int .u8 0] 5)) := by kernel_rfl
theorem make2 (w : World) : (Instr.makeSlice 48 (.int .i64 2) (.int .i64 2)).run Try.prog w = .ok (.slice (some ⟨w.heap.size, 0, none⟩) 2 2) (w.alloc (.cells #[.int .u8 0, .int .u8 0] 5)) := by kernel_rfl
theorem make3 (w : World) : (Instr.makeSlice 48 (.int .i64 3) (.int .i64 3)).run Try.prog w = .ok (.slice (some ⟨w.heap.size, 0, none⟩) 3 3) (w.alloc (.cells #[.int .u8 0, .int .u8 0, .int .u8 0] 5)) := by kernel_rfl
theorem make4 (w : World) : (Instr.makeSlice 48 (.int .i64 4) (.int .i64 4)).run Try.prog w = .ok (.slice (some ⟨w.heap.size, 0, none⟩) 4 4) (w.alloc (.cells #[.int .u8 0, .int .u8 0, .int .u8 0, .int .u8 0] 5)) := by kernel_rfl
/-- a block just made reads what it holds -/
theorem reads_new (w : World) (l : List Int) (hl : Oct l) (h0 : l.length ≤ 4) : Reads .u8 (w.alloc (.cells (l.map (Value.int .u8)).toArray 5)) (some ⟨w.heap.size, 0, none⟩) l.length l := by
  refine ⟨Nat.le_refl _, by unfold maxLen; omega, fun z hz => wf_u8_mk (hl z hz).1 (hl z hz).2, fun h => (nomatch h), fun _ => ⟨_, _, rfl, by simp, fun i hi => ?_⟩⟩
  have := World.news_of_block (heap_alloc_new w (.cells (l.map (Value.int .u8)).toArray 5)) i (.int .u8 (l.getD i 0)) (by simp [List.getD, hi])
  rw [Addr.add_lit] at this
  exact this
theorem put_fin {n m : Int} (w : World) (l : List Int) (h : okP n m = true) (e : digs n m.toNat = l) (h4 : l.length ≤ 4) :
    ∃ a c, Ending.returned (.tuple #[.slice (some ⟨w.heap.size, 0, none⟩) l.length l.length, .int .i64 0]) = .returned (.tuple #[.slice a (putL n m).length c, .int .i64 (putE n m)]) ∧
      Reads .u8 (w.alloc (.cells (l.map (Value.int .u8)).toArray 5)) a c (putL n m) ∧ Below w.heap.size w (w.alloc (.cells (l.map (Value.int .u8)).toArray 5)) := by
  have hl : putL n m = l := (putL_yes h).trans e
  have hb := putL_bd n m
  rw [hl] at hb
  rw [putE_yes h, hl]
  exact ⟨_, _, rfl, reads_new w l hb h4, (Below.refl _ _).alloc (Nat.le_refl _) _⟩
set_option maxHeartbeats 1000000 in
theorem put_any (n m : Int) (w : World) :
    Calls Try.prog 40 #[.int .i64 n, .int .i64 m] w fun e w' => ∃ a c, e = .returned (.tuple #[.slice a (putL n m).length c, .int .i64 (putE n m)]) ∧ Reads .u8 w' a c (putL n m) ∧ Below w.heap.size w w' := by
  cases h : okP n m
  · go_enter Try.func40, Try.ntmps40
    go_wp2_with (go_at_call 49; refine (mayPut_any _ _ _).mono ?_; rintro e w' ⟨rfl, rfl⟩)
    go_ret2
    rw [putL_no h, putE_no h]
    exact ⟨none, 0, rfl, Reads.none _ _, Below.refl _ _⟩
  · have m1 := make1
    have m2 := make2
    have m3 := make3
    have m4 := make4
    obtain ⟨hw, h0, h1⟩ := okP_of h
    rcases okW_of hw with rfl | rfl | rfl | rfl
    · have h2 : n < 256 := h1
      go_enter Try.func40, Try.ntmps40
      go_wp2_with (go_at_call 49; refine (mayPut_any _ _ _).mono ?_; rintro e w' ⟨rfl, rfl⟩)
      refine wp_loop_rounds 2 ?_
      rw [rounds_succ]; go_wp2
      rw [rounds_succ]; go_wp2
      go_ret2
      exact put_fin _ [n] h (by show digs n 1 = _; rw [digs1]; simp only [List.cons.injEq, and_true, true_and]; omega) (by simp)
    · have h2 : n < 65536 := h1
      go_enter Try.func40, Try.ntmps40
      go_wp2_with (go_at_call 49; refine (mayPut_any _ _ _).mono ?_; rintro e w' ⟨rfl, rfl⟩)
      refine wp_loop_rounds 3 ?_
      rw [rounds_succ]; go_wp2
      rw [rounds_succ]; go_wp2
      rw [rounds_succ]; go_wp2
      go_ret2
      exact put_fin _ [n / 256, n % 256] h (by show digs n 2 = _; rw [digs2]; simp only [List.cons.injEq, and_true, true_and]; omega) (by simp)
    · have h2 : n < 16777216 := h1
      go_enter Try.func40, Try.ntmps40
      go_wp2_with (go_at_call 49; refine (mayPut_any _ _ _).mono ?_; rintro e w' ⟨rfl, rfl⟩)
      refine wp_loop_rounds 4 ?_
      rw [rounds_succ]; go_wp2
      rw [rounds_succ]; go_wp2
      rw [rounds_succ]; go_wp2
      rw [rounds_succ]; go_wp2
      go_ret2
      exact put_fin _ [n / 65536, n / 256 % 256, n % 256] h (by show digs n 3 = _; rw [digs3]; simp only [List.cons.injEq, and_true, true_and]; omega) (by simp)
    · have h2 : n < 4294967296 := h1
      go_enter Try.func40, Try.ntmps40
      go_wp2_with (go_at_call 49; refine (mayPut_any _ _ _).mono ?_; rintro e w' ⟨rfl, rfl⟩)
      refine wp_loop_rounds 5 ?_
      rw [rounds_succ]; go_wp2
      rw [rounds_succ]; go_wp2
      rw [rounds_succ]; go_wp2
      rw [rounds_succ]; go_wp2
      rw [rounds_succ]; go_wp2
      go_ret2
      exact put_fin _ [n / 16777216, n / 65536 % 256, n / 256 % 256, n % 256] h (by show digs n 4 = _; rw [digs4]; simp only [List.cons.injEq, and_true, true_and]; omega) (by simp)
end Go.Proofs.Ytinmhjgnapbkmaa
