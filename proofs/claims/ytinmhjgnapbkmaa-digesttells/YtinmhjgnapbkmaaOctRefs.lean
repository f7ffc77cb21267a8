/- What the document's answers (numbers in bytes, checksums) come to, for all arguments: the contracts of the functions that the statements on package octets are held against. -/
import Derived.Test.YtinmhjgnapbkmaaOctAppend
import Derived.Deep.QuietTactic
import Derived.BigQuiet
import Derived.Deep.RegionWith
namespace Go.Proofs.Ytinmhjgnapbkmaa
open Go.ChangeShapes Go.WideShapes Go.ChangeAt Go.RowKit O
set_option linter.unusedVariables false
set_option linter.unusedSimpArgs false

theorem power_any (k : Nat) (hk : k ≤ 4) (w : World) :
    Calls Try.prog 32 #[.int .i64 k] w fun e w' => e = .returned (.int .i64 (pw k)) ∧ w' = w := by
  rcases (show k = 0 ∨ k = 1 ∨ k = 2 ∨ k = 3 ∨ k = 4 by omega) with rfl | rfl | rfl | rfl | rfl
  · go_enter Try.func32, Try.ntmps32
    go_wp2
    refine wp_loop_rounds 1 ?_
    rw [rounds_succ]; go_wp2
    go_ret
    exact ⟨rfl, rfl⟩
  · go_enter Try.func32, Try.ntmps32
    go_wp2
    refine wp_loop_rounds 2 ?_
    rw [rounds_succ]; go_wp2
    rw [rounds_succ]; go_wp2
    go_ret
    exact ⟨rfl, rfl⟩
  · go_enter Try.func32, Try.ntmps32
    go_wp2
    refine wp_loop_rounds 3 ?_
    rw [rounds_succ]; go_wp2
    rw [rounds_succ]; go_wp2
    rw [rounds_succ]; go_wp2
    go_ret
    exact ⟨rfl, rfl⟩
  · go_enter Try.func32, Try.ntmps32
    go_wp2
    refine wp_loop_rounds 4 ?_
    rw [rounds_succ]; go_wp2
    rw [rounds_succ]; go_wp2
    rw [rounds_succ]; go_wp2
    rw [rounds_succ]; go_wp2
    go_ret
    exact ⟨rfl, rfl⟩
  · go_enter Try.func32, Try.ntmps32
    go_wp2
    refine wp_loop_rounds 5 ?_
    rw [rounds_succ]; go_wp2
    rw [rounds_succ]; go_wp2
    rw [rounds_succ]; go_wp2
    rw [rounds_succ]; go_wp2
    rw [rounds_succ]; go_wp2
    go_ret
    exact ⟨rfl, rfl⟩

/-! ### ref02.Get, ref02.Sum -/
theorem rsum_any (w : World) {a : Option Addr} {c : Nat} {l : List Int} (R : Reads .u8 w a c l) (hl : l.length ≤ 100000) :
    Calls Try.prog 22 #[.slice a l.length c] w fun e w' => e = .returned (.int .i64 (sumN l)) ∧ w' = w := by
  have hoct := R.oct
  go_enter Try.func22, Try.ntmps22
  go_wp2
  go_loop [3, 4] (fun n i => ∃ k : Nat, k ≤ l.length ∧ i = .int .i64 k ∧ n = .int .i64 (tot l k)) (fun _ i => l.length - (intOf i).toNat)
  case atStart => exact ⟨0, Nat.zero_le _, rfl, rfl⟩
  case round =>
    obtain ⟨k, hk, rfl, rfl⟩ := hrel
    have hb := tot_bd hoct k
    obtain ⟨hb1, hb2⟩ := hb
    by_cases hlt : k < l.length
    · obtain ⟨hz1, hz2⟩ := hoct.el hlt
      obtain ⟨b, o, rfl, hbl, hc⟩ := R.cells (by intro h; subst h; simp at hlt)
      have hck := hc k hlt
      clear hc
      by_cases hk2 : k % 2 = 0
      · have HT : Hid (tot l (k + 1) = tot l k + l.getD k 0 * 256) := tot_even (l := l) hk2
        have hke : ((k : Int) % 2) = 0 := by omega
        go_wp2
        go_round
        case rel => exact ⟨k + 1, by omega, by go_num, by rw [HT.out, getD_el hlt]; go_num⟩
        case measure => simp [intOf]; omega
      · have HT : Hid (tot l (k + 1) = tot l k + l.getD k 0) := tot_odd (l := l) hk2
        have hke : ((k : Int) % 2) = 1 := by omega
        go_wp2
        go_round
        case rel => exact ⟨k + 1, by omega, by go_num, by rw [HT.out]; simp [List.getD, hlt]⟩
        case measure => simp [intOf]; omega
    · have hkl : k = l.length := by omega
      go_wp2
      go_loop [3] (fun n => ∃ m : Int, 0 ≤ m ∧ m ≤ 1000000000000 ∧ n = .int .i64 m ∧ fo m = fo (tot l l.length)) (fun n => (intOf n).toNat)
      case atStart => exact ⟨tot l l.length, by rw [← hkl]; exact hb1, by rw [← hkl]; omega, rfl, rfl⟩
      case round =>
        obtain ⟨m, hm0, hm1, rfl, hs⟩ := hrel
        have HS : Hid (fo m = fo (tot l l.length)) := hs
        clear hs
        by_cases hp : 65535 < m
        · go_wp2
          go_round
          case rel => exact ⟨_, by omega, by omega, rfl, (fo_step hp).trans HS.out⟩
          case measure => simp [intOf]; omega
        · go_wp2
          go_ret
          exact ⟨ret_int (by unfold sumN; rw [← HS.out, fo_small hm0 (by omega)]), rfl⟩

/-! ### ref02.Put -/
set_option maxRecDepth 100000 in
set_option maxHeartbeats 1000000 in
theorem rput_own (n m : Int) (w : World) :
    Calls Try.prog 19 #[.int .i64 n, .int .i64 m] w fun e w' => ∃ a c, e = .returned (.tuple #[.slice a (putL n m).length c, .int .i64 (putE n m)]) ∧ Reads .u8 w' a c (putL n m) ∧ w'.ownsRow w.heap.size 5 1 (.slice a (putL n m).length c) (putL n m).length ((putL n m).map (Value.int .u8)) ∧ Below w.heap.size w w' := by
  by_cases h1 : m < 1
  · have h := okP_w (n := n) (okW_mkNot (.inl h1))
    go_enter Try.func19, Try.ntmps19
    go_wp2
    go_ret2
    rw [putL_no h, putE_no h]
    exact ⟨none, 0, rfl, Reads.none _ _, World.ownsRow_nil _ _ _ _, Below.refl _ _⟩
  by_cases h4 : 4 < m
  · have h := okP_w (n := n) (okW_mkNot (.inr h4))
    go_enter Try.func19, Try.ntmps19
    go_wp2
    go_ret2
    rw [putL_no h, putE_no h]
    exact ⟨none, 0, rfl, Reads.none _ _, World.ownsRow_nil _ _ _ _, Below.refl _ _⟩
  by_cases h0 : n < 0
  · have h := okP_neg (w := m) h0
    go_enter Try.func19, Try.ntmps19
    go_wp2
    go_ret2
    rw [putL_no h, putE_no h]
    exact ⟨none, 0, rfl, Reads.none _ _, World.ownsRow_nil _ _ _ _, Below.refl _ _⟩
  obtain ⟨M, rfl⟩ : ∃ M : Nat, m = M := ⟨m.toNat, by omega⟩
  have hM1 : 1 ≤ M := by omega
  have hM4 : M ≤ 4 := by omega
  by_cases hp : pw M ≤ n
  · have h : okP n M = false := by unfold okP; simp; intro _ _; exact hp
    go_enter Try.func19, Try.ntmps19
    go_wp2_with (go_at_call 32; refine (power_any _ (by assumption) _).mono ?_; rintro e w' ⟨rfl, rfl⟩)
    go_ret2
    rw [putL_no h, putE_no h]
    exact ⟨none, 0, rfl, Reads.none _ _, World.ownsRow_nil _ _ _ _, Below.refl _ _⟩
  have h : okP n M = true := okP_mk (okW_mk (by omega) (by omega)) (by omega) (by simpa using hp)
  have HL : Hid (putL n M = digs n M) := putL_yes h
  have HE : Hid (putE n M = 0) := putE_yes h
  obtain ⟨i0, hi, hz0, hz1, hz2⟩ := info_parts info8
  obtain ⟨B, hB⟩ : ∃ B, w.heap.size = B := ⟨_, rfl⟩
  go_enter Try.func19, Try.ntmps19
  go_wp2_with (go_at_call 32; refine (power_any _ (by assumption) _).mono ?_; rintro e w' ⟨rfl, rfl⟩)
  go_loopw [6, 7] (fun v i wr => ∃ k : Nat, k ≤ M ∧ i = .int .i64 ((k : Int) - 1) ∧ wr.ownsRow B 5 1 v (M - k) (((digs n M).take (M - k)).map (Value.int .u8)) ∧ Below B w' wr) (fun _ i _ => (intOf i + 1).toNat)
  case atStart => exact ⟨M, Nat.le_refl _, rfl, by rw [Nat.sub_self]; exact World.ownsRow_nil _ _ _ _, Below.refl _ _⟩
  case round =>
    obtain ⟨k, hk, rfl, hown, hbel⟩ := hrel
    by_cases hk0 : k = 0
    · subst hk0
      have hd : (digs n M).take (M - 0) = digs n M := List.take_of_length_le (by rw [digs_len]; omega)
      rw [hd] at hown
      obtain ⟨a, c, rfl, R, hn⟩ := reads_of_owns hown (fun z hz => wf_u8_mk (digs_bd n M z hz).1 (digs_bd n M z hz).2)
      go_wp2
      go_ret2
      rw [HL.out, HE.out]
      rw [hn] at hown
      exact ⟨a, c, rfl, R, hB ▸ hown, hB ▸ hbel⟩
    · obtain ⟨j, rfl⟩ : ∃ j, k = j + 1 := ⟨k - 1, by omega⟩
      have ej : ((j + 1 : Nat) : Int) - 1 = j := by omega
      rw [ej]
      have hpj := pw_pos j
      have hj4 : j ≤ 4 := by omega
      have hsz := hbel.size
      have hpM := pw_le4 hM4
      obtain ⟨H0, H1⟩ := quo_bd j (show 0 ≤ n by omega) (show n < 4294967296 by omega)
      have HQ : n.tdiv (pw j) = n / pw j := Int.tdiv_eq_ediv_of_nonneg (by omega)
      have HS := digs_snoc n M j (by omega)
      have HS' : Hid ((digs n M).take (M - j) = (digs n M).take (M - (j + 1)) ++ [n / pw j % 256]) := HS
      clear HS
      go_wp2_with (first | (go_at_call 32; refine (power_any _ (by assumption) _).mono ?_; rintro e w' ⟨rfl, rfl⟩) | (at_builtin; refine wpList_append_own _ rfl _ _ 48 rfl B 5 i0 (.int .u8 0) 1 1 Try.underlying48 hi hz0 hz1 hz2 rfl (by decide) _ _ _ rfl (hown.alloc _) ⟨_, 0, none⟩ 1 1 [.int .u8 (n / pw j % 256)] rfl rfl (cell_one_new _ _ _) (ints_oneCell .u8 [_]) (by unfold maxLen; omega) (by omega) (by simp; omega) ?_; intro v' w1 hown1 hgrow1 _))
      clear hz0 hz1 hz2 hi
      go_roundw
      case rel =>
        refine ⟨j, by omega, rfl, ?_, (hbel.alloc (by omega) _).grown hgrow1 (by simp; omega) (fun k hk => (hown.lt k hk).1)⟩
        rw [HS'.out, List.map_append]
        rw [show M - (j + 1) + 1 = M - j by omega] at hown1
        exact hown1
      case measure => simp [intOf]
theorem rput_any (n m : Int) (w : World) :
    Calls Try.prog 19 #[.int .i64 n, .int .i64 m] w fun e w' => ∃ a c, e = .returned (.tuple #[.slice a (putL n m).length c, .int .i64 (putE n m)]) ∧ Reads .u8 w' a c (putL n m) ∧ Below w.heap.size w w' :=
  (rput_own n m w).mono fun _ _ ⟨a, c, h1, h2, _, h3⟩ => ⟨a, c, h1, h2, h3⟩
end Go.Proofs.Ytinmhjgnapbkmaa
