/- What GetAll of package octets answers, for all lists: the contract that the claims on its statements rest on. -/
import Derived.Test.YtklcchmpmilcaaaDoorOctAll
namespace Go.Proofs.YtklcchmpmilcaaaDoor
open Go.ChangeShapes Go.WideShapes Go.ChangeAt Go.RowKit O
set_option linter.unusedVariables false
set_option linter.unusedSimpArgs false

theorem ga_wf {b : List Int} (h : Oct b) (ms : List Int) : ∀ z ∈ gaL b ms, (Lit.int .i64 z).wf = true := fun z hz => by
  have := gaL_bd h ms z hz
  exact wf_i64_mk (by omega) (by omega)
theorem ret3 {P : Program} {a b : Option Addr} {n m c d : Nat} {k l e f : Int} (h1 : a = b) (h2 : n = m) (h3 : c = d) (h4 : k = l) (h5 : e = f) : Ending.returned (.tuple #[.slice a n c, .int .i64 k, .int .i64 e]) = .returned (.tuple #[.slice b m d, .int .i64 l, .int .i64 f]) := by rw [h1, h2, h3, h4, h5]

set_option maxHeartbeats 2000000 in
theorem getAll_any (w : World) {a1 a2 : Option Addr} {c1 c2 : Nat} {b ms : List Int} (R1 : Reads .u8 w a1 c1 b) (R2 : Reads .i64 w a2 c2 ms) (hl : ms.length ≤ 1000) (hb : b.length ≤ 100000) :
    Calls Tryd.prog 50 #[.slice a1 b.length c1, .slice a2 ms.length c2] w fun e w' => ∃ a c, e = .returned (.tuple #[.slice a (gallL b ms).length c, .int .i64 (gallK b ms), .int .i64 (gaE b ms)]) ∧ Reads .i64 w' a c (gallL b ms) ∧ Below w.heap.size w w' := by
  obtain ⟨B, hB⟩ : ∃ B, w.heap.size = B := ⟨_, rfl⟩
  have hmx := R1.max
  have hle := R1.le
  unfold maxLen at hmx
  go_enter Tryd.func50, Tryd.ntmps50
  go_wp2
  go_loopw [7, 8, 15] (fun v t i wr => ∃ k : Nat, k ≤ ms.length ∧ i = .int .i64 k ∧ t = .int .i64 (gaK (ms.take k)) ∧ wr.ownsRow B 3 1 v (gaL b (ms.take k)).length ((gaL b (ms.take k)).map (Value.int .i64)) ∧ gaE b (ms.take k) = 0 ∧ Below B w wr) (fun _ _ i _ => ms.length - (intOf i).toNat)
  case atStart => exact ⟨0, Nat.zero_le _, rfl, rfl, World.ownsRow_nil _ _ _ _, rfl, Below.refl _ _⟩
  case round =>
    obtain ⟨k, hk, rfl, rfl, hown, he, hbel⟩ := hrel
    have hjb := gaK_le he
    have HE : Hid (gaE b (ms.take k) = 0) := he
    clear he
    have hsz : B ≤ wr.heap.size := by have := hbel.size; omega
    by_cases hlt : k < ms.length
    · have hbel' : Below w.heap.size w wr := hB ▸ hbel
      obtain ⟨b2, o2, rfl, hb2, hc2⟩ := (R2.later hbel').cells (by intro h; subst h; simp at hlt)
      obtain ⟨m, hm⟩ : ∃ m, m = ms[k] := ⟨_, rfl⟩
      have x2 := cell_el hc2 hlt
      rw [← hm] at x2
      have hlen : (gaL b (ms.take k)).length ≤ 1000 := by rw [gaL_len]; simp; omega
      have S1 := @ga_step b ms k hlt HE.out
      have S2 := @ga_stop b ms k hlt HE.out
      rw [← hm] at S1 S2
      obtain ⟨j, hj⟩ : ∃ j, gaK (ms.take k) = j := ⟨_, rfl⟩
      rw [hj] at S1 S2 hjb ⊢
      have RD := (R1.later hbel').drop j hjb
      have hdl : (b.drop j).length = b.length - j := by simp
      have hj1 : (j : Int) ≤ (b.length : Int) := by omega
      by_cases hg : getE (b.drop j) m = 0
      · have HS' : Hid _ := S1 hg
        have hm4 := okW_of (getE_zero hg).1
        have hm5 := (getE_zero hg).2
        rw [hdl] at hm5
        have hcj : ¬ c1 = j := by omega
        rw [if_neg hcj] at RD
        have HJ : Hid (gaK (ms.take k) = j) := hj
        clear S1 S2 hm hj hc2
        go_wp2_with (first | (go_at_call 60; refine (get_at _ _ RD hdl).mono ?_; rintro e w' ⟨rfl, rfl⟩) | (at_builtin; refine wpList_one _ (getN (b.drop j) m) 3 rfl rfl (.tmp 30) (.tmp 32) 50 rfl B 8 Tryd.underlying50 info64 rfl hown rfl (by omega) (by omega) hsz ?_; intro v4 w4 hown4 hgrow4))
        go_roundw
        case rel =>
          refine ⟨k + 1, by omega, by go_num, by rw [HS'.out.2.2], ?_, HS'.out.1, (hbel.alloc hsz _).grown hgrow4 (by simp; omega) (fun k hk => (hown.lt k hk).1)⟩
          rw [HS'.out.2.1, List.length_append]
          exact hown4
        case measure => simp [intOf]; omega
      · have HS' : Hid _ := S2 hg
        clear S1 S2 hm hj hc2
        by_cases hcj : c1 = j
        · rw [if_pos hcj, show c1 - j = 0 by omega] at RD
          go_wp2_with (go_at_call 60; refine (get_at _ _ RD hdl).mono ?_; rintro e w' ⟨rfl, rfl⟩)
          refine bodyPost_ret (v := .tuple #[.slice none 0 0, .int .i64 0, .int .i64 (getE (b.drop j) m)]) (by simp [results, Tryd.results50, go_sem]) rfl ?_
          rw [HS'.out.1, HS'.out.2.1, HS'.out.2.2]
          exact ⟨none, 0, rfl, Reads.none _ _, hbel'⟩
        · rw [if_neg hcj] at RD
          go_wp2_with (go_at_call 60; refine (get_at _ _ RD hdl).mono ?_; rintro e w' ⟨rfl, rfl⟩)
          refine bodyPost_ret (v := .tuple #[.slice none 0 0, .int .i64 0, .int .i64 (getE (b.drop j) m)]) (by simp [results, Tryd.results50, go_sem]) rfl ?_
          rw [HS'.out.1, HS'.out.2.1, HS'.out.2.2]
          exact ⟨none, 0, rfl, Reads.none _ _, hbel'⟩
    · rw [List.take_of_length_le (show ms.length ≤ k by omega)] at hown ⊢
      have hee := HE.out
      rw [List.take_of_length_le (show ms.length ≤ k by omega)] at hee
      have HS : Hid _ := ga_end hee
      have HE2 : Hid (gaE b ms = 0) := hee
      obtain ⟨a, c, rfl, X, _⟩ := reads_of_owns hown (ga_wf R1.oct _)
      clear hee
      go_wp2
      refine bodyPost_ret (v := .tuple #[.slice a (gaL b ms).length c, .int .i64 (gaK ms), .int .i64 0]) (by simp [results, Tryd.results50, go_sem]) rfl ?_
      rw [HS.out.1, HS.out.2, HE2.out]
      exact ⟨a, c, rfl, X, hbel⟩
theorem putAll_at (w : World) {a1 a2 : Option Addr} {c1 c2 n1 n2 : Nat} {l ms : List Int} (R1 : Reads .i64 w a1 c1 l) (R2 : Reads .i64 w a2 c2 ms) (h1 : l.length = n1) (h2 : ms.length = n2) (hl : l.length ≤ 1000) :
    Calls Tryd.prog 26 #[.slice a1 n1 c1, .slice a2 n2 c2] w fun e w' => ∃ a c, e = .returned (.tuple #[.slice a (pallL l ms).length c, .int .i64 (pallE l ms)]) ∧ Reads .u8 w' a c (pallL l ms) ∧ Below w.heap.size w w' := by
  subst h1 h2
  exact putAll_any w R1 R2 hl
theorem getAll_at (w : World) {a1 a2 : Option Addr} {c1 c2 n1 n2 : Nat} {b ms : List Int} (R1 : Reads .u8 w a1 c1 b) (R2 : Reads .i64 w a2 c2 ms) (h1 : b.length = n1) (h2 : ms.length = n2) (hl : ms.length ≤ 1000) (hb : b.length ≤ 100000) :
    Calls Tryd.prog 50 #[.slice a1 n1 c1, .slice a2 n2 c2] w fun e w' => ∃ a c, e = .returned (.tuple #[.slice a (gallL b ms).length c, .int .i64 (gallK b ms), .int .i64 (gaE b ms)]) ∧ Reads .i64 w' a c (gallL b ms) ∧ Below w.heap.size w w' := by
  subst h1 h2
  exact getAll_any w R1 R2 hl hb
end Go.Proofs.YtklcchmpmilcaaaDoor
