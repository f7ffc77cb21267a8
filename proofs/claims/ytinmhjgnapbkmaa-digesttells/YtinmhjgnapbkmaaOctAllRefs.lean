/- What the document's answers for many numbers come to, for all lists: the contracts of the functions that the statements on package octets are held against. -/
import Derived.Test.YtinmhjgnapbkmaaOctAll
import Derived.Test.YtinmhjgnapbkmaaOctRefs
import Derived.Deep.RegionHeld3
namespace Go.Proofs.Ytinmhjgnapbkmaa
open Go.ChangeShapes Go.WideShapes Go.ChangeAt Go.RowKit O
set_option linter.unusedVariables false
set_option linter.unusedSimpArgs false

theorem kept2 {w W w3 : World} {b1 o1 b2 o2 : Nat} {n m : Int} (hb : Below W.heap.size W w3) (h : Below w.heap.size w W ∧ W.cell? ⟨b1, o1, none⟩ = some (.int .i64 n) ∧ W.cell? ⟨b2, o2, none⟩ = some (.int .i64 m)) :
    Below w.heap.size w w3 ∧ w3.cell? ⟨b1, o1, none⟩ = some (.int .i64 n) ∧ w3.cell? ⟨b2, o2, none⟩ = some (.int .i64 m) :=
  ⟨below_step h.1 hb, (hb.cell (p := ⟨b1, o1, none⟩) (World.block_lt_of_cell? W _ h.2.1)).trans h.2.1, (hb.cell (p := ⟨b2, o2, none⟩) (World.block_lt_of_cell? W _ h.2.2)).trans h.2.2⟩

set_option maxHeartbeats 2000000 in
theorem rputAll_own (w : World) {a1 a2 : Option Addr} {c1 c2 : Nat} {l ms : List Int} (R1 : Reads .i64 w a1 c1 l) (R2 : Reads .i64 w a2 c2 ms) (hl : l.length ≤ 1000) :
    Calls Try.prog 35 #[.slice a1 l.length c1, .slice a2 ms.length c2] w fun e w' => ∃ a c, e = .returned (.tuple #[.slice a (pallL l ms).length c, .int .i64 (pallE l ms)]) ∧ Reads .u8 w' a c (pallL l ms) ∧ w'.ownsRow w.heap.size 5 1 (.slice a (pallL l ms).length c) (pallL l ms).length ((pallL l ms).map (Value.int .u8)) ∧ Below w.heap.size w w' := by
  by_cases hn : l.length = ms.length
  case neg =>
    obtain ⟨e1, e2⟩ := pa_odd hn
    go_enter Try.func35, Try.ntmps35
    go_wp2
    go_ret2
    rw [e1, e2]
    exact ⟨none, 0, rfl, Reads.none _ _, World.ownsRow_nil _ _ _ _, Below.refl _ _⟩
  obtain ⟨B, hB⟩ : ∃ B, w.heap.size = B := ⟨_, rfl⟩
  obtain ⟨N, hN⟩ : ∃ N, N = l.length := ⟨_, rfl⟩
  have hN2 : ms.length = N := by omega
  rw [hN2, ← hN]
  rw [← hN] at hl
  have HN : Hid (N = l.length) := hN
  have HN2 : Hid (ms.length = N) := hN2
  clear hn hN hN2
  go_enter Try.func35, Try.ntmps35
  go_wp2
  go_loopw [6, 7] (fun v i wr => ∃ k : Nat, k ≤ N ∧ i = .int .i64 k ∧ wr.ownsRow B 5 1 v (paL (l.take k) (ms.take k)).length ((paL (l.take k) (ms.take k)).map (Value.int .u8)) ∧ paE (l.take k) (ms.take k) = 0 ∧ Below B w wr) (fun _ i _ => N - (intOf i).toNat)
  case atStart => exact ⟨0, Nat.zero_le _, rfl, World.ownsRow_nil _ _ _ _, rfl, Below.refl _ _⟩
  case round =>
    obtain ⟨k, hk, rfl, hown, he, hbel⟩ := hrel
    have HE : Hid (paE (l.take k) (ms.take k) = 0) := he
    clear he
    have hsz : B ≤ wr.heap.size := by have := hbel.size; omega
    by_cases hlt : k < N
    · have h1 : k < l.length := by have := HN.out; omega
      have h2 : k < ms.length := by have := HN2.out; omega
      have hbel' : Below w.heap.size w wr := hB ▸ hbel
      obtain ⟨b1, o1, rfl, hb1, hc1⟩ := (R1.later hbel').cells (by intro h; subst h; simp at h1)
      obtain ⟨b2, o2, rfl, hb2, hc2⟩ := (R2.later hbel').cells (by intro h; subst h; simp at h2)
      obtain ⟨n, hn⟩ : ∃ n, n = l[k] := ⟨_, rfl⟩
      obtain ⟨m, hm⟩ : ∃ m, m = ms[k] := ⟨_, rfl⟩
      have x1 := cell_el hc1 h1
      have x2 := cell_el hc2 h2
      rw [← hn] at x1
      rw [← hm] at x2
      have hlen : (paL (l.take k) (ms.take k)).length ≤ 4000 := by have := paL_len (l.take k) (ms.take k); simp at this; omega
      have hlen2 := putL_len_le n m
      by_cases hp : putE n m = 0
      · have HS : Hid (paE (l.take (k + 1)) (ms.take (k + 1)) = 0 ∧ paL (l.take (k + 1)) (ms.take (k + 1)) = paL (l.take k) (ms.take k) ++ putL n m) := by
          rw [hn, hm]; exact pa_step h1 h2 HE.out (by rw [← hn, ← hm]; exact hp)
        clear hn hm hc1 hc2
        have i0 : (0 : Int) ≤ (k : Int) := by omega
        have i1 : (k : Int) < (N : Int) := by omega
        have S0 : Below wr.heap.size wr wr.drew ∧ wr.drew.cell? ⟨b1, o1 + k, none⟩ = some (.int .i64 n) ∧ wr.drew.cell? ⟨b2, o2 + k, none⟩ = some (.int .i64 m) := ⟨(Below.refl _ _).drew, x1, x2⟩
        go_wp2_with fail
        go_region_held3 (fun w' => Below wr.heap.size wr w' ∧ w'.cell? ⟨b1, o1 + k, none⟩ = some (.int .i64 n) ∧ w'.cell? ⟨b2, o2 + k, none⟩ = some (.int .i64 m)) (first | assumption | exact kept2 (by assumption) (by assumption))
          (first | (go_at_call 19; refine (rput_any _ _ _).mono ?_; rintro e w1 ⟨a3, c3, rfl, X, hbq⟩))
        have hb3 : Below wr.heap.size wr w1 := (‹Below wr.heap.size wr w1 ∧ _›).1
        have hown1 := own_later hown hb3
        go_wp2_with (at_builtin; refine wpList_join rfl (.tmp 36) (.tmp 37) 48 rfl B 5 1 Try.underlying48 info8 rfl hown1 rfl X rfl (by omega) (by omega) (by have := hb3.size; omega) ?_; intro v4 w4 hown4 hgrow4)
        go_roundw
        case rel =>
          refine ⟨k + 1, by omega, by go_num, ?_, HS.out.1, below_grow (hbel.trans (hb3.mono hsz)) hown1 hgrow4 (by have := hb3.size; omega)⟩
          rw [HS.out.2, List.length_append]
          exact hown4
        case measure => simp [intOf]; omega
      · have hp1 : putE n m = 1 := by rcases putE_01 n m with h | h; exact absurd h hp; exact h
        have HS : Hid (pallE l ms = 1 ∧ pallL l ms = []) := pa_stop h1 h2 (by rw [← HN.out, HN2.out]) HE.out (by rw [← hn, ← hm]; exact hp1)
        clear hn hm hc1 hc2 hp
        have i0 : (0 : Int) ≤ (k : Int) := by omega
        have i1 : (k : Int) < (N : Int) := by omega
        have S0 : Below wr.heap.size wr wr.drew ∧ wr.drew.cell? ⟨b1, o1 + k, none⟩ = some (.int .i64 n) ∧ wr.drew.cell? ⟨b2, o2 + k, none⟩ = some (.int .i64 m) := ⟨(Below.refl _ _).drew, x1, x2⟩
        go_wp2_with fail
        go_region_held3 (fun w' => Below wr.heap.size wr w' ∧ w'.cell? ⟨b1, o1 + k, none⟩ = some (.int .i64 n) ∧ w'.cell? ⟨b2, o2 + k, none⟩ = some (.int .i64 m)) (first | assumption | exact kept2 (by assumption) (by assumption))
          (first | (go_at_call 19; refine (rput_any _ _ _).mono ?_; rintro e w1 ⟨a3, c3, rfl, X, hbq⟩))
        have hb3 : Below wr.heap.size wr w1 := (‹Below wr.heap.size wr w1 ∧ _›).1
        go_wp2_with fail
        go_ret2
        rw [HS.out.1, HS.out.2]
        exact ⟨none, 0, rfl, Reads.none _ _, World.ownsRow_nil _ _ _ _, below_step hbel' hb3⟩
    · have hkN : k = N := by omega
      have HS : Hid (pallE l ms = 0 ∧ pallL l ms = paL l ms) := by
        refine pa_end (by rw [← HN.out, HN2.out]) ?_
        have := HE.out
        rwa [List.take_of_length_le (by rw [← HN.out]; omega), List.take_of_length_le (by rw [HN2.out]; omega)] at this
      rw [List.take_of_length_le (show l.length ≤ k by rw [← HN.out]; omega), List.take_of_length_le (show ms.length ≤ k by rw [HN2.out]; omega)] at hown
      obtain ⟨a, c, rfl, X, _⟩ := reads_of_owns hown (u8_wf (paL_oct _ _))
      clear hkN
      go_wp2
      go_ret2
      rw [HS.out.1, HS.out.2]
      exact ⟨a, c, rfl, X, hB ▸ hown, hB ▸ hbel⟩
theorem rputAll_any (w : World) {a1 a2 : Option Addr} {c1 c2 : Nat} {l ms : List Int} (R1 : Reads .i64 w a1 c1 l) (R2 : Reads .i64 w a2 c2 ms) (hl : l.length ≤ 1000) :
    Calls Try.prog 35 #[.slice a1 l.length c1, .slice a2 ms.length c2] w fun e w' => ∃ a c, e = .returned (.tuple #[.slice a (pallL l ms).length c, .int .i64 (pallE l ms)]) ∧ Reads .u8 w' a c (pallL l ms) ∧ Below w.heap.size w w' :=
  (rputAll_own w R1 R2 hl).mono fun _ _ ⟨a, c, h1, h2, _, h3⟩ => ⟨a, c, h1, h2, h3⟩

/-! ### Ints -/
end Go.Proofs.Ytinmhjgnapbkmaa
