/- What PutAll and GetAll of package octets answer. -/
import Derived.Test.YtinmhjgnapbkmaaOctAppend
import Derived.Test.YtinmhjgnapbkmaaMaths
/-! What PutAll and GetAll of package octets answer, for all lists: the contracts that the claims on its statements rest on. -/
namespace Go.Proofs.Ytinmhjgnapbkmaa
open Go.ChangeShapes Go.WideShapes Go.ChangeAt Go.RowKit O
set_option linter.unusedVariables false
set_option linter.unusedSimpArgs false

theorem own_later {w w' : World} {base e n : Nat} {v : Value} {xs : List Value} (h : w.ownsRow base e 1 v n xs) (hb : Below w.heap.size w w') : w'.ownsRow base e 1 v n xs := by
  refine ⟨h.1, ?_⟩
  rcases h.2 with h0 | ⟨g, cap, cur, hv, hbg, hg, rest⟩
  · exact .inl h0
  · exact .inr ⟨g, cap, cur, hv, hbg, (hb.block g (Array.getElem?_eq_some_iff.1 hg).1).trans hg, rest⟩
theorem own_mono {w : World} {base base2 e n : Nat} {v : Value} {xs : List Value} (h : w.ownsRow base e 1 v n xs) (hb : base2 ≤ base) : w.ownsRow base2 e 1 v n xs := by
  refine ⟨h.1, ?_⟩
  rcases h.2 with h0 | ⟨g, cap, cur, hv, hbg, rest⟩
  · exact .inl h0
  · exact .inr ⟨g, cap, cur, hv, Nat.le_trans hb hbg, rest⟩
theorem cell_el {k : IntKind} {w : World} {b o i : Nat} {l : List Int} (hc : ∀ i, i < l.length → w.cell? ⟨b, o + i, none⟩ = some (.int k (l.getD i 0))) (hi : i < l.length) : w.cell? ⟨b, o + i, none⟩ = some (.int k l[i]) := by
  rw [hc i hi, getD_el hi]

set_option maxHeartbeats 2000000 in
theorem putAll_own (w : World) {a1 a2 : Option Addr} {c1 c2 : Nat} {l ms : List Int} (R1 : Reads .i64 w a1 c1 l) (R2 : Reads .i64 w a2 c2 ms) (hl : l.length ≤ 1000) :
    Calls Try.prog 43 #[.slice a1 l.length c1, .slice a2 ms.length c2] w fun e w' => ∃ a c, e = .returned (.tuple #[.slice a (pallL l ms).length c, .int .i64 (pallE l ms)]) ∧ Reads .u8 w' a c (pallL l ms) ∧ w'.ownsRow w.heap.size 5 1 (.slice a (pallL l ms).length c) (pallL l ms).length ((pallL l ms).map (Value.int .u8)) ∧ Below w.heap.size w w' := by
  by_cases hn : l.length = ms.length
  case neg =>
    obtain ⟨e1, e2⟩ := pa_odd hn
    go_enter Try.func43, Try.ntmps43
    go_wp2
    go_ret2
    rw [e1, e2]
    exact ⟨none, 0, rfl, Reads.none _ _, World.ownsRow_nil _ _ _ _, Below.refl _ _⟩
  obtain ⟨B, hB⟩ : ∃ B, w.heap.size = B := ⟨_, rfl⟩
  obtain ⟨N, hN⟩ : ∃ N, N = l.length := ⟨_, rfl⟩
  have hN2 : ms.length = N := by omega
  rw [hN2, ← hN]
  rw [← hN] at hl
  have HN : Hid (N = l.length) := hN
  have HN2 : Hid (ms.length = N) := hN2
  clear hn hN hN2
  go_enter Try.func43, Try.ntmps43
  go_wp2
  go_loopw [6, 18] (fun v i wr => ∃ k : Nat, k ≤ N ∧ i = .int .i64 k ∧ wr.ownsRow B 5 1 v (paL (l.take k) (ms.take k)).length ((paL (l.take k) (ms.take k)).map (Value.int .u8)) ∧ paE (l.take k) (ms.take k) = 0 ∧ Below B w wr) (fun _ i _ => N - (intOf i).toNat)
  case atStart => exact ⟨0, Nat.zero_le _, rfl, World.ownsRow_nil _ _ _ _, rfl, Below.refl _ _⟩
  case round =>
    obtain ⟨k, hk, rfl, hown, he, hbel⟩ := hrel
    have HE : Hid (paE (l.take k) (ms.take k) = 0) := he
    clear he
    have hsz : B ≤ wr.heap.size := by have := hbel.size; omega
    by_cases hlt : k < N
    · have h1 : k < l.length := by have := HN.out; omega
      have h2 : k < ms.length := by have := HN2.out; omega
      have hbel' : Below w.heap.size w wr := hB ▸ hbel
      obtain ⟨b1, o1, rfl, hb1, hc1⟩ := (R1.later hbel').cells (by intro h; subst h; simp at h1)
      obtain ⟨b2, o2, rfl, hb2, hc2⟩ := (R2.later hbel').cells (by intro h; subst h; simp at h2)
      obtain ⟨n, hn⟩ : ∃ n, n = l[k] := ⟨_, rfl⟩
      obtain ⟨m, hm⟩ : ∃ m, m = ms[k] := ⟨_, rfl⟩
      have x1 := cell_el hc1 h1
      have x2 := cell_el hc2 h2
      rw [← hn] at x1
      rw [← hm] at x2
      have hlen : (paL (l.take k) (ms.take k)).length ≤ 4000 := by have := paL_len (l.take k) (ms.take k); simp at this; omega
      have hlen2 := putL_len_le n m
      by_cases hp : putE n m = 0
      · have HS : Hid (paE (l.take (k + 1)) (ms.take (k + 1)) = 0 ∧ paL (l.take (k + 1)) (ms.take (k + 1)) = paL (l.take k) (ms.take k) ++ putL n m) := by
          rw [hn, hm]; exact pa_step h1 h2 HE.out (by rw [← hn, ← hm]; exact hp)
        clear hn hm hc1 hc2
        go_wp2_with (first | (go_at_call 40; refine (put_any _ _ _).mono ?_; rintro e w1 ⟨a3, c3, rfl, X, hb3⟩; have hown1 := own_later hown hb3) | (at_builtin; refine wpList_join rfl (.tmp 35) (.tmp 36) 48 rfl B 5 1 Try.underlying48 info8 rfl hown1 rfl X rfl (by omega) (by omega) (by have := hb3.size; omega) ?_; intro v4 w4 hown4 hgrow4))
        go_roundw
        case rel =>
          refine ⟨k + 1, by omega, by go_num, ?_, HS.out.1, below_grow (hbel.trans (hb3.mono hsz)) hown1 hgrow4 (by have := hb3.size; omega)⟩
          rw [HS.out.2, List.length_append]
          exact hown4
        case measure => simp [intOf]; omega
      · have hp1 : putE n m = 1 := by rcases putE_01 n m with h | h; exact absurd h hp; exact h
        have HS : Hid (pallE l ms = 1 ∧ pallL l ms = []) := pa_stop h1 h2 (by rw [← HN.out, HN2.out]) HE.out (by rw [← hn, ← hm]; exact hp1)
        clear hn hm hc1 hc2 hp
        go_wp2_with (go_at_call 40; refine (put_any _ _ _).mono ?_; rintro e w1 ⟨a3, c3, rfl, X, hb3⟩)
        go_ret2
        rw [HS.out.1, HS.out.2]
        exact ⟨none, 0, rfl, Reads.none _ _, World.ownsRow_nil _ _ _ _, below_step hbel' hb3⟩
    · have hkN : k = N := by omega
      have HS : Hid (pallE l ms = 0 ∧ pallL l ms = paL l ms) := by
        refine pa_end (by rw [← HN.out, HN2.out]) ?_
        have := HE.out
        rwa [List.take_of_length_le (by rw [← HN.out]; omega), List.take_of_length_le (by rw [HN2.out]; omega)] at this
      rw [List.take_of_length_le (show l.length ≤ k by rw [← HN.out]; omega), List.take_of_length_le (show ms.length ≤ k by rw [HN2.out]; omega)] at hown
      obtain ⟨a, c, rfl, X, _⟩ := reads_of_owns hown (u8_wf (paL_oct _ _))
      clear hkN
      go_wp2
      go_ret2
      rw [HS.out.1, HS.out.2]
      exact ⟨a, c, rfl, X, hB ▸ hown, hB ▸ hbel⟩
theorem putAll_any (w : World) {a1 a2 : Option Addr} {c1 c2 : Nat} {l ms : List Int} (R1 : Reads .i64 w a1 c1 l) (R2 : Reads .i64 w a2 c2 ms) (hl : l.length ≤ 1000) :
    Calls Try.prog 43 #[.slice a1 l.length c1, .slice a2 ms.length c2] w fun e w' => ∃ a c, e = .returned (.tuple #[.slice a (pallL l ms).length c, .int .i64 (pallE l ms)]) ∧ Reads .u8 w' a c (pallL l ms) ∧ Below w.heap.size w w' :=
  (putAll_own w R1 R2 hl).mono fun _ _ ⟨a, c, h1, h2, _, h3⟩ => ⟨a, c, h1, h2, h3⟩
end Go.Proofs.Ytinmhjgnapbkmaa

/-! What GetAll of package octets answers, for all lists: the contract that the claims on its statements rest on. -/
namespace Go.Proofs.Ytinmhjgnapbkmaa
open Go.ChangeShapes Go.WideShapes Go.ChangeAt Go.RowKit O
set_option linter.unusedVariables false
set_option linter.unusedSimpArgs false

theorem ga_wf {b : List Int} (h : Oct b) (ms : List Int) : ∀ z ∈ gaL b ms, (Lit.int .i64 z).wf = true := fun z hz => by
  have := gaL_bd h ms z hz
  exact wf_i64_mk (by omega) (by omega)
theorem ret3 {P : Program} {a b : Option Addr} {n m c d : Nat} {k l e f : Int} (h1 : a = b) (h2 : n = m) (h3 : c = d) (h4 : k = l) (h5 : e = f) : Ending.returned (.tuple #[.slice a n c, .int .i64 k, .int .i64 e]) = .returned (.tuple #[.slice b m d, .int .i64 l, .int .i64 f]) := by rw [h1, h2, h3, h4, h5]

theorem putAll_at (w : World) {a1 a2 : Option Addr} {c1 c2 n1 n2 : Nat} {l ms : List Int} (R1 : Reads .i64 w a1 c1 l) (R2 : Reads .i64 w a2 c2 ms) (h1 : l.length = n1) (h2 : ms.length = n2) (hl : l.length ≤ 1000) :
    Calls Try.prog 43 #[.slice a1 n1 c1, .slice a2 n2 c2] w fun e w' => ∃ a c, e = .returned (.tuple #[.slice a (pallL l ms).length c, .int .i64 (pallE l ms)]) ∧ Reads .u8 w' a c (pallL l ms) ∧ Below w.heap.size w w' := by
  subst h1 h2
  exact putAll_any w R1 R2 hl
end Go.Proofs.Ytinmhjgnapbkmaa
