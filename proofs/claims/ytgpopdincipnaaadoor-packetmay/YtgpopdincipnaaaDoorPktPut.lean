/- What Put of package packet answers, for all packets: the contract that the claims on its statements rest on. -/
import Derived.Test.YtgpopdincipnaaaDoorPktWalks
namespace Go.Proofs.YtgpopdincipnaaaDoor
open Go.ChangeShapes Go.WideShapes Go.ChangeAt Go.RowKit O
set_option linter.unusedVariables false
set_option linter.unusedSimpArgs false

theorem putAll_pk {i s d t g : Int} (hk : okPk i s d t g = true) (w : World) {a1 a2 : Option Addr} {c1 c2 : Nat} (R1 : Reads .i64 w a1 c1 [i, s, d, t, g]) (R2 : Reads .i64 w a2 c2 [4, 4, 4, 2, 2]) :
    Calls Tryd.prog 16 #[.slice a1 5 c1, .slice a2 5 c2] w fun e w' => ∃ a c, e = .returned (.tuple #[.slice a 16 c, .int .i64 0]) ∧ Reads .u8 w' a c (bodyL i s d t g) ∧ w'.ownsRow w.heap.size 5 1 (.slice a 16 c) 16 ((bodyL i s d t g).map (Value.int .u8)) ∧ Below w.heap.size w w' := by
  have h := putAll_own w R1 R2 (by simp)
  have e : pallL [i, s, d, t, g] [4, 4, 4, 2, 2] = bodyL i s d t g := rfl
  rw [(body_ok hk).1, e, body_len hk] at h
  exact h
theorem put_sum (l : List Int) (h : Oct l) (w : World) :
    Calls Tryd.prog 19 #[.int .i64 (sumN l), .int .i64 2] w fun e w' => ∃ a c, e = .returned (.tuple #[.slice a 2 c, .int .i64 0]) ∧ Reads .u8 w' a c (putL (sumN l) 2) ∧ Below w.heap.size w w' := by
  have h1 := put_any (sumN l) 2 w
  rw [putL_len (ok_sum h), putE_yes (ok_sum h)] at h1
  exact h1
set_option maxHeartbeats 2000000 in
theorem pput_any (i s d t g : Int) (hw : W5 i s d t g) (w : World) (T : Tab w) :
    Calls Tryd.prog 10 #[.agg #[.int .i64 i, .int .i64 s, .int .i64 d, .int .i64 t, .int .i64 g]] w fun e w' => ∃ a c, e = .returned (.tuple #[.slice a (pputL i s d t g).length c, .int .i64 (pputE i s d t g)]) ∧ Reads .u8 w' a c (pputL i s d t g) ∧ Below w.heap.size w w' := by
  have X := Box.new w i s d t g
  have hb0 := below_new w (.cells #[.int .i64 i, .int .i64 s, .int .i64 d, .int .i64 t, .int .i64 g] 23)
  have T0 := T.later hb0
  cases hk : okPk i s d t g
  · obtain ⟨e1, e2⟩ := pput_no hk
    rw [e1, e2]
    go_enter Tryd.func10, Tryd.ntmps10
    go_wp2_with (go_at_call 15; refine (may_any i s d t g hw _ T0).mono ?_; rintro e w1 ⟨rfl, hb⟩)
    go_ret2
    exact ⟨none, 0, rfl, Reads.none _ _, below_step hb0 hb⟩
  · obtain ⟨e1, e2⟩ := pput_yes hk
    rw [e1, e2]
    have hl := body_len hk
    have ho := body_oct i s d t g
    go_enter Tryd.func10, Tryd.ntmps10
    go_wp2_with (go_at_call 15; refine (may_any i s d t g hw _ T0).mono ?_; rintro e w1 ⟨rfl, hb1⟩; obtain ⟨_, c0, c1, c2, c3, c4, _⟩ := X.later hb1)
    refine (numbers_any i s d t g hw _).mono ?_
    rintro e w2 ⟨a2, k2, rfl, R2, hb2⟩
    have T2 := (T0.later hb1).later hb2
    go_wp2_with fail
    refine (widths_any _ T2).mono ?_
    rintro e w3 ⟨a3, k3, rfl, R3, _, hb3⟩
    go_wp2_with fail
    refine (putAll_pk hk _ (R2.later hb3) R3).mono ?_
    rintro e w4 ⟨a4, k4, rfl, R4, own4, hb4⟩
    go_wp2_with fail
    refine (sum_at _ R4 hl (by omega)).mono ?_
    rintro e w' ⟨rfl, rfl⟩
    go_wp2_with fail
    refine (put_sum _ ho _).mono ?_
    rintro e w5 ⟨a5, k5, rfl, R5, hb5⟩
    have own5 := own_later own4 hb5
    have hB3 := hb4.size
    have hB4 := hb5.size
    have hl5 : (putL (sumN (bodyL i s d t g)) 2).length = 2 := putL_len (ok_sum ho)
    go_wp2_with (at_builtin; refine wpList_join rfl (.tmp 29) (.tmp 30) 24 rfl w3.heap.size 5 1 Tryd.underlying24 info8 rfl own5 rfl R5 hl5 (by omega) (by omega) (by omega) ?_; intro v6 w6 own6 hgrow6)
    obtain ⟨a6, k6, rfl, R6, _⟩ := reads_of_owns own6 (u8_wf (oct_append ho (putL_bd _ _)))
    go_ret2
    have hb3' : Below w.heap.size w w3 := below_step (below_step (below_step hb0 hb1) hb2) hb3
    exact ⟨a6, k6, rfl, R6, below_grow (below_step (below_step hb3' hb4) hb5) (own_mono own5 hb3'.size) hgrow6 (by have := hb3'.size; omega)⟩
end Go.Proofs.YtgpopdincipnaaaDoor
