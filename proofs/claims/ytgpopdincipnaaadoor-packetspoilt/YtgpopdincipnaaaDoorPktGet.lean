/- What Get of package packet answers, for all bytes: the contract that the claims on its statements rest on. -/
import Derived.Test.YtgpopdincipnaaaDoorPktPut
namespace Go.Proofs.YtgpopdincipnaaaDoor
open Go.ChangeShapes Go.WideShapes Go.ChangeAt Go.RowKit O
set_option linter.unusedVariables false
set_option linter.unusedSimpArgs false

/-- a packet and an error, returned -/
theorem ret_pk {i s d t g e i' s' d' t' g' e' : Int} (h0 : i = i') (h1 : s = s') (h2 : d = d') (h3 : t = t') (h4 : g = g') (h5 : e = e') :
    Ending.returned (.tuple #[.agg #[.int .i64 i, .int .i64 s, .int .i64 d, .int .i64 t, .int .i64 g], .int .i64 e]) = .returned (.tuple #[.agg #[.int .i64 i', .int .i64 s', .int .i64 d', .int .i64 t', .int .i64 g'], .int .i64 e']) := by
  rw [h0, h1, h2, h3, h4, h5]
theorem ret_none {b : List Int} {e : Int} (h : pgE b = e) (h0 : e ≠ 0) :
    Ending.returned (.tuple #[.agg #[.int .i64 0, .int .i64 0, .int .i64 0, .int .i64 0, .int .i64 0], .int .i64 e]) = .returned (.tuple #[.agg #[.int .i64 (pgF b 0 4), .int .i64 (pgF b 4 4), .int .i64 (pgF b 8 4), .int .i64 (pgF b 12 2), .int .i64 (pgF b 14 2)], .int .i64 (pgE b)]) := by
  have hn : pgE b ≠ 0 := by rw [h]; exact h0
  exact ret_pk (pgF_no hn _ _).symm (pgF_no hn _ _).symm (pgF_no hn _ _).symm (pgF_no hn _ _).symm (pgF_no hn _ _).symm h.symm
/-- five cells of a block of the call's own, laid anew -/
theorem below_lay {B b : Nat} {w0 w : World} (x0 x1 x2 x3 x4 : Value) (hb : Below B w0 w) (hg : B ≤ b) : Below B w0 (((((w.setCell ⟨b, 0, none⟩ x0).setCell ⟨b, 1, none⟩ x1).setCell ⟨b, 2, none⟩ x2).setCell ⟨b, 3, none⟩ x3).setCell ⟨b, 4, none⟩ x4) :=
  ((((hb.setCell (p := ⟨b, 0, none⟩) hg _).setCell (p := ⟨b, 1, none⟩) hg _).setCell (p := ⟨b, 2, none⟩) hg _).setCell (p := ⟨b, 3, none⟩) hg _).setCell (p := ⟨b, 4, none⟩) hg _

theorem getAll6 (w : World) {a1 a2 : Option Addr} {c1 c2 : Nat} {b : List Int} (R1 : Reads .u8 w a1 c1 b) (R2 : Reads .i64 w a2 c2 [4, 4, 4, 2, 2, 2]) (hb : b.length ≤ 100000) :
    Calls Tryd.prog 24 #[.slice a1 b.length c1, .slice a2 6 c2] w fun e w' => ∃ a c, e = .returned (.tuple #[.slice a (gallL b [4, 4, 4, 2, 2, 2]).length c, .int .i64 (gallK b [4, 4, 4, 2, 2, 2]), .int .i64 (gaE b [4, 4, 4, 2, 2, 2])]) ∧ Reads .i64 w' a c (gallL b [4, 4, 4, 2, 2, 2]) ∧ Below w.heap.size w w' :=
  getAll_at w R1 R2 rfl rfl (by simp) hb
theorem six {w : World} {B : Nat} {v : Value} (h : w.ownsRow B 3 1 v (5 + 1) (([4, 4, 4, 2, 2] ++ [2] : List Int).map (Value.int .i64))) : ∃ a c, v = .slice a 6 c ∧ Reads .i64 w a c [4, 4, 4, 2, 2, 2] := by
  obtain ⟨a, c, e, R, _⟩ := reads_of_owns (k := .i64) (l := [4, 4, 4, 2, 2, 2]) h (by decide)
  exact ⟨a, c, e, R⟩
theorem reads_at {k : IntKind} {w : World} {a : Option Addr} {c : Nat} {l : List Int} (R : Reads k w a c l) (h : l ≠ []) : ∃ b o, a = some ⟨b, o, none⟩ ∧ b < w.heap.size ∧ ∀ i x, l[i]? = some x → w.cell? ⟨b, o + i, none⟩ = some (.int k x) := by
  obtain ⟨b, o, e, hlt, hc⟩ := R.cells h
  refine ⟨b, o, e, hlt, fun i x hx => ?_⟩
  obtain ⟨hi, he⟩ := List.getElem?_eq_some_iff.1 hx
  rw [hc i hi, getD_el hi, he]
theorem wf5 {b : List Int} (h : Oct b) : W5 (getN b 4) (getN (b.drop 4) 4) (getN (b.drop 8) 4) (getN (b.drop 12) 2) (getN (b.drop 14) 2) := by
  intro z hz
  have h0 := got_wf h 0 4
  have h1 := got_wf h 4 4
  have h2 := got_wf h 8 4
  have h3 := got_wf h 12 2
  have h4 := got_wf h 14 2
  simp only [List.drop_zero] at h0
  simp only [List.mem_cons, List.not_mem_nil, or_false] at hz
  rcases hz with rfl | rfl | rfl | rfl | rfl <;> exact wf_i64_mk (by omega) (by omega)

set_option maxHeartbeats 2000000 in
theorem pget_short (w : World) {a : Option Addr} {c : Nat} {b : List Int} (R : Reads .u8 w a c b) (hl : b.length ≤ 100000) (T : Tab w) (hs : b.length < 18) :
    Calls Tryd.prog 12 #[.slice a b.length c] w fun e w' => e = .returned (.tuple #[.agg #[.int .i64 0, .int .i64 0, .int .i64 0, .int .i64 0, .int .i64 0], .int .i64 3]) ∧ Below w.heap.size w w' := by
  have hE := all6_short hs
  have hL := (ga_bad (b := b) (ms := [4, 4, 4, 2, 2, 2]) (by rw [hE]; decide)).1
  have hK := (ga_bad (b := b) (ms := [4, 4, 4, 2, 2, 2]) (by rw [hE]; decide)).2
  have X := Box.new w 0 0 0 0 0
  have hb0 := below_new w (.cells #[.int .i64 0, .int .i64 0, .int .i64 0, .int .i64 0, .int .i64 0] 23)
  have T0 := T.later hb0
  have hmx := Nat.le_trans R.le R.max
  unfold maxLen at hmx
  go_enter Tryd.func12, Tryd.ntmps12
  go_wp2_with (first | (go_at_call 18; refine (widths_any _ T0).mono ?_; rintro e w1 ⟨a1, k1, rfl, R1, own1, hb1⟩) | (at_builtin; refine wpList_one _ 2 3 rfl rfl (.tmp 10) (.tmp 11) 38 rfl _ 8 Tryd.underlying38 info64 rfl own1 rfl (by omega) (by omega) hb1.size ?_; intro v2 w2 own2 hgrow2; obtain ⟨a2, k2, rfl, R2⟩ := six own2))
  have hb2 := below_grow (below_step hb1 (below_new w1 (.cells #[.int .i64 2] 3))) (own1.alloc _) hgrow2 (Nat.le_trans hb1.size (below_new w1 (.cells #[.int .i64 2] 3)).size)
  have RR := (R.later hb0).later hb2
  have X2 := X.later hb2
  have T2 := T0.later hb2
  have hbw := below_step hb0 hb2
  refine (getAll6 _ RR R2 hl).mono ?_
  rintro e w3 ⟨a3, k3, rfl, R3, hb3⟩
  have RR3 := RR.later hb3
  have X3 := X2.later hb3
  have T3 := T2.later hb3
  have hbw3 := below_step hbw hb3
  clear hgrow2 own1 own2 hb1 R1 hb2 hb0 T0 X hb3 hbw X2 T2 RR R2
  obtain ⟨xl, x0, x1, x2, x3, x4, xf⟩ := X3
  rw [hL, hK, hE]
  clear R3 hE hL hK
  go_wp2_with fail
  refine bodyPost_ret (v := .tuple #[.agg #[.int .i64 0, .int .i64 0, .int .i64 0, .int .i64 0, .int .i64 0], .int .i64 3]) (by simp [results, Tryd.results12, go_sem, x0, x1, x2, x3, x4]) rfl ?_
  exact ⟨rfl, below_lay _ _ _ _ _ hbw3 (Nat.le_refl _)⟩
set_option maxHeartbeats 2000000 in
theorem pget_long (w : World) {a : Option Addr} {c : Nat} {b : List Int} (R : Reads .u8 w a c b) (hl : b.length ≤ 100000) (T : Tab w) (hg : 18 < b.length) :
    Calls Tryd.prog 12 #[.slice a b.length c] w fun e w' => e = .returned (.tuple #[.agg #[.int .i64 0, .int .i64 0, .int .i64 0, .int .i64 0, .int .i64 0], .int .i64 2]) ∧ Below w.heap.size w w' := by
  obtain ⟨hE, hK⟩ := all6_long (show 18 ≤ b.length by omega)
  have X := Box.new w 0 0 0 0 0
  have hb0 := below_new w (.cells #[.int .i64 0, .int .i64 0, .int .i64 0, .int .i64 0, .int .i64 0] 23)
  have T0 := T.later hb0
  have hmx := Nat.le_trans R.le R.max
  unfold maxLen at hmx
  go_enter Tryd.func12, Tryd.ntmps12
  go_wp2_with (first | (go_at_call 18; refine (widths_any _ T0).mono ?_; rintro e w1 ⟨a1, k1, rfl, R1, own1, hb1⟩) | (at_builtin; refine wpList_one _ 2 3 rfl rfl (.tmp 10) (.tmp 11) 38 rfl _ 8 Tryd.underlying38 info64 rfl own1 rfl (by omega) (by omega) hb1.size ?_; intro v2 w2 own2 hgrow2; obtain ⟨a2, k2, rfl, R2⟩ := six own2))
  have hb2 := below_grow (below_step hb1 (below_new w1 (.cells #[.int .i64 2] 3))) (own1.alloc _) hgrow2 (Nat.le_trans hb1.size (below_new w1 (.cells #[.int .i64 2] 3)).size)
  have RR := (R.later hb0).later hb2
  have X2 := X.later hb2
  have T2 := T0.later hb2
  have hbw := below_step hb0 hb2
  refine (getAll6 _ RR R2 hl).mono ?_
  rintro e w3 ⟨a3, k3, rfl, R3, hb3⟩
  have RR3 := RR.later hb3
  have X3 := X2.later hb3
  have T3 := T2.later hb3
  have hbw3 := below_step hbw hb3
  clear hgrow2 own1 own2 hb1 R1 hb2 hb0 T0 X hb3 hbw X2 T2 RR R2
  obtain ⟨xl, x0, x1, x2, x3, x4, xf⟩ := X3
  rw [hK, hE]
  clear R3 hE hK
  go_wp2_with fail
  refine bodyPost_ret (v := .tuple #[.agg #[.int .i64 0, .int .i64 0, .int .i64 0, .int .i64 0, .int .i64 0], .int .i64 2]) (by simp [results, Tryd.results12, go_sem, x0, x1, x2, x3, x4]) rfl ?_
  exact ⟨rfl, below_lay _ _ _ _ _ hbw3 (Nat.le_refl _)⟩
set_option maxHeartbeats 2000000 in
theorem pget_sum (w : World) {a : Option Addr} {c : Nat} {b : List Int} (R : Reads .u8 w a c b) (hl : b.length ≤ 100000) (T : Tab w) (HE : Hid (b.length = 18)) (hz : sumN b ≠ 0) :
    Calls Tryd.prog 12 #[.slice a b.length c] w fun e w' => e = .returned (.tuple #[.agg #[.int .i64 0, .int .i64 0, .int .i64 0, .int .i64 0, .int .i64 0], .int .i64 4]) ∧ Below w.heap.size w w' := by
  obtain ⟨hE, hL, hK⟩ := all6 HE.out
  have X := Box.new w 0 0 0 0 0
  have hb0 := below_new w (.cells #[.int .i64 0, .int .i64 0, .int .i64 0, .int .i64 0, .int .i64 0] 23)
  have T0 := T.later hb0
  have hmx := Nat.le_trans R.le R.max
  unfold maxLen at hmx
  go_enter Tryd.func12, Tryd.ntmps12
  go_wp2_with (first | (go_at_call 18; refine (widths_any _ T0).mono ?_; rintro e w1 ⟨a1, k1, rfl, R1, own1, hb1⟩) | (at_builtin; refine wpList_one _ 2 3 rfl rfl (.tmp 10) (.tmp 11) 38 rfl _ 8 Tryd.underlying38 info64 rfl own1 rfl (by omega) (by omega) hb1.size ?_; intro v2 w2 own2 hgrow2; obtain ⟨a2, k2, rfl, R2⟩ := six own2))
  have hb2 := below_grow (below_step hb1 (below_new w1 (.cells #[.int .i64 2] 3))) (own1.alloc _) hgrow2 (Nat.le_trans hb1.size (below_new w1 (.cells #[.int .i64 2] 3)).size)
  have RR := (R.later hb0).later hb2
  have X2 := X.later hb2
  have T2 := T0.later hb2
  have hbw := below_step hb0 hb2
  refine (getAll6 _ RR R2 hl).mono ?_
  rintro e w3 ⟨a3, k3, rfl, R3, hb3⟩
  have RR3 := RR.later hb3
  have X3 := X2.later hb3
  have T3 := T2.later hb3
  have hbw3 := below_step hbw hb3
  clear hgrow2 own1 own2 hb1 R1 hb2 hb0 T0 X hb3 hbw X2 T2 RR R2
  obtain ⟨xl, x0, x1, x2, x3, x4, xf⟩ := X3
  rw [hL, hK, hE, HE.out]
  clear R3 hE hK hL
  go_wp2_with fail
  refine (sum_at _ RR3 HE.out (by rw [HE.out]; decide)).mono ?_
  rintro e w' ⟨rfl, rfl⟩
  go_wp2_with fail
  refine bodyPost_ret (v := .tuple #[.agg #[.int .i64 0, .int .i64 0, .int .i64 0, .int .i64 0, .int .i64 0], .int .i64 4]) (by simp [results, Tryd.results12, go_sem, x0, x1, x2, x3, x4]) rfl ?_
  exact ⟨rfl, below_lay _ _ _ _ _ hbw3 (Nat.le_refl _)⟩
set_option maxHeartbeats 2000000 in
theorem pget_form (w : World) {a : Option Addr} {c : Nat} {b : List Int} (R : Reads .u8 w a c b) (hl : b.length ≤ 100000) (T : Tab w) (HE : Hid (b.length = 18)) (hz : sumN b = 0) {n0 n1 n2 n3 n4 n5 : Int} (HL : Hid (gallL b [4, 4, 4, 2, 2, 2] = [n0, n1, n2, n3, n4, n5])) (h5 : W5 n0 n1 n2 n3 n4) (hk : okPk n0 n1 n2 n3 n4 = false) :
    Calls Tryd.prog 12 #[.slice a b.length c] w fun e w' => e = .returned (.tuple #[.agg #[.int .i64 0, .int .i64 0, .int .i64 0, .int .i64 0, .int .i64 0], .int .i64 2]) ∧ Below w.heap.size w w' := by
  obtain ⟨hE, _, hK⟩ := all6 HE.out
  have X := Box.new w 0 0 0 0 0
  have hb0 := below_new w (.cells #[.int .i64 0, .int .i64 0, .int .i64 0, .int .i64 0, .int .i64 0] 23)
  have T0 := T.later hb0
  have hmx := Nat.le_trans R.le R.max
  unfold maxLen at hmx
  go_enter Tryd.func12, Tryd.ntmps12
  go_wp2_with (first | (go_at_call 18; refine (widths_any _ T0).mono ?_; rintro e w1 ⟨a1, k1, rfl, R1, own1, hb1⟩) | (at_builtin; refine wpList_one _ 2 3 rfl rfl (.tmp 10) (.tmp 11) 38 rfl _ 8 Tryd.underlying38 info64 rfl own1 rfl (by omega) (by omega) hb1.size ?_; intro v2 w2 own2 hgrow2; obtain ⟨a2, k2, rfl, R2⟩ := six own2))
  have hb2 := below_grow (below_step hb1 (below_new w1 (.cells #[.int .i64 2] 3))) (own1.alloc _) hgrow2 (Nat.le_trans hb1.size (below_new w1 (.cells #[.int .i64 2] 3)).size)
  have RR := (R.later hb0).later hb2
  have X2 := X.later hb2
  have T2 := T0.later hb2
  have hbw := below_step hb0 hb2
  refine (getAll6 _ RR R2 hl).mono ?_
  rintro e w3 ⟨a3, k3, rfl, R3, hb3⟩
  have RR3 := RR.later hb3
  have X3 := X2.later hb3
  have T3 := T2.later hb3
  have hbw3 := below_step hbw hb3
  clear hgrow2 own1 own2 hb1 R1 hb2 hb0 T0 X hb3 hbw X2 T2 RR R2
  rw [HL.out] at R3
  rw [HL.out, hK, hE, HE.out]
  clear hE hK
  obtain ⟨b3, o3, rfl, lt3, hc⟩ := reads_at R3 (by simp)
  have y0 := hc 0 n0 rfl
  have y1 := hc 1 n1 rfl
  have y2 := hc 2 n2 rfl
  have y3 := hc 3 n3 rfl
  have y4 := hc 4 n4 rfl
  rw [Nat.add_zero] at y0
  have hbz := below_new w3 (.cells #[.int .i64 0, .int .i64 0, .int .i64 0, .int .i64 0, .int .i64 0] 23)
  have z0 := (hbz.cell (p := ⟨b3, o3, none⟩) lt3).trans y0
  have z1 := (hbz.cell (p := ⟨b3, o3 + 1, none⟩) lt3).trans y1
  have z2 := (hbz.cell (p := ⟨b3, o3 + 2, none⟩) lt3).trans y2
  have z3 := (hbz.cell (p := ⟨b3, o3 + 3, none⟩) lt3).trans y3
  have z4 := (hbz.cell (p := ⟨b3, o3 + 4, none⟩) lt3).trans y4
  clear hc hbz R3
  go_wp2_with fail
  refine (sum_at _ RR3 HE.out (by rw [HE.out]; decide)).mono ?_
  rintro e w' ⟨rfl, rfl⟩
  go_wp2_with fail
  go_region
  have hb4 : Below w'.heap.size w' (w'.alloc (.cells #[.int .i64 n0, .int .i64 n1, .int .i64 n2, .int .i64 n3, .int .i64 n4] 23)).drew := (below_new w' _).drew
  have Y4 : Box (w'.alloc (.cells #[.int .i64 n0, .int .i64 n1, .int .i64 n2, .int .i64 n3, .int .i64 n4] 23)).drew w'.heap.size n0 n1 n2 n3 n4 := (Box.new w' n0 n1 n2 n3 n4).later (Below.refl _ _).drew
  have T4 := T3.later hb4
  have X4 := X3.later hb4
  have hbw4 := below_step hbw3 hb4
  clear y0 y1 y2 y3 y4 z0 z1 z2 z3 z4
  go_wp2_with (go_at_call 15; refine (may_any n0 n1 n2 n3 n4 h5 _ T4).mono ?_; rintro e w5 ⟨rfl, hb5⟩; obtain ⟨_, x0, x1, x2, x3, x4, xf⟩ := X4.later hb5)
  refine bodyPost_ret (v := .tuple #[.agg #[.int .i64 0, .int .i64 0, .int .i64 0, .int .i64 0, .int .i64 0], .int .i64 2]) (by simp [results, Tryd.results12, go_sem, x0, x1, x2, x3, x4]) rfl ?_
  exact ⟨rfl, below_lay _ _ _ _ _ (below_step hbw4 hb5) (Nat.le_refl _)⟩
set_option maxHeartbeats 2000000 in
theorem pget_ok (w : World) {a : Option Addr} {c : Nat} {b : List Int} (R : Reads .u8 w a c b) (hl : b.length ≤ 100000) (T : Tab w) (HE : Hid (b.length = 18)) (hz : sumN b = 0) {n0 n1 n2 n3 n4 n5 : Int} (HL : Hid (gallL b [4, 4, 4, 2, 2, 2] = [n0, n1, n2, n3, n4, n5])) (h5 : W5 n0 n1 n2 n3 n4) (hk : okPk n0 n1 n2 n3 n4 = true) :
    Calls Tryd.prog 12 #[.slice a b.length c] w fun e w' => e = .returned (.tuple #[.agg #[.int .i64 n0, .int .i64 n1, .int .i64 n2, .int .i64 n3, .int .i64 n4], .int .i64 0]) ∧ Below w.heap.size w w' := by
  obtain ⟨hE, _, hK⟩ := all6 HE.out
  have X := Box.new w 0 0 0 0 0
  have hb0 := below_new w (.cells #[.int .i64 0, .int .i64 0, .int .i64 0, .int .i64 0, .int .i64 0] 23)
  have T0 := T.later hb0
  have hmx := Nat.le_trans R.le R.max
  unfold maxLen at hmx
  go_enter Tryd.func12, Tryd.ntmps12
  go_wp2_with (first | (go_at_call 18; refine (widths_any _ T0).mono ?_; rintro e w1 ⟨a1, k1, rfl, R1, own1, hb1⟩) | (at_builtin; refine wpList_one _ 2 3 rfl rfl (.tmp 10) (.tmp 11) 38 rfl _ 8 Tryd.underlying38 info64 rfl own1 rfl (by omega) (by omega) hb1.size ?_; intro v2 w2 own2 hgrow2; obtain ⟨a2, k2, rfl, R2⟩ := six own2))
  have hb2 := below_grow (below_step hb1 (below_new w1 (.cells #[.int .i64 2] 3))) (own1.alloc _) hgrow2 (Nat.le_trans hb1.size (below_new w1 (.cells #[.int .i64 2] 3)).size)
  have RR := (R.later hb0).later hb2
  have X2 := X.later hb2
  have T2 := T0.later hb2
  have hbw := below_step hb0 hb2
  refine (getAll6 _ RR R2 hl).mono ?_
  rintro e w3 ⟨a3, k3, rfl, R3, hb3⟩
  have RR3 := RR.later hb3
  have X3 := X2.later hb3
  have T3 := T2.later hb3
  have hbw3 := below_step hbw hb3
  clear hgrow2 own1 own2 hb1 R1 hb2 hb0 T0 X hb3 hbw X2 T2 RR R2
  rw [HL.out] at R3
  rw [HL.out, hK, hE, HE.out]
  clear hE hK
  obtain ⟨b3, o3, rfl, lt3, hc⟩ := reads_at R3 (by simp)
  have y0 := hc 0 n0 rfl
  have y1 := hc 1 n1 rfl
  have y2 := hc 2 n2 rfl
  have y3 := hc 3 n3 rfl
  have y4 := hc 4 n4 rfl
  rw [Nat.add_zero] at y0
  have hbz := below_new w3 (.cells #[.int .i64 0, .int .i64 0, .int .i64 0, .int .i64 0, .int .i64 0] 23)
  have z0 := (hbz.cell (p := ⟨b3, o3, none⟩) lt3).trans y0
  have z1 := (hbz.cell (p := ⟨b3, o3 + 1, none⟩) lt3).trans y1
  have z2 := (hbz.cell (p := ⟨b3, o3 + 2, none⟩) lt3).trans y2
  have z3 := (hbz.cell (p := ⟨b3, o3 + 3, none⟩) lt3).trans y3
  have z4 := (hbz.cell (p := ⟨b3, o3 + 4, none⟩) lt3).trans y4
  clear hc hbz R3
  go_wp2_with fail
  refine (sum_at _ RR3 HE.out (by rw [HE.out]; decide)).mono ?_
  rintro e w' ⟨rfl, rfl⟩
  go_wp2_with fail
  go_region
  have hb4 : Below w'.heap.size w' (w'.alloc (.cells #[.int .i64 n0, .int .i64 n1, .int .i64 n2, .int .i64 n3, .int .i64 n4] 23)).drew := (below_new w' _).drew
  have Y4 : Box (w'.alloc (.cells #[.int .i64 n0, .int .i64 n1, .int .i64 n2, .int .i64 n3, .int .i64 n4] 23)).drew w'.heap.size n0 n1 n2 n3 n4 := (Box.new w' n0 n1 n2 n3 n4).later (Below.refl _ _).drew
  have T4 := T3.later hb4
  have X4 := X3.later hb4
  have hbw4 := below_step hbw3 hb4
  clear y0 y1 y2 y3 y4 z0 z1 z2 z3 z4
  go_wp2_with (go_at_call 15; refine (may_any n0 n1 n2 n3 n4 h5 _ T4).mono ?_; rintro e w5 ⟨rfl, hb5⟩; obtain ⟨_, x0, x1, x2, x3, x4, xf⟩ := X4.later hb5; obtain ⟨_, u0, u1, u2, u3, u4, _⟩ := Y4.later hb5)
  refine bodyPost_ret (v := .tuple #[.agg #[.int .i64 n0, .int .i64 n1, .int .i64 n2, .int .i64 n3, .int .i64 n4], .int .i64 0]) (by simp [results, Tryd.results12, go_sem, x0, x1, x2, x3, x4]) rfl ?_
  exact ⟨rfl, below_lay _ _ _ _ _ (below_step hbw4 hb5) (Nat.le_refl _)⟩
/-- Get, for all bytes -/
theorem pget_any (w : World) {a : Option Addr} {c : Nat} {b : List Int} (R : Reads .u8 w a c b) (hl : b.length ≤ 100000) (T : Tab w) :
    Calls Tryd.prog 12 #[.slice a b.length c] w fun e w' => e = .returned (.tuple #[.agg #[.int .i64 (pgF b 0 4), .int .i64 (pgF b 4 4), .int .i64 (pgF b 8 4), .int .i64 (pgF b 12 2), .int .i64 (pgF b 14 2)], .int .i64 (pgE b)]) ∧ Below w.heap.size w w' := by
  by_cases hs : b.length < 18
  · refine (pget_short w R hl T hs).mono fun e w' ⟨h1, h2⟩ => ⟨h1.trans (ret_none (pgE_short hs) (by decide)), h2⟩
  by_cases hg : 18 < b.length
  · refine (pget_long w R hl T hg).mono fun e w' ⟨h1, h2⟩ => ⟨h1.trans (ret_none (pgE_long hg) (by decide)), h2⟩
  have he : b.length = 18 := by omega
  by_cases hz : sumN b = 0
  case neg => exact (pget_sum w R hl T he hz).mono fun e w' ⟨h1, h2⟩ => ⟨h1.trans (ret_none (pgE_sum he hz) (by decide)), h2⟩
  have hL := (all6 he).2.1
  have h5 := wf5 R.oct
  cases hk : okGot b
  · exact (pget_form w R hl T he hz hL h5 hk).mono fun e w' ⟨h1, h2⟩ => ⟨h1.trans (ret_none (pgE_form he hz hk) (by decide)), h2⟩
  · have HP := pgE_ok he hz hk
    exact (pget_ok w R hl T he hz hL h5 hk).mono fun e w' ⟨h1, h2⟩ => ⟨h1.trans (ret_pk (pgF_ok HP 0 4).symm (pgF_ok HP _ _).symm (pgF_ok HP _ _).symm (pgF_ok HP _ _).symm (pgF_ok HP _ _).symm HP.symm), h2⟩
end Go.Proofs.YtgpopdincipnaaaDoor
