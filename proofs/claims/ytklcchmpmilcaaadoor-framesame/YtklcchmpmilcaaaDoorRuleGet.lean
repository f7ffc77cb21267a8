/- What Get of package rule answers, for all bytes: the contract that the claims on its statements rest on. -/
import Derived.Test.YtklcchmpmilcaaaDoorRulePut
namespace Go.Proofs.YtklcchmpmilcaaaDoor
open Go.ChangeShapes Go.WideShapes Go.ChangeAt Go.RowKit R
set_option linter.unusedVariables false
set_option linter.unusedSimpArgs false

/-- a rule and an error, returned -/
theorem ret_ru {a n i p k t e a' n' i' p' k' t' e' : Int} (h0 : a = a') (h1 : n = n') (h2 : i = i') (h3 : p = p') (h4 : k = k') (h5 : t = t') (h6 : e = e') :
    Ending.returned (.tuple #[.agg #[.int .i64 a, .int .i64 n, .int .i64 i, .int .i64 p, .int .i64 k, .int .i64 t], .int .i64 e]) = .returned (.tuple #[.agg #[.int .i64 a', .int .i64 n', .int .i64 i', .int .i64 p', .int .i64 k', .int .i64 t'], .int .i64 e']) := by
  rw [h0, h1, h2, h3, h4, h5, h6]
theorem ret_none {b : List Int} {e x0 x1 x2 x3 x4 x5 : Int} (h : rgE b = e) (h0 : e ≠ 0) :
    Ending.returned (.tuple #[.agg #[.int .i64 0, .int .i64 0, .int .i64 0, .int .i64 0, .int .i64 0, .int .i64 0], .int .i64 e]) = .returned (.tuple #[.agg #[.int .i64 (rgF b x0), .int .i64 (rgF b x1), .int .i64 (rgF b x2), .int .i64 (rgF b x3), .int .i64 (rgF b x4), .int .i64 (rgF b x5)], .int .i64 (rgE b)]) := by
  have hn : rgE b ≠ 0 := by rw [h]; exact h0
  exact ret_ru (rgF_no hn _).symm (rgF_no hn _).symm (rgF_no hn _).symm (rgF_no hn _).symm (rgF_no hn _).symm (rgF_no hn _).symm h.symm
/-- what is held while the six numbers are read in whatever order -/
theorem keptG {w w' w2 : World} {b3 o3 : Nat} {m0 m1 m2 m3 m4 m5 : Int} (h : Below w.heap.size w w' ∧ b3 < w'.heap.size ∧ w'.cell? ⟨b3, o3, none⟩ = some (.int .i64 m0) ∧ w'.cell? ⟨b3, o3 + 1, none⟩ = some (.int .i64 m1) ∧ w'.cell? ⟨b3, o3 + 2, none⟩ = some (.int .i64 m2) ∧ w'.cell? ⟨b3, o3 + 3, none⟩ = some (.int .i64 m3) ∧ w'.cell? ⟨b3, o3 + 4, none⟩ = some (.int .i64 m4) ∧ w'.cell? ⟨b3, o3 + 5, none⟩ = some (.int .i64 m5)) (hb : Below w'.heap.size w' w2) : Below w.heap.size w w2 ∧ b3 < w2.heap.size ∧ w2.cell? ⟨b3, o3, none⟩ = some (.int .i64 m0) ∧ w2.cell? ⟨b3, o3 + 1, none⟩ = some (.int .i64 m1) ∧ w2.cell? ⟨b3, o3 + 2, none⟩ = some (.int .i64 m2) ∧ w2.cell? ⟨b3, o3 + 3, none⟩ = some (.int .i64 m3) ∧ w2.cell? ⟨b3, o3 + 4, none⟩ = some (.int .i64 m4) ∧ w2.cell? ⟨b3, o3 + 5, none⟩ = some (.int .i64 m5) := by
  obtain ⟨h0, h1, c0, c1, c2, c3, c4, c5⟩ := h
  exact ⟨below_step h0 hb, Nat.lt_of_lt_of_le h1 hb.size, (hb.cell (p := ⟨b3, o3, none⟩) h1).trans c0, (hb.cell (p := ⟨b3, o3 + 1, none⟩) h1).trans c1, (hb.cell (p := ⟨b3, o3 + 2, none⟩) h1).trans c2, (hb.cell (p := ⟨b3, o3 + 3, none⟩) h1).trans c3, (hb.cell (p := ⟨b3, o3 + 4, none⟩) h1).trans c4, (hb.cell (p := ⟨b3, o3 + 5, none⟩) h1).trans c5⟩
/-- six cells of a block of the call's own, laid anew -/
theorem below_lay6 {B b : Nat} {w0 w : World} (x0 x1 x2 x3 x4 x5 : Value) (hb : Below B w0 w) (hg : B ≤ b) : Below B w0 ((((((w.setCell ⟨b, 0, none⟩ x0).setCell ⟨b, 1, none⟩ x1).setCell ⟨b, 2, none⟩ x2).setCell ⟨b, 3, none⟩ x3).setCell ⟨b, 4, none⟩ x4).setCell ⟨b, 5, none⟩ x5) :=
  (((((hb.setCell (p := ⟨b, 0, none⟩) hg _).setCell (p := ⟨b, 1, none⟩) hg _).setCell (p := ⟨b, 2, none⟩) hg _).setCell (p := ⟨b, 3, none⟩) hg _).setCell (p := ⟨b, 4, none⟩) hg _).setCell (p := ⟨b, 5, none⟩) hg _
theorem getAll9 (w : World) {a1 a2 : Option Addr} {c1 c2 : Nat} {b : List Int} (R1 : Reads .u8 w a1 c1 b) (R2 : Reads .i64 w a2 c2 [4, 1, 1, 1, 1, 1]) (hb : b.length ≤ 100000) :
    Calls Tryd.prog 50 #[.slice a1 b.length c1, .slice a2 6 c2] w fun e w' => ∃ a c, e = .returned (.tuple #[.slice a (O.gallL b [4, 1, 1, 1, 1, 1]).length c, .int .i64 (O.gallK b [4, 1, 1, 1, 1, 1]), .int .i64 (O.gaE b [4, 1, 1, 1, 1, 1])]) ∧ Reads .i64 w' a c (O.gallL b [4, 1, 1, 1, 1, 1]) ∧ Below w.heap.size w w' :=
  getAll_at w R1 R2 rfl rfl (by simp) hb
set_option maxHeartbeats 2000000 in
theorem ruGet_short (w : World) {a : Option Addr} {c : Nat} {b : List Int} (R : Reads .u8 w a c b) (hl : b.length ≤ 100000) (hs : b.length < 9) :
    Calls Tryd.prog 51 #[.slice a b.length c] w fun e w' => e = .returned (.tuple #[.agg #[.int .i64 0, .int .i64 0, .int .i64 0, .int .i64 0, .int .i64 0, .int .i64 0], .int .i64 3]) ∧ Below w.heap.size w w' := by
  obtain ⟨hE, hL, hK⟩ := all9_short hs
  have X := Lies.new w [0, 0, 0, 0, 0, 0] 27 rfl
  have hb0 := below_new w (.cells #[.int .i64 0, .int .i64 0, .int .i64 0, .int .i64 0, .int .i64 0, .int .i64 0] 27)
  have hmx := Nat.le_trans R.le R.max
  unfold maxLen at hmx
  go_enter Tryd.func51, Tryd.ntmps51
  go_wp2_with fail
  refine (widths_any _).mono ?_
  rintro e w1 ⟨a1, k1, rfl, R1, hb1⟩
  have RR := (R.later hb0).later hb1
  have X2 := X.later hb1
  have hbw := below_step hb0 hb1
  go_wp2_with fail
  refine (getAll9 _ RR R1 hl).mono ?_
  rintro e w3 ⟨a3, k3, rfl, R3, hb3⟩
  have X3 := X2.later hb3
  have hbw3 := below_step hbw hb3
  clear hb1 R1 hb0 X hb3 hbw X2 RR
  have xl := X3.lt
  have xf := X3.fz
  obtain ⟨x0, x1, x2, x3, x4, x5⟩ := X3.six
  rw [hL, hK, hE]
  clear R3 hE hL hK
  go_wp2_with fail
  refine bodyPost_ret (v := .tuple #[.agg #[.int .i64 0, .int .i64 0, .int .i64 0, .int .i64 0, .int .i64 0, .int .i64 0], .int .i64 3]) (by simp [results, Tryd.results51, go_sem, x0, x1, x2, x3, x4, x5]) rfl ?_
  exact ⟨rfl, below_lay6 _ _ _ _ _ _ hbw3 (Nat.le_refl _)⟩
set_option maxHeartbeats 2000000 in
theorem ruGet_form (w : World) {a : Option Addr} {c : Nat} {b : List Int} (R : Reads .u8 w a c b) (hl : b.length ≤ 100000) {m0 m1 m2 m3 m4 m5 : Int} (HE : Hid (9 ≤ b.length)) (HL : Hid (O.gallL b [4, 1, 1, 1, 1, 1] = [m0, m1, m2, m3, m4, m5])) (h0 : 0 ≤ m2 ∧ m2 < 4294967296) (hk : okR m0 m1 (m2 - 1) m3 m4 m5 = false) :
    Calls Tryd.prog 51 #[.slice a b.length c] w fun e w' => e = .returned (.tuple #[.agg #[.int .i64 0, .int .i64 0, .int .i64 0, .int .i64 0, .int .i64 0, .int .i64 0], .int .i64 2]) ∧ Below w.heap.size w w' := by
  obtain ⟨hE, _, hK⟩ := all9 HE.out
  obtain ⟨h00, h01⟩ := h0
  have X := Lies.new w [0, 0, 0, 0, 0, 0] 27 rfl
  have hb0 := below_new w (.cells #[.int .i64 0, .int .i64 0, .int .i64 0, .int .i64 0, .int .i64 0, .int .i64 0] 27)
  have hmx := Nat.le_trans R.le R.max
  unfold maxLen at hmx
  go_enter Tryd.func51, Tryd.ntmps51
  go_wp2_with fail
  refine (widths_any _).mono ?_
  rintro e w1 ⟨a1, k1, rfl, R1, hb1⟩
  have RR := (R.later hb0).later hb1
  have X2 := X.later hb1
  have hbw := below_step hb0 hb1
  go_wp2_with fail
  refine (getAll9 _ RR R1 hl).mono ?_
  rintro e w3 ⟨a3, k3, rfl, R3, hb3⟩
  have X3 := X2.later hb3
  have hbw3 := below_step hbw hb3
  clear hb1 R1 hb0 X hb3 hbw X2 RR
  rw [HL.out] at R3
  rw [HL.out, hK, hE]
  clear hE hK
  obtain ⟨b3, o3, rfl, lt3, hc⟩ := reads_at R3 (by simp)
  have y0 := hc 0 m0 rfl
  have y1 := hc 1 m1 rfl
  have y2 := hc 2 m2 rfl
  have y3 := hc 3 m3 rfl
  have y4 := hc 4 m4 rfl
  have y5 := hc 5 m5 rfl
  rw [Nat.add_zero] at y0
  have S00 : Below w3.heap.size w3 w3 ∧ b3 < w3.heap.size ∧ w3.cell? ⟨b3, o3, none⟩ = some (.int .i64 m0) ∧ w3.cell? ⟨b3, o3 + 1, none⟩ = some (.int .i64 m1) ∧ w3.cell? ⟨b3, o3 + 2, none⟩ = some (.int .i64 m2) ∧ w3.cell? ⟨b3, o3 + 3, none⟩ = some (.int .i64 m3) ∧ w3.cell? ⟨b3, o3 + 4, none⟩ = some (.int .i64 m4) ∧ w3.cell? ⟨b3, o3 + 5, none⟩ = some (.int .i64 m5) := ⟨Below.refl _ _, lt3, y0, y1, y2, y3, y4, y5⟩
  have S0 : Below w3.heap.size w3 w3.drew ∧ b3 < w3.drew.heap.size ∧ w3.drew.cell? ⟨b3, o3, none⟩ = some (.int .i64 m0) ∧ w3.drew.cell? ⟨b3, o3 + 1, none⟩ = some (.int .i64 m1) ∧ w3.drew.cell? ⟨b3, o3 + 2, none⟩ = some (.int .i64 m2) ∧ w3.drew.cell? ⟨b3, o3 + 3, none⟩ = some (.int .i64 m3) ∧ w3.drew.cell? ⟨b3, o3 + 4, none⟩ = some (.int .i64 m4) ∧ w3.drew.cell? ⟨b3, o3 + 5, none⟩ = some (.int .i64 m5) := keptG S00 (Below.refl _ _).drew
  clear hc R3 y0 y1 y2 y3 y4 y5
  go_wp2_with fail
  go_region_held3 (fun w' => Below w3.heap.size w3 w' ∧ b3 < w'.heap.size ∧ w'.cell? ⟨b3, o3, none⟩ = some (.int .i64 m0) ∧ w'.cell? ⟨b3, o3 + 1, none⟩ = some (.int .i64 m1) ∧ w'.cell? ⟨b3, o3 + 2, none⟩ = some (.int .i64 m2) ∧ w'.cell? ⟨b3, o3 + 3, none⟩ = some (.int .i64 m3) ∧ w'.cell? ⟨b3, o3 + 4, none⟩ = some (.int .i64 m4) ∧ w'.cell? ⟨b3, o3 + 5, none⟩ = some (.int .i64 m5))
    (first | assumption | exact keptG S00 (below_new _ _).drew | exact keptG S00 (below_new _ _))
    (first | fail)
  have hb4 : Below w3.heap.size w3 (w3.alloc (.cells #[.int .i64 m0, .int .i64 m1, .int .i64 (m2-1), .int .i64 m3, .int .i64 m4, .int .i64 m5] 27)).drew := (below_new w3 _).drew
  have Y4 : Lies (w3.alloc (.cells #[.int .i64 m0, .int .i64 m1, .int .i64 (m2-1), .int .i64 m3, .int .i64 m4, .int .i64 m5] 27)).drew w3.heap.size [m0, m1, m2 - 1, m3, m4, m5] := (Lies.new w3 [m0, m1, m2 - 1, m3, m4, m5] 27 rfl).later (Below.refl _ _).drew
  have X4 := X3.later hb4
  have hbw4 := below_step hbw3 hb4
  clear S00 S0
  have cm := fun w => ruMay_any m0 m1 (m2 - 1) m3 m4 m5 w
  rw [hk] at cm
  obtain ⟨v0, v1, v2, v3, v4, v5⟩ := Y4.six
  go_wp2_with fail
  refine (cm _).mono ?_
  rintro e w5 ⟨rfl, hb5⟩
  have X5 := X4.later hb5
  obtain ⟨x0, x1, x2, x3, x4, x5⟩ := X5.six
  obtain ⟨u0, u1, u2, u3, u4, u5⟩ := (Y4.later hb5).six
  have xl := X5.lt
  have xf := X5.fz
  clear v0 v1 v2 v3 v4 v5
  go_wp2_with fail
  refine bodyPost_ret (v := .tuple #[.agg #[.int .i64 0, .int .i64 0, .int .i64 0, .int .i64 0, .int .i64 0, .int .i64 0], .int .i64 2]) (by simp [results, Tryd.results51, go_sem, x0, x1, x2, x3, x4, x5]) rfl ?_
  exact ⟨rfl, below_lay6 _ _ _ _ _ _ (below_step hbw4 hb5) (Nat.le_refl _)⟩
set_option maxHeartbeats 2000000 in
theorem ruGet_ok (w : World) {a : Option Addr} {c : Nat} {b : List Int} (R : Reads .u8 w a c b) (hl : b.length ≤ 100000) {m0 m1 m2 m3 m4 m5 : Int} (HE : Hid (9 ≤ b.length)) (HL : Hid (O.gallL b [4, 1, 1, 1, 1, 1] = [m0, m1, m2, m3, m4, m5])) (h0 : 0 ≤ m2 ∧ m2 < 4294967296) (hk : okR m0 m1 (m2 - 1) m3 m4 m5 = true) :
    Calls Tryd.prog 51 #[.slice a b.length c] w fun e w' => e = .returned (.tuple #[.agg #[.int .i64 m0, .int .i64 m1, .int .i64 (m2-1), .int .i64 m3, .int .i64 m4, .int .i64 m5], .int .i64 0]) ∧ Below w.heap.size w w' := by
  obtain ⟨hE, _, hK⟩ := all9 HE.out
  obtain ⟨h00, h01⟩ := h0
  have X := Lies.new w [0, 0, 0, 0, 0, 0] 27 rfl
  have hb0 := below_new w (.cells #[.int .i64 0, .int .i64 0, .int .i64 0, .int .i64 0, .int .i64 0, .int .i64 0] 27)
  have hmx := Nat.le_trans R.le R.max
  unfold maxLen at hmx
  go_enter Tryd.func51, Tryd.ntmps51
  go_wp2_with fail
  refine (widths_any _).mono ?_
  rintro e w1 ⟨a1, k1, rfl, R1, hb1⟩
  have RR := (R.later hb0).later hb1
  have X2 := X.later hb1
  have hbw := below_step hb0 hb1
  go_wp2_with fail
  refine (getAll9 _ RR R1 hl).mono ?_
  rintro e w3 ⟨a3, k3, rfl, R3, hb3⟩
  have X3 := X2.later hb3
  have hbw3 := below_step hbw hb3
  clear hb1 R1 hb0 X hb3 hbw X2 RR
  rw [HL.out] at R3
  rw [HL.out, hK, hE]
  clear hE hK
  obtain ⟨b3, o3, rfl, lt3, hc⟩ := reads_at R3 (by simp)
  have y0 := hc 0 m0 rfl
  have y1 := hc 1 m1 rfl
  have y2 := hc 2 m2 rfl
  have y3 := hc 3 m3 rfl
  have y4 := hc 4 m4 rfl
  have y5 := hc 5 m5 rfl
  rw [Nat.add_zero] at y0
  have S00 : Below w3.heap.size w3 w3 ∧ b3 < w3.heap.size ∧ w3.cell? ⟨b3, o3, none⟩ = some (.int .i64 m0) ∧ w3.cell? ⟨b3, o3 + 1, none⟩ = some (.int .i64 m1) ∧ w3.cell? ⟨b3, o3 + 2, none⟩ = some (.int .i64 m2) ∧ w3.cell? ⟨b3, o3 + 3, none⟩ = some (.int .i64 m3) ∧ w3.cell? ⟨b3, o3 + 4, none⟩ = some (.int .i64 m4) ∧ w3.cell? ⟨b3, o3 + 5, none⟩ = some (.int .i64 m5) := ⟨Below.refl _ _, lt3, y0, y1, y2, y3, y4, y5⟩
  have S0 : Below w3.heap.size w3 w3.drew ∧ b3 < w3.drew.heap.size ∧ w3.drew.cell? ⟨b3, o3, none⟩ = some (.int .i64 m0) ∧ w3.drew.cell? ⟨b3, o3 + 1, none⟩ = some (.int .i64 m1) ∧ w3.drew.cell? ⟨b3, o3 + 2, none⟩ = some (.int .i64 m2) ∧ w3.drew.cell? ⟨b3, o3 + 3, none⟩ = some (.int .i64 m3) ∧ w3.drew.cell? ⟨b3, o3 + 4, none⟩ = some (.int .i64 m4) ∧ w3.drew.cell? ⟨b3, o3 + 5, none⟩ = some (.int .i64 m5) := keptG S00 (Below.refl _ _).drew
  clear hc R3 y0 y1 y2 y3 y4 y5
  go_wp2_with fail
  go_region_held3 (fun w' => Below w3.heap.size w3 w' ∧ b3 < w'.heap.size ∧ w'.cell? ⟨b3, o3, none⟩ = some (.int .i64 m0) ∧ w'.cell? ⟨b3, o3 + 1, none⟩ = some (.int .i64 m1) ∧ w'.cell? ⟨b3, o3 + 2, none⟩ = some (.int .i64 m2) ∧ w'.cell? ⟨b3, o3 + 3, none⟩ = some (.int .i64 m3) ∧ w'.cell? ⟨b3, o3 + 4, none⟩ = some (.int .i64 m4) ∧ w'.cell? ⟨b3, o3 + 5, none⟩ = some (.int .i64 m5))
    (first | assumption | exact keptG S00 (below_new _ _).drew | exact keptG S00 (below_new _ _))
    (first | fail)
  have hb4 : Below w3.heap.size w3 (w3.alloc (.cells #[.int .i64 m0, .int .i64 m1, .int .i64 (m2-1), .int .i64 m3, .int .i64 m4, .int .i64 m5] 27)).drew := (below_new w3 _).drew
  have Y4 : Lies (w3.alloc (.cells #[.int .i64 m0, .int .i64 m1, .int .i64 (m2-1), .int .i64 m3, .int .i64 m4, .int .i64 m5] 27)).drew w3.heap.size [m0, m1, m2 - 1, m3, m4, m5] := (Lies.new w3 [m0, m1, m2 - 1, m3, m4, m5] 27 rfl).later (Below.refl _ _).drew
  have X4 := X3.later hb4
  have hbw4 := below_step hbw3 hb4
  clear S00 S0
  have cm := fun w => ruMay_any m0 m1 (m2 - 1) m3 m4 m5 w
  rw [hk] at cm
  obtain ⟨v0, v1, v2, v3, v4, v5⟩ := Y4.six
  go_wp2_with fail
  refine (cm _).mono ?_
  rintro e w5 ⟨rfl, hb5⟩
  have X5 := X4.later hb5
  obtain ⟨x0, x1, x2, x3, x4, x5⟩ := X5.six
  obtain ⟨u0, u1, u2, u3, u4, u5⟩ := (Y4.later hb5).six
  have xl := X5.lt
  have xf := X5.fz
  clear v0 v1 v2 v3 v4 v5
  go_wp2_with fail
  refine bodyPost_ret (v := .tuple #[.agg #[.int .i64 m0, .int .i64 m1, .int .i64 (m2-1), .int .i64 m3, .int .i64 m4, .int .i64 m5], .int .i64 0]) (by simp [results, Tryd.results51, go_sem, x0, x1, x2, x3, x4, x5]) rfl ?_
  exact ⟨rfl, below_lay6 _ _ _ _ _ _ (below_step hbw4 hb5) (Nat.le_refl _)⟩
/-- Get, for all bytes -/
theorem ruGet_any (w : World) {a : Option Addr} {c : Nat} {b : List Int} (R : Reads .u8 w a c b) (hl : b.length ≤ 100000) :
    Calls Tryd.prog 51 #[.slice a b.length c] w fun e w' => e = .returned (.tuple #[.agg #[.int .i64 (rgF b (n0 b)), .int .i64 (rgF b (n1 b)), .int .i64 (rgF b (n2 b - 1)), .int .i64 (rgF b (n3 b)), .int .i64 (rgF b (n4 b)), .int .i64 (rgF b (n5 b))], .int .i64 (rgE b)]) ∧ Below w.heap.size w w' := by
  by_cases hs : b.length < 9
  · exact (ruGet_short w R hl hs).mono fun e w' ⟨h1, h2⟩ => ⟨h1.trans (ret_none (rgE_short hs) (by decide)), h2⟩
  have he : 9 ≤ b.length := by omega
  have hL := (all9 he).2.1
  have hg := got_all R.oct
  cases hk : okGot b
  · exact (ruGet_form w R hl he hL hg.2.2.1 hk).mono fun e w' ⟨h1, h2⟩ => ⟨h1.trans (ret_none (rgE_form he hk) (by decide)), h2⟩
  · have HP := rgE_ok he hk
    exact (ruGet_ok w R hl he hL hg.2.2.1 hk).mono fun e w' ⟨h1, h2⟩ => ⟨h1.trans (ret_ru (rgF_ok HP _).symm (rgF_ok HP _).symm (rgF_ok HP _).symm (rgF_ok HP _).symm (rgF_ok HP _).symm (rgF_ok HP _).symm HP.symm), h2⟩
end Go.Proofs.YtklcchmpmilcaaaDoor
