/- What the document's answers for rules come to: the contracts of the functions that the statements on package rule are held against. -/
import Derived.Test.YtklcchmpmilcaaaDoorRuleGet
import Derived.Test.YtklcchmpmilcaaaDoorOctAllRefs
import Derived.Test.YtklcchmpmilcaaaDoorBitsRefs
namespace Go.Proofs.YtklcchmpmilcaaaDoor
open Go.ChangeShapes Go.WideShapes Go.ChangeAt Go.RowKit R
set_option linter.unusedVariables false
set_option linter.unusedSimpArgs false

set_option maxHeartbeats 2000000 in
theorem rrMay_any (a n i p k t : Int) (w : World) :
    Calls Tryd.prog 58 #[.agg #[.int .i64 a, .int .i64 n, .int .i64 i, .int .i64 p, .int .i64 k, .int .i64 t]] w fun e w' => e = .returned (.bool (okR a n i p k t)) ∧ Below w.heap.size w w' := by
  have hb0 := below_new w (.cells #[.int .i64 a, .int .i64 n, .int .i64 i, .int .i64 p, .int .i64 k, .int .i64 t] 27)
  have X := Lies.new w [a, n, i, p, k, t] 27 rfl
  have c1 := fun w => rmay_any a n w
  cases hm : M.mayB a n
  · rw [hm] at c1
    have HE : Hid (okR a n i p k t = false) := by unfold Hid okR; rw [hm]; rfl
    go_enter Tryd.func58, Tryd.ntmps58
    go_wp2_with fail
    refine (c1 _).mono ?_
    rintro e w1 ⟨rfl, hb1⟩
    go_wp2_with fail
    go_ret
    exact ⟨ret_bool HE.out.symm, below_step hb0 hb1⟩
  rw [hm] at c1
  by_cases h0 : i < -1
  · have HE : Hid (okR a n i p k t = false) := by unfold Hid okR; rw [hm]; simp; omega
    go_enter Tryd.func58, Tryd.ntmps58
    go_wp2_with fail
    refine (c1 _).mono ?_
    rintro e w1 ⟨rfl, hb1⟩
    obtain ⟨y0, y1, y2, y3, y4, y5⟩ := (X.later hb1).six
    go_wp2_with fail
    go_ret
    exact ⟨ret_bool HE.out.symm, below_step hb0 hb1⟩
  by_cases h1 : 7 < i
  · have HE : Hid (okR a n i p k t = false) := by unfold Hid okR; rw [hm]; simp; omega
    go_enter Tryd.func58, Tryd.ntmps58
    go_wp2_with fail
    refine (c1 _).mono ?_
    rintro e w1 ⟨rfl, hb1⟩
    obtain ⟨y0, y1, y2, y3, y4, y5⟩ := (X.later hb1).six
    go_wp2_with fail
    go_ret
    exact ⟨ret_bool HE.out.symm, below_step hb0 hb1⟩
  by_cases h2 : p < 0
  · have HE : Hid (okR a n i p k t = false) := by unfold Hid okR; rw [hm]; simp; omega
    go_enter Tryd.func58, Tryd.ntmps58
    go_wp2_with fail
    refine (c1 _).mono ?_
    rintro e w1 ⟨rfl, hb1⟩
    obtain ⟨y0, y1, y2, y3, y4, y5⟩ := (X.later hb1).six
    go_wp2_with fail
    go_ret
    exact ⟨ret_bool HE.out.symm, below_step hb0 hb1⟩
  by_cases h3 : 255 < p
  · have HE : Hid (okR a n i p k t = false) := by unfold Hid okR; rw [hm]; simp; omega
    go_enter Tryd.func58, Tryd.ntmps58
    go_wp2_with fail
    refine (c1 _).mono ?_
    rintro e w1 ⟨rfl, hb1⟩
    obtain ⟨y0, y1, y2, y3, y4, y5⟩ := (X.later hb1).six
    go_wp2_with fail
    go_ret
    exact ⟨ret_bool HE.out.symm, below_step hb0 hb1⟩
  have hok : okR a n i p k t = actB k t := by unfold okR; rw [hm, decide_eq_true (show -1 ≤ i ∧ i ≤ 7 by omega), decide_eq_true (show 0 ≤ p ∧ p ≤ 255 by omega)]; simp
  rw [hok]
  clear hok
  by_cases k0 : k = 0
  · subst k0
    have HE : Hid (actB 0 t = (t == 0)) := by unfold Hid actB; rw [if_pos rfl, Bool.eq_iff_iff]; simp
    go_enter Tryd.func58, Tryd.ntmps58
    go_wp2_with fail
    refine (c1 _).mono ?_
    rintro e w1 ⟨rfl, hb1⟩
    obtain ⟨y0, y1, y2, y3, y4, y5⟩ := (X.later hb1).six
    go_wp2_with fail
    go_ret
    exact ⟨ret_bool HE.out.symm, below_step hb0 hb1⟩
  by_cases k1 : ¬ k = 1
  · skip
    have HE : Hid (actB k t = false) := by unfold Hid actB; rw [if_neg k0, if_neg k1]
    go_enter Tryd.func58, Tryd.ntmps58
    go_wp2_with fail
    refine (c1 _).mono ?_
    rintro e w1 ⟨rfl, hb1⟩
    obtain ⟨y0, y1, y2, y3, y4, y5⟩ := (X.later hb1).six
    go_wp2_with fail
    go_ret
    exact ⟨ret_bool HE.out.symm, below_step hb0 hb1⟩
  obtain rfl : k = 1 := by omega
  by_cases k2 : t < 0
  · have HE : Hid (actB 1 t = false) := by unfold Hid actB; simp; omega
    go_enter Tryd.func58, Tryd.ntmps58
    go_wp2_with fail
    refine (c1 _).mono ?_
    rintro e w1 ⟨rfl, hb1⟩
    obtain ⟨y0, y1, y2, y3, y4, y5⟩ := (X.later hb1).six
    go_wp2_with fail
    go_ret
    exact ⟨ret_bool HE.out.symm, below_step hb0 hb1⟩
  · have HE : Hid (actB 1 t = decide (t ≤ 7)) := by unfold Hid actB; rw [if_neg (by decide), if_pos rfl, Bool.eq_iff_iff]; simp; omega
    go_enter Tryd.func58, Tryd.ntmps58
    go_wp2_with fail
    refine (c1 _).mono ?_
    rintro e w1 ⟨rfl, hb1⟩
    obtain ⟨y0, y1, y2, y3, y4, y5⟩ := (X.later hb1).six
    go_wp2_with fail
    go_ret
    exact ⟨ret_bool HE.out.symm, below_step hb0 hb1⟩
theorem rputAll_ru {a n i p k t : Int} (hk : okR a n i p k t = true) (w : World) {a1 a2 : Option Addr} {c1 c2 : Nat} (R1 : Reads .i64 w a1 c1 [a, n, i + 1, p, k, t]) (R2 : Reads .i64 w a2 c2 [4, 1, 1, 1, 1, 1]) :
    Calls Tryd.prog 39 #[.slice a1 6 c1, .slice a2 6 c2] w fun e w' => ∃ x c, e = .returned (.tuple #[.slice x 9 c, .int .i64 0]) ∧ Reads .u8 w' x c (bodyR a n i p k t) ∧ Below w.heap.size w w' := by
  have h := rputAll_own w R1 R2 (by simp)
  have e : O.pallL [a, n, i + 1, p, k, t] [4, 1, 1, 1, 1, 1] = bodyR a n i p k t := rfl
  rw [(body_ok hk).1, e, body_len hk] at h
  exact h.mono fun _ _ ⟨x, c, h1, h2, _, h3⟩ => ⟨x, c, h1, h2, h3⟩
theorem rrPut_ok {a n i p k t : Int} (hk : okR a n i p k t = true) (w : World) :
    Calls Tryd.prog 40 #[.agg #[.int .i64 a, .int .i64 n, .int .i64 i, .int .i64 p, .int .i64 k, .int .i64 t]] w fun e w' => ∃ x c, e = .returned (.tuple #[.slice x 9 c, .int .i64 0]) ∧ Reads .u8 w' x c (bodyR a n i p k t) ∧ Below w.heap.size w w' := by
  have X := Lies.new w [a, n, i, p, k, t] 27 rfl
  have hb0 := below_new w (.cells #[.int .i64 a, .int .i64 n, .int .i64 i, .int .i64 p, .int .i64 k, .int .i64 t] 27)
  have c1 := fun w => rrMay_any a n i p k t w
  rw [hk] at c1
  obtain ⟨g1, g2⟩ := (okR_bd hk).2.2.1
  have hw := w6_put hk
  go_enter Tryd.func40, Tryd.ntmps40
  go_wp2_with fail
  refine (c1 _).mono ?_
  rintro e w1 ⟨rfl, hb1⟩
  obtain ⟨y0, y1, y2, y3, y4, y5⟩ := (X.later hb1).six
  go_wp2_with fail
  have hbn := below_new w1 (.cells #[.int .i64 a, .int .i64 n, .int .i64 (i+1), .int .i64 p, .int .i64 k, .int .i64 t] 3)
  have hbm := below_new (w1.alloc (.cells #[.int .i64 a, .int .i64 n, .int .i64 (i+1), .int .i64 p, .int .i64 k, .int .i64 t] 3)) (.cells #[.int .i64 4, .int .i64 1, .int .i64 1, .int .i64 1, .int .i64 1, .int .i64 1] 3)
  refine (rputAll_ru hk _ ((reads_new64 w1 [a, n, i + 1, p, k, t] hw (by simp) rfl rfl).later hbm) (reads_new64 (w1.alloc (.cells #[.int .i64 a, .int .i64 n, .int .i64 (i+1), .int .i64 p, .int .i64 k, .int .i64 t] 3)) [4, 1, 1, 1, 1, 1] (by decide) (by simp) (by simp) rfl)).mono ?_
  rintro e w4 ⟨a4, k4, rfl, R4, hb4⟩
  go_wp2_with fail
  go_ret2
  exact ⟨a4, k4, rfl, R4, below_step (below_step (below_step (below_step hb0 hb1) hbn) hbm) hb4⟩
theorem rrPut_bad {a n i p k t : Int} (hk : okR a n i p k t = false) (w : World) :
    Calls Tryd.prog 40 #[.agg #[.int .i64 a, .int .i64 n, .int .i64 i, .int .i64 p, .int .i64 k, .int .i64 t]] w fun e w' => e = .returned (.tuple #[.slice none 0 0, .int .i64 1]) ∧ Below w.heap.size w w' := by
  have hb0 := below_new w (.cells #[.int .i64 a, .int .i64 n, .int .i64 i, .int .i64 p, .int .i64 k, .int .i64 t] 27)
  have c1 := fun w => rrMay_any a n i p k t w
  rw [hk] at c1
  go_enter Tryd.func40, Tryd.ntmps40
  go_wp2_with fail
  refine (c1 _).mono ?_
  rintro e w1 ⟨rfl, hb1⟩
  go_wp2_with fail
  go_ret2
  exact ⟨rfl, below_step hb0 hb1⟩
theorem rgetAll9 (w : World) {a1 a2 : Option Addr} {c1 c2 : Nat} {b : List Int} (R1 : Reads .u8 w a1 c1 b) (R2 : Reads .i64 w a2 c2 [4, 1, 1, 1, 1, 1]) (hb : b.length ≤ 100000) :
    Calls Tryd.prog 52 #[.slice a1 b.length c1, .slice a2 6 c2] w fun e w' => ∃ a c, e = .returned (.tuple #[.slice a (O.gallL b [4, 1, 1, 1, 1, 1]).length c, .int .i64 (O.gallK b [4, 1, 1, 1, 1, 1]), .int .i64 (O.gaE b [4, 1, 1, 1, 1, 1])]) ∧ Reads .i64 w' a c (O.gallL b [4, 1, 1, 1, 1, 1]) ∧ Below w.heap.size w w' :=
  rgetAll_any w R1 R2 (by simp) hb
set_option maxHeartbeats 2000000 in
theorem rrGet_short (w : World) {a : Option Addr} {c : Nat} {b : List Int} (R : Reads .u8 w a c b) (hl : b.length ≤ 100000) (hs : b.length < 9) :
    Calls Tryd.prog 53 #[.slice a b.length c] w fun e w' => e = .returned (.tuple #[.agg #[.int .i64 0, .int .i64 0, .int .i64 0, .int .i64 0, .int .i64 0, .int .i64 0], .int .i64 3]) ∧ Below w.heap.size w w' := by
  obtain ⟨hE, hL, hK⟩ := all9_short hs
  have X := Lies.new w [0, 0, 0, 0, 0, 0] 27 rfl
  have hb0 := below_new w (.cells #[.int .i64 0, .int .i64 0, .int .i64 0, .int .i64 0, .int .i64 0, .int .i64 0] 27)
  have hmx := Nat.le_trans R.le R.max
  unfold maxLen at hmx
  go_enter Tryd.func53, Tryd.ntmps53
  have hb1 := below_new (w.alloc (.cells #[.int .i64 0, .int .i64 0, .int .i64 0, .int .i64 0, .int .i64 0, .int .i64 0] 27)) (.cells #[.int .i64 4, .int .i64 1, .int .i64 1, .int .i64 1, .int .i64 1, .int .i64 1] 3)
  have R1 := reads_new64 (w.alloc (.cells #[.int .i64 0, .int .i64 0, .int .i64 0, .int .i64 0, .int .i64 0, .int .i64 0] 27)) [4, 1, 1, 1, 1, 1] (by decide) (by simp) (B := w.heap.size + 1) (by simp) rfl
  have RR := (R.later hb0).later hb1
  have X2 := X.later hb1
  have hbw := below_step hb0 hb1
  go_wp2_with fail
  refine (rgetAll9 _ RR R1 hl).mono ?_
  rintro e w3 ⟨a3, k3, rfl, R3, hb3⟩
  have X3 := X2.later hb3
  have hbw3 := below_step hbw hb3
  clear hb1 R1 hb0 X hb3 hbw X2 RR
  have xl := X3.lt
  have xf := X3.fz
  obtain ⟨x0, x1, x2, x3, x4, x5⟩ := X3.six
  rw [hL, hK, hE]
  clear R3 hE hL hK
  go_wp2_with fail
  refine bodyPost_ret (v := .tuple #[.agg #[.int .i64 0, .int .i64 0, .int .i64 0, .int .i64 0, .int .i64 0, .int .i64 0], .int .i64 3]) (by simp [results, Tryd.results53, go_sem, x0, x1, x2, x3, x4, x5]) rfl ?_
  exact ⟨rfl, below_lay6 _ _ _ _ _ _ hbw3 (Nat.le_refl _)⟩
set_option maxHeartbeats 2000000 in
theorem rrGet_form (w : World) {a : Option Addr} {c : Nat} {b : List Int} (R : Reads .u8 w a c b) (hl : b.length ≤ 100000) {m0 m1 m2 m3 m4 m5 : Int} (HE : Hid (9 ≤ b.length)) (HL : Hid (O.gallL b [4, 1, 1, 1, 1, 1] = [m0, m1, m2, m3, m4, m5])) (h0 : 0 ≤ m2 ∧ m2 < 4294967296) (hk : okR m0 m1 (m2 - 1) m3 m4 m5 = false) :
    Calls Tryd.prog 53 #[.slice a b.length c] w fun e w' => e = .returned (.tuple #[.agg #[.int .i64 0, .int .i64 0, .int .i64 0, .int .i64 0, .int .i64 0, .int .i64 0], .int .i64 2]) ∧ Below w.heap.size w w' := by
  obtain ⟨hE, _, hK⟩ := all9 HE.out
  obtain ⟨h00, h01⟩ := h0
  have X := Lies.new w [0, 0, 0, 0, 0, 0] 27 rfl
  have hb0 := below_new w (.cells #[.int .i64 0, .int .i64 0, .int .i64 0, .int .i64 0, .int .i64 0, .int .i64 0] 27)
  have hmx := Nat.le_trans R.le R.max
  unfold maxLen at hmx
  go_enter Tryd.func53, Tryd.ntmps53
  have hb1 := below_new (w.alloc (.cells #[.int .i64 0, .int .i64 0, .int .i64 0, .int .i64 0, .int .i64 0, .int .i64 0] 27)) (.cells #[.int .i64 4, .int .i64 1, .int .i64 1, .int .i64 1, .int .i64 1, .int .i64 1] 3)
  have R1 := reads_new64 (w.alloc (.cells #[.int .i64 0, .int .i64 0, .int .i64 0, .int .i64 0, .int .i64 0, .int .i64 0] 27)) [4, 1, 1, 1, 1, 1] (by decide) (by simp) (B := w.heap.size + 1) (by simp) rfl
  have RR := (R.later hb0).later hb1
  have X2 := X.later hb1
  have hbw := below_step hb0 hb1
  go_wp2_with fail
  refine (rgetAll9 _ RR R1 hl).mono ?_
  rintro e w3 ⟨a3, k3, rfl, R3, hb3⟩
  have X3 := X2.later hb3
  have hbw3 := below_step hbw hb3
  clear hb1 R1 hb0 X hb3 hbw X2 RR
  rw [HL.out] at R3
  rw [HL.out, hK, hE]
  clear hE hK
  obtain ⟨b3, o3, rfl, lt3, hc⟩ := reads_at R3 (by simp)
  have y0 := hc 0 m0 rfl
  have y1 := hc 1 m1 rfl
  have y2 := hc 2 m2 rfl
  have y3 := hc 3 m3 rfl
  have y4 := hc 4 m4 rfl
  have y5 := hc 5 m5 rfl
  rw [Nat.add_zero] at y0
  have S00 : Below w3.heap.size w3 w3 ∧ b3 < w3.heap.size ∧ w3.cell? ⟨b3, o3, none⟩ = some (.int .i64 m0) ∧ w3.cell? ⟨b3, o3 + 1, none⟩ = some (.int .i64 m1) ∧ w3.cell? ⟨b3, o3 + 2, none⟩ = some (.int .i64 m2) ∧ w3.cell? ⟨b3, o3 + 3, none⟩ = some (.int .i64 m3) ∧ w3.cell? ⟨b3, o3 + 4, none⟩ = some (.int .i64 m4) ∧ w3.cell? ⟨b3, o3 + 5, none⟩ = some (.int .i64 m5) := ⟨Below.refl _ _, lt3, y0, y1, y2, y3, y4, y5⟩
  have S0 : Below w3.heap.size w3 w3.drew ∧ b3 < w3.drew.heap.size ∧ w3.drew.cell? ⟨b3, o3, none⟩ = some (.int .i64 m0) ∧ w3.drew.cell? ⟨b3, o3 + 1, none⟩ = some (.int .i64 m1) ∧ w3.drew.cell? ⟨b3, o3 + 2, none⟩ = some (.int .i64 m2) ∧ w3.drew.cell? ⟨b3, o3 + 3, none⟩ = some (.int .i64 m3) ∧ w3.drew.cell? ⟨b3, o3 + 4, none⟩ = some (.int .i64 m4) ∧ w3.drew.cell? ⟨b3, o3 + 5, none⟩ = some (.int .i64 m5) := keptG S00 (Below.refl _ _).drew
  clear hc R3 y0 y1 y2 y3 y4 y5
  go_wp2_with fail
  go_region_held3 (fun w' => Below w3.heap.size w3 w' ∧ b3 < w'.heap.size ∧ w'.cell? ⟨b3, o3, none⟩ = some (.int .i64 m0) ∧ w'.cell? ⟨b3, o3 + 1, none⟩ = some (.int .i64 m1) ∧ w'.cell? ⟨b3, o3 + 2, none⟩ = some (.int .i64 m2) ∧ w'.cell? ⟨b3, o3 + 3, none⟩ = some (.int .i64 m3) ∧ w'.cell? ⟨b3, o3 + 4, none⟩ = some (.int .i64 m4) ∧ w'.cell? ⟨b3, o3 + 5, none⟩ = some (.int .i64 m5))
    (first | assumption | exact keptG S00 (below_new _ _).drew | exact keptG S00 (below_new _ _))
    (first | fail)
  have hb4 : Below w3.heap.size w3 (w3.alloc (.cells #[.int .i64 m0, .int .i64 m1, .int .i64 (m2-1), .int .i64 m3, .int .i64 m4, .int .i64 m5] 27)).drew := (below_new w3 _).drew
  have Y4 : Lies (w3.alloc (.cells #[.int .i64 m0, .int .i64 m1, .int .i64 (m2-1), .int .i64 m3, .int .i64 m4, .int .i64 m5] 27)).drew w3.heap.size [m0, m1, m2 - 1, m3, m4, m5] := (Lies.new w3 [m0, m1, m2 - 1, m3, m4, m5] 27 rfl).later (Below.refl _ _).drew
  have X4 := X3.later hb4
  have hbw4 := below_step hbw3 hb4
  clear S00 S0
  have cm := fun w => rrMay_any m0 m1 (m2 - 1) m3 m4 m5 w
  rw [hk] at cm
  obtain ⟨v0, v1, v2, v3, v4, v5⟩ := Y4.six
  go_wp2_with fail
  refine (cm _).mono ?_
  rintro e w5 ⟨rfl, hb5⟩
  have X5 := X4.later hb5
  obtain ⟨x0, x1, x2, x3, x4, x5⟩ := X5.six
  obtain ⟨u0, u1, u2, u3, u4, u5⟩ := (Y4.later hb5).six
  have xl := X5.lt
  have xf := X5.fz
  clear v0 v1 v2 v3 v4 v5
  go_wp2_with fail
  refine bodyPost_ret (v := .tuple #[.agg #[.int .i64 0, .int .i64 0, .int .i64 0, .int .i64 0, .int .i64 0, .int .i64 0], .int .i64 2]) (by simp [results, Tryd.results53, go_sem, x0, x1, x2, x3, x4, x5]) rfl ?_
  exact ⟨rfl, below_lay6 _ _ _ _ _ _ (below_step hbw4 hb5) (Nat.le_refl _)⟩
set_option maxHeartbeats 2000000 in
theorem rrGet_ok (w : World) {a : Option Addr} {c : Nat} {b : List Int} (R : Reads .u8 w a c b) (hl : b.length ≤ 100000) {m0 m1 m2 m3 m4 m5 : Int} (HE : Hid (9 ≤ b.length)) (HL : Hid (O.gallL b [4, 1, 1, 1, 1, 1] = [m0, m1, m2, m3, m4, m5])) (h0 : 0 ≤ m2 ∧ m2 < 4294967296) (hk : okR m0 m1 (m2 - 1) m3 m4 m5 = true) :
    Calls Tryd.prog 53 #[.slice a b.length c] w fun e w' => e = .returned (.tuple #[.agg #[.int .i64 m0, .int .i64 m1, .int .i64 (m2-1), .int .i64 m3, .int .i64 m4, .int .i64 m5], .int .i64 0]) ∧ Below w.heap.size w w' := by
  obtain ⟨hE, _, hK⟩ := all9 HE.out
  obtain ⟨h00, h01⟩ := h0
  have X := Lies.new w [0, 0, 0, 0, 0, 0] 27 rfl
  have hb0 := below_new w (.cells #[.int .i64 0, .int .i64 0, .int .i64 0, .int .i64 0, .int .i64 0, .int .i64 0] 27)
  have hmx := Nat.le_trans R.le R.max
  unfold maxLen at hmx
  go_enter Tryd.func53, Tryd.ntmps53
  have hb1 := below_new (w.alloc (.cells #[.int .i64 0, .int .i64 0, .int .i64 0, .int .i64 0, .int .i64 0, .int .i64 0] 27)) (.cells #[.int .i64 4, .int .i64 1, .int .i64 1, .int .i64 1, .int .i64 1, .int .i64 1] 3)
  have R1 := reads_new64 (w.alloc (.cells #[.int .i64 0, .int .i64 0, .int .i64 0, .int .i64 0, .int .i64 0, .int .i64 0] 27)) [4, 1, 1, 1, 1, 1] (by decide) (by simp) (B := w.heap.size + 1) (by simp) rfl
  have RR := (R.later hb0).later hb1
  have X2 := X.later hb1
  have hbw := below_step hb0 hb1
  go_wp2_with fail
  refine (rgetAll9 _ RR R1 hl).mono ?_
  rintro e w3 ⟨a3, k3, rfl, R3, hb3⟩
  have X3 := X2.later hb3
  have hbw3 := below_step hbw hb3
  clear hb1 R1 hb0 X hb3 hbw X2 RR
  rw [HL.out] at R3
  rw [HL.out, hK, hE]
  clear hE hK
  obtain ⟨b3, o3, rfl, lt3, hc⟩ := reads_at R3 (by simp)
  have y0 := hc 0 m0 rfl
  have y1 := hc 1 m1 rfl
  have y2 := hc 2 m2 rfl
  have y3 := hc 3 m3 rfl
  have y4 := hc 4 m4 rfl
  have y5 := hc 5 m5 rfl
  rw [Nat.add_zero] at y0
  have S00 : Below w3.heap.size w3 w3 ∧ b3 < w3.heap.size ∧ w3.cell? ⟨b3, o3, none⟩ = some (.int .i64 m0) ∧ w3.cell? ⟨b3, o3 + 1, none⟩ = some (.int .i64 m1) ∧ w3.cell? ⟨b3, o3 + 2, none⟩ = some (.int .i64 m2) ∧ w3.cell? ⟨b3, o3 + 3, none⟩ = some (.int .i64 m3) ∧ w3.cell? ⟨b3, o3 + 4, none⟩ = some (.int .i64 m4) ∧ w3.cell? ⟨b3, o3 + 5, none⟩ = some (.int .i64 m5) := ⟨Below.refl _ _, lt3, y0, y1, y2, y3, y4, y5⟩
  have S0 : Below w3.heap.size w3 w3.drew ∧ b3 < w3.drew.heap.size ∧ w3.drew.cell? ⟨b3, o3, none⟩ = some (.int .i64 m0) ∧ w3.drew.cell? ⟨b3, o3 + 1, none⟩ = some (.int .i64 m1) ∧ w3.drew.cell? ⟨b3, o3 + 2, none⟩ = some (.int .i64 m2) ∧ w3.drew.cell? ⟨b3, o3 + 3, none⟩ = some (.int .i64 m3) ∧ w3.drew.cell? ⟨b3, o3 + 4, none⟩ = some (.int .i64 m4) ∧ w3.drew.cell? ⟨b3, o3 + 5, none⟩ = some (.int .i64 m5) := keptG S00 (Below.refl _ _).drew
  clear hc R3 y0 y1 y2 y3 y4 y5
  go_wp2_with fail
  go_region_held3 (fun w' => Below w3.heap.size w3 w' ∧ b3 < w'.heap.size ∧ w'.cell? ⟨b3, o3, none⟩ = some (.int .i64 m0) ∧ w'.cell? ⟨b3, o3 + 1, none⟩ = some (.int .i64 m1) ∧ w'.cell? ⟨b3, o3 + 2, none⟩ = some (.int .i64 m2) ∧ w'.cell? ⟨b3, o3 + 3, none⟩ = some (.int .i64 m3) ∧ w'.cell? ⟨b3, o3 + 4, none⟩ = some (.int .i64 m4) ∧ w'.cell? ⟨b3, o3 + 5, none⟩ = some (.int .i64 m5))
    (first | assumption | exact keptG S00 (below_new _ _).drew | exact keptG S00 (below_new _ _))
    (first | fail)
  have hb4 : Below w3.heap.size w3 (w3.alloc (.cells #[.int .i64 m0, .int .i64 m1, .int .i64 (m2-1), .int .i64 m3, .int .i64 m4, .int .i64 m5] 27)).drew := (below_new w3 _).drew
  have Y4 : Lies (w3.alloc (.cells #[.int .i64 m0, .int .i64 m1, .int .i64 (m2-1), .int .i64 m3, .int .i64 m4, .int .i64 m5] 27)).drew w3.heap.size [m0, m1, m2 - 1, m3, m4, m5] := (Lies.new w3 [m0, m1, m2 - 1, m3, m4, m5] 27 rfl).later (Below.refl _ _).drew
  have X4 := X3.later hb4
  have hbw4 := below_step hbw3 hb4
  clear S00 S0
  have cm := fun w => rrMay_any m0 m1 (m2 - 1) m3 m4 m5 w
  rw [hk] at cm
  obtain ⟨v0, v1, v2, v3, v4, v5⟩ := Y4.six
  go_wp2_with fail
  refine (cm _).mono ?_
  rintro e w5 ⟨rfl, hb5⟩
  have X5 := X4.later hb5
  obtain ⟨x0, x1, x2, x3, x4, x5⟩ := X5.six
  obtain ⟨u0, u1, u2, u3, u4, u5⟩ := (Y4.later hb5).six
  have xl := X5.lt
  have xf := X5.fz
  clear v0 v1 v2 v3 v4 v5
  go_wp2_with fail
  refine bodyPost_ret (v := .tuple #[.agg #[.int .i64 m0, .int .i64 m1, .int .i64 (m2-1), .int .i64 m3, .int .i64 m4, .int .i64 m5], .int .i64 0]) (by simp [results, Tryd.results53, go_sem, x0, x1, x2, x3, x4, x5]) rfl ?_
  exact ⟨rfl, below_lay6 _ _ _ _ _ _ (below_step hbw4 hb5) (Nat.le_refl _)⟩
/-- Get, for all bytes -/
theorem rrGet_any (w : World) {a : Option Addr} {c : Nat} {b : List Int} (R : Reads .u8 w a c b) (hl : b.length ≤ 100000) :
    Calls Tryd.prog 53 #[.slice a b.length c] w fun e w' => e = .returned (.tuple #[.agg #[.int .i64 (rgF b (n0 b)), .int .i64 (rgF b (n1 b)), .int .i64 (rgF b (n2 b - 1)), .int .i64 (rgF b (n3 b)), .int .i64 (rgF b (n4 b)), .int .i64 (rgF b (n5 b))], .int .i64 (rgE b)]) ∧ Below w.heap.size w w' := by
  by_cases hs : b.length < 9
  · exact (rrGet_short w R hl hs).mono fun e w' ⟨h1, h2⟩ => ⟨h1.trans (ret_none (rgE_short hs) (by decide)), h2⟩
  have he : 9 ≤ b.length := by omega
  have hL := (all9 he).2.1
  have hg := got_all R.oct
  cases hk : okGot b
  · exact (rrGet_form w R hl he hL hg.2.2.1 hk).mono fun e w' ⟨h1, h2⟩ => ⟨h1.trans (ret_none (rgE_form he hk) (by decide)), h2⟩
  · have HP := rgE_ok he hk
    exact (rrGet_ok w R hl he hL hg.2.2.1 hk).mono fun e w' ⟨h1, h2⟩ => ⟨h1.trans (ret_ru (rgF_ok HP _).symm (rgF_ok HP _).symm (rgF_ok HP _).symm (rgF_ok HP _).symm (rgF_ok HP _).symm (rgF_ok HP _).symm HP.symm), h2⟩
end Go.Proofs.YtklcchmpmilcaaaDoor
