/- What Get of package msg answers, for all bytes: the contract that the claims on its statements rest on. -/
import Derived.Test.YtklcchmpmilcaaaDoorMsgPut
import Derived.Test.YtklcchmpmilcaaaDoorMsgLay
namespace Go.Proofs.YtklcchmpmilcaaaDoor
open Go.ChangeShapes Go.WideShapes Go.ChangeAt Go.RowKit R Q
set_option linter.unusedVariables false
set_option linter.unusedSimpArgs false

theorem getAll4 (w : World) {a1 a2 : Option Addr} {c1 c2 : Nat} {b : List Int} (R1 : Reads .u8 w a1 c1 b) (R2 : Reads .i64 w a2 c2 [1, 3, 3, 2]) (hb : b.length ≤ 100000) :
    Calls Tryd.prog 50 #[.slice a1 b.length c1, .slice a2 4 c2] w fun e w' => ∃ a c, e = .returned (.tuple #[.slice a (O.gallL b [1, 3, 3, 2]).length c, .int .i64 (O.gallK b [1, 3, 3, 2]), .int .i64 (O.gaE b [1, 3, 3, 2])]) ∧ Reads .i64 w' a c (O.gallL b [1, 3, 3, 2]) ∧ Below w.heap.size w w' :=
  getAll_at w R1 R2 rfl rfl (by simp) hb
/-- a message and an error, returned -/
theorem ret_m {y z v g a n i p k t e y' z' v' g' a' n' i' p' k' t' e' : Int} (h0 : y = y') (h1 : z = z') (h2 : v = v') (h3 : g = g') (h4 : a = a') (h5 : n = n') (h6 : i = i') (h7 : p = p') (h8 : k = k') (h9 : t = t') (h : e = e') :
    Ending.returned (.tuple #[.agg #[.int .i64 y, .int .i64 z, .int .i64 v, .int .i64 g, .int .i64 a, .int .i64 n, .int .i64 i, .int .i64 p, .int .i64 k, .int .i64 t], .int .i64 e]) = .returned (.tuple #[.agg #[.int .i64 y', .int .i64 z', .int .i64 v', .int .i64 g', .int .i64 a', .int .i64 n', .int .i64 i', .int .i64 p', .int .i64 k', .int .i64 t'], .int .i64 e']) := by
  rw [h0, h1, h2, h3, h4, h5, h6, h7, h8, h9, h]
set_option maxHeartbeats 2000000 in
theorem mGet_short (w : World) (T : Tab w) {a : Option Addr} {c : Nat} {b : List Int} (R : Reads .u8 w a c b) (hl : b.length ≤ 100000) (hs : b.length < 9) :
    Calls Tryd.prog 24 #[.slice a b.length c] w fun e w' => e = .returned (.tuple #[.agg #[.int .i64 0, .int .i64 0, .int .i64 0, .int .i64 0, .int .i64 0, .int .i64 0, .int .i64 0, .int .i64 0, .int .i64 0, .int .i64 0], .int .i64 3]) ∧ Below w.heap.size w w' := by
  obtain ⟨hE, hL, hK⟩ := all4_short hs
  have X := Lies.new w [0, 0, 0, 0, 0, 0, 0, 0, 0, 0] 29 rfl
  have hB := below_new w (.cells #[.int .i64 0, .int .i64 0, .int .i64 0, .int .i64 0, .int .i64 0, .int .i64 0, .int .i64 0, .int .i64 0, .int .i64 0, .int .i64 0] 29)
  have hmx := Nat.le_trans R.le R.max
  unfold maxLen at hmx
  replace R := R.later hB
  replace T := T.later hB
  have hw0 := T.lt
  go_enter Tryd.func24, Tryd.ntmps24
  go_wp2_with fail
  refine (mWidths_any _).mono ?_
  rintro e w1 ⟨a1, k1, rfl, R1, hb⟩
  replace R := R.later hb
  replace T := T.later hb
  replace X := X.later hb
  replace hB := below_step hB hb
  clear hb
  go_wp2_with fail
  refine (getAll4 _ R R1 hl).mono ?_
  rintro e w3 ⟨a3, k3, rfl, R3, hb⟩
  clear R1
  replace R := R.later hb
  replace T := T.later hb
  replace X := X.later hb
  replace hB := below_step hB hb
  clear hb
  rw [hL, hK, hE]
  clear R3 hE hL hK
  obtain ⟨x0, x1, x2, x3, x4, x5, x6, x7, x8, x9⟩ := X.ten
  have xl := X.lt
  have xf := X.fz
  go_wp2_with fail
  refine bodyPost_ret (v := .tuple #[.agg #[.int .i64 0, .int .i64 0, .int .i64 0, .int .i64 0, .int .i64 0, .int .i64 0, .int .i64 0, .int .i64 0, .int .i64 0, .int .i64 0], .int .i64 3]) (by simp [results, Tryd.results24, go_sem, x0, x1, x2, x3, x4, x5, x6, x7, x8, x9]) rfl ?_
  exact ⟨rfl, (below_lay10 _ _ _ _ _ _ _ _ _ _ hB (Nat.le_refl _))⟩
set_option maxHeartbeats 2000000 in
theorem mGet_bare_long (w : World) (T : Tab w) {a : Option Addr} {c : Nat} {b : List Int} (R : Reads .u8 w a c b) (hl : b.length ≤ 100000) {m0 m1 m2 m3 : Int} (HE : Hid (9 ≤ b.length)) (HL : Hid (O.gallL b [1, 3, 3, 2] = [m0, m1, m2, m3])) (hq : ¬ m0 = 2) (hn : 9 < b.length) :
    Calls Tryd.prog 24 #[.slice a b.length c] w fun e w' => e = .returned (.tuple #[.agg #[.int .i64 0, .int .i64 0, .int .i64 0, .int .i64 0, .int .i64 0, .int .i64 0, .int .i64 0, .int .i64 0, .int .i64 0, .int .i64 0], .int .i64 2]) ∧ Below w.heap.size w w' := by
  have ct := fun w T => mTells_any m0 w T
  rw [decide_eq_false hq] at ct
  clear hq
  obtain ⟨hE, _, hK⟩ := all4 HE.out
  have X := Lies.new w [0, 0, 0, 0, 0, 0, 0, 0, 0, 0] 29 rfl
  have hB := below_new w (.cells #[.int .i64 0, .int .i64 0, .int .i64 0, .int .i64 0, .int .i64 0, .int .i64 0, .int .i64 0, .int .i64 0, .int .i64 0, .int .i64 0] 29)
  have hmx := Nat.le_trans R.le R.max
  unfold maxLen at hmx
  replace R := R.later hB
  replace T := T.later hB
  have hw0 := T.lt
  go_enter Tryd.func24, Tryd.ntmps24
  go_wp2_with fail
  refine (mWidths_any _).mono ?_
  rintro e w1 ⟨a1, k1, rfl, R1, hb⟩
  replace R := R.later hb
  replace T := T.later hb
  replace X := X.later hb
  replace hB := below_step hB hb
  clear hb
  go_wp2_with fail
  refine (getAll4 _ R R1 hl).mono ?_
  rintro e w3 ⟨a3, k3, rfl, R3, hb⟩
  clear R1
  replace R := R.later hb
  replace T := T.later hb
  replace X := X.later hb
  replace hB := below_step hB hb
  clear hb
  rw [HL.out] at R3
  rw [HL.out, hK, hE]
  clear hE hK
  obtain ⟨b3, o3, rfl, lt3, hc⟩ := reads_at R3 (by simp)
  have y0 := hc 0 m0 rfl
  have y1 := hc 1 m1 rfl
  have y2 := hc 2 m2 rfl
  have y3 := hc 3 m3 rfl
  rw [Nat.add_zero] at y0
  have S00 : Below w3.heap.size w3 w3 ∧ b3 < w3.heap.size ∧ w3.cell? ⟨b3, o3, none⟩ = some (.int .i64 m0) ∧ w3.cell? ⟨b3, o3 + 1, none⟩ = some (.int .i64 m1) ∧ w3.cell? ⟨b3, o3 + 2, none⟩ = some (.int .i64 m2) ∧ w3.cell? ⟨b3, o3 + 3, none⟩ = some (.int .i64 m3) := ⟨Below.refl _ _, lt3, y0, y1, y2, y3⟩
  have S0 : Below w3.heap.size w3 w3.drew ∧ b3 < w3.drew.heap.size ∧ w3.drew.cell? ⟨b3, o3, none⟩ = some (.int .i64 m0) ∧ w3.drew.cell? ⟨b3, o3 + 1, none⟩ = some (.int .i64 m1) ∧ w3.drew.cell? ⟨b3, o3 + 2, none⟩ = some (.int .i64 m2) ∧ w3.drew.cell? ⟨b3, o3 + 3, none⟩ = some (.int .i64 m3) := keptM S00 (Below.refl _ _).drew
  clear hc R3 y0 y1 y2 y3
  go_wp2_with fail
  go_region_held3 (fun w' => Below w3.heap.size w3 w' ∧ b3 < w'.heap.size ∧ w'.cell? ⟨b3, o3, none⟩ = some (.int .i64 m0) ∧ w'.cell? ⟨b3, o3 + 1, none⟩ = some (.int .i64 m1) ∧ w'.cell? ⟨b3, o3 + 2, none⟩ = some (.int .i64 m2) ∧ w'.cell? ⟨b3, o3 + 3, none⟩ = some (.int .i64 m3))
    (first | assumption | exact keptM S00 (below_new _ _).drew | exact keptM S00 (below_new _ _))
    (first | fail)
  have hb : Below w3.heap.size w3 (w3.alloc (.cells #[.int .i64 m0, .int .i64 m1, .int .i64 m2, .int .i64 m3, .int .i64 0, .int .i64 0, .int .i64 0, .int .i64 0, .int .i64 0, .int .i64 0] 29)).drew := (below_new w3 _).drew
  have Y : Lies (w3.alloc (.cells #[.int .i64 m0, .int .i64 m1, .int .i64 m2, .int .i64 m3, .int .i64 0, .int .i64 0, .int .i64 0, .int .i64 0, .int .i64 0, .int .i64 0] 29)).drew w3.heap.size [m0, m1, m2, m3, 0, 0, 0, 0, 0, 0] := (Lies.new w3 [m0, m1, m2, m3, 0, 0, 0, 0, 0, 0] 29 rfl).later (Below.refl _ _).drew
  have hne : w3.heap.size ≠ w.heap.size := by have := X.lt; omega
  have hw3 := hB.size
  have hw4 := T.lt
  have hne0 : w3.heap.size ≠ 0 := by omega
  have hB0 := below_step hB (below_new w3 (.cells #[.int .i64 m0, .int .i64 m1, .int .i64 m2, .int .i64 m3, .int .i64 0, .int .i64 0, .int .i64 0, .int .i64 0, .int .i64 0, .int .i64 0] 29))
  have X0 := X.later (below_new w3 (.cells #[.int .i64 m0, .int .i64 m1, .int .i64 m2, .int .i64 m3, .int .i64 0, .int .i64 0, .int .i64 0, .int .i64 0, .int .i64 0, .int .i64 0] 29))
  replace R := R.later hb
  replace T := T.later hb
  replace X := X.later hb
  replace hB := below_step hB hb
  clear hb S00 S0
  obtain ⟨u0, u1, u2, u3, u4, u5, u6, u7, u8, u9⟩ := Y.ten
  go_wp2_with fail
  refine (ct _ T).mono ?_
  rintro e w' ⟨rfl, rfl⟩
  replace X := X0
  obtain ⟨x0, x1, x2, x3, x4, x5, x6, x7, x8, x9⟩ := X.ten
  have xl := X.lt
  have xf := X.fz
  go_wp2_with fail
  refine bodyPost_ret (v := .tuple #[.agg #[.int .i64 0, .int .i64 0, .int .i64 0, .int .i64 0, .int .i64 0, .int .i64 0, .int .i64 0, .int .i64 0, .int .i64 0, .int .i64 0], .int .i64 2]) (by simp [results, Tryd.results24, go_sem, x0, x1, x2, x3, x4, x5, x6, x7, x8, x9]) rfl ?_
  exact ⟨rfl, (below_lay10 _ _ _ _ _ _ _ _ _ _ hB0 (Nat.le_refl _)).drew⟩
set_option maxHeartbeats 2000000 in
theorem mGet_bare_no (w : World) (T : Tab w) {a : Option Addr} {c : Nat} {b : List Int} (R : Reads .u8 w a c b) (hl : b.length ≤ 100000) {m0 m1 m2 m3 : Int} (HE : Hid (9 ≤ b.length)) (HL : Hid (O.gallL b [1, 3, 3, 2] = [m0, m1, m2, m3])) (hq : ¬ m0 = 2) (hn : b.length ≤ 9) (hk : okM m0 m1 m2 m3 0 0 0 0 0 0 = false) :
    Calls Tryd.prog 24 #[.slice a b.length c] w fun e w' => e = .returned (.tuple #[.agg #[.int .i64 0, .int .i64 0, .int .i64 0, .int .i64 0, .int .i64 0, .int .i64 0, .int .i64 0, .int .i64 0, .int .i64 0, .int .i64 0], .int .i64 2]) ∧ Below w.heap.size w w' := by
  have ct := fun w T => mTells_any m0 w T
  rw [decide_eq_false hq] at ct
  clear hq
  have cm := fun w T => mMay_any m0 m1 m2 m3 0 0 0 0 0 0 w T
  rw [hk] at cm
  obtain ⟨hE, _, hK⟩ := all4 HE.out
  have X := Lies.new w [0, 0, 0, 0, 0, 0, 0, 0, 0, 0] 29 rfl
  have hB := below_new w (.cells #[.int .i64 0, .int .i64 0, .int .i64 0, .int .i64 0, .int .i64 0, .int .i64 0, .int .i64 0, .int .i64 0, .int .i64 0, .int .i64 0] 29)
  have hmx := Nat.le_trans R.le R.max
  unfold maxLen at hmx
  replace R := R.later hB
  replace T := T.later hB
  have hw0 := T.lt
  go_enter Tryd.func24, Tryd.ntmps24
  go_wp2_with fail
  refine (mWidths_any _).mono ?_
  rintro e w1 ⟨a1, k1, rfl, R1, hb⟩
  replace R := R.later hb
  replace T := T.later hb
  replace X := X.later hb
  replace hB := below_step hB hb
  clear hb
  go_wp2_with fail
  refine (getAll4 _ R R1 hl).mono ?_
  rintro e w3 ⟨a3, k3, rfl, R3, hb⟩
  clear R1
  replace R := R.later hb
  replace T := T.later hb
  replace X := X.later hb
  replace hB := below_step hB hb
  clear hb
  rw [HL.out] at R3
  rw [HL.out, hK, hE]
  clear hE hK
  obtain ⟨b3, o3, rfl, lt3, hc⟩ := reads_at R3 (by simp)
  have y0 := hc 0 m0 rfl
  have y1 := hc 1 m1 rfl
  have y2 := hc 2 m2 rfl
  have y3 := hc 3 m3 rfl
  rw [Nat.add_zero] at y0
  have S00 : Below w3.heap.size w3 w3 ∧ b3 < w3.heap.size ∧ w3.cell? ⟨b3, o3, none⟩ = some (.int .i64 m0) ∧ w3.cell? ⟨b3, o3 + 1, none⟩ = some (.int .i64 m1) ∧ w3.cell? ⟨b3, o3 + 2, none⟩ = some (.int .i64 m2) ∧ w3.cell? ⟨b3, o3 + 3, none⟩ = some (.int .i64 m3) := ⟨Below.refl _ _, lt3, y0, y1, y2, y3⟩
  have S0 : Below w3.heap.size w3 w3.drew ∧ b3 < w3.drew.heap.size ∧ w3.drew.cell? ⟨b3, o3, none⟩ = some (.int .i64 m0) ∧ w3.drew.cell? ⟨b3, o3 + 1, none⟩ = some (.int .i64 m1) ∧ w3.drew.cell? ⟨b3, o3 + 2, none⟩ = some (.int .i64 m2) ∧ w3.drew.cell? ⟨b3, o3 + 3, none⟩ = some (.int .i64 m3) := keptM S00 (Below.refl _ _).drew
  clear hc R3 y0 y1 y2 y3
  go_wp2_with fail
  go_region_held3 (fun w' => Below w3.heap.size w3 w' ∧ b3 < w'.heap.size ∧ w'.cell? ⟨b3, o3, none⟩ = some (.int .i64 m0) ∧ w'.cell? ⟨b3, o3 + 1, none⟩ = some (.int .i64 m1) ∧ w'.cell? ⟨b3, o3 + 2, none⟩ = some (.int .i64 m2) ∧ w'.cell? ⟨b3, o3 + 3, none⟩ = some (.int .i64 m3))
    (first | assumption | exact keptM S00 (below_new _ _).drew | exact keptM S00 (below_new _ _))
    (first | fail)
  have hb : Below w3.heap.size w3 (w3.alloc (.cells #[.int .i64 m0, .int .i64 m1, .int .i64 m2, .int .i64 m3, .int .i64 0, .int .i64 0, .int .i64 0, .int .i64 0, .int .i64 0, .int .i64 0] 29)).drew := (below_new w3 _).drew
  have Y : Lies (w3.alloc (.cells #[.int .i64 m0, .int .i64 m1, .int .i64 m2, .int .i64 m3, .int .i64 0, .int .i64 0, .int .i64 0, .int .i64 0, .int .i64 0, .int .i64 0] 29)).drew w3.heap.size [m0, m1, m2, m3, 0, 0, 0, 0, 0, 0] := (Lies.new w3 [m0, m1, m2, m3, 0, 0, 0, 0, 0, 0] 29 rfl).later (Below.refl _ _).drew
  have hne : w3.heap.size ≠ w.heap.size := by have := X.lt; omega
  have hw3 := hB.size
  have hw4 := T.lt
  have hne0 : w3.heap.size ≠ 0 := by omega
  have hB0 := below_step hB (below_new w3 (.cells #[.int .i64 m0, .int .i64 m1, .int .i64 m2, .int .i64 m3, .int .i64 0, .int .i64 0, .int .i64 0, .int .i64 0, .int .i64 0, .int .i64 0] 29))
  have X0 := X.later (below_new w3 (.cells #[.int .i64 m0, .int .i64 m1, .int .i64 m2, .int .i64 m3, .int .i64 0, .int .i64 0, .int .i64 0, .int .i64 0, .int .i64 0, .int .i64 0] 29))
  replace R := R.later hb
  replace T := T.later hb
  replace X := X.later hb
  replace hB := below_step hB hb
  clear hb S00 S0
  obtain ⟨u0, u1, u2, u3, u4, u5, u6, u7, u8, u9⟩ := Y.ten
  go_wp2_with fail
  refine (ct _ T).mono ?_
  rintro e w' ⟨rfl, rfl⟩
  go_wp2_with fail
  refine (cm _ T).mono ?_
  rintro e w5 ⟨rfl, hb⟩
  clear u0 u1 u2 u3 u4 u5 u6 u7 u8 u9
  replace T := T.later hb
  replace X := X.later hb
  replace Y := Y.later hb
  replace hB := below_step hB hb
  clear hb
  obtain ⟨u0, u1, u2, u3, u4, u5, u6, u7, u8, u9⟩ := Y.ten
  obtain ⟨x0, x1, x2, x3, x4, x5, x6, x7, x8, x9⟩ := X.ten
  have xl := X.lt
  have xf := X.fz
  go_wp2_with fail
  refine bodyPost_ret (v := .tuple #[.agg #[.int .i64 0, .int .i64 0, .int .i64 0, .int .i64 0, .int .i64 0, .int .i64 0, .int .i64 0, .int .i64 0, .int .i64 0, .int .i64 0], .int .i64 2]) (by simp [results, Tryd.results24, go_sem, x0, x1, x2, x3, x4, x5, x6, x7, x8, x9]) rfl ?_
  exact ⟨rfl, (below_lay10 _ _ _ _ _ _ _ _ _ _ hB (Nat.le_refl _))⟩
set_option maxHeartbeats 2000000 in
theorem mGet_bare_yes (w : World) (T : Tab w) {a : Option Addr} {c : Nat} {b : List Int} (R : Reads .u8 w a c b) (hl : b.length ≤ 100000) {m0 m1 m2 m3 : Int} (HE : Hid (9 ≤ b.length)) (HL : Hid (O.gallL b [1, 3, 3, 2] = [m0, m1, m2, m3])) (hq : ¬ m0 = 2) (hn : b.length ≤ 9) (hk : okM m0 m1 m2 m3 0 0 0 0 0 0 = true) :
    Calls Tryd.prog 24 #[.slice a b.length c] w fun e w' => e = .returned (.tuple #[.agg #[.int .i64 m0, .int .i64 m1, .int .i64 m2, .int .i64 m3, .int .i64 0, .int .i64 0, .int .i64 0, .int .i64 0, .int .i64 0, .int .i64 0], .int .i64 0]) ∧ Below w.heap.size w w' := by
  have ct := fun w T => mTells_any m0 w T
  rw [decide_eq_false hq] at ct
  clear hq
  have cm := fun w T => mMay_any m0 m1 m2 m3 0 0 0 0 0 0 w T
  rw [hk] at cm
  obtain ⟨hE, _, hK⟩ := all4 HE.out
  have X := Lies.new w [0, 0, 0, 0, 0, 0, 0, 0, 0, 0] 29 rfl
  have hB := below_new w (.cells #[.int .i64 0, .int .i64 0, .int .i64 0, .int .i64 0, .int .i64 0, .int .i64 0, .int .i64 0, .int .i64 0, .int .i64 0, .int .i64 0] 29)
  have hmx := Nat.le_trans R.le R.max
  unfold maxLen at hmx
  replace R := R.later hB
  replace T := T.later hB
  have hw0 := T.lt
  go_enter Tryd.func24, Tryd.ntmps24
  go_wp2_with fail
  refine (mWidths_any _).mono ?_
  rintro e w1 ⟨a1, k1, rfl, R1, hb⟩
  replace R := R.later hb
  replace T := T.later hb
  replace X := X.later hb
  replace hB := below_step hB hb
  clear hb
  go_wp2_with fail
  refine (getAll4 _ R R1 hl).mono ?_
  rintro e w3 ⟨a3, k3, rfl, R3, hb⟩
  clear R1
  replace R := R.later hb
  replace T := T.later hb
  replace X := X.later hb
  replace hB := below_step hB hb
  clear hb
  rw [HL.out] at R3
  rw [HL.out, hK, hE]
  clear hE hK
  obtain ⟨b3, o3, rfl, lt3, hc⟩ := reads_at R3 (by simp)
  have y0 := hc 0 m0 rfl
  have y1 := hc 1 m1 rfl
  have y2 := hc 2 m2 rfl
  have y3 := hc 3 m3 rfl
  rw [Nat.add_zero] at y0
  have S00 : Below w3.heap.size w3 w3 ∧ b3 < w3.heap.size ∧ w3.cell? ⟨b3, o3, none⟩ = some (.int .i64 m0) ∧ w3.cell? ⟨b3, o3 + 1, none⟩ = some (.int .i64 m1) ∧ w3.cell? ⟨b3, o3 + 2, none⟩ = some (.int .i64 m2) ∧ w3.cell? ⟨b3, o3 + 3, none⟩ = some (.int .i64 m3) := ⟨Below.refl _ _, lt3, y0, y1, y2, y3⟩
  have S0 : Below w3.heap.size w3 w3.drew ∧ b3 < w3.drew.heap.size ∧ w3.drew.cell? ⟨b3, o3, none⟩ = some (.int .i64 m0) ∧ w3.drew.cell? ⟨b3, o3 + 1, none⟩ = some (.int .i64 m1) ∧ w3.drew.cell? ⟨b3, o3 + 2, none⟩ = some (.int .i64 m2) ∧ w3.drew.cell? ⟨b3, o3 + 3, none⟩ = some (.int .i64 m3) := keptM S00 (Below.refl _ _).drew
  clear hc R3 y0 y1 y2 y3
  go_wp2_with fail
  go_region_held3 (fun w' => Below w3.heap.size w3 w' ∧ b3 < w'.heap.size ∧ w'.cell? ⟨b3, o3, none⟩ = some (.int .i64 m0) ∧ w'.cell? ⟨b3, o3 + 1, none⟩ = some (.int .i64 m1) ∧ w'.cell? ⟨b3, o3 + 2, none⟩ = some (.int .i64 m2) ∧ w'.cell? ⟨b3, o3 + 3, none⟩ = some (.int .i64 m3))
    (first | assumption | exact keptM S00 (below_new _ _).drew | exact keptM S00 (below_new _ _))
    (first | fail)
  have hb : Below w3.heap.size w3 (w3.alloc (.cells #[.int .i64 m0, .int .i64 m1, .int .i64 m2, .int .i64 m3, .int .i64 0, .int .i64 0, .int .i64 0, .int .i64 0, .int .i64 0, .int .i64 0] 29)).drew := (below_new w3 _).drew
  have Y : Lies (w3.alloc (.cells #[.int .i64 m0, .int .i64 m1, .int .i64 m2, .int .i64 m3, .int .i64 0, .int .i64 0, .int .i64 0, .int .i64 0, .int .i64 0, .int .i64 0] 29)).drew w3.heap.size [m0, m1, m2, m3, 0, 0, 0, 0, 0, 0] := (Lies.new w3 [m0, m1, m2, m3, 0, 0, 0, 0, 0, 0] 29 rfl).later (Below.refl _ _).drew
  have hne : w3.heap.size ≠ w.heap.size := by have := X.lt; omega
  have hw3 := hB.size
  have hw4 := T.lt
  have hne0 : w3.heap.size ≠ 0 := by omega
  have hB0 := below_step hB (below_new w3 (.cells #[.int .i64 m0, .int .i64 m1, .int .i64 m2, .int .i64 m3, .int .i64 0, .int .i64 0, .int .i64 0, .int .i64 0, .int .i64 0, .int .i64 0] 29))
  have X0 := X.later (below_new w3 (.cells #[.int .i64 m0, .int .i64 m1, .int .i64 m2, .int .i64 m3, .int .i64 0, .int .i64 0, .int .i64 0, .int .i64 0, .int .i64 0, .int .i64 0] 29))
  replace R := R.later hb
  replace T := T.later hb
  replace X := X.later hb
  replace hB := below_step hB hb
  clear hb S00 S0
  obtain ⟨u0, u1, u2, u3, u4, u5, u6, u7, u8, u9⟩ := Y.ten
  go_wp2_with fail
  refine (ct _ T).mono ?_
  rintro e w' ⟨rfl, rfl⟩
  go_wp2_with fail
  refine (cm _ T).mono ?_
  rintro e w5 ⟨rfl, hb⟩
  clear u0 u1 u2 u3 u4 u5 u6 u7 u8 u9
  replace T := T.later hb
  replace X := X.later hb
  replace Y := Y.later hb
  replace hB := below_step hB hb
  clear hb
  obtain ⟨u0, u1, u2, u3, u4, u5, u6, u7, u8, u9⟩ := Y.ten
  obtain ⟨x0, x1, x2, x3, x4, x5, x6, x7, x8, x9⟩ := X.ten
  have xl := X.lt
  have xf := X.fz
  go_wp2_with fail
  refine bodyPost_ret (v := .tuple #[.agg #[.int .i64 m0, .int .i64 m1, .int .i64 m2, .int .i64 m3, .int .i64 0, .int .i64 0, .int .i64 0, .int .i64 0, .int .i64 0, .int .i64 0], .int .i64 0]) (by simp [results, Tryd.results24, go_sem, x0, x1, x2, x3, x4, x5, x6, x7, x8, x9]) rfl ?_
  exact ⟨rfl, (below_lay10 _ _ _ _ _ _ _ _ _ _ hB (Nat.le_refl _))⟩
set_option maxHeartbeats 2000000 in
theorem mGet_rule0 (w : World) (T : Tab w) {a : Option Addr} {c : Nat} {b : List Int} (R : Reads .u8 w a c b) (hl : b.length ≤ 100000) {m0 m1 m2 m3 : Int} (HE : Hid (9 ≤ b.length)) (HL : Hid (O.gallL b [1, 3, 3, 2] = [m0, m1, m2, m3])) (hq : m0 = 2) (hc9 : c = 9) :
    Calls Tryd.prog 24 #[.slice a b.length c] w fun e w' => e = .returned (.tuple #[.agg #[.int .i64 0, .int .i64 0, .int .i64 0, .int .i64 0, .int .i64 0, .int .i64 0, .int .i64 0, .int .i64 0, .int .i64 0, .int .i64 0], .int .i64 3]) ∧ Below w.heap.size w w' := by
  have ct := fun w T => mTells_any m0 w T
  rw [decide_eq_true hq] at ct
  clear hq
  have hle := R.le
  subst hc9
  obtain ⟨hE, _, hK⟩ := all4 HE.out
  have X := Lies.new w [0, 0, 0, 0, 0, 0, 0, 0, 0, 0] 29 rfl
  have hB := below_new w (.cells #[.int .i64 0, .int .i64 0, .int .i64 0, .int .i64 0, .int .i64 0, .int .i64 0, .int .i64 0, .int .i64 0, .int .i64 0, .int .i64 0] 29)
  have hmx := Nat.le_trans R.le R.max
  unfold maxLen at hmx
  replace R := R.later hB
  replace T := T.later hB
  have hw0 := T.lt
  go_enter Tryd.func24, Tryd.ntmps24
  go_wp2_with fail
  refine (mWidths_any _).mono ?_
  rintro e w1 ⟨a1, k1, rfl, R1, hb⟩
  replace R := R.later hb
  replace T := T.later hb
  replace X := X.later hb
  replace hB := below_step hB hb
  clear hb
  go_wp2_with fail
  refine (getAll4 _ R R1 hl).mono ?_
  rintro e w3 ⟨a3, k3, rfl, R3, hb⟩
  clear R1
  replace R := R.later hb
  replace T := T.later hb
  replace X := X.later hb
  replace hB := below_step hB hb
  clear hb
  rw [HL.out] at R3
  rw [HL.out, hK, hE]
  clear hE hK
  obtain ⟨b3, o3, rfl, lt3, hc⟩ := reads_at R3 (by simp)
  have y0 := hc 0 m0 rfl
  have y1 := hc 1 m1 rfl
  have y2 := hc 2 m2 rfl
  have y3 := hc 3 m3 rfl
  rw [Nat.add_zero] at y0
  have S00 : Below w3.heap.size w3 w3 ∧ b3 < w3.heap.size ∧ w3.cell? ⟨b3, o3, none⟩ = some (.int .i64 m0) ∧ w3.cell? ⟨b3, o3 + 1, none⟩ = some (.int .i64 m1) ∧ w3.cell? ⟨b3, o3 + 2, none⟩ = some (.int .i64 m2) ∧ w3.cell? ⟨b3, o3 + 3, none⟩ = some (.int .i64 m3) := ⟨Below.refl _ _, lt3, y0, y1, y2, y3⟩
  have S0 : Below w3.heap.size w3 w3.drew ∧ b3 < w3.drew.heap.size ∧ w3.drew.cell? ⟨b3, o3, none⟩ = some (.int .i64 m0) ∧ w3.drew.cell? ⟨b3, o3 + 1, none⟩ = some (.int .i64 m1) ∧ w3.drew.cell? ⟨b3, o3 + 2, none⟩ = some (.int .i64 m2) ∧ w3.drew.cell? ⟨b3, o3 + 3, none⟩ = some (.int .i64 m3) := keptM S00 (Below.refl _ _).drew
  clear hc R3 y0 y1 y2 y3
  go_wp2_with fail
  go_region_held3 (fun w' => Below w3.heap.size w3 w' ∧ b3 < w'.heap.size ∧ w'.cell? ⟨b3, o3, none⟩ = some (.int .i64 m0) ∧ w'.cell? ⟨b3, o3 + 1, none⟩ = some (.int .i64 m1) ∧ w'.cell? ⟨b3, o3 + 2, none⟩ = some (.int .i64 m2) ∧ w'.cell? ⟨b3, o3 + 3, none⟩ = some (.int .i64 m3))
    (first | assumption | exact keptM S00 (below_new _ _).drew | exact keptM S00 (below_new _ _))
    (first | fail)
  have hb : Below w3.heap.size w3 (w3.alloc (.cells #[.int .i64 m0, .int .i64 m1, .int .i64 m2, .int .i64 m3, .int .i64 0, .int .i64 0, .int .i64 0, .int .i64 0, .int .i64 0, .int .i64 0] 29)).drew := (below_new w3 _).drew
  have Y : Lies (w3.alloc (.cells #[.int .i64 m0, .int .i64 m1, .int .i64 m2, .int .i64 m3, .int .i64 0, .int .i64 0, .int .i64 0, .int .i64 0, .int .i64 0, .int .i64 0] 29)).drew w3.heap.size [m0, m1, m2, m3, 0, 0, 0, 0, 0, 0] := (Lies.new w3 [m0, m1, m2, m3, 0, 0, 0, 0, 0, 0] 29 rfl).later (Below.refl _ _).drew
  have hne : w3.heap.size ≠ w.heap.size := by have := X.lt; omega
  have hw3 := hB.size
  have hw4 := T.lt
  have hne0 : w3.heap.size ≠ 0 := by omega
  have hB0 := below_step hB (below_new w3 (.cells #[.int .i64 m0, .int .i64 m1, .int .i64 m2, .int .i64 m3, .int .i64 0, .int .i64 0, .int .i64 0, .int .i64 0, .int .i64 0, .int .i64 0] 29))
  have X0 := X.later (below_new w3 (.cells #[.int .i64 m0, .int .i64 m1, .int .i64 m2, .int .i64 m3, .int .i64 0, .int .i64 0, .int .i64 0, .int .i64 0, .int .i64 0, .int .i64 0] 29))
  replace R := R.later hb
  replace T := T.later hb
  replace X := X.later hb
  replace hB := below_step hB hb
  clear hb S00 S0
  obtain ⟨u0, u1, u2, u3, u4, u5, u6, u7, u8, u9⟩ := Y.ten
  have RD := R.drop 9 HE.out
  rw [if_pos rfl, show 9 - 9 = 0 from rfl] at RD
  have hj : (9 : Int) ≤ (b.length : Int) := by have := HE.out; omega
  have hdl : (b.drop 9).length = 0 := by rw [List.length_drop]; omega
  have HK : Hid (rgE (b.drop 9) = 3) := rgE_short (by omega)
  go_wp2_with fail
  refine (ct _ T).mono ?_
  rintro e w' ⟨rfl, rfl⟩
  go_wp2_with fail
  refine (ruGet_none _ RD hdl (by omega) HK.out (by decide)).mono ?_
  rintro e w5 ⟨rfl, hb⟩
  clear hdl RD
  clear u0 u1 u2 u3 u4 u5 u6 u7 u8 u9
  replace T := T.later hb
  replace X := X.later hb
  replace Y := Y.later hb
  replace hB := below_step hB hb
  clear hb
  obtain ⟨u0, u1, u2, u3, u4, u5, u6, u7, u8, u9⟩ := Y.ten
  have yl := Y.lt
  have yf := Y.fz
  replace X := X.far6 hne (.int .i64 0) (.int .i64 0) (.int .i64 0) (.int .i64 0) (.int .i64 0) (.int .i64 0)
  obtain ⟨x0, x1, x2, x3, x4, x5, x6, x7, x8, x9⟩ := X.ten
  have xl := X.lt
  have xf := X.fz
  go_wp2_with fail
  refine bodyPost_ret (v := .tuple #[.agg #[.int .i64 0, .int .i64 0, .int .i64 0, .int .i64 0, .int .i64 0, .int .i64 0, .int .i64 0, .int .i64 0, .int .i64 0, .int .i64 0], .int .i64 3]) (by simp [results, Tryd.results24, go_sem, x0, x1, x2, x3, x4, x5, x6, x7, x8, x9]) rfl ?_
  exact ⟨rfl, (below_lay10 _ _ _ _ _ _ _ _ _ _ (below_put6 _ _ _ _ _ _ hB (by omega)) (Nat.le_refl _))⟩
set_option maxHeartbeats 2000000 in
theorem mGet_rule1 (w : World) (T : Tab w) {a : Option Addr} {c : Nat} {b : List Int} (R : Reads .u8 w a c b) (hl : b.length ≤ 100000) {m0 m1 m2 m3 : Int} (HE : Hid (9 ≤ b.length)) (HL : Hid (O.gallL b [1, 3, 3, 2] = [m0, m1, m2, m3])) (hq : m0 = 2) (hc9 : ¬ c = 9) {zz : Int} (HK : Hid (rgE (b.drop 9) = zz)) (hz : zz ≠ 0) :
    Calls Tryd.prog 24 #[.slice a b.length c] w fun e w' => e = .returned (.tuple #[.agg #[.int .i64 0, .int .i64 0, .int .i64 0, .int .i64 0, .int .i64 0, .int .i64 0, .int .i64 0, .int .i64 0, .int .i64 0, .int .i64 0], .int .i64 zz]) ∧ Below w.heap.size w w' := by
  have ct := fun w T => mTells_any m0 w T
  rw [decide_eq_true hq] at ct
  clear hq
  have hle := R.le
  have hz2 : (zz != 0) = true := by simpa using hz
  obtain ⟨hE, _, hK⟩ := all4 HE.out
  have X := Lies.new w [0, 0, 0, 0, 0, 0, 0, 0, 0, 0] 29 rfl
  have hB := below_new w (.cells #[.int .i64 0, .int .i64 0, .int .i64 0, .int .i64 0, .int .i64 0, .int .i64 0, .int .i64 0, .int .i64 0, .int .i64 0, .int .i64 0] 29)
  have hmx := Nat.le_trans R.le R.max
  unfold maxLen at hmx
  replace R := R.later hB
  replace T := T.later hB
  have hw0 := T.lt
  go_enter Tryd.func24, Tryd.ntmps24
  go_wp2_with fail
  refine (mWidths_any _).mono ?_
  rintro e w1 ⟨a1, k1, rfl, R1, hb⟩
  replace R := R.later hb
  replace T := T.later hb
  replace X := X.later hb
  replace hB := below_step hB hb
  clear hb
  go_wp2_with fail
  refine (getAll4 _ R R1 hl).mono ?_
  rintro e w3 ⟨a3, k3, rfl, R3, hb⟩
  clear R1
  replace R := R.later hb
  replace T := T.later hb
  replace X := X.later hb
  replace hB := below_step hB hb
  clear hb
  rw [HL.out] at R3
  rw [HL.out, hK, hE]
  clear hE hK
  obtain ⟨b3, o3, rfl, lt3, hc⟩ := reads_at R3 (by simp)
  have y0 := hc 0 m0 rfl
  have y1 := hc 1 m1 rfl
  have y2 := hc 2 m2 rfl
  have y3 := hc 3 m3 rfl
  rw [Nat.add_zero] at y0
  have S00 : Below w3.heap.size w3 w3 ∧ b3 < w3.heap.size ∧ w3.cell? ⟨b3, o3, none⟩ = some (.int .i64 m0) ∧ w3.cell? ⟨b3, o3 + 1, none⟩ = some (.int .i64 m1) ∧ w3.cell? ⟨b3, o3 + 2, none⟩ = some (.int .i64 m2) ∧ w3.cell? ⟨b3, o3 + 3, none⟩ = some (.int .i64 m3) := ⟨Below.refl _ _, lt3, y0, y1, y2, y3⟩
  have S0 : Below w3.heap.size w3 w3.drew ∧ b3 < w3.drew.heap.size ∧ w3.drew.cell? ⟨b3, o3, none⟩ = some (.int .i64 m0) ∧ w3.drew.cell? ⟨b3, o3 + 1, none⟩ = some (.int .i64 m1) ∧ w3.drew.cell? ⟨b3, o3 + 2, none⟩ = some (.int .i64 m2) ∧ w3.drew.cell? ⟨b3, o3 + 3, none⟩ = some (.int .i64 m3) := keptM S00 (Below.refl _ _).drew
  clear hc R3 y0 y1 y2 y3
  go_wp2_with fail
  go_region_held3 (fun w' => Below w3.heap.size w3 w' ∧ b3 < w'.heap.size ∧ w'.cell? ⟨b3, o3, none⟩ = some (.int .i64 m0) ∧ w'.cell? ⟨b3, o3 + 1, none⟩ = some (.int .i64 m1) ∧ w'.cell? ⟨b3, o3 + 2, none⟩ = some (.int .i64 m2) ∧ w'.cell? ⟨b3, o3 + 3, none⟩ = some (.int .i64 m3))
    (first | assumption | exact keptM S00 (below_new _ _).drew | exact keptM S00 (below_new _ _))
    (first | fail)
  have hb : Below w3.heap.size w3 (w3.alloc (.cells #[.int .i64 m0, .int .i64 m1, .int .i64 m2, .int .i64 m3, .int .i64 0, .int .i64 0, .int .i64 0, .int .i64 0, .int .i64 0, .int .i64 0] 29)).drew := (below_new w3 _).drew
  have Y : Lies (w3.alloc (.cells #[.int .i64 m0, .int .i64 m1, .int .i64 m2, .int .i64 m3, .int .i64 0, .int .i64 0, .int .i64 0, .int .i64 0, .int .i64 0, .int .i64 0] 29)).drew w3.heap.size [m0, m1, m2, m3, 0, 0, 0, 0, 0, 0] := (Lies.new w3 [m0, m1, m2, m3, 0, 0, 0, 0, 0, 0] 29 rfl).later (Below.refl _ _).drew
  have hne : w3.heap.size ≠ w.heap.size := by have := X.lt; omega
  have hw3 := hB.size
  have hw4 := T.lt
  have hne0 : w3.heap.size ≠ 0 := by omega
  have hB0 := below_step hB (below_new w3 (.cells #[.int .i64 m0, .int .i64 m1, .int .i64 m2, .int .i64 m3, .int .i64 0, .int .i64 0, .int .i64 0, .int .i64 0, .int .i64 0, .int .i64 0] 29))
  have X0 := X.later (below_new w3 (.cells #[.int .i64 m0, .int .i64 m1, .int .i64 m2, .int .i64 m3, .int .i64 0, .int .i64 0, .int .i64 0, .int .i64 0, .int .i64 0, .int .i64 0] 29))
  replace R := R.later hb
  replace T := T.later hb
  replace X := X.later hb
  replace hB := below_step hB hb
  clear hb S00 S0
  obtain ⟨u0, u1, u2, u3, u4, u5, u6, u7, u8, u9⟩ := Y.ten
  have RD := R.drop 9 HE.out
  rw [if_neg hc9] at RD
  have hj : (9 : Int) ≤ (b.length : Int) := by have := HE.out; omega
  have hdl : (b.drop 9).length = b.length - 9 := by simp
  have hjc : (9 : Int) ≤ (c : Int) := by omega
  go_wp2_with fail
  refine (ct _ T).mono ?_
  rintro e w' ⟨rfl, rfl⟩
  go_wp2_with fail
  refine (ruGet_none _ RD hdl (by omega) HK.out hz).mono ?_
  rintro e w5 ⟨rfl, hb⟩
  clear hdl RD
  clear u0 u1 u2 u3 u4 u5 u6 u7 u8 u9
  replace T := T.later hb
  replace X := X.later hb
  replace Y := Y.later hb
  replace hB := below_step hB hb
  clear hb
  obtain ⟨u0, u1, u2, u3, u4, u5, u6, u7, u8, u9⟩ := Y.ten
  have yl := Y.lt
  have yf := Y.fz
  replace X := X.far6 hne (.int .i64 0) (.int .i64 0) (.int .i64 0) (.int .i64 0) (.int .i64 0) (.int .i64 0)
  obtain ⟨x0, x1, x2, x3, x4, x5, x6, x7, x8, x9⟩ := X.ten
  have xl := X.lt
  have xf := X.fz
  go_wp2_with fail
  refine bodyPost_ret (v := .tuple #[.agg #[.int .i64 0, .int .i64 0, .int .i64 0, .int .i64 0, .int .i64 0, .int .i64 0, .int .i64 0, .int .i64 0, .int .i64 0, .int .i64 0], .int .i64 zz]) (by simp [results, Tryd.results24, go_sem, x0, x1, x2, x3, x4, x5, x6, x7, x8, x9]) rfl ?_
  exact ⟨rfl, (below_lay10 _ _ _ _ _ _ _ _ _ _ (below_put6 _ _ _ _ _ _ hB (by omega)) (Nat.le_refl _))⟩
set_option maxHeartbeats 2000000 in
theorem mGet_add_long (w : World) (T : Tab w) {a : Option Addr} {c : Nat} {b : List Int} (R : Reads .u8 w a c b) (hl : b.length ≤ 100000) {m0 m1 m2 m3 : Int} (HE : Hid (9 ≤ b.length)) (HL : Hid (O.gallL b [1, 3, 3, 2] = [m0, m1, m2, m3])) (hq : m0 = 2) {x0 x1 x2 x3 x4 x5 : Int} (HK : Hid (rgE (b.drop 9) = 0)) (HX : Hid (x0 = n0 (b.drop 9) ∧ x1 = n1 (b.drop 9) ∧ x2 = n2 (b.drop 9) - 1 ∧ x3 = n3 (b.drop 9) ∧ x4 = n4 (b.drop 9) ∧ x5 = n5 (b.drop 9))) (hn : 18 < b.length) :
    Calls Tryd.prog 24 #[.slice a b.length c] w fun e w' => e = .returned (.tuple #[.agg #[.int .i64 0, .int .i64 0, .int .i64 0, .int .i64 0, .int .i64 0, .int .i64 0, .int .i64 0, .int .i64 0, .int .i64 0, .int .i64 0], .int .i64 2]) ∧ Below w.heap.size w w' := by
  have ct := fun w T => mTells_any m0 w T
  rw [decide_eq_true hq] at ct
  clear hq
  have hle := R.le
  obtain ⟨hE, _, hK⟩ := all4 HE.out
  have X := Lies.new w [0, 0, 0, 0, 0, 0, 0, 0, 0, 0] 29 rfl
  have hB := below_new w (.cells #[.int .i64 0, .int .i64 0, .int .i64 0, .int .i64 0, .int .i64 0, .int .i64 0, .int .i64 0, .int .i64 0, .int .i64 0, .int .i64 0] 29)
  have hmx := Nat.le_trans R.le R.max
  unfold maxLen at hmx
  replace R := R.later hB
  replace T := T.later hB
  have hw0 := T.lt
  go_enter Tryd.func24, Tryd.ntmps24
  go_wp2_with fail
  refine (mWidths_any _).mono ?_
  rintro e w1 ⟨a1, k1, rfl, R1, hb⟩
  replace R := R.later hb
  replace T := T.later hb
  replace X := X.later hb
  replace hB := below_step hB hb
  clear hb
  go_wp2_with fail
  refine (getAll4 _ R R1 hl).mono ?_
  rintro e w3 ⟨a3, k3, rfl, R3, hb⟩
  clear R1
  replace R := R.later hb
  replace T := T.later hb
  replace X := X.later hb
  replace hB := below_step hB hb
  clear hb
  rw [HL.out] at R3
  rw [HL.out, hK, hE]
  clear hE hK
  obtain ⟨b3, o3, rfl, lt3, hc⟩ := reads_at R3 (by simp)
  have y0 := hc 0 m0 rfl
  have y1 := hc 1 m1 rfl
  have y2 := hc 2 m2 rfl
  have y3 := hc 3 m3 rfl
  rw [Nat.add_zero] at y0
  have S00 : Below w3.heap.size w3 w3 ∧ b3 < w3.heap.size ∧ w3.cell? ⟨b3, o3, none⟩ = some (.int .i64 m0) ∧ w3.cell? ⟨b3, o3 + 1, none⟩ = some (.int .i64 m1) ∧ w3.cell? ⟨b3, o3 + 2, none⟩ = some (.int .i64 m2) ∧ w3.cell? ⟨b3, o3 + 3, none⟩ = some (.int .i64 m3) := ⟨Below.refl _ _, lt3, y0, y1, y2, y3⟩
  have S0 : Below w3.heap.size w3 w3.drew ∧ b3 < w3.drew.heap.size ∧ w3.drew.cell? ⟨b3, o3, none⟩ = some (.int .i64 m0) ∧ w3.drew.cell? ⟨b3, o3 + 1, none⟩ = some (.int .i64 m1) ∧ w3.drew.cell? ⟨b3, o3 + 2, none⟩ = some (.int .i64 m2) ∧ w3.drew.cell? ⟨b3, o3 + 3, none⟩ = some (.int .i64 m3) := keptM S00 (Below.refl _ _).drew
  clear hc R3 y0 y1 y2 y3
  go_wp2_with fail
  go_region_held3 (fun w' => Below w3.heap.size w3 w' ∧ b3 < w'.heap.size ∧ w'.cell? ⟨b3, o3, none⟩ = some (.int .i64 m0) ∧ w'.cell? ⟨b3, o3 + 1, none⟩ = some (.int .i64 m1) ∧ w'.cell? ⟨b3, o3 + 2, none⟩ = some (.int .i64 m2) ∧ w'.cell? ⟨b3, o3 + 3, none⟩ = some (.int .i64 m3))
    (first | assumption | exact keptM S00 (below_new _ _).drew | exact keptM S00 (below_new _ _))
    (first | fail)
  have hb : Below w3.heap.size w3 (w3.alloc (.cells #[.int .i64 m0, .int .i64 m1, .int .i64 m2, .int .i64 m3, .int .i64 0, .int .i64 0, .int .i64 0, .int .i64 0, .int .i64 0, .int .i64 0] 29)).drew := (below_new w3 _).drew
  have Y : Lies (w3.alloc (.cells #[.int .i64 m0, .int .i64 m1, .int .i64 m2, .int .i64 m3, .int .i64 0, .int .i64 0, .int .i64 0, .int .i64 0, .int .i64 0, .int .i64 0] 29)).drew w3.heap.size [m0, m1, m2, m3, 0, 0, 0, 0, 0, 0] := (Lies.new w3 [m0, m1, m2, m3, 0, 0, 0, 0, 0, 0] 29 rfl).later (Below.refl _ _).drew
  have hne : w3.heap.size ≠ w.heap.size := by have := X.lt; omega
  have hw3 := hB.size
  have hw4 := T.lt
  have hne0 : w3.heap.size ≠ 0 := by omega
  have hB0 := below_step hB (below_new w3 (.cells #[.int .i64 m0, .int .i64 m1, .int .i64 m2, .int .i64 m3, .int .i64 0, .int .i64 0, .int .i64 0, .int .i64 0, .int .i64 0, .int .i64 0] 29))
  have X0 := X.later (below_new w3 (.cells #[.int .i64 m0, .int .i64 m1, .int .i64 m2, .int .i64 m3, .int .i64 0, .int .i64 0, .int .i64 0, .int .i64 0, .int .i64 0, .int .i64 0] 29))
  replace R := R.later hb
  replace T := T.later hb
  replace X := X.later hb
  replace hB := below_step hB hb
  clear hb S00 S0
  obtain ⟨u0, u1, u2, u3, u4, u5, u6, u7, u8, u9⟩ := Y.ten
  have hc9 : ¬ c = 9 := by omega
  have RD := R.drop 9 HE.out
  rw [if_neg hc9] at RD
  have hj : (9 : Int) ≤ (b.length : Int) := by have := HE.out; omega
  have hdl : (b.drop 9).length = b.length - 9 := by simp
  have hjc : (9 : Int) ≤ (c : Int) := by omega
  go_wp2_with fail
  refine (ct _ T).mono ?_
  rintro e w' ⟨rfl, rfl⟩
  go_wp2_with fail
  refine (ruGet_some _ RD hdl (by omega) HK.out HX.out).mono ?_
  rintro e w5 ⟨rfl, hb⟩
  clear hdl RD
  clear u0 u1 u2 u3 u4 u5 u6 u7 u8 u9
  replace T := T.later hb
  replace X := X.later hb
  replace Y := Y.later hb
  replace hB := below_step hB hb
  clear hb
  obtain ⟨u0, u1, u2, u3, u4, u5, u6, u7, u8, u9⟩ := Y.ten
  have yl := Y.lt
  have yf := Y.fz
  have X5 := X.far6 hne (.int .i64 x0) (.int .i64 x1) (.int .i64 x2) (.int .i64 x3) (.int .i64 x4) (.int .i64 x5)
  have T5 := T.far6 hne0 (.int .i64 x0) (.int .i64 x1) (.int .i64 x2) (.int .i64 x3) (.int .i64 x4) (.int .i64 x5)
  have Y5 := Y.put6 x0 x1 x2 x3 x4 x5
  have hB5 := below_put6 (.int .i64 x0) (.int .i64 x1) (.int .i64 x2) (.int .i64 x3) (.int .i64 x4) (.int .i64 x5) hB hw3
  clear X T hB
  have X := X5
  have T := T5
  have hB := hB5
  clear X5 T5 hB5
  have hn2 : (18 : Int) < (b.length : Int) := by omega
  clear T Y5
  obtain ⟨xx0, xx1, xx2, xx3, xx4, xx5, xx6, xx7, xx8, xx9⟩ := X.ten
  have xl := X.lt
  have xf := X.fz
  go_wp2_with fail
  refine bodyPost_ret (v := .tuple #[.agg #[.int .i64 0, .int .i64 0, .int .i64 0, .int .i64 0, .int .i64 0, .int .i64 0, .int .i64 0, .int .i64 0, .int .i64 0, .int .i64 0], .int .i64 2]) (by simp [results, Tryd.results24, go_sem, xx0, xx1, xx2, xx3, xx4, xx5, xx6, xx7, xx8, xx9]) rfl ?_
  exact ⟨rfl, (below_lay10 _ _ _ _ _ _ _ _ _ _ hB (Nat.le_refl _))⟩
set_option maxHeartbeats 2000000 in
theorem mGet_add_no (w : World) (T : Tab w) {a : Option Addr} {c : Nat} {b : List Int} (R : Reads .u8 w a c b) (hl : b.length ≤ 100000) {m0 m1 m2 m3 : Int} (HE : Hid (9 ≤ b.length)) (HL : Hid (O.gallL b [1, 3, 3, 2] = [m0, m1, m2, m3])) (hq : m0 = 2) {x0 x1 x2 x3 x4 x5 : Int} (HK : Hid (rgE (b.drop 9) = 0)) (HX : Hid (x0 = n0 (b.drop 9) ∧ x1 = n1 (b.drop 9) ∧ x2 = n2 (b.drop 9) - 1 ∧ x3 = n3 (b.drop 9) ∧ x4 = n4 (b.drop 9) ∧ x5 = n5 (b.drop 9))) (hn : b.length ≤ 18) (hn2 : 18 ≤ b.length) (hk : okM m0 m1 m2 m3 x0 x1 x2 x3 x4 x5 = false) :
    Calls Tryd.prog 24 #[.slice a b.length c] w fun e w' => e = .returned (.tuple #[.agg #[.int .i64 0, .int .i64 0, .int .i64 0, .int .i64 0, .int .i64 0, .int .i64 0, .int .i64 0, .int .i64 0, .int .i64 0, .int .i64 0], .int .i64 2]) ∧ Below w.heap.size w w' := by
  have ct := fun w T => mTells_any m0 w T
  rw [decide_eq_true hq] at ct
  clear hq
  have cm := fun w T => mMay_any m0 m1 m2 m3 x0 x1 x2 x3 x4 x5 w T
  rw [hk] at cm
  have hle := R.le
  obtain ⟨hE, _, hK⟩ := all4 HE.out
  have X := Lies.new w [0, 0, 0, 0, 0, 0, 0, 0, 0, 0] 29 rfl
  have hB := below_new w (.cells #[.int .i64 0, .int .i64 0, .int .i64 0, .int .i64 0, .int .i64 0, .int .i64 0, .int .i64 0, .int .i64 0, .int .i64 0, .int .i64 0] 29)
  have hmx := Nat.le_trans R.le R.max
  unfold maxLen at hmx
  replace R := R.later hB
  replace T := T.later hB
  have hw0 := T.lt
  go_enter Tryd.func24, Tryd.ntmps24
  go_wp2_with fail
  refine (mWidths_any _).mono ?_
  rintro e w1 ⟨a1, k1, rfl, R1, hb⟩
  replace R := R.later hb
  replace T := T.later hb
  replace X := X.later hb
  replace hB := below_step hB hb
  clear hb
  go_wp2_with fail
  refine (getAll4 _ R R1 hl).mono ?_
  rintro e w3 ⟨a3, k3, rfl, R3, hb⟩
  clear R1
  replace R := R.later hb
  replace T := T.later hb
  replace X := X.later hb
  replace hB := below_step hB hb
  clear hb
  rw [HL.out] at R3
  rw [HL.out, hK, hE]
  clear hE hK
  obtain ⟨b3, o3, rfl, lt3, hc⟩ := reads_at R3 (by simp)
  have y0 := hc 0 m0 rfl
  have y1 := hc 1 m1 rfl
  have y2 := hc 2 m2 rfl
  have y3 := hc 3 m3 rfl
  rw [Nat.add_zero] at y0
  have S00 : Below w3.heap.size w3 w3 ∧ b3 < w3.heap.size ∧ w3.cell? ⟨b3, o3, none⟩ = some (.int .i64 m0) ∧ w3.cell? ⟨b3, o3 + 1, none⟩ = some (.int .i64 m1) ∧ w3.cell? ⟨b3, o3 + 2, none⟩ = some (.int .i64 m2) ∧ w3.cell? ⟨b3, o3 + 3, none⟩ = some (.int .i64 m3) := ⟨Below.refl _ _, lt3, y0, y1, y2, y3⟩
  have S0 : Below w3.heap.size w3 w3.drew ∧ b3 < w3.drew.heap.size ∧ w3.drew.cell? ⟨b3, o3, none⟩ = some (.int .i64 m0) ∧ w3.drew.cell? ⟨b3, o3 + 1, none⟩ = some (.int .i64 m1) ∧ w3.drew.cell? ⟨b3, o3 + 2, none⟩ = some (.int .i64 m2) ∧ w3.drew.cell? ⟨b3, o3 + 3, none⟩ = some (.int .i64 m3) := keptM S00 (Below.refl _ _).drew
  clear hc R3 y0 y1 y2 y3
  go_wp2_with fail
  go_region_held3 (fun w' => Below w3.heap.size w3 w' ∧ b3 < w'.heap.size ∧ w'.cell? ⟨b3, o3, none⟩ = some (.int .i64 m0) ∧ w'.cell? ⟨b3, o3 + 1, none⟩ = some (.int .i64 m1) ∧ w'.cell? ⟨b3, o3 + 2, none⟩ = some (.int .i64 m2) ∧ w'.cell? ⟨b3, o3 + 3, none⟩ = some (.int .i64 m3))
    (first | assumption | exact keptM S00 (below_new _ _).drew | exact keptM S00 (below_new _ _))
    (first | fail)
  have hb : Below w3.heap.size w3 (w3.alloc (.cells #[.int .i64 m0, .int .i64 m1, .int .i64 m2, .int .i64 m3, .int .i64 0, .int .i64 0, .int .i64 0, .int .i64 0, .int .i64 0, .int .i64 0] 29)).drew := (below_new w3 _).drew
  have Y : Lies (w3.alloc (.cells #[.int .i64 m0, .int .i64 m1, .int .i64 m2, .int .i64 m3, .int .i64 0, .int .i64 0, .int .i64 0, .int .i64 0, .int .i64 0, .int .i64 0] 29)).drew w3.heap.size [m0, m1, m2, m3, 0, 0, 0, 0, 0, 0] := (Lies.new w3 [m0, m1, m2, m3, 0, 0, 0, 0, 0, 0] 29 rfl).later (Below.refl _ _).drew
  have hne : w3.heap.size ≠ w.heap.size := by have := X.lt; omega
  have hw3 := hB.size
  have hw4 := T.lt
  have hne0 : w3.heap.size ≠ 0 := by omega
  have hB0 := below_step hB (below_new w3 (.cells #[.int .i64 m0, .int .i64 m1, .int .i64 m2, .int .i64 m3, .int .i64 0, .int .i64 0, .int .i64 0, .int .i64 0, .int .i64 0, .int .i64 0] 29))
  have X0 := X.later (below_new w3 (.cells #[.int .i64 m0, .int .i64 m1, .int .i64 m2, .int .i64 m3, .int .i64 0, .int .i64 0, .int .i64 0, .int .i64 0, .int .i64 0, .int .i64 0] 29))
  replace R := R.later hb
  replace T := T.later hb
  replace X := X.later hb
  replace hB := below_step hB hb
  clear hb S00 S0
  obtain ⟨u0, u1, u2, u3, u4, u5, u6, u7, u8, u9⟩ := Y.ten
  have hc9 : ¬ c = 9 := by omega
  have RD := R.drop 9 HE.out
  rw [if_neg hc9] at RD
  have hj : (9 : Int) ≤ (b.length : Int) := by have := HE.out; omega
  have hdl : (b.drop 9).length = b.length - 9 := by simp
  have hjc : (9 : Int) ≤ (c : Int) := by omega
  go_wp2_with fail
  refine (ct _ T).mono ?_
  rintro e w' ⟨rfl, rfl⟩
  go_wp2_with fail
  refine (ruGet_some _ RD hdl (by omega) HK.out HX.out).mono ?_
  rintro e w5 ⟨rfl, hb⟩
  clear hdl RD
  clear u0 u1 u2 u3 u4 u5 u6 u7 u8 u9
  replace T := T.later hb
  replace X := X.later hb
  replace Y := Y.later hb
  replace hB := below_step hB hb
  clear hb
  obtain ⟨u0, u1, u2, u3, u4, u5, u6, u7, u8, u9⟩ := Y.ten
  have yl := Y.lt
  have yf := Y.fz
  have X5 := X.far6 hne (.int .i64 x0) (.int .i64 x1) (.int .i64 x2) (.int .i64 x3) (.int .i64 x4) (.int .i64 x5)
  have T5 := T.far6 hne0 (.int .i64 x0) (.int .i64 x1) (.int .i64 x2) (.int .i64 x3) (.int .i64 x4) (.int .i64 x5)
  have Y5 := Y.put6 x0 x1 x2 x3 x4 x5
  have hB5 := below_put6 (.int .i64 x0) (.int .i64 x1) (.int .i64 x2) (.int .i64 x3) (.int .i64 x4) (.int .i64 x5) hB hw3
  clear X T hB
  have X := X5
  have T := T5
  have hB := hB5
  clear X5 T5 hB5
  go_wp2_with fail
  refine (cm _ T).mono ?_
  rintro e w6 ⟨rfl, hb⟩
  clear Y
  have Y := Y5
  clear Y5 yl yf
  clear u0 u1 u2 u3 u4 u5 u6 u7 u8 u9
  replace T := T.later hb
  replace X := X.later hb
  replace Y := Y.later hb
  replace hB := below_step hB hb
  clear hb
  obtain ⟨u0, u1, u2, u3, u4, u5, u6, u7, u8, u9⟩ := Y.ten
  obtain ⟨xx0, xx1, xx2, xx3, xx4, xx5, xx6, xx7, xx8, xx9⟩ := X.ten
  have xl := X.lt
  have xf := X.fz
  go_wp2_with fail
  refine bodyPost_ret (v := .tuple #[.agg #[.int .i64 0, .int .i64 0, .int .i64 0, .int .i64 0, .int .i64 0, .int .i64 0, .int .i64 0, .int .i64 0, .int .i64 0, .int .i64 0], .int .i64 2]) (by simp [results, Tryd.results24, go_sem, xx0, xx1, xx2, xx3, xx4, xx5, xx6, xx7, xx8, xx9]) rfl ?_
  exact ⟨rfl, (below_lay10 _ _ _ _ _ _ _ _ _ _ hB (Nat.le_refl _))⟩
set_option maxHeartbeats 2000000 in
theorem mGet_add_yes (w : World) (T : Tab w) {a : Option Addr} {c : Nat} {b : List Int} (R : Reads .u8 w a c b) (hl : b.length ≤ 100000) {m0 m1 m2 m3 : Int} (HE : Hid (9 ≤ b.length)) (HL : Hid (O.gallL b [1, 3, 3, 2] = [m0, m1, m2, m3])) (hq : m0 = 2) {x0 x1 x2 x3 x4 x5 : Int} (HK : Hid (rgE (b.drop 9) = 0)) (HX : Hid (x0 = n0 (b.drop 9) ∧ x1 = n1 (b.drop 9) ∧ x2 = n2 (b.drop 9) - 1 ∧ x3 = n3 (b.drop 9) ∧ x4 = n4 (b.drop 9) ∧ x5 = n5 (b.drop 9))) (hn : b.length ≤ 18) (hn2 : 18 ≤ b.length) (hk : okM m0 m1 m2 m3 x0 x1 x2 x3 x4 x5 = true) :
    Calls Tryd.prog 24 #[.slice a b.length c] w fun e w' => e = .returned (.tuple #[.agg #[.int .i64 m0, .int .i64 m1, .int .i64 m2, .int .i64 m3, .int .i64 x0, .int .i64 x1, .int .i64 x2, .int .i64 x3, .int .i64 x4, .int .i64 x5], .int .i64 0]) ∧ Below w.heap.size w w' := by
  have ct := fun w T => mTells_any m0 w T
  rw [decide_eq_true hq] at ct
  clear hq
  have cm := fun w T => mMay_any m0 m1 m2 m3 x0 x1 x2 x3 x4 x5 w T
  rw [hk] at cm
  have hle := R.le
  obtain ⟨hE, _, hK⟩ := all4 HE.out
  have X := Lies.new w [0, 0, 0, 0, 0, 0, 0, 0, 0, 0] 29 rfl
  have hB := below_new w (.cells #[.int .i64 0, .int .i64 0, .int .i64 0, .int .i64 0, .int .i64 0, .int .i64 0, .int .i64 0, .int .i64 0, .int .i64 0, .int .i64 0] 29)
  have hmx := Nat.le_trans R.le R.max
  unfold maxLen at hmx
  replace R := R.later hB
  replace T := T.later hB
  have hw0 := T.lt
  go_enter Tryd.func24, Tryd.ntmps24
  go_wp2_with fail
  refine (mWidths_any _).mono ?_
  rintro e w1 ⟨a1, k1, rfl, R1, hb⟩
  replace R := R.later hb
  replace T := T.later hb
  replace X := X.later hb
  replace hB := below_step hB hb
  clear hb
  go_wp2_with fail
  refine (getAll4 _ R R1 hl).mono ?_
  rintro e w3 ⟨a3, k3, rfl, R3, hb⟩
  clear R1
  replace R := R.later hb
  replace T := T.later hb
  replace X := X.later hb
  replace hB := below_step hB hb
  clear hb
  rw [HL.out] at R3
  rw [HL.out, hK, hE]
  clear hE hK
  obtain ⟨b3, o3, rfl, lt3, hc⟩ := reads_at R3 (by simp)
  have y0 := hc 0 m0 rfl
  have y1 := hc 1 m1 rfl
  have y2 := hc 2 m2 rfl
  have y3 := hc 3 m3 rfl
  rw [Nat.add_zero] at y0
  have S00 : Below w3.heap.size w3 w3 ∧ b3 < w3.heap.size ∧ w3.cell? ⟨b3, o3, none⟩ = some (.int .i64 m0) ∧ w3.cell? ⟨b3, o3 + 1, none⟩ = some (.int .i64 m1) ∧ w3.cell? ⟨b3, o3 + 2, none⟩ = some (.int .i64 m2) ∧ w3.cell? ⟨b3, o3 + 3, none⟩ = some (.int .i64 m3) := ⟨Below.refl _ _, lt3, y0, y1, y2, y3⟩
  have S0 : Below w3.heap.size w3 w3.drew ∧ b3 < w3.drew.heap.size ∧ w3.drew.cell? ⟨b3, o3, none⟩ = some (.int .i64 m0) ∧ w3.drew.cell? ⟨b3, o3 + 1, none⟩ = some (.int .i64 m1) ∧ w3.drew.cell? ⟨b3, o3 + 2, none⟩ = some (.int .i64 m2) ∧ w3.drew.cell? ⟨b3, o3 + 3, none⟩ = some (.int .i64 m3) := keptM S00 (Below.refl _ _).drew
  clear hc R3 y0 y1 y2 y3
  go_wp2_with fail
  go_region_held3 (fun w' => Below w3.heap.size w3 w' ∧ b3 < w'.heap.size ∧ w'.cell? ⟨b3, o3, none⟩ = some (.int .i64 m0) ∧ w'.cell? ⟨b3, o3 + 1, none⟩ = some (.int .i64 m1) ∧ w'.cell? ⟨b3, o3 + 2, none⟩ = some (.int .i64 m2) ∧ w'.cell? ⟨b3, o3 + 3, none⟩ = some (.int .i64 m3))
    (first | assumption | exact keptM S00 (below_new _ _).drew | exact keptM S00 (below_new _ _))
    (first | fail)
  have hb : Below w3.heap.size w3 (w3.alloc (.cells #[.int .i64 m0, .int .i64 m1, .int .i64 m2, .int .i64 m3, .int .i64 0, .int .i64 0, .int .i64 0, .int .i64 0, .int .i64 0, .int .i64 0] 29)).drew := (below_new w3 _).drew
  have Y : Lies (w3.alloc (.cells #[.int .i64 m0, .int .i64 m1, .int .i64 m2, .int .i64 m3, .int .i64 0, .int .i64 0, .int .i64 0, .int .i64 0, .int .i64 0, .int .i64 0] 29)).drew w3.heap.size [m0, m1, m2, m3, 0, 0, 0, 0, 0, 0] := (Lies.new w3 [m0, m1, m2, m3, 0, 0, 0, 0, 0, 0] 29 rfl).later (Below.refl _ _).drew
  have hne : w3.heap.size ≠ w.heap.size := by have := X.lt; omega
  have hw3 := hB.size
  have hw4 := T.lt
  have hne0 : w3.heap.size ≠ 0 := by omega
  have hB0 := below_step hB (below_new w3 (.cells #[.int .i64 m0, .int .i64 m1, .int .i64 m2, .int .i64 m3, .int .i64 0, .int .i64 0, .int .i64 0, .int .i64 0, .int .i64 0, .int .i64 0] 29))
  have X0 := X.later (below_new w3 (.cells #[.int .i64 m0, .int .i64 m1, .int .i64 m2, .int .i64 m3, .int .i64 0, .int .i64 0, .int .i64 0, .int .i64 0, .int .i64 0, .int .i64 0] 29))
  replace R := R.later hb
  replace T := T.later hb
  replace X := X.later hb
  replace hB := below_step hB hb
  clear hb S00 S0
  obtain ⟨u0, u1, u2, u3, u4, u5, u6, u7, u8, u9⟩ := Y.ten
  have hc9 : ¬ c = 9 := by omega
  have RD := R.drop 9 HE.out
  rw [if_neg hc9] at RD
  have hj : (9 : Int) ≤ (b.length : Int) := by have := HE.out; omega
  have hdl : (b.drop 9).length = b.length - 9 := by simp
  have hjc : (9 : Int) ≤ (c : Int) := by omega
  go_wp2_with fail
  refine (ct _ T).mono ?_
  rintro e w' ⟨rfl, rfl⟩
  go_wp2_with fail
  refine (ruGet_some _ RD hdl (by omega) HK.out HX.out).mono ?_
  rintro e w5 ⟨rfl, hb⟩
  clear hdl RD
  clear u0 u1 u2 u3 u4 u5 u6 u7 u8 u9
  replace T := T.later hb
  replace X := X.later hb
  replace Y := Y.later hb
  replace hB := below_step hB hb
  clear hb
  obtain ⟨u0, u1, u2, u3, u4, u5, u6, u7, u8, u9⟩ := Y.ten
  have yl := Y.lt
  have yf := Y.fz
  have X5 := X.far6 hne (.int .i64 x0) (.int .i64 x1) (.int .i64 x2) (.int .i64 x3) (.int .i64 x4) (.int .i64 x5)
  have T5 := T.far6 hne0 (.int .i64 x0) (.int .i64 x1) (.int .i64 x2) (.int .i64 x3) (.int .i64 x4) (.int .i64 x5)
  have Y5 := Y.put6 x0 x1 x2 x3 x4 x5
  have hB5 := below_put6 (.int .i64 x0) (.int .i64 x1) (.int .i64 x2) (.int .i64 x3) (.int .i64 x4) (.int .i64 x5) hB hw3
  clear X T hB
  have X := X5
  have T := T5
  have hB := hB5
  clear X5 T5 hB5
  go_wp2_with fail
  refine (cm _ T).mono ?_
  rintro e w6 ⟨rfl, hb⟩
  clear Y
  have Y := Y5
  clear Y5 yl yf
  clear u0 u1 u2 u3 u4 u5 u6 u7 u8 u9
  replace T := T.later hb
  replace X := X.later hb
  replace Y := Y.later hb
  replace hB := below_step hB hb
  clear hb
  obtain ⟨u0, u1, u2, u3, u4, u5, u6, u7, u8, u9⟩ := Y.ten
  obtain ⟨xx0, xx1, xx2, xx3, xx4, xx5, xx6, xx7, xx8, xx9⟩ := X.ten
  have xl := X.lt
  have xf := X.fz
  go_wp2_with fail
  refine bodyPost_ret (v := .tuple #[.agg #[.int .i64 m0, .int .i64 m1, .int .i64 m2, .int .i64 m3, .int .i64 x0, .int .i64 x1, .int .i64 x2, .int .i64 x3, .int .i64 x4, .int .i64 x5], .int .i64 0]) (by simp [results, Tryd.results24, go_sem, xx0, xx1, xx2, xx3, xx4, xx5, xx6, xx7, xx8, xx9]) rfl ?_
  exact ⟨rfl, (below_lay10 _ _ _ _ _ _ _ _ _ _ hB (Nat.le_refl _))⟩
/-- Get, of bytes that are no message -/
theorem mGet_none (w : World) (T : Tab w) {a : Option Addr} {c N : Nat} {b : List Int} {zz : Int} (R : Reads .u8 w a c b) (hN : b.length = N) (hl : N ≤ 100000) (h : mgE b = zz) (h0 : zz ≠ 0) :
    Calls Tryd.prog 24 #[.slice a N c] w fun e w' => e = .returned (.tuple #[.agg #[.int .i64 0, .int .i64 0, .int .i64 0, .int .i64 0, .int .i64 0, .int .i64 0, .int .i64 0, .int .i64 0, .int .i64 0, .int .i64 0], .int .i64 zz]) ∧ Below w.heap.size w w' := by
  subst hN
  by_cases hs : b.length < 9
  · rw [mgE_short hs] at h
    subst h
    exact mGet_short w T R hl hs
  have he : 9 ≤ b.length := by omega
  have hL := (all4 he).2.1
  have hle := R.le
  by_cases hq : q0 b = 2
  · have l18 : lenG b = 18 := lenM_two hq
    by_cases h18 : b.length < 18
    · rw [mgE_more (by omega)] at h
      subst h
      by_cases hc : c = 9
      · exact mGet_rule0 w T R hl he hL hq hc
      · exact mGet_rule1 w T R hl he hL hq hc (rgE_short (by rw [List.length_drop]; omega)) (by decide)
    have hz : zz = 2 := by
      rcases mgE_vals b with h1 | h1 | h1
      · exact absurd (h.symm.trans h1) h0
      · exact h.symm.trans h1
      · unfold mgE at h1
        rw [if_neg (by omega), if_neg (by omega)] at h1
        split at h1
        · cases h1
        · split at h1 <;> cases h1
    subst hz
    have hd : 9 ≤ (b.drop 9).length := by rw [List.length_drop]; omega
    cases hk : okGot (b.drop 9)
    · exact mGet_rule1 w T R hl he hL hq (by omega) (rgE_form hd hk) (by decide)
    · by_cases h19 : 18 < b.length
      · exact mGet_add_long w T R hl he hL hq (rgE_ok hd hk) ⟨rfl, rfl, rfl, rfl, rfl, rfl⟩ h19
      · refine mGet_add_no w T R hl he hL hq (rgE_ok hd hk) ⟨rfl, rfl, rfl, rfl, rfl, rfl⟩ (by omega) (by omega) ?_
        cases hm : okG b
        · obtain ⟨e0, e1, e2, e3, e4, e5⟩ := r_two hq
          rw [← e0, ← e1, ← e2, ← e3, ← e4, ← e5]
          exact hm
        · exact absurd (h.symm.trans (mgE_ok (by omega) hm)) (by decide)
  · have l9 : lenG b = 9 := lenM_not hq
    obtain ⟨e0, e1, e2, e3, e4, e5⟩ := r_not hq
    by_cases h10 : 9 < b.length
    · rw [mgE_long (by omega)] at h
      subst h
      exact mGet_bare_long w T R hl he hL hq h10
    · cases hm : okG b
      · rw [mgE_form (by omega) hm] at h
        subst h
        refine mGet_bare_no w T R hl he hL hq (by omega) ?_
        unfold okG at hm
        rw [e0, e1, e2, e3, e4, e5] at hm
        exact hm
      · exact absurd (h.symm.trans (mgE_ok (by omega) hm)) h0
/-- Get, of a message's bytes -/
theorem mGet_some (w : World) (T : Tab w) {a : Option Addr} {c N : Nat} {b : List Int} {y z v g a' n i p k t : Int} (R : Reads .u8 w a c b) (hN : b.length = N) (hl : N ≤ 100000) (h : mgE b = 0) (hm : isMsg b y z v g a' n i p k t) :
    Calls Tryd.prog 24 #[.slice a N c] w fun e w' => e = .returned (.tuple #[.agg #[.int .i64 y, .int .i64 z, .int .i64 v, .int .i64 g, .int .i64 a', .int .i64 n, .int .i64 i, .int .i64 p, .int .i64 k, .int .i64 t], .int .i64 0]) ∧ Below w.heap.size w w' := by
  subst hN
  obtain ⟨hlen, hk⟩ := mgE_zero h
  obtain ⟨rfl, rfl, rfl, rfl, rfl, rfl, rfl, rfl, rfl, rfl⟩ := hm
  have he : 9 ≤ b.length := by have := lenG_ge b; omega
  have hL := (all4 he).2.1
  by_cases hq : q0 b = 2
  · have l18 : lenG b = 18 := lenM_two hq
    have hd : 9 ≤ (b.drop 9).length := by rw [List.length_drop]; omega
    exact mGet_add_yes w T R hl he hL hq (rgE_ok hd (okG_rule hk hq)) (r_two hq) (by omega) (by omega) hk
  · have l9 : lenG b = 9 := lenM_not hq
    obtain ⟨e0, e1, e2, e3, e4, e5⟩ := r_not hq
    have hk' : okM (q0 b) (q1 b) (q2 b) (q3 b) 0 0 0 0 0 0 = true := by
      unfold okG at hk
      rwa [e0, e1, e2, e3, e4, e5] at hk
    rw [e0, e1, e2, e3, e4, e5]
    exact mGet_bare_yes w T R hl he hL hq (by omega) hk'
end Go.Proofs.YtklcchmpmilcaaaDoor
