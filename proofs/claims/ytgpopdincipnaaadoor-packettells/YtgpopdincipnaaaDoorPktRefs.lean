/- What the document's answers for packets come to: the contracts of the functions that the statements on package packet are held against. -/
import Derived.Test.YtgpopdincipnaaaDoorPktGet
import Derived.Test.YtgpopdincipnaaaDoorOctAllRefs
namespace Go.Proofs.YtgpopdincipnaaaDoor
open Go.ChangeShapes Go.WideShapes Go.ChangeAt Go.RowKit O
set_option linter.unusedVariables false
set_option linter.unusedSimpArgs false

theorem box_at (w : World) (i s d t g : Int) {B : Nat} (hB : w.heap.size = B) : Box (w.alloc (.cells #[.int .i64 i, .int .i64 s, .int .i64 d, .int .i64 t, .int .i64 g] 23)) B i s d t g := by
  subst hB
  exact Box.new w i s d t g
theorem rword_any (n : Int) (w : World) :
    Calls Tryd.prog 26 #[.int .i64 n] w fun e w' => e = .returned (.bool (decide (0 ≤ n ∧ n ≤ 4294967295))) ∧ w' = w := by
  by_cases h : 0 ≤ n
  · go_enter Tryd.func26, Tryd.ntmps26
    go_wp2
    go_ret
    exact ⟨ret_bool (by simp [h]), rfl⟩
  · go_enter Tryd.func26, Tryd.ntmps26
    go_wp2
    go_ret
    exact ⟨ret_bool (by simp; omega), rfl⟩
set_option maxHeartbeats 1000000 in
theorem rmay_any (i s d t g : Int) (w : World) :
    Calls Tryd.prog 14 #[.agg #[.int .i64 i, .int .i64 s, .int .i64 d, .int .i64 t, .int .i64 g]] w fun e w' => e = .returned (.bool (okPk i s d t g)) ∧ Below w.heap.size w w' := by
  have hok : okPk i s d t g = (decide (0 ≤ i ∧ i ≤ 4294967295) && decide (0 ≤ s ∧ s ≤ 4294967295) && decide (0 ≤ d ∧ d ≤ 4294967295) && decide (0 ≤ t ∧ t ≤ 16) && decide (0 ≤ g ∧ g ≤ 4095)) := rfl
  have hb0 := below_new w (.cells #[.int .i64 i, .int .i64 s, .int .i64 d, .int .i64 t, .int .i64 g] 23)
  rw [hok]
  clear hok
  obtain ⟨x, hx⟩ : ∃ x, decide (0 ≤ i ∧ i ≤ 4294967295) = x := ⟨_, rfl⟩
  obtain ⟨y, hy⟩ : ∃ x, decide (0 ≤ s ∧ s ≤ 4294967295) = x := ⟨_, rfl⟩
  obtain ⟨z, hz⟩ : ∃ x, decide (0 ≤ d ∧ d ≤ 4294967295) = x := ⟨_, rfl⟩
  have c1 := fun w => rword_any i w
  have c2 := fun w => rword_any s w
  have c3 := fun w => rword_any d w
  rw [hx] at c1
  rw [hy] at c2
  rw [hz] at c3
  rw [hx, hy, hz]
  clear hx hy hz
  cases x
  · go_enter Tryd.func14, Tryd.ntmps14
    go_wp2_with fail
    refine (c1 _).mono ?_
    rintro e w' ⟨rfl, rfl⟩
    go_wp2_with fail
    refine (c2 _).mono ?_
    rintro e w' ⟨rfl, rfl⟩
    go_wp2_with fail
    refine (c3 _).mono ?_
    rintro e w' ⟨rfl, rfl⟩
    go_wp2_with fail
    go_ret
    exact ⟨rfl, hb0⟩
  cases y
  · go_enter Tryd.func14, Tryd.ntmps14
    go_wp2_with fail
    refine (c1 _).mono ?_
    rintro e w' ⟨rfl, rfl⟩
    go_wp2_with fail
    refine (c2 _).mono ?_
    rintro e w' ⟨rfl, rfl⟩
    go_wp2_with fail
    refine (c3 _).mono ?_
    rintro e w' ⟨rfl, rfl⟩
    go_wp2_with fail
    go_ret
    exact ⟨rfl, hb0⟩
  cases z
  · go_enter Tryd.func14, Tryd.ntmps14
    go_wp2_with fail
    refine (c1 _).mono ?_
    rintro e w' ⟨rfl, rfl⟩
    go_wp2_with fail
    refine (c2 _).mono ?_
    rintro e w' ⟨rfl, rfl⟩
    go_wp2_with fail
    refine (c3 _).mono ?_
    rintro e w' ⟨rfl, rfl⟩
    go_wp2_with fail
    go_ret
    exact ⟨rfl, hb0⟩
  by_cases h1 : t < 0
  · go_enter Tryd.func14, Tryd.ntmps14
    go_wp2_with fail
    refine (c1 _).mono ?_
    rintro e w' ⟨rfl, rfl⟩
    go_wp2_with fail
    refine (c2 _).mono ?_
    rintro e w' ⟨rfl, rfl⟩
    go_wp2_with fail
    refine (c3 _).mono ?_
    rintro e w' ⟨rfl, rfl⟩
    go_wp2_with fail
    go_ret
    exact ⟨ret_bool (by simp; omega), hb0⟩
  by_cases h2 : 16 < t
  · go_enter Tryd.func14, Tryd.ntmps14
    go_wp2_with fail
    refine (c1 _).mono ?_
    rintro e w' ⟨rfl, rfl⟩
    go_wp2_with fail
    refine (c2 _).mono ?_
    rintro e w' ⟨rfl, rfl⟩
    go_wp2_with fail
    refine (c3 _).mono ?_
    rintro e w' ⟨rfl, rfl⟩
    go_wp2_with fail
    go_ret
    exact ⟨ret_bool (by simp; omega), hb0⟩
  by_cases h3 : g < 0
  · go_enter Tryd.func14, Tryd.ntmps14
    go_wp2_with fail
    refine (c1 _).mono ?_
    rintro e w' ⟨rfl, rfl⟩
    go_wp2_with fail
    refine (c2 _).mono ?_
    rintro e w' ⟨rfl, rfl⟩
    go_wp2_with fail
    refine (c3 _).mono ?_
    rintro e w' ⟨rfl, rfl⟩
    go_wp2_with fail
    go_ret
    exact ⟨ret_bool (by simp; omega), hb0⟩
  go_enter Tryd.func14, Tryd.ntmps14
  go_wp2_with fail
  refine (c1 _).mono ?_
  rintro e w' ⟨rfl, rfl⟩
  go_wp2_with fail
  refine (c2 _).mono ?_
  rintro e w' ⟨rfl, rfl⟩
  go_wp2_with fail
  refine (c3 _).mono ?_
  rintro e w' ⟨rfl, rfl⟩
  go_wp2_with fail
  go_ret
  exact ⟨ret_bool (by rw [Bool.eq_iff_iff]; simp; omega), hb0⟩
theorem rputAll_pk {i s d t g : Int} (hk : okPk i s d t g = true) (w : World) {a1 a2 : Option Addr} {c1 c2 : Nat} (R1 : Reads .i64 w a1 c1 [i, s, d, t, g]) (R2 : Reads .i64 w a2 c2 [4, 4, 4, 2, 2]) :
    Calls Tryd.prog 21 #[.slice a1 5 c1, .slice a2 5 c2] w fun e w' => ∃ a c, e = .returned (.tuple #[.slice a 16 c, .int .i64 0]) ∧ Reads .u8 w' a c (bodyL i s d t g) ∧ w'.ownsRow w.heap.size 5 1 (.slice a 16 c) 16 ((bodyL i s d t g).map (Value.int .u8)) ∧ Below w.heap.size w w' := by
  have h := rputAll_own w R1 R2 (by simp)
  have e : pallL [i, s, d, t, g] [4, 4, 4, 2, 2] = bodyL i s d t g := rfl
  rw [(body_ok hk).1, e, body_len hk] at h
  exact h
theorem rput_sum (l : List Int) (h : Oct l) (w : World) :
    Calls Tryd.prog 22 #[.int .i64 (sumN l), .int .i64 2] w fun e w' => ∃ a c, e = .returned (.tuple #[.slice a 2 c, .int .i64 0]) ∧ Reads .u8 w' a c (putL (sumN l) 2) ∧ Below w.heap.size w w' := by
  have h1 := rput_any (sumN l) 2 w
  rw [putL_len (ok_sum h), putE_yes (ok_sum h)] at h1
  exact h1
theorem rsum_at (w : World) {a : Option Addr} {c n : Nat} {l : List Int} (R : Reads .u8 w a c l) (hn : l.length = n) (hl : l.length ≤ 100000) :
    Calls Tryd.prog 23 #[.slice a n c] w fun e w' => e = .returned (.int .i64 (sumN l)) ∧ w' = w := by
  subst hn
  exact rsum_any w R hl
set_option maxHeartbeats 2000000 in
theorem rpput_any (i s d t g : Int) (hw : W5 i s d t g) (w : World) :
    Calls Tryd.prog 11 #[.agg #[.int .i64 i, .int .i64 s, .int .i64 d, .int .i64 t, .int .i64 g]] w fun e w' => ∃ a c, e = .returned (.tuple #[.slice a (pputL i s d t g).length c, .int .i64 (pputE i s d t g)]) ∧ Reads .u8 w' a c (pputL i s d t g) ∧ Below w.heap.size w w' := by
  have X := Box.new w i s d t g
  have hb0 := below_new w (.cells #[.int .i64 i, .int .i64 s, .int .i64 d, .int .i64 t, .int .i64 g] 23)
  cases hk : okPk i s d t g
  · obtain ⟨e1, e2⟩ := pput_no hk
    rw [e1, e2]
    go_enter Tryd.func11, Tryd.ntmps11
    go_wp2_with (go_at_call 14; refine (rmay_any i s d t g _).mono ?_; rintro e w1 ⟨rfl, hb⟩)
    go_ret2
    exact ⟨none, 0, rfl, Reads.none _ _, below_step hb0 hb⟩
  · obtain ⟨e1, e2⟩ := pput_yes hk
    rw [e1, e2]
    have hl := body_len hk
    have ho := body_oct i s d t g
    go_enter Tryd.func11, Tryd.ntmps11
    go_wp2_with (go_at_call 14; refine (rmay_any i s d t g _).mono ?_; rintro e w1 ⟨rfl, hb1⟩; obtain ⟨_, c0, c1, c2, c3, c4, _⟩ := X.later hb1)
    have hbn := below_new w1 (.cells #[.int .i64 i, .int .i64 s, .int .i64 d, .int .i64 t, .int .i64 g] 3)
    have hbm := below_new (w1.alloc (.cells #[.int .i64 i, .int .i64 s, .int .i64 d, .int .i64 t, .int .i64 g] 3)) (.cells #[.int .i64 4, .int .i64 4, .int .i64 4, .int .i64 2, .int .i64 2] 3)
    refine (rputAll_pk hk _ ((reads_new64 w1 [i, s, d, t, g] hw (by simp) rfl rfl).later hbm) (reads_new64 (w1.alloc (.cells #[.int .i64 i, .int .i64 s, .int .i64 d, .int .i64 t, .int .i64 g] 3)) [4, 4, 4, 2, 2] (by decide) (by simp) (by simp) rfl)).mono ?_
    rintro e w4 ⟨a4, k4, rfl, R4, own4, hb4⟩
    have hb3' := below_step (below_step (below_step hb0 hb1) hbn) hbm
    have hsz := hb3'.size
    have hsz4 := hb4.size
    go_wp2_with fail
    refine (rsum_at _ R4 hl (by omega)).mono ?_
    rintro e w' ⟨rfl, rfl⟩
    go_wp2_with fail
    refine (rput_sum _ ho _).mono ?_
    rintro e w5 ⟨a5, k5, rfl, R5, hb5⟩
    have own5 := own_mono (own_later own4 hb5) hsz
    have hB4 := hb5.size
    have hl5 : (putL (sumN (bodyL i s d t g)) 2).length = 2 := putL_len (ok_sum ho)
    go_wp2_with (at_builtin; refine wpList_join rfl (.tmp 35) (.tmp 36) 24 rfl w.heap.size 5 1 Tryd.underlying24 info8 rfl own5 rfl R5 hl5 (by omega) (by omega) (by omega) ?_; intro v6 w6 own6 hgrow6)
    obtain ⟨a6, k6, rfl, R6, _⟩ := reads_of_owns own6 (u8_wf (oct_append ho (putL_bd _ _)))
    go_ret2
    exact ⟨a6, k6, rfl, R6, below_grow (below_step (below_step hb3' hb4) hb5) own5 hgrow6 (by omega)⟩
theorem rgetAll5 (w : World) {a1 a2 : Option Addr} {c1 c2 n : Nat} {b : List Int} (R1 : Reads .u8 w a1 c1 b) (R2 : Reads .i64 w a2 c2 [4, 4, 4, 2, 2]) (hn : b.length = n) (hb : b.length ≤ 100000) :
    Calls Tryd.prog 25 #[.slice a1 n c1, .slice a2 5 c2] w fun e w' => ∃ a c, e = .returned (.tuple #[.slice a (gallL b [4, 4, 4, 2, 2]).length c, .int .i64 (gallK b [4, 4, 4, 2, 2]), .int .i64 (gaE b [4, 4, 4, 2, 2])]) ∧ Reads .i64 w' a c (gallL b [4, 4, 4, 2, 2]) ∧ Below w.heap.size w w' := by
  subst hn
  exact rgetAll_any w R1 R2 (by simp) hb
set_option maxHeartbeats 1000000 in
theorem rpget_short (w : World) {a : Option Addr} {c : Nat} {b : List Int} (R : Reads .u8 w a c b) (hl : b.length ≤ 100000) (hs : b.length < 18) :
    Calls Tryd.prog 13 #[.slice a b.length c] w fun e w' => e = .returned (.tuple #[.agg #[.int .i64 0, .int .i64 0, .int .i64 0, .int .i64 0, .int .i64 0], .int .i64 3]) ∧ Below w.heap.size w w' := by
  have X := Box.new w 0 0 0 0 0
  have hb0 := below_new w (.cells #[.int .i64 0, .int .i64 0, .int .i64 0, .int .i64 0, .int .i64 0] 23)
  have hb1 := below_new (w.alloc (.cells #[.int .i64 0, .int .i64 0, .int .i64 0, .int .i64 0, .int .i64 0] 23)) (.cells #[.int .i64 0, .int .i64 0, .int .i64 0, .int .i64 0, .int .i64 0] 23)
  have hmx := Nat.le_trans R.le R.max
  unfold maxLen at hmx
  go_enter Tryd.func13, Tryd.ntmps13
  go_wp2_with fail
  refine bodyPost_ret (v := .tuple #[.agg #[.int .i64 0, .int .i64 0, .int .i64 0, .int .i64 0, .int .i64 0], .int .i64 3]) (by simp [results, Tryd.results13, go_sem]) rfl ?_
  exact ⟨rfl, below_step hb0 hb1⟩
set_option maxHeartbeats 1000000 in
theorem rpget_long (w : World) {a : Option Addr} {c : Nat} {b : List Int} (R : Reads .u8 w a c b) (hl : b.length ≤ 100000) (hg : 18 < b.length) :
    Calls Tryd.prog 13 #[.slice a b.length c] w fun e w' => e = .returned (.tuple #[.agg #[.int .i64 0, .int .i64 0, .int .i64 0, .int .i64 0, .int .i64 0], .int .i64 2]) ∧ Below w.heap.size w w' := by
  have X := Box.new w 0 0 0 0 0
  have hb0 := below_new w (.cells #[.int .i64 0, .int .i64 0, .int .i64 0, .int .i64 0, .int .i64 0] 23)
  have hb1 := below_new (w.alloc (.cells #[.int .i64 0, .int .i64 0, .int .i64 0, .int .i64 0, .int .i64 0] 23)) (.cells #[.int .i64 0, .int .i64 0, .int .i64 0, .int .i64 0, .int .i64 0] 23)
  have hmx := Nat.le_trans R.le R.max
  unfold maxLen at hmx
  go_enter Tryd.func13, Tryd.ntmps13
  go_wp2_with fail
  refine bodyPost_ret (v := .tuple #[.agg #[.int .i64 0, .int .i64 0, .int .i64 0, .int .i64 0, .int .i64 0], .int .i64 2]) (by simp [results, Tryd.results13, go_sem]) rfl ?_
  exact ⟨rfl, below_step hb0 hb1⟩
set_option maxHeartbeats 1000000 in
theorem rpget_sum (w : World) {a : Option Addr} {c : Nat} {b : List Int} (R : Reads .u8 w a c b) (hl : b.length ≤ 100000) (HE : Hid (b.length = 18)) (hz : sumN b ≠ 0) :
    Calls Tryd.prog 13 #[.slice a b.length c] w fun e w' => e = .returned (.tuple #[.agg #[.int .i64 0, .int .i64 0, .int .i64 0, .int .i64 0, .int .i64 0], .int .i64 4]) ∧ Below w.heap.size w w' := by
  have X := Box.new w 0 0 0 0 0
  have hb0 := below_new w (.cells #[.int .i64 0, .int .i64 0, .int .i64 0, .int .i64 0, .int .i64 0] 23)
  have hb1 := below_new (w.alloc (.cells #[.int .i64 0, .int .i64 0, .int .i64 0, .int .i64 0, .int .i64 0] 23)) (.cells #[.int .i64 0, .int .i64 0, .int .i64 0, .int .i64 0, .int .i64 0] 23)
  have hmx := Nat.le_trans R.le R.max
  unfold maxLen at hmx
  rw [HE.out]
  go_enter Tryd.func13, Tryd.ntmps13
  go_wp2_with fail
  refine (rsum_at _ ((R.later hb0).later hb1) HE.out (by rw [HE.out]; decide)).mono ?_
  rintro e w' ⟨rfl, rfl⟩
  go_wp2_with fail
  refine bodyPost_ret (v := .tuple #[.agg #[.int .i64 0, .int .i64 0, .int .i64 0, .int .i64 0, .int .i64 0], .int .i64 4]) (by simp [results, Tryd.results13, go_sem]) rfl ?_
  exact ⟨rfl, below_step hb0 hb1⟩
set_option maxHeartbeats 2000000 in
theorem rpget_form (w : World) {a : Option Addr} {c : Nat} {b : List Int} (R : Reads .u8 w a c b) (hl : b.length ≤ 100000) (HE : Hid (b.length = 18)) (hz : sumN b = 0) {n0 n1 n2 n3 n4 : Int} (HL : Hid (gallL b [4, 4, 4, 2, 2] = [n0, n1, n2, n3, n4])) (hk : okPk n0 n1 n2 n3 n4 = false) :
    Calls Tryd.prog 13 #[.slice a b.length c] w fun e w' => e = .returned (.tuple #[.agg #[.int .i64 0, .int .i64 0, .int .i64 0, .int .i64 0, .int .i64 0], .int .i64 2]) ∧ Below w.heap.size w w' := by
  obtain ⟨hE, _, hK⟩ := all5 HE.out
  have X := Box.new w 0 0 0 0 0
  have hb0 := below_new w (.cells #[.int .i64 0, .int .i64 0, .int .i64 0, .int .i64 0, .int .i64 0] 23)
  have hb1 := below_new (w.alloc (.cells #[.int .i64 0, .int .i64 0, .int .i64 0, .int .i64 0, .int .i64 0] 23)) (.cells #[.int .i64 0, .int .i64 0, .int .i64 0, .int .i64 0, .int .i64 0] 23)
  have hmx := Nat.le_trans R.le R.max
  unfold maxLen at hmx
  rw [HE.out]
  go_enter Tryd.func13, Tryd.ntmps13
  go_wp2_with fail
  refine (rsum_at _ ((R.later hb0).later hb1) HE.out (by rw [HE.out]; decide)).mono ?_
  rintro e w0 ⟨rfl, rfl⟩
  go_wp2_with fail
  have hbn := below_new ((w.alloc (.cells #[.int .i64 0, .int .i64 0, .int .i64 0, .int .i64 0, .int .i64 0] 23)).alloc (.cells #[.int .i64 0, .int .i64 0, .int .i64 0, .int .i64 0, .int .i64 0] 23)) (.cells #[.int .i64 4, .int .i64 4, .int .i64 4, .int .i64 2, .int .i64 2] 3)
  refine (rgetAll5 _ (((R.later hb0).later hb1).later hbn) (reads_new64 _ [4, 4, 4, 2, 2] (by decide) (by simp) (by simp) rfl) HE.out (by rw [HE.out]; decide)).mono ?_
  rintro e w3 ⟨a3, k3, rfl, R3, hb3⟩
  have X3 := ((X.later hb1).later hbn).later hb3
  have V3 := ((box_at (w.alloc (.cells #[.int .i64 0, .int .i64 0, .int .i64 0, .int .i64 0, .int .i64 0] 23)) 0 0 0 0 0 (B := w.heap.size + 1) (by simp)).later hbn).later hb3
  have hbw3 := below_step (below_step (below_step hb0 hb1) hbn) hb3
  clear X hb0 hb1 hbn hb3
  rw [HL.out] at R3
  rw [HL.out, hK, hE]
  clear hE hK
  obtain ⟨b3, o3, rfl, lt3, hc⟩ := reads_at R3 (by simp)
  have y0 := hc 0 n0 rfl
  have y1 := hc 1 n1 rfl
  have y2 := hc 2 n2 rfl
  have y3 := hc 3 n3 rfl
  have y4 := hc 4 n4 rfl
  rw [Nat.add_zero] at y0
  have hbz := below_new w3 (.cells #[.int .i64 0, .int .i64 0, .int .i64 0, .int .i64 0, .int .i64 0] 23)
  have z0 := (hbz.cell (p := ⟨b3, o3, none⟩) lt3).trans y0
  have z1 := (hbz.cell (p := ⟨b3, o3 + 1, none⟩) lt3).trans y1
  have z2 := (hbz.cell (p := ⟨b3, o3 + 2, none⟩) lt3).trans y2
  have z3 := (hbz.cell (p := ⟨b3, o3 + 3, none⟩) lt3).trans y3
  have z4 := (hbz.cell (p := ⟨b3, o3 + 4, none⟩) lt3).trans y4
  clear hc hbz R3
  go_wp2_with fail
  go_region
  have hb4 : Below w3.heap.size w3 (w3.alloc (.cells #[.int .i64 n0, .int .i64 n1, .int .i64 n2, .int .i64 n3, .int .i64 n4] 23)).drew := (below_new w3 _).drew
  have Y4 : Box (w3.alloc (.cells #[.int .i64 n0, .int .i64 n1, .int .i64 n2, .int .i64 n3, .int .i64 n4] 23)).drew w3.heap.size n0 n1 n2 n3 n4 := (Box.new w3 n0 n1 n2 n3 n4).later (Below.refl _ _).drew
  have X4 := X3.later hb4
  have V4 := V3.later hb4
  have hbw4 := below_step hbw3 hb4
  clear y0 y1 y2 y3 y4 z0 z1 z2 z3 z4
  go_wp2_with (go_at_call 14; refine (rmay_any n0 n1 n2 n3 n4 _).mono ?_; rintro e w5 ⟨rfl, hb5⟩; obtain ⟨_, x0, x1, x2, x3, x4, xf⟩ := X4.later hb5; obtain ⟨_, v0, v1, v2, v3, v4, _⟩ := V4.later hb5)
  refine bodyPost_ret (v := .tuple #[.agg #[.int .i64 0, .int .i64 0, .int .i64 0, .int .i64 0, .int .i64 0], .int .i64 2]) (by simp [results, Tryd.results13, go_sem, x0, x1, x2, x3, x4]) rfl ?_
  exact ⟨rfl, below_lay _ _ _ _ _ (below_step hbw4 hb5) (Nat.le_refl _)⟩
set_option maxHeartbeats 2000000 in
theorem rpget_ok (w : World) {a : Option Addr} {c : Nat} {b : List Int} (R : Reads .u8 w a c b) (hl : b.length ≤ 100000) (HE : Hid (b.length = 18)) (hz : sumN b = 0) {n0 n1 n2 n3 n4 : Int} (HL : Hid (gallL b [4, 4, 4, 2, 2] = [n0, n1, n2, n3, n4])) (hk : okPk n0 n1 n2 n3 n4 = true) :
    Calls Tryd.prog 13 #[.slice a b.length c] w fun e w' => e = .returned (.tuple #[.agg #[.int .i64 n0, .int .i64 n1, .int .i64 n2, .int .i64 n3, .int .i64 n4], .int .i64 0]) ∧ Below w.heap.size w w' := by
  obtain ⟨hE, _, hK⟩ := all5 HE.out
  have X := Box.new w 0 0 0 0 0
  have hb0 := below_new w (.cells #[.int .i64 0, .int .i64 0, .int .i64 0, .int .i64 0, .int .i64 0] 23)
  have hb1 := below_new (w.alloc (.cells #[.int .i64 0, .int .i64 0, .int .i64 0, .int .i64 0, .int .i64 0] 23)) (.cells #[.int .i64 0, .int .i64 0, .int .i64 0, .int .i64 0, .int .i64 0] 23)
  have hmx := Nat.le_trans R.le R.max
  unfold maxLen at hmx
  rw [HE.out]
  go_enter Tryd.func13, Tryd.ntmps13
  go_wp2_with fail
  refine (rsum_at _ ((R.later hb0).later hb1) HE.out (by rw [HE.out]; decide)).mono ?_
  rintro e w0 ⟨rfl, rfl⟩
  go_wp2_with fail
  have hbn := below_new ((w.alloc (.cells #[.int .i64 0, .int .i64 0, .int .i64 0, .int .i64 0, .int .i64 0] 23)).alloc (.cells #[.int .i64 0, .int .i64 0, .int .i64 0, .int .i64 0, .int .i64 0] 23)) (.cells #[.int .i64 4, .int .i64 4, .int .i64 4, .int .i64 2, .int .i64 2] 3)
  refine (rgetAll5 _ (((R.later hb0).later hb1).later hbn) (reads_new64 _ [4, 4, 4, 2, 2] (by decide) (by simp) (by simp) rfl) HE.out (by rw [HE.out]; decide)).mono ?_
  rintro e w3 ⟨a3, k3, rfl, R3, hb3⟩
  have X3 := ((X.later hb1).later hbn).later hb3
  have V3 := ((box_at (w.alloc (.cells #[.int .i64 0, .int .i64 0, .int .i64 0, .int .i64 0, .int .i64 0] 23)) 0 0 0 0 0 (B := w.heap.size + 1) (by simp)).later hbn).later hb3
  have hbw3 := below_step (below_step (below_step hb0 hb1) hbn) hb3
  clear X hb0 hb1 hbn hb3
  rw [HL.out] at R3
  rw [HL.out, hK, hE]
  clear hE hK
  obtain ⟨b3, o3, rfl, lt3, hc⟩ := reads_at R3 (by simp)
  have y0 := hc 0 n0 rfl
  have y1 := hc 1 n1 rfl
  have y2 := hc 2 n2 rfl
  have y3 := hc 3 n3 rfl
  have y4 := hc 4 n4 rfl
  rw [Nat.add_zero] at y0
  have hbz := below_new w3 (.cells #[.int .i64 0, .int .i64 0, .int .i64 0, .int .i64 0, .int .i64 0] 23)
  have z0 := (hbz.cell (p := ⟨b3, o3, none⟩) lt3).trans y0
  have z1 := (hbz.cell (p := ⟨b3, o3 + 1, none⟩) lt3).trans y1
  have z2 := (hbz.cell (p := ⟨b3, o3 + 2, none⟩) lt3).trans y2
  have z3 := (hbz.cell (p := ⟨b3, o3 + 3, none⟩) lt3).trans y3
  have z4 := (hbz.cell (p := ⟨b3, o3 + 4, none⟩) lt3).trans y4
  clear hc hbz R3
  go_wp2_with fail
  go_region
  have hb4 : Below w3.heap.size w3 (w3.alloc (.cells #[.int .i64 n0, .int .i64 n1, .int .i64 n2, .int .i64 n3, .int .i64 n4] 23)).drew := (below_new w3 _).drew
  have Y4 : Box (w3.alloc (.cells #[.int .i64 n0, .int .i64 n1, .int .i64 n2, .int .i64 n3, .int .i64 n4] 23)).drew w3.heap.size n0 n1 n2 n3 n4 := (Box.new w3 n0 n1 n2 n3 n4).later (Below.refl _ _).drew
  have X4 := X3.later hb4
  have V4 := V3.later hb4
  have hbw4 := below_step hbw3 hb4
  clear y0 y1 y2 y3 y4 z0 z1 z2 z3 z4
  go_wp2_with (go_at_call 14; refine (rmay_any n0 n1 n2 n3 n4 _).mono ?_; rintro e w5 ⟨rfl, hb5⟩; obtain ⟨_, x0, x1, x2, x3, x4, xf⟩ := X4.later hb5; obtain ⟨_, u0, u1, u2, u3, u4, _⟩ := Y4.later hb5)
  refine bodyPost_ret (v := .tuple #[.agg #[.int .i64 n0, .int .i64 n1, .int .i64 n2, .int .i64 n3, .int .i64 n4], .int .i64 0]) (by simp [results, Tryd.results13, go_sem, x0, x1, x2, x3, x4]) rfl ?_
  exact ⟨rfl, below_lay _ _ _ _ _ (below_step hbw4 hb5) (Nat.le_refl _)⟩
/-- the document's Get, for all bytes -/
theorem rpget_any (w : World) {a : Option Addr} {c : Nat} {b : List Int} (R : Reads .u8 w a c b) (hl : b.length ≤ 100000) :
    Calls Tryd.prog 13 #[.slice a b.length c] w fun e w' => e = .returned (.tuple #[.agg #[.int .i64 (pgF b 0 4), .int .i64 (pgF b 4 4), .int .i64 (pgF b 8 4), .int .i64 (pgF b 12 2), .int .i64 (pgF b 14 2)], .int .i64 (pgE b)]) ∧ Below w.heap.size w w' := by
  by_cases hs : b.length < 18
  · refine (rpget_short w R hl hs).mono fun e w' ⟨h1, h2⟩ => ⟨h1.trans (ret_none (pgE_short hs) (by decide)), h2⟩
  by_cases hg : 18 < b.length
  · refine (rpget_long w R hl hg).mono fun e w' ⟨h1, h2⟩ => ⟨h1.trans (ret_none (pgE_long hg) (by decide)), h2⟩
  have he : b.length = 18 := by omega
  by_cases hz : sumN b = 0
  case neg => exact (rpget_sum w R hl he hz).mono fun e w' ⟨h1, h2⟩ => ⟨h1.trans (ret_none (pgE_sum he hz) (by decide)), h2⟩
  have hL := (all5 he).2.1
  cases hk : okGot b
  · exact (rpget_form w R hl he hz hL hk).mono fun e w' ⟨h1, h2⟩ => ⟨h1.trans (ret_none (pgE_form he hz hk) (by decide)), h2⟩
  · have HP := pgE_ok he hz hk
    exact (rpget_ok w R hl he hz hL hk).mono fun e w' ⟨h1, h2⟩ => ⟨h1.trans (ret_pk (pgF_ok HP 0 4).symm (pgF_ok HP _ _).symm (pgF_ok HP _ _).symm (pgF_ok HP _ _).symm (pgF_ok HP _ _).symm HP.symm), h2⟩
end Go.Proofs.YtgpopdincipnaaaDoor
