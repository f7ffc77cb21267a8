/- Proved: for every packet p and all bytes b the call PacketBack(p, b) returns true and leaves b as it was: what is put is got, and what is got is put as the same bytes, but for a checksum of 65535 (of more than 3000 bytes nothing is asked). The table of fields starts as the program lays it (the card ties it to the text). No other condition. -/
import Derived.Test.YtgpopdincipnaaaDoorPktMore
import Derived.Test.YtgpopdincipnaaaDoorPktLaid
import Derived.Test.YtgpopdincipnaaaDoorTie
import Derived.Test.YtgpopdincipnaaaDoorCards
import Derived.SevenTiedAt
import Derived.Lib.SmallJoins
namespace Go.Proofs.YtgpopdincipnaaaDoor.packetBack
open Go.ChangeShapes Go.WideShapes Go.ChangeAt Go.RowKit O
set_option linter.unusedVariables false


set_option maxHeartbeats 1000000 in
theorem back_long (i s d t g : Int) (a : Option Addr) (c : Nat) (l : List Int) (w : World) (R : Reads .u8 w a c l) (T : Tab w) (hl : 3000 < l.length) :
    Calls Tryd.prog 4 #[.agg #[.int .i64 i, .int .i64 s, .int .i64 d, .int .i64 t, .int .i64 g], .slice a l.length c] w fun e w' => e = .returned (.bool true) ∧ Below w.heap.size w w' := by
  have hb0 := below_new w (.cells #[.int .i64 i, .int .i64 s, .int .i64 d, .int .i64 t, .int .i64 g] 23)
  have T0 := T.later hb0
  have hmx := Nat.le_trans R.le R.max
  unfold maxLen at hmx
  go_enter Tryd.func4, Tryd.ntmps4
  go_wp2_with (go_at_call 9; refine (awake_any _ T0).mono ?_; rintro e w1 ⟨rfl, hb1⟩)
  go_ret
  exact ⟨rfl, below_step hb0 hb1⟩
set_option maxHeartbeats 2000000 in
theorem backfA (i s d t g : Int) (a : Option Addr) (c : Nat) (l : List Int) (hw : W5 i s d t g) (w : World) (R : Reads .u8 w a c l) (T : Tab w) (hl : l.length ≤ 3000) (hk : okPk i s d t g = false) {k : Int} (hA : Hid (pgE l = k)) (hA0 : k ≠ 0) :
    Calls Tryd.prog 4 #[.agg #[.int .i64 i, .int .i64 s, .int .i64 d, .int .i64 t, .int .i64 g], .slice a l.length c] w fun e w' => e = .returned (.bool true) ∧ Below w.heap.size w w' := by
  have hb0 := below_new w (.cells #[.int .i64 i, .int .i64 s, .int .i64 d, .int .i64 t, .int .i64 g] 23)
  have X0 := Box.new w i s d t g
  have T0 := T.later hb0
  go_enter Tryd.func4, Tryd.ntmps4
  go_wp2_with (go_at_call 9; refine (awake_any _ T0).mono ?_; rintro e w1 ⟨rfl, hb1⟩; obtain ⟨_, c0, c1, c2, c3, c4, _⟩ := X0.later hb1)
  refine (pput_bad hk hw _ (T0.later hb1)).mono ?_
  rintro e w2 ⟨a2, k2, rfl, hb2⟩
  have X2 := (X0.later hb1).later hb2
  have T2 := (T0.later hb1).later hb2
  obtain ⟨_, c0, c1, c2, c3, c4, _⟩ := id X2
  go_wp2_with fail
  refine (may_any i s d t g hw _ T2).mono ?_
  rintro e w3 ⟨rfl, hb3⟩
  have hbW := below_step (below_step (below_step hb0 hb1) hb2) hb3
  have RW := R.later hbW
  have TW := T.later hbW
  clear hb3 X2 T2 hb2 hb1 hb0 T0 X0
  go_wp2_with fail
  refine (pget_none _ RW rfl (by omega) TW hA.out hA0).mono ?_
  rintro e v1 ⟨rfl, hv1⟩
  go_wp2_with fail
  go_ret
  exact ⟨rfl, below_step (below_step hbW hv1) (below_new v1 _)⟩
set_option maxHeartbeats 2000000 in
theorem backfB1 (i s d t g : Int) (a : Option Addr) (c : Nat) (l : List Int) (hw : W5 i s d t g) (w : World) (R : Reads .u8 w a c l) (T : Tab w) (hl : l.length ≤ 3000) (hk : okPk i s d t g = false) {n0 n1 n2 n3 n4 : Int} (HP : Hid (pgE l = 0)) (HN : Hid (n0 = getN l 4 ∧ n1 = getN (l.drop 4) 4 ∧ n2 = getN (l.drop 8) 4 ∧ n3 = getN (l.drop 12) 2 ∧ n4 = getN (l.drop 14) 2)) (HE : Hid (l.length = 18)) (hq : okPk n0 n1 n2 n3 n4 = true) (hwq : W5 n0 n1 n2 n3 n4) (HY : Hid (pputL n0 n1 n2 n3 n4 = l)) :
    Calls Tryd.prog 4 #[.agg #[.int .i64 i, .int .i64 s, .int .i64 d, .int .i64 t, .int .i64 g], .slice a l.length c] w fun e w' => e = .returned (.bool true) ∧ Below w.heap.size w w' := by
  have hb0 := below_new w (.cells #[.int .i64 i, .int .i64 s, .int .i64 d, .int .i64 t, .int .i64 g] 23)
  have X0 := Box.new w i s d t g
  have T0 := T.later hb0
  have hle := R.le
  have hcap : (18 : Int) ≤ (c : Int) := by have := HE.out; omega
  obtain ⟨bb, oo, rfl, hbb, hcB⟩ := R.cells (by intro h; have := HE.out; rw [h] at this; cases this)
  rw [HE.out]
  clear hl hle
  go_enter Tryd.func4, Tryd.ntmps4
  go_wp2_with (go_at_call 9; refine (awake_any _ T0).mono ?_; rintro e w1 ⟨rfl, hb1⟩; obtain ⟨_, c0, c1, c2, c3, c4, _⟩ := X0.later hb1)
  refine (pput_bad hk hw _ (T0.later hb1)).mono ?_
  rintro e w2 ⟨a2, k2, rfl, hb2⟩
  have X2 := (X0.later hb1).later hb2
  have T2 := (T0.later hb1).later hb2
  obtain ⟨_, c0, c1, c2, c3, c4, _⟩ := id X2
  go_wp2_with fail
  refine (may_any i s d t g hw _ T2).mono ?_
  rintro e w3 ⟨rfl, hb3⟩
  have hbW := below_step (below_step (below_step hb0 hb1) hb2) hb3
  have RW := R.later hbW
  have TW := T.later hbW
  clear hb3 X2 T2 hb2 hb1 hb0 T0 X0
  go_wp2_with fail
  refine (pget_some _ RW HE.out (by decide) TW HP.out HN.out).mono ?_
  rintro e v1 ⟨rfl, hv1⟩
  have hbV := below_new v1 (.cells #[.int .i64 n0, .int .i64 n1, .int .i64 n2, .int .i64 n3, .int .i64 n4] 23)
  have hv1' := below_step hv1 hbV
  have TV := TW.later hv1'
  go_wp2_with fail
  refine (pput_good hq hwq _ TV).mono ?_
  rintro e v2 ⟨ay, ky, rfl, RY, hv2⟩
  have hb2v := below_step hv1' hv2
  have RB := RW.later hb2v
  have hbF := below_step hbW hb2v
  have hky : (18 : Int) ≤ (ky : Int) := by have := RY.le; rw [pput_len hq] at this; omega
  have l16 : (l.take 16).length = 16 := by have := HE.out; simp; omega
  rw [HY.out] at RY
  have s1 := run_strs_at (RY.take 16) l16
  have s2 := run_strs_at (RB.take 16) l16
  have s3 := run_strs_at RY HE.out
  have s4 := run_strs_at RB HE.out
  obtain ⟨yb, yo, rfl, _, _⟩ := RY.cells (by intro h; have := HE.out; rw [h] at this; cases this)
  clear hcB hb2v hv2 hv1' hbV hv1 RY RB RW TV TW l16
  go_wp2_with fail
  go_quiet (fail)
  go_wp2_with fail
  go_ret
  exact ⟨rfl, hbF.trans (below_draws _ _ _)⟩
set_option maxHeartbeats 2000000 in
theorem backfB2 (i s d t g : Int) (a : Option Addr) (c : Nat) (l : List Int) (hw : W5 i s d t g) (w : World) (R : Reads .u8 w a c l) (T : Tab w) (hl : l.length ≤ 3000) (hk : okPk i s d t g = false) {n0 n1 n2 n3 n4 : Int} (HP : Hid (pgE l = 0)) (HN : Hid (n0 = getN l 4 ∧ n1 = getN (l.drop 4) 4 ∧ n2 = getN (l.drop 8) 4 ∧ n3 = getN (l.drop 12) 2 ∧ n4 = getN (l.drop 14) 2)) (HE : Hid (l.length = 18)) (hq : okPk n0 n1 n2 n3 n4 = true) (hwq : W5 n0 n1 n2 n3 n4) (HY : Hid ((pputL n0 n1 n2 n3 n4).take 16 = l.take 16)) (hne : pputL n0 n1 n2 n3 n4 ≠ l) (H6 : Hid (l.getD 16 0 = 255)) (H7 : Hid (l.getD 17 0 = 255)) :
    Calls Tryd.prog 4 #[.agg #[.int .i64 i, .int .i64 s, .int .i64 d, .int .i64 t, .int .i64 g], .slice a l.length c] w fun e w' => e = .returned (.bool true) ∧ Below w.heap.size w w' := by
  have hb0 := below_new w (.cells #[.int .i64 i, .int .i64 s, .int .i64 d, .int .i64 t, .int .i64 g] 23)
  have X0 := Box.new w i s d t g
  have T0 := T.later hb0
  have hle := R.le
  have hcap : (18 : Int) ≤ (c : Int) := by have := HE.out; omega
  obtain ⟨bb, oo, rfl, hbb, hcB⟩ := R.cells (by intro h; have := HE.out; rw [h] at this; cases this)
  rw [HE.out]
  clear hl hle
  go_enter Tryd.func4, Tryd.ntmps4
  go_wp2_with (go_at_call 9; refine (awake_any _ T0).mono ?_; rintro e w1 ⟨rfl, hb1⟩; obtain ⟨_, c0, c1, c2, c3, c4, _⟩ := X0.later hb1)
  refine (pput_bad hk hw _ (T0.later hb1)).mono ?_
  rintro e w2 ⟨a2, k2, rfl, hb2⟩
  have X2 := (X0.later hb1).later hb2
  have T2 := (T0.later hb1).later hb2
  obtain ⟨_, c0, c1, c2, c3, c4, _⟩ := id X2
  go_wp2_with fail
  refine (may_any i s d t g hw _ T2).mono ?_
  rintro e w3 ⟨rfl, hb3⟩
  have hbW := below_step (below_step (below_step hb0 hb1) hb2) hb3
  have RW := R.later hbW
  have TW := T.later hbW
  clear hb3 X2 T2 hb2 hb1 hb0 T0 X0
  go_wp2_with fail
  refine (pget_some _ RW HE.out (by decide) TW HP.out HN.out).mono ?_
  rintro e v1 ⟨rfl, hv1⟩
  have hbV := below_new v1 (.cells #[.int .i64 n0, .int .i64 n1, .int .i64 n2, .int .i64 n3, .int .i64 n4] 23)
  have hv1' := below_step hv1 hbV
  have TV := TW.later hv1'
  go_wp2_with fail
  refine (pput_good hq hwq _ TV).mono ?_
  rintro e v2 ⟨ay, ky, rfl, RY, hv2⟩
  have hb2v := below_step hv1' hv2
  have RB := RW.later hb2v
  have hbF := below_step hbW hb2v
  have hky : (18 : Int) ≤ (ky : Int) := by have := RY.le; rw [pput_len hq] at this; omega
  have l16 : (l.take 16).length = 16 := by have := HE.out; simp; omega
  have RT := RY.take 16
  rw [HY.out] at RT
  have s1 := run_strs_at RT l16
  have s2 := run_strs_at (RB.take 16) l16
  have s3 := run_strs_at RY (pput_len hq)
  have s4 := run_strs_at RB HE.out
  have hdf := str_differ RY.oct RB.oct hne
  have e6 := hcB 16 (by rw [HE.out]; decide)
  have e7 := hcB 17 (by rw [HE.out]; decide)
  rw [H6.out] at e6
  rw [H7.out] at e7
  have g6 := (hbF.cell (p := ⟨bb, oo + 16, none⟩) hbb).trans e6
  have g7 := (hbF.cell (p := ⟨bb, oo + 17, none⟩) hbb).trans e7
  obtain ⟨yb, yo, rfl, _, _⟩ := RY.cells (by intro h; have := pput_len hq; rw [h] at this; cases this)
  clear hcB hb2v hv2 hv1' hbV hv1 RY RB RW TV TW l16 RT e6 e7 hne
  go_wp2_with fail
  go_quiet (fail)
  go_wp2_with fail
  go_ret
  exact ⟨rfl, hbF.trans (below_draws _ _ _)⟩
set_option maxHeartbeats 2000000 in
theorem backtA (i s d t g : Int) (a : Option Addr) (c : Nat) (l : List Int) (hw : W5 i s d t g) (w : World) (R : Reads .u8 w a c l) (T : Tab w) (hl : l.length ≤ 3000) (hk : okPk i s d t g = true) {k : Int} (hA : Hid (pgE l = k)) (hA0 : k ≠ 0) :
    Calls Tryd.prog 4 #[.agg #[.int .i64 i, .int .i64 s, .int .i64 d, .int .i64 t, .int .i64 g], .slice a l.length c] w fun e w' => e = .returned (.bool true) ∧ Below w.heap.size w w' := by
  have hb0 := below_new w (.cells #[.int .i64 i, .int .i64 s, .int .i64 d, .int .i64 t, .int .i64 g] 23)
  have X0 := Box.new w i s d t g
  have T0 := T.later hb0
  go_enter Tryd.func4, Tryd.ntmps4
  go_wp2_with (go_at_call 9; refine (awake_any _ T0).mono ?_; rintro e w1 ⟨rfl, hb1⟩; obtain ⟨_, c0, c1, c2, c3, c4, _⟩ := X0.later hb1)
  refine (pput_good hk hw _ (T0.later hb1)).mono ?_
  rintro e w2 ⟨a2, k2, rfl, R2, hb2⟩
  have X2 := (X0.later hb1).later hb2
  have T2 := (T0.later hb1).later hb2
  obtain ⟨_, c0, c1, c2, c3, c4, _⟩ := id X2
  go_wp2_with fail
  refine (may_any i s d t g hw _ T2).mono ?_
  rintro e w3 ⟨rfl, hb3⟩
  go_wp2_with fail
  refine (pget_put hk _ (R2.later hb3) (T2.later hb3)).mono ?_
  rintro e w4 ⟨rfl, hb4⟩
  have hbq := below_new w4 (.cells #[.int .i64 i, .int .i64 s, .int .i64 d, .int .i64 t, .int .i64 g] 23)
  have hb24 := below_step (below_step hb3 hb4) hbq
  obtain ⟨_, d0, d1, d2, d3, d4, _⟩ := X2.later hb24
  have hbW := below_step (below_step (below_step hb0 hb1) hb2) hb24
  have RW := R.later hbW
  have TW := T.later hbW
  clear hb3 hb4 hbq R2 X2 T2 hb24 hb2 hb1 hb0 T0 X0
  go_wp2_with fail
  refine (pget_none _ RW rfl (by omega) TW hA.out hA0).mono ?_
  rintro e v1 ⟨rfl, hv1⟩
  go_wp2_with fail
  go_ret
  exact ⟨rfl, below_step (below_step hbW hv1) (below_new v1 _)⟩
set_option maxHeartbeats 2000000 in
theorem backtB1 (i s d t g : Int) (a : Option Addr) (c : Nat) (l : List Int) (hw : W5 i s d t g) (w : World) (R : Reads .u8 w a c l) (T : Tab w) (hl : l.length ≤ 3000) (hk : okPk i s d t g = true) {n0 n1 n2 n3 n4 : Int} (HP : Hid (pgE l = 0)) (HN : Hid (n0 = getN l 4 ∧ n1 = getN (l.drop 4) 4 ∧ n2 = getN (l.drop 8) 4 ∧ n3 = getN (l.drop 12) 2 ∧ n4 = getN (l.drop 14) 2)) (HE : Hid (l.length = 18)) (hq : okPk n0 n1 n2 n3 n4 = true) (hwq : W5 n0 n1 n2 n3 n4) (HY : Hid (pputL n0 n1 n2 n3 n4 = l)) :
    Calls Tryd.prog 4 #[.agg #[.int .i64 i, .int .i64 s, .int .i64 d, .int .i64 t, .int .i64 g], .slice a l.length c] w fun e w' => e = .returned (.bool true) ∧ Below w.heap.size w w' := by
  have hb0 := below_new w (.cells #[.int .i64 i, .int .i64 s, .int .i64 d, .int .i64 t, .int .i64 g] 23)
  have X0 := Box.new w i s d t g
  have T0 := T.later hb0
  have hle := R.le
  have hcap : (18 : Int) ≤ (c : Int) := by have := HE.out; omega
  obtain ⟨bb, oo, rfl, hbb, hcB⟩ := R.cells (by intro h; have := HE.out; rw [h] at this; cases this)
  rw [HE.out]
  clear hl hle
  go_enter Tryd.func4, Tryd.ntmps4
  go_wp2_with (go_at_call 9; refine (awake_any _ T0).mono ?_; rintro e w1 ⟨rfl, hb1⟩; obtain ⟨_, c0, c1, c2, c3, c4, _⟩ := X0.later hb1)
  refine (pput_good hk hw _ (T0.later hb1)).mono ?_
  rintro e w2 ⟨a2, k2, rfl, R2, hb2⟩
  have X2 := (X0.later hb1).later hb2
  have T2 := (T0.later hb1).later hb2
  obtain ⟨_, c0, c1, c2, c3, c4, _⟩ := id X2
  go_wp2_with fail
  refine (may_any i s d t g hw _ T2).mono ?_
  rintro e w3 ⟨rfl, hb3⟩
  go_wp2_with fail
  refine (pget_put hk _ (R2.later hb3) (T2.later hb3)).mono ?_
  rintro e w4 ⟨rfl, hb4⟩
  have hbq := below_new w4 (.cells #[.int .i64 i, .int .i64 s, .int .i64 d, .int .i64 t, .int .i64 g] 23)
  have hb24 := below_step (below_step hb3 hb4) hbq
  obtain ⟨_, d0, d1, d2, d3, d4, _⟩ := X2.later hb24
  have hbW := below_step (below_step (below_step hb0 hb1) hb2) hb24
  have RW := R.later hbW
  have TW := T.later hbW
  clear hb3 hb4 hbq R2 X2 T2 hb24 hb2 hb1 hb0 T0 X0
  go_wp2_with fail
  refine (pget_some _ RW HE.out (by decide) TW HP.out HN.out).mono ?_
  rintro e v1 ⟨rfl, hv1⟩
  have hbV := below_new v1 (.cells #[.int .i64 n0, .int .i64 n1, .int .i64 n2, .int .i64 n3, .int .i64 n4] 23)
  have hv1' := below_step hv1 hbV
  have TV := TW.later hv1'
  go_wp2_with fail
  refine (pput_good hq hwq _ TV).mono ?_
  rintro e v2 ⟨ay, ky, rfl, RY, hv2⟩
  have hb2v := below_step hv1' hv2
  have RB := RW.later hb2v
  have hbF := below_step hbW hb2v
  have hky : (18 : Int) ≤ (ky : Int) := by have := RY.le; rw [pput_len hq] at this; omega
  have l16 : (l.take 16).length = 16 := by have := HE.out; simp; omega
  rw [HY.out] at RY
  have s1 := run_strs_at (RY.take 16) l16
  have s2 := run_strs_at (RB.take 16) l16
  have s3 := run_strs_at RY HE.out
  have s4 := run_strs_at RB HE.out
  obtain ⟨yb, yo, rfl, _, _⟩ := RY.cells (by intro h; have := HE.out; rw [h] at this; cases this)
  clear hcB hb2v hv2 hv1' hbV hv1 RY RB RW TV TW l16
  go_wp2_with fail
  go_quiet (fail)
  go_wp2_with fail
  go_ret
  exact ⟨rfl, hbF.trans (below_draws _ _ _)⟩
set_option maxHeartbeats 2000000 in
theorem backtB2 (i s d t g : Int) (a : Option Addr) (c : Nat) (l : List Int) (hw : W5 i s d t g) (w : World) (R : Reads .u8 w a c l) (T : Tab w) (hl : l.length ≤ 3000) (hk : okPk i s d t g = true) {n0 n1 n2 n3 n4 : Int} (HP : Hid (pgE l = 0)) (HN : Hid (n0 = getN l 4 ∧ n1 = getN (l.drop 4) 4 ∧ n2 = getN (l.drop 8) 4 ∧ n3 = getN (l.drop 12) 2 ∧ n4 = getN (l.drop 14) 2)) (HE : Hid (l.length = 18)) (hq : okPk n0 n1 n2 n3 n4 = true) (hwq : W5 n0 n1 n2 n3 n4) (HY : Hid ((pputL n0 n1 n2 n3 n4).take 16 = l.take 16)) (hne : pputL n0 n1 n2 n3 n4 ≠ l) (H6 : Hid (l.getD 16 0 = 255)) (H7 : Hid (l.getD 17 0 = 255)) :
    Calls Tryd.prog 4 #[.agg #[.int .i64 i, .int .i64 s, .int .i64 d, .int .i64 t, .int .i64 g], .slice a l.length c] w fun e w' => e = .returned (.bool true) ∧ Below w.heap.size w w' := by
  have hb0 := below_new w (.cells #[.int .i64 i, .int .i64 s, .int .i64 d, .int .i64 t, .int .i64 g] 23)
  have X0 := Box.new w i s d t g
  have T0 := T.later hb0
  have hle := R.le
  have hcap : (18 : Int) ≤ (c : Int) := by have := HE.out; omega
  obtain ⟨bb, oo, rfl, hbb, hcB⟩ := R.cells (by intro h; have := HE.out; rw [h] at this; cases this)
  rw [HE.out]
  clear hl hle
  go_enter Tryd.func4, Tryd.ntmps4
  go_wp2_with (go_at_call 9; refine (awake_any _ T0).mono ?_; rintro e w1 ⟨rfl, hb1⟩; obtain ⟨_, c0, c1, c2, c3, c4, _⟩ := X0.later hb1)
  refine (pput_good hk hw _ (T0.later hb1)).mono ?_
  rintro e w2 ⟨a2, k2, rfl, R2, hb2⟩
  have X2 := (X0.later hb1).later hb2
  have T2 := (T0.later hb1).later hb2
  obtain ⟨_, c0, c1, c2, c3, c4, _⟩ := id X2
  go_wp2_with fail
  refine (may_any i s d t g hw _ T2).mono ?_
  rintro e w3 ⟨rfl, hb3⟩
  go_wp2_with fail
  refine (pget_put hk _ (R2.later hb3) (T2.later hb3)).mono ?_
  rintro e w4 ⟨rfl, hb4⟩
  have hbq := below_new w4 (.cells #[.int .i64 i, .int .i64 s, .int .i64 d, .int .i64 t, .int .i64 g] 23)
  have hb24 := below_step (below_step hb3 hb4) hbq
  obtain ⟨_, d0, d1, d2, d3, d4, _⟩ := X2.later hb24
  have hbW := below_step (below_step (below_step hb0 hb1) hb2) hb24
  have RW := R.later hbW
  have TW := T.later hbW
  clear hb3 hb4 hbq R2 X2 T2 hb24 hb2 hb1 hb0 T0 X0
  go_wp2_with fail
  refine (pget_some _ RW HE.out (by decide) TW HP.out HN.out).mono ?_
  rintro e v1 ⟨rfl, hv1⟩
  have hbV := below_new v1 (.cells #[.int .i64 n0, .int .i64 n1, .int .i64 n2, .int .i64 n3, .int .i64 n4] 23)
  have hv1' := below_step hv1 hbV
  have TV := TW.later hv1'
  go_wp2_with fail
  refine (pput_good hq hwq _ TV).mono ?_
  rintro e v2 ⟨ay, ky, rfl, RY, hv2⟩
  have hb2v := below_step hv1' hv2
  have RB := RW.later hb2v
  have hbF := below_step hbW hb2v
  have hky : (18 : Int) ≤ (ky : Int) := by have := RY.le; rw [pput_len hq] at this; omega
  have l16 : (l.take 16).length = 16 := by have := HE.out; simp; omega
  have RT := RY.take 16
  rw [HY.out] at RT
  have s1 := run_strs_at RT l16
  have s2 := run_strs_at (RB.take 16) l16
  have s3 := run_strs_at RY (pput_len hq)
  have s4 := run_strs_at RB HE.out
  have hdf := str_differ RY.oct RB.oct hne
  have e6 := hcB 16 (by rw [HE.out]; decide)
  have e7 := hcB 17 (by rw [HE.out]; decide)
  rw [H6.out] at e6
  rw [H7.out] at e7
  have g6 := (hbF.cell (p := ⟨bb, oo + 16, none⟩) hbb).trans e6
  have g7 := (hbF.cell (p := ⟨bb, oo + 17, none⟩) hbb).trans e7
  obtain ⟨yb, yo, rfl, _, _⟩ := RY.cells (by intro h; have := pput_len hq; rw [h] at this; cases this)
  clear hcB hb2v hv2 hv1' hbV hv1 RY RB RW TV TW l16 RT e6 e7 hne
  go_wp2_with fail
  go_quiet (fail)
  go_wp2_with fail
  go_ret
  exact ⟨rfl, hbF.trans (below_draws _ _ _)⟩

theorem walk (i s d t g : Int) (a : Option Addr) (c : Nat) (l : List Int) (wi : (Lit.int .i64 i).wf = true) (ws : (Lit.int .i64 s).wf = true) (wd : (Lit.int .i64 d).wf = true) (wt : (Lit.int .i64 t).wf = true) (wg : (Lit.int .i64 g).wf = true) (w : World) (R : Reads .u8 w a c l) (T : Tab w) :
    Calls Tryd.prog 4 #[.agg #[.int .i64 i, .int .i64 s, .int .i64 d, .int .i64 t, .int .i64 g], .slice a l.length c] w fun e w' => e = .returned (.bool true) ∧ Below w.heap.size w w' := by
  have hw : W5 i s d t g := w5_mk wi ws wd wt wg
  by_cases hl : 3000 < l.length
  · exact back_long i s d t g a c l w R T hl
  have hl2 : l.length ≤ 3000 := by omega
  by_cases h0 : pgE l = 0
  case neg =>
    cases hk : okPk i s d t g
    · exact backfA i s d t g a c l hw w R T hl2 hk rfl h0
    · exact backtA i s d t g a c l hw w R T hl2 hk rfl h0
  obtain ⟨h18, hs, hg⟩ := pgE_zero h0
  have hY := (pput_yes hg).1
  rw [got_put R.oct h0] at hY
  have hT : (pputL (getN l 4) (getN (l.drop 4) 4) (getN (l.drop 8) 4) (getN (l.drop 12) 2) (getN (l.drop 14) 2)).take 16 = l.take 16 := by
    rw [hY]; exact app_take (by simp; omega)
  by_cases hne : pputL (getN l 4) (getN (l.drop 4) 4) (getN (l.drop 8) 4) (getN (l.drop 12) 2) (getN (l.drop 14) 2) = l
  · cases hk : okPk i s d t g
    · exact backfB1 i s d t g a c l hw w R T hl2 hk h0 ⟨rfl, rfl, rfl, rfl, rfl⟩ h18 hg (wf5 R.oct) hne
    · exact backtB1 i s d t g a c l hw w R T hl2 hk h0 ⟨rfl, rfl, rfl, rfl, rfl⟩ h18 hg (wf5 R.oct) hne
  rcases last_two R.oct h18 hs with h | ⟨h6, h7⟩
  · exact absurd (by rw [hY, h, List.take_append_drop]) hne
  · cases hk : okPk i s d t g
    · exact backfB2 i s d t g a c l hw w R T hl2 hk h0 ⟨rfl, rfl, rfl, rfl, rfl⟩ h18 hg (wf5 R.oct) hT hne h6 h7
    · exact backtB2 i s d t g a c l hw w R T hl2 hk h0 ⟨rfl, rfl, rfl, rfl, rfl⟩ h18 hg (wf5 R.oct) hT hne h6 h7

set_option maxRecDepth 100000 in
theorem lifted (os : Os) (started : os.Started) (H : Type) (enc : TypeId × Value → H) :
    ReturnsInHanded {} Tryd.checked os 4 .any (fun w args => (Rows.packetBackSpec.pre enc Tryd.prog Tryd.f4 [] false w args ∧ laidMetH Tryd.prog [("wayfinder/packet.fields", Rows.laid_wayfinder_packet_fields)] w) ∧ sizedMet enc Tryd.prog Tryd.f4 (OpenSpec.ofChange Rows.packetBackSpec) false w args) (Rows.packetBackSpec.post enc Tryd.prog Tryd.f4 false true false false) := by
  refine returnsInHanded_of_change_and (C := Tryd.checked) (X := fun w _ => laidMetH Tryd.prog [("wayfinder/packet.fields", Rows.laid_wayfinder_packet_fields)] w) (fun _ _ _ hh h => h.of_heap hh) own started (by kernel_rfl) Tryd.func4
    (ChangeSpec.witness_shaped (enc := enc) (C := Tryd.checked) (os := os) (X := fun w _ => laidMetH Tryd.prog [("wayfinder/packet.fields", Rows.laid_wayfinder_packet_fields)] w) false (World.doorLaid Tryd.prog 400 os) #[.agg #[.int .i64 0, .int .i64 0, .int .i64 0, .int .i64 0, .int .i64 0], .slice none 0 0] 8 rfl (World.shaped_of_RefB (by kernel_rfl) (by kernel_rfl)) (by kernel_rfl) (by kernel_rfl) (by kernel_rfl) (door_met os _)) ?_
  intro W base args ds gs before hval0 hW _ _ hL _
  have hval : ∀ (j : Nat) t v, Tryd.f4.params[j]? = some t → args[j]? = some v → Value.okWide Tryd.prog W .any base t v := hval0
  have hW' := hW
  obtain ⟨p, q, hA0, hV, rfl, hfz, hnd⟩ := hW
  have hA : DataW.TrodAll enc Tryd.prog W 0 (fun _ => true) true Tryd.f4.params.toList args.toList ds p := hA0
  rw [Tryd.params4] at hA hval
  obtain ⟨v0, vs0, d0, ds0, p0, q0, hargs, rfl, rfl, h0, r0⟩ := trodAll_cons hA
  obtain ⟨v1, vs1, d1, ds1, p1, q1, rfl, rfl, rfl, h1, r1⟩ := trodAll_cons r0
  obtain ⟨rfl, rfl, rfl⟩ := trodAll_nil r1
  obtain rfl : args = #[v0, v1] := by cases args; simp_all
  obtain ⟨rfl, rfl⟩ := trodVars_none hV
  have k0 := h0
  have lt0 : ∀ x ∈ p0, x.block < W.heap.size := by obtain ⟨m, hm⟩ := k0; exact DataW.trod_lt m _ _ _ hm
  obtain ⟨a1, n1, c1, rfl⟩ := okWide_slice Tryd.underlying24 (hval 1 24 v1 rfl rfl)
  have k1 := h1
  have lt1 : ∀ x ∈ p1, x.block < W.heap.size := by obtain ⟨m, hm⟩ := k1; exact DataW.trod_lt m _ _ _ hm
  obtain ⟨x0a, x0b, x0c, x0d, x0e, y0a, y0b, y0c, y0d, y0e, n0, rfl, rfl, hp0, t0a, t0b, t0c, t0d, t0e⟩ := open_agg5 Tryd.underlying23 (by kernel_rfl) (by kernel_rfl) (hval 0 23 v0 rfl rfl) h0
  obtain ⟨a0, e0a, f0a, w0a⟩ := DataW.trod_int Tryd.underlying3 t0a
  obtain rfl : x0a = .int .i64 a0 := by simpa using e0a
  obtain ⟨b0, e0b, f0b, w0b⟩ := DataW.trod_int Tryd.underlying3 t0b
  obtain rfl : x0b = .int .i64 b0 := by simpa using e0b
  obtain ⟨c0, e0c, f0c, w0c⟩ := DataW.trod_int Tryd.underlying3 t0c
  obtain rfl : x0c = .int .i64 c0 := by simpa using e0c
  obtain ⟨d0, e0d, f0d, w0d⟩ := DataW.trod_int Tryd.underlying3 t0d
  obtain rfl : x0d = .int .i64 d0 := by simpa using e0d
  obtain ⟨e0, e0e, f0e, w0e⟩ := DataW.trod_int Tryd.underlying3 t0e
  obtain rfl : x0e = .int .i64 e0 := by simpa using e0e
  obtain ⟨l1, el1, R1⟩ : ∃ l, n1 = List.length l ∧ Reads .u8 W a1 c1 l := by
    obtain ⟨fuel, hf⟩ := h1
    rcases open_ints Tryd.underlying24 Tryd.underlying5 (by kernel_rfl) hf with ⟨hcs, _⟩ | ⟨x, l, c, zs, hcs, _, hl, hm, hz, _, hcell, hwz⟩
    · simp [Value.cells] at hcs
      obtain ⟨rfl, rfl, rfl⟩ := hcs
      exact ⟨[], rfl, Reads.none _ _⟩
    · simp [Value.cells] at hcs
      obtain ⟨rfl, rfl, rfl⟩ := hcs
      have hz2 : List.length zs = c1 := by simpa using hz
      exact ⟨List.take _ zs, by rw [List.length_take, hz2]; omega, reads_of_ints hl hm hz2 hcell hwz⟩
  subst el1
  clear hA0 hval0
  refine (walk a0 b0 c0 d0 e0 a1 c1 l1 w0a w0b w0c w0d w0e W R1 (tab_of_laid hL)).mono fun e W' ⟨he, bel⟩ => ?_
  subst he
  exact ⟨_, rfl, _, _, _, [], _, [], hW', trodAll_mk1 (shut_bool Tryd.underlying4 _), (trodAll_cons_mk (Below.trod laidOut (by kernel_rfl) (of_decide_eq_true (by kernel_rfl)) k0 bel lt0) (trodAll_cons_mk (Below.trod laidOut (by kernel_rfl) (of_decide_eq_true (by kernel_rfl)) k1 bel lt1) trodAll_mk0)), rfl, bel.frame _, fun h => by cases h⟩

theorem over : Rows.packetBackRow.holds Tryd.pinned (OpenSpec.ofChange Rows.packetBackSpec) :=
  OpenClaim.holds_of_wide 4 Tryd.f4 rfl rfl rfl rfl rfl rfl rfl ⟨rfl, rfl, rfl, rfl, rfl⟩ rfl rfl rfl rfl rfl (by kernel_rfl) Tryd.func4 (by kernel_rfl)
    (of_decide_eq_true (by kernel_rfl)) (by unfold Func.isWrapper; first | (rw [if_pos (by decide +kernel)]; kernel_rfl) | (rw [if_neg (by decide +kernel)]; exact ⟨rfl, rfl⟩))
    (fun os started H enc _ => lifted os started H enc)

theorem tied : Rows.PacketBackCardSaid :=
  Claim7.holds_tied_plain_at .later [] [.data] true (true, "46527ee65b5e7be070ea704f30c9d9712f2079c6a769904d475dbcddb3d50cd1") false
    over (fun _ h => by cases h) (by kernel_rfl) (fun _ h => by cases h) packetBack_row_tie rfl ⟨rfl, rfl⟩ (by kernel_rfl) rfl
    (fun f fn hf hfn => by
      obtain rfl : f = 4 := Option.some.inj ((show Tryd.prog.funcNamed Rows.packetBackRow.func = some 4 by kernel_rfl).symm.trans hf) |>.symm
      obtain rfl : fn = Tryd.f4 := (Option.some.inj (Tryd.func4.symm.trans hfn)).symm
      exact ⟨by kernel_rfl, fun j t ht => by
        rw [Tryd.params4] at ht
        have hm : t ∈ [23, 24] := by simpa using Array.mem_of_getElem? ht
        have hall : ([23, 24].all fun u => !Tryd.prog.wantsStandIn u) = true := by kernel_rfl
        exact (show Tryd.prog.wantsStandIn t = false by simpa using List.all_eq_true.1 hall t hm)⟩)
    (by kernel_rfl)
end Go.Proofs.YtgpopdincipnaaaDoor.packetBack
namespace Go.Proofs.YtgpopdincipnaaaDoor
theorem packetBack_holds : Rows.PacketBackCardSaid := packetBack.tied
#print axioms packetBack_holds
end Go.Proofs.YtgpopdincipnaaaDoor
