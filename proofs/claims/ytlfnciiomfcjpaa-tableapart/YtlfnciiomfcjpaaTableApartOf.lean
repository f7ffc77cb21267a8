/- The walk of TableApart, over whatever code does as TabIf says. -/
import Derived.Test.YtlfnciiomfcjpaaTabIf
import Derived.Test.YtlfnciiomfcjpaaTabFacts
namespace Go.Proofs.Ytlfnciiomfcjpaa.tableApart
open Go.ChangeShapes Go.WideShapes Go.ChangeAt Go.RowKit Pk Tb R
set_option linter.unusedVariables false
set_option linter.unusedSimpArgs false

theorem eq_act (k t : Int) (w : World) : (binOp .eql 26 (.agg #[.int .i64 k, .int .i64 t]) (.agg #[.int .i64 k, .int .i64 t])).run Try.prog w = .ok (.bool true) w := by go_simp
set_option maxRecDepth 100000 in
theorem walk_no (C : TCode) (a : Option Addr) (c : Nat) (l : List Vr) (t ra rn ri rp rk rt o x d : Int) (w : World) (V : Vers 0 w a c l) (h : ¬ Fw l) :
    Calls Try.prog 5 #[.slice a l.length c, .int .i64 t, .agg #[.int .i64 ra, .int .i64 rn, .int .i64 ri, .int .i64 rp, .int .i64 rk, .int .i64 rt], .int .i64 o, .int .i64 x, .int .i64 d] w fun e w' => e = .returned (.bool true) ∧ Below w.heap.size w w' := by
  have hn := below_new w (.cells #[.int .i64 ra, .int .i64 rn, .int .i64 ri, .int .i64 rp, .int .i64 rk, .int .i64 rt] 28)
  go_enter Try.func5, Try.ntmps5
  go_wp2_with fail
  refine (tawake_any C _).mono ?_
  rintro e w1 ⟨rfl, hb1⟩
  have hbA := below_step hn hb1
  have cF := few_any w1 (V.later hbA)
  rw [decide_eq_false h] at cF
  go_wp2_with fail
  refine cF.mono ?_
  clear cF
  rintro e w2 ⟨rfl, hb2⟩
  have hbB := below_step hbA hb2
  go_wp2_with fail
  go_ret
  exact ⟨rfl, hbB⟩
set_option maxRecDepth 100000 in
set_option maxHeartbeats 4000000 in
theorem walk_same (C : TCode) (a : Option Addr) (c : Nat) (l : List Vr) (t ra rn ri rp rk rt o x d : Int) (hwr : ∀ z ∈ fR ⟨ra, rn, ri, rp, rk, rt⟩, (Lit.int .i64 z).wf = true) (w : World) (V : Vers 0 w a c l) (h : Fw l) (ho : o = t) :
    Calls Try.prog 5 #[.slice a l.length c, .int .i64 t, .agg #[.int .i64 ra, .int .i64 rn, .int .i64 ri, .int .i64 rp, .int .i64 rk, .int .i64 rt], .int .i64 o, .int .i64 x, .int .i64 d] w fun e w' => e = .returned (.bool true) ∧ Below w.heap.size w w' := by
  subst ho
  have hn := below_new w (.cells #[.int .i64 ra, .int .i64 rn, .int .i64 ri, .int .i64 rp, .int .i64 rk, .int .i64 rt] 28)
  have X := Lies.new w [ra, rn, ri, rp, rk, rt] 28 rfl
  go_enter Try.func5, Try.ntmps5
  go_wp2_with fail
  refine (tawake_any C _).mono ?_
  rintro e w1 ⟨rfl, hb1⟩
  have hbA := below_step hn hb1
  have cF := few_any w1 (V.later hbA)
  rw [decide_eq_true h] at cF
  have HS : Hid (Sm l) := fw_sm h
  have HF : Hid (Fw l) := h
  clear h
  go_wp2_with fail
  refine cF.mono ?_
  clear cF
  rintro e w2 ⟨rfl, hb2⟩
  have hbB := below_step hbA hb2
  have V2 := V.later hbB
  replace X := (X.later hb1).later hb2
  clear hb1 hbA hb2
  go_wp2_with fail
  go_ret
  exact ⟨rfl, hbB⟩
set_option maxRecDepth 100000 in
set_option maxHeartbeats 4000000 in
theorem walk_yes (C : TCode) (a : Option Addr) (c : Nat) (l : List Vr) (t ra rn ri rp rk rt o x d : Int) (hwr : ∀ z ∈ fR ⟨ra, rn, ri, rp, rk, rt⟩, (Lit.int .i64 z).wf = true) (w : World) (V : Vers 0 w a c l) (h : Fw l) (ho : ¬ o = t) :
    Calls Try.prog 5 #[.slice a l.length c, .int .i64 t, .agg #[.int .i64 ra, .int .i64 rn, .int .i64 ri, .int .i64 rp, .int .i64 rk, .int .i64 rt], .int .i64 o, .int .i64 x, .int .i64 d] w fun e w' => e = .returned (.bool true) ∧ Below w.heap.size w w' := by
  have hob : (o == t) = false := by simpa using ho
  have HP : Hid (Sm (putT l t ⟨ra, rn, ri, rp, rk, rt⟩ 10000).1) := sm_bd (put_bd (n := 20) (k := 60) h) (by decide) (by decide)
  have HD : Hid (Sm (dropT l t)) := sm_bd (drop_bd (n := 20) (k := 60) h) (by decide) (by decide)
  have HO1 : Hid (ofT (putT l t ⟨ra, rn, ri, rp, rk, rt⟩ 10000).1 o = ofT l o) := of_put_other ho _ _ _
  have HO2 : Hid (ofT (dropT l t) o = ofT l o) := of_drop_other ho _
  have HE1 : Hid (lookT (putT l t ⟨ra, rn, ri, rp, rk, rt⟩ 10000).1 o x d = lookT l o x d) := look_of HO1.out
  have HE2 : Hid (lookT (dropT l t) o x d = lookT l o x d) := look_of HO2.out
  obtain ⟨⟨⟨rk2, rp2⟩, rw2⟩, hr⟩ : ∃ r, lookT l o x d = r := ⟨_, rfl⟩
  have HR : Hid (lookT l o x d = ((rk2, rp2), rw2)) := hr
  have hq := eq_act rk2 rp2
  clear ho hr
  have hn := below_new w (.cells #[.int .i64 ra, .int .i64 rn, .int .i64 ri, .int .i64 rp, .int .i64 rk, .int .i64 rt] 28)
  have X := Lies.new w [ra, rn, ri, rp, rk, rt] 28 rfl
  go_enter Try.func5, Try.ntmps5
  go_wp2_with fail
  refine (tawake_any C _).mono ?_
  rintro e w1 ⟨rfl, hb1⟩
  have hbA := below_step hn hb1
  have cF := few_any w1 (V.later hbA)
  rw [decide_eq_true h] at cF
  have HS : Hid (Sm l) := fw_sm h
  have HF : Hid (Fw l) := h
  clear h
  go_wp2_with fail
  refine cF.mono ?_
  clear cF
  rintro e w2 ⟨rfl, hb2⟩
  have hbB := below_step hbA hb2
  have V2 := V.later hbB
  replace X := (X.later hb1).later hb2
  clear hb1 hbA hb2
  obtain ⟨x0, x1, x2, x3, x4, x5⟩ := X.six
  go_wp2_with fail
  clear x0 x1 x2 x3 x4 x5
  have cc := C.put w2 V2 HS.out t 10000 ra rn ri rp rk rt hwr
  refine cc.mono ?_
  clear cc
  rintro e w3 ⟨y1, k1, rfl, P1, hb⟩
  replace V2 := V2.later hb
  replace X := X.later hb
  replace hbB := below_step hbB hb
  clear hb
  obtain ⟨x0, x1, x2, x3, x4, x5⟩ := X.six
  go_wp2_with fail
  clear x0 x1 x2 x3 x4 x5
  have cc := C.drop w3 V2 HS.out t
  refine cc.mono ?_
  clear cc
  rintro e w4 ⟨y2, k2, rfl, D1, hb⟩
  replace V2 := V2.later hb
  replace P1 := P1.later hb
  replace X := X.later hb
  replace hbB := below_step hbB hb
  clear hb
  obtain ⟨x0, x1, x2, x3, x4, x5⟩ := X.six
  go_wp2_with fail
  clear x0 x1 x2 x3 x4 x5
  have cc := C.look w4 V2 HS.out o x d
  rw [HR.out] at cc
  refine cc.mono ?_
  clear cc
  rintro e w5 ⟨rfl, hb⟩
  replace V2 := V2.later hb
  replace P1 := P1.later hb
  replace D1 := D1.later hb
  replace X := X.later hb
  replace hbB := below_step hbB hb
  clear hb
  have hb := below_new w5 (.cells #[.int .i64 rk2, .int .i64 rp2] 26)
  have A1 : Lies (w5.alloc (.cells #[.int .i64 rk2, .int .i64 rp2] 26)) w5.heap.size [rk2, rp2] := Lies.new w5 [rk2, rp2] 26 rfl
  replace V2 := V2.later hb
  replace P1 := P1.later hb
  replace D1 := D1.later hb
  replace X := X.later hb
  replace hbB := below_step hbB hb
  clear hb
  obtain ⟨x0, x1, x2, x3, x4, x5⟩ := X.six
  go_wp2_with fail
  clear x0 x1 x2 x3 x4 x5
  have cc := C.look (w5.alloc (.cells #[.int .i64 rk2, .int .i64 rp2] 26)) P1 HP.out o x d
  rw [HE1.out, HR.out] at cc
  refine cc.mono ?_
  clear cc
  rintro e w6 ⟨rfl, hb⟩
  replace V2 := V2.later hb
  replace P1 := P1.later hb
  replace D1 := D1.later hb
  replace X := X.later hb
  replace A1 := A1.later hb
  replace hbB := below_step hbB hb
  clear hb
  have hb := below_new w6 (.cells #[.int .i64 rk2, .int .i64 rp2] 26)
  have A2 : Lies (w6.alloc (.cells #[.int .i64 rk2, .int .i64 rp2] 26)) w6.heap.size [rk2, rp2] := Lies.new w6 [rk2, rp2] 26 rfl
  replace V2 := V2.later hb
  replace P1 := P1.later hb
  replace D1 := D1.later hb
  replace X := X.later hb
  replace A1 := A1.later hb
  replace hbB := below_step hbB hb
  clear hb
  obtain ⟨x0, x1, x2, x3, x4, x5⟩ := X.six
  go_wp2_with fail
  clear x0 x1 x2 x3 x4 x5
  have cc := C.look (w6.alloc (.cells #[.int .i64 rk2, .int .i64 rp2] 26)) D1 HD.out o x d
  rw [HE2.out, HR.out] at cc
  refine cc.mono ?_
  clear cc
  rintro e w7 ⟨rfl, hb⟩
  replace V2 := V2.later hb
  replace P1 := P1.later hb
  replace D1 := D1.later hb
  replace X := X.later hb
  replace A1 := A1.later hb
  replace A2 := A2.later hb
  replace hbB := below_step hbB hb
  clear hb
  have hb := below_new w7 (.cells #[.int .i64 rk2, .int .i64 rp2] 26)
  have A3 : Lies (w7.alloc (.cells #[.int .i64 rk2, .int .i64 rp2] 26)) w7.heap.size [rk2, rp2] := Lies.new w7 [rk2, rp2] 26 rfl
  replace V2 := V2.later hb
  replace P1 := P1.later hb
  replace D1 := D1.later hb
  replace X := X.later hb
  replace A1 := A1.later hb
  replace A2 := A2.later hb
  replace hbB := below_step hbB hb
  clear hb
  obtain ⟨x0, x1, x2, x3, x4, x5⟩ := X.six
  go_wp2_with fail
  clear x0 x1 x2 x3 x4 x5
  have cc := C.of (w7.alloc (.cells #[.int .i64 rk2, .int .i64 rp2] 26)) V2 HS.out o
  refine cc.mono ?_
  clear cc
  rintro e w8 ⟨y3, k3, rfl, O1, hb⟩
  replace V2 := V2.later hb
  replace P1 := P1.later hb
  replace D1 := D1.later hb
  replace X := X.later hb
  replace A1 := A1.later hb
  replace A2 := A2.later hb
  replace A3 := A3.later hb
  replace hbB := below_step hbB hb
  clear hb
  obtain ⟨x0, x1, x2, x3, x4, x5⟩ := X.six
  go_wp2_with fail
  clear x0 x1 x2 x3 x4 x5
  have cc := C.of w8 P1 HP.out o
  rw [HO1.out] at cc
  refine cc.mono ?_
  clear cc
  rintro e w9 ⟨y4, k4, rfl, O2, hb⟩
  replace V2 := V2.later hb
  replace P1 := P1.later hb
  replace D1 := D1.later hb
  replace O1 := O1.later hb
  replace X := X.later hb
  replace A1 := A1.later hb
  replace A2 := A2.later hb
  replace A3 := A3.later hb
  replace hbB := below_step hbB hb
  clear hb
  obtain ⟨x0, x1, x2, x3, x4, x5⟩ := X.six
  go_wp2_with fail
  clear x0 x1 x2 x3 x4 x5
  have cc := C.of w9 D1 HD.out o
  rw [HO2.out] at cc
  refine cc.mono ?_
  clear cc
  rintro e w10 ⟨y5, k5, rfl, O3, hb⟩
  replace V2 := V2.later hb
  replace P1 := P1.later hb
  replace D1 := D1.later hb
  replace O1 := O1.later hb
  replace O2 := O2.later hb
  replace X := X.later hb
  replace A1 := A1.later hb
  replace A2 := A2.later hb
  replace A3 := A3.later hb
  replace hbB := below_step hbB hb
  clear hb
  obtain ⟨x0, x1, x2, x3, x4, x5⟩ := X.six
  go_wp2_with fail
  clear x0 x1 x2 x3 x4 x5
  have cc := rsame8_any w10 O1 O2
  rw [decide_eq_true (rfl : (ofT l o).getD [] = (ofT l o).getD [])] at cc
  refine cc.mono ?_
  clear cc
  rintro e w11 ⟨rfl, hb⟩
  replace V2 := V2.later hb
  replace P1 := P1.later hb
  replace D1 := D1.later hb
  replace O1 := O1.later hb
  replace O2 := O2.later hb
  replace O3 := O3.later hb
  replace X := X.later hb
  replace A1 := A1.later hb
  replace A2 := A2.later hb
  replace A3 := A3.later hb
  replace hbB := below_step hbB hb
  clear hb
  obtain ⟨x0, x1, x2, x3, x4, x5⟩ := X.six
  go_wp2_with fail
  clear x0 x1 x2 x3 x4 x5
  have cc := rsame8_any w11 O1 O3
  rw [decide_eq_true (rfl : (ofT l o).getD [] = (ofT l o).getD [])] at cc
  refine cc.mono ?_
  clear cc
  rintro e w12 ⟨rfl, hb⟩
  replace V2 := V2.later hb
  replace P1 := P1.later hb
  replace D1 := D1.later hb
  replace O1 := O1.later hb
  replace O2 := O2.later hb
  replace O3 := O3.later hb
  replace X := X.later hb
  replace A1 := A1.later hb
  replace A2 := A2.later hb
  replace A3 := A3.later hb
  replace hbB := below_step hbB hb
  clear hb
  obtain ⟨x0, x1, x2, x3, x4, x5⟩ := X.six
  obtain ⟨A10, A11⟩ := A1.two
  obtain ⟨A20, A21⟩ := A2.two
  obtain ⟨A30, A31⟩ := A3.two
  go_wp2_with fail
  clear x0 x1 x2 x3 x4 x5
  go_ret
  exact ⟨rfl, hbB⟩

end Go.Proofs.Ytlfnciiomfcjpaa.tableApart
