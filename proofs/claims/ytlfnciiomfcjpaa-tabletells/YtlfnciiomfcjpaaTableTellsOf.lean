/- The walk of TableTells, over whatever code does as TabIf says. -/
import Derived.Test.YtlfnciiomfcjpaaTabIf
import Derived.Test.YtlfnciiomfcjpaaTabFacts
namespace Go.Proofs.Ytlfnciiomfcjpaa.tableTells
open Go.ChangeShapes Go.WideShapes Go.ChangeAt Go.RowKit Pk Tb R
set_option linter.unusedVariables false
set_option linter.unusedSimpArgs false

set_option maxRecDepth 100000 in
theorem walk_no (C : TCode) (a : Option Addr) (c : Nat) (l : List Vr) (t ra rn ri rp rk rt m : Int) (w : World) (V : Vers 0 w a c l) (h : ¬ Fw l) :
    Calls Try.prog 3 #[.slice a l.length c, .int .i64 t, .agg #[.int .i64 ra, .int .i64 rn, .int .i64 ri, .int .i64 rp, .int .i64 rk, .int .i64 rt], .int .i64 m] w fun e w' => e = .returned (.bool true) ∧ Below w.heap.size w w' := by
  have hn := below_new w (.cells #[.int .i64 ra, .int .i64 rn, .int .i64 ri, .int .i64 rp, .int .i64 rk, .int .i64 rt] 28)
  go_enter Try.func3, Try.ntmps3
  go_wp2_with fail
  refine (tawake_any C _).mono ?_
  rintro e w1 ⟨rfl, hb1⟩
  have hbA := below_step hn hb1
  have cF := few_any w1 (V.later hbA)
  rw [decide_eq_false h] at cF
  go_wp2_with fail
  refine cF.mono ?_
  clear cF
  rintro e w2 ⟨rfl, hb2⟩
  have hbB := below_step hbA hb2
  go_wp2_with fail
  go_ret
  exact ⟨rfl, hbB⟩
set_option maxRecDepth 100000 in
set_option maxHeartbeats 4000000 in
theorem walk_yes (C : TCode) (a : Option Addr) (c : Nat) (l : List Vr) (t ra rn ri rp rk rt m : Int) (hwr : ∀ z ∈ fR ⟨ra, rn, ri, rp, rk, rt⟩, (Lit.int .i64 z).wf = true) (w : World) (V : Vers 0 w a c l) (h : Fw l) :
    Calls Try.prog 3 #[.slice a l.length c, .int .i64 t, .agg #[.int .i64 ra, .int .i64 rn, .int .i64 ri, .int .i64 rp, .int .i64 rk, .int .i64 rt], .int .i64 m] w fun e w' => e = .returned (.bool true) ∧ Below w.heap.size w w' := by
  have hn := below_new w (.cells #[.int .i64 ra, .int .i64 rn, .int .i64 ri, .int .i64 rp, .int .i64 rk, .int .i64 rt] 28)
  have X := Lies.new w [ra, rn, ri, rp, rk, rt] 28 rfl
  go_enter Try.func3, Try.ntmps3
  go_wp2_with fail
  refine (tawake_any C _).mono ?_
  rintro e w1 ⟨rfl, hb1⟩
  have hbA := below_step hn hb1
  have cF := few_any w1 (V.later hbA)
  rw [decide_eq_true h] at cF
  have HS : Hid (Sm l) := fw_sm h
  have HF : Hid (Fw l) := h
  clear h
  go_wp2_with fail
  refine cF.mono ?_
  clear cF
  rintro e w2 ⟨rfl, hb2⟩
  have hbB := below_step hbA hb2
  have V2 := V.later hbB
  replace X := (X.later hb1).later hb2
  clear hb1 hbA hb2
  obtain ⟨q, hq⟩ : ∃ q, putT l t ⟨ra, rn, ri, rp, rk, rt⟩ m = q := ⟨_, rfl⟩
  obtain ⟨x0, x1, x2, x3, x4, x5⟩ := X.six
  go_wp2_with fail
  clear x0 x1 x2 x3 x4 x5
  have cc := C.put w2 V2 HS.out t m ra rn ri rp rk rt hwr
  rw [hq] at cc
  refine cc.mono ?_
  clear cc
  rintro e w3 ⟨y1, k1, rfl, P1, hb⟩
  replace V2 := V2.later hb
  replace X := X.later hb
  replace hbB := below_step hbB hb
  clear hb
  obtain ⟨x0, x1, x2, x3, x4, x5⟩ := X.six
  go_wp2_with fail
  clear x0 x1 x2 x3 x4 x5
  have cc := rput_any w3 V2 HS.out t m ra rn ri rp rk rt hwr
  rw [hq] at cc
  refine cc.mono ?_
  clear cc
  rintro e w4 ⟨y2, k2, rfl, P2, hb⟩
  replace V2 := V2.later hb
  replace P1 := P1.later hb
  replace X := X.later hb
  replace hbB := below_step hbB hb
  clear hb
  obtain ⟨x0, x1, x2, x3, x4, x5⟩ := X.six
  go_wp2_with fail
  clear x0 x1 x2 x3 x4 x5
  have cc := rsame9_any w4 P1 P2
  rw [decide_eq_true (rfl : q.1 = q.1)] at cc
  refine cc.mono ?_
  clear cc
  rintro e w5 ⟨rfl, hb⟩
  replace V2 := V2.later hb
  replace P1 := P1.later hb
  replace P2 := P2.later hb
  replace X := X.later hb
  replace hbB := below_step hbB hb
  clear hb
  obtain ⟨x0, x1, x2, x3, x4, x5⟩ := X.six
  go_wp2_with fail
  clear x0 x1 x2 x3 x4 x5
  have cc := C.drop w5 V2 HS.out t
  refine cc.mono ?_
  clear cc
  rintro e w6 ⟨y3, k3, rfl, D1, hb⟩
  replace V2 := V2.later hb
  replace P1 := P1.later hb
  replace P2 := P2.later hb
  replace X := X.later hb
  replace hbB := below_step hbB hb
  clear hb
  obtain ⟨x0, x1, x2, x3, x4, x5⟩ := X.six
  go_wp2_with fail
  clear x0 x1 x2 x3 x4 x5
  have cc := rdrop_any w6 V2 HS.out.1 t
  refine cc.mono ?_
  clear cc
  rintro e w7 ⟨y4, k4, rfl, ⟨D2, -⟩, hb⟩
  replace V2 := V2.later hb
  replace P1 := P1.later hb
  replace P2 := P2.later hb
  replace D1 := D1.later hb
  replace X := X.later hb
  replace hbB := below_step hbB hb
  clear hb
  obtain ⟨x0, x1, x2, x3, x4, x5⟩ := X.six
  go_wp2_with fail
  clear x0 x1 x2 x3 x4 x5
  have cc := rsame9_any w7 D1 D2
  rw [decide_eq_true (rfl : dropT l t = dropT l t)] at cc
  refine cc.mono ?_
  clear cc
  rintro e w8 ⟨rfl, hb⟩
  replace V2 := V2.later hb
  replace P1 := P1.later hb
  replace P2 := P2.later hb
  replace D1 := D1.later hb
  replace D2 := D2.later hb
  replace X := X.later hb
  replace hbB := below_step hbB hb
  clear hb
  obtain ⟨x0, x1, x2, x3, x4, x5⟩ := X.six
  go_wp2_with fail
  clear x0 x1 x2 x3 x4 x5
  have cc := C.of w8 V2 HS.out t
  refine cc.mono ?_
  clear cc
  rintro e w9 ⟨y5, k5, rfl, O1, hb⟩
  replace V2 := V2.later hb
  replace P1 := P1.later hb
  replace P2 := P2.later hb
  replace D1 := D1.later hb
  replace D2 := D2.later hb
  replace X := X.later hb
  replace hbB := below_step hbB hb
  clear hb
  obtain ⟨x0, x1, x2, x3, x4, x5⟩ := X.six
  go_wp2_with fail
  clear x0 x1 x2 x3 x4 x5
  have cc := rof_any w9 V2 HS.out t
  refine cc.mono ?_
  clear cc
  rintro e w10 ⟨y6, k6, rfl, ⟨O2, -⟩, hb⟩
  replace V2 := V2.later hb
  replace P1 := P1.later hb
  replace P2 := P2.later hb
  replace D1 := D1.later hb
  replace D2 := D2.later hb
  replace O1 := O1.later hb
  replace X := X.later hb
  replace hbB := below_step hbB hb
  clear hb
  obtain ⟨x0, x1, x2, x3, x4, x5⟩ := X.six
  go_wp2_with fail
  clear x0 x1 x2 x3 x4 x5
  have cc := rsame8_any w10 O1 O2
  rw [decide_eq_true (rfl : (ofT l t).getD [] = (ofT l t).getD [])] at cc
  refine cc.mono ?_
  clear cc
  rintro e w11 ⟨rfl, hb⟩
  replace V2 := V2.later hb
  replace P1 := P1.later hb
  replace P2 := P2.later hb
  replace D1 := D1.later hb
  replace D2 := D2.later hb
  replace O1 := O1.later hb
  replace O2 := O2.later hb
  replace X := X.later hb
  replace hbB := below_step hbB hb
  clear hb
  obtain ⟨x0, x1, x2, x3, x4, x5⟩ := X.six
  go_wp2_with fail
  clear x0 x1 x2 x3 x4 x5
  have cc := C.size w11 V2 HS.out
  refine cc.mono ?_
  clear cc
  rintro e w12 ⟨rfl, hb⟩
  replace V2 := V2.later hb
  replace P1 := P1.later hb
  replace P2 := P2.later hb
  replace D1 := D1.later hb
  replace D2 := D2.later hb
  replace O1 := O1.later hb
  replace O2 := O2.later hb
  replace X := X.later hb
  replace hbB := below_step hbB hb
  clear hb
  obtain ⟨x0, x1, x2, x3, x4, x5⟩ := X.six
  go_wp2_with fail
  clear x0 x1 x2 x3 x4 x5
  have cc := rsize_any w12 V2 HS.out
  refine cc.mono ?_
  clear cc
  rintro e w13 ⟨rfl, hb⟩
  replace V2 := V2.later hb
  replace P1 := P1.later hb
  replace P2 := P2.later hb
  replace D1 := D1.later hb
  replace D2 := D2.later hb
  replace O1 := O1.later hb
  replace O2 := O2.later hb
  replace X := X.later hb
  replace hbB := below_step hbB hb
  clear hb
  obtain ⟨x0, x1, x2, x3, x4, x5⟩ := X.six
  go_wp2_with fail
  clear x0 x1 x2 x3 x4 x5
  go_ret
  exact ⟨rfl, hbB⟩

end Go.Proofs.Ytlfnciiomfcjpaa.tableTells
