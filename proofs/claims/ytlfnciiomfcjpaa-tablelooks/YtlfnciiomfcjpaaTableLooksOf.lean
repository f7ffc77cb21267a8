/- The walk of TableLooks, over whatever code does as TabIf says. -/
import Derived.Test.YtlfnciiomfcjpaaTabIf
import Derived.Test.YtlfnciiomfcjpaaTabFacts
namespace Go.Proofs.Ytlfnciiomfcjpaa.tableLooks
open Go.ChangeShapes Go.WideShapes Go.ChangeAt Go.RowKit Pk Tb R
set_option linter.unusedVariables false
set_option linter.unusedSimpArgs false

theorem eq_act (k t : Int) (w : World) : (binOp .eql 26 (.agg #[.int .i64 k, .int .i64 t]) (.agg #[.int .i64 k, .int .i64 t])).run Try.prog w = .ok (.bool true) w := by go_simp
set_option maxRecDepth 100000 in
theorem walk_no (C : TCode) (a : Option Addr) (c : Nat) (l : List Vr) (t x d : Int) (w : World) (V : Vers 0 w a c l) (h : ¬ Fw l) :
    Calls Try.prog 4 #[.slice a l.length c, .int .i64 t, .int .i64 x, .int .i64 d] w fun e w' => e = .returned (.bool true) ∧ Below w.heap.size w w' := by
  go_enter Try.func4, Try.ntmps4
  go_wp2_with fail
  refine (tawake_any C _).mono ?_
  rintro e w1 ⟨rfl, hb1⟩
  have hbA := hb1
  have cF := few_any w1 (V.later hbA)
  rw [decide_eq_false h] at cF
  go_wp2_with fail
  refine cF.mono ?_
  clear cF
  rintro e w2 ⟨rfl, hb2⟩
  have hbB := below_step hbA hb2
  go_wp2_with fail
  go_ret
  exact ⟨rfl, hbB⟩
set_option maxRecDepth 100000 in
set_option maxHeartbeats 4000000 in
theorem walk_yes (C : TCode) (a : Option Addr) (c : Nat) (l : List Vr) (t x d : Int) (w : World) (V : Vers 0 w a c l) (h : Fw l) :
    Calls Try.prog 4 #[.slice a l.length c, .int .i64 t, .int .i64 x, .int .i64 d] w fun e w' => e = .returned (.bool true) ∧ Below w.heap.size w w' := by
  go_enter Try.func4, Try.ntmps4
  go_wp2_with fail
  refine (tawake_any C _).mono ?_
  rintro e w1 ⟨rfl, hb1⟩
  have hbA := hb1
  have cF := few_any w1 (V.later hbA)
  rw [decide_eq_true h] at cF
  have HS : Hid (Sm l) := fw_sm h
  have HF : Hid (Fw l) := h
  clear h
  go_wp2_with fail
  refine cF.mono ?_
  clear cF
  rintro e w2 ⟨rfl, hb2⟩
  have hbB := below_step hbA hb2
  have V2 := V.later hbB
  clear hb1 hbA hb2
  have cL := C.look w2 V2 HS.out t x d
  have cR := fun u (Vu : Vers 0 u a c l) => rlook_any u Vu HS.out t x d
  generalize lookT l t x d = r at cL cR
  obtain ⟨⟨rk, rp⟩, rw⟩ := r
  have hq := eq_act rk rp
  go_wp2_with fail
  refine cL.mono ?_
  clear cL
  rintro e w3 ⟨rfl, hb3⟩
  have V3 := V2.later hb3
  have hbC := below_step hbB hb3
  have X := Lies.new w3 [rk, rp] 26 rfl
  have hn3 := below_new w3 (.cells #[.int .i64 rk, .int .i64 rp] 26)
  have V4 := V3.later hn3
  have hbD := below_step hbC hn3
  clear V2 V3 hb3 hbB hbC hn3
  go_wp2_with fail
  refine (cR _ V4).mono ?_
  clear cR V4
  rintro e w4 ⟨rfl, hb4⟩
  have X2 := X.later hb4
  have hbE := below_step hbD hb4
  have X3 := X2.later (below_new w4 (.cells #[.int .i64 rk, .int .i64 rp] 26))
  have Y3 := Lies.new w4 [rk, rp] 26 rfl
  have hbF := below_step hbE (below_new w4 (.cells #[.int .i64 rk, .int .i64 rp] 26))
  obtain ⟨x0, x1⟩ := X3.two
  obtain ⟨y0, y1⟩ := Y3.two
  clear X X2 X3 Y3 hbD hbE hb4
  go_wp2_with fail
  go_ret
  exact ⟨rfl, hbF⟩

end Go.Proofs.Ytlfnciiomfcjpaa.tableLooks
