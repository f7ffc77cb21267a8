/- The statement WiresTell, over whatever the code is (WCode). -/
import Derived.Test.YtoedgnkoahcblaaWireIf
import Derived.Test.YtoedgnkoahcblaaWireRefS
namespace Go.Proofs.Ytoedgnkoahcblaa
open Go.ChangeShapes Go.WideShapes Go.ChangeAt Go.RowKit O Wi
set_option linter.unusedVariables false
set_option linter.unusedSimpArgs false

set_option maxRecDepth 100000 in
set_option maxHeartbeats 8000000 in
theorem wiresTell_of (C : WCode) (a : Option Addr) (c : Nat) (L : List Wr) (ps : Int) (pu : Bool) (px : Option Addr) (pc : Nat) (pb : List Int) (at_ f : Int) (w : World) (V : Wires none w a c L) (hps : (Lit.int .i64 ps).wf = true) (RP : Reads .u8 w px pc pb) :
    Calls Try.prog 3 #[.slice a L.length c, .agg #[.int .i64 ps, .bool pu, .slice px pb.length pc], .int .i64 at_, .int .i64 f] w fun e w' => e = .returned (.bool true) ∧ Below w.heap.size w w' := by
  have hmx := Nat.le_trans V.le V.max
  unfold maxLen at hmx
  have hP : WireAt none w ⟨ps, pu, px, pb.length, pc⟩ ⟨ps, pu, pb⟩ := ⟨rfl, rfl, hps, rfl, RP, fun _ _ _ e => (nomatch e)⟩
  have hpm := Nat.le_trans RP.le RP.max
  unfold maxLen at hpm
  clear RP hps
  have K : C3 w.heap.size (.int .i64 ps) (.bool pu) (.slice px pb.length pc) (w.alloc (.cells #[.int .i64 ps, .bool pu, .slice px pb.length pc] 25)) := C3.new w _ _ _ _ rfl
  have hB := below_new w (.cells #[.int .i64 ps, .bool pu, .slice px pb.length pc] 25)
  replace V := V.later hB
  replace hP := hP.later hB
  have cFa := fun w (V : Wires none w a c L) => few14_any w V
  cases hA : fewWB L with
  | false =>
    rw [hA] at cFa
    go_enter Try.func3, Try.ntmps3
    go_wp2_with fail
    refine (wawake_any C _).mono ?_
    rintro e w1 ⟨rfl, hb⟩
    replace V := V.later hb
    replace hP := hP.later hb
    replace K := K.later hb
    replace hB := below_step hB hb
    clear hb
    go_wp2_with fail
    refine (cFa _ V).mono ?_
    rintro e w' ⟨rfl, hww⟩
    obtain rfl := hww.symm
    go_wp2_with fail
    go_ret
    exact ⟨rfl, hB⟩
  | true =>
    rw [hA] at cFa
    have bA := (fewW_iff L).1 hA
    clear hA
    by_cases h300 : 300 < pb.length
    case pos =>
      clear bA
      have hz : (300 : Int) < (pb.length : Int) := by omega
      go_enter Try.func3, Try.ntmps3
      go_wp2_with fail
      refine (wawake_any C _).mono ?_
      rintro e w1 ⟨rfl, hb⟩
      replace V := V.later hb
      replace hP := hP.later hb
      replace K := K.later hb
      replace hB := below_step hB hb
      clear hb
      have Kz0 := K.c0
      have Kz1 := K.c1
      have Kz2 := K.c2
      go_wp2_with fail
      refine (cFa _ V).mono ?_
      rintro e w' ⟨rfl, hww⟩
      obtain rfl := hww.symm
      go_wp2_with fail
      go_ret
      exact ⟨rfl, hB⟩
    have hz : ¬ (300 : Int) < (pb.length : Int) := by omega
    have b2 : Bw 200 300 L := ⟨Nat.le_trans bA.1 (by decide), bA.2⟩
    have l10 : L.length ≤ 1000 := Nat.le_trans bA.1 (by decide)
    have cS := fun w (V : Wires none w a c L) (hP : WireAt none w ⟨ps, pu, px, pb.length, pc⟩ ⟨ps, pu, pb⟩) => C.send w V hP bA (by show pb.length ≤ 300; omega) (fun k e => (nomatch e))
    have cR := fun w (V : Wires none w a c L) (hP : WireAt none w ⟨ps, pu, px, pb.length, pc⟩ ⟨ps, pu, pb⟩) => rsend14_any w V hP l10
    have cF := fun w (V : Wires none w a c L) => C.fate w V b2 at_ f
    have cG := fun w (V : Wires none w a c L) => rfate14_any w V l10 at_ f
    generalize sendL L ⟨ps, pu, pb⟩ = S at cS cR
    generalize sendB L = sb at cS cR
    generalize fateL L at_ f = F at cF cG
    generalize fateW L at_ f = fw at cF cG
    generalize fateB L at_ f = fb at cF cG
    clear bA b2 l10 h300
    dsimp only [vW] at cS cR cF cG
    go_enter Try.func3, Try.ntmps3
    go_wp2_with fail
    refine (wawake_any C _).mono ?_
    rintro e w1 ⟨rfl, hb⟩
    replace V := V.later hb
    replace hP := hP.later hb
    replace K := K.later hb
    replace hB := below_step hB hb
    clear hb
    have Kz0 := K.c0
    have Kz1 := K.c1
    have Kz2 := K.c2
    go_wp2_with fail
    refine (cFa _ V).mono ?_
    rintro e w' ⟨rfl, hww⟩
    obtain rfl := hww.symm
    clear cFa
    go_wp2_with fail
    refine (cS _ V hP).mono ?_
    clear cS
    rintro e w2 ⟨y1, k1, rfl, S1, hb⟩
    replace V := V.later hb
    replace hP := hP.later hb
    replace K := K.later hb
    replace hB := below_step hB hb
    clear hb
    clear Kz0 Kz1 Kz2
    have Kz0 := K.c0
    have Kz1 := K.c1
    have Kz2 := K.c2
    go_wp2_with fail
    refine (cR _ V hP).mono ?_
    clear cR
    rintro e w3 ⟨y2, k2, rfl, S2, hb⟩
    replace V := V.later hb
    replace K := K.later hb
    replace S1 := S1.later hb
    replace hB := below_step hB hb
    clear hb
    clear Kz0 Kz1 Kz2
    go_wp2_with fail
    refine (same14_any _ S1 S2).mono ?_
    rintro e w4 ⟨rfl, hb⟩
    replace V := V.later hb
    replace hB := below_step hB hb
    clear hb
    clear S1 S2 K hP
    go_wp2_with fail
    refine (cF _ V).mono ?_
    clear cF
    rintro e w5 ⟨y3, k3, ⟨qs, qu, qx, qn, qc⟩, rfl, F1, h1, hb⟩
    replace V := V.later hb
    replace hB := below_step hB hb
    clear hb
    have K1 : C3 w5.heap.size (.int .i64 qs) (.bool qu) (.slice qx qn qc) (w5.alloc (.cells #[.int .i64 qs, .bool qu, .slice qx qn qc] 25)) := C3.new w5 _ _ _ _ rfl
    have hb := below_new w5 (.cells #[.int .i64 qs, .bool qu, .slice qx qn qc] 25)
    replace V := V.later hb
    replace F1 := F1.later hb
    replace h1 := h1.later hb
    replace hB := below_step hB hb
    clear hb
    go_wp2_with fail
    generalize w5.alloc (.cells #[.int .i64 qs, .bool qu, .slice qx qn qc] 25) = u1 at K1 hB V F1 h1 ⊢
    generalize w5.heap.size = N1 at K1 ⊢
    refine (cG _ V).mono ?_
    clear cG
    rintro e w6 ⟨y4, k4, ⟨rs, ru, rx, rn, rc⟩, rfl, F2, h2, hb⟩
    replace F1 := F1.later hb
    replace h1 := h1.later hb
    replace K1 := K1.later hb
    replace hB := below_step hB hb
    clear hb
    clear V
    have K2 : C3 w6.heap.size (.int .i64 rs) (.bool ru) (.slice rx rn rc) (w6.alloc (.cells #[.int .i64 rs, .bool ru, .slice rx rn rc] 25)) := C3.new w6 _ _ _ _ rfl
    have hb := below_new w6 (.cells #[.int .i64 rs, .bool ru, .slice rx rn rc] 25)
    replace F1 := F1.later hb
    replace h1 := h1.later hb
    replace K1 := K1.later hb
    replace F2 := F2.later hb
    replace h2 := h2.later hb
    replace hB := below_step hB hb
    clear hb
    go_wp2_with fail
    generalize w6.alloc (.cells #[.int .i64 rs, .bool ru, .slice rx rn rc] 25) = u2 at K2 hB F1 h1 K1 F2 h2 ⊢
    generalize w6.heap.size = N2 at K2 ⊢
    refine (same14_any _ F1 F2).mono ?_
    rintro e w7 ⟨rfl, hb⟩
    replace h1 := h1.later hb
    replace K1 := K1.later hb
    replace h2 := h2.later hb
    replace K2 := K2.later hb
    replace hB := below_step hB hb
    clear hb
    clear F1 F2
    have K1z0 := K1.c0
    have K1z1 := K1.c1
    have K1z2 := K1.c2
    have K2z0 := K2.c0
    have K2z1 := K2.c1
    have K2z2 := K2.c2
    go_wp2_with fail
    refine (one14_any _ h1 h2).mono ?_
    rintro e w8 ⟨rfl, hb⟩
    replace hB := below_step hB hb
    clear hb
    clear K1z0 K1z1 K1z2
    clear K2z0 K2z1 K2z2
    clear h1 h2 K1 K2
    have e1 : decide (S = S) = true := decide_eq_true rfl
    have e2 : decide (F = F) = true := decide_eq_true rfl
    have e3 : decide (fw = fw) = true := decide_eq_true rfl
    have e4 : (sb == sb) = true := by simp
    have e5 : (fb == fb) = true := by simp
    go_wp2_with fail
    go_ret
    exact ⟨by first | rfl | exact ret_bool (by simp), hB⟩
end Go.Proofs.Ytoedgnkoahcblaa
