/- The statement WiresLast, over whatever the code is (WCode). -/
import Derived.Test.YtoedgnkoahcblaaWireIf
namespace Go.Proofs.Ytoedgnkoahcblaa
open Go.ChangeShapes Go.WideShapes Go.ChangeAt Go.RowKit O Wi
set_option linter.unusedVariables false
set_option linter.unusedSimpArgs false

set_option maxRecDepth 100000 in
set_option maxHeartbeats 8000000 in
theorem wiresLast_of (C : WCode) (a : Option Addr) (c : Nat) (L : List Wr) (ps : Int) (pu : Bool) (px : Option Addr) (pc : Nat) (pb : List Int) (w : World) (V : Wires none w a c L) (hps : (Lit.int .i64 ps).wf = true) (RP : Reads .u8 w px pc pb) :
    Calls Try.prog 6 #[.slice a L.length c, .agg #[.int .i64 ps, .bool pu, .slice px pb.length pc]] w fun e w' => e = .returned (.bool true) ∧ Below w.heap.size w w' := by
  have hmx := Nat.le_trans V.le V.max
  unfold maxLen at hmx
  have hP : WireAt none w ⟨ps, pu, px, pb.length, pc⟩ ⟨ps, pu, pb⟩ := ⟨rfl, rfl, hps, rfl, RP, fun _ _ _ e => (nomatch e)⟩
  have hpm := Nat.le_trans RP.le RP.max
  unfold maxLen at hpm
  clear RP hps
  have K : C3 w.heap.size (.int .i64 ps) (.bool pu) (.slice px pb.length pc) (w.alloc (.cells #[.int .i64 ps, .bool pu, .slice px pb.length pc] 25)) := C3.new w _ _ _ _ rfl
  have hB := below_new w (.cells #[.int .i64 ps, .bool pu, .slice px pb.length pc] 25)
  replace V := V.later hB
  replace hP := hP.later hB
  have cFa := fun w (V : Wires none w a c L) => few14_any w V
  cases hA : fewWB L with
  | false =>
    rw [hA] at cFa
    go_enter Try.func6, Try.ntmps6
    go_wp2_with fail
    refine (wawake_any C _).mono ?_
    rintro e w1 ⟨rfl, hb⟩
    replace V := V.later hb
    replace hP := hP.later hb
    replace K := K.later hb
    replace hB := below_step hB hb
    clear hb
    go_wp2_with fail
    refine (cFa _ V).mono ?_
    rintro e w' ⟨rfl, hww⟩
    obtain rfl := hww.symm
    go_wp2_with fail
    go_ret
    exact ⟨rfl, hB⟩
  | true =>
    rw [hA] at cFa
    have bA := (fewW_iff L).1 hA
    clear hA
    by_cases h59 : 59 < L.length
    case pos =>
      clear bA
      have hz : (59 : Int) < (L.length : Int) := by omega
      go_enter Try.func6, Try.ntmps6
      go_wp2_with fail
      refine (wawake_any C _).mono ?_
      rintro e w1 ⟨rfl, hb⟩
      replace V := V.later hb
      replace hP := hP.later hb
      replace K := K.later hb
      replace hB := below_step hB hb
      clear hb
      have Kz0 := K.c0
      have Kz1 := K.c1
      have Kz2 := K.c2
      go_wp2_with fail
      refine (cFa _ V).mono ?_
      rintro e w' ⟨rfl, hww⟩
      obtain rfl := hww.symm
      go_wp2_with fail
      go_ret
      exact ⟨rfl, hB⟩
    by_cases h300 : 300 < pb.length
    case pos =>
      clear bA
      have hz0 : ¬ (59 : Int) < (L.length : Int) := by omega
      have hz : (300 : Int) < (pb.length : Int) := by omega
      go_enter Try.func6, Try.ntmps6
      go_wp2_with fail
      refine (wawake_any C _).mono ?_
      rintro e w1 ⟨rfl, hb⟩
      replace V := V.later hb
      replace hP := hP.later hb
      replace K := K.later hb
      replace hB := below_step hB hb
      clear hb
      have Kz0 := K.c0
      have Kz1 := K.c1
      have Kz2 := K.c2
      go_wp2_with fail
      refine (cFa _ V).mono ?_
      rintro e w' ⟨rfl, hww⟩
      obtain rfl := hww.symm
      go_wp2_with fail
      go_ret
      exact ⟨rfl, hB⟩
    have hz0 : ¬ (59 : Int) < (L.length : Int) := by omega
    have hz : ¬ (300 : Int) < (pb.length : Int) := by omega
    have cS := fun w (V : Wires none w a c L) (hP : WireAt none w ⟨ps, pu, px, pb.length, pc⟩ ⟨ps, pu, pb⟩) => C.send w V hP bA (by show pb.length ≤ 300; omega) (fun k e => (nomatch e))
    obtain ⟨s1, s2⟩ := send_room (l := L) (x := ⟨ps, pu, pb⟩) (by omega)
    simp only [s1, s2] at cS
    have hlM : L.length < (L ++ [(⟨ps, pu, pb⟩ : Wr)]).length := by rw [List.length_append]; simp
    have bM : Bw 200 300 (L ++ [(⟨ps, pu, pb⟩ : Wr)]) := ⟨by rw [List.length_append]; simp only [List.length_cons, List.length_nil]; omega, fun x hx => by rcases List.mem_append.1 hx with hx | hx; exact bA.2 x hx; rw [List.mem_singleton.1 hx]; show pb.length ≤ 300; omega⟩
    have cF := fun w {y : Option Addr} {k : Nat} (V : Wires none w y k (L ++ [(⟨ps, pu, pb⟩ : Wr)])) => C.fate w V bM (L.length : Int) 0
    obtain ⟨q1, q2, q3⟩ := fate_deliver hlM
    rw [last_erase] at q1
    rw [last_get] at q2
    simp only [q1, q2, q3] at cF
    generalize L ++ [(⟨ps, pu, pb⟩ : Wr)] = M at cS cF
    clear s1 s2 hlM bM q1 q2 q3 bA h59 h300
    dsimp only [vW] at cS cF
    go_enter Try.func6, Try.ntmps6
    go_wp2_with fail
    refine (wawake_any C _).mono ?_
    rintro e w1 ⟨rfl, hb⟩
    replace V := V.later hb
    replace hP := hP.later hb
    replace K := K.later hb
    replace hB := below_step hB hb
    clear hb
    have Kz0 := K.c0
    have Kz1 := K.c1
    have Kz2 := K.c2
    go_wp2_with fail
    refine (cFa _ V).mono ?_
    rintro e w' ⟨rfl, hww⟩
    obtain rfl := hww.symm
    clear cFa
    go_wp2_with fail
    refine (cS _ V hP).mono ?_
    clear cS
    rintro e w2 ⟨y1, k1, rfl, S1, hb⟩
    replace V := V.later hb
    replace hP := hP.later hb
    replace K := K.later hb
    replace hB := below_step hB hb
    clear hb
    clear Kz0 Kz1 Kz2
    go_wp2_with fail
    refine (cF _ S1).mono ?_
    clear cF
    rintro e w3 ⟨y2, k2, ⟨qs, qu, qx, qn, qc⟩, rfl, F1, h1, hb⟩
    replace V := V.later hb
    replace hP := hP.later hb
    replace K := K.later hb
    replace hB := below_step hB hb
    clear hb
    clear S1
    have K1 : C3 w3.heap.size (.int .i64 qs) (.bool qu) (.slice qx qn qc) (w3.alloc (.cells #[.int .i64 qs, .bool qu, .slice qx qn qc] 25)) := C3.new w3 _ _ _ _ rfl
    have hb := below_new w3 (.cells #[.int .i64 qs, .bool qu, .slice qx qn qc] 25)
    replace V := V.later hb
    replace hP := hP.later hb
    replace K := K.later hb
    replace F1 := F1.later hb
    replace h1 := h1.later hb
    replace hB := below_step hB hb
    clear hb
    go_wp2_with fail
    generalize w3.alloc (.cells #[.int .i64 qs, .bool qu, .slice qx qn qc] 25) = u1 at K1 hB V hP K F1 h1 ⊢
    generalize w3.heap.size = N1 at K1 ⊢
    refine (same14_any _ F1 V).mono ?_
    rintro e w4 ⟨rfl, hb⟩
    replace hP := hP.later hb
    replace K := K.later hb
    replace h1 := h1.later hb
    replace K1 := K1.later hb
    replace hB := below_step hB hb
    clear hb
    clear F1 V
    have Kz0 := K.c0
    have Kz1 := K.c1
    have Kz2 := K.c2
    have K1z0 := K1.c0
    have K1z1 := K1.c1
    have K1z2 := K1.c2
    go_wp2_with fail
    refine (one14_any _ h1 hP).mono ?_
    rintro e w5 ⟨rfl, hb⟩
    replace hB := below_step hB hb
    clear hb
    clear Kz0 Kz1 Kz2
    clear K1z0 K1z1 K1z2
    clear h1 hP K K1
    have e1 : decide (L = L) = true := decide_eq_true rfl
    have e2 : decide ((⟨ps, pu, pb⟩ : Wr) = ⟨ps, pu, pb⟩) = true := decide_eq_true rfl
    go_wp2_with fail
    go_ret
    exact ⟨by first | rfl | exact ret_bool (by simp), hB⟩
end Go.Proofs.Ytoedgnkoahcblaa
