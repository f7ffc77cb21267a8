/- The statement WiresTwice, over whatever the code is (WCode). -/
import Derived.Test.YtoedgnkoahcblaaWireIf
namespace Go.Proofs.Ytoedgnkoahcblaa
open Go.ChangeShapes Go.WideShapes Go.ChangeAt Go.RowKit O Wi
set_option linter.unusedVariables false
set_option linter.unusedSimpArgs false

set_option maxRecDepth 100000 in
set_option maxHeartbeats 8000000 in
theorem wiresTwice_of (C : WCode) (a : Option Addr) (c : Nat) (L : List Wr) (at_ : Int) (w : World) (V : Wires none w a c L) :
    Calls Try.prog 7 #[.slice a L.length c, .int .i64 at_] w fun e w' => e = .returned (.bool true) ∧ Below w.heap.size w w' := by
  have hmx := Nat.le_trans V.le V.max
  unfold maxLen at hmx
  have hB := Below.refl w.heap.size w
  have cFa := fun w (V : Wires none w a c L) => few14_any w V
  cases hA : fewWB L with
  | false =>
    rw [hA] at cFa
    go_enter Try.func7, Try.ntmps7
    go_wp2_with fail
    refine (wawake_any C _).mono ?_
    rintro e w1 ⟨rfl, hb⟩
    replace V := V.later hb
    replace hB := below_step hB hb
    clear hb
    go_wp2_with fail
    refine (cFa _ V).mono ?_
    rintro e w' ⟨rfl, hww⟩
    obtain rfl := hww.symm
    go_wp2_with fail
    go_ret
    exact ⟨rfl, hB⟩
  | true =>
    rw [hA] at cFa
    have bA := (fewW_iff L).1 hA
    clear hA
    by_cases h0 : at_ < 0
    case pos =>
      clear bA
      go_enter Try.func7, Try.ntmps7
      go_wp2_with fail
      refine (wawake_any C _).mono ?_
      rintro e w1 ⟨rfl, hb⟩
      replace V := V.later hb
      replace hB := below_step hB hb
      clear hb
      go_wp2_with fail
      refine (cFa _ V).mono ?_
      rintro e w' ⟨rfl, hww⟩
      obtain rfl := hww.symm
      go_wp2_with fail
      go_ret
      exact ⟨rfl, hB⟩
    by_cases h1 : (L.length : Int) ≤ at_
    case pos =>
      clear bA
      go_enter Try.func7, Try.ntmps7
      go_wp2_with fail
      refine (wawake_any C _).mono ?_
      rintro e w1 ⟨rfl, hb⟩
      replace V := V.later hb
      replace hB := below_step hB hb
      clear hb
      go_wp2_with fail
      refine (cFa _ V).mono ?_
      rintro e w' ⟨rfl, hww⟩
      obtain rfl := hww.symm
      go_wp2_with fail
      go_ret
      exact ⟨rfl, hB⟩
    obtain ⟨j, rfl⟩ : ∃ j : Nat, at_ = (j : Int) := ⟨at_.toNat, by omega⟩
    have hj : j < L.length := by omega
    have b2 : Bw 200 300 L := ⟨Nat.le_trans bA.1 (by decide), bA.2⟩
    have hl100 := bA.1
    have c1 := fun w (V : Wires none w a c L) => C.fate w V b2 (j : Int) 2
    have c2 := fun w {y : Option Addr} {k : Nat} (V : Wires none w y k L) => C.fate w V b2 (j : Int) 0
    have c3 := fun w {y : Option Addr} {k : Nat} (V : Wires none w y k L) => C.fate w V b2 (j : Int) 1
    obtain ⟨p1, p2, p3⟩ := fate_twice hj
    obtain ⟨q1, q2, q3⟩ := fate_deliver hj
    obtain ⟨r1, r2, r3⟩ := fate_lose hj
    simp only [p1, p2, p3] at c1
    simp only [q1, q2, q3] at c2
    simp only [r1, r2, r3] at c3
    have hE := erase_len hj
    generalize L.eraseIdx j = E at c2 c3 hE
    generalize L.getD j noW = x0 at c1 c2
    have hz : ((E.length : Int) == (L.length : Int) - 1) = true := by rw [beq_iff_eq]; omega
    have hjz : (j : Int) < (L.length : Int) := by omega
    clear p1 p2 p3 q1 q2 q3 r1 r2 r3 bA b2 hE h0 h1 hj
    dsimp only [vW] at c1 c2 c3
    go_enter Try.func7, Try.ntmps7
    go_wp2_with fail
    refine (wawake_any C _).mono ?_
    rintro e w1 ⟨rfl, hb⟩
    replace V := V.later hb
    replace hB := below_step hB hb
    clear hb
    go_wp2_with fail
    refine (cFa _ V).mono ?_
    rintro e w' ⟨rfl, hww⟩
    obtain rfl := hww.symm
    clear cFa
    go_wp2_with fail
    refine (c1 _ V).mono ?_
    clear c1
    rintro e w2 ⟨y1, k1, ⟨qs, qu, qx, qn, qc⟩, rfl, F1, h1, hb⟩
    replace hB := below_step hB hb
    clear hb
    clear V
    have K1 : C3 w2.heap.size (.int .i64 qs) (.bool qu) (.slice qx qn qc) (w2.alloc (.cells #[.int .i64 qs, .bool qu, .slice qx qn qc] 25)) := C3.new w2 _ _ _ _ rfl
    have hb := below_new w2 (.cells #[.int .i64 qs, .bool qu, .slice qx qn qc] 25)
    replace F1 := F1.later hb
    replace h1 := h1.later hb
    replace hB := below_step hB hb
    clear hb
    go_wp2_with fail
    generalize w2.alloc (.cells #[.int .i64 qs, .bool qu, .slice qx qn qc] 25) = u1 at K1 hB F1 h1 ⊢
    generalize w2.heap.size = N1 at K1 ⊢
    refine (c2 _ F1).mono ?_
    clear c2
    rintro e w3 ⟨y2, k2, ⟨rs, ru, rx, rn, rc⟩, rfl, F2, h2, hb⟩
    replace F1 := F1.later hb
    replace h1 := h1.later hb
    replace K1 := K1.later hb
    replace hB := below_step hB hb
    clear hb
    have K2 : C3 w3.heap.size (.int .i64 rs) (.bool ru) (.slice rx rn rc) (w3.alloc (.cells #[.int .i64 rs, .bool ru, .slice rx rn rc] 25)) := C3.new w3 _ _ _ _ rfl
    have hb := below_new w3 (.cells #[.int .i64 rs, .bool ru, .slice rx rn rc] 25)
    replace F1 := F1.later hb
    replace h1 := h1.later hb
    replace K1 := K1.later hb
    replace F2 := F2.later hb
    replace h2 := h2.later hb
    replace hB := below_step hB hb
    clear hb
    go_wp2_with fail
    generalize w3.alloc (.cells #[.int .i64 rs, .bool ru, .slice rx rn rc] 25) = u2 at K2 hB F1 h1 K1 F2 h2 ⊢
    generalize w3.heap.size = N2 at K2 ⊢
    refine (c3 _ F1).mono ?_
    clear c3
    rintro e w4 ⟨y3, k3, ⟨ss, su, sx, sn, sc⟩, rfl, F3, -, hb⟩
    replace h1 := h1.later hb
    replace K1 := K1.later hb
    replace F2 := F2.later hb
    replace h2 := h2.later hb
    replace K2 := K2.later hb
    replace hB := below_step hB hb
    clear hb
    clear F1
    have K3 : C3 w4.heap.size (.int .i64 ss) (.bool su) (.slice sx sn sc) (w4.alloc (.cells #[.int .i64 ss, .bool su, .slice sx sn sc] 25)) := C3.new w4 _ _ _ _ rfl
    have hb := below_new w4 (.cells #[.int .i64 ss, .bool su, .slice sx sn sc] 25)
    replace h1 := h1.later hb
    replace K1 := K1.later hb
    replace F2 := F2.later hb
    replace h2 := h2.later hb
    replace K2 := K2.later hb
    replace F3 := F3.later hb
    replace hB := below_step hB hb
    clear hb
    have K1z0 := K1.c0
    have K1z1 := K1.c1
    have K1z2 := K1.c2
    have K2z0 := K2.c0
    have K2z1 := K2.c1
    have K2z2 := K2.c2
    go_wp2_with fail
    clear K1z0 K1z1 K1z2
    clear K2z0 K2z1 K2z2
    generalize w4.alloc (.cells #[.int .i64 ss, .bool su, .slice sx sn sc] 25) = u3 at K3 hB h1 K1 F2 h2 K2 F3 ⊢
    generalize w4.heap.size = N3 at K3 ⊢
    refine (one14_any _ h1 h2).mono ?_
    rintro e w5 ⟨rfl, hb⟩
    replace F2 := F2.later hb
    replace F3 := F3.later hb
    replace hB := below_step hB hb
    clear hb
    clear h1 h2 K1 K2 K3
    go_wp2_with fail
    refine (same14_any _ F2 F3).mono ?_
    rintro e w6 ⟨rfl, hb⟩
    replace hB := below_step hB hb
    clear hb
    clear F2 F3
    have e1 : decide (x0 = x0) = true := decide_eq_true rfl
    have e2 : decide (E = E) = true := decide_eq_true rfl
    go_wp2_with fail
    go_ret
    exact ⟨by first | rfl | exact ret_bool (by simp), hB⟩
end Go.Proofs.Ytoedgnkoahcblaa
