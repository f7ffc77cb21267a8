/- The statement ConfTells, over whatever the code is (CCode). -/
import Derived.Test.YtnmijgnflemhkaaConfIf
import Derived.Test.YtnmijgnflemhkaaConfRefC
import Derived.Test.YtnmijgnflemhkaaConfRefs
namespace Go.Proofs.Ytnmijgnflemhkaa
open Go.ChangeShapes Go.WideShapes Go.ChangeAt Go.RowKit Pk Cf R
set_option linter.unusedVariables false
set_option linter.unusedSimpArgs false

set_option maxRecDepth 100000 in
set_option maxHeartbeats 4000000 in
theorem confTells_of (C : CCode) (s n : Int) (x : Option Addr) (c : Nat) (l : List Tp.Lk) (a : Option Addr) (k : Nat) (A : Cnf) (a2 : Option Addr) (k2 : Nat) (B : Cnf) (sw : Int) (w : World) (RT : Rds Tp.fK 4 w x c l) (V : Lists w a k A) (V2 : Lists w a2 k2 B) :
    Calls Try.prog 3 #[.agg #[.int .i64 s, .int .i64 n, .slice x l.length c], .slice a A.length k, .slice a2 B.length k2, .int .i64 sw] w fun e w' => e = .returned (.bool true) ∧ Below w.heap.size w w' := by
  have hB := below_new w (.cells #[.int .i64 s, .int .i64 n, .slice x l.length c] 24)
  obtain ⟨t0, t1, t2⟩ := box3 w (.int .i64 s) (.int .i64 n) (.slice x l.length c) 24
  have hBT : w.heap.size < (w.alloc (.cells #[.int .i64 s, .int .i64 n, .slice x l.length c] 24)).heap.size := by simp
  replace RT := RT.later hB
  replace V := V.later hB
  replace V2 := V2.later hB
  have hmx := Nat.le_trans RT.le RT.max
  unfold maxLen at hmx
  have cFa := fun w (V : Lists w a k A) => few_any w V
  have cFb := fun w (V : Lists w a2 k2 B) => few_any w V
  cases hA : fewB A with
  | false =>
    rw [hA] at cFa
    generalize fewB B = fb at cFb
    go_enter Try.func3, Try.ntmps3
    go_wp2_with fail
    refine (cawake_any C _).mono ?_
    rintro e w1 ⟨rfl, hb⟩
    replace t0 := (hb.cell (p := ⟨w.heap.size, 0, none⟩) hBT).trans t0
    replace t1 := (hb.cell (p := ⟨w.heap.size, 1, none⟩) hBT).trans t1
    replace t2 := (hb.cell (p := ⟨w.heap.size, 2, none⟩) hBT).trans t2
    replace hBT := Nat.lt_of_lt_of_le hBT hb.size
    replace RT := RT.later hb
    replace V := V.later hb
    replace V2 := V2.later hb
    replace hB := below_step hB hb
    clear hb
    go_wp2_with fail
    refine (cFa _ V).mono ?_
    rintro e w' ⟨rfl, hww⟩
    obtain rfl := hww
    go_wp2_with fail
    refine (cFb _ V2).mono ?_
    rintro e w' ⟨rfl, hww⟩
    obtain rfl := hww
    go_wp2_with fail
    go_ret
    exact ⟨rfl, hB⟩
  | true =>
    rw [hA] at cFa
    cases hBf : fewB B with
    | false =>
      rw [hBf] at cFb
      go_enter Try.func3, Try.ntmps3
      go_wp2_with fail
      refine (cawake_any C _).mono ?_
      rintro e w1 ⟨rfl, hb⟩
      replace t0 := (hb.cell (p := ⟨w.heap.size, 0, none⟩) hBT).trans t0
      replace t1 := (hb.cell (p := ⟨w.heap.size, 1, none⟩) hBT).trans t1
      replace t2 := (hb.cell (p := ⟨w.heap.size, 2, none⟩) hBT).trans t2
      replace hBT := Nat.lt_of_lt_of_le hBT hb.size
      replace RT := RT.later hb
      replace V := V.later hb
      replace V2 := V2.later hb
      replace hB := below_step hB hb
      clear hb
      go_wp2_with fail
      refine (cFa _ V).mono ?_
      rintro e w' ⟨rfl, hww⟩
      obtain rfl := hww
      go_wp2_with fail
      refine (cFb _ V2).mono ?_
      rintro e w' ⟨rfl, hww⟩
      obtain rfl := hww
      go_wp2_with fail
      go_ret
      exact ⟨rfl, hB⟩
    | true =>
      rw [hBf] at cFb
      have bA := (few_iff A).1 hA
      have bB := (few_iff B).1 hBf
      clear hA hBf
      by_cases h60 : 60 < l.length
      case pos =>
        have hz : (60 : Int) < (l.length : Int) := by omega
        go_enter Try.func3, Try.ntmps3
        go_wp2_with fail
        refine (cawake_any C _).mono ?_
        rintro e w1 ⟨rfl, hb⟩
        replace t0 := (hb.cell (p := ⟨w.heap.size, 0, none⟩) hBT).trans t0
        replace t1 := (hb.cell (p := ⟨w.heap.size, 1, none⟩) hBT).trans t1
        replace t2 := (hb.cell (p := ⟨w.heap.size, 2, none⟩) hBT).trans t2
        replace hBT := Nat.lt_of_lt_of_le hBT hb.size
        replace RT := RT.later hb
        replace V := V.later hb
        replace V2 := V2.later hb
        replace hB := below_step hB hb
        clear hb
        go_wp2_with fail
        refine (cFa _ V).mono ?_
        rintro e w' ⟨rfl, hww⟩
        obtain rfl := hww
        go_wp2_with fail
        refine (cFb _ V2).mono ?_
        rintro e w' ⟨rfl, hww⟩
        obtain rfl := hww
        go_wp2_with fail
        go_ret
        exact ⟨rfl, hB⟩
      have hz : ¬ (60 : Int) < (l.length : Int) := by omega
      have cM := fun w (R : Rds Tp.fK 4 w x c l) (V : Lists w a k A) => C.may s n w R V
      have cM2 := fun w (R : Rds Tp.fK 4 w x c l) (V : Lists w a k A) => rmay12_any s n w R V
      have cS := fun w (V : Lists w a k A) (V2 : Lists w a2 k2 B) => C.same w V V2 bA.2 bB.2
      have cS2 := fun w (V : Lists w a k A) (V2 : Lists w a2 k2 B) => rsame12_any w V V2 (fun l hl => Nat.le_trans (bA.2 l hl) (by decide)) (fun l hl => Nat.le_trans (bB.2 l hl) (by decide))
      have cA := fun w (V : Lists w a k A) => C.at' w V bA.2 sw
      have cA2 := fun w (V : Lists w a k A) => rat_any w V (fun l hl => Nat.le_trans (bA.2 l hl) (by decide)) sw
      have cN := fun w (V : Lists w a k A) => C.most w V bA.2
      have cN2 := fun w (V : Lists w a k A) => rmost_any w V
      generalize mayC s n l A = m at cM cM2
      generalize sameC A B = q at cS cS2
      generalize atC A sw = T at cA cA2
      generalize mostC A = g at cN cN2
      clear bA bB h60
      go_enter Try.func3, Try.ntmps3
      go_wp2_with fail
      refine (cawake_any C _).mono ?_
      rintro e w1 ⟨rfl, hb⟩
      replace t0 := (hb.cell (p := ⟨w.heap.size, 0, none⟩) hBT).trans t0
      replace t1 := (hb.cell (p := ⟨w.heap.size, 1, none⟩) hBT).trans t1
      replace t2 := (hb.cell (p := ⟨w.heap.size, 2, none⟩) hBT).trans t2
      replace hBT := Nat.lt_of_lt_of_le hBT hb.size
      replace RT := RT.later hb
      replace V := V.later hb
      replace V2 := V2.later hb
      replace hB := below_step hB hb
      clear hb
      go_wp2_with fail
      refine (cFa _ V).mono ?_
      rintro e w' ⟨rfl, hww⟩
      obtain rfl := hww
      go_wp2_with fail
      refine (cFb _ V2).mono ?_
      rintro e w' ⟨rfl, hww⟩
      obtain rfl := hww
      clear cFa cFb
      go_wp2_with fail
      refine (cM2 _ RT V).mono ?_
      clear cM2
      rintro e w2 ⟨rfl, hb⟩
      replace t0 := (hb.cell (p := ⟨w.heap.size, 0, none⟩) hBT).trans t0
      replace t1 := (hb.cell (p := ⟨w.heap.size, 1, none⟩) hBT).trans t1
      replace t2 := (hb.cell (p := ⟨w.heap.size, 2, none⟩) hBT).trans t2
      replace hBT := Nat.lt_of_lt_of_le hBT hb.size
      replace RT := RT.later hb
      replace V := V.later hb
      replace V2 := V2.later hb
      replace hB := below_step hB hb
      clear hb
      go_wp2_with fail
      refine (cS2 _ V V2).mono ?_
      clear cS2
      rintro e w3 ⟨rfl, hb⟩
      replace t0 := (hb.cell (p := ⟨w.heap.size, 0, none⟩) hBT).trans t0
      replace t1 := (hb.cell (p := ⟨w.heap.size, 1, none⟩) hBT).trans t1
      replace t2 := (hb.cell (p := ⟨w.heap.size, 2, none⟩) hBT).trans t2
      replace hBT := Nat.lt_of_lt_of_le hBT hb.size
      replace RT := RT.later hb
      replace V := V.later hb
      replace V2 := V2.later hb
      replace hB := below_step hB hb
      clear hb
      go_wp2_with fail
      refine (cA _ V).mono ?_
      clear cA
      rintro e w4 ⟨y1, j1, rfl, R1, -, hb⟩
      replace t0 := (hb.cell (p := ⟨w.heap.size, 0, none⟩) hBT).trans t0
      replace t1 := (hb.cell (p := ⟨w.heap.size, 1, none⟩) hBT).trans t1
      replace t2 := (hb.cell (p := ⟨w.heap.size, 2, none⟩) hBT).trans t2
      replace hBT := Nat.lt_of_lt_of_le hBT hb.size
      replace RT := RT.later hb
      replace V := V.later hb
      replace V2 := V2.later hb
      replace hB := below_step hB hb
      clear hb
      go_wp2_with fail
      refine (cA2 _ V).mono ?_
      clear cA2
      rintro e w5 ⟨y2, j2, rfl, R2, hb⟩
      replace t0 := (hb.cell (p := ⟨w.heap.size, 0, none⟩) hBT).trans t0
      replace t1 := (hb.cell (p := ⟨w.heap.size, 1, none⟩) hBT).trans t1
      replace t2 := (hb.cell (p := ⟨w.heap.size, 2, none⟩) hBT).trans t2
      replace hBT := Nat.lt_of_lt_of_le hBT hb.size
      replace RT := RT.later hb
      replace V := V.later hb
      replace V2 := V2.later hb
      replace R1 := R1.later hb
      replace hB := below_step hB hb
      clear hb
      have cR := fun w (R1 : Rds fR 6 w y1 j1 T) (R2 : Rds fR 6 w y2 j2 T) => rsame8_any w R1 R2
      rw [decide_eq_true (rfl : T = T)] at cR
      go_wp2_with fail
      refine (cR _ R1 R2).mono ?_
      clear cR
      rintro e w6 ⟨rfl, hb⟩
      replace t0 := (hb.cell (p := ⟨w.heap.size, 0, none⟩) hBT).trans t0
      replace t1 := (hb.cell (p := ⟨w.heap.size, 1, none⟩) hBT).trans t1
      replace t2 := (hb.cell (p := ⟨w.heap.size, 2, none⟩) hBT).trans t2
      replace hBT := Nat.lt_of_lt_of_le hBT hb.size
      replace RT := RT.later hb
      replace V := V.later hb
      replace V2 := V2.later hb
      replace R1 := R1.later hb
      replace R2 := R2.later hb
      replace hB := below_step hB hb
      clear hb
      go_wp2_with fail
      refine (cM _ RT V).mono ?_
      clear cM
      rintro e w7 ⟨rfl, hb⟩
      replace t0 := (hb.cell (p := ⟨w.heap.size, 0, none⟩) hBT).trans t0
      replace t1 := (hb.cell (p := ⟨w.heap.size, 1, none⟩) hBT).trans t1
      replace t2 := (hb.cell (p := ⟨w.heap.size, 2, none⟩) hBT).trans t2
      replace hBT := Nat.lt_of_lt_of_le hBT hb.size
      replace RT := RT.later hb
      replace V := V.later hb
      replace V2 := V2.later hb
      replace R1 := R1.later hb
      replace R2 := R2.later hb
      replace hB := below_step hB hb
      clear hb
      go_wp2_with fail
      refine (cS _ V V2).mono ?_
      clear cS
      rintro e w8 ⟨rfl, hb⟩
      replace t0 := (hb.cell (p := ⟨w.heap.size, 0, none⟩) hBT).trans t0
      replace t1 := (hb.cell (p := ⟨w.heap.size, 1, none⟩) hBT).trans t1
      replace t2 := (hb.cell (p := ⟨w.heap.size, 2, none⟩) hBT).trans t2
      replace hBT := Nat.lt_of_lt_of_le hBT hb.size
      replace RT := RT.later hb
      replace V := V.later hb
      replace V2 := V2.later hb
      replace R1 := R1.later hb
      replace R2 := R2.later hb
      replace hB := below_step hB hb
      clear hb
      go_wp2_with fail
      refine (cN _ V).mono ?_
      clear cN
      rintro e w9 ⟨rfl, hb⟩
      replace t0 := (hb.cell (p := ⟨w.heap.size, 0, none⟩) hBT).trans t0
      replace t1 := (hb.cell (p := ⟨w.heap.size, 1, none⟩) hBT).trans t1
      replace t2 := (hb.cell (p := ⟨w.heap.size, 2, none⟩) hBT).trans t2
      replace hBT := Nat.lt_of_lt_of_le hBT hb.size
      replace RT := RT.later hb
      replace V := V.later hb
      replace V2 := V2.later hb
      replace R1 := R1.later hb
      replace R2 := R2.later hb
      replace hB := below_step hB hb
      clear hb
      go_wp2_with fail
      refine (cN2 _ V).mono ?_
      rintro e w' ⟨rfl, hww⟩
      obtain rfl := hww
      go_wp2_with fail
      go_ret
      exact ⟨by simp, hB⟩
end Go.Proofs.Ytnmijgnflemhkaa
