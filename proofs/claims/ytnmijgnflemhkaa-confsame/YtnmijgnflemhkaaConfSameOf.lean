/- The statement ConfSame, over whatever the code is (CCode). -/
import Derived.Test.YtnmijgnflemhkaaConfIf
namespace Go.Proofs.Ytnmijgnflemhkaa
open Go.ChangeShapes Go.WideShapes Go.ChangeAt Go.RowKit Pk Cf R
set_option linter.unusedVariables false
set_option linter.unusedSimpArgs false

set_option maxRecDepth 100000 in
set_option maxHeartbeats 4000000 in
theorem confSame_of (C : CCode) (a : Option Addr) (k : Nat) (A : Cnf) (a2 : Option Addr) (k2 : Nat) (B : Cnf) (a3 : Option Addr) (k3 : Nat) (D : Cnf) (w : World) (V : Lists w a k A) (V2 : Lists w a2 k2 B) (V3 : Lists w a3 k3 D) :
    Calls Try.prog 7 #[.slice a A.length k, .slice a2 B.length k2, .slice a3 D.length k3] w fun e w' => e = .returned (.bool true) ∧ Below w.heap.size w w' := by
  have hB := Below.refl w.heap.size w
  have cFa := fun w (V : Lists w a k A) => few_any w V
  have cFb := fun w (V : Lists w a2 k2 B) => few_any w V
  have cFc := fun w (V : Lists w a3 k3 D) => few_any w V
  cases hA : fewB A with
  | false =>
    rw [hA] at cFa
    generalize fewB B = fb at cFb
    generalize fewB D = fc at cFc
    go_enter Try.func7, Try.ntmps7
    go_wp2_with fail
    refine (cawake_any C _).mono ?_
    rintro e w1 ⟨rfl, hb⟩
    replace V := V.later hb
    replace V2 := V2.later hb
    replace V3 := V3.later hb
    replace hB := below_step hB hb
    clear hb
    go_wp2_with fail
    refine (cFa _ V).mono ?_
    rintro e w' ⟨rfl, hww⟩
    obtain rfl := hww
    go_wp2_with fail
    refine (cFb _ V2).mono ?_
    rintro e w' ⟨rfl, hww⟩
    obtain rfl := hww
    go_wp2_with fail
    refine (cFc _ V3).mono ?_
    rintro e w' ⟨rfl, hww⟩
    obtain rfl := hww
    go_wp2_with fail
    go_ret
    exact ⟨rfl, hB⟩
  | true =>
    rw [hA] at cFa
    cases hBf : fewB B with
    | false =>
      rw [hBf] at cFb
      generalize fewB D = fc at cFc
      go_enter Try.func7, Try.ntmps7
      go_wp2_with fail
      refine (cawake_any C _).mono ?_
      rintro e w1 ⟨rfl, hb⟩
      replace V := V.later hb
      replace V2 := V2.later hb
      replace V3 := V3.later hb
      replace hB := below_step hB hb
      clear hb
      go_wp2_with fail
      refine (cFa _ V).mono ?_
      rintro e w' ⟨rfl, hww⟩
      obtain rfl := hww
      go_wp2_with fail
      refine (cFb _ V2).mono ?_
      rintro e w' ⟨rfl, hww⟩
      obtain rfl := hww
      go_wp2_with fail
      refine (cFc _ V3).mono ?_
      rintro e w' ⟨rfl, hww⟩
      obtain rfl := hww
      go_wp2_with fail
      go_ret
      exact ⟨rfl, hB⟩
    | true =>
      rw [hBf] at cFb
      cases hD : fewB D with
      | false =>
        rw [hD] at cFc
        go_enter Try.func7, Try.ntmps7
        go_wp2_with fail
        refine (cawake_any C _).mono ?_
        rintro e w1 ⟨rfl, hb⟩
        replace V := V.later hb
        replace V2 := V2.later hb
        replace V3 := V3.later hb
        replace hB := below_step hB hb
        clear hb
        go_wp2_with fail
        refine (cFa _ V).mono ?_
        rintro e w' ⟨rfl, hww⟩
        obtain rfl := hww
        go_wp2_with fail
        refine (cFb _ V2).mono ?_
        rintro e w' ⟨rfl, hww⟩
        obtain rfl := hww
        go_wp2_with fail
        refine (cFc _ V3).mono ?_
        rintro e w' ⟨rfl, hww⟩
        obtain rfl := hww
        go_wp2_with fail
        go_ret
        exact ⟨rfl, hB⟩
      | true =>
        rw [hD] at cFc
        have bA := (few_iff A).1 hA
        have bB := (few_iff B).1 hBf
        have bD := (few_iff D).1 hD
        clear hA hBf hD
        have c1 := fun w (V : Lists w a k A) => C.same w V V bA.2 bA.2
        rw [same_refl] at c1
        have c2 := fun w (V : Lists w a k A) (V2 : Lists w a2 k2 B) => C.same w V V2 bA.2 bB.2
        have c3 := fun w (V : Lists w a k A) (V2 : Lists w a2 k2 B) => C.same w V2 V bB.2 bA.2
        rw [same_symm B A] at c3
        have c4 := fun w (V2 : Lists w a2 k2 B) (V3 : Lists w a3 k3 D) => C.same w V2 V3 bB.2 bD.2
        have c5 := fun w (V : Lists w a k A) (V3 : Lists w a3 k3 D) => C.same w V V3 bA.2 bD.2
        have hT : sameC A B = true → sameC B D = true → sameC A D = true := fun h h2 => same_trans h h2
        generalize sameC A B = p at c2 c3 hT
        generalize sameC B D = q at c4 hT
        generalize sameC A D = r at c5 hT
        clear bA bB bD
        cases p with
        | false =>
          clear hT
          go_enter Try.func7, Try.ntmps7
          go_wp2_with fail
          refine (cawake_any C _).mono ?_
          rintro e w1 ⟨rfl, hb⟩
          replace V := V.later hb
          replace V2 := V2.later hb
          replace V3 := V3.later hb
          replace hB := below_step hB hb
          clear hb
          go_wp2_with fail
          refine (cFa _ V).mono ?_
          rintro e w' ⟨rfl, hww⟩
          obtain rfl := hww
          go_wp2_with fail
          refine (cFb _ V2).mono ?_
          rintro e w' ⟨rfl, hww⟩
          obtain rfl := hww
          go_wp2_with fail
          refine (cFc _ V3).mono ?_
          rintro e w' ⟨rfl, hww⟩
          obtain rfl := hww
          clear cFa cFb cFc
          go_wp2_with fail
          refine (c1 _ V).mono ?_
          rintro e w2 ⟨rfl, hb⟩
          replace V := V.later hb
          replace V2 := V2.later hb
          replace V3 := V3.later hb
          replace hB := below_step hB hb
          clear hb
          go_wp2_with fail
          refine (c2 _ V V2).mono ?_
          rintro e w3 ⟨rfl, hb⟩
          replace V := V.later hb
          replace V2 := V2.later hb
          replace V3 := V3.later hb
          replace hB := below_step hB hb
          clear hb
          go_wp2_with fail
          refine (c3 _ V V2).mono ?_
          rintro e w4 ⟨rfl, hb⟩
          replace V := V.later hb
          replace V2 := V2.later hb
          replace V3 := V3.later hb
          replace hB := below_step hB hb
          clear hb
          go_wp2_with fail
          refine (c2 _ V V2).mono ?_
          rintro e w5 ⟨rfl, hb⟩
          replace V := V.later hb
          replace V2 := V2.later hb
          replace V3 := V3.later hb
          replace hB := below_step hB hb
          clear hb
          go_wp2_with fail
          go_ret
          exact ⟨rfl, hB⟩
        | true =>
          cases q with
          | false =>
            clear hT
            go_enter Try.func7, Try.ntmps7
            go_wp2_with fail
            refine (cawake_any C _).mono ?_
            rintro e w1 ⟨rfl, hb⟩
            replace V := V.later hb
            replace V2 := V2.later hb
            replace V3 := V3.later hb
            replace hB := below_step hB hb
            clear hb
            go_wp2_with fail
            refine (cFa _ V).mono ?_
            rintro e w' ⟨rfl, hww⟩
            obtain rfl := hww
            go_wp2_with fail
            refine (cFb _ V2).mono ?_
            rintro e w' ⟨rfl, hww⟩
            obtain rfl := hww
            go_wp2_with fail
            refine (cFc _ V3).mono ?_
            rintro e w' ⟨rfl, hww⟩
            obtain rfl := hww
            clear cFa cFb cFc
            go_wp2_with fail
            refine (c1 _ V).mono ?_
            rintro e w2 ⟨rfl, hb⟩
            replace V := V.later hb
            replace V2 := V2.later hb
            replace V3 := V3.later hb
            replace hB := below_step hB hb
            clear hb
            go_wp2_with fail
            refine (c2 _ V V2).mono ?_
            rintro e w3 ⟨rfl, hb⟩
            replace V := V.later hb
            replace V2 := V2.later hb
            replace V3 := V3.later hb
            replace hB := below_step hB hb
            clear hb
            go_wp2_with fail
            refine (c3 _ V V2).mono ?_
            rintro e w4 ⟨rfl, hb⟩
            replace V := V.later hb
            replace V2 := V2.later hb
            replace V3 := V3.later hb
            replace hB := below_step hB hb
            clear hb
            go_wp2_with fail
            refine (c2 _ V V2).mono ?_
            rintro e w5 ⟨rfl, hb⟩
            replace V := V.later hb
            replace V2 := V2.later hb
            replace V3 := V3.later hb
            replace hB := below_step hB hb
            clear hb
            go_wp2_with fail
            refine (c4 _ V2 V3).mono ?_
            rintro e w6 ⟨rfl, hb⟩
            replace V := V.later hb
            replace V2 := V2.later hb
            replace V3 := V3.later hb
            replace hB := below_step hB hb
            clear hb
            go_wp2_with fail
            go_ret
            exact ⟨rfl, hB⟩
          | true =>
            obtain rfl : r = true := hT rfl rfl
            clear hT
            go_enter Try.func7, Try.ntmps7
            go_wp2_with fail
            refine (cawake_any C _).mono ?_
            rintro e w1 ⟨rfl, hb⟩
            replace V := V.later hb
            replace V2 := V2.later hb
            replace V3 := V3.later hb
            replace hB := below_step hB hb
            clear hb
            go_wp2_with fail
            refine (cFa _ V).mono ?_
            rintro e w' ⟨rfl, hww⟩
            obtain rfl := hww
            go_wp2_with fail
            refine (cFb _ V2).mono ?_
            rintro e w' ⟨rfl, hww⟩
            obtain rfl := hww
            go_wp2_with fail
            refine (cFc _ V3).mono ?_
            rintro e w' ⟨rfl, hww⟩
            obtain rfl := hww
            clear cFa cFb cFc
            go_wp2_with fail
            refine (c1 _ V).mono ?_
            rintro e w2 ⟨rfl, hb⟩
            replace V := V.later hb
            replace V2 := V2.later hb
            replace V3 := V3.later hb
            replace hB := below_step hB hb
            clear hb
            go_wp2_with fail
            refine (c2 _ V V2).mono ?_
            rintro e w3 ⟨rfl, hb⟩
            replace V := V.later hb
            replace V2 := V2.later hb
            replace V3 := V3.later hb
            replace hB := below_step hB hb
            clear hb
            go_wp2_with fail
            refine (c3 _ V V2).mono ?_
            rintro e w4 ⟨rfl, hb⟩
            replace V := V.later hb
            replace V2 := V2.later hb
            replace V3 := V3.later hb
            replace hB := below_step hB hb
            clear hb
            go_wp2_with fail
            refine (c2 _ V V2).mono ?_
            rintro e w5 ⟨rfl, hb⟩
            replace V := V.later hb
            replace V2 := V2.later hb
            replace V3 := V3.later hb
            replace hB := below_step hB hb
            clear hb
            go_wp2_with fail
            refine (c4 _ V2 V3).mono ?_
            rintro e w6 ⟨rfl, hb⟩
            replace V := V.later hb
            replace V2 := V2.later hb
            replace V3 := V3.later hb
            replace hB := below_step hB hb
            clear hb
            go_wp2_with fail
            refine (c5 _ V V3).mono ?_
            rintro e w7 ⟨rfl, hb⟩
            replace V := V.later hb
            replace V2 := V2.later hb
            replace V3 := V3.later hb
            replace hB := below_step hB hb
            clear hb
            go_wp2_with fail
            go_ret
            exact ⟨rfl, hB⟩
end Go.Proofs.Ytnmijgnflemhkaa
