/- Proved: for every topology, and every switch and port, the call TopoBoth(t, sw, port) returns true (where the topology may not be, nothing is asked). -/
import Derived.Test.YtlfhjliphhfoaaaTopOpen
import Derived.Test.YtlfhjliphhfoaaaTopAwake
import Derived.Lib.SmallJoins
namespace Go.Proofs.Ytlfhjliphhfoaaa.topoBoth
open Go.ChangeShapes Go.WideShapes Go.ChangeAt Go.RowKit Go.Maps Tp
set_option linter.unusedVariables false
set_option linter.unusedSimpArgs false

theorem we_far {s n : Int} {w : World} {a : Option Addr} {c : Nat} {l : List Lk} (R : Rds fK 4 w a c l) {e o : En} (h : far s n l e = some o) : We o := by
  have hp : isP s n e = true := by
    cases g : isP s n e
    · rw [far_none g] at h; cases h
    · rfl
  rw [far_port hp] at h
  exact we_ends R o (List.mem_map.2 ⟨_, ends_swap (get_mem h), rfl⟩)
theorem port_ways {s n x y : Int} (h : isP s n (x, y) = true) : 0 ≤ x ∧ x < s ∧ 0 ≤ y ∧ y < n := by
  simp only [isP, Bool.and_eq_true, decide_eq_true_eq] at h
  omega
set_option maxRecDepth 100000 in
set_option maxHeartbeats 4000000 in
theorem walk (s n : Int) (x : Option Addr) (c : Nat) (l : List Lk) (sw p : Int) (w0a : (Lit.int .i64 s).wf = true) (w0b : (Lit.int .i64 n).wf = true) (w1 : (Lit.int .i64 sw).wf = true) (w2 : (Lit.int .i64 p).wf = true) (w : World) (R : Rds fK 4 w x c l) :
    Calls Try.prog 4 #[.agg #[.int .i64 s, .int .i64 n, .slice x l.length c], .int .i64 sw, .int .i64 p] w fun e w' => e = .returned (.bool true) ∧ Below w.heap.size w w' := by
  have hB := below_new w (.cells #[.int .i64 s, .int .i64 n, .slice x l.length c] 24)
  obtain ⟨t0, t1, t2⟩ := box3 w (.int .i64 s) (.int .i64 n) (.slice x l.length c) 24
  have hBT : w.heap.size < (w.alloc (.cells #[.int .i64 s, .int .i64 n, .slice x l.length c] 24)).heap.size := by simp
  replace R := R.later hB
  have hwe : We (sw, p) := ⟨w1, w2⟩
  clear w1 w2 w0a w0b
  have cM := fun w (R : Rds fK 4 w x c l) => may_any s n w R
  cases hm : mayT s n l with
  | false =>
    rw [hm] at cM
    clear hm
    go_enter Try.func4, Try.ntmps4
    go_wp2_with fail
    refine (tawake_any _).mono ?_
    rintro e w1 ⟨rfl, hb⟩
    replace t0 := (hb.cell (p := ⟨w.heap.size, 0, none⟩) hBT).trans t0
    replace t1 := (hb.cell (p := ⟨w.heap.size, 1, none⟩) hBT).trans t1
    replace t2 := (hb.cell (p := ⟨w.heap.size, 2, none⟩) hBT).trans t2
    replace hBT := Nat.lt_of_lt_of_le hBT hb.size
    replace R := R.later hb
    replace hB := below_step hB hb
    clear hb
    go_wp2_with fail
    refine (cM _ R).mono ?_
    rintro e w2 ⟨rfl, hb⟩
    replace t0 := (hb.cell (p := ⟨w.heap.size, 0, none⟩) hBT).trans t0
    replace t1 := (hb.cell (p := ⟨w.heap.size, 1, none⟩) hBT).trans t1
    replace t2 := (hb.cell (p := ⟨w.heap.size, 2, none⟩) hBT).trans t2
    replace hBT := Nat.lt_of_lt_of_le hBT hb.size
    replace R := R.later hb
    replace hB := below_step hB hb
    clear hb
    go_wp2_with fail
    go_ret
    exact ⟨rfl, hB⟩
  | true =>
    rw [hm] at cM
    have hl : l.length ≤ 100 := by
      have h := ((mayT_iff s n l).1 hm).1
      simp only [okB, Bool.and_eq_true, decide_eq_true_eq] at h
      omega
    have cF := fun w (R : Rds fK 4 w x c l) => far_any s n w R hl sw p hwe
    have cE := fun w (R : Rds fK 4 w x c l) => edge_any s n w R hl sw p hwe
    cases hf : far s n l (sw, p) with
    | none =>
      rw [hf] at cF
      have he : edge s n l (sw, p) = isP s n (sw, p) := by rw [edge_far, hf]; rfl
      rw [he] at cE
      dsimp only [other, Option.getD_none, Option.isSome_none] at cF
      clear hf he hm hl hwe
      by_cases h0 : 0 ≤ sw
      case neg =>
        have hp : isP s n (sw, p) = false := by simp [isP, h0]
        rw [hp] at cE
        clear hp
        go_enter Try.func4, Try.ntmps4
        go_wp2_with fail
        refine (tawake_any _).mono ?_
        rintro e w1 ⟨rfl, hb⟩
        replace t0 := (hb.cell (p := ⟨w.heap.size, 0, none⟩) hBT).trans t0
        replace t1 := (hb.cell (p := ⟨w.heap.size, 1, none⟩) hBT).trans t1
        replace t2 := (hb.cell (p := ⟨w.heap.size, 2, none⟩) hBT).trans t2
        replace hBT := Nat.lt_of_lt_of_le hBT hb.size
        replace R := R.later hb
        replace hB := below_step hB hb
        clear hb
        go_wp2_with fail
        refine (cM _ R).mono ?_
        clear cM
        rintro e w2 ⟨rfl, hb⟩
        replace t0 := (hb.cell (p := ⟨w.heap.size, 0, none⟩) hBT).trans t0
        replace t1 := (hb.cell (p := ⟨w.heap.size, 1, none⟩) hBT).trans t1
        replace t2 := (hb.cell (p := ⟨w.heap.size, 2, none⟩) hBT).trans t2
        replace hBT := Nat.lt_of_lt_of_le hBT hb.size
        replace R := R.later hb
        replace hB := below_step hB hb
        clear hb
        go_wp2_with fail
        refine (cF _ R).mono ?_
        clear cF
        rintro e w3 ⟨rfl, hb⟩
        replace t0 := (hb.cell (p := ⟨w.heap.size, 0, none⟩) hBT).trans t0
        replace t1 := (hb.cell (p := ⟨w.heap.size, 1, none⟩) hBT).trans t1
        replace t2 := (hb.cell (p := ⟨w.heap.size, 2, none⟩) hBT).trans t2
        replace hBT := Nat.lt_of_lt_of_le hBT hb.size
        replace R := R.later hb
        replace hB := below_step hB hb
        clear hb
        go_wp2_with fail
        refine (cE _ R).mono ?_
        clear cE
        rintro e w4 ⟨rfl, hb⟩
        replace t0 := (hb.cell (p := ⟨w.heap.size, 0, none⟩) hBT).trans t0
        replace t1 := (hb.cell (p := ⟨w.heap.size, 1, none⟩) hBT).trans t1
        replace t2 := (hb.cell (p := ⟨w.heap.size, 2, none⟩) hBT).trans t2
        replace hBT := Nat.lt_of_lt_of_le hBT hb.size
        replace R := R.later hb
        replace hB := below_step hB hb
        clear hb
        go_wp2_with fail
        go_ret
        exact ⟨rfl, hB⟩
      by_cases h1 : sw < s
      case neg =>
        have hp : isP s n (sw, p) = false := by simp [isP, h1]
        rw [hp] at cE
        clear hp
        go_enter Try.func4, Try.ntmps4
        go_wp2_with fail
        refine (tawake_any _).mono ?_
        rintro e w1 ⟨rfl, hb⟩
        replace t0 := (hb.cell (p := ⟨w.heap.size, 0, none⟩) hBT).trans t0
        replace t1 := (hb.cell (p := ⟨w.heap.size, 1, none⟩) hBT).trans t1
        replace t2 := (hb.cell (p := ⟨w.heap.size, 2, none⟩) hBT).trans t2
        replace hBT := Nat.lt_of_lt_of_le hBT hb.size
        replace R := R.later hb
        replace hB := below_step hB hb
        clear hb
        go_wp2_with fail
        refine (cM _ R).mono ?_
        clear cM
        rintro e w2 ⟨rfl, hb⟩
        replace t0 := (hb.cell (p := ⟨w.heap.size, 0, none⟩) hBT).trans t0
        replace t1 := (hb.cell (p := ⟨w.heap.size, 1, none⟩) hBT).trans t1
        replace t2 := (hb.cell (p := ⟨w.heap.size, 2, none⟩) hBT).trans t2
        replace hBT := Nat.lt_of_lt_of_le hBT hb.size
        replace R := R.later hb
        replace hB := below_step hB hb
        clear hb
        go_wp2_with fail
        refine (cF _ R).mono ?_
        clear cF
        rintro e w3 ⟨rfl, hb⟩
        replace t0 := (hb.cell (p := ⟨w.heap.size, 0, none⟩) hBT).trans t0
        replace t1 := (hb.cell (p := ⟨w.heap.size, 1, none⟩) hBT).trans t1
        replace t2 := (hb.cell (p := ⟨w.heap.size, 2, none⟩) hBT).trans t2
        replace hBT := Nat.lt_of_lt_of_le hBT hb.size
        replace R := R.later hb
        replace hB := below_step hB hb
        clear hb
        go_wp2_with fail
        refine (cE _ R).mono ?_
        clear cE
        rintro e w4 ⟨rfl, hb⟩
        replace t0 := (hb.cell (p := ⟨w.heap.size, 0, none⟩) hBT).trans t0
        replace t1 := (hb.cell (p := ⟨w.heap.size, 1, none⟩) hBT).trans t1
        replace t2 := (hb.cell (p := ⟨w.heap.size, 2, none⟩) hBT).trans t2
        replace hBT := Nat.lt_of_lt_of_le hBT hb.size
        replace R := R.later hb
        replace hB := below_step hB hb
        clear hb
        go_wp2_with fail
        go_ret
        exact ⟨rfl, hB⟩
      by_cases h2 : 0 ≤ p
      case neg =>
        have hp : isP s n (sw, p) = false := by simp [isP, h2]
        rw [hp] at cE
        clear hp
        go_enter Try.func4, Try.ntmps4
        go_wp2_with fail
        refine (tawake_any _).mono ?_
        rintro e w1 ⟨rfl, hb⟩
        replace t0 := (hb.cell (p := ⟨w.heap.size, 0, none⟩) hBT).trans t0
        replace t1 := (hb.cell (p := ⟨w.heap.size, 1, none⟩) hBT).trans t1
        replace t2 := (hb.cell (p := ⟨w.heap.size, 2, none⟩) hBT).trans t2
        replace hBT := Nat.lt_of_lt_of_le hBT hb.size
        replace R := R.later hb
        replace hB := below_step hB hb
        clear hb
        go_wp2_with fail
        refine (cM _ R).mono ?_
        clear cM
        rintro e w2 ⟨rfl, hb⟩
        replace t0 := (hb.cell (p := ⟨w.heap.size, 0, none⟩) hBT).trans t0
        replace t1 := (hb.cell (p := ⟨w.heap.size, 1, none⟩) hBT).trans t1
        replace t2 := (hb.cell (p := ⟨w.heap.size, 2, none⟩) hBT).trans t2
        replace hBT := Nat.lt_of_lt_of_le hBT hb.size
        replace R := R.later hb
        replace hB := below_step hB hb
        clear hb
        go_wp2_with fail
        refine (cF _ R).mono ?_
        clear cF
        rintro e w3 ⟨rfl, hb⟩
        replace t0 := (hb.cell (p := ⟨w.heap.size, 0, none⟩) hBT).trans t0
        replace t1 := (hb.cell (p := ⟨w.heap.size, 1, none⟩) hBT).trans t1
        replace t2 := (hb.cell (p := ⟨w.heap.size, 2, none⟩) hBT).trans t2
        replace hBT := Nat.lt_of_lt_of_le hBT hb.size
        replace R := R.later hb
        replace hB := below_step hB hb
        clear hb
        go_wp2_with fail
        refine (cE _ R).mono ?_
        clear cE
        rintro e w4 ⟨rfl, hb⟩
        replace t0 := (hb.cell (p := ⟨w.heap.size, 0, none⟩) hBT).trans t0
        replace t1 := (hb.cell (p := ⟨w.heap.size, 1, none⟩) hBT).trans t1
        replace t2 := (hb.cell (p := ⟨w.heap.size, 2, none⟩) hBT).trans t2
        replace hBT := Nat.lt_of_lt_of_le hBT hb.size
        replace R := R.later hb
        replace hB := below_step hB hb
        clear hb
        go_wp2_with fail
        go_ret
        exact ⟨rfl, hB⟩
      by_cases h3 : p < n
      case neg =>
        have hp : isP s n (sw, p) = false := by simp [isP, h3]
        rw [hp] at cE
        clear hp
        go_enter Try.func4, Try.ntmps4
        go_wp2_with fail
        refine (tawake_any _).mono ?_
        rintro e w1 ⟨rfl, hb⟩
        replace t0 := (hb.cell (p := ⟨w.heap.size, 0, none⟩) hBT).trans t0
        replace t1 := (hb.cell (p := ⟨w.heap.size, 1, none⟩) hBT).trans t1
        replace t2 := (hb.cell (p := ⟨w.heap.size, 2, none⟩) hBT).trans t2
        replace hBT := Nat.lt_of_lt_of_le hBT hb.size
        replace R := R.later hb
        replace hB := below_step hB hb
        clear hb
        go_wp2_with fail
        refine (cM _ R).mono ?_
        clear cM
        rintro e w2 ⟨rfl, hb⟩
        replace t0 := (hb.cell (p := ⟨w.heap.size, 0, none⟩) hBT).trans t0
        replace t1 := (hb.cell (p := ⟨w.heap.size, 1, none⟩) hBT).trans t1
        replace t2 := (hb.cell (p := ⟨w.heap.size, 2, none⟩) hBT).trans t2
        replace hBT := Nat.lt_of_lt_of_le hBT hb.size
        replace R := R.later hb
        replace hB := below_step hB hb
        clear hb
        go_wp2_with fail
        refine (cF _ R).mono ?_
        clear cF
        rintro e w3 ⟨rfl, hb⟩
        replace t0 := (hb.cell (p := ⟨w.heap.size, 0, none⟩) hBT).trans t0
        replace t1 := (hb.cell (p := ⟨w.heap.size, 1, none⟩) hBT).trans t1
        replace t2 := (hb.cell (p := ⟨w.heap.size, 2, none⟩) hBT).trans t2
        replace hBT := Nat.lt_of_lt_of_le hBT hb.size
        replace R := R.later hb
        replace hB := below_step hB hb
        clear hb
        go_wp2_with fail
        refine (cE _ R).mono ?_
        clear cE
        rintro e w4 ⟨rfl, hb⟩
        replace t0 := (hb.cell (p := ⟨w.heap.size, 0, none⟩) hBT).trans t0
        replace t1 := (hb.cell (p := ⟨w.heap.size, 1, none⟩) hBT).trans t1
        replace t2 := (hb.cell (p := ⟨w.heap.size, 2, none⟩) hBT).trans t2
        replace hBT := Nat.lt_of_lt_of_le hBT hb.size
        replace R := R.later hb
        replace hB := below_step hB hb
        clear hb
        go_wp2_with fail
        go_ret
        exact ⟨ret_bool (by simp; omega), hB⟩
      have hp : isP s n (sw, p) = true := by simp [isP, h0, h1, h2, h3]
      rw [hp] at cE
      clear hp
      go_enter Try.func4, Try.ntmps4
      go_wp2_with fail
      refine (tawake_any _).mono ?_
      rintro e w1 ⟨rfl, hb⟩
      replace t0 := (hb.cell (p := ⟨w.heap.size, 0, none⟩) hBT).trans t0
      replace t1 := (hb.cell (p := ⟨w.heap.size, 1, none⟩) hBT).trans t1
      replace t2 := (hb.cell (p := ⟨w.heap.size, 2, none⟩) hBT).trans t2
      replace hBT := Nat.lt_of_lt_of_le hBT hb.size
      replace R := R.later hb
      replace hB := below_step hB hb
      clear hb
      go_wp2_with fail
      refine (cM _ R).mono ?_
      clear cM
      rintro e w2 ⟨rfl, hb⟩
      replace t0 := (hb.cell (p := ⟨w.heap.size, 0, none⟩) hBT).trans t0
      replace t1 := (hb.cell (p := ⟨w.heap.size, 1, none⟩) hBT).trans t1
      replace t2 := (hb.cell (p := ⟨w.heap.size, 2, none⟩) hBT).trans t2
      replace hBT := Nat.lt_of_lt_of_le hBT hb.size
      replace R := R.later hb
      replace hB := below_step hB hb
      clear hb
      go_wp2_with fail
      refine (cF _ R).mono ?_
      clear cF
      rintro e w3 ⟨rfl, hb⟩
      replace t0 := (hb.cell (p := ⟨w.heap.size, 0, none⟩) hBT).trans t0
      replace t1 := (hb.cell (p := ⟨w.heap.size, 1, none⟩) hBT).trans t1
      replace t2 := (hb.cell (p := ⟨w.heap.size, 2, none⟩) hBT).trans t2
      replace hBT := Nat.lt_of_lt_of_le hBT hb.size
      replace R := R.later hb
      replace hB := below_step hB hb
      clear hb
      go_wp2_with fail
      refine (cE _ R).mono ?_
      clear cE
      rintro e w4 ⟨rfl, hb⟩
      replace t0 := (hb.cell (p := ⟨w.heap.size, 0, none⟩) hBT).trans t0
      replace t1 := (hb.cell (p := ⟨w.heap.size, 1, none⟩) hBT).trans t1
      replace t2 := (hb.cell (p := ⟨w.heap.size, 2, none⟩) hBT).trans t2
      replace hBT := Nat.lt_of_lt_of_le hBT hb.size
      replace R := R.later hb
      replace hB := below_step hB hb
      clear hb
      go_wp2_with fail
      go_ret
      exact ⟨rfl, hB⟩
    | some o =>
      obtain ⟨hp, hb2, hne, he⟩ := far_back hm hf
      have hwo := we_far R hf
      obtain ⟨o0, o1⟩ := o
      have cG := fun w (R : Rds fK 4 w x c l) => far_any s n w R hl o0 o1 hwo
      rw [hf] at cF
      rw [hb2] at cG
      rw [he] at cE
      dsimp only [other, Option.getD_some, Option.isSome_some] at cF cG
      obtain ⟨h0, h1, h2, h3⟩ := port_ways hp
      clear hp hb2 he hf hm hl hwe hwo
      have hq : o0 = sw → ¬ o1 = p := fun h h2 => hne (by rw [h, h2])
      clear hne
      cases hA : (o0 != sw) with
      | true =>
        clear hq
        go_enter Try.func4, Try.ntmps4
        go_wp2_with fail
        refine (tawake_any _).mono ?_
        rintro e w1 ⟨rfl, hb⟩
        replace t0 := (hb.cell (p := ⟨w.heap.size, 0, none⟩) hBT).trans t0
        replace t1 := (hb.cell (p := ⟨w.heap.size, 1, none⟩) hBT).trans t1
        replace t2 := (hb.cell (p := ⟨w.heap.size, 2, none⟩) hBT).trans t2
        replace hBT := Nat.lt_of_lt_of_le hBT hb.size
        replace R := R.later hb
        replace hB := below_step hB hb
        clear hb
        go_wp2_with fail
        refine (cM _ R).mono ?_
        clear cM
        rintro e w2 ⟨rfl, hb⟩
        replace t0 := (hb.cell (p := ⟨w.heap.size, 0, none⟩) hBT).trans t0
        replace t1 := (hb.cell (p := ⟨w.heap.size, 1, none⟩) hBT).trans t1
        replace t2 := (hb.cell (p := ⟨w.heap.size, 2, none⟩) hBT).trans t2
        replace hBT := Nat.lt_of_lt_of_le hBT hb.size
        replace R := R.later hb
        replace hB := below_step hB hb
        clear hb
        go_wp2_with fail
        refine (cF _ R).mono ?_
        clear cF
        rintro e w3 ⟨rfl, hb⟩
        replace t0 := (hb.cell (p := ⟨w.heap.size, 0, none⟩) hBT).trans t0
        replace t1 := (hb.cell (p := ⟨w.heap.size, 1, none⟩) hBT).trans t1
        replace t2 := (hb.cell (p := ⟨w.heap.size, 2, none⟩) hBT).trans t2
        replace hBT := Nat.lt_of_lt_of_le hBT hb.size
        replace R := R.later hb
        replace hB := below_step hB hb
        clear hb
        go_wp2_with fail
        refine (cG _ R).mono ?_
        clear cG
        rintro e w4 ⟨rfl, hb⟩
        replace t0 := (hb.cell (p := ⟨w.heap.size, 0, none⟩) hBT).trans t0
        replace t1 := (hb.cell (p := ⟨w.heap.size, 1, none⟩) hBT).trans t1
        replace t2 := (hb.cell (p := ⟨w.heap.size, 2, none⟩) hBT).trans t2
        replace hBT := Nat.lt_of_lt_of_le hBT hb.size
        replace R := R.later hb
        replace hB := below_step hB hb
        clear hb
        go_wp2_with fail
        refine (cE _ R).mono ?_
        clear cE
        rintro e w5 ⟨rfl, hb⟩
        replace t0 := (hb.cell (p := ⟨w.heap.size, 0, none⟩) hBT).trans t0
        replace t1 := (hb.cell (p := ⟨w.heap.size, 1, none⟩) hBT).trans t1
        replace t2 := (hb.cell (p := ⟨w.heap.size, 2, none⟩) hBT).trans t2
        replace hBT := Nat.lt_of_lt_of_le hBT hb.size
        replace R := R.later hb
        replace hB := below_step hB hb
        clear hb
        go_wp2_with fail
        go_ret
        exact ⟨rfl, hB⟩
      | false =>
        have hC : (o1 != p) = true := by
          have : o0 = sw := by simpa using hA
          simpa using hq this
        clear hq
        go_enter Try.func4, Try.ntmps4
        go_wp2_with fail
        refine (tawake_any _).mono ?_
        rintro e w1 ⟨rfl, hb⟩
        replace t0 := (hb.cell (p := ⟨w.heap.size, 0, none⟩) hBT).trans t0
        replace t1 := (hb.cell (p := ⟨w.heap.size, 1, none⟩) hBT).trans t1
        replace t2 := (hb.cell (p := ⟨w.heap.size, 2, none⟩) hBT).trans t2
        replace hBT := Nat.lt_of_lt_of_le hBT hb.size
        replace R := R.later hb
        replace hB := below_step hB hb
        clear hb
        go_wp2_with fail
        refine (cM _ R).mono ?_
        clear cM
        rintro e w2 ⟨rfl, hb⟩
        replace t0 := (hb.cell (p := ⟨w.heap.size, 0, none⟩) hBT).trans t0
        replace t1 := (hb.cell (p := ⟨w.heap.size, 1, none⟩) hBT).trans t1
        replace t2 := (hb.cell (p := ⟨w.heap.size, 2, none⟩) hBT).trans t2
        replace hBT := Nat.lt_of_lt_of_le hBT hb.size
        replace R := R.later hb
        replace hB := below_step hB hb
        clear hb
        go_wp2_with fail
        refine (cF _ R).mono ?_
        clear cF
        rintro e w3 ⟨rfl, hb⟩
        replace t0 := (hb.cell (p := ⟨w.heap.size, 0, none⟩) hBT).trans t0
        replace t1 := (hb.cell (p := ⟨w.heap.size, 1, none⟩) hBT).trans t1
        replace t2 := (hb.cell (p := ⟨w.heap.size, 2, none⟩) hBT).trans t2
        replace hBT := Nat.lt_of_lt_of_le hBT hb.size
        replace R := R.later hb
        replace hB := below_step hB hb
        clear hb
        go_wp2_with fail
        refine (cG _ R).mono ?_
        clear cG
        rintro e w4 ⟨rfl, hb⟩
        replace t0 := (hb.cell (p := ⟨w.heap.size, 0, none⟩) hBT).trans t0
        replace t1 := (hb.cell (p := ⟨w.heap.size, 1, none⟩) hBT).trans t1
        replace t2 := (hb.cell (p := ⟨w.heap.size, 2, none⟩) hBT).trans t2
        replace hBT := Nat.lt_of_lt_of_le hBT hb.size
        replace R := R.later hb
        replace hB := below_step hB hb
        clear hb
        go_wp2_with fail
        refine (cE _ R).mono ?_
        clear cE
        rintro e w5 ⟨rfl, hb⟩
        replace t0 := (hb.cell (p := ⟨w.heap.size, 0, none⟩) hBT).trans t0
        replace t1 := (hb.cell (p := ⟨w.heap.size, 1, none⟩) hBT).trans t1
        replace t2 := (hb.cell (p := ⟨w.heap.size, 2, none⟩) hBT).trans t2
        replace hBT := Nat.lt_of_lt_of_le hBT hb.size
        replace R := R.later hb
        replace hB := below_step hB hb
        clear hb
        go_wp2_with fail
        go_ret
        exact ⟨rfl, hB⟩
theorem own : ownKnob Try.prog.godebug = none := by kernel_rfl
theorem laidOut : laidOutB Try.prog = true := by kernel_rfl
set_option maxRecDepth 100000 in
theorem lifted (os : Os) (started : os.Started) (H : Type) (enc : TypeId × Value → H) :
    ReturnsInHanded {} Try.checked os 4 .any (Rows.topoBothSpec.pre6 enc Try.prog Try.f4 Rows.topoBothRow.domain false) (Rows.topoBothSpec.post enc Try.prog Try.f4 false true false false) := by
  refine returnsInHanded_of_change (C := Try.checked) own started (by kernel_rfl) Try.func4
    (ChangeSpec.witness6 (enc := enc) (C := Try.checked) false ⟨#[], #[.agg #[.int .i64 0, .int .i64 0, .slice none 0 0], .int .i64 0, .int .i64 0], []⟩ 8 (by kernel_rfl) (by kernel_rfl) (by kernel_rfl) (by kernel_rfl)) ?_
  intro W base args ds gs before hval0 hW hcnd _
  have hval : ∀ (j : Nat) t v, Try.f4.params[j]? = some t → args[j]? = some v → Value.okWide Try.prog W .any base t v := hval0
  have hW' := hW
  obtain ⟨p, q, hA0, hV, rfl, hfz, hnd⟩ := hW
  have hA : DataW.TrodAll enc Try.prog W 0 (fun _ => true) true Try.f4.params.toList args.toList ds p := hA0
  rw [Try.params4] at hA hval
  obtain ⟨v0, vs0, d0, ds0, p0, q0, hargs, rfl, rfl, h0, r0⟩ := trodAll_cons hA
  obtain ⟨v1, vs1, d1, ds1, p1, q1, rfl, rfl, rfl, h1, r1⟩ := trodAll_cons r0
  obtain ⟨v2, vs2, d2, ds2, p2, q2, rfl, rfl, rfl, h2, r2⟩ := trodAll_cons r1
  obtain ⟨rfl, rfl, rfl⟩ := trodAll_nil r2
  obtain rfl : args = #[v0, v1, v2] := by cases args; simp_all
  obtain ⟨rfl, rfl⟩ := trodVars_none hV
  have k0 := h0
  have lt0 : ∀ x ∈ p0, x.block < W.heap.size := by obtain ⟨m, hm⟩ := k0; exact DataW.trod_lt m _ _ _ hm
  have k1 := h1
  have lt1 : ∀ x ∈ p1, x.block < W.heap.size := by obtain ⟨m, hm⟩ := k1; exact DataW.trod_lt m _ _ _ hm
  have k2 := h2
  have lt2 : ∀ x ∈ p2, x.block < W.heap.size := by obtain ⟨m, hm⟩ := k2; exact DataW.trod_lt m _ _ _ hm
  obtain ⟨a0, b0, x0, c0, l0, rfl, w0a, w0b, R0⟩ := open_topo (fun _ => rfl) (hval 0 24 v0 rfl rfl) h0
  obtain ⟨a1, rfl, rfl, hp1, w1⟩ := open_int Try.underlying3 (hval 1 3 v1 rfl rfl) h1
  obtain ⟨a2, rfl, rfl, hp2, w2⟩ := open_int Try.underlying3 (hval 2 3 v2 rfl rfl) h2
  clear hA0 hval0
  refine (walk a0 b0 x0 c0 l0 a1 a2 w0a w0b w1 w2 W R0).mono fun e W' ⟨he, bel⟩ => ?_
  subst he
  exact ⟨_, rfl, _, _, _, [], _, [], hW', trodAll_mk1 (shut_bool Try.underlying4 _), (trodAll_cons_mk (Below.trod laidOut (by kernel_rfl) (of_decide_eq_true (by kernel_rfl)) k0 bel lt0) (trodAll_cons_mk (Below.trod laidOut (by kernel_rfl) (of_decide_eq_true (by kernel_rfl)) k1 bel lt1) (trodAll_cons_mk (Below.trod laidOut (by kernel_rfl) (of_decide_eq_true (by kernel_rfl)) k2 bel lt2) trodAll_mk0))), rfl, bel.frame _, fun h => by cases h⟩

theorem over : Rows.topoBothRow.holds Try.pinned (OpenSpec.ofChange Rows.topoBothSpec) :=
  OpenClaim.holds_of_wide 4 Try.f4 rfl rfl rfl rfl rfl rfl rfl ⟨rfl, rfl, rfl, rfl, rfl⟩ rfl rfl rfl rfl rfl (by kernel_rfl) Try.func4 (by kernel_rfl)
    (of_decide_eq_true (by kernel_rfl)) (by unfold Func.isWrapper; first | (rw [if_pos (by decide +kernel)]; kernel_rfl) | (rw [if_neg (by decide +kernel)]; exact ⟨rfl, rfl⟩))
    (fun os started H enc _ => lifted os started H enc)
end Go.Proofs.Ytlfhjliphhfoaaa.topoBoth
namespace Go.Proofs.Ytlfhjliphhfoaaa
theorem topoBoth_holds : Rows.TopoBothSaid := topoBoth.over
#print axioms topoBoth_holds
end Go.Proofs.Ytlfhjliphhfoaaa
