/- What the document's May answers. -/
import Derived.Test.YtnmijgnflemhkaaTopRefs
namespace Go.Proofs.Ytnmijgnflemhkaa
open Go.ChangeShapes Go.WideShapes Go.ChangeAt Go.RowKit Go.Maps Tp
set_option linter.unusedVariables false
set_option linter.unusedSimpArgs false

def goodL (s n : Int) (l : List Lk) (x : Lk) : Bool := isP s n (x.a, x.p) && isP s n (x.b, x.q) && (cnt l (x.a, x.p) == 1) && (cnt l (x.b, x.q) == 1)
theorem mayR_good (s n : Int) (l : List Lk) : mayR s n l = (okB s n l && l.all (goodL s n l)) := rfl
theorem mayR_no {s n : Int} {l : List Lk} (h : s < 1 ∨ 6 < s ∨ n < 1 ∨ 8 < n ∨ 12 < l.length) : mayR s n l = false := by
  have : okB s n l = false := by
    unfold okB
    rcases h with h | h | h | h | h
    · rw [decide_eq_false (show ¬ 1 ≤ s by omega)]; rfl
    · rw [decide_eq_false (show ¬ s ≤ 6 by omega)]; simp
    · rw [decide_eq_false (show ¬ 1 ≤ n by omega)]; simp
    · rw [decide_eq_false (show ¬ n ≤ 8 by omega)]; simp
    · rw [decide_eq_false (show ¬ l.length ≤ 12 by omega)]; simp
  rw [mayR_good, this, Bool.false_and]
theorem mayR_ways {s n : Int} {l : List Lk} (h0 : ¬ s < 1) (h1 : ¬ 6 < s) (h2 : ¬ n < 1) (h3 : ¬ 8 < n) (h4 : ¬ 12 < l.length) : mayR s n l = l.all (goodL s n l) := by
  rw [mayR_good]
  unfold okB
  rw [decide_eq_true (show 1 ≤ s by omega), decide_eq_true (show s ≤ 6 by omega), decide_eq_true (show 1 ≤ n by omega), decide_eq_true (show n ≤ 8 by omega), decide_eq_true (show l.length ≤ 12 by omega)]
  rfl
theorem all_snoc {f : Lk → Bool} {l : List Lk} {k : Nat} {x : Lk} (hx : l[k]? = some x) (h : (l.take k).all f = true) (hf : f x = true) : (l.take (k + 1)).all f = true := by
  rw [List.take_add_one, hx, List.all_append, h]
  simp [hf]
theorem all_no {f : Lk → Bool} {l : List Lk} {x : Lk} (hx : x ∈ l) (hf : f x = false) : l.all f = false := by
  rw [← Bool.not_eq_true, List.all_eq_true]
  intro g
  rw [g x hx] at hf
  cases hf
section
variable (s n : Int) (w : World) {a : Option Addr} {c : Nat} {l : List Lk}
set_option maxRecDepth 100000 in
set_option maxHeartbeats 4000000 in
theorem rtmay_any (R : Rds fK 4 w a c l) :
    Calls Try.prog 21 #[.agg #[.int .i64 s, .int .i64 n, .slice a l.length c]] w fun e w' => e = .returned (.bool (mayR s n l)) ∧ Below w.heap.size w w' := by
  have hmx := Nat.le_trans R.le R.max
  unfold maxLen at hmx
  have hb1 := below_new w (.cells #[.int .i64 s, .int .i64 n, .slice a l.length c] 24)
  by_cases h0 : s < 1
  case pos =>
    rw [mayR_no (.inl h0)]
    go_enter Try.func21, Try.ntmps21
    go_wp2
    go_ret
    exact ⟨rfl, hb1⟩
  by_cases h1 : 6 < s
  case pos =>
    rw [mayR_no (.inr (.inl h1))]
    go_enter Try.func21, Try.ntmps21
    go_wp2
    go_ret
    exact ⟨rfl, hb1⟩
  by_cases h2 : n < 1
  case pos =>
    rw [mayR_no (.inr (.inr (.inl h2)))]
    go_enter Try.func21, Try.ntmps21
    go_wp2
    go_ret
    exact ⟨rfl, hb1⟩
  by_cases h3 : 8 < n
  case pos =>
    rw [mayR_no (.inr (.inr (.inr (.inl h3))))]
    go_enter Try.func21, Try.ntmps21
    go_wp2
    go_ret
    exact ⟨rfl, hb1⟩
  by_cases h4 : 12 < l.length
  case pos =>
    rw [mayR_no (.inr (.inr (.inr (.inr (h4)))))]
    have hz : (12 : Int) < (l.length : Int) := by omega
    go_enter Try.func21, Try.ntmps21
    go_wp2
    go_ret
    exact ⟨rfl, hb1⟩
  have hz : ¬ (12 : Int) < (l.length : Int) := by omega
  have HL : Hid (l.length ≤ 100) := by show _ ≤ _; omega
  have HW := mayR_ways h0 h1 h2 h3 h4
  generalize mayR s n l = res at HW ⊢
  have HR : Hid (res = _) := HW
  clear HW
  obtain ⟨t0, t1, t2⟩ := box3 w (.int .i64 s) (.int .i64 n) (.slice a l.length c) 24
  have hBT : w.heap.size < (w.alloc (.cells #[.int .i64 s, .int .i64 n, .slice a l.length c] 24)).heap.size := by simp
  have R1 := R.later hb1
  clear R
  go_enter Try.func21, Try.ntmps21
  go_wp2_with fail
  generalize hW : w.alloc (.cells #[.int .i64 s, .int .i64 n, .slice a l.length c] 24) = w1 at t0 t1 t2 hBT R1 hb1 ⊢
  clear hW
  go_loopw [3] (fun vi wr => ∃ k : Nat, Hid (k ≤ l.length) ∧ vi = .int .i64 (k : Nat) ∧ Hid ((l.take k).all (goodL s n l) = true) ∧ Below w1.heap.size w1 wr) (fun vi _ => l.length - (intOf vi).toNat)
  case atStart => exact ⟨0, Nat.zero_le _, rfl, rfl, Below.refl _ _⟩
  case round =>
    obtain ⟨k, HK, rfl, HG, hbr⟩ := hrel
    replace t0 := (hbr.cell (p := ⟨w.heap.size, 0, none⟩) hBT).trans t0
    replace t1 := (hbr.cell (p := ⟨w.heap.size, 1, none⟩) hBT).trans t1
    replace t2 := (hbr.cell (p := ⟨w.heap.size, 2, none⟩) hBT).trans t2
    replace hBT := Nat.lt_of_lt_of_le hBT hbr.size
    by_cases hlt : k < l.length
    · have hkz : (k : Int) < (l.length : Int) := by omega
      obtain ⟨r, hr⟩ := getK hlt
      have RL := R1.later hbr
      obtain ⟨b, o, rfl, hbr1, hc⟩ := RL.at hr
      have HA : Hid (goodL s n l r = true → (l.take (k + 1)).all (goodL s n l) = true) := fun h => all_snoc hr HG.out h
      have HB : Hid (goodL s n l r = false → res = false) := fun h => by rw [HR.out]; exact all_no (List.mem_of_getElem? hr) h
      obtain ⟨ka, kp, kb, kq⟩ := r
      have v0 := hc 0 _ rfl
      have v1 := hc 1 _ rfl
      have v2 := hc 2 _ rfl
      have v3 := hc 3 _ rfl
      rw [Nat.add_zero] at v0
      clear hc hr
      have HLT : Hid (k + 1 ≤ l.length) := hlt
      have hGL : goodL s n l ⟨ka, kp, kb, kq⟩ = (isP s n (ka, kp) && isP s n (kb, kq) && (cnt l (ka, kp) == 1) && (cnt l (kb, kq) == 1)) := rfl
      generalize goodL s n l ⟨ka, kp, kb, kq⟩ = g at HA HB hGL
      have HGL : Hid (g = _) := hGL
      clear hGL hlt HK HG
      have cA := rport_any s n (some ⟨b, o, none⟩) l.length c ka kp
      have cB := rport_any s n (some ⟨b, o, none⟩) l.length c kb kq
      have cC := fun w' (R : Rds fK 4 w' (some ⟨b, o, none⟩) c l) => rends_any s n w' R HL.out ka kp
      have cD := fun w' (R : Rds fK 4 w' (some ⟨b, o, none⟩) c l) => rends_any s n w' R HL.out kb kq
      generalize isP s n (ka, kp) = A at cA HGL
      generalize isP s n (kb, kq) = B at cB HGL
      generalize cnt l (ka, kp) = C at cC HGL
      generalize cnt l (kb, kq) = D at cD HGL
      have hbA := below_new wr (.cells #[.int .i64 ka, .int .i64 kp, .int .i64 kb, .int .i64 kq] 52)
      have X : Lies (wr.alloc (.cells #[.int .i64 ka, .int .i64 kp, .int .i64 kb, .int .i64 kq] 52)) wr.heap.size [ka, kp, kb, kq] := Lies.new wr [ka, kp, kb, kq] 52 rfl
      have x0 := X.cells 0 _ rfl
      have x1 := X.cells 1 _ rfl
      have x2 := X.cells 2 _ rfl
      have x3 := X.cells 3 _ rfl
      have s2 := t2
      replace t0 := (hbA.cell (p := ⟨w.heap.size, 0, none⟩) hBT).trans t0
      replace t1 := (hbA.cell (p := ⟨w.heap.size, 1, none⟩) hBT).trans t1
      replace t2 := (hbA.cell (p := ⟨w.heap.size, 2, none⟩) hBT).trans t2
      replace hBT := Nat.lt_of_lt_of_le hBT hbA.size
      replace hbr := below_step hbr hbA
      replace RL := RL.later hbA
      clear hbA
      cases A with
      | false =>
        go_wp2_with fail
        refine (cA _).mono ?_
        rintro e w2 ⟨rfl, hb2⟩
        replace t0 := (hb2.cell (p := ⟨w.heap.size, 0, none⟩) hBT).trans t0
        replace t1 := (hb2.cell (p := ⟨w.heap.size, 1, none⟩) hBT).trans t1
        replace t2 := (hb2.cell (p := ⟨w.heap.size, 2, none⟩) hBT).trans t2
        replace hBT := Nat.lt_of_lt_of_le hBT hb2.size
        replace hbr := below_step hbr hb2
        replace RL := RL.later hb2
        clear x0 x1 x2 x3
        replace X := X.later hb2
        have x0 := X.cells 0 _ rfl
        have x1 := X.cells 1 _ rfl
        have x2 := X.cells 2 _ rfl
        have x3 := X.cells 3 _ rfl
        clear hb2
        go_wp2_with fail
        refine (cB _).mono ?_
        rintro e w3 ⟨rfl, hb3⟩
        replace t0 := (hb3.cell (p := ⟨w.heap.size, 0, none⟩) hBT).trans t0
        replace t1 := (hb3.cell (p := ⟨w.heap.size, 1, none⟩) hBT).trans t1
        replace t2 := (hb3.cell (p := ⟨w.heap.size, 2, none⟩) hBT).trans t2
        replace hBT := Nat.lt_of_lt_of_le hBT hb3.size
        replace hbr := below_step hbr hb3
        replace RL := RL.later hb3
        clear x0 x1 x2 x3
        replace X := X.later hb3
        have x0 := X.cells 0 _ rfl
        have x1 := X.cells 1 _ rfl
        have x2 := X.cells 2 _ rfl
        have x3 := X.cells 3 _ rfl
        clear hb3
        have HF : Hid (res = false) := HB.out (by rw [HGL.out]; simp)
        clear HA HB HGL HR
        have hB := below_step hb1 hbr
        go_wp2_with fail
        go_ret
        exact ⟨ret_bool HF.out.symm, hB⟩
      | true =>
        go_wp2_with fail
        refine (cA _).mono ?_
        rintro e w2 ⟨rfl, hb2⟩
        replace t0 := (hb2.cell (p := ⟨w.heap.size, 0, none⟩) hBT).trans t0
        replace t1 := (hb2.cell (p := ⟨w.heap.size, 1, none⟩) hBT).trans t1
        replace t2 := (hb2.cell (p := ⟨w.heap.size, 2, none⟩) hBT).trans t2
        replace hBT := Nat.lt_of_lt_of_le hBT hb2.size
        replace hbr := below_step hbr hb2
        replace RL := RL.later hb2
        clear x0 x1 x2 x3
        replace X := X.later hb2
        have x0 := X.cells 0 _ rfl
        have x1 := X.cells 1 _ rfl
        have x2 := X.cells 2 _ rfl
        have x3 := X.cells 3 _ rfl
        clear hb2
        cases B with
        | false =>
          go_wp2_with fail
          refine (cB _).mono ?_
          rintro e w3 ⟨rfl, hb3⟩
          replace t0 := (hb3.cell (p := ⟨w.heap.size, 0, none⟩) hBT).trans t0
          replace t1 := (hb3.cell (p := ⟨w.heap.size, 1, none⟩) hBT).trans t1
          replace t2 := (hb3.cell (p := ⟨w.heap.size, 2, none⟩) hBT).trans t2
          replace hBT := Nat.lt_of_lt_of_le hBT hb3.size
          replace hbr := below_step hbr hb3
          replace RL := RL.later hb3
          clear x0 x1 x2 x3
          replace X := X.later hb3
          have x0 := X.cells 0 _ rfl
          have x1 := X.cells 1 _ rfl
          have x2 := X.cells 2 _ rfl
          have x3 := X.cells 3 _ rfl
          clear hb3
          have HF : Hid (res = false) := HB.out (by rw [HGL.out]; simp)
          clear HA HB HGL HR
          have hB := below_step hb1 hbr
          go_wp2_with fail
          go_ret
          exact ⟨ret_bool HF.out.symm, hB⟩
        | true =>
          go_wp2_with fail
          refine (cB _).mono ?_
          rintro e w3 ⟨rfl, hb3⟩
          replace t0 := (hb3.cell (p := ⟨w.heap.size, 0, none⟩) hBT).trans t0
          replace t1 := (hb3.cell (p := ⟨w.heap.size, 1, none⟩) hBT).trans t1
          replace t2 := (hb3.cell (p := ⟨w.heap.size, 2, none⟩) hBT).trans t2
          replace hBT := Nat.lt_of_lt_of_le hBT hb3.size
          replace hbr := below_step hbr hb3
          replace RL := RL.later hb3
          clear x0 x1 x2 x3
          replace X := X.later hb3
          have x0 := X.cells 0 _ rfl
          have x1 := X.cells 1 _ rfl
          have x2 := X.cells 2 _ rfl
          have x3 := X.cells 3 _ rfl
          clear hb3
          go_wp2_with fail
          refine (cC _ RL).mono ?_
          rintro e w4 ⟨rfl, hb4⟩
          replace t0 := (hb4.cell (p := ⟨w.heap.size, 0, none⟩) hBT).trans t0
          replace t1 := (hb4.cell (p := ⟨w.heap.size, 1, none⟩) hBT).trans t1
          replace t2 := (hb4.cell (p := ⟨w.heap.size, 2, none⟩) hBT).trans t2
          replace hBT := Nat.lt_of_lt_of_le hBT hb4.size
          replace hbr := below_step hbr hb4
          replace RL := RL.later hb4
          clear x0 x1 x2 x3
          replace X := X.later hb4
          have x0 := X.cells 0 _ rfl
          have x1 := X.cells 1 _ rfl
          have x2 := X.cells 2 _ rfl
          have x3 := X.cells 3 _ rfl
          clear hb4
          by_cases hC : (C : Int) = 1
          case neg =>
            have hC2 : ((C : Int) != 1) = true := by simp [hC]
            have HC : Hid (¬ C = 1) := by show ¬ _; omega
            have HF : Hid (res = false) := HB.out (by rw [HGL.out]; simp [HC.out])
            clear HA HB HGL HR
            have hB := below_step hb1 hbr
            go_wp2_with fail
            go_ret
            exact ⟨ret_bool HF.out.symm, hB⟩
          have hC2 : ((C : Int) != 1) = false := by simp [hC]
          have HC : Hid (C = 1) := by show _ = _; omega
          clear hC
          go_wp2_with fail
          refine (cD _ RL).mono ?_
          rintro e w5 ⟨rfl, hb5⟩
          replace t0 := (hb5.cell (p := ⟨w.heap.size, 0, none⟩) hBT).trans t0
          replace t1 := (hb5.cell (p := ⟨w.heap.size, 1, none⟩) hBT).trans t1
          replace t2 := (hb5.cell (p := ⟨w.heap.size, 2, none⟩) hBT).trans t2
          replace hBT := Nat.lt_of_lt_of_le hBT hb5.size
          replace hbr := below_step hbr hb5
          replace RL := RL.later hb5
          clear x0 x1 x2 x3
          replace X := X.later hb5
          have x0 := X.cells 0 _ rfl
          have x1 := X.cells 1 _ rfl
          have x2 := X.cells 2 _ rfl
          have x3 := X.cells 3 _ rfl
          clear hb5
          by_cases hD : (D : Int) = 1
          case neg =>
            have hD2 : ((D : Int) != 1) = true := by simp [hD]
            have HD : Hid (¬ D = 1) := by show ¬ _; omega
            have HF : Hid (res = false) := HB.out (by rw [HGL.out]; simp [HD.out])
            clear HA HB HGL HR
            have hB := below_step hb1 hbr
            go_wp2_with fail
            go_ret
            exact ⟨ret_bool HF.out.symm, hB⟩
          have hD2 : ((D : Int) != 1) = false := by simp [hD]
          have HD : Hid (D = 1) := by show _ = _; omega
          clear hD
          have HN := HA.out (by rw [HGL.out]; simp [HC.out, HD.out])
          have HN2 : Hid _ := HN
          clear HA HB HGL HN
          go_wp2_with fail
          go_roundw
          case rel => exact ⟨k + 1, HLT.out, by go_num, HN2, hbr⟩
          case measure => have h := HLT.out; simp [intOf]; omega
    · have hke : k = l.length := by have h := HK.out; omega
      have hkz : ¬ (k : Int) < (l.length : Int) := by omega
      have HN : Hid (res = true) := by
        show _ = _
        have h := HG.out
        rw [hke, List.take_length] at h
        rw [HR.out]; exact h
      have hB := below_step hb1 hbr
      clear hke hlt HK HG
      go_wp2_with fail
      go_ret
      exact ⟨ret_bool HN.out.symm, hB⟩
end
end Go.Proofs.Ytnmijgnflemhkaa
