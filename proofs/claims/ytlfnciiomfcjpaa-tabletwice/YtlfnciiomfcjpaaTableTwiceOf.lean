/- The walk of TableTwice, over whatever code does as TabIf says. -/
import Derived.Test.YtlfnciiomfcjpaaTabIf
import Derived.Test.YtlfnciiomfcjpaaTabFacts
namespace Go.Proofs.Ytlfnciiomfcjpaa.tableTwice
open Go.ChangeShapes Go.WideShapes Go.ChangeAt Go.RowKit Pk Tb R
set_option linter.unusedVariables false
set_option linter.unusedSimpArgs false

set_option maxRecDepth 100000 in
theorem walk_no (C : TCode) (a : Option Addr) (c : Nat) (l : List Vr) (t ra rn ri rp rk rt : Int) (w : World) (V : Vers 0 w a c l) (h : ¬ Fw l) :
    Calls Try.prog 8 #[.slice a l.length c, .int .i64 t, .agg #[.int .i64 ra, .int .i64 rn, .int .i64 ri, .int .i64 rp, .int .i64 rk, .int .i64 rt]] w fun e w' => e = .returned (.bool true) ∧ Below w.heap.size w w' := by
  have hn := below_new w (.cells #[.int .i64 ra, .int .i64 rn, .int .i64 ri, .int .i64 rp, .int .i64 rk, .int .i64 rt] 28)
  go_enter Try.func8, Try.ntmps8
  go_wp2_with fail
  refine (tawake_any C _).mono ?_
  rintro e w1 ⟨rfl, hb1⟩
  have hbA := below_step hn hb1
  have cF := few_any w1 (V.later hbA)
  rw [decide_eq_false h] at cF
  go_wp2_with fail
  refine cF.mono ?_
  clear cF
  rintro e w2 ⟨rfl, hb2⟩
  have hbB := below_step hbA hb2
  go_wp2_with fail
  go_ret
  exact ⟨rfl, hbB⟩
set_option maxRecDepth 100000 in
set_option maxHeartbeats 4000000 in
theorem walk_yes (C : TCode) (a : Option Addr) (c : Nat) (l : List Vr) (t ra rn ri rp rk rt : Int) (hwr : ∀ z ∈ fR ⟨ra, rn, ri, rp, rk, rt⟩, (Lit.int .i64 z).wf = true) (w : World) (V : Vers 0 w a c l) (h : Fw l) :
    Calls Try.prog 8 #[.slice a l.length c, .int .i64 t, .agg #[.int .i64 ra, .int .i64 rn, .int .i64 ri, .int .i64 rp, .int .i64 rk, .int .i64 rt]] w fun e w' => e = .returned (.bool true) ∧ Below w.heap.size w w' := by
  have HP : Hid (Sm (putT l t ⟨ra, rn, ri, rp, rk, rt⟩ 10000).1) := sm_bd (put_bd (n := 20) (k := 60) h) (by decide) (by decide)
  have HD : Hid (Sm (dropT l t)) := sm_bd (drop_bd (n := 20) (k := 60) h) (by decide) (by decide)
  have HPP : Hid (putT (putT l t ⟨ra, rn, ri, rp, rk, rt⟩ 10000).1 t ⟨ra, rn, ri, rp, rk, rt⟩ 10000 = putT l t ⟨ra, rn, ri, rp, rk, rt⟩ 10000) := put_twice (by have h1 := size_le (l := l) (n := 60) h.2; have h2 := Nat.mul_le_mul h.1 (Nat.le_refl 60); omega)
  have hn := below_new w (.cells #[.int .i64 ra, .int .i64 rn, .int .i64 ri, .int .i64 rp, .int .i64 rk, .int .i64 rt] 28)
  have X := Lies.new w [ra, rn, ri, rp, rk, rt] 28 rfl
  go_enter Try.func8, Try.ntmps8
  go_wp2_with fail
  refine (tawake_any C _).mono ?_
  rintro e w1 ⟨rfl, hb1⟩
  have hbA := below_step hn hb1
  have cF := few_any w1 (V.later hbA)
  rw [decide_eq_true h] at cF
  have HS : Hid (Sm l) := fw_sm h
  have HF : Hid (Fw l) := h
  clear h
  go_wp2_with fail
  refine cF.mono ?_
  clear cF
  rintro e w2 ⟨rfl, hb2⟩
  have hbB := below_step hbA hb2
  have V2 := V.later hbB
  replace X := (X.later hb1).later hb2
  clear hb1 hbA hb2
  have hl20 : l.length ≤ 20 := HF.out.1
  go_wp2_with fail
  go_loopw [9] (fun v wr => ∃ i : Nat, v = .int .i64 (i : Nat) ∧ Hid (i ≤ l.length ∧ ∀ n, n < i → ∀ k, k < n → ¬ (l.getD n default).t = (l.getD k default).t) ∧ Below w2.heap.size w2 wr) (fun v _ => l.length - (intOf v).toNat)
  case atStart => exact ⟨0, rfl, ⟨Nat.zero_le _, fun n hn => absurd hn (Nat.not_lt_zero _)⟩, Below.refl _ _⟩
  case round =>
    obtain ⟨i, rfl, HA, hbr⟩ := hrel
    by_cases hlt : i < l.length
    · have hiz : (i : Int) < (l.length : Int) := Int.ofNat_lt.2 hlt
      have gi := getD_atV hlt
      have HIL : Hid (i < l.length) := hlt
      have hi20 : i ≤ 20 := Nat.le_trans (Nat.le_of_lt hlt) hl20
      have HLK : Hid (∀ k, k < l.length → l[k]? = some (l.getD k default)) := fun k hk => getD_atV hk
      have HNX : Hid ((∀ k, k < i → ¬ (l.getD i default).t = (l.getD k default).t) → ∀ n, n < i + 1 → ∀ k, k < n → ¬ (l.getD n default).t = (l.getD k default).t) := by
        intro h n hn k hk
        rcases Nat.lt_or_ge n i with h1 | h1
        · exact HA.out.2 n h1 k hk
        · obtain rfl : n = i := by omega
          exact h k hk
      clear HA
      generalize l.getD i default = r at gi HNX
      clear hlt
      go_wp2_with fail
      go_loopw [10] (fun v wr => ∃ k : Nat, v = .int .i64 (k : Nat) ∧ Hid (k ≤ i ∧ ∀ n, n < k → ¬ r.t = (l.getD n default).t) ∧ Below w2.heap.size w2 wr) (fun v _ => l.length - (intOf v).toNat)
      case atStart => exact ⟨0, rfl, ⟨Nat.zero_le _, fun n hn => absurd hn (Nat.not_lt_zero _)⟩, hbr⟩
      case round =>
        obtain ⟨k, rfl, HK, hbk⟩ := hrel
        by_cases hlt : k < i
        · have hkz : (k : Int) < (i : Int) := Int.ofNat_lt.2 hlt
          have hkl : k < l.length := Nat.lt_trans hlt HIL.out
          have hkz2 : (k : Int) < (l.length : Int) := Int.ofNat_lt.2 hkl
          have gk := HLK.out k hkl
          have hk20 : k ≤ 20 := Nat.le_trans (Nat.le_of_lt hlt) hi20
          have HKI : Hid (k < i) := hlt
          have NK : Hid (¬ r.t = (l.getD k default).t → ∀ n, n < k + 1 → ¬ r.t = (l.getD n default).t) := by
            intro h n hn
            rcases Nat.lt_or_ge n k with h1 | h1
            · exact HK.out.2 n h1
            · obtain rfl : n = k := by omega
              exact h
          clear hlt hkl HK
          generalize l.getD k default = s at gk NK
          obtain ⟨b1, o1, x1, kk1, rfl, hbb1, c0, -, -, -⟩ := (V2.later hbk).at gi
          obtain ⟨b2, o2, x2, kk2, ee, -, d0, -, -, -⟩ := (V2.later hbk).at gk
          cases ee
          by_cases he : r.t = s.t
          · have heb : (r.t == s.t) = true := by simpa using he
            clear NK he
            go_wp2_with fail
            first | (go_quiet (fail); go_wp2_with fail) | skip
            go_ret
            exact ⟨rfl, below_step hbB (by first | exact hbk | exact hbk.trans (below_draws _ _ _))⟩
          · have N2 := show Hid _ from NK.out he
            have heb : (r.t == s.t) = false := by simpa using he
            clear NK he
            go_wp2_with fail
            first | (go_quiet (fail); go_wp2_with fail) | skip
            go_roundw
            case rel => exact ⟨k + 1, by go_num, ⟨HKI.out, N2.out⟩, by first | exact hbk | exact hbk.trans (below_draws _ _ _)⟩
            case measure => have h := HKI.out; have h2 := HIL.out; simp [intOf]; omega
        · have hke : k = i := by have h := HK.out.1; omega
          have hkz : ¬ (k : Int) < (i : Int) := by omega
          have N2 := show Hid _ from HNX.out (fun n hn => HK.out.2 n (by rw [hke]; exact hn))
          clear HNX HK hlt hke
          go_wp2_with fail
          go_roundw
          case rel => exact ⟨i + 1, by go_num, ⟨HIL.out, N2.out⟩, hbk⟩
          case measure => have h2 := HIL.out; simp [intOf]; omega
    · have hiz : ¬ (i : Int) < (l.length : Int) := by omega
      have HO : Hid (Once l) := fun n hn k hk => HA.out.2 n (by have h := HA.out.1; omega) k hk
      replace V2 := V2.later hbr
      replace X := X.later hbr
      replace hbB := below_step hbB hbr
      clear hbr HA hlt
      generalize wr = w3 at V2 X hbB ⊢
      obtain ⟨x0, x1, x2, x3, x4, x5⟩ := X.six
      go_wp2_with fail
      clear x0 x1 x2 x3 x4 x5
      have cc := C.put w3 V2 HS.out t 10000 ra rn ri rp rk rt hwr
      refine cc.mono ?_
      clear cc
      rintro e w4 ⟨y1, k1, rfl, P1, hb⟩
      replace V2 := V2.later hb
      replace X := X.later hb
      replace hbB := below_step hbB hb
      clear hb
      obtain ⟨x0, x1, x2, x3, x4, x5⟩ := X.six
      go_wp2_with fail
      clear x0 x1 x2 x3 x4 x5
      have cc := C.put w4 P1 HP.out t 10000 ra rn ri rp rk rt hwr
      rw [HPP.out] at cc
      refine cc.mono ?_
      clear cc
      rintro e w5 ⟨y2, k2, rfl, P2, hb⟩
      replace V2 := V2.later hb
      replace P1 := P1.later hb
      replace X := X.later hb
      replace hbB := below_step hbB hb
      clear hb
      obtain ⟨x0, x1, x2, x3, x4, x5⟩ := X.six
      go_wp2_with fail
      clear x0 x1 x2 x3 x4 x5
      have cc := rsame9_any w5 P1 P2
      rw [decide_eq_true (rfl : (putT l t ⟨ra, rn, ri, rp, rk, rt⟩ 10000).1 = (putT l t ⟨ra, rn, ri, rp, rk, rt⟩ 10000).1)] at cc
      refine cc.mono ?_
      clear cc
      rintro e w6 ⟨rfl, hb⟩
      replace V2 := V2.later hb
      replace P1 := P1.later hb
      replace P2 := P2.later hb
      replace X := X.later hb
      replace hbB := below_step hbB hb
      clear hb
      obtain ⟨x0, x1, x2, x3, x4, x5⟩ := X.six
      go_wp2_with fail
      clear x0 x1 x2 x3 x4 x5
      have cc := C.drop w6 V2 HS.out t
      refine cc.mono ?_
      clear cc
      rintro e w7 ⟨y3, k3, rfl, D1, hb⟩
      replace V2 := V2.later hb
      replace P1 := P1.later hb
      replace P2 := P2.later hb
      replace X := X.later hb
      replace hbB := below_step hbB hb
      clear hb
      obtain ⟨x0, x1, x2, x3, x4, x5⟩ := X.six
      go_wp2_with fail
      clear x0 x1 x2 x3 x4 x5
      have cc := C.drop w7 D1 HD.out t
      rw [drop_twice HO.out] at cc
      refine cc.mono ?_
      clear cc
      rintro e w8 ⟨y4, k4, rfl, D2, hb⟩
      replace V2 := V2.later hb
      replace P1 := P1.later hb
      replace P2 := P2.later hb
      replace D1 := D1.later hb
      replace X := X.later hb
      replace hbB := below_step hbB hb
      clear hb
      obtain ⟨x0, x1, x2, x3, x4, x5⟩ := X.six
      go_wp2_with fail
      clear x0 x1 x2 x3 x4 x5
      have cc := rsame9_any w8 D2 D1
      rw [decide_eq_true (rfl : dropT l t = dropT l t)] at cc
      refine cc.mono ?_
      clear cc
      rintro e w9 ⟨rfl, hb⟩
      replace V2 := V2.later hb
      replace P1 := P1.later hb
      replace P2 := P2.later hb
      replace D1 := D1.later hb
      replace D2 := D2.later hb
      replace X := X.later hb
      replace hbB := below_step hbB hb
      clear hb
      obtain ⟨x0, x1, x2, x3, x4, x5⟩ := X.six
      go_wp2_with fail
      clear x0 x1 x2 x3 x4 x5
      go_ret
      exact ⟨rfl, hbB⟩

end Go.Proofs.Ytlfnciiomfcjpaa.tableTwice
