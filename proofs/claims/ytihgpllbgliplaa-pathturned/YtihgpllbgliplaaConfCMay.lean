/- What the code's May and Most of configurations answer. -/
import Derived.Test.YtihgpllbgliplaaConfMayRules
import Derived.Test.YtihgpllbgliplaaConfPlain
import Derived.Test.YtihgpllbgliplaaTopMay
import Derived.Lib.Walk
import Derived.Lib.MinMax
namespace Go.Proofs.Ytihgpllbgliplaa
open Go.ChangeShapes Go.WideShapes Go.ChangeAt Go.RowKit Go.Maps Pk Cf
set_option linter.unusedVariables false
set_option linter.unusedSimpArgs false

section
variable (s n : Int) (w : World) {x a : Option Addr} {c k : Nat} {l : List Tp.Lk} {L : Cnf}
set_option maxRecDepth 100000 in
set_option maxHeartbeats 4000000 in
theorem cmay_any (RT : Rds Tp.fK 4 w x c l) (V : Lists w a k L) :
    Calls Try.prog 17 #[.agg #[.int .i64 s, .int .i64 n, .slice x l.length c], .slice a L.length k] w fun e w' => e = .returned (.bool (mayC s n l L)) ∧ Below w.heap.size w w' := by
  have hmx := Nat.le_trans V.le V.max
  unfold maxLen at hmx
  have hb1 := below_new w (.cells #[.int .i64 s, .int .i64 n, .slice x l.length c] 24)
  obtain ⟨t0, t1, t2⟩ := box3 w (.int .i64 s) (.int .i64 n) (.slice x l.length c) 24
  have hBT : w.heap.size < (w.alloc (.cells #[.int .i64 s, .int .i64 n, .slice x l.length c] 24)).heap.size := by simp
  have cM := toMay_any s n (w.alloc (.cells #[.int .i64 s, .int .i64 n, .slice x l.length c] 24)) (RT.later hb1)
  clear RT
  cases hm : Tp.mayT s n l with
  | false =>
    rw [hm] at cM
    rw [mayC_no1 hm]
    go_enter Try.func17, Try.ntmps17
    go_wp2_with fail
    refine cM.mono ?_
    clear cM
    rintro e w2 ⟨rfl, hb2⟩
    replace hb1 := below_step hb1 hb2
    go_wp2_with fail
    go_ret
    exact ⟨rfl, hb1⟩
  | true =>
    rw [hm] at cM
    by_cases hls : (L.length : Int) = s
    case neg =>
      have hz : ((L.length : Int) != s) = true := by simpa using hls
      rw [mayC_no2 hls]
      go_enter Try.func17, Try.ntmps17
      go_wp2_with fail
      refine cM.mono ?_
      clear cM
      rintro e w2 ⟨rfl, hb2⟩
      replace t0 := (hb2.cell (p := ⟨w.heap.size, 0, none⟩) hBT).trans t0
      replace hb1 := below_step hb1 hb2
      clear hb2
      go_wp2_with fail
      go_ret
      exact ⟨rfl, hb1⟩
    have hz : ((L.length : Int) != s) = false := by simpa using hls
    have HT : Hid ((∀ r ∈ L, rulesB n r = true) → mayC s n l L = true) := fun h => (may_iff s n l L).2 ⟨hm, hls, h⟩
    have HN : Hid (∀ r ∈ L, rulesB n r = false → mayC s n l L = false) := fun r h h2 => mayC_no3 h h2
    generalize mayC s n l L = res at HT HN ⊢
    clear hm
    replace V := V.later hb1
    go_enter Try.func17, Try.ntmps17
    go_wp2_with fail
    refine cM.mono ?_
    clear cM
    rintro e w2 ⟨rfl, hb2⟩
    replace t0 := (hb2.cell (p := ⟨w.heap.size, 0, none⟩) hBT).trans t0
    replace t1 := (hb2.cell (p := ⟨w.heap.size, 1, none⟩) hBT).trans t1
    replace t2 := (hb2.cell (p := ⟨w.heap.size, 2, none⟩) hBT).trans t2
    replace hBT := Nat.lt_of_lt_of_le hBT hb2.size
    replace V := V.later hb2
    replace hb1 := below_step hb1 hb2
    clear hb2
    go_wp2_with fail
    go_loopw [19] (fun vi wr => ∃ i : Nat, Hid (i ≤ L.length) ∧ vi = .int .i64 (i : Nat) ∧ Hid (∀ r ∈ L.take i, rulesB n r = true) ∧ Below w2.heap.size w2 wr) (fun vi _ => L.length - (intOf vi).toNat)
    case atStart => exact ⟨0, Nat.zero_le _, rfl, (show Hid _ from fun r hr => by simp at hr), Below.refl _ _⟩
    case round =>
      obtain ⟨i, HI, rfl, HP, hbr⟩ := hrel
      replace t0 := (hbr.cell (p := ⟨w.heap.size, 0, none⟩) hBT).trans t0
      replace t1 := (hbr.cell (p := ⟨w.heap.size, 1, none⟩) hBT).trans t1
      replace t2 := (hbr.cell (p := ⟨w.heap.size, 2, none⟩) hBT).trans t2
      have hB0 := below_step hb1 hbr
      by_cases hlt : i < L.length
      · have hiz : (i : Int) < (L.length : Int) := by omega
        obtain ⟨r, hr⟩ := getC hlt
        obtain ⟨b, o, y, m, rfl, hbb, c0, RR⟩ := (V.later hbr).at hr
        have HLT : Hid (i + 1 ≤ L.length) := hlt
        have HY : Hid (rulesB n r = true → ∀ q ∈ L.take (i + 1), rulesB n q = true) := fun h => mem_take_succ hr HP.out h
        have HZ : Hid (rulesB n r = false → res = false) := fun h => HN.out r (List.mem_of_getElem? hr) h
        have cR := mayList_any n wr RR
        generalize rulesB n r = e at cR HY HZ
        clear hlt HI HP hr RR
        go_wp2_with fail
        refine cR.mono ?_
        clear cR
        rintro e9 w3 ⟨rfl, hb3⟩
        replace hbr := below_step hbr hb3
        replace hB0 := below_step hB0 hb3
        clear hb3 c0 hbb
        cases e with
        | false =>
          have HF : Hid (res = false) := HZ.out rfl
          clear HY HZ HT HN
          go_wp2_with fail
          go_ret
          exact ⟨ret_bool HF.out.symm, hB0⟩
        | true =>
          have HQ : Hid _ := HY.out rfl
          clear HY HZ
          go_wp2_with fail
          go_roundw
          case rel => exact ⟨i + 1, HLT.out, by go_num, HQ, hbr⟩
          case measure => have h := HLT.out; simp [intOf]; omega
      · have hke : i = L.length := by have h := HI.out; omega
        have hkz : ¬ (i : Int) < (L.length : Int) := by omega
        have HR : Hid (res = true) := by
          refine HT.out ?_
          have h := HP.out
          rw [hke, List.take_length] at h
          exact h
        clear hke hlt HI HP
        go_wp2_with fail
        go_ret
        exact ⟨ret_bool HR.out.symm, hB0⟩
end
end Go.Proofs.Ytihgpllbgliplaa
