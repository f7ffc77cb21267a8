/- What the code's May, Most and At of configurations answer. -/
import Derived.Test.YtnmijgnflemhkaaConfMayRules
import Derived.Test.YtnmijgnflemhkaaConfRefC
import Derived.Test.YtnmijgnflemhkaaTopMay
import Derived.Lib.Walk
import Derived.Lib.MinMax
namespace Go.Proofs.Ytnmijgnflemhkaa
open Go.ChangeShapes Go.WideShapes Go.ChangeAt Go.RowKit Go.Maps Pk Cf
set_option linter.unusedVariables false
set_option linter.unusedSimpArgs false

section
variable (s n : Int) (w : World) {x a : Option Addr} {c k : Nat} {l : List Tp.Lk} {L : Cnf}
set_option maxRecDepth 100000 in
set_option maxHeartbeats 4000000 in
theorem cmay_any (RT : Rds Tp.fK 4 w x c l) (V : Lists w a k L) :
    Calls Try.prog 16 #[.agg #[.int .i64 s, .int .i64 n, .slice x l.length c], .slice a L.length k] w fun e w' => e = .returned (.bool (mayC s n l L)) ∧ Below w.heap.size w w' := by
  have hmx := Nat.le_trans V.le V.max
  unfold maxLen at hmx
  have hb1 := below_new w (.cells #[.int .i64 s, .int .i64 n, .slice x l.length c] 24)
  obtain ⟨t0, t1, t2⟩ := box3 w (.int .i64 s) (.int .i64 n) (.slice x l.length c) 24
  have hBT : w.heap.size < (w.alloc (.cells #[.int .i64 s, .int .i64 n, .slice x l.length c] 24)).heap.size := by simp
  have cM := toMay_any s n (w.alloc (.cells #[.int .i64 s, .int .i64 n, .slice x l.length c] 24)) (RT.later hb1)
  clear RT
  cases hm : Tp.mayT s n l with
  | false =>
    rw [hm] at cM
    rw [mayC_no1 hm]
    go_enter Try.func16, Try.ntmps16
    go_wp2_with fail
    refine cM.mono ?_
    clear cM
    rintro e w2 ⟨rfl, hb2⟩
    replace hb1 := below_step hb1 hb2
    go_wp2_with fail
    go_ret
    exact ⟨rfl, hb1⟩
  | true =>
    rw [hm] at cM
    by_cases hls : (L.length : Int) = s
    case neg =>
      have hz : ((L.length : Int) != s) = true := by simpa using hls
      rw [mayC_no2 hls]
      go_enter Try.func16, Try.ntmps16
      go_wp2_with fail
      refine cM.mono ?_
      clear cM
      rintro e w2 ⟨rfl, hb2⟩
      replace t0 := (hb2.cell (p := ⟨w.heap.size, 0, none⟩) hBT).trans t0
      replace hb1 := below_step hb1 hb2
      clear hb2
      go_wp2_with fail
      go_ret
      exact ⟨rfl, hb1⟩
    have hz : ((L.length : Int) != s) = false := by simpa using hls
    have HT : Hid ((∀ r ∈ L, rulesB n r = true) → mayC s n l L = true) := fun h => (may_iff s n l L).2 ⟨hm, hls, h⟩
    have HN : Hid (∀ r ∈ L, rulesB n r = false → mayC s n l L = false) := fun r h h2 => mayC_no3 h h2
    generalize mayC s n l L = res at HT HN ⊢
    clear hm
    replace V := V.later hb1
    go_enter Try.func16, Try.ntmps16
    go_wp2_with fail
    refine cM.mono ?_
    clear cM
    rintro e w2 ⟨rfl, hb2⟩
    replace t0 := (hb2.cell (p := ⟨w.heap.size, 0, none⟩) hBT).trans t0
    replace t1 := (hb2.cell (p := ⟨w.heap.size, 1, none⟩) hBT).trans t1
    replace t2 := (hb2.cell (p := ⟨w.heap.size, 2, none⟩) hBT).trans t2
    replace hBT := Nat.lt_of_lt_of_le hBT hb2.size
    replace V := V.later hb2
    replace hb1 := below_step hb1 hb2
    clear hb2
    go_wp2_with fail
    go_loopw [19] (fun vi wr => ∃ i : Nat, Hid (i ≤ L.length) ∧ vi = .int .i64 (i : Nat) ∧ Hid (∀ r ∈ L.take i, rulesB n r = true) ∧ Below w2.heap.size w2 wr) (fun vi _ => L.length - (intOf vi).toNat)
    case atStart => exact ⟨0, Nat.zero_le _, rfl, (show Hid _ from fun r hr => by simp at hr), Below.refl _ _⟩
    case round =>
      obtain ⟨i, HI, rfl, HP, hbr⟩ := hrel
      replace t0 := (hbr.cell (p := ⟨w.heap.size, 0, none⟩) hBT).trans t0
      replace t1 := (hbr.cell (p := ⟨w.heap.size, 1, none⟩) hBT).trans t1
      replace t2 := (hbr.cell (p := ⟨w.heap.size, 2, none⟩) hBT).trans t2
      have hB0 := below_step hb1 hbr
      by_cases hlt : i < L.length
      · have hiz : (i : Int) < (L.length : Int) := by omega
        obtain ⟨r, hr⟩ := getC hlt
        obtain ⟨b, o, y, m, rfl, hbb, c0, RR⟩ := (V.later hbr).at hr
        have HLT : Hid (i + 1 ≤ L.length) := hlt
        have HY : Hid (rulesB n r = true → ∀ q ∈ L.take (i + 1), rulesB n q = true) := fun h => mem_take_succ hr HP.out h
        have HZ : Hid (rulesB n r = false → res = false) := fun h => HN.out r (List.mem_of_getElem? hr) h
        have cR := mayList_any n wr RR
        generalize rulesB n r = e at cR HY HZ
        clear hlt HI HP hr RR
        go_wp2_with fail
        refine cR.mono ?_
        clear cR
        rintro e9 w3 ⟨rfl, hb3⟩
        replace hbr := below_step hbr hb3
        replace hB0 := below_step hB0 hb3
        clear hb3 c0 hbb
        cases e with
        | false =>
          have HF : Hid (res = false) := HZ.out rfl
          clear HY HZ HT HN
          go_wp2_with fail
          go_ret
          exact ⟨ret_bool HF.out.symm, hB0⟩
        | true =>
          have HQ : Hid _ := HY.out rfl
          clear HY HZ
          go_wp2_with fail
          go_roundw
          case rel => exact ⟨i + 1, HLT.out, by go_num, HQ, hbr⟩
          case measure => have h := HLT.out; simp [intOf]; omega
      · have hke : i = L.length := by have h := HI.out; omega
        have hkz : ¬ (i : Int) < (L.length : Int) := by omega
        have HR : Hid (res = true) := by
          refine HT.out ?_
          have h := HP.out
          rw [hke, List.take_length] at h
          exact h
        clear hke hlt HI HP
        go_wp2_with fail
        go_ret
        exact ⟨ret_bool HR.out.symm, hB0⟩
end
section
variable (w : World) {a : Option Addr} {c : Nat} {L : Cnf}
theorem cmost_snoc {k : Nat} {l : List Rl} (hl : L[k]? = some l) : ((mostC (L.take (k + 1)) : Nat) : Int) = max ((mostC (L.take k) : Nat) : Int) (l.length : Int) := by
  rw [most_snoc hl]
  split <;> omega
set_option maxHeartbeats 2000000 in
theorem cmost_any (V : Lists w a c L) :
    Calls Try.prog 18 #[.slice a L.length c] w fun e w' => e = .returned (.int .i64 (mostC L : Nat)) ∧ w' = w := by
  have hmx := Nat.le_trans V.le V.max
  unfold maxLen at hmx
  have hmax := @Lib.run_max_ints Try.prog
  have HF : Hid (mostC L = mostC (L.take L.length)) := by show _ = _; rw [List.take_length]
  go_enter Try.func18, Try.ntmps18
  go_wp2_with fail
  go_loopw [8, 3] (fun vi vn wr => ∃ k : Nat, Hid (k ≤ L.length) ∧ vi = .int .i64 (k : Nat) ∧ vn = .int .i64 (mostC (L.take k) : Nat) ∧ wr = w) (fun vi _ _ => L.length - (intOf vi).toNat)
  case atStart => exact ⟨0, Nat.zero_le _, rfl, rfl, rfl⟩
  case round =>
    obtain ⟨k, HK, rfl, rfl, rfl⟩ := hrel
    by_cases hlt : k < L.length
    · have hkz : (k : Int) < (L.length : Int) := by omega
      obtain ⟨l, hl⟩ := getC hlt
      obtain ⟨b, o, x, m, rfl, hb, c0, R⟩ := V.at hl
      have HLT : Hid (k + 1 ≤ L.length) := hlt
      have HN := cmost_snoc hl
      clear hlt HK hl R
      generalize mostC (L.take k) = q at HN
      go_wp2_with fail
      go_roundw
      case rel => exact ⟨k + 1, HLT.out, by go_num, by rw [HN], trivial⟩
      case measure => have h := HLT.out; simp [intOf]; omega
    · have hke : k = L.length := by have h := HK.out; omega
      have hkz : ¬ (k : Int) < (L.length : Int) := by omega
      have HR : Hid (mostC (L.take k) = mostC L) := by show _ = _; rw [hke]; exact HF.out.symm
      clear hke hlt HK
      go_wp2_with fail
      go_ret
      exact ⟨ret_int (by rw [HR.out]), rfl⟩
theorem cloneR12_any (w : World) {a : Option Addr} {c : Nat} {l : List Rl} (R : Rds fR 6 w a c l) (hl : l.length ≤ 1000) :
    Calls Try.prog 24 #[.slice a l.length c] w fun e w' => ∃ u, e = .returned u ∧ w'.ownsRow w.heap.size 42 6 u l.length (flatV fR l) ∧ Below w.heap.size w w' := by
  have q22 : ∀ (w : World) (a : Option Addr) (n c n' c' : Nat), (binOp .eql 32 (.slice a n c) (.slice none n' c')).run Try.prog w = .ok (.bool a.isNone) w := fun w a n c n' c' => Lib.run_eql_slice_nil w _ _ a n c n' c' Try.underlying32
  cases a with
  | none =>
    have hc := R.nil rfl
    have h0 : l = [] := List.eq_nil_of_length_eq_zero (by have := R.le; omega)
    subst h0
    go_enter Try.func24, Try.ntmps24
    go_wp2
    go_ret
    exact ⟨_, rfl, World.ownsRow_nil _ _ _ _, Below.refl _ _⟩
  | some x =>
    have hn := below_new w (.cells #[] 42)
    have own := World.ownsRow_made (base := w.heap.size) (e := 42) (size := 6) w #[] 0 (Nat.le_refl _) (Nat.zero_le _) rfl
    have R2 := R.later hn
    go_enter Try.func24, Try.ntmps24
    go_wp2_with (at_builtin; refine wpRds_join fR_len (by decide) rfl (.tmp 5) (.tmp 6) 32 rfl w.heap.size 42 48 _ Try.underlying32 infoR12 rfl (n := 0) (ys := []) rfl own rfl R2 rfl (by omega) (by decide) hn.size ?_; intro v4 w4 own4 hg4)
    simp only [Nat.zero_add, List.nil_append] at own4
    go_ret
    exact ⟨_, rfl, own4, below_growR hn own hg4 hn.size⟩
set_option maxHeartbeats 2000000 in
theorem cat_any (V : Lists w a c L) (hb : ∀ l ∈ L, l.length ≤ 60) (sw : Int) :
    Calls Try.prog 14 #[.slice a L.length c, .int .i64 sw] w fun e w' => ∃ (x : Option Addr) (m : Nat), e = .returned (.slice x (atC L sw).length m) ∧ Rds fR 6 w' x m (atC L sw) ∧ (∀ y, x = some y → atC L sw ≠ [] → w.heap.size ≤ y.block ∧ ∀ j, w'.frozen? ⟨y.block, j, none⟩ = false) ∧ Below w.heap.size w w' := by
  have hmx := Nat.le_trans V.le V.max
  unfold maxLen at hmx
  have R0 := Rds.none fR 6 w
  by_cases h0 : sw < 0
  case pos =>
    rw [at_out (.inl h0)]
    clear V
    go_enter Try.func14, Try.ntmps14
    go_wp2
    go_ret
    first | exact ⟨none, 0, rfl, R0, (fun _ h _ => nomatch h), Below.refl _ _⟩ | exact ⟨none, 0, rfl, R0, Below.refl _ _⟩
  by_cases h1 : (L.length : Int) ≤ sw
  case pos =>
    rw [at_out (.inr h1)]
    clear V
    go_enter Try.func14, Try.ntmps14
    go_wp2
    go_ret
    first | exact ⟨none, 0, rfl, R0, (fun _ h _ => nomatch h), Below.refl _ _⟩ | exact ⟨none, 0, rfl, R0, Below.refl _ _⟩
  obtain ⟨k, rfl⟩ : ∃ k : Nat, sw = (k : Int) := ⟨sw.toNat, by omega⟩
  have hk : k < L.length := by omega
  have hkz : (k : Int) < (L.length : Int) := by omega
  obtain ⟨l, hl⟩ := getC hk
  rw [at_in hl]
  have hl100 := hb l (List.mem_of_getElem? hl)
  obtain ⟨b, o, x, m, rfl, hbb, c0, R⟩ := V.at hl
  have hwf := R.wf
  have cC := cloneR12_any w R (by omega)
  clear V hb hl R
  go_enter Try.func14, Try.ntmps14
  go_wp2_with fail
  refine cC.mono ?_
  clear cC
  rintro e w2 ⟨u, rfl, own, hb2⟩
  obtain ⟨x9, k9, rfl, R9⟩ := rds_of_owns fR_len own rfl hwf
  go_wp2_with fail
  go_ret
  refine ⟨x9, k9, rfl, R9, fun y hy hne => ?_, hb2⟩
  obtain ⟨gb, cap, he, hg0, hglt⟩ := own.form (List.length_pos_iff.2 hne)
  cases he
  cases hy
  exact ⟨hg0, fun j => own.frozenAt j⟩
end
end Go.Proofs.Ytnmijgnflemhkaa
