/- The walk of TableHas, over whatever code does as TabIf says. -/
import Derived.Test.YtlfnciiomfcjpaaTabIf
import Derived.Test.YtlfnciiomfcjpaaTabFacts
namespace Go.Proofs.Ytlfnciiomfcjpaa.tableHas
open Go.ChangeShapes Go.WideShapes Go.ChangeAt Go.RowKit Pk Tb R
set_option linter.unusedVariables false
set_option linter.unusedSimpArgs false

theorem eq_rl9 (ra rn ri rp rk rt sa sn si sp sk st : Int) (w : World) : (binOp .eql 28 (.agg #[.int .i64 ra, .int .i64 rn, .int .i64 ri, .int .i64 rp, .int .i64 rk, .int .i64 rt]) (.agg #[.int .i64 sa, .int .i64 sn, .int .i64 si, .int .i64 sp, .int .i64 sk, .int .i64 st])).run Try.prog w = .ok (.bool ((ra == sa && rn == sn) && (ri == si && (rp == sp && (rk == sk && rt == st))))) w := by
  cases h0 : (ra == sa)
  · go_simp
  cases h1 : (rn == sn)
  · go_simp
  cases h2 : (ri == si)
  · go_simp
  cases h3 : (rp == sp)
  · go_simp
  cases h4 : (rk == sk)
  · go_simp
  cases h5 : (rt == st)
  · go_simp
  go_simp
theorem mem_next {r : Rl} {rs : List Rl} {k : Nat} (hk : k < rs.length) : decide (r ∈ rs.take (k + 1)) = (decide (r ∈ rs.take k) || decide (rs.getD k default = r)) := by
  rw [List.take_add_one, getD_at hk, Bool.eq_iff_iff]
  simp only [List.mem_append, Option.toList_some, List.mem_singleton, decide_eq_true_eq, Bool.or_eq_true]
  exact ⟨fun h => h.elim .inl fun e => .inr e.symm, fun h => h.elim .inl fun e => .inr e.symm⟩
set_option maxRecDepth 100000 in
set_option maxHeartbeats 4000000 in
theorem walk_same (C : TCode) (a : Option Addr) (c : Nat) (l : List Vr) (t ra rn ri rp rk rt m : Int) (hwr : ∀ z ∈ fR ⟨ra, rn, ri, rp, rk, rt⟩, (Lit.int .i64 z).wf = true) (w : World) (V : Vers 0 w a c l) (h : Fw l) (L : List Vr) (rs : List Rl) (hmay : mayR ⟨ra, rn, ri, rp, rk, rt⟩ = true) (hq : putT l t ⟨ra, rn, ri, rp, rk, rt⟩ m = (L, 0)) (hof : ofT L t = some rs) (hmem : ⟨ra, rn, ri, rp, rk, rt⟩ ∈ rs) (hsz : sizeT L = sizeT l) :
    Calls Try.prog 6 #[.slice a l.length c, .int .i64 t, .agg #[.int .i64 ra, .int .i64 rn, .int .i64 ri, .int .i64 rp, .int .i64 rk, .int .i64 rt], .int .i64 m] w fun e w' => e = .returned (.bool true) ∧ Below w.heap.size w w' := by
  have HD : Hid (Sm (dropT l t)) := sm_bd (drop_bd (n := 20) (k := 60) h) (by decide) (by decide)
  have HBL : Bd 21 61 L := by
    have h1 := put_bd (n := 20) (k := 60) (t := t) (m := m) (r := ⟨ra, rn, ri, rp, rk, rt⟩) h
    rw [hq] at h1
    exact h1
  have HP : Hid (Sm L) := sm_bd HBL (by decide) (by decide)
  have hrs : rs.length ≤ 70 := Nat.le_trans (of_bd HBL hof) (by decide)
  have HOF : Hid (ofT L t = some rs) := hof
  have HQ : Hid (putT l t ⟨ra, rn, ri, rp, rk, rt⟩ m = (L, 0)) := hq
  have HMEM : Hid (⟨ra, rn, ri, rp, rk, rt⟩ ∈ rs) := hmem
  have HMAY : Hid (mayR ⟨ra, rn, ri, rp, rk, rt⟩ = true) := hmay
  clear hq hof hmem HBL hmay
  have hn := below_new w (.cells #[.int .i64 ra, .int .i64 rn, .int .i64 ri, .int .i64 rp, .int .i64 rk, .int .i64 rt] 28)
  have X := Lies.new w [ra, rn, ri, rp, rk, rt] 28 rfl
  go_enter Try.func6, Try.ntmps6
  go_wp2_with fail
  refine (tawake_any C _).mono ?_
  rintro e w1 ⟨rfl, hb1⟩
  have hbA := below_step hn hb1
  have cF := few_any w1 (V.later hbA)
  rw [decide_eq_true h] at cF
  have HS : Hid (Sm l) := fw_sm h
  have HF : Hid (Fw l) := h
  clear h
  go_wp2_with fail
  refine cF.mono ?_
  clear cF
  rintro e w2 ⟨rfl, hb2⟩
  have hbB := below_step hbA hb2
  have V2 := V.later hbB
  replace X := (X.later hb1).later hb2
  clear hb1 hbA hb2
  have hl20 : l.length ≤ 20 := HF.out.1
  go_wp2_with fail
  go_loopw [11] (fun v wr => ∃ i : Nat, v = .int .i64 (i : Nat) ∧ Hid (i ≤ l.length ∧ ∀ n, n < i → ∀ k, k < n → ¬ (l.getD n default).t = (l.getD k default).t) ∧ Below w2.heap.size w2 wr) (fun v _ => l.length - (intOf v).toNat)
  case atStart => exact ⟨0, rfl, ⟨Nat.zero_le _, fun n hn => absurd hn (Nat.not_lt_zero _)⟩, Below.refl _ _⟩
  case round =>
    obtain ⟨i, rfl, HA, hbr⟩ := hrel
    by_cases hlt : i < l.length
    · have hiz : (i : Int) < (l.length : Int) := Int.ofNat_lt.2 hlt
      have gi := getD_atV hlt
      have HIL : Hid (i < l.length) := hlt
      have hi20 : i ≤ 20 := Nat.le_trans (Nat.le_of_lt hlt) hl20
      have HLK : Hid (∀ k, k < l.length → l[k]? = some (l.getD k default)) := fun k hk => getD_atV hk
      have HNX : Hid ((∀ k, k < i → ¬ (l.getD i default).t = (l.getD k default).t) → ∀ n, n < i + 1 → ∀ k, k < n → ¬ (l.getD n default).t = (l.getD k default).t) := by
        intro h n hn k hk
        rcases Nat.lt_or_ge n i with h1 | h1
        · exact HA.out.2 n h1 k hk
        · obtain rfl : n = i := by omega
          exact h k hk
      clear HA
      generalize l.getD i default = r at gi HNX
      clear hlt
      go_wp2_with fail
      go_loopw [12] (fun v wr => ∃ k : Nat, v = .int .i64 (k : Nat) ∧ Hid (k ≤ i ∧ ∀ n, n < k → ¬ r.t = (l.getD n default).t) ∧ Below w2.heap.size w2 wr) (fun v _ => l.length - (intOf v).toNat)
      case atStart => exact ⟨0, rfl, ⟨Nat.zero_le _, fun n hn => absurd hn (Nat.not_lt_zero _)⟩, hbr⟩
      case round =>
        obtain ⟨k, rfl, HK, hbk⟩ := hrel
        by_cases hlt : k < i
        · have hkz : (k : Int) < (i : Int) := Int.ofNat_lt.2 hlt
          have hkl : k < l.length := Nat.lt_trans hlt HIL.out
          have hkz2 : (k : Int) < (l.length : Int) := Int.ofNat_lt.2 hkl
          have gk := HLK.out k hkl
          have hk20 : k ≤ 20 := Nat.le_trans (Nat.le_of_lt hlt) hi20
          have HKI : Hid (k < i) := hlt
          have NK : Hid (¬ r.t = (l.getD k default).t → ∀ n, n < k + 1 → ¬ r.t = (l.getD n default).t) := by
            intro h n hn
            rcases Nat.lt_or_ge n k with h1 | h1
            · exact HK.out.2 n h1
            · obtain rfl : n = k := by omega
              exact h
          clear hlt hkl HK
          generalize l.getD k default = s at gk NK
          obtain ⟨b1, o1, x1, kk1, rfl, hbb1, c0, -, -, -⟩ := (V2.later hbk).at gi
          obtain ⟨b2, o2, x2, kk2, ee, -, d0, -, -, -⟩ := (V2.later hbk).at gk
          cases ee
          by_cases he : r.t = s.t
          · have heb : (r.t == s.t) = true := by simpa using he
            clear NK he
            go_wp2_with fail
            first | (go_quiet (fail); go_wp2_with fail) | skip
            go_ret
            exact ⟨rfl, below_step hbB (by first | exact hbk | exact hbk.trans (below_draws _ _ _))⟩
          · have N2 := show Hid _ from NK.out he
            have heb : (r.t == s.t) = false := by simpa using he
            clear NK he
            go_wp2_with fail
            first | (go_quiet (fail); go_wp2_with fail) | skip
            go_roundw
            case rel => exact ⟨k + 1, by go_num, ⟨HKI.out, N2.out⟩, by first | exact hbk | exact hbk.trans (below_draws _ _ _)⟩
            case measure => have h := HKI.out; have h2 := HIL.out; simp [intOf]; omega
        · have hke : k = i := by have h := HK.out.1; omega
          have hkz : ¬ (k : Int) < (i : Int) := by omega
          have N2 := show Hid _ from HNX.out (fun n hn => HK.out.2 n (by rw [hke]; exact hn))
          clear HNX HK hlt hke
          go_wp2_with fail
          go_roundw
          case rel => exact ⟨i + 1, by go_num, ⟨HIL.out, N2.out⟩, hbk⟩
          case measure => have h2 := HIL.out; simp [intOf]; omega
    · have hiz : ¬ (i : Int) < (l.length : Int) := by omega
      have HO : Hid (Once l) := fun n hn k hk => HA.out.2 n (by have h := HA.out.1; omega) k hk
      replace V2 := V2.later hbr
      replace X := X.later hbr
      replace hbB := below_step hbB hbr
      clear hbr HA hlt
      generalize wr = w3 at V2 X hbB ⊢
      obtain ⟨x0, x1, x2, x3, x4, x5⟩ := X.six
      go_wp2_with fail
      clear x0 x1 x2 x3 x4 x5
      have cc := C.put w3 V2 HS.out t m ra rn ri rp rk rt hwr
      rw [HQ.out] at cc
      dsimp only at cc
      refine cc.mono ?_
      clear cc
      rintro e w4 ⟨y1, k1, rfl, P1, hb⟩
      replace V2 := V2.later hb
      replace X := X.later hb
      replace hbB := below_step hbB hb
      clear hb
      obtain ⟨x0, x1, x2, x3, x4, x5⟩ := X.six
      go_wp2_with fail
      clear x0 x1 x2 x3 x4 x5
      have cc := C.drop w4 V2 HS.out t
      refine cc.mono ?_
      clear cc
      rintro e w5 ⟨y3, k3, rfl, D1, hb⟩
      replace V2 := V2.later hb
      replace P1 := P1.later hb
      replace X := X.later hb
      replace hbB := below_step hbB hb
      clear hb
      obtain ⟨x0, x1, x2, x3, x4, x5⟩ := X.six
      go_wp2_with fail
      clear x0 x1 x2 x3 x4 x5
      have cc := C.of w5 D1 HD.out t
      rw [of_none (drop_gone HO.out)] at cc
      dsimp only [Option.getD_none, Option.isSome_none] at cc
      refine cc.mono ?_
      clear cc
      rintro e w6 ⟨y4, k4, rfl, -, hb⟩
      replace V2 := V2.later hb
      replace P1 := P1.later hb
      replace D1 := D1.later hb
      replace X := X.later hb
      replace hbB := below_step hbB hb
      clear hb
      obtain ⟨x0, x1, x2, x3, x4, x5⟩ := X.six
      go_wp2_with fail
      clear x0 x1 x2 x3 x4 x5
      have cc := C.size w6 P1 HP.out
      refine cc.mono ?_
      clear cc
      rintro e w7 ⟨rfl, hb⟩
      replace V2 := V2.later hb
      replace P1 := P1.later hb
      replace D1 := D1.later hb
      replace X := X.later hb
      replace hbB := below_step hbB hb
      clear hb
      obtain ⟨x0, x1, x2, x3, x4, x5⟩ := X.six
      go_wp2_with fail
      clear x0 x1 x2 x3 x4 x5
      have cc := C.size w7 V2 HS.out
      refine cc.mono ?_
      clear cc
      rintro e w8 ⟨rfl, hb⟩
      replace V2 := V2.later hb
      replace P1 := P1.later hb
      replace D1 := D1.later hb
      replace X := X.later hb
      replace hbB := below_step hbB hb
      clear hb
      obtain ⟨x0, x1, x2, x3, x4, x5⟩ := X.six
      go_wp2_with fail
      clear x0 x1 x2 x3 x4 x5
      have cc := C.of w8 P1 HP.out t
      rw [HOF.out] at cc
      dsimp only [Option.getD_some, Option.isSome_some] at cc
      refine cc.mono ?_
      clear cc
      rintro e w9 ⟨y5, k5, rfl, O1, hb⟩
      replace V2 := V2.later hb
      replace P1 := P1.later hb
      replace D1 := D1.later hb
      replace X := X.later hb
      replace hbB := below_step hbB hb
      clear hb
      generalize w9 = wl at V2 X P1 O1 hbB ⊢
      obtain ⟨x0, x1, x2, x3, x4, x5⟩ := X.six
      go_wp2_with fail
      clear x0 x1 x2 x3 x4 x5
      go_loopw [22, 21] (fun v vb wr => ∃ (k : Nat) (b : Bool), v = .int .i64 (k : Nat) ∧ vb = .bool b ∧ Hid (k ≤ rs.length ∧ b = decide (⟨ra, rn, ri, rp, rk, rt⟩ ∈ rs.take k)) ∧ Below wl.heap.size wl wr) (fun v _ _ => rs.length - (intOf v).toNat)
      case atStart => exact ⟨0, false, rfl, rfl, ⟨Nat.zero_le _, rfl⟩, Below.refl _ _⟩
      case round =>
        obtain ⟨k, b, rfl, rfl, HK, hbr⟩ := hrel
        by_cases hlt : k < rs.length
        · have hkz : (k : Int) < (rs.length : Int) := Int.ofNat_lt.2 hlt
          have gk := getD_at hlt
          have HLT : Hid (k < rs.length) := hlt
          have hk70 : k ≤ 70 := Nat.le_trans (Nat.le_of_lt hlt) hrs
          have NK : Hid ((b || decide (rs.getD k default = ⟨ra, rn, ri, rp, rk, rt⟩)) = decide (⟨ra, rn, ri, rp, rk, rt⟩ ∈ rs.take (k + 1))) := by
            show _ = _
            rw [mem_next hlt, HK.out.2]
          clear HK hlt
          generalize rs.getD k default = s at gk NK
          generalize he : decide (s = ⟨ra, rn, ri, rp, rk, rt⟩) = eb at NK
          obtain ⟨sa, sn, si, sp, sk, st⟩ := s
          obtain ⟨b1, o1, rfl, hl1, hc1⟩ := (O1.later hbr).at gk
          have X3 := X.later hbr
          obtain ⟨x0, x1, x2, x3, x4, x5⟩ := X3.six
          have z0 := hc1 0 _ rfl
          have z1 := hc1 1 _ rfl
          have z2 := hc1 2 _ rfl
          have z3 := hc1 3 _ rfl
          have z4 := hc1 4 _ rfl
          have z5 := hc1 5 _ rfl
          rw [Nat.add_zero] at z0
          have q1 := fun w => eq_rl9 sa sn si sp sk st ra rn ri rp rk rt w
          simp only [rule_eqb] at q1
          rw [he] at q1
          clear he hc1 gk
          cases b with
          | true =>
            have N2 : Hid (true = decide (⟨ra, rn, ri, rp, rk, rt⟩ ∈ rs.take (k + 1))) := by show _ = _; rw [← NK.out]; rfl
            clear NK q1
            go_wp2_with fail
            go_quiet (fail)
            go_wp2_with fail
            go_roundw
            case rel => exact ⟨k + 1, true, by go_num, rfl, ⟨HLT.out, N2.out⟩, hbr.trans (below_draws _ _ _)⟩
            case measure => have h := HLT.out; simp [intOf]; omega
          | false =>
            have N2 : Hid (eb = decide (⟨ra, rn, ri, rp, rk, rt⟩ ∈ rs.take (k + 1))) := by show _ = _; rw [← NK.out]; rfl
            clear NK
            go_wp2_with fail
            go_quiet (fail)
            go_wp2_with fail
            go_roundw
            case rel => exact ⟨k + 1, eb, by go_num, rfl, ⟨HLT.out, N2.out⟩, hbr.trans (below_draws _ _ _)⟩
            case measure => have h := HLT.out; simp [intOf]; omega
        · have hke : k = rs.length := by have h := HK.out.1; omega
          have hkz : ¬ (k : Int) < (rs.length : Int) := by omega
          obtain rfl : b = true := by rw [HK.out.2, hke, List.take_length]; exact decide_eq_true HMEM.out
          replace X := X.later hbr
          replace P1 := P1.later hbr
          replace hbB := below_step hbB hbr
          clear HK hke hlt V2 O1 hbr
          obtain ⟨x0, x1, x2, x3, x4, x5⟩ := X.six
          have cc := ruMay_any ra rn ri rp rk rt wr
          rw [show okR ra rn ri rp rk rt = true from HMAY.out] at cc
          go_wp2_with fail
          clear x0 x1 x2 x3 x4 x5
          refine cc.mono ?_
          clear cc
          rintro e wm ⟨rfl, hb⟩
          replace hbB := below_step hbB hb
          replace P1 := P1.later hb
          clear hb
          go_wp2_with fail
          go_ret
          exact ⟨rfl, hbB⟩
set_option maxRecDepth 100000 in
set_option maxHeartbeats 4000000 in
theorem walk_more (C : TCode) (a : Option Addr) (c : Nat) (l : List Vr) (t ra rn ri rp rk rt m : Int) (hwr : ∀ z ∈ fR ⟨ra, rn, ri, rp, rk, rt⟩, (Lit.int .i64 z).wf = true) (w : World) (V : Vers 0 w a c l) (h : Fw l) (L : List Vr) (rs : List Rl) (hmay : mayR ⟨ra, rn, ri, rp, rk, rt⟩ = true) (hq : putT l t ⟨ra, rn, ri, rp, rk, rt⟩ m = (L, 0)) (hof : ofT L t = some rs) (hmem : ⟨ra, rn, ri, rp, rk, rt⟩ ∈ rs) (hsz : sizeT L = sizeT l + 1) (hm : ((sizeT l : Nat) : Int) < m) :
    Calls Try.prog 6 #[.slice a l.length c, .int .i64 t, .agg #[.int .i64 ra, .int .i64 rn, .int .i64 ri, .int .i64 rp, .int .i64 rk, .int .i64 rt], .int .i64 m] w fun e w' => e = .returned (.bool true) ∧ Below w.heap.size w w' := by
  have HD : Hid (Sm (dropT l t)) := sm_bd (drop_bd (n := 20) (k := 60) h) (by decide) (by decide)
  have HBL : Bd 21 61 L := by
    have h1 := put_bd (n := 20) (k := 60) (t := t) (m := m) (r := ⟨ra, rn, ri, rp, rk, rt⟩) h
    rw [hq] at h1
    exact h1
  have HP : Hid (Sm L) := sm_bd HBL (by decide) (by decide)
  have hrs : rs.length ≤ 70 := Nat.le_trans (of_bd HBL hof) (by decide)
  have HOF : Hid (ofT L t = some rs) := hof
  have HQ : Hid (putT l t ⟨ra, rn, ri, rp, rk, rt⟩ m = (L, 0)) := hq
  have HMEM : Hid (⟨ra, rn, ri, rp, rk, rt⟩ ∈ rs) := hmem
  have HMAY : Hid (mayR ⟨ra, rn, ri, rp, rk, rt⟩ = true) := hmay
  clear hq hof hmem HBL hmay
  have hle := size_sm (fw_sm h)
  have hsub : wrap64 (((sizeT L : Nat) : Int) - ((sizeT l : Nat) : Int)) = 1 := by rw [hsz]; unfold wrap64; omega
  have hsub2 : IntKind.i64.wrap (((sizeT L : Nat) : Int) - ((sizeT l : Nat) : Int)) = 1 := by rw [hsz]; rw [show (((sizeT l + 1 : Nat) : Int) - ((sizeT l : Nat) : Int)) = 1 by omega]; decide
  have hmb : decide (((sizeT L : Nat) : Int) ≤ m) = true := decide_eq_true (by rw [hsz]; omega)
  clear hsz hm hle
  have hn := below_new w (.cells #[.int .i64 ra, .int .i64 rn, .int .i64 ri, .int .i64 rp, .int .i64 rk, .int .i64 rt] 28)
  have X := Lies.new w [ra, rn, ri, rp, rk, rt] 28 rfl
  go_enter Try.func6, Try.ntmps6
  go_wp2_with fail
  refine (tawake_any C _).mono ?_
  rintro e w1 ⟨rfl, hb1⟩
  have hbA := below_step hn hb1
  have cF := few_any w1 (V.later hbA)
  rw [decide_eq_true h] at cF
  have HS : Hid (Sm l) := fw_sm h
  have HF : Hid (Fw l) := h
  clear h
  go_wp2_with fail
  refine cF.mono ?_
  clear cF
  rintro e w2 ⟨rfl, hb2⟩
  have hbB := below_step hbA hb2
  have V2 := V.later hbB
  replace X := (X.later hb1).later hb2
  clear hb1 hbA hb2
  have hl20 : l.length ≤ 20 := HF.out.1
  go_wp2_with fail
  go_loopw [11] (fun v wr => ∃ i : Nat, v = .int .i64 (i : Nat) ∧ Hid (i ≤ l.length ∧ ∀ n, n < i → ∀ k, k < n → ¬ (l.getD n default).t = (l.getD k default).t) ∧ Below w2.heap.size w2 wr) (fun v _ => l.length - (intOf v).toNat)
  case atStart => exact ⟨0, rfl, ⟨Nat.zero_le _, fun n hn => absurd hn (Nat.not_lt_zero _)⟩, Below.refl _ _⟩
  case round =>
    obtain ⟨i, rfl, HA, hbr⟩ := hrel
    by_cases hlt : i < l.length
    · have hiz : (i : Int) < (l.length : Int) := Int.ofNat_lt.2 hlt
      have gi := getD_atV hlt
      have HIL : Hid (i < l.length) := hlt
      have hi20 : i ≤ 20 := Nat.le_trans (Nat.le_of_lt hlt) hl20
      have HLK : Hid (∀ k, k < l.length → l[k]? = some (l.getD k default)) := fun k hk => getD_atV hk
      have HNX : Hid ((∀ k, k < i → ¬ (l.getD i default).t = (l.getD k default).t) → ∀ n, n < i + 1 → ∀ k, k < n → ¬ (l.getD n default).t = (l.getD k default).t) := by
        intro h n hn k hk
        rcases Nat.lt_or_ge n i with h1 | h1
        · exact HA.out.2 n h1 k hk
        · obtain rfl : n = i := by omega
          exact h k hk
      clear HA
      generalize l.getD i default = r at gi HNX
      clear hlt
      go_wp2_with fail
      go_loopw [12] (fun v wr => ∃ k : Nat, v = .int .i64 (k : Nat) ∧ Hid (k ≤ i ∧ ∀ n, n < k → ¬ r.t = (l.getD n default).t) ∧ Below w2.heap.size w2 wr) (fun v _ => l.length - (intOf v).toNat)
      case atStart => exact ⟨0, rfl, ⟨Nat.zero_le _, fun n hn => absurd hn (Nat.not_lt_zero _)⟩, hbr⟩
      case round =>
        obtain ⟨k, rfl, HK, hbk⟩ := hrel
        by_cases hlt : k < i
        · have hkz : (k : Int) < (i : Int) := Int.ofNat_lt.2 hlt
          have hkl : k < l.length := Nat.lt_trans hlt HIL.out
          have hkz2 : (k : Int) < (l.length : Int) := Int.ofNat_lt.2 hkl
          have gk := HLK.out k hkl
          have hk20 : k ≤ 20 := Nat.le_trans (Nat.le_of_lt hlt) hi20
          have HKI : Hid (k < i) := hlt
          have NK : Hid (¬ r.t = (l.getD k default).t → ∀ n, n < k + 1 → ¬ r.t = (l.getD n default).t) := by
            intro h n hn
            rcases Nat.lt_or_ge n k with h1 | h1
            · exact HK.out.2 n h1
            · obtain rfl : n = k := by omega
              exact h
          clear hlt hkl HK
          generalize l.getD k default = s at gk NK
          obtain ⟨b1, o1, x1, kk1, rfl, hbb1, c0, -, -, -⟩ := (V2.later hbk).at gi
          obtain ⟨b2, o2, x2, kk2, ee, -, d0, -, -, -⟩ := (V2.later hbk).at gk
          cases ee
          by_cases he : r.t = s.t
          · have heb : (r.t == s.t) = true := by simpa using he
            clear NK he
            go_wp2_with fail
            first | (go_quiet (fail); go_wp2_with fail) | skip
            go_ret
            exact ⟨rfl, below_step hbB (by first | exact hbk | exact hbk.trans (below_draws _ _ _))⟩
          · have N2 := show Hid _ from NK.out he
            have heb : (r.t == s.t) = false := by simpa using he
            clear NK he
            go_wp2_with fail
            first | (go_quiet (fail); go_wp2_with fail) | skip
            go_roundw
            case rel => exact ⟨k + 1, by go_num, ⟨HKI.out, N2.out⟩, by first | exact hbk | exact hbk.trans (below_draws _ _ _)⟩
            case measure => have h := HKI.out; have h2 := HIL.out; simp [intOf]; omega
        · have hke : k = i := by have h := HK.out.1; omega
          have hkz : ¬ (k : Int) < (i : Int) := by omega
          have N2 := show Hid _ from HNX.out (fun n hn => HK.out.2 n (by rw [hke]; exact hn))
          clear HNX HK hlt hke
          go_wp2_with fail
          go_roundw
          case rel => exact ⟨i + 1, by go_num, ⟨HIL.out, N2.out⟩, hbk⟩
          case measure => have h2 := HIL.out; simp [intOf]; omega
    · have hiz : ¬ (i : Int) < (l.length : Int) := by omega
      have HO : Hid (Once l) := fun n hn k hk => HA.out.2 n (by have h := HA.out.1; omega) k hk
      replace V2 := V2.later hbr
      replace X := X.later hbr
      replace hbB := below_step hbB hbr
      clear hbr HA hlt
      generalize wr = w3 at V2 X hbB ⊢
      obtain ⟨x0, x1, x2, x3, x4, x5⟩ := X.six
      go_wp2_with fail
      clear x0 x1 x2 x3 x4 x5
      have cc := C.put w3 V2 HS.out t m ra rn ri rp rk rt hwr
      rw [HQ.out] at cc
      dsimp only at cc
      refine cc.mono ?_
      clear cc
      rintro e w4 ⟨y1, k1, rfl, P1, hb⟩
      replace V2 := V2.later hb
      replace X := X.later hb
      replace hbB := below_step hbB hb
      clear hb
      obtain ⟨x0, x1, x2, x3, x4, x5⟩ := X.six
      go_wp2_with fail
      clear x0 x1 x2 x3 x4 x5
      have cc := C.drop w4 V2 HS.out t
      refine cc.mono ?_
      clear cc
      rintro e w5 ⟨y3, k3, rfl, D1, hb⟩
      replace V2 := V2.later hb
      replace P1 := P1.later hb
      replace X := X.later hb
      replace hbB := below_step hbB hb
      clear hb
      obtain ⟨x0, x1, x2, x3, x4, x5⟩ := X.six
      go_wp2_with fail
      clear x0 x1 x2 x3 x4 x5
      have cc := C.of w5 D1 HD.out t
      rw [of_none (drop_gone HO.out)] at cc
      dsimp only [Option.getD_none, Option.isSome_none] at cc
      refine cc.mono ?_
      clear cc
      rintro e w6 ⟨y4, k4, rfl, -, hb⟩
      replace V2 := V2.later hb
      replace P1 := P1.later hb
      replace D1 := D1.later hb
      replace X := X.later hb
      replace hbB := below_step hbB hb
      clear hb
      obtain ⟨x0, x1, x2, x3, x4, x5⟩ := X.six
      go_wp2_with fail
      clear x0 x1 x2 x3 x4 x5
      have cc := C.size w6 P1 HP.out
      refine cc.mono ?_
      clear cc
      rintro e w7 ⟨rfl, hb⟩
      replace V2 := V2.later hb
      replace P1 := P1.later hb
      replace D1 := D1.later hb
      replace X := X.later hb
      replace hbB := below_step hbB hb
      clear hb
      obtain ⟨x0, x1, x2, x3, x4, x5⟩ := X.six
      go_wp2_with fail
      clear x0 x1 x2 x3 x4 x5
      have cc := C.size w7 V2 HS.out
      refine cc.mono ?_
      clear cc
      rintro e w8 ⟨rfl, hb⟩
      replace V2 := V2.later hb
      replace P1 := P1.later hb
      replace D1 := D1.later hb
      replace X := X.later hb
      replace hbB := below_step hbB hb
      clear hb
      obtain ⟨x0, x1, x2, x3, x4, x5⟩ := X.six
      go_wp2_with fail
      clear x0 x1 x2 x3 x4 x5
      have cc := C.of w8 P1 HP.out t
      rw [HOF.out] at cc
      dsimp only [Option.getD_some, Option.isSome_some] at cc
      refine cc.mono ?_
      clear cc
      rintro e w9 ⟨y5, k5, rfl, O1, hb⟩
      replace V2 := V2.later hb
      replace P1 := P1.later hb
      replace D1 := D1.later hb
      replace X := X.later hb
      replace hbB := below_step hbB hb
      clear hb
      generalize w9 = wl at V2 X P1 O1 hbB ⊢
      obtain ⟨x0, x1, x2, x3, x4, x5⟩ := X.six
      go_wp2_with fail
      clear x0 x1 x2 x3 x4 x5
      go_loopw [22, 21] (fun v vb wr => ∃ (k : Nat) (b : Bool), v = .int .i64 (k : Nat) ∧ vb = .bool b ∧ Hid (k ≤ rs.length ∧ b = decide (⟨ra, rn, ri, rp, rk, rt⟩ ∈ rs.take k)) ∧ Below wl.heap.size wl wr) (fun v _ _ => rs.length - (intOf v).toNat)
      case atStart => exact ⟨0, false, rfl, rfl, ⟨Nat.zero_le _, rfl⟩, Below.refl _ _⟩
      case round =>
        obtain ⟨k, b, rfl, rfl, HK, hbr⟩ := hrel
        by_cases hlt : k < rs.length
        · have hkz : (k : Int) < (rs.length : Int) := Int.ofNat_lt.2 hlt
          have gk := getD_at hlt
          have HLT : Hid (k < rs.length) := hlt
          have hk70 : k ≤ 70 := Nat.le_trans (Nat.le_of_lt hlt) hrs
          have NK : Hid ((b || decide (rs.getD k default = ⟨ra, rn, ri, rp, rk, rt⟩)) = decide (⟨ra, rn, ri, rp, rk, rt⟩ ∈ rs.take (k + 1))) := by
            show _ = _
            rw [mem_next hlt, HK.out.2]
          clear HK hlt
          generalize rs.getD k default = s at gk NK
          generalize he : decide (s = ⟨ra, rn, ri, rp, rk, rt⟩) = eb at NK
          obtain ⟨sa, sn, si, sp, sk, st⟩ := s
          obtain ⟨b1, o1, rfl, hl1, hc1⟩ := (O1.later hbr).at gk
          have X3 := X.later hbr
          obtain ⟨x0, x1, x2, x3, x4, x5⟩ := X3.six
          have z0 := hc1 0 _ rfl
          have z1 := hc1 1 _ rfl
          have z2 := hc1 2 _ rfl
          have z3 := hc1 3 _ rfl
          have z4 := hc1 4 _ rfl
          have z5 := hc1 5 _ rfl
          rw [Nat.add_zero] at z0
          have q1 := fun w => eq_rl9 sa sn si sp sk st ra rn ri rp rk rt w
          simp only [rule_eqb] at q1
          rw [he] at q1
          clear he hc1 gk
          cases b with
          | true =>
            have N2 : Hid (true = decide (⟨ra, rn, ri, rp, rk, rt⟩ ∈ rs.take (k + 1))) := by show _ = _; rw [← NK.out]; rfl
            clear NK q1
            go_wp2_with fail
            go_quiet (fail)
            go_wp2_with fail
            go_roundw
            case rel => exact ⟨k + 1, true, by go_num, rfl, ⟨HLT.out, N2.out⟩, hbr.trans (below_draws _ _ _)⟩
            case measure => have h := HLT.out; simp [intOf]; omega
          | false =>
            have N2 : Hid (eb = decide (⟨ra, rn, ri, rp, rk, rt⟩ ∈ rs.take (k + 1))) := by show _ = _; rw [← NK.out]; rfl
            clear NK
            go_wp2_with fail
            go_quiet (fail)
            go_wp2_with fail
            go_roundw
            case rel => exact ⟨k + 1, eb, by go_num, rfl, ⟨HLT.out, N2.out⟩, hbr.trans (below_draws _ _ _)⟩
            case measure => have h := HLT.out; simp [intOf]; omega
        · have hke : k = rs.length := by have h := HK.out.1; omega
          have hkz : ¬ (k : Int) < (rs.length : Int) := by omega
          obtain rfl : b = true := by rw [HK.out.2, hke, List.take_length]; exact decide_eq_true HMEM.out
          replace X := X.later hbr
          replace P1 := P1.later hbr
          replace hbB := below_step hbB hbr
          clear HK hke hlt V2 O1 hbr
          obtain ⟨x0, x1, x2, x3, x4, x5⟩ := X.six
          have cc := ruMay_any ra rn ri rp rk rt wr
          rw [show okR ra rn ri rp rk rt = true from HMAY.out] at cc
          go_wp2_with fail
          clear x0 x1 x2 x3 x4 x5
          refine cc.mono ?_
          clear cc
          rintro e wm ⟨rfl, hb⟩
          replace hbB := below_step hbB hb
          replace P1 := P1.later hb
          clear hb
          have cc := C.size wm P1 HP.out
          go_wp2_with fail
          refine cc.mono ?_
          clear cc
          rintro e wz ⟨rfl, hb⟩
          replace hbB := below_step hbB hb
          go_wp2_with fail
          go_ret
          exact ⟨rfl, hbB⟩
set_option maxRecDepth 100000 in
theorem walk_no (C : TCode) (a : Option Addr) (c : Nat) (l : List Vr) (t ra rn ri rp rk rt m : Int) (w : World) (V : Vers 0 w a c l) (h : ¬ Fw l) :
    Calls Try.prog 6 #[.slice a l.length c, .int .i64 t, .agg #[.int .i64 ra, .int .i64 rn, .int .i64 ri, .int .i64 rp, .int .i64 rk, .int .i64 rt], .int .i64 m] w fun e w' => e = .returned (.bool true) ∧ Below w.heap.size w w' := by
  have hn := below_new w (.cells #[.int .i64 ra, .int .i64 rn, .int .i64 ri, .int .i64 rp, .int .i64 rk, .int .i64 rt] 28)
  go_enter Try.func6, Try.ntmps6
  go_wp2_with fail
  refine (tawake_any C _).mono ?_
  rintro e w1 ⟨rfl, hb1⟩
  have hbA := below_step hn hb1
  have cF := few_any w1 (V.later hbA)
  rw [decide_eq_false h] at cF
  go_wp2_with fail
  refine cF.mono ?_
  clear cF
  rintro e w2 ⟨rfl, hb2⟩
  have hbB := below_step hbA hb2
  go_wp2_with fail
  go_ret
  exact ⟨rfl, hbB⟩
set_option maxRecDepth 100000 in
set_option maxHeartbeats 4000000 in
theorem walk_arg (C : TCode) (a : Option Addr) (c : Nat) (l : List Vr) (t ra rn ri rp rk rt m : Int) (hwr : ∀ z ∈ fR ⟨ra, rn, ri, rp, rk, rt⟩, (Lit.int .i64 z).wf = true) (w : World) (V : Vers 0 w a c l) (h : Fw l) (hq : putT l t ⟨ra, rn, ri, rp, rk, rt⟩ m = (l, 1)) :
    Calls Try.prog 6 #[.slice a l.length c, .int .i64 t, .agg #[.int .i64 ra, .int .i64 rn, .int .i64 ri, .int .i64 rp, .int .i64 rk, .int .i64 rt], .int .i64 m] w fun e w' => e = .returned (.bool true) ∧ Below w.heap.size w w' := by
  have HD : Hid (Sm (dropT l t)) := sm_bd (drop_bd (n := 20) (k := 60) h) (by decide) (by decide)
  have HP : Hid (Sm l) := fw_sm h
  have hsub : wrap64 (((sizeT l : Nat) : Int) - ((sizeT l : Nat) : Int)) = 0 := by unfold wrap64; omega
  have hsub2 : IntKind.i64.wrap (((sizeT l : Nat) : Int) - ((sizeT l : Nat) : Int)) = 0 := by rw [Int.sub_self]; decide
  have HQ : Hid (putT l t ⟨ra, rn, ri, rp, rk, rt⟩ m = (l, 1)) := hq
  clear hq
  have hn := below_new w (.cells #[.int .i64 ra, .int .i64 rn, .int .i64 ri, .int .i64 rp, .int .i64 rk, .int .i64 rt] 28)
  have X := Lies.new w [ra, rn, ri, rp, rk, rt] 28 rfl
  go_enter Try.func6, Try.ntmps6
  go_wp2_with fail
  refine (tawake_any C _).mono ?_
  rintro e w1 ⟨rfl, hb1⟩
  have hbA := below_step hn hb1
  have cF := few_any w1 (V.later hbA)
  rw [decide_eq_true h] at cF
  have HS : Hid (Sm l) := fw_sm h
  have HF : Hid (Fw l) := h
  clear h
  go_wp2_with fail
  refine cF.mono ?_
  clear cF
  rintro e w2 ⟨rfl, hb2⟩
  have hbB := below_step hbA hb2
  have V2 := V.later hbB
  replace X := (X.later hb1).later hb2
  clear hb1 hbA hb2
  have hl20 : l.length ≤ 20 := HF.out.1
  go_wp2_with fail
  go_loopw [11] (fun v wr => ∃ i : Nat, v = .int .i64 (i : Nat) ∧ Hid (i ≤ l.length ∧ ∀ n, n < i → ∀ k, k < n → ¬ (l.getD n default).t = (l.getD k default).t) ∧ Below w2.heap.size w2 wr) (fun v _ => l.length - (intOf v).toNat)
  case atStart => exact ⟨0, rfl, ⟨Nat.zero_le _, fun n hn => absurd hn (Nat.not_lt_zero _)⟩, Below.refl _ _⟩
  case round =>
    obtain ⟨i, rfl, HA, hbr⟩ := hrel
    by_cases hlt : i < l.length
    · have hiz : (i : Int) < (l.length : Int) := Int.ofNat_lt.2 hlt
      have gi := getD_atV hlt
      have HIL : Hid (i < l.length) := hlt
      have hi20 : i ≤ 20 := Nat.le_trans (Nat.le_of_lt hlt) hl20
      have HLK : Hid (∀ k, k < l.length → l[k]? = some (l.getD k default)) := fun k hk => getD_atV hk
      have HNX : Hid ((∀ k, k < i → ¬ (l.getD i default).t = (l.getD k default).t) → ∀ n, n < i + 1 → ∀ k, k < n → ¬ (l.getD n default).t = (l.getD k default).t) := by
        intro h n hn k hk
        rcases Nat.lt_or_ge n i with h1 | h1
        · exact HA.out.2 n h1 k hk
        · obtain rfl : n = i := by omega
          exact h k hk
      clear HA
      generalize l.getD i default = r at gi HNX
      clear hlt
      go_wp2_with fail
      go_loopw [12] (fun v wr => ∃ k : Nat, v = .int .i64 (k : Nat) ∧ Hid (k ≤ i ∧ ∀ n, n < k → ¬ r.t = (l.getD n default).t) ∧ Below w2.heap.size w2 wr) (fun v _ => l.length - (intOf v).toNat)
      case atStart => exact ⟨0, rfl, ⟨Nat.zero_le _, fun n hn => absurd hn (Nat.not_lt_zero _)⟩, hbr⟩
      case round =>
        obtain ⟨k, rfl, HK, hbk⟩ := hrel
        by_cases hlt : k < i
        · have hkz : (k : Int) < (i : Int) := Int.ofNat_lt.2 hlt
          have hkl : k < l.length := Nat.lt_trans hlt HIL.out
          have hkz2 : (k : Int) < (l.length : Int) := Int.ofNat_lt.2 hkl
          have gk := HLK.out k hkl
          have hk20 : k ≤ 20 := Nat.le_trans (Nat.le_of_lt hlt) hi20
          have HKI : Hid (k < i) := hlt
          have NK : Hid (¬ r.t = (l.getD k default).t → ∀ n, n < k + 1 → ¬ r.t = (l.getD n default).t) := by
            intro h n hn
            rcases Nat.lt_or_ge n k with h1 | h1
            · exact HK.out.2 n h1
            · obtain rfl : n = k := by omega
              exact h
          clear hlt hkl HK
          generalize l.getD k default = s at gk NK
          obtain ⟨b1, o1, x1, kk1, rfl, hbb1, c0, -, -, -⟩ := (V2.later hbk).at gi
          obtain ⟨b2, o2, x2, kk2, ee, -, d0, -, -, -⟩ := (V2.later hbk).at gk
          cases ee
          by_cases he : r.t = s.t
          · have heb : (r.t == s.t) = true := by simpa using he
            clear NK he
            go_wp2_with fail
            first | (go_quiet (fail); go_wp2_with fail) | skip
            go_ret
            exact ⟨rfl, below_step hbB (by first | exact hbk | exact hbk.trans (below_draws _ _ _))⟩
          · have N2 := show Hid _ from NK.out he
            have heb : (r.t == s.t) = false := by simpa using he
            clear NK he
            go_wp2_with fail
            first | (go_quiet (fail); go_wp2_with fail) | skip
            go_roundw
            case rel => exact ⟨k + 1, by go_num, ⟨HKI.out, N2.out⟩, by first | exact hbk | exact hbk.trans (below_draws _ _ _)⟩
            case measure => have h := HKI.out; have h2 := HIL.out; simp [intOf]; omega
        · have hke : k = i := by have h := HK.out.1; omega
          have hkz : ¬ (k : Int) < (i : Int) := by omega
          have N2 := show Hid _ from HNX.out (fun n hn => HK.out.2 n (by rw [hke]; exact hn))
          clear HNX HK hlt hke
          go_wp2_with fail
          go_roundw
          case rel => exact ⟨i + 1, by go_num, ⟨HIL.out, N2.out⟩, hbk⟩
          case measure => have h2 := HIL.out; simp [intOf]; omega
    · have hiz : ¬ (i : Int) < (l.length : Int) := by omega
      have HO : Hid (Once l) := fun n hn k hk => HA.out.2 n (by have h := HA.out.1; omega) k hk
      replace V2 := V2.later hbr
      replace X := X.later hbr
      replace hbB := below_step hbB hbr
      clear hbr HA hlt
      generalize wr = w3 at V2 X hbB ⊢
      obtain ⟨x0, x1, x2, x3, x4, x5⟩ := X.six
      go_wp2_with fail
      clear x0 x1 x2 x3 x4 x5
      have cc := C.put w3 V2 HS.out t m ra rn ri rp rk rt hwr
      rw [HQ.out] at cc
      dsimp only at cc
      refine cc.mono ?_
      clear cc
      rintro e w4 ⟨y1, k1, rfl, P1, hb⟩
      replace V2 := V2.later hb
      replace X := X.later hb
      replace hbB := below_step hbB hb
      clear hb
      obtain ⟨x0, x1, x2, x3, x4, x5⟩ := X.six
      go_wp2_with fail
      clear x0 x1 x2 x3 x4 x5
      have cc := C.drop w4 V2 HS.out t
      refine cc.mono ?_
      clear cc
      rintro e w5 ⟨y3, k3, rfl, D1, hb⟩
      replace V2 := V2.later hb
      replace P1 := P1.later hb
      replace X := X.later hb
      replace hbB := below_step hbB hb
      clear hb
      obtain ⟨x0, x1, x2, x3, x4, x5⟩ := X.six
      go_wp2_with fail
      clear x0 x1 x2 x3 x4 x5
      have cc := C.of w5 D1 HD.out t
      rw [of_none (drop_gone HO.out)] at cc
      dsimp only [Option.getD_none, Option.isSome_none] at cc
      refine cc.mono ?_
      clear cc
      rintro e w6 ⟨y4, k4, rfl, -, hb⟩
      replace V2 := V2.later hb
      replace P1 := P1.later hb
      replace D1 := D1.later hb
      replace X := X.later hb
      replace hbB := below_step hbB hb
      clear hb
      obtain ⟨x0, x1, x2, x3, x4, x5⟩ := X.six
      go_wp2_with fail
      clear x0 x1 x2 x3 x4 x5
      have cc := C.size w6 P1 HP.out
      refine cc.mono ?_
      clear cc
      rintro e w7 ⟨rfl, hb⟩
      replace V2 := V2.later hb
      replace P1 := P1.later hb
      replace D1 := D1.later hb
      replace X := X.later hb
      replace hbB := below_step hbB hb
      clear hb
      obtain ⟨x0, x1, x2, x3, x4, x5⟩ := X.six
      go_wp2_with fail
      clear x0 x1 x2 x3 x4 x5
      have cc := C.size w7 V2 HS.out
      refine cc.mono ?_
      clear cc
      rintro e w8 ⟨rfl, hb⟩
      replace V2 := V2.later hb
      replace P1 := P1.later hb
      replace D1 := D1.later hb
      replace X := X.later hb
      replace hbB := below_step hbB hb
      clear hb
      obtain ⟨x0, x1, x2, x3, x4, x5⟩ := X.six
      go_wp2_with fail
      clear x0 x1 x2 x3 x4 x5
      have cc := rsame9_any w8 P1 V2
      rw [decide_eq_true (rfl : l = l)] at cc
      refine cc.mono ?_
      clear cc
      rintro e w9 ⟨rfl, hb⟩
      replace V2 := V2.later hb
      replace P1 := P1.later hb
      replace D1 := D1.later hb
      replace X := X.later hb
      replace hbB := below_step hbB hb
      clear hb
      obtain ⟨x0, x1, x2, x3, x4, x5⟩ := X.six
      go_wp2_with fail
      clear x0 x1 x2 x3 x4 x5
      go_ret
      exact ⟨rfl, hbB⟩
set_option maxRecDepth 100000 in
set_option maxHeartbeats 4000000 in
theorem walk_full (C : TCode) (a : Option Addr) (c : Nat) (l : List Vr) (t ra rn ri rp rk rt m : Int) (hwr : ∀ z ∈ fR ⟨ra, rn, ri, rp, rk, rt⟩, (Lit.int .i64 z).wf = true) (w : World) (V : Vers 0 w a c l) (h : Fw l) (hq : putT l t ⟨ra, rn, ri, rp, rk, rt⟩ m = (l, 7)) (hm : m ≤ ((sizeT l : Nat) : Int)) :
    Calls Try.prog 6 #[.slice a l.length c, .int .i64 t, .agg #[.int .i64 ra, .int .i64 rn, .int .i64 ri, .int .i64 rp, .int .i64 rk, .int .i64 rt], .int .i64 m] w fun e w' => e = .returned (.bool true) ∧ Below w.heap.size w w' := by
  have HD : Hid (Sm (dropT l t)) := sm_bd (drop_bd (n := 20) (k := 60) h) (by decide) (by decide)
  have HP : Hid (Sm l) := fw_sm h
  have hsub : wrap64 (((sizeT l : Nat) : Int) - ((sizeT l : Nat) : Int)) = 0 := by unfold wrap64; omega
  have hsub2 : IntKind.i64.wrap (((sizeT l : Nat) : Int) - ((sizeT l : Nat) : Int)) = 0 := by rw [Int.sub_self]; decide
  have HQ : Hid (putT l t ⟨ra, rn, ri, rp, rk, rt⟩ m = (l, 7)) := hq
  clear hq
  have hmb : decide (m ≤ ((sizeT l : Nat) : Int)) = true := decide_eq_true hm
  have hn := below_new w (.cells #[.int .i64 ra, .int .i64 rn, .int .i64 ri, .int .i64 rp, .int .i64 rk, .int .i64 rt] 28)
  have X := Lies.new w [ra, rn, ri, rp, rk, rt] 28 rfl
  go_enter Try.func6, Try.ntmps6
  go_wp2_with fail
  refine (tawake_any C _).mono ?_
  rintro e w1 ⟨rfl, hb1⟩
  have hbA := below_step hn hb1
  have cF := few_any w1 (V.later hbA)
  rw [decide_eq_true h] at cF
  have HS : Hid (Sm l) := fw_sm h
  have HF : Hid (Fw l) := h
  clear h
  go_wp2_with fail
  refine cF.mono ?_
  clear cF
  rintro e w2 ⟨rfl, hb2⟩
  have hbB := below_step hbA hb2
  have V2 := V.later hbB
  replace X := (X.later hb1).later hb2
  clear hb1 hbA hb2
  have hl20 : l.length ≤ 20 := HF.out.1
  go_wp2_with fail
  go_loopw [11] (fun v wr => ∃ i : Nat, v = .int .i64 (i : Nat) ∧ Hid (i ≤ l.length ∧ ∀ n, n < i → ∀ k, k < n → ¬ (l.getD n default).t = (l.getD k default).t) ∧ Below w2.heap.size w2 wr) (fun v _ => l.length - (intOf v).toNat)
  case atStart => exact ⟨0, rfl, ⟨Nat.zero_le _, fun n hn => absurd hn (Nat.not_lt_zero _)⟩, Below.refl _ _⟩
  case round =>
    obtain ⟨i, rfl, HA, hbr⟩ := hrel
    by_cases hlt : i < l.length
    · have hiz : (i : Int) < (l.length : Int) := Int.ofNat_lt.2 hlt
      have gi := getD_atV hlt
      have HIL : Hid (i < l.length) := hlt
      have hi20 : i ≤ 20 := Nat.le_trans (Nat.le_of_lt hlt) hl20
      have HLK : Hid (∀ k, k < l.length → l[k]? = some (l.getD k default)) := fun k hk => getD_atV hk
      have HNX : Hid ((∀ k, k < i → ¬ (l.getD i default).t = (l.getD k default).t) → ∀ n, n < i + 1 → ∀ k, k < n → ¬ (l.getD n default).t = (l.getD k default).t) := by
        intro h n hn k hk
        rcases Nat.lt_or_ge n i with h1 | h1
        · exact HA.out.2 n h1 k hk
        · obtain rfl : n = i := by omega
          exact h k hk
      clear HA
      generalize l.getD i default = r at gi HNX
      clear hlt
      go_wp2_with fail
      go_loopw [12] (fun v wr => ∃ k : Nat, v = .int .i64 (k : Nat) ∧ Hid (k ≤ i ∧ ∀ n, n < k → ¬ r.t = (l.getD n default).t) ∧ Below w2.heap.size w2 wr) (fun v _ => l.length - (intOf v).toNat)
      case atStart => exact ⟨0, rfl, ⟨Nat.zero_le _, fun n hn => absurd hn (Nat.not_lt_zero _)⟩, hbr⟩
      case round =>
        obtain ⟨k, rfl, HK, hbk⟩ := hrel
        by_cases hlt : k < i
        · have hkz : (k : Int) < (i : Int) := Int.ofNat_lt.2 hlt
          have hkl : k < l.length := Nat.lt_trans hlt HIL.out
          have hkz2 : (k : Int) < (l.length : Int) := Int.ofNat_lt.2 hkl
          have gk := HLK.out k hkl
          have hk20 : k ≤ 20 := Nat.le_trans (Nat.le_of_lt hlt) hi20
          have HKI : Hid (k < i) := hlt
          have NK : Hid (¬ r.t = (l.getD k default).t → ∀ n, n < k + 1 → ¬ r.t = (l.getD n default).t) := by
            intro h n hn
            rcases Nat.lt_or_ge n k with h1 | h1
            · exact HK.out.2 n h1
            · obtain rfl : n = k := by omega
              exact h
          clear hlt hkl HK
          generalize l.getD k default = s at gk NK
          obtain ⟨b1, o1, x1, kk1, rfl, hbb1, c0, -, -, -⟩ := (V2.later hbk).at gi
          obtain ⟨b2, o2, x2, kk2, ee, -, d0, -, -, -⟩ := (V2.later hbk).at gk
          cases ee
          by_cases he : r.t = s.t
          · have heb : (r.t == s.t) = true := by simpa using he
            clear NK he
            go_wp2_with fail
            first | (go_quiet (fail); go_wp2_with fail) | skip
            go_ret
            exact ⟨rfl, below_step hbB (by first | exact hbk | exact hbk.trans (below_draws _ _ _))⟩
          · have N2 := show Hid _ from NK.out he
            have heb : (r.t == s.t) = false := by simpa using he
            clear NK he
            go_wp2_with fail
            first | (go_quiet (fail); go_wp2_with fail) | skip
            go_roundw
            case rel => exact ⟨k + 1, by go_num, ⟨HKI.out, N2.out⟩, by first | exact hbk | exact hbk.trans (below_draws _ _ _)⟩
            case measure => have h := HKI.out; have h2 := HIL.out; simp [intOf]; omega
        · have hke : k = i := by have h := HK.out.1; omega
          have hkz : ¬ (k : Int) < (i : Int) := by omega
          have N2 := show Hid _ from HNX.out (fun n hn => HK.out.2 n (by rw [hke]; exact hn))
          clear HNX HK hlt hke
          go_wp2_with fail
          go_roundw
          case rel => exact ⟨i + 1, by go_num, ⟨HIL.out, N2.out⟩, hbk⟩
          case measure => have h2 := HIL.out; simp [intOf]; omega
    · have hiz : ¬ (i : Int) < (l.length : Int) := by omega
      have HO : Hid (Once l) := fun n hn k hk => HA.out.2 n (by have h := HA.out.1; omega) k hk
      replace V2 := V2.later hbr
      replace X := X.later hbr
      replace hbB := below_step hbB hbr
      clear hbr HA hlt
      generalize wr = w3 at V2 X hbB ⊢
      obtain ⟨x0, x1, x2, x3, x4, x5⟩ := X.six
      go_wp2_with fail
      clear x0 x1 x2 x3 x4 x5
      have cc := C.put w3 V2 HS.out t m ra rn ri rp rk rt hwr
      rw [HQ.out] at cc
      dsimp only at cc
      refine cc.mono ?_
      clear cc
      rintro e w4 ⟨y1, k1, rfl, P1, hb⟩
      replace V2 := V2.later hb
      replace X := X.later hb
      replace hbB := below_step hbB hb
      clear hb
      obtain ⟨x0, x1, x2, x3, x4, x5⟩ := X.six
      go_wp2_with fail
      clear x0 x1 x2 x3 x4 x5
      have cc := C.drop w4 V2 HS.out t
      refine cc.mono ?_
      clear cc
      rintro e w5 ⟨y3, k3, rfl, D1, hb⟩
      replace V2 := V2.later hb
      replace P1 := P1.later hb
      replace X := X.later hb
      replace hbB := below_step hbB hb
      clear hb
      obtain ⟨x0, x1, x2, x3, x4, x5⟩ := X.six
      go_wp2_with fail
      clear x0 x1 x2 x3 x4 x5
      have cc := C.of w5 D1 HD.out t
      rw [of_none (drop_gone HO.out)] at cc
      dsimp only [Option.getD_none, Option.isSome_none] at cc
      refine cc.mono ?_
      clear cc
      rintro e w6 ⟨y4, k4, rfl, -, hb⟩
      replace V2 := V2.later hb
      replace P1 := P1.later hb
      replace D1 := D1.later hb
      replace X := X.later hb
      replace hbB := below_step hbB hb
      clear hb
      obtain ⟨x0, x1, x2, x3, x4, x5⟩ := X.six
      go_wp2_with fail
      clear x0 x1 x2 x3 x4 x5
      have cc := C.size w6 P1 HP.out
      refine cc.mono ?_
      clear cc
      rintro e w7 ⟨rfl, hb⟩
      replace V2 := V2.later hb
      replace P1 := P1.later hb
      replace D1 := D1.later hb
      replace X := X.later hb
      replace hbB := below_step hbB hb
      clear hb
      obtain ⟨x0, x1, x2, x3, x4, x5⟩ := X.six
      go_wp2_with fail
      clear x0 x1 x2 x3 x4 x5
      have cc := C.size w7 V2 HS.out
      refine cc.mono ?_
      clear cc
      rintro e w8 ⟨rfl, hb⟩
      replace V2 := V2.later hb
      replace P1 := P1.later hb
      replace D1 := D1.later hb
      replace X := X.later hb
      replace hbB := below_step hbB hb
      clear hb
      obtain ⟨x0, x1, x2, x3, x4, x5⟩ := X.six
      go_wp2_with fail
      clear x0 x1 x2 x3 x4 x5
      have cc := rsame9_any w8 P1 V2
      rw [decide_eq_true (rfl : l = l)] at cc
      refine cc.mono ?_
      clear cc
      rintro e w9 ⟨rfl, hb⟩
      replace V2 := V2.later hb
      replace P1 := P1.later hb
      replace D1 := D1.later hb
      replace X := X.later hb
      replace hbB := below_step hbB hb
      clear hb
      obtain ⟨x0, x1, x2, x3, x4, x5⟩ := X.six
      go_wp2_with fail
      clear x0 x1 x2 x3 x4 x5
      have cc := C.size w9 V2 HS.out
      refine cc.mono ?_
      clear cc
      rintro e w10 ⟨rfl, hb⟩
      replace V2 := V2.later hb
      replace P1 := P1.later hb
      replace D1 := D1.later hb
      replace X := X.later hb
      replace hbB := below_step hbB hb
      clear hb
      obtain ⟨x0, x1, x2, x3, x4, x5⟩ := X.six
      go_wp2_with fail
      clear x0 x1 x2 x3 x4 x5
      go_ret
      exact ⟨rfl, hbB⟩

end Go.Proofs.Ytlfnciiomfcjpaa.tableHas
