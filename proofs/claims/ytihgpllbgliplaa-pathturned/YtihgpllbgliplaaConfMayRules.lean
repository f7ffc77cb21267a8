/- What the code's mayStand, unlike and mayList answer (a map of places: which rules are alike). -/
import Derived.Test.YtihgpllbgliplaaConfSeen
import Derived.Test.YtihgpllbgliplaaConfMem
import Derived.Test.YtihgpllbgliplaaRuleWalks
namespace Go.Proofs.Ytihgpllbgliplaa
open Go.ChangeShapes Go.WideShapes Go.ChangeAt Go.RowKit Go.Maps Pk Cf R
set_option linter.unusedVariables false
set_option linter.unusedSimpArgs false

theorem seen_iff {l : List Rl} {r : Rl} : placeOf r ∈ l.map placeOf ↔ ∃ q ∈ l, alike r q = true := by
  rw [List.mem_map]
  constructor
  · rintro ⟨q, hq, h⟩
    exact ⟨q, hq, by rw [alike_place, decide_eq_true_eq]; exact h.symm⟩
  · rintro ⟨q, hq, h⟩
    rw [alike_place, decide_eq_true_eq] at h
    exact ⟨q, hq, h.symm⟩
def PreA (l : List Rl) (i : Nat) : Prop := (l.take i).Pairwise fun a b => alike a b = false
theorem preA_zero (l : List Rl) : PreA l 0 := by simp [PreA]
theorem preA_all {l : List Rl} (h : PreA l l.length) : apart l = true := by
  unfold PreA at h
  rw [List.take_length] at h
  exact (apart_iff l).2 h
theorem preA_seen {l : List Rl} {i : Nat} {r : Rl} (hr : l[i]? = some r) (h : PreA l i) (hs : ¬ placeOf r ∈ (l.take i).map placeOf) : PreA l (i + 1) := by
  unfold PreA at h ⊢
  rw [List.take_add_one, hr, List.pairwise_append]
  refine ⟨h, by simp, fun q hq y hy => ?_⟩
  have : y = r := by simpa using hy
  rw [this, alike_symm]
  cases g : alike r q
  · rfl
  · exact absurd (seen_iff.2 ⟨q, hq, g⟩) hs
theorem apart_seen {l : List Rl} {i : Nat} {r : Rl} (hr : l[i]? = some r) (h : placeOf r ∈ (l.take i).map placeOf) : apart l = false := by
  obtain ⟨q, hq, ha⟩ := seen_iff.1 h
  cases g : apart l
  · rfl
  · have hp := (apart_iff l).1 g
    have h1 : (l.take (i + 1)).Pairwise fun a b => alike a b = false := hp.sublist (List.take_sublist _ _)
    rw [List.take_add_one, hr, List.pairwise_append] at h1
    have := h1.2.2 q hq r (by simp)
    rw [alike_symm, ha] at this
    cases this
theorem map_snoc {l : List Rl} {i : Nat} {r : Rl} (hr : l[i]? = some r) : (l.take (i + 1)).map placeOf = (l.take i).map placeOf ++ [placeOf r] := by
  rw [List.take_add_one, hr, List.map_append]; rfl
theorem rules_rest {n : Int} {l : List Rl} (h40 : l.length ≤ 40) (h : ∀ r ∈ l, okRule n r = true) : rulesB n l = apart l := by
  unfold rulesB
  rw [decide_eq_true h40, List.all_eq_true.2 h]
  rfl
set_option maxRecDepth 100000 in
set_option maxHeartbeats 4000000 in
theorem mayStand_any (ra rn ri rp rk rt n : Int) (w : World) :
    Calls Try.prog 39 #[.agg #[.int .i64 ra, .int .i64 rn, .int .i64 ri, .int .i64 rp, .int .i64 rk, .int .i64 rt], .int .i64 n] w fun e w' => e = .returned (.bool (okRule n ⟨ra, rn, ri, rp, rk, rt⟩)) ∧ Below w.heap.size w w' := by
  have hb1 := below_new w (.cells #[.int .i64 ra, .int .i64 rn, .int .i64 ri, .int .i64 rp, .int .i64 rk, .int .i64 rt] 60)
  have X : Lies (w.alloc (.cells #[.int .i64 ra, .int .i64 rn, .int .i64 ri, .int .i64 rp, .int .i64 rk, .int .i64 rt] 60)) w.heap.size [ra, rn, ri, rp, rk, rt] := Lies.new w [ra, rn, ri, rp, rk, rt] 60 rfl
  have HQ : Hid (okRule n ⟨ra, rn, ri, rp, rk, rt⟩ = (okR ra rn ri rp rk rt && decide (ri < n) && (!decide (rk = 1) || decide (rt < n)))) := rfl
  generalize okRule n ⟨ra, rn, ri, rp, rk, rt⟩ = ok at HQ ⊢
  have cM := ruMay_any ra rn ri rp rk rt (w.alloc (.cells #[.int .i64 ra, .int .i64 rn, .int .i64 ri, .int .i64 rp, .int .i64 rk, .int .i64 rt] 60))
  generalize okR ra rn ri rp rk rt = A at cM HQ
  have Z := X.six
  obtain ⟨x0, x1, x2, x3, x4, x5⟩ := Z
  cases A with
  | false =>
    have HF : Hid (ok = false) := by show _ = _; rw [HQ.out]; rfl
    clear HQ
    go_enter Try.func39, Try.ntmps39
    go_wp2_with fail
    refine cM.mono ?_
    clear cM
    rintro e w2 ⟨rfl, hb2⟩
    replace hb1 := below_step hb1 hb2
    clear hb2 X x0 x1 x2 x3 x4 x5
    go_wp2_with fail
    go_ret
    exact ⟨ret_bool HF.out.symm, hb1⟩
  | true =>
    by_cases hI : ri < n
    case neg =>
      have HF : Hid (ok = false) := by show _ = _; rw [HQ.out]; simp [hI]
      clear HQ
      go_enter Try.func39, Try.ntmps39
      go_wp2_with fail
      refine cM.mono ?_
      clear cM
      rintro e w2 ⟨rfl, hb2⟩
      replace hb1 := below_step hb1 hb2
      replace X := X.later hb2
      clear hb2 x0 x1 x2 x3 x4 x5
      obtain ⟨x0, x1, x2, x3, x4, x5⟩ := X.six
      go_wp2_with fail
      go_ret
      exact ⟨ret_bool HF.out.symm, hb1⟩
    by_cases hK : rk = 1
    case neg =>
      have HF : Hid (ok = true) := by show _ = _; rw [HQ.out]; simp [hI, hK]
      clear HQ
      go_enter Try.func39, Try.ntmps39
      go_wp2_with fail
      refine cM.mono ?_
      clear cM
      rintro e w2 ⟨rfl, hb2⟩
      replace hb1 := below_step hb1 hb2
      replace X := X.later hb2
      clear hb2 x0 x1 x2 x3 x4 x5
      obtain ⟨x0, x1, x2, x3, x4, x5⟩ := X.six
      go_wp2_with fail
      go_ret
      exact ⟨ret_bool HF.out.symm, hb1⟩
    subst hK
    by_cases hT : rt < n
    case pos =>
      have HF : Hid (ok = true) := by show _ = _; rw [HQ.out]; simp [hI, hT]
      clear HQ
      go_enter Try.func39, Try.ntmps39
      go_wp2_with fail
      refine cM.mono ?_
      clear cM
      rintro e w2 ⟨rfl, hb2⟩
      replace hb1 := below_step hb1 hb2
      replace X := X.later hb2
      clear hb2 x0 x1 x2 x3 x4 x5
      obtain ⟨x0, x1, x2, x3, x4, x5⟩ := X.six
      go_wp2_with fail
      go_ret
      exact ⟨ret_bool HF.out.symm, hb1⟩
    have HF : Hid (ok = false) := by show _ = _; rw [HQ.out]; simp [hI, hT]
    clear HQ
    go_enter Try.func39, Try.ntmps39
    go_wp2_with fail
    refine cM.mono ?_
    clear cM
    rintro e w2 ⟨rfl, hb2⟩
    replace hb1 := below_step hb1 hb2
    replace X := X.later hb2
    clear hb2 x0 x1 x2 x3 x4 x5
    obtain ⟨x0, x1, x2, x3, x4, x5⟩ := X.six
    go_wp2_with fail
    go_ret
    first | exact ⟨ret_bool HF.out.symm, hb1⟩ | exact ⟨ret_bool (by rw [HF.out]; exact decide_eq_false (by omega)), hb1⟩
set_option maxRecDepth 100000 in
set_option maxHeartbeats 4000000 in
theorem unlike_any (w : World) {a : Option Addr} {k : Nat} {L : List Rl} (RL : Rds fR 6 w a k L) (h40 : L.length ≤ 40) :
    Calls Try.prog 40 #[.slice a L.length k] w fun e w' => e = .returned (.bool (apart L)) ∧ Below w.heap.size w w' := by
  have hmm := @run_makeMap Try.prog
  have hmx := Nat.le_trans RL.le RL.max
  unfold maxLen at hmx
  have HT : Hid (PreA L L.length → apart L = true) := fun h => preA_all h
  have HA : Hid (∀ (i : Nat) (r : Rl), L[i]? = some r → placeOf r ∈ (L.take i).map placeOf → apart L = false) := fun i r h h2 => apart_seen h h2
  generalize apart L = res at HT HA ⊢
  have HP0 : Hid (PreA L 0) := preA_zero L
  have M0 := Seen.made w
  have hb2 := below_new w (.map #[] 0)
  have HL : Hid (L.length ≤ 40) := h40
  clear h40
  go_enter Try.func40, Try.ntmps40
  go_wp2_with fail
  go_loopw [12] (fun vi wr => ∃ i : Nat, Hid (i ≤ L.length) ∧ vi = .int .i64 (i : Nat) ∧ Hid (PreA L i) ∧ Seen wr w.heap.size ((L.take i).map placeOf) ∧ Below w.heap.size w wr) (fun vi _ => L.length - (intOf vi).toNat)
  case atStart => exact ⟨0, Nat.zero_le _, rfl, HP0, M0, hb2⟩
  case round =>
    clear HP0 M0 hb2
    obtain ⟨i, HI, rfl, HP, M, hbr⟩ := hrel
    by_cases hlt : i < L.length
    · have hiz : (i : Int) < (L.length : Int) := by omega
      obtain ⟨r, hr⟩ := getC hlt
      have RW := RL.later hbr
      obtain ⟨b, o, rfl, hbb, hc⟩ := RW.at hr
      have HLT : Hid (i + 1 ≤ L.length) := hlt
      have HAr : Hid (placeOf r ∈ (L.take i).map placeOf → res = false) := fun h => HA.out i r hr h
      have HPr : Hid (¬ placeOf r ∈ (L.take i).map placeOf → PreA L (i + 1)) := fun h2 => preA_seen hr HP.out h2
      have HSn : Hid ((L.take (i + 1)).map placeOf = (L.take i).map placeOf ++ [placeOf r]) := map_snoc hr
      have HSl : Hid (((L.take i).map placeOf).length < 100) := by
        show _ < _
        rw [List.length_map, List.length_take]
        have h := HL.out
        omega
      have hw := RW.wf r (List.mem_of_getElem? hr)
      obtain ⟨ra, rn, ri, rp, rk, rt⟩ := r
      have hpl : placeOf ⟨ra, rn, ri, rp, rk, rt⟩ = ⟨ra, rn, ri, rp⟩ := rfl
      rw [hpl] at HAr HPr HSn
      have hwP : Wpl ⟨ra, rn, ri, rp⟩ := ⟨hw ra (by simp [fR]), hw rn (by simp [fR]), hw ri (by simp [fR]), hw rp (by simp [fR])⟩
      have v0 := hc 0 _ rfl
      have v1 := hc 1 _ rfl
      have v2 := hc 2 _ rfl
      have v3 := hc 3 _ rfl
      have v4 := hc 4 _ rfl
      have v5 := hc 5 _ rfl
      rw [Nat.add_zero] at v0
      clear hc hr hlt HI HP hpl hw RW HT HA HL
      generalize (L.take i).map placeOf = S at M HAr HPr HSn HSl
      have hn1 := below_new wr (.cells #[.int .i64 ra, .int .i64 rn, .int .i64 ri, .int .i64 rp, .int .i64 rk, .int .i64 rt] 60)
      have X : Lies (wr.alloc (.cells #[.int .i64 ra, .int .i64 rn, .int .i64 ri, .int .i64 rp, .int .i64 rk, .int .i64 rt] 60)) wr.heap.size [ra, rn, ri, rp, rk, rt] := Lies.new wr [ra, rn, ri, rp, rk, rt] 60 rfl
      have hn2 := below_new (wr.alloc (.cells #[.int .i64 ra, .int .i64 rn, .int .i64 ri, .int .i64 rp, .int .i64 rk, .int .i64 rt] 60)) (.cells #[.int .i64 ra, .int .i64 rn, .int .i64 ri, .int .i64 rp] 89)
      have Y : Lies ((wr.alloc (.cells #[.int .i64 ra, .int .i64 rn, .int .i64 ri, .int .i64 rp, .int .i64 rk, .int .i64 rt] 60)).alloc (.cells #[.int .i64 ra, .int .i64 rn, .int .i64 ri, .int .i64 rp] 89)) (wr.heap.size + 1) [ra, rn, ri, rp] := Lies.new (wr.alloc (.cells #[.int .i64 ra, .int .i64 rn, .int .i64 ri, .int .i64 rp, .int .i64 rk, .int .i64 rt] 60)) [ra, rn, ri, rp] 89 (by simp)
      have hn3 := below_new ((wr.alloc (.cells #[.int .i64 ra, .int .i64 rn, .int .i64 ri, .int .i64 rp, .int .i64 rk, .int .i64 rt] 60)).alloc (.cells #[.int .i64 ra, .int .i64 rn, .int .i64 ri, .int .i64 rp] 89)) (.cells #[] 90)
      have Y3 := Y.later hn3
      have hb12 := below_step hn1 hn2
      have hb13 := below_step hb12 hn3
      have M2 := M.later hb12
      have M3 := M.later hb13
      have hbe := below_step hbr hb13
      obtain ⟨x0, x1, x2, x3, x4, x5⟩ := X.six
      have y0 := Y.cells 0 _ rfl
      have y1 := Y.cells 1 _ rfl
      have y2 := Y.cells 2 _ rfl
      have y3 := Y.cells 3 _ rfl
      have z0 := Y3.cells 0 _ rfl
      have z1 := Y3.cells 1 _ rfl
      have z2 := Y3.cells 2 _ rfl
      have z3 := Y3.cells 3 _ rfl
      have hLk := M2.look_ok hwP
      clear X Y Y3 M2 M hn1 hn2 hn3 hb12 hb13
      by_cases hM : (⟨ra, rn, ri, rp⟩ : Place) ∈ S
      case pos =>
        rw [decide_eq_true hM] at hLk
        have HF : Hid (res = false) := HAr.out hM
        clear HPr HAr HSn HSl hM M3 hwP
        go_wp2_with fail
        go_ret
        exact ⟨ret_bool HF.out.symm, hbe⟩
      rw [decide_eq_false hM] at hLk
      have HN : Hid _ := HPr.out hM
      clear HPr HAr hM
      go_wp2_with (at_mapUpdate; refine wpList_store_seen rfl _ _ _ rfl rfl M3 rfl rfl hwP (by have h := HSl.out; unfold maxLen; omega) ?_; intro w4 M4 hG4)
      rw [← HSn.out] at M4
      have hB4 := hbe.grown hG4 hbe.size (fun k hk => by cases hk; exact Nat.le_refl _)
      go_wp2_with fail
      go_roundw
      case rel => exact ⟨i + 1, HLT.out, by go_num, HN, M4, hB4⟩
      case measure => have h := HLT.out; simp [intOf]; omega
    · have hke : i = L.length := by have h := HI.out; omega
      have hkz : ¬ (i : Int) < (L.length : Int) := by omega
      have HR : Hid (res = true) := HT.out (hke ▸ HP.out)
      clear hke hlt HI HP HT HA M RL
      go_wp2_with fail
      go_ret
      exact ⟨ret_bool HR.out.symm, hbr⟩
set_option maxRecDepth 100000 in
set_option maxHeartbeats 4000000 in
theorem mayList_any (n : Int) (w : World) {a : Option Addr} {k : Nat} {L : List Rl} (RL : Rds fR 6 w a k L) :
    Calls Try.prog 27 #[.slice a L.length k, .int .i64 n] w fun e w' => e = .returned (.bool (rulesB n L)) ∧ Below w.heap.size w w' := by
  have hmx := Nat.le_trans RL.le RL.max
  unfold maxLen at hmx
  by_cases h40 : 40 < L.length
  case pos =>
    have hz : (40 : Int) < (L.length : Int) := by omega
    rw [rules_long h40]
    clear RL
    go_enter Try.func27, Try.ntmps27
    go_wp2
    go_ret
    exact ⟨rfl, Below.refl _ _⟩
  have hz : ¬ (40 : Int) < (L.length : Int) := by omega
  have HT : Hid ((∀ r ∈ L.take L.length, okRule n r = true) → rulesB n L = apart L) := fun h => by
    rw [List.take_length] at h
    exact rules_rest (by omega) h
  have HO : Hid (∀ (i : Nat) (r : Rl), L[i]? = some r → okRule n r = false → rulesB n L = false) := fun i r h h2 => rules_no_ok h h2
  have cU := fun (u : World) (hu : Rds fR 6 u a k L) => unlike_any u hu (by omega)
  generalize rulesB n L = res at HT HO ⊢
  generalize apart L = ap at HT cU
  have HP0 : Hid (∀ r ∈ L.take 0, okRule n r = true) := fun r hr => by simp at hr
  clear h40
  go_enter Try.func27, Try.ntmps27
  go_wp2_with fail
  go_loopw [12] (fun vi wr => ∃ i : Nat, Hid (i ≤ L.length) ∧ vi = .int .i64 (i : Nat) ∧ Hid (∀ r ∈ L.take i, okRule n r = true) ∧ Below w.heap.size w wr) (fun vi _ => L.length - (intOf vi).toNat)
  case atStart => exact ⟨0, Nat.zero_le _, rfl, HP0, Below.refl _ _⟩
  case round =>
    clear HP0
    obtain ⟨i, HI, rfl, HP, hbr⟩ := hrel
    by_cases hlt : i < L.length
    · have hiz : (i : Int) < (L.length : Int) := by omega
      obtain ⟨r, hr⟩ := getC hlt
      obtain ⟨b, o, rfl, hbb, hc⟩ := (RL.later hbr).at hr
      have HLT : Hid (i + 1 ≤ L.length) := hlt
      have HOr : Hid (okRule n r = false → res = false) := fun h => HO.out i r hr h
      have HPr : Hid (okRule n r = true → ∀ q ∈ L.take (i + 1), okRule n q = true) := fun h => mem_take_succ hr HP.out h
      obtain ⟨ra, rn, ri, rp, rk, rt⟩ := r
      have v0 := hc 0 _ rfl
      have v1 := hc 1 _ rfl
      have v2 := hc 2 _ rfl
      have v3 := hc 3 _ rfl
      have v4 := hc 4 _ rfl
      have v5 := hc 5 _ rfl
      rw [Nat.add_zero] at v0
      clear hc hr hlt HI HP HT HO cU
      have cM := fun w => mayStand_any ra rn ri rp rk rt n w
      generalize okRule n ⟨ra, rn, ri, rp, rk, rt⟩ = ok at HOr HPr cM
      have hn1 := below_new wr (.cells #[.int .i64 ra, .int .i64 rn, .int .i64 ri, .int .i64 rp, .int .i64 rk, .int .i64 rt] 60)
      have X : Lies (wr.alloc (.cells #[.int .i64 ra, .int .i64 rn, .int .i64 ri, .int .i64 rp, .int .i64 rk, .int .i64 rt] 60)) wr.heap.size [ra, rn, ri, rp, rk, rt] := Lies.new wr [ra, rn, ri, rp, rk, rt] 60 rfl
      obtain ⟨x0, x1, x2, x3, x4, x5⟩ := X.six
      clear X
      go_wp2_with fail
      refine (cM _).mono ?_
      clear cM
      rintro e w2 ⟨rfl, hb2⟩
      replace hbr := below_step (below_step hbr hn1) hb2
      clear hn1 hb2 v0 v1 v2 v3 v4 v5 hbb x0 x1 x2 x3 x4 x5
      cases ok with
      | false =>
        have HF : Hid (res = false) := HOr.out rfl
        clear HOr HPr
        go_wp2_with fail
        go_ret
        exact ⟨ret_bool HF.out.symm, hbr⟩
      | true =>
        have HQ : Hid _ := HPr.out rfl
        clear HOr HPr
        go_wp2_with fail
        go_roundw
        case rel => exact ⟨i + 1, HLT.out, by go_num, HQ, hbr⟩
        case measure => have h := HLT.out; simp [intOf]; omega
    · have hke : i = L.length := by have h := HI.out; omega
      have hkz : ¬ (i : Int) < (L.length : Int) := by omega
      have HR : Hid (res = ap) := HT.out (hke ▸ HP.out)
      have cU1 := cU _ (RL.later hbr)
      clear hke hlt HI HP HT HO RL cU
      go_wp2_with fail
      refine cU1.mono ?_
      clear cU1
      rintro e w2 ⟨rfl, hb2⟩
      replace hbr := below_step hbr hb2
      go_wp2_with fail
      go_ret
      exact ⟨ret_bool HR.out.symm, hbr⟩
end Go.Proofs.Ytihgpllbgliplaa
