/- What the document's Put answers where there is no version of the tag. -/
import Derived.Test.YtlfnciiomfcjpaaTabPut2
namespace Go.Proofs.Ytlfnciiomfcjpaa
open Go.ChangeShapes Go.WideShapes Go.ChangeAt Go.RowKit Pk Tb R
set_option linter.unusedVariables false
set_option linter.unusedSimpArgs false

/-- what is laid of a table with one more version, k of the old ones laid: not yet put, or put -/
def Laid (l : List Vr) (t : Int) (n : Vr) (k : Nat) (d : Bool) (O : List Vr) : Prop :=
  k ≤ l.length ∧ ((d = false ∧ O = l.take k ∧ ∀ j, j < k → ¬ t < (l.getD j default).t) ∨ (d = true ∧ ∃ j, j < k ∧ (∀ i, i < j → ¬ t < (l.getD i default).t) ∧ t < (l.getD j default).t ∧ O = l.take j ++ (n :: (l.take k).drop j)))
theorem laid_put {l : List Vr} {t : Int} {n : Vr} {k : Nat} {O : List Vr} (h : Laid l t n k false O) (hk : k < l.length) (ht : t < (l.getD k default).t) : Laid l t n (k + 1) true ((O ++ [n]) ++ [l.getD k default]) := by
  rcases h.2 with ⟨_, e, hn⟩ | ⟨e, _⟩
  · refine ⟨hk, .inr ⟨rfl, k, Nat.lt_succ_self _, hn, ht, ?_⟩⟩
    have h3 : (l.take k).length = k := by rw [List.length_take]; omega
    rw [e, takeV hk, List.drop_append_of_le_length (by omega), List.drop_of_length_le (by omega), List.append_assoc]
    rfl
  · cases e
theorem laid_next {l : List Vr} {t : Int} {n : Vr} {k : Nat} {d : Bool} {O : List Vr} (h : Laid l t n k d O) (hk : k < l.length) (ht : d = true ∨ ¬ t < (l.getD k default).t) : Laid l t n (k + 1) d (O ++ [l.getD k default]) := by
  rcases h.2 with ⟨rfl, e, hn⟩ | ⟨rfl, j, hj, h1, h2, e⟩
  · refine ⟨hk, .inl ⟨rfl, by rw [e, takeV hk], fun j hj => ?_⟩⟩
    rcases Nat.lt_or_ge j k with h3 | h3
    · exact hn j h3
    · rw [show j = k by omega]
      rcases ht with h4 | h4
      · cases h4
      · exact h4
  · refine ⟨hk, .inr ⟨rfl, j, Nat.lt_succ_of_lt hj, h1, h2, ?_⟩⟩
    have h3 : (l.take k).length = k := by rw [List.length_take]; omega
    rw [e, takeV hk, List.drop_append_of_le_length (by omega), List.append_assoc, List.cons_append]
theorem laid_len {l : List Vr} {t : Int} {n : Vr} {k : Nat} {d : Bool} {O : List Vr} (h : Laid l t n k d O) : O.length ≤ k + 1 := by
  have h3 : (l.take k).length = k := by rw [List.length_take]; have := h.1; omega
  rcases h.2 with ⟨_, e, _⟩ | ⟨_, j, hj, _, _, e⟩
  · rw [e, h3]; omega
  · rw [e, List.length_append, List.length_cons, List.length_drop, List.length_take, h3]; omega
theorem laid_end {l : List Vr} {t : Int} {r : Rl} {O : List Vr} {d : Bool} (h : Laid l t ⟨t, [r]⟩ l.length d O) : (if d = true then O else O ++ [⟨t, [r]⟩]) = insT l t r := by
  rcases h.2 with ⟨rfl, e, hn⟩ | ⟨rfl, j, hj, h1, h2, e⟩
  · rw [List.take_length] at e
    subst e
    rw [if_neg (by decide), ins_end r hn]
  · rw [List.take_length] at e
    subst e
    rw [if_pos rfl, ins_at r hj h1 h2]
theorem size_alloc1 (w : World) (o : Obj) : (w.alloc o).heap.size = w.heap.size + 1 := by simp
section
variable {B : Nat} {a : Option Addr} {c : Nat} {l : List Vr}
set_option maxRecDepth 100000 in
set_option maxHeartbeats 4000000 in
theorem rput_none (w : World) (V : Vers B w a c l) (hs : Sm l) (t m ra rn ri rp rk rt : Int) (hwr : ∀ z ∈ fR ⟨ra, rn, ri, rp, rk, rt⟩, (Lit.int .i64 z).wf = true) (h : ¬ (mayR ⟨ra, rn, ri, rp, rk, rt⟩ = false ∨ t < 1 ∨ 4095 < t)) (hw : whereT l t = none) :
    Calls Try.prog 13 #[.slice a l.length c, .int .i64 t, .agg #[.int .i64 ra, .int .i64 rn, .int .i64 ri, .int .i64 rp, .int .i64 rk, .int .i64 rt], .int .i64 m] w fun e w' => ∃ (x : Option Addr) (k : Nat), e = .returned (.tuple #[.slice x (putT l t ⟨ra, rn, ri, rp, rk, rt⟩ m).1.length k, .int .i64 (putT l t ⟨ra, rn, ri, rp, rk, rt⟩ m).2]) ∧ Vers 0 w' x k (putT l t ⟨ra, rn, ri, rp, rk, rt⟩ m).1 ∧ Below w.heap.size w w' := by
  have HP : Hid (¬ (mayR ⟨ra, rn, ri, rp, rk, rt⟩ = false ∨ t < 1 ∨ 4095 < t)) := h
  have HS : Hid (Sm l) := hs
  have hl100 := hs.1
  have HWH : Hid (whereT l t = none) := hw
  have ho : ofT l t = none := by rw [of_where, hw]; rfl
  obtain ⟨res, HRES⟩ : ∃ res, Hid (putT l t ⟨ra, rn, ri, rp, rk, rt⟩ m = res) := ⟨_, rfl⟩
  rw [HRES.out]
  clear h hs hw
  have hb0 := below_new w (.cells #[.int .i64 ra, .int .i64 rn, .int .i64 ri, .int .i64 rp, .int .i64 rk, .int .i64 rt] 28)
  have X := Lies.new w [ra, rn, ri, rp, rk, rt] 28 rfl
  obtain ⟨x0, x1, x2, x3, x4, x5⟩ := X.six
  have cM := rrMay_any ra rn ri rp rk rt (w.alloc (.cells #[.int .i64 ra, .int .i64 rn, .int .i64 ri, .int .i64 rp, .int .i64 rk, .int .i64 rt] 28))
  have hm2 : okR ra rn ri rp rk rt = true := by
    have h1 := HP.out
    cases h2 : okR ra rn ri rp rk rt with
    | true => rfl
    | false => exact absurd (.inl h2) h1
  rw [hm2] at cM
  have htb : decide (t < 1) = false := decide_eq_false fun h2 => HP.out (.inr (.inl h2))
  have ht2 : decide (4095 < t) = false := decide_eq_false fun h2 => HP.out (.inr (.inr h2))
  clear hm2
  go_enter Try.func13, Try.ntmps13
  go_wp2_with fail
  refine cM.mono ?_
  clear cM
  rintro e w1 ⟨rfl, hb1⟩
  have hbA := below_step hb0 hb1
  have X1 := X.later hb1
  clear x0 x1 x2 x3 x4 x5 X hb1
  have cO := rof_own w1 (V.later hbA) HS.out t
  rw [ho] at cO
  dsimp only [Option.getD_none, Option.isSome_none] at cO
  clear ho
  go_wp2_with fail
  refine cO.mono ?_
  clear cO
  rintro e w2 ⟨v, rfl, own, hwf, hb2⟩
  have X2 := X1.later hb2
  have hbB := below_step hbA hb2
  clear X1 hb2 hbA
  obtain ⟨x1, k1, ev, R1⟩ := rds_of_owns fR_len own rfl hwf
  rw [List.length_nil] at ev
  subst ev
  clear own hwf R1
  go_wp2_with fail
  go_loopw [13] (fun vi wr => vi = .int .i64 0 ∧ Below w2.heap.size w2 wr) (fun _ _ => 0)
  case atStart => exact ⟨rfl, Below.refl _ _⟩
  case round =>
    obtain ⟨rfl, hbr⟩ := hrel
    have hbC := below_step hbB hbr
    have X3 := X2.later hbr
    clear hbr hbB X2
    have cS := rsize_any wr (V.later hbC) HS.out
    go_wp2_with fail
    refine cS.mono ?_
    clear cS
    rintro e w3 ⟨rfl, hb3⟩
    have hbD := below_step hbC hb3
    have X4 := X3.later hb3
    clear hbC hb3 X3
    by_cases hm : m ≤ ((sizeT l : Nat) : Int)
    · obtain rfl : res = (l, 7) := by rw [← HRES.out]; exact putT_full0 HP.out HWH.out hm
      have hmb : decide (m ≤ ((sizeT l : Nat) : Int)) = true := decide_eq_true hm
      have V6 := (V.later hbD).low (Nat.zero_le _)
      clear hm
      go_wp2_with fail
      go_ret2
      exact ⟨a, c, rfl, V6, hbD⟩
    · obtain rfl : res = (insT l t ⟨ra, rn, ri, rp, rk, rt⟩, 0) := by rw [← HRES.out]; exact putT_new HP.out HWH.out hm
      have hmb : decide (m ≤ ((sizeT l : Nat) : Int)) = false := decide_eq_false hm
      have V3 := V.later hbD
      have hs2 := hbD.size
      have wt : (Lit.int .i64 t).wf = true := wf_i64_mk (by have h := HP.out; omega) (by have h := HP.out; omega)
      clear hm HRES
      go_wp2_with fail
      go_loopw [17, 15, 16] (fun vi u vd wr => ∃ (k : Nat) (d : Bool) (O : List Vr), vi = .int .i64 (k : Nat) ∧ vd = .bool d ∧ OwnT w3.heap.size wr u O ∧ Hid (Laid l t (⟨t, [(⟨ra, rn, ri, rp, rk, rt⟩ : Rl)]⟩ : Vr) k d O) ∧ Below w3.heap.size w3 wr) (fun vi _ _ _ => l.length - (intOf vi).toNat)
      case atStart => exact ⟨0, false, [], rfl, rfl, OwnT.empty _ _, ⟨Nat.zero_le _, .inl ⟨rfl, rfl, fun j hj => absurd hj (Nat.not_lt_zero _)⟩⟩, Below.refl _ _⟩
      case round =>
        obtain ⟨k, dn, O, rfl, rfl, own, HL, hbr⟩ := hrel
        by_cases hlt : k < l.length
        · have hkz : (k : Int) < (l.length : Int) := Int.ofNat_lt.2 hlt
          have gk := getD_atV hlt
          have HLT : Hid (k < l.length) := hlt
          have hcl := laid_len HL.out
          obtain ⟨b, o, x, kk, rfl, hbb, c0, c1, hat⟩ := V3.at2 gk
          cases dn with
          | true =>
            have N2 : Hid (Laid l t (⟨t, [(⟨ra, rn, ri, rp, rk, rt⟩ : Rl)]⟩ : Vr) (k + 1) true (O ++ [l.getD k default])) := laid_next HL.out hlt (.inl rfl)
            generalize l.getD k default = v at gk c0 c1 hat N2
            obtain ⟨ps, ow, hps⟩ := own
            have hs1 := hbr.size
            have hlo := fun q hq => (ow.lt q hq).1
            have x0 := (hbr.cell (p := ⟨b, o + k * 2, none⟩) hbb).trans c0
            have x1 := (hbr.cell (p := ⟨b, o + k * 2 + 1, none⟩) hbb).trans c1
            clear hlt gk c0 c1 HL
            go_wp2_with (at_builtin; refine wpRdv_one fV_len fV_one (by decide) _ (⟨v.t, x, v.l.length, kk⟩ : Vc) 47 rfl rfl (.tmp 100) (.tmp 105) 22 rfl w3.heap.size 32 _ Try.underlying22 infoV9 rfl rfl ow rfl (by omega) (by decide) hs1 ?_; intro v9 w9 own9 hg9 hp9; apply Classical.byContradiction; intro hstop)
            have hbn := below_new wr (.cells (fV ⟨v.t, x, v.l.length, kk⟩).toArray 47)
            have hb9 := below_growW (hbr.alloc hs1 (.cells (fV ⟨v.t, x, v.l.length, kk⟩).toArray 47)) (ow.alloc _) hg9 (Nat.le_trans hs1 hbn.size)
            have O9 : OwnT w3.heap.size w9 v9 (O ++ [v]) := OwnT.one (all2_imp hps fun _ _ h => h.later hbn) own9 hg9 hp9 (hat.far (below_step hbr hbn) hlo)
            clear own9 hg9 hp9 hbn ow hps x0 x1 hlo hs1
            apply hstop
            clear hstop
            go_wp2_with fail
            go_roundw
            case rel => exact ⟨k + 1, true, _, by go_num, rfl, O9, N2, hb9⟩
            case measure => have h := HLT.out; simp [intOf]; omega
          | false =>
            by_cases htv : t < (l.getD k default).t
            · have N2 : Hid (Laid l t (⟨t, [(⟨ra, rn, ri, rp, rk, rt⟩ : Rl)]⟩ : Vr) (k + 1) true ((O ++ [(⟨t, [(⟨ra, rn, ri, rp, rk, rt⟩ : Rl)]⟩ : Vr)]) ++ [l.getD k default])) := laid_put HL.out hlt htv
              generalize l.getD k default = v at gk c0 c1 hat N2 htv
              have hgb : decide (t < v.t) = true := decide_eq_true htv
              obtain ⟨ps, ow, hps⟩ := own
              have hs1 := hbr.size
              have hs1n : w3.heap.size ≤ (wr.alloc (.cells #[.int .i64 ra, .int .i64 rn, .int .i64 ri, .int .i64 rp, .int .i64 rk, .int .i64 rt] 28)).heap.size := Nat.le_trans hs1 (by simp)
              have x0 := (hbr.cell (p := ⟨b, o + k * 2, none⟩) hbb).trans c0
              have x1 := (hbr.cell (p := ⟨b, o + k * 2 + 1, none⟩) hbb).trans c1
              obtain ⟨r0, r1, r2, r3, r4, r5⟩ := ((X4.later hbr)).six
              clear hlt gk HL htv
              go_wp2_with (at_builtin; refine wpRdv_one fV_len fV_one (by decide) _ (⟨t, some ⟨wr.heap.size, 0, none⟩, 1, 1⟩ : Vc) 47 rfl rfl (.tmp 93) (.tmp 98) 22 rfl w3.heap.size 32 _ Try.underlying22 infoV9 rfl rfl (ow.alloc _) (by rw [size_alloc1]; rfl) (by omega) (by decide) hs1n ?_; intro v8 w8 own9 hg9 hp9; apply Classical.byContradiction; intro hstop)
              have hbn1 := below_new wr (.cells #[.int .i64 ra, .int .i64 rn, .int .i64 ri, .int .i64 rp, .int .i64 rk, .int .i64 rt] 28)
              have hbn2 := below_new (wr.alloc (.cells #[.int .i64 ra, .int .i64 rn, .int .i64 ri, .int .i64 rp, .int .i64 rk, .int .i64 rt] 28)) (.cells (fV ⟨t, some ⟨wr.heap.size, 0, none⟩, 1, 1⟩).toArray 47)
              have hb8 := below_growW ((hbr.alloc hs1 (.cells #[.int .i64 ra, .int .i64 rn, .int .i64 ri, .int .i64 rp, .int .i64 rk, .int .i64 rt] 28)).alloc hs1n (.cells (fV ⟨t, some ⟨wr.heap.size, 0, none⟩, 1, 1⟩).toArray 47)) ((ow.alloc _).alloc _) hg9 (Nat.le_trans hs1n hbn2.size)
              have O8 : OwnT w3.heap.size w8 v8 (O ++ [(⟨t, [(⟨ra, rn, ri, rp, rk, rt⟩ : Rl)]⟩ : Vr)]) := OwnT.one (all2_imp hps fun _ _ h => (h.later hbn1).later hbn2) own9 hg9 hp9
                ⟨rfl, wt, rfl, (rds_new fR_len wr ⟨ra, rn, ri, rp, rk, rt⟩ 28 hwr rfl).later hbn2, fun _ _ _ => Nat.zero_le _, fun y hy _ => (by cases hy; show wr.heap.size < _; rw [size_alloc1, size_alloc1]; omega), fun y hy _ e => (by cases hy; exact absurd (ow.lt _ e).2 (Nat.lt_irrefl _))⟩
              clear own9 hg9 hp9 hbn1 hbn2 ow hps
              apply hstop
              clear hstop
              clear x0 x1 r0 r1 r2 r3 r4 r5 hs1 hs1n
              have hcl2 : (O ++ [(⟨t, [(⟨ra, rn, ri, rp, rk, rt⟩ : Rl)]⟩ : Vr)]).length ≤ k + 2 := by rw [List.length_append, List.length_singleton]; omega
              generalize O ++ [(⟨t, [(⟨ra, rn, ri, rp, rk, rt⟩ : Rl)]⟩ : Vr)] = O2 at O8 N2 hcl2
              obtain ⟨ps, ow, hps⟩ := O8
              have hs1 := hb8.size
              have hlo := fun q hq => (ow.lt q hq).1
              have x0 := (hb8.cell (p := ⟨b, o + k * 2, none⟩) hbb).trans c0
              have x1 := (hb8.cell (p := ⟨b, o + k * 2 + 1, none⟩) hbb).trans c1
              clear c0 c1
              go_wp2_with (at_builtin; refine wpRdv_one fV_len fV_one (by decide) _ (⟨v.t, x, v.l.length, kk⟩ : Vc) 47 rfl rfl (.tmp 100) (.tmp 105) 22 rfl w3.heap.size 32 _ Try.underlying22 infoV9 rfl rfl ow rfl (by omega) (by decide) hs1 ?_; intro v9 w9 own9 hg9 hp9; apply Classical.byContradiction; intro hstop)
              have hbn := below_new w8 (.cells (fV ⟨v.t, x, v.l.length, kk⟩).toArray 47)
              have hb9 := below_growW (hb8.alloc hs1 (.cells (fV ⟨v.t, x, v.l.length, kk⟩).toArray 47)) (ow.alloc _) hg9 (Nat.le_trans hs1 hbn.size)
              have O9 : OwnT w3.heap.size w9 v9 (O2 ++ [v]) := OwnT.one (all2_imp hps fun _ _ h => h.later hbn) own9 hg9 hp9 (hat.far (below_step hb8 hbn) hlo)
              clear own9 hg9 hp9 hbn ow hps x0 x1 hlo hs1
              apply hstop
              clear hstop
              go_wp2_with fail
              go_roundw
              case rel => exact ⟨k + 1, true, _, by go_num, rfl, O9, N2, hb9⟩
              case measure => have h := HLT.out; simp [intOf]; omega
            · have N2 : Hid (Laid l t (⟨t, [(⟨ra, rn, ri, rp, rk, rt⟩ : Rl)]⟩ : Vr) (k + 1) false (O ++ [l.getD k default])) := laid_next HL.out hlt (.inr htv)
              generalize l.getD k default = v at gk c0 c1 hat N2 htv
              have hgb : decide (t < v.t) = false := decide_eq_false htv
              clear htv
              obtain ⟨ps, ow, hps⟩ := own
              have hs1 := hbr.size
              have hlo := fun q hq => (ow.lt q hq).1
              have x0 := (hbr.cell (p := ⟨b, o + k * 2, none⟩) hbb).trans c0
              have x1 := (hbr.cell (p := ⟨b, o + k * 2 + 1, none⟩) hbb).trans c1
              clear hlt gk c0 c1 HL
              go_wp2_with (at_builtin; refine wpRdv_one fV_len fV_one (by decide) _ (⟨v.t, x, v.l.length, kk⟩ : Vc) 47 rfl rfl (.tmp 100) (.tmp 105) 22 rfl w3.heap.size 32 _ Try.underlying22 infoV9 rfl rfl ow rfl (by omega) (by decide) hs1 ?_; intro v9 w9 own9 hg9 hp9; apply Classical.byContradiction; intro hstop)
              have hbn := below_new wr (.cells (fV ⟨v.t, x, v.l.length, kk⟩).toArray 47)
              have hb9 := below_growW (hbr.alloc hs1 (.cells (fV ⟨v.t, x, v.l.length, kk⟩).toArray 47)) (ow.alloc _) hg9 (Nat.le_trans hs1 hbn.size)
              have O9 : OwnT w3.heap.size w9 v9 (O ++ [v]) := OwnT.one (all2_imp hps fun _ _ h => h.later hbn) own9 hg9 hp9 (hat.far (below_step hbr hbn) hlo)
              clear own9 hg9 hp9 hbn ow hps x0 x1 hlo hs1
              apply hstop
              clear hstop
              go_wp2_with fail
              go_roundw
              case rel => exact ⟨k + 1, false, _, by go_num, rfl, O9, N2, hb9⟩
              case measure => have h := HLT.out; simp [intOf]; omega
        · obtain rfl : k = l.length := by have h := HL.out.1; omega
          have hkz : ¬ (l.length : Int) < (l.length : Int) := by omega
          have HE : Hid ((if dn = true then O else O ++ [(⟨t, [(⟨ra, rn, ri, rp, rk, rt⟩ : Rl)]⟩ : Vr)]) = insT l t ⟨ra, rn, ri, rp, rk, rt⟩) := laid_end HL.out
          have hcl := laid_len HL.out
          clear hlt HL
          cases dn with
          | true =>
            have HE2 : Hid (O = insT l t ⟨ra, rn, ri, rp, rk, rt⟩) := HE.out
            obtain ⟨y, k', rfl, V6, -⟩ := own.vers
            have hb9 := below_step hbD hbr
            clear HE
            go_wp2_with fail
            go_ret2
            rw [HE2.out] at V6
            exact ⟨y, k', by rw [HE2.out]; rfl, V6, hb9⟩
          | false =>
            have HE2 : Hid (O ++ [(⟨t, [(⟨ra, rn, ri, rp, rk, rt⟩ : Rl)]⟩ : Vr)] = insT l t ⟨ra, rn, ri, rp, rk, rt⟩) := HE.out
            obtain ⟨ps, ow, hps⟩ := own
            have hs1 := hbr.size
            have hs1n : w3.heap.size ≤ (wr.alloc (.cells #[.int .i64 ra, .int .i64 rn, .int .i64 ri, .int .i64 rp, .int .i64 rk, .int .i64 rt] 28)).heap.size := Nat.le_trans hs1 (by simp)
            obtain ⟨r0, r1, r2, r3, r4, r5⟩ := ((X4.later hbr)).six
            clear HE
            go_wp2_with (at_builtin; refine wpRdv_one fV_len fV_one (by decide) _ (⟨t, some ⟨wr.heap.size, 0, none⟩, 1, 1⟩ : Vc) 47 rfl rfl (.tmp 109) (.tmp 114) 22 rfl w3.heap.size 32 _ Try.underlying22 infoV9 rfl rfl (ow.alloc _) (by rw [size_alloc1]; rfl) (by omega) (by decide) hs1n ?_; intro v8 w8 own9 hg9 hp9; apply Classical.byContradiction; intro hstop)
            have hbn1 := below_new wr (.cells #[.int .i64 ra, .int .i64 rn, .int .i64 ri, .int .i64 rp, .int .i64 rk, .int .i64 rt] 28)
            have hbn2 := below_new (wr.alloc (.cells #[.int .i64 ra, .int .i64 rn, .int .i64 ri, .int .i64 rp, .int .i64 rk, .int .i64 rt] 28)) (.cells (fV ⟨t, some ⟨wr.heap.size, 0, none⟩, 1, 1⟩).toArray 47)
            have hb8 := below_growW ((hbr.alloc hs1 (.cells #[.int .i64 ra, .int .i64 rn, .int .i64 ri, .int .i64 rp, .int .i64 rk, .int .i64 rt] 28)).alloc hs1n (.cells (fV ⟨t, some ⟨wr.heap.size, 0, none⟩, 1, 1⟩).toArray 47)) ((ow.alloc _).alloc _) hg9 (Nat.le_trans hs1n hbn2.size)
            have O8 : OwnT w3.heap.size w8 v8 (O ++ [(⟨t, [(⟨ra, rn, ri, rp, rk, rt⟩ : Rl)]⟩ : Vr)]) := OwnT.one (all2_imp hps fun _ _ h => (h.later hbn1).later hbn2) own9 hg9 hp9
              ⟨rfl, wt, rfl, (rds_new fR_len wr ⟨ra, rn, ri, rp, rk, rt⟩ 28 hwr rfl).later hbn2, fun _ _ _ => Nat.zero_le _, fun y hy _ => (by cases hy; show wr.heap.size < _; rw [size_alloc1, size_alloc1]; omega), fun y hy _ e => (by cases hy; exact absurd (ow.lt _ e).2 (Nat.lt_irrefl _))⟩
            clear own9 hg9 hp9 hbn1 hbn2 ow hps
            apply hstop
            clear hstop
            clear r0 r1 r2 r3 r4 r5 hs1 hs1n
            rw [HE2.out] at O8
            obtain ⟨y, k', rfl, V6, -⟩ := O8.vers
            have hb9 := below_step hbD hb8
            go_wp2_with fail
            go_ret2
            exact ⟨y, k', rfl, V6, hb9⟩
theorem rput_any (w : World) (V : Vers B w a c l) (hs : Sm l) (t m ra rn ri rp rk rt : Int) (hwr : ∀ z ∈ fR ⟨ra, rn, ri, rp, rk, rt⟩, (Lit.int .i64 z).wf = true) :
    Calls Try.prog 13 #[.slice a l.length c, .int .i64 t, .agg #[.int .i64 ra, .int .i64 rn, .int .i64 ri, .int .i64 rp, .int .i64 rk, .int .i64 rt], .int .i64 m] w fun e w' => ∃ (x : Option Addr) (k : Nat), e = .returned (.tuple #[.slice x (putT l t ⟨ra, rn, ri, rp, rk, rt⟩ m).1.length k, .int .i64 (putT l t ⟨ra, rn, ri, rp, rk, rt⟩ m).2]) ∧ Vers 0 w' x k (putT l t ⟨ra, rn, ri, rp, rk, rt⟩ m).1 ∧ Below w.heap.size w w' := by
  by_cases h : mayR ⟨ra, rn, ri, rp, rk, rt⟩ = false ∨ t < 1 ∨ 4095 < t
  · rw [putT_arg h]
    refine (rput_arg w V t m ra rn ri rp rk rt h).mono ?_
    rintro e w' ⟨rfl, hb⟩
    exact ⟨a, c, rfl, (V.later hb).low (Nat.zero_le _), hb⟩
  · cases hw : whereT l t with
    | none => exact rput_none w V hs t m ra rn ri rp rk rt hwr h hw
    | some i => exact rput_some w V hs t m ra rn ri rp rk rt hwr h hw
end
end Go.Proofs.Ytlfnciiomfcjpaa
