/- What the document's Put answers where there is a version of the tag. -/
import Derived.Test.YtlfnciiomfcjpaaTabPut
namespace Go.Proofs.Ytlfnciiomfcjpaa
open Go.ChangeShapes Go.WideShapes Go.ChangeAt Go.RowKit Pk Tb R
set_option linter.unusedVariables false
set_option linter.unusedSimpArgs false

theorem own_low {w : World} {B B2 e sz n : Nat} {v : Value} {xs : List Value} (h : w.ownsRow B e sz v n xs) (hB : B2 ≤ B) : w.ownsRow B2 e sz v n xs := by
  refine ⟨h.1, ?_⟩
  rcases h.2 with h0 | ⟨g, cap, cur, hv, hb, rest⟩
  · exact .inl h0
  · exact .inr ⟨g, cap, cur, hv, Nat.le_trans hB hb, rest⟩
theorem ret_set {y : Option Addr} {k' n : Nat} {E : Int} {L : List Vr} (h : L.length = n) : Ending.returned (.tuple #[.slice y n k', .int .i64 E]) = .returned (.tuple #[.slice y (L, E).1.length k', .int .i64 (L, E).2]) := by subst h; rfl
section
variable {B : Nat} {a : Option Addr} {c : Nat} {l : List Vr}
set_option maxRecDepth 100000 in
set_option maxHeartbeats 4000000 in
theorem rput_some (w : World) (V : Vers B w a c l) (hs : Sm l) (t m ra rn ri rp rk rt : Int) (hwr : ∀ z ∈ fR ⟨ra, rn, ri, rp, rk, rt⟩, (Lit.int .i64 z).wf = true) (h : ¬ (mayR ⟨ra, rn, ri, rp, rk, rt⟩ = false ∨ t < 1 ∨ 4095 < t)) {i : Nat} (hw : whereT l t = some i) :
    Calls Try.prog 13 #[.slice a l.length c, .int .i64 t, .agg #[.int .i64 ra, .int .i64 rn, .int .i64 ri, .int .i64 rp, .int .i64 rk, .int .i64 rt], .int .i64 m] w fun e w' => ∃ (x : Option Addr) (k : Nat), e = .returned (.tuple #[.slice x (putT l t ⟨ra, rn, ri, rp, rk, rt⟩ m).1.length k, .int .i64 (putT l t ⟨ra, rn, ri, rp, rk, rt⟩ m).2]) ∧ Vers 0 w' x k (putT l t ⟨ra, rn, ri, rp, rk, rt⟩ m).1 ∧ Below w.heap.size w w' := by
  have HP : Hid (¬ (mayR ⟨ra, rn, ri, rp, rk, rt⟩ = false ∨ t < 1 ∨ 4095 < t)) := h
  have HS : Hid (Sm l) := hs
  have HWH : Hid (whereT l t = some i) := hw
  have ho : ofT l t = some (l.getD i default).l := by rw [of_where, hw]; rfl
  have hil := (where_lt hw).1
  have HIL : Hid (i < l.length) := hil
  have hrl : (l.getD i default).l.length ≤ 100 := hs.2 _ (mem_getD hil)
  obtain ⟨res, HRES⟩ : ∃ res, Hid (putT l t ⟨ra, rn, ri, rp, rk, rt⟩ m = res) := ⟨_, rfl⟩
  rw [HRES.out]
  clear h hs hw hil
  have hb0 := below_new w (.cells #[.int .i64 ra, .int .i64 rn, .int .i64 ri, .int .i64 rp, .int .i64 rk, .int .i64 rt] 28)
  have X := Lies.new w [ra, rn, ri, rp, rk, rt] 28 rfl
  obtain ⟨x0, x1, x2, x3, x4, x5⟩ := X.six
  have cM := rrMay_any ra rn ri rp rk rt (w.alloc (.cells #[.int .i64 ra, .int .i64 rn, .int .i64 ri, .int .i64 rp, .int .i64 rk, .int .i64 rt] 28))
  have hm2 : okR ra rn ri rp rk rt = true := by
    have h1 := HP.out
    cases h2 : okR ra rn ri rp rk rt with
    | true => rfl
    | false => exact absurd (.inl h2) h1
  rw [hm2] at cM
  have htb : decide (t < 1) = false := decide_eq_false fun h2 => HP.out (.inr (.inl h2))
  have ht2 : decide (4095 < t) = false := decide_eq_false fun h2 => HP.out (.inr (.inr h2))
  clear hm2
  go_enter Try.func13, Try.ntmps13
  go_wp2_with fail
  refine cM.mono ?_
  clear cM
  rintro e w1 ⟨rfl, hb1⟩
  have hbA := below_step hb0 hb1
  have X1 := X.later hb1
  clear x0 x1 x2 x3 x4 x5 X hb1
  have cO := rof_own w1 (V.later hbA) HS.out t
  rw [ho] at cO
  dsimp only [Option.getD_some, Option.isSome_some] at cO
  clear ho
  obtain ⟨rs, hrs⟩ : ∃ rs, (l.getD i default).l = rs := ⟨_, rfl⟩
  rw [hrs] at cO hrl
  have HRS : Hid ((l.getD i default).l = rs) := hrs
  clear hrs
  go_wp2_with fail
  refine cO.mono ?_
  clear cO
  rintro e w2 ⟨v, rfl, own, hwf, hb2⟩
  have X2 := X1.later hb2
  have hbB := below_step hbA hb2
  have hs2 := hbA.size
  have hs12 := hb2.size
  clear X1 hb2 hbA
  obtain ⟨x1, k1, ev, R1⟩ := rds_of_owns fR_len own rfl hwf
  subst ev
  go_wp2_with fail
  go_loopw [13] (fun vi wr => ∃ k : Nat, vi = .int .i64 (k : Nat) ∧ Hid (k ≤ rs.length ∧ ∀ j, j < k → alike (rs.getD j default) ⟨ra, rn, ri, rp, rk, rt⟩ = false) ∧ Below w2.heap.size w2 wr) (fun vi _ => rs.length - (intOf vi).toNat)
  case atStart => exact ⟨0, rfl, ⟨Nat.zero_le _, fun j hj => absurd hj (Nat.not_lt_zero _)⟩, Below.refl _ _⟩
  case round =>
    obtain ⟨k, rfl, HK, hbr⟩ := hrel
    by_cases hlt : k < rs.length
    · have hkz : (k : Int) < (rs.length : Int) := Int.ofNat_lt.2 hlt
      have gk := getD_at hlt
      have HLT : Hid (k < rs.length) := hlt
      have NN : Hid (alike (rs.getD k default) ⟨ra, rn, ri, rp, rk, rt⟩ = false → ∀ j, j < k + 1 → alike (rs.getD j default) ⟨ra, rn, ri, rp, rk, rt⟩ = false) := fun hf j hj => by
        rcases Nat.lt_or_ge j k with h1 | h1
        · exact HK.out.2 j h1
        · rw [show j = k by omega]; exact hf
      have NY : Hid (alike (rs.getD k default) ⟨ra, rn, ri, rp, rk, rt⟩ = true → res = (l.set i ⟨(l.getD i default).t, rs.set k ⟨ra, rn, ri, rp, rk, rt⟩⟩, 0)) := fun hf => by
        have := putT_same (m := m) HP.out HWH.out (k := k) (by rw [HRS.out]; exact HLT.out) (by rw [HRS.out]; exact HK.out.2) (by rw [HRS.out]; exact hf)
        rw [HRES.out, HRS.out] at this
        exact this
      generalize rs.getD k default = s at gk NN NY
      generalize hal : alike s ⟨ra, rn, ri, rp, rk, rt⟩ = b at NN NY
      obtain ⟨sa, sn, si, sp, sk, st⟩ := s
      have X3 := X2.later hbr
      have own3 := own_laterR own hbr
      rcases own3.2 with ⟨ev, h0⟩ | ⟨g, cap, cur, ev, hbg, hgg, hnc, hcm, hcs, htk⟩
      · omega
      cases ev
      have hgl : g < wr.heap.size := (Array.getElem?_eq_some_iff.1 hgg).1
      have cA := fun u : BW wr => calls_bw (p := u) (rrAlike_any sa sn si sp sk st ra rn ri rp rk rt u.w)
      rw [show likeB sa sn si sp ra rn ri rp = b from hal] at cA
      have hce : ∀ j (z : Int), (fR ⟨sa, sn, si, sp, sk, st⟩)[j]? = some z → j < 6 → wr.cell? ⟨g, k * 6 + j, none⟩ = some (.int .i64 z) := fun j z hz hj => by
        rw [own3.cellAt (k * 6 + j) (by omega)]
        exact flatV_get fR_len gk hz
      clear hal hlt gk HK hgg hnc hcm hcs htk cur
      obtain ⟨x0, x1, x2, x3, x4, x5⟩ := X3.six
      have y0 := cell_bw X3.lt x0
      have y1 := cell_bw X3.lt x1
      have y2 := cell_bw X3.lt x2
      have y3 := cell_bw X3.lt x3
      have y4 := cell_bw X3.lt x4
      have y5 := cell_bw X3.lt x5
      have z0 := cell_bw (a := ⟨g, k * 6, none⟩) hgl (hce 0 _ rfl (by decide))
      have z1 := cell_bw (a := ⟨g, k * 6 + 1, none⟩) hgl (hce 1 _ rfl (by decide))
      have z2 := cell_bw (a := ⟨g, k * 6 + 2, none⟩) hgl (hce 2 _ rfl (by decide))
      have z3 := cell_bw (a := ⟨g, k * 6 + 3, none⟩) hgl (hce 3 _ rfl (by decide))
      have z4 := cell_bw (a := ⟨g, k * 6 + 4, none⟩) hgl (hce 4 _ rfl (by decide))
      have z5 := cell_bw (a := ⟨g, k * 6 + 5, none⟩) hgl (hce 5 _ rfl (by decide))
      clear x0 x1 x2 x3 x4 x5 hce
      go_wp2_with fail
      refine wp_region_below (by kernel_rfl) (by kernel_rfl) ?_
      iterate 5 (quiet_step (fail))
      quiet_step ((go_at_call 37; exact cA _))
      repeat (quiet_step (fail))
      refine wpQuiet_nil ?_
      rintro _ ⟨bw, rfl⟩
      cases b with
      | false =>
        have N2 := show Hid _ from NN.out rfl
        have hb3 := below_step hbr bw.hb
        clear cA y0 y1 y2 y3 y4 y5 z0 z1 z2 z3 z4 z5 NN NY
        generalize bw.w = w3 at hb3 ⊢
        clear bw
        go_wp2_with fail
        go_roundw
        case rel => exact ⟨k + 1, by go_num, ⟨HLT.out, N2.out⟩, hb3⟩
        case measure => have h := HLT.out; simp [intOf]; omega
      | true =>
        obtain rfl := NY.out rfl
        have hb3 := below_step hbr bw.hb
        have own4 := own_laterR own3 bw.hb
        obtain ⟨x0, x1, x2, x3, x4, x5⟩ := (X3.later bw.hb).six
        have c0 := z0 bw
        have c1 := z1 bw
        have c2 := z2 bw
        have c3 := z3 bw
        have c4 := z4 bw
        have c5 := z5 bw
        have f0 := own4.frozenAt (k * 6)
        have f1 := own4.frozenAt (k * 6 + 1)
        have f2 := own4.frozenAt (k * 6 + 2)
        have f3 := own4.frozenAt (k * 6 + 3)
        have f4 := own4.frozenAt (k * 6 + 4)
        have f5 := own4.frozenAt (k * 6 + 5)
        clear cA y0 y1 y2 y3 y4 y5 z0 z1 z2 z3 z4 z5 NN NY own3 hgl
        have hbC := below_step hbB hb3
        generalize bw.w = w3 at hb3 hbC own4 x0 x1 x2 x3 x4 x5 c0 c1 c2 c3 c4 c5 f0 f1 f2 f3 f4 f5 ⊢
        clear bw
        go_wp2_with fail
        obtain ⟨own6, hg6⟩ := own_put6 own4 HLT.out ⟨ra, rn, ri, rp, rk, rt⟩
        have hb6 := hbC.grown hg6 hbC.size (fun q hq => by cases hq; exact Nat.le_trans hs2 hbg)
        simp only [Nat.add_zero] at own6 hb6
        clear own4 hg6 hb3 hbC x0 x1 x2 x3 x4 x5 c0 c1 c2 c3 c4 c5 f0 f1 f2 f3 f4 f5
        have hwf6 : ∀ y ∈ rs.set k ⟨ra, rn, ri, rp, rk, rt⟩, ∀ z ∈ fR y, (Lit.int .i64 z).wf = true := fun y hy => by
          rcases List.mem_or_eq_of_mem_set hy with h1 | h1
          · exact hwf y h1
          · rw [h1]; exact hwr
        obtain ⟨x6, k6, e6, R6⟩ := rds_of_owns fR_len own6 (by rw [List.length_set]) hwf6
        cases e6
        generalize ((((((w3.setCell ⟨g, k * 6, none⟩ (.int .i64 ra)).setCell ⟨g, k * 6 + 1, none⟩ (.int .i64 rn)).setCell ⟨g, k * 6 + 2, none⟩ (.int .i64 ri)).setCell ⟨g, k * 6 + 3, none⟩ (.int .i64 rp)).setCell ⟨g, k * 6 + 4, none⟩ (.int .i64 rk)).setCell ⟨g, k * 6 + 5, none⟩ (.int .i64 rt)) = w4 at own6 hb6 R6 ⊢
        have cW := rwhere_any w4 (V.later hb6) HS.out.1 t
        rw [show whereI l t = (i : Int) by unfold whereI; rw [HWH.out]] at cW
        refine cW.mono ?_
        clear cW
        rintro e w5 ⟨rfl, hb7⟩
        have hb10 := below_step hb6 hb7
        have cI := rwith_any w5 (V.later hb10) HS.out.1 HIL.out (R6.later hb7)
        rw [List.length_set] at cI
        clear hb6 hb7 R6 own6
        go_wp2_with fail
        refine cI.mono ?_
        clear cI
        rintro e w6 ⟨y, k', rfl, ⟨V6, -⟩, hb8⟩
        have hb9 := below_step hb10 hb8
        clear hb10 hb8
        go_wp2_with fail
        go_ret2
        exact ⟨y, k', by first | rfl | (dsimp only; rw [List.length_set]; rfl), V6, hb9⟩
    · have hke : k = rs.length := by have h := HK.out.1; omega
      have hkz : ¬ (k : Int) < (rs.length : Int) := by omega
      have HNO : Hid (∀ j, j < (l.getD i default).l.length → alike ((l.getD i default).l.getD j default) ⟨ra, rn, ri, rp, rk, rt⟩ = false) := fun j hj => by
        rw [HRS.out] at hj ⊢
        exact HK.out.2 j (by omega)
      have hbC := below_step hbB hbr
      have X3 := X2.later hbr
      have own3 := own_laterR own hbr
      have hs1r := Nat.le_trans hs12 hbr.size
      clear HK hke hlt hbr hbB X2 own
      have cS := rsize_any wr (V.later hbC) HS.out
      go_wp2_with fail
      refine cS.mono ?_
      clear cS
      rintro e w3 ⟨rfl, hb3⟩
      have hbD := below_step hbC hb3
      have X4 := X3.later hb3
      have own4 := own_laterR own3 hb3
      have hsz4 := Nat.le_trans hs1r hb3.size
      clear hbC hb3 X3 own3
      by_cases hm : m ≤ ((sizeT l : Nat) : Int)
      · obtain rfl : res = (l, 7) := by rw [← HRES.out]; exact putT_full1 HP.out HWH.out HNO.out hm
        have hmb : decide (m ≤ ((sizeT l : Nat) : Int)) = true := decide_eq_true hm
        have V6 := (V.later hbD).low (Nat.zero_le _)
        clear hm
        go_wp2_with fail
        go_ret2
        exact ⟨a, c, rfl, V6, hbD⟩
      · obtain rfl : res = (l.set i ⟨(l.getD i default).t, rs ++ [(⟨ra, rn, ri, rp, rk, rt⟩ : Rl)]⟩, 0) := by
          have := putT_more (m := m) HP.out HWH.out HNO.out hm
          rw [HRES.out, HRS.out] at this
          exact this
        have hmb : decide (m ≤ ((sizeT l : Nat) : Int)) = false := decide_eq_false hm
        obtain ⟨x0, x1, x2, x3, x4, x5⟩ := X4.six
        clear hm HNO
        go_wp2_with (at_builtin; refine wpRds_one fR_len (by decide) _ ⟨ra, rn, ri, rp, rk, rt⟩ 28 rfl rfl (.tmp 66) (.tmp 68) 36 rfl w1.heap.size 48 _ Try.underlying36 infoR9 rfl rfl own4 rfl (by omega) (by decide) hsz4 ?_; intro v9 w4 own9 hg9; apply Classical.byContradiction; intro hstop)
        have hbn := below_new w3 (.cells ((fR ⟨ra, rn, ri, rp, rk, rt⟩).map (Value.int .i64)).toArray 28)
        have hb6 : Below w.heap.size w w4 := below_growR ((hbD.trans (hbn.mono hbD.size))) (own_low (own4.alloc _) hs2) hg9 (Nat.le_trans hbD.size hbn.size)
        have hwf6 : ∀ y ∈ rs ++ [(⟨ra, rn, ri, rp, rk, rt⟩ : Rl)], ∀ z ∈ fR y, (Lit.int .i64 z).wf = true := fun y hy => by
          rcases List.mem_append.1 hy with h1 | h1
          · exact hwf y h1
          · rw [List.mem_singleton.1 h1]; exact hwr
        have own6 : w4.ownsRow w1.heap.size 28 6 v9 (rs ++ [(⟨ra, rn, ri, rp, rk, rt⟩ : Rl)]).length (flatV fR (rs ++ [(⟨ra, rn, ri, rp, rk, rt⟩ : Rl)])) := by rw [List.length_append]; exact own9
        obtain ⟨x6, k6, rfl, R6⟩ := rds_of_owns fR_len own6 rfl hwf6
        rw [show (rs ++ [(⟨ra, rn, ri, rp, rk, rt⟩ : Rl)]).length = rs.length + 1 from List.length_append] at hstop
        clear own9 hg9 own4 X4 x0 x1 x2 x3 x4 x5 hsz4 hbn
        have cW := rwhere_any w4 (V.later hb6) HS.out.1 t
        apply hstop
        clear hstop
        go_wp2_with fail
        rw [show whereI l t = (i : Int) by unfold whereI; rw [HWH.out]] at cW
        refine cW.mono ?_
        clear cW
        rintro e w5 ⟨rfl, hb7⟩
        have hb10 := below_step hb6 hb7
        have cI := rwith_any w5 (V.later hb10) HS.out.1 HIL.out (R6.later hb7)
        rw [List.length_append] at cI
        clear hb6 hb7 R6 own6
        go_wp2_with fail
        refine cI.mono ?_
        clear cI
        rintro e w6 ⟨y, k', rfl, ⟨V6, -⟩, hb8⟩
        have hb9 := below_step hb10 hb8
        clear hb10 hb8
        go_wp2_with fail
        go_ret2
        exact ⟨y, k', by first | rfl | (dsimp only; rw [List.length_set]; rfl), V6, hb9⟩
end
end Go.Proofs.Ytlfnciiomfcjpaa
