/- What the code's Put answers where there is a version of the tag. -/
import Derived.Test.YtlfnciiomfcjpaaTabCPut
namespace Go.Proofs.Ytlfnciiomfcjpaa
open Go.ChangeShapes Go.WideShapes Go.ChangeAt Go.RowKit Pk Tb R
set_option linter.unusedVariables false
set_option linter.unusedSimpArgs false

set_option maxHeartbeats 4000000 in
theorem put_some (w : World) {B : Nat} {a : Option Addr} {c : Nat} {l : List Vr} (V : Vers B w a c l) (hs : Sm l) (t m ra rn ri rp rk rt : Int) (hw : ∀ z ∈ fR ⟨ra, rn, ri, rp, rk, rt⟩, (Lit.int .i64 z).wf = true) (HP : Hid (¬ (mayR ⟨ra, rn, ri, rp, rk, rt⟩ = false ∨ t < 1 ∨ 4095 < t))) {i : Nat} (hwh : whereT l t = some i) :
    Calls Try.prog 12 #[.slice a l.length c, .int .i64 t, .agg #[.int .i64 ra, .int .i64 rn, .int .i64 ri, .int .i64 rp, .int .i64 rk, .int .i64 rt], .int .i64 m] w fun e w' => ∃ (x : Option Addr) (k : Nat), e = .returned (.tuple #[.slice x (putT l t ⟨ra, rn, ri, rp, rk, rt⟩ m).1.length k, .int .i64 (putT l t ⟨ra, rn, ri, rp, rk, rt⟩ m).2]) ∧ Vers w.heap.size w' x k (putT l t ⟨ra, rn, ri, rp, rk, rt⟩ m).1 ∧ Loose w' x (putT l t ⟨ra, rn, ri, rp, rk, rt⟩ m).1 ∧ Below w.heap.size w w' := by
  have HRES : Hid (putT l t ⟨ra, rn, ri, rp, rk, rt⟩ m = putT l t ⟨ra, rn, ri, rp, rk, rt⟩ m) := rfl
  obtain ⟨res, hres⟩ : ∃ res, putT l t ⟨ra, rn, ri, rp, rk, rt⟩ m = res := ⟨_, rfl⟩
  rw [hres]
  replace HRES : Hid (putT l t ⟨ra, rn, ri, rp, rk, rt⟩ m = res) := hres
  clear hres
  have HTAG : Hid (decide (1 ≤ t ∧ t ≤ 4095) = true) := decide_eq_true ⟨by have h := HP.out; omega, by have h := HP.out; omega⟩
  have HOK : Hid (okR ra rn ri rp rk rt = true) := by
    have h1 := HP.out
    cases h2 : okR ra rn ri rp rk rt with
    | true => rfl
    | false => exact absurd (.inl h2) h1
  have hmf : ∀ (fn : Fn) (first cap : Array Value) (w : World), (Instr.makeFunc fn first cap).run Try.prog w = .ok (.func fn first cap) w := fun _ _ _ _ => rfl
  have HW0 : Hid (whereT l t = some i) := hwh
  obtain ⟨hi, -, -⟩ := where_lt hwh
  have HWN : Hid (whereN l t = i) := by show _ = _; unfold whereN; rw [hwh]; rfl
  have HI : Hid (i < l.length) := hi
  have gk := getD_atV hi
  have hv := hs.2 _ (List.mem_of_getElem? gk)
  have HS : Hid (Sm l) := hs
  have HW : Hid (∀ z ∈ fR ⟨ra, rn, ri, rp, rk, rt⟩, (Lit.int .i64 z).wf = true) := hw
  obtain ⟨vi, hvi⟩ : ∃ v, l.getD i default = v := ⟨_, rfl⟩
  rw [hvi] at gk hv
  have HVI : Hid (l.getD i default = vi) := hvi
  have GK : Hid (l[i]? = some vi) := gk
  clear hwh hi hvi gk hw
  have hbT := below_new w (.cells #[.int .i64 t] 3)
  have hbR := below_new (w.alloc (.cells #[.int .i64 t] 3)) (.cells #[.int .i64 ra, .int .i64 rn, .int .i64 ri, .int .i64 rp, .int .i64 rk, .int .i64 rt] 28)
  have XT0 := Lies.new w [t] 3 rfl
  have XR0 := Lies.new (w.alloc (.cells #[.int .i64 t] 3)) [ra, rn, ri, rp, rk, rt] 28 rfl
  have hb0 : Below w.heap.size w ((w.alloc (.cells #[.int .i64 t] 3)).alloc (.cells #[.int .i64 ra, .int .i64 rn, .int .i64 ri, .int .i64 rp, .int .i64 rk, .int .i64 rt] 28)) := below_step hbT hbR
  have XT : Lies ((w.alloc (.cells #[.int .i64 t] 3)).alloc (.cells #[.int .i64 ra, .int .i64 rn, .int .i64 ri, .int .i64 rp, .int .i64 rk, .int .i64 rt] 28)) w.heap.size [t] := XT0.later hbR
  have XR : Lies ((w.alloc (.cells #[.int .i64 t] 3)).alloc (.cells #[.int .i64 ra, .int .i64 rn, .int .i64 ri, .int .i64 rp, .int .i64 rk, .int .i64 rt] 28)) (w.heap.size + 1) [ra, rn, ri, rp, rk, rt] := by have h := XR0; rwa [size_alloc1] at h
  have cC := copied_any ((w.alloc (.cells #[.int .i64 t] 3)).alloc (.cells #[.int .i64 ra, .int .i64 rn, .int .i64 ri, .int .i64 rp, .int .i64 rk, .int .i64 rt] 28)) (V.later hb0) hs
  have hl := hs.1
  clear hbT hbR XT0 XR0 V
  clear hs
  go_enter Try.func12, Try.ntmps12
  go_wp2_with fail
  refine cC.mono ?_
  clear cC
  rintro e w1 ⟨u, rfl, M1, hb1⟩
  replace M1 := M1.low hb0.size
  have XT1 := XT.later hb1
  have XR1 := XR.later hb1
  have hbA := below_step hb0 hb1
  obtain ⟨a1, c1, rfl, -⟩ := M1.vers
  obtain ⟨xr0, xr1, xr2, xr3, xr4, xr5⟩ := XR1.six
  have xt0 := XT1.cells 0 t rfl
  clear hb0 hb1 XT XR
  go_wp2_with fail
  refine (mayTag_any w1 t).mono ?_
  rintro e w1' ⟨rfl, rfl⟩
  rw [HTAG.out]
  have cM := ruMay_any ra rn ri rp rk rt w1'
  rw [show okR ra rn ri rp rk rt = true from HOK.out] at cM
  go_wp2_with fail
  refine cM.mono ?_
  clear cM
  rintro e w2 ⟨rfl, hb2⟩
  replace M1 := M1.later hb2
  replace XT1 := XT1.later hb2
  replace XR1 := XR1.later hb2
  replace hbA := below_step hbA hb2
  clear xr0 xr1 xr2 xr3 xr4 xr5 xt0 hb2
  obtain ⟨a2, c2, e2, V2, -⟩ := M1.vers
  injection e2 with e3 e4 e5
  subst e3; subst e5
  clear e4
  have cW := version_any w2 V2 (by omega) t
  have xt0 := XT1.cells 0 t rfl
  rw [HWN.out] at cW
  clear V2
  go_wp2_with fail
  refine cW.mono ?_
  clear cW
  rintro e w3 ⟨rfl, hb3⟩
  replace M1 := M1.later hb3
  replace XT1 := XT1.later hb3
  replace XR1 := XR1.later hb3
  replace hbA := below_step hbA hb3
  clear xt0 hb3
  obtain ⟨g, cap, p, e6, hlc, hBg, hgl, c0, cc1, hat, fz, hput1, hput2⟩ := M1.split GK.out
  injection e6 with e7 e8 e9
  subst e7; subst e9
  clear e8
  have HP1 : Hid _ := hput1
  have HP2 : Hid _ := hput2
  have cR := rules_some w3 g 0 l.length c1 i HI.out (by omega) vi.t p.x vi.l.length p.c (by rw [Nat.zero_add]; exact cc1)
  clear hput1 hput2 c0 hlc
  go_wp2_with fail
  refine cR.mono ?_
  clear cR
  rintro e w3' ⟨rfl, rfl⟩
  have cF := find3_any w3' hat.rds (by omega) ra rn ri rp rk rt XR1
  obtain ⟨k, hk⟩ : ∃ k, vi.l.findIdx (fun s => alike s ⟨ra, rn, ri, rp, rk, rt⟩) = k := ⟨_, rfl⟩
  have hkl : k ≤ vi.l.length := by rw [← hk]; exact List.findIdx_le_length
  rw [hk] at cF
  have HK : Hid (vi.l.findIdx (fun s => alike s ⟨ra, rn, ri, rp, rk, rt⟩) = k) := hk
  clear hk
  go_wp2_with fail
  refine cF.mono ?_
  clear cF
  rintro e w4 ⟨rfl, hb4⟩
  have XR4 := XR1.later hb4
  have hbD := below_step hbA hb4
  have M4 := M1.later hb4
  clear XT1 XR1
  by_cases hkn : k < vi.l.length
  · have hkz : (k : Int) < (vi.l.length : Int) := Int.ofNat_lt.2 hkn
    obtain ⟨hno, hyes⟩ := place_yes HK.out hkn
    have HRS : Hid (res = (l.set i ⟨vi.t, vi.l.set k ⟨ra, rn, ri, rp, rk, rt⟩⟩, 0)) := by
      have h := putT_same (m := m) HP.out HW0.out (k := k) (by rw [HVI.out]; exact hkn) (by rw [HVI.out]; exact hno) (by rw [HVI.out]; exact hyes)
      rw [HRES.out, HVI.out] at h
      exact h
    have hat4 := hat.later hb4
    obtain ⟨b, e10⟩ : ∃ b, p.x = some ⟨b, 0, none⟩ := by
      rcases hat4.own.2 with ⟨e1, h0⟩ | ⟨g2, cap2, cur, e1, -⟩
      · omega
      · injection e1 with e1 _ _
        exact ⟨g2, e1⟩
    have own4 := hat4.own
    rw [hat4.n, e10] at own4
    have hbb := (own4.lt b rfl).1
    have hce : ∀ j (z : Int), (fR (vi.l.getD k default))[j]? = some z → j < 6 → w4.cell? ⟨b, k * 6 + j, none⟩ = some (.int .i64 z) := fun j z hz hj => by
      rw [own4.cellAt (k * 6 + j) (by omega)]
      exact flatV_get fR_len (getD_at hkn) hz
    have d0 := hce 0 _ rfl (by decide)
    have d1 := hce 1 _ rfl (by decide)
    have d2 := hce 2 _ rfl (by decide)
    have d3 := hce 3 _ rfl (by decide)
    have d4 := hce 4 _ rfl (by decide)
    have d5 := hce 5 _ rfl (by decide)
    rw [Nat.add_zero] at d0
    have f0 := own4.frozenAt (k * 6)
    have f1 := own4.frozenAt (k * 6 + 1)
    have f2 := own4.frozenAt (k * 6 + 2)
    have f3 := own4.frozenAt (k * 6 + 3)
    have f4 := own4.frozenAt (k * 6 + 4)
    have f5 := own4.frozenAt (k * 6 + 5)
    generalize vi.l.getD k default = s0 at d0 d1 d2 d3 d4 d5
    obtain ⟨x0, x1, x2, x3, x4, x5⟩ := XR4.six
    obtain ⟨own6, hg6⟩ := own_put6 own4 hkn ⟨ra, rn, ri, rp, rk, rt⟩
    have hb6 := hbD.grown hg6 hbD.size (fun q hq => by cases hq; exact hbb)
    simp only [Nat.add_zero] at own6 hb6 hg6
    have hwf6 : ∀ y ∈ vi.l.set k ⟨ra, rn, ri, rp, rk, rt⟩, ∀ z ∈ fR y, (Lit.int .i64 z).wf = true := fun y hy => by
      rcases List.mem_or_eq_of_mem_set hy with h1 | h1
      · exact hat.wfs y h1
      · rw [h1]; exact HW.out
    have hg6' : w3'.grownBy _ (some b) := grown_trans ⟨hb4.os, hb4.tape, hb4.output, hb4.size, fun k hk _ => hb4.block k hk⟩ hg6
    have M6 := HP1.out _ b (vi.l.set k ⟨ra, rn, ri, rp, rk, rt⟩) (by unfold blkOf; rw [e10]; rfl) hg6' ⟨hat.t, hat.wf, by rw [List.length_set]; exact hat.n, by rw [List.length_set, hat.n, e10]; exact own6, hwf6⟩
    obtain ⟨a7, c7, e11, V7, L7⟩ := M6.vers
    rw [List.length_set] at e11
    injection e11 with e12 _ e13
    subst e12; subst e13
    have HL : Hid ((l.set i ⟨vi.t, vi.l.set k ⟨ra, rn, ri, rp, rk, rt⟩⟩).length = l.length) := List.length_set
    rw [e10]
    clear hkn hno hyes hat hat4 own4 own6 hg6 hg6' hwf6 M6 HP1 HP2 M1 M4 hce hbA hbD hb4 cc1 fz
    go_wp2_with fail
    go_ret2
    rw [HRS.out]
    exact ⟨_, _, by dsimp only; rw [HL.out]; rfl, V7, L7, hb6⟩
  · obtain rfl : k = vi.l.length := by omega
    have hno := place_no HK.out
    have HNO : Hid (∀ j, j < (l.getD i default).l.length → alike ((l.getD i default).l.getD j default) ⟨ra, rn, ri, rp, rk, rt⟩ = false) := by show ∀ _, _; rw [HVI.out]; exact hno
    obtain ⟨a4, c4, e4, V4, L4⟩ := M4.vers
    cases e4
    have cS := size_any w4 V4 HS.out
    clear V4 L4 hkn hno hkl
    go_wp2_with fail
    refine cS.mono ?_
    clear cS
    rintro e w5 ⟨rfl, hb5⟩
    have M5 := M4.later hb5
    have XR5 := XR4.later hb5
    have hbE := below_step hbD hb5
    have hb45 := below_step hb4 hb5
    clear M4 XR4 hbD hbA
    by_cases hm : m ≤ ((sizeT l : Nat) : Int)
    · have HRS : Hid (res = (l, 7)) := by
        show _ = _
        rw [← HRES.out]; exact putT_full1 HP.out HW0.out HNO.out hm
      have hmb : decide (m ≤ ((sizeT l : Nat) : Int)) = true := decide_eq_true hm
      obtain ⟨a6, c6, e6, V6, L6⟩ := M5.vers
      cases e6
      clear hm M5 M1 XR5 hb45 hb5 hb4 hat HP1 HP2 cc1 fz
      go_wp2_with fail
      go_ret2
      rw [HRS.out]
      exact ⟨_, _, rfl, V6, L6, hbE⟩
    · have HRS : Hid (res = (l.set i ⟨vi.t, vi.l ++ [(⟨ra, rn, ri, rp, rk, rt⟩ : Rl)]⟩, 0)) := by
        have h := putT_more (m := m) HP.out HW0.out HNO.out hm
        rw [HRES.out, HVI.out] at h
        exact h
      have hmb : decide (m ≤ ((sizeT l : Nat) : Int)) = false := decide_eq_false hm
      have cG := grownR_any w5 (hat.later hb45).rds rfl (by omega) (k := vi.l.length) (Nat.le_refl _) ra rn ri rp rk rt
      obtain ⟨x0, x1, x2, x3, x4, x5⟩ := XR5.six
      clear hm M5 hb5 hb4 HP1
      go_wp2_with fail
      refine cG.mono ?_
      clear cG
      rintro e w6 ⟨u, rfl, own6, hb6⟩
      rw [List.take_length, List.drop_length] at own6
      have hlen : (vi.l ++ [(⟨ra, rn, ri, rp, rk, rt⟩ : Rl)]).length = vi.l.length + 1 := List.length_append
      have hwf6 : ∀ y ∈ vi.l ++ [(⟨ra, rn, ri, rp, rk, rt⟩ : Rl)], ∀ z ∈ fR y, (Lit.int .i64 z).wf = true := fun y hy => by
        rcases List.mem_append.1 hy with h1 | h1
        · exact hat.wfs y h1
        · rw [List.mem_singleton.1 h1]; exact HW.out
      obtain ⟨x6, k6, rfl, -⟩ := rds_of_owns fR_len own6 hlen hwf6
      have hb36 := below_step hb45 hb6
      have M7 := HP2.out w6 x6 k6 (vi.l ++ [(⟨ra, rn, ri, rp, rk, rt⟩ : Rl)]) hb36 (by rw [hlen]; exact own_base own6 hb45.size) hwf6
      rw [hlen] at M7
      have d1 := (hb36.cell (p := ⟨g, i * 2 + 1, none⟩) hgl).trans cc1
      have f1 := (hb36.frozen (p := ⟨g, i * 2 + 1, none⟩) hgl).trans (fz _)
      have hb7 := (below_step hbE hb6).setCell (p := ⟨g, i * 2 + 1, none⟩) hBg (.slice x6 (vi.l.length + 1) k6)
      obtain ⟨a7, c7, e11, V7, L7⟩ := M7.vers
      rw [List.length_set] at e11
      injection e11 with e12 _ e13
      subst e12; subst e13
      have HL : Hid ((l.set i ⟨vi.t, vi.l ++ [(⟨ra, rn, ri, rp, rk, rt⟩ : Rl)]⟩).length = l.length) := List.length_set
      clear own6 hwf6 hlen M7 HP2 hb36 hb45 hbE hb6 XR5 M1 hat cc1 fz x0 x1 x2 x3 x4 x5
      go_wp2_with fail
      go_ret2
      rw [HRS.out]
      exact ⟨_, _, by dsimp only; rw [HL.out]; rfl, V7, L7, hb7⟩
end Go.Proofs.Ytlfnciiomfcjpaa
