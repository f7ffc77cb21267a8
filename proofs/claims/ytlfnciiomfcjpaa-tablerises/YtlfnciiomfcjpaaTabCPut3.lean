/- What the code's Put answers where there is no version of the tag. -/
import Derived.Test.YtlfnciiomfcjpaaTabCPut2
namespace Go.Proofs.Ytlfnciiomfcjpaa
open Go.ChangeShapes Go.WideShapes Go.ChangeAt Go.RowKit Pk Tb R
set_option linter.unusedVariables false
set_option linter.unusedSimpArgs false

set_option maxHeartbeats 4000000 in
theorem put_none (w : World) {B : Nat} {a : Option Addr} {c : Nat} {l : List Vr} (V : Vers B w a c l) (hs : Sm l) (t m ra rn ri rp rk rt : Int) (hw : ∀ z ∈ fR ⟨ra, rn, ri, rp, rk, rt⟩, (Lit.int .i64 z).wf = true) (HP : Hid (¬ (mayR ⟨ra, rn, ri, rp, rk, rt⟩ = false ∨ t < 1 ∨ 4095 < t))) (hwh : whereT l t = none) :
    Calls Try.prog 12 #[.slice a l.length c, .int .i64 t, .agg #[.int .i64 ra, .int .i64 rn, .int .i64 ri, .int .i64 rp, .int .i64 rk, .int .i64 rt], .int .i64 m] w fun e w' => ∃ (x : Option Addr) (k : Nat), e = .returned (.tuple #[.slice x (putT l t ⟨ra, rn, ri, rp, rk, rt⟩ m).1.length k, .int .i64 (putT l t ⟨ra, rn, ri, rp, rk, rt⟩ m).2]) ∧ Vers w.heap.size w' x k (putT l t ⟨ra, rn, ri, rp, rk, rt⟩ m).1 ∧ Loose w' x (putT l t ⟨ra, rn, ri, rp, rk, rt⟩ m).1 ∧ Below w.heap.size w w' := by
  obtain ⟨res, hres⟩ : ∃ res, putT l t ⟨ra, rn, ri, rp, rk, rt⟩ m = res := ⟨_, rfl⟩
  rw [hres]
  have HRES : Hid (putT l t ⟨ra, rn, ri, rp, rk, rt⟩ m = res) := hres
  clear hres
  have HTAG : Hid (decide (1 ≤ t ∧ t ≤ 4095) = true) := decide_eq_true ⟨by have h := HP.out; omega, by have h := HP.out; omega⟩
  have HOK : Hid (okR ra rn ri rp rk rt = true) := by
    have h1 := HP.out
    cases h2 : okR ra rn ri rp rk rt with
    | true => rfl
    | false => exact absurd (.inl h2) h1
  have hmf : ∀ (fn : Fn) (first cap : Array Value) (w : World), (Instr.makeFunc fn first cap).run Try.prog w = .ok (.func fn first cap) w := fun _ _ _ _ => rfl
  have HWN : Hid (whereN l t = l.length) := by show _ = _; unfold whereN; rw [hwh]; rfl
  have HW0 : Hid (whereT l t = none) := hwh
  have HS : Hid (Sm l) := hs
  have HW : Hid (∀ z ∈ fR ⟨ra, rn, ri, rp, rk, rt⟩, (Lit.int .i64 z).wf = true) := hw
  clear hwh hw
  have hbT := below_new w (.cells #[.int .i64 t] 3)
  have hbR := below_new (w.alloc (.cells #[.int .i64 t] 3)) (.cells #[.int .i64 ra, .int .i64 rn, .int .i64 ri, .int .i64 rp, .int .i64 rk, .int .i64 rt] 28)
  have XT0 := Lies.new w [t] 3 rfl
  have XR0 := Lies.new (w.alloc (.cells #[.int .i64 t] 3)) [ra, rn, ri, rp, rk, rt] 28 rfl
  have hb0 : Below w.heap.size w ((w.alloc (.cells #[.int .i64 t] 3)).alloc (.cells #[.int .i64 ra, .int .i64 rn, .int .i64 ri, .int .i64 rp, .int .i64 rk, .int .i64 rt] 28)) := below_step hbT hbR
  have XT : Lies ((w.alloc (.cells #[.int .i64 t] 3)).alloc (.cells #[.int .i64 ra, .int .i64 rn, .int .i64 ri, .int .i64 rp, .int .i64 rk, .int .i64 rt] 28)) w.heap.size [t] := XT0.later hbR
  have XR : Lies ((w.alloc (.cells #[.int .i64 t] 3)).alloc (.cells #[.int .i64 ra, .int .i64 rn, .int .i64 ri, .int .i64 rp, .int .i64 rk, .int .i64 rt] 28)) (w.heap.size + 1) [ra, rn, ri, rp, rk, rt] := by have h := XR0; rwa [size_alloc1] at h
  have cC := copied_any ((w.alloc (.cells #[.int .i64 t] 3)).alloc (.cells #[.int .i64 ra, .int .i64 rn, .int .i64 ri, .int .i64 rp, .int .i64 rk, .int .i64 rt] 28)) (V.later hb0) hs
  have hl := hs.1
  clear hbT hbR XT0 XR0 V
  clear hs
  go_enter Try.func12, Try.ntmps12
  go_wp2_with fail
  refine cC.mono ?_
  clear cC
  rintro e w1 ⟨u, rfl, M1, hb1⟩
  replace M1 := M1.low hb0.size
  have XT1 := XT.later hb1
  have XR1 := XR.later hb1
  have hbA := below_step hb0 hb1
  obtain ⟨a1, c1, rfl, -⟩ := M1.vers
  obtain ⟨xr0, xr1, xr2, xr3, xr4, xr5⟩ := XR1.six
  have xt0 := XT1.cells 0 t rfl
  clear hb0 hb1 XT XR
  go_wp2_with fail
  refine (mayTag_any w1 t).mono ?_
  rintro e w1' ⟨rfl, rfl⟩
  rw [HTAG.out]
  have cM := ruMay_any ra rn ri rp rk rt w1'
  rw [show okR ra rn ri rp rk rt = true from HOK.out] at cM
  go_wp2_with fail
  refine cM.mono ?_
  clear cM
  rintro e w2 ⟨rfl, hb2⟩
  replace M1 := M1.later hb2
  replace XT1 := XT1.later hb2
  replace XR1 := XR1.later hb2
  replace hbA := below_step hbA hb2
  clear xr0 xr1 xr2 xr3 xr4 xr5 xt0 hb2
  obtain ⟨a2, c2, e2, V2, -⟩ := M1.vers
  injection e2 with e3 e4 e5
  subst e3; subst e5
  clear e4
  have cW := version_any w2 V2 (by omega) t
  have xt0 := XT1.cells 0 t rfl
  rw [HWN.out] at cW
  clear V2
  go_wp2_with fail
  refine cW.mono ?_
  clear cW
  rintro e w3 ⟨rfl, hb3⟩
  replace M1 := M1.later hb3
  replace XT1 := XT1.later hb3
  replace XR1 := XR1.later hb3
  replace hbA := below_step hbA hb3
  clear xt0 hb3
  go_wp2_with fail
  refine (rules_none w3 a1 l.length c1).mono ?_
  rintro e w3' ⟨rfl, rfl⟩
  have cF : Calls Try.prog 29 #[.slice none 0 0, .func (.func 30) #[] #[.pointer (some ⟨w.heap.size + 1, 0, none⟩)]] w3' fun e w' => e = .returned (.int .i64 0) ∧ Below w3'.heap.size w3' w' := find3_any w3' (Rds.none fR 6 w3') (by decide) ra rn ri rp rk rt XR1
  go_wp2_with fail
  refine cF.mono ?_
  clear cF
  rintro e w4 ⟨rfl, hb4⟩
  have XR4 := XR1.later hb4
  have XT4 := XT1.later hb4
  have hbD := below_step hbA hb4
  have M4 := M1.later hb4
  clear XT1 XR1 hb4 hbA M1
  obtain ⟨a4, c4, e4, V4, L4⟩ := M4.vers
  cases e4
  have cS := size_any w4 V4 HS.out
  clear V4 L4
  go_wp2_with fail
  refine cS.mono ?_
  clear cS
  rintro e w5 ⟨rfl, hb5⟩
  have M5 := M4.later hb5
  have XR5 := XR4.later hb5
  have XT5 := XT4.later hb5
  have hbE := below_step hbD hb5
  clear M4 XR4 XT4 hbD hb5
  by_cases hm : m ≤ ((sizeT l : Nat) : Int)
  · have HRS : Hid (res = (l, 7)) := by
      show _ = _
      rw [← HRES.out]; exact putT_full0 HP.out HW0.out hm
    have hmb : decide (m ≤ ((sizeT l : Nat) : Int)) = true := decide_eq_true hm
    obtain ⟨a6, c6, e6, V6, L6⟩ := M5.vers
    cases e6
    clear hm M5 XR5 XT5
    go_wp2_with fail
    go_ret2
    rw [HRS.out]
    exact ⟨_, _, rfl, V6, L6, hbE⟩
  · have HRS : Hid (res = (insT l t ⟨ra, rn, ri, rp, rk, rt⟩, 0)) := by
      show _ = _
      rw [← HRES.out]; exact putT_new HP.out HW0.out hm
    have hmb : decide (m ≤ ((sizeT l : Nat) : Int)) = false := decide_eq_false hm
    obtain ⟨a6, c6, e6, V6, L6⟩ := M5.vers
    cases e6
    have cF2 := find2_any w5 V6 (by omega) t XT5.lt (XT5.cells 0 t rfl)
    obtain ⟨k, hk⟩ : ∃ k, l.findIdx (fun v => decide (t < v.t)) = k := ⟨_, rfl⟩
    have hkl : k ≤ l.length := by rw [← hk]; exact List.findIdx_le_length
    have HINS : Hid (insT l t ⟨ra, rn, ri, rp, rk, rt⟩ = l.take k ++ ⟨t, [⟨ra, rn, ri, rp, rk, rt⟩]⟩ :: l.drop k) := by show _ = _; rw [← hk]; exact ins_is l t ⟨ra, rn, ri, rp, rk, rt⟩
    rw [hk] at cF2
    clear hm V6 L6 hk
    go_wp2_with fail
    refine cF2.mono ?_
    clear cF2
    rintro e w6 ⟨rfl, hb6⟩
    obtain ⟨ps, own, hall, hout, hpair⟩ := M5.later hb6
    have XR6 := XR5.later hb6
    have XT6 := XT5.later hb6
    have hbF := below_step hbE hb6
    have hn := below_new w6 (.cells #[.int .i64 ra, .int .i64 rn, .int .i64 ri, .int .i64 rp, .int .i64 rk, .int .i64 rt] 28)
    have HPL : Hid (ps.length = l.length) := all2_len hall
    obtain ⟨a7, c7, e7, R7⟩ := rdv_of_owns fV_len own HPL.out
    cases e7
    have cG := grownV_any (w6.alloc (.cells #[.int .i64 ra, .int .i64 rn, .int .i64 ri, .int .i64 rp, .int .i64 rk, .int .i64 rt] 28)) (R7.later hn) HPL.out (by omega) hkl t (some ⟨w6.heap.size, 0, none⟩) 1 1
    obtain ⟨x0, x1, x2, x3, x4, x5⟩ := XR6.six
    have xt0 := XT6.cells 0 t rfl
    have wt : (Lit.int .i64 t).wf = true := wf_i64_mk (by have h := HP.out; omega) (by have h := HP.out; omega)
    have hy : RowAt w.heap.size (w6.alloc (.cells #[.int .i64 ra, .int .i64 rn, .int .i64 ri, .int .i64 rp, .int .i64 rk, .int .i64 rt] 28)) ⟨t, some ⟨w6.heap.size, 0, none⟩, 1, 1⟩ ⟨t, [⟨ra, rn, ri, rp, rk, rt⟩]⟩ :=
      ⟨rfl, wt, rfl, World.ownsRow_lit (size := 6) w6 #[.int .i64 ra, .int .i64 rn, .int .i64 ri, .int .i64 rp, .int .i64 rk, .int .i64 rt] 1 hbF.size (by decide) rfl, fun y hy => by rw [List.mem_singleton.1 hy]; exact HW.out⟩
    have hyd : ∀ p ∈ ps, Diff p ⟨t, some ⟨w6.heap.size, 0, none⟩, 1, 1⟩ := fun p hp k hk e => by
      obtain ⟨v, -, hv⟩ := all2_mem hall hp
      have h1 := (hv.lt hk).2
      have h2 : w6.heap.size = k := Option.some.inj e
      omega
    have HM : Hid (∀ w8 u, Below (w6.alloc (.cells #[.int .i64 ra, .int .i64 rn, .int .i64 ri, .int .i64 rp, .int .i64 rk, .int .i64 rt] 28)).heap.size (w6.alloc (.cells #[.int .i64 ra, .int .i64 rn, .int .i64 ri, .int .i64 rp, .int .i64 rk, .int .i64 rt] 28)) w8 → w8.ownsRow (w6.alloc (.cells #[.int .i64 ra, .int .i64 rn, .int .i64 ri, .int .i64 rp, .int .i64 rk, .int .i64 rt] 28)).heap.size 47 2 u (l.length + 1) (flatW fV (ps.take k ++ ⟨t, some ⟨w6.heap.size, 0, none⟩, 1, 1⟩ :: ps.drop k)) → Mine w.heap.size w8 u (l.take k ++ ⟨t, [⟨ra, rn, ri, rp, rk, rt⟩]⟩ :: l.drop k)) :=
      fun w8 u hb o => mine_ins (all2_imp hall fun _ _ h => h.later hn) hpair hy hyd hb (Nat.le_trans hbF.size hn.size) o
    have hbG := below_step hbF hn
    clear hy hyd hall hout hpair own M5 XR5 XT5 XR6 XT6 hbE hb6 hn hbF R7
    go_wp2_with fail
    refine cG.mono ?_
    clear cG
    rintro e w8 ⟨u, rfl, own8, hb8⟩
    have M8 := HM.out w8 u hb8 own8
    rw [← HINS.out] at M8
    have hbH := below_step hbG hb8
    obtain ⟨a9, c9, rfl, V9, L9⟩ := M8.vers
    clear HM own8 hb8 M8 hbG x0 x1 x2 x3 x4 x5 xt0
    go_wp2_with fail
    go_ret2
    rw [HRS.out]
    exact ⟨_, _, rfl, V9, L9, hbH⟩
end Go.Proofs.Ytlfnciiomfcjpaa
