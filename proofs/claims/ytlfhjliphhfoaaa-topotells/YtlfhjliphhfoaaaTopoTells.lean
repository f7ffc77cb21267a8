/- Proved: for every topology of at most 60 links, and every switch and port, the call TopoTells(t, sw, port) returns true (with more than 60 links nothing is asked). -/
import Derived.Test.YtlfhjliphhfoaaaTopOpen
import Derived.Test.YtlfhjliphhfoaaaTopAwake
import Derived.Test.YtlfhjliphhfoaaaTopRefMay
import Derived.Test.YtlfhjliphhfoaaaTopRefEdges
import Derived.Lib.SmallJoins
namespace Go.Proofs.Ytlfhjliphhfoaaa.topoTells
open Go.ChangeShapes Go.WideShapes Go.ChangeAt Go.RowKit Go.Maps Tp
set_option linter.unusedVariables false
set_option linter.unusedSimpArgs false

set_option maxRecDepth 100000 in
set_option maxHeartbeats 4000000 in
theorem walk (s n : Int) (x : Option Addr) (c : Nat) (l : List Lk) (sw p : Int) (w0a : (Lit.int .i64 s).wf = true) (w0b : (Lit.int .i64 n).wf = true) (w1 : (Lit.int .i64 sw).wf = true) (w2 : (Lit.int .i64 p).wf = true) (w : World) (R : Rds fK 4 w x c l) :
    Calls Try.prog 3 #[.agg #[.int .i64 s, .int .i64 n, .slice x l.length c], .int .i64 sw, .int .i64 p] w fun e w' => e = .returned (.bool true) ∧ Below w.heap.size w w' := by
  have hB := below_new w (.cells #[.int .i64 s, .int .i64 n, .slice x l.length c] 24)
  obtain ⟨t0, t1, t2⟩ := box3 w (.int .i64 s) (.int .i64 n) (.slice x l.length c) 24
  have hBT : w.heap.size < (w.alloc (.cells #[.int .i64 s, .int .i64 n, .slice x l.length c] 24)).heap.size := by simp
  replace R := R.later hB
  have hmx := Nat.le_trans R.le R.max
  unfold maxLen at hmx
  have hwe : We (sw, p) := ⟨w1, w2⟩
  clear w1 w2 w0a w0b
  by_cases h60 : 60 < l.length
  case pos =>
    have hz : (60 : Int) < (l.length : Int) := by omega
    go_enter Try.func3, Try.ntmps3
    go_wp2_with fail
    refine (tawake_any _).mono ?_
    rintro e w1 ⟨rfl, hb⟩
    replace t0 := (hb.cell (p := ⟨w.heap.size, 0, none⟩) hBT).trans t0
    replace t1 := (hb.cell (p := ⟨w.heap.size, 1, none⟩) hBT).trans t1
    replace t2 := (hb.cell (p := ⟨w.heap.size, 2, none⟩) hBT).trans t2
    replace hBT := Nat.lt_of_lt_of_le hBT hb.size
    replace R := R.later hb
    replace hB := below_step hB hb
    clear hb
    go_wp2_with fail
    go_ret
    exact ⟨rfl, hB⟩
  have hz : ¬ (60 : Int) < (l.length : Int) := by omega
  have hl : l.length ≤ 100 := by omega
  have cM := fun w (R : Rds fK 4 w x c l) => may_any s n w R
  have cM2 := fun w (R : Rds fK 4 w x c l) => rmay_any s n w R
  have cE := fun w (R : Rds fK 4 w x c l) => edge_any s n w R hl sw p hwe
  have cE2 := fun w (R : Rds fK 4 w x c l) => redge_any s n w R sw p
  have cF := fun w (R : Rds fK 4 w x c l) => far_any s n w R hl sw p hwe
  have cF2 := fun w (R : Rds fK 4 w x c l) => rfar_any s n w R sw p
  have cL := fun w (R : Rds fK 4 w x c l) => edges_any s n w R hl
  have cL2 := fun w (R : Rds fK 4 w x c l) => redges_any s n w R
  rw [mayR_is] at cM2
  generalize mayT s n l = m at cM cM2
  generalize edge s n l (sw, p) = ed at cE cE2
  generalize other (far s n l (sw, p)) = o at cF cF2
  generalize (far s n l (sw, p)).isSome = f at cF cF2
  generalize edges s n l = L at cL cL2
  clear h60 hl hwe
  go_enter Try.func3, Try.ntmps3
  go_wp2_with fail
  refine (tawake_any _).mono ?_
  rintro e w1 ⟨rfl, hb⟩
  replace t0 := (hb.cell (p := ⟨w.heap.size, 0, none⟩) hBT).trans t0
  replace t1 := (hb.cell (p := ⟨w.heap.size, 1, none⟩) hBT).trans t1
  replace t2 := (hb.cell (p := ⟨w.heap.size, 2, none⟩) hBT).trans t2
  replace hBT := Nat.lt_of_lt_of_le hBT hb.size
  replace R := R.later hb
  replace hB := below_step hB hb
  clear hb
  go_wp2_with fail
  refine (cM2 _ R).mono ?_
  clear cM2
  rintro e w2 ⟨rfl, hb⟩
  replace t0 := (hb.cell (p := ⟨w.heap.size, 0, none⟩) hBT).trans t0
  replace t1 := (hb.cell (p := ⟨w.heap.size, 1, none⟩) hBT).trans t1
  replace t2 := (hb.cell (p := ⟨w.heap.size, 2, none⟩) hBT).trans t2
  replace hBT := Nat.lt_of_lt_of_le hBT hb.size
  replace R := R.later hb
  replace hB := below_step hB hb
  clear hb
  go_wp2_with fail
  refine (cE2 _ R).mono ?_
  clear cE2
  rintro e w3 ⟨rfl, hb⟩
  replace t0 := (hb.cell (p := ⟨w.heap.size, 0, none⟩) hBT).trans t0
  replace t1 := (hb.cell (p := ⟨w.heap.size, 1, none⟩) hBT).trans t1
  replace t2 := (hb.cell (p := ⟨w.heap.size, 2, none⟩) hBT).trans t2
  replace hBT := Nat.lt_of_lt_of_le hBT hb.size
  replace R := R.later hb
  replace hB := below_step hB hb
  clear hb
  go_wp2_with fail
  refine (cF _ R).mono ?_
  clear cF
  rintro e w4 ⟨rfl, hb⟩
  replace t0 := (hb.cell (p := ⟨w.heap.size, 0, none⟩) hBT).trans t0
  replace t1 := (hb.cell (p := ⟨w.heap.size, 1, none⟩) hBT).trans t1
  replace t2 := (hb.cell (p := ⟨w.heap.size, 2, none⟩) hBT).trans t2
  replace hBT := Nat.lt_of_lt_of_le hBT hb.size
  replace R := R.later hb
  replace hB := below_step hB hb
  clear hb
  go_wp2_with fail
  refine (cF2 _ R).mono ?_
  clear cF2
  rintro e w5 ⟨rfl, hb⟩
  replace t0 := (hb.cell (p := ⟨w.heap.size, 0, none⟩) hBT).trans t0
  replace t1 := (hb.cell (p := ⟨w.heap.size, 1, none⟩) hBT).trans t1
  replace t2 := (hb.cell (p := ⟨w.heap.size, 2, none⟩) hBT).trans t2
  replace hBT := Nat.lt_of_lt_of_le hBT hb.size
  replace R := R.later hb
  replace hB := below_step hB hb
  clear hb
  go_wp2_with fail
  refine (cL _ R).mono ?_
  clear cL
  rintro e w6 ⟨a1, k1, rfl, L1, hb⟩
  replace t0 := (hb.cell (p := ⟨w.heap.size, 0, none⟩) hBT).trans t0
  replace t1 := (hb.cell (p := ⟨w.heap.size, 1, none⟩) hBT).trans t1
  replace t2 := (hb.cell (p := ⟨w.heap.size, 2, none⟩) hBT).trans t2
  replace hBT := Nat.lt_of_lt_of_le hBT hb.size
  replace R := R.later hb
  replace hB := below_step hB hb
  clear hb
  go_wp2_with fail
  refine (cL2 _ R).mono ?_
  clear cL2
  rintro e w7 ⟨a2, k2, rfl, L2, hb⟩
  replace t0 := (hb.cell (p := ⟨w.heap.size, 0, none⟩) hBT).trans t0
  replace t1 := (hb.cell (p := ⟨w.heap.size, 1, none⟩) hBT).trans t1
  replace t2 := (hb.cell (p := ⟨w.heap.size, 2, none⟩) hBT).trans t2
  replace hBT := Nat.lt_of_lt_of_le hBT hb.size
  replace R := R.later hb
  replace L1 := L1.later hb
  replace hB := below_step hB hb
  clear hb
  have hm2 := Nat.le_trans L1.le L1.max
  unfold maxLen at hm2
  go_wp2_with fail
  go_loopw [18] (fun vi wr => ∃ k : Nat, Hid (k ≤ L.length) ∧ vi = .int .i64 (k : Nat) ∧ Below w7.heap.size w7 wr) (fun vi _ => L.length - (intOf vi).toNat)
  case atStart => exact ⟨0, Nat.zero_le _, rfl, Below.refl _ _⟩
  case round =>
    obtain ⟨k, HK, rfl, hbr⟩ := hrel
    replace t0 := (hbr.cell (p := ⟨w.heap.size, 0, none⟩) hBT).trans t0
    replace t1 := (hbr.cell (p := ⟨w.heap.size, 1, none⟩) hBT).trans t1
    replace t2 := (hbr.cell (p := ⟨w.heap.size, 2, none⟩) hBT).trans t2
    replace hBT := Nat.lt_of_lt_of_le hBT hbr.size
    replace R := R.later hbr
    replace L1 := L1.later hbr
    replace L2 := L2.later hbr
    replace hB := below_step hB hbr
    by_cases hlt : k < L.length
    · have hkz : (k : Int) < (L.length : Int) := by omega
      obtain ⟨q, hq⟩ : ∃ q, L[k]? = some q := ⟨L[k], List.getElem?_eq_getElem hlt⟩
      have hwq := L1.wf q (List.mem_of_getElem? hq)
      obtain ⟨b1, o1, rfl, hb1, hc1⟩ := L1.at hq
      obtain ⟨b2, o2, rfl, hb2, hc2⟩ := L2.at hq
      obtain ⟨u, v⟩ := q
      have heq := fun w => eq_ends (a := u) (b := v) (c := u) (d := v) ⟨hwq u (by simp [fQ]), hwq v (by simp [fQ])⟩ ⟨hwq u (by simp [fQ]), hwq v (by simp [fQ])⟩ w
      simp only [beq_self_eq_true, Bool.and_self] at heq
      have u0 := hc1 0 _ rfl
      have u1 := hc1 1 _ rfl
      have v0 := hc2 0 _ rfl
      have v1 := hc2 1 _ rfl
      rw [Nat.add_zero] at u0 v0
      have HLT : Hid (k + 1 ≤ L.length) := hlt
      clear hc1 hc2 hq hwq HK hlt
      go_wp2_with fail
      go_quiet (fail)
      go_wp2_with fail
      go_roundw
      case rel => exact ⟨k + 1, HLT.out, by go_num, hbr.trans (below_draws _ _ _)⟩
      case measure => have h := HLT.out; simp [intOf]; omega
    · have hkz : ¬ (k : Int) < (L.length : Int) := by omega
      clear hlt HK
      go_wp2_with fail
      refine (cM _ R).mono ?_
      clear cM
      rintro e w21 ⟨rfl, hb⟩
      replace t0 := (hb.cell (p := ⟨w.heap.size, 0, none⟩) hBT).trans t0
      replace t1 := (hb.cell (p := ⟨w.heap.size, 1, none⟩) hBT).trans t1
      replace t2 := (hb.cell (p := ⟨w.heap.size, 2, none⟩) hBT).trans t2
      replace hBT := Nat.lt_of_lt_of_le hBT hb.size
      replace R := R.later hb
      replace hB := below_step hB hb
      clear hb
      go_wp2_with fail
      refine (cE _ R).mono ?_
      clear cE
      rintro e w22 ⟨rfl, hb⟩
      replace t0 := (hb.cell (p := ⟨w.heap.size, 0, none⟩) hBT).trans t0
      replace t1 := (hb.cell (p := ⟨w.heap.size, 1, none⟩) hBT).trans t1
      replace t2 := (hb.cell (p := ⟨w.heap.size, 2, none⟩) hBT).trans t2
      replace hBT := Nat.lt_of_lt_of_le hBT hb.size
      replace R := R.later hb
      replace hB := below_step hB hb
      clear hb
      go_wp2_with fail
      go_ret
      exact ⟨by simp, hB⟩
theorem own : ownKnob Try.prog.godebug = none := by kernel_rfl
theorem laidOut : laidOutB Try.prog = true := by kernel_rfl
set_option maxRecDepth 100000 in
theorem lifted (os : Os) (started : os.Started) (H : Type) (enc : TypeId × Value → H) :
    ReturnsInHanded {} Try.checked os 3 .any (Rows.topoTellsSpec.pre6 enc Try.prog Try.f3 Rows.topoTellsRow.domain false) (Rows.topoTellsSpec.post enc Try.prog Try.f3 false true false false) := by
  refine returnsInHanded_of_change (C := Try.checked) own started (by kernel_rfl) Try.func3
    (ChangeSpec.witness6 (enc := enc) (C := Try.checked) false ⟨#[], #[.agg #[.int .i64 0, .int .i64 0, .slice none 0 0], .int .i64 0, .int .i64 0], []⟩ 8 (by kernel_rfl) (by kernel_rfl) (by kernel_rfl) (by kernel_rfl)) ?_
  intro W base args ds gs before hval0 hW hcnd _
  have hval : ∀ (j : Nat) t v, Try.f3.params[j]? = some t → args[j]? = some v → Value.okWide Try.prog W .any base t v := hval0
  have hW' := hW
  obtain ⟨p, q, hA0, hV, rfl, hfz, hnd⟩ := hW
  have hA : DataW.TrodAll enc Try.prog W 0 (fun _ => true) true Try.f3.params.toList args.toList ds p := hA0
  rw [Try.params3] at hA hval
  obtain ⟨v0, vs0, d0, ds0, p0, q0, hargs, rfl, rfl, h0, r0⟩ := trodAll_cons hA
  obtain ⟨v1, vs1, d1, ds1, p1, q1, rfl, rfl, rfl, h1, r1⟩ := trodAll_cons r0
  obtain ⟨v2, vs2, d2, ds2, p2, q2, rfl, rfl, rfl, h2, r2⟩ := trodAll_cons r1
  obtain ⟨rfl, rfl, rfl⟩ := trodAll_nil r2
  obtain rfl : args = #[v0, v1, v2] := by cases args; simp_all
  obtain ⟨rfl, rfl⟩ := trodVars_none hV
  have k0 := h0
  have lt0 : ∀ x ∈ p0, x.block < W.heap.size := by obtain ⟨m, hm⟩ := k0; exact DataW.trod_lt m _ _ _ hm
  have k1 := h1
  have lt1 : ∀ x ∈ p1, x.block < W.heap.size := by obtain ⟨m, hm⟩ := k1; exact DataW.trod_lt m _ _ _ hm
  have k2 := h2
  have lt2 : ∀ x ∈ p2, x.block < W.heap.size := by obtain ⟨m, hm⟩ := k2; exact DataW.trod_lt m _ _ _ hm
  obtain ⟨a0, b0, x0, c0, l0, rfl, w0a, w0b, R0⟩ := open_topo (fun _ => rfl) (hval 0 24 v0 rfl rfl) h0
  obtain ⟨a1, rfl, rfl, hp1, w1⟩ := open_int Try.underlying3 (hval 1 3 v1 rfl rfl) h1
  obtain ⟨a2, rfl, rfl, hp2, w2⟩ := open_int Try.underlying3 (hval 2 3 v2 rfl rfl) h2
  clear hA0 hval0
  refine (walk a0 b0 x0 c0 l0 a1 a2 w0a w0b w1 w2 W R0).mono fun e W' ⟨he, bel⟩ => ?_
  subst he
  exact ⟨_, rfl, _, _, _, [], _, [], hW', trodAll_mk1 (shut_bool Try.underlying4 _), (trodAll_cons_mk (Below.trod laidOut (by kernel_rfl) (of_decide_eq_true (by kernel_rfl)) k0 bel lt0) (trodAll_cons_mk (Below.trod laidOut (by kernel_rfl) (of_decide_eq_true (by kernel_rfl)) k1 bel lt1) (trodAll_cons_mk (Below.trod laidOut (by kernel_rfl) (of_decide_eq_true (by kernel_rfl)) k2 bel lt2) trodAll_mk0))), rfl, bel.frame _, fun h => by cases h⟩

theorem over : Rows.topoTellsRow.holds Try.pinned (OpenSpec.ofChange Rows.topoTellsSpec) :=
  OpenClaim.holds_of_wide 3 Try.f3 rfl rfl rfl rfl rfl rfl rfl ⟨rfl, rfl, rfl, rfl, rfl⟩ rfl rfl rfl rfl rfl (by kernel_rfl) Try.func3 (by kernel_rfl)
    (of_decide_eq_true (by kernel_rfl)) (by unfold Func.isWrapper; first | (rw [if_pos (by decide +kernel)]; kernel_rfl) | (rw [if_neg (by decide +kernel)]; exact ⟨rfl, rfl⟩))
    (fun os started H enc _ => lifted os started H enc)
end Go.Proofs.Ytlfhjliphhfoaaa.topoTells
namespace Go.Proofs.Ytlfhjliphhfoaaa
theorem topoTells_holds : Rows.TopoTellsSaid := topoTells.over
#print axioms topoTells_holds
end Go.Proofs.Ytlfhjliphhfoaaa
