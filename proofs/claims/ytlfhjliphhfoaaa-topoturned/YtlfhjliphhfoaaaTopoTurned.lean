/- Proved: for every topology, and every switch and port, the call TopoTurned(t, sw, port) returns true (where the topology may not be, nothing is asked). -/
import Derived.Test.YtlfhjliphhfoaaaTopOpen
import Derived.Test.YtlfhjliphhfoaaaTopBuilt
import Derived.Lib.SmallJoins
namespace Go.Proofs.Ytlfhjliphhfoaaa.topoTurned
open Go.ChangeShapes Go.WideShapes Go.ChangeAt Go.RowKit Go.Maps Tp
set_option linter.unusedVariables false
set_option linter.unusedSimpArgs false

set_option maxRecDepth 100000 in
set_option maxHeartbeats 4000000 in
theorem walk (s n : Int) (x : Option Addr) (c : Nat) (l : List Lk) (sw p : Int) (w0a : (Lit.int .i64 s).wf = true) (w0b : (Lit.int .i64 n).wf = true) (w1 : (Lit.int .i64 sw).wf = true) (w2 : (Lit.int .i64 p).wf = true) (w : World) (R : Rds fK 4 w x c l) :
    Calls Try.prog 7 #[.agg #[.int .i64 s, .int .i64 n, .slice x l.length c], .int .i64 sw, .int .i64 p] w fun e w' => e = .returned (.bool true) ∧ Below w.heap.size w w' := by
  have hB := below_new w (.cells #[.int .i64 s, .int .i64 n, .slice x l.length c] 24)
  obtain ⟨t0, t1, t2⟩ := box3 w (.int .i64 s) (.int .i64 n) (.slice x l.length c) 24
  have hBT : w.heap.size < (w.alloc (.cells #[.int .i64 s, .int .i64 n, .slice x l.length c] 24)).heap.size := by simp
  replace R := R.later hB
  have hwe : We (sw, p) := ⟨w1, w2⟩
  clear w0a w0b w1 w2
  have cM := fun w (R : Rds fK 4 w x c l) => may_any s n w R
  cases hm : mayT s n l with
  | false =>
    rw [hm] at cM
    clear hm
    go_enter Try.func7, Try.ntmps7
    go_wp2_with fail
    refine (tawake_any _).mono ?_
    rintro e w1 ⟨rfl, hb⟩
    replace t0 := (hb.cell (p := ⟨w.heap.size, 0, none⟩) hBT).trans t0
    replace t1 := (hb.cell (p := ⟨w.heap.size, 1, none⟩) hBT).trans t1
    replace t2 := (hb.cell (p := ⟨w.heap.size, 2, none⟩) hBT).trans t2
    replace hBT := Nat.lt_of_lt_of_le hBT hb.size
    replace R := R.later hb
    replace hB := below_step hB hb
    clear hb
    go_wp2_with fail
    refine (cM _ R).mono ?_
    rintro e w2 ⟨rfl, hb⟩
    replace t0 := (hb.cell (p := ⟨w.heap.size, 0, none⟩) hBT).trans t0
    replace t1 := (hb.cell (p := ⟨w.heap.size, 1, none⟩) hBT).trans t1
    replace t2 := (hb.cell (p := ⟨w.heap.size, 2, none⟩) hBT).trans t2
    replace hBT := Nat.lt_of_lt_of_le hBT hb.size
    replace R := R.later hb
    replace hB := below_step hB hb
    clear hb
    go_wp2_with fail
    go_ret
    exact ⟨rfl, hB⟩
  | true =>
    rw [hm] at cM
    have hlen := (ok_of_may hm).2
    obtain ⟨hT1, hT2, hT3⟩ := turned_is hm
    rw [← turnK_all] at hT1 hT2 hT3
    replace hT2 := hT2 (sw, p)
    replace hT3 := hT3 (sw, p)
    have hwt : ∀ y ∈ turnK l 0, ∀ z ∈ fK y, (Lit.int .i64 z).wf = true := turnK_wf R.wf 0
    have hUl : (turnK l 0).length = l.length := by rw [turnK_len]; omega
    have cMu := fun (a : Option Addr) (k : Nat) w (R : Rds fK 4 w a k (turnK l 0)) => may_at s n w R hUl
    rw [hT1] at cMu
    have cEu := fun (a : Option Addr) (k : Nat) w (R : Rds fK 4 w a k (turnK l 0)) => edge_at s n w R hUl (by omega) sw p hwe
    rw [hT3] at cEu
    have cEt := fun w (R : Rds fK 4 w x c l) => edge_any s n w R (by omega) sw p hwe
    have cFu := fun (a : Option Addr) (k : Nat) w (R : Rds fK 4 w a k (turnK l 0)) => far_at s n w R hUl (by omega) sw p hwe
    rw [hT2] at cFu
    have cFt := fun w (R : Rds fK 4 w x c l) => far_any s n w R (by omega) sw p hwe
    generalize edge s n l (sw, p) = eT at cEu cEt
    generalize other (far s n l (sw, p)) = oT at cFu cFt
    generalize (far s n l (sw, p)).isSome = fT at cFu cFt
    clear hT1 hT2 hT3 hm hwe
    have HWT : Hid (∀ y ∈ turnK l 0, ∀ z ∈ fK y, (Lit.int .i64 z).wf = true) := hwt
    have HUL : Hid ((turnK l 0).length = l.length) := hUl
    clear hwt hUl
    go_enter Try.func7, Try.ntmps7
    go_wp2_with fail
    refine (tawake_any _).mono ?_
    rintro e w1 ⟨rfl, hb⟩
    replace t0 := (hb.cell (p := ⟨w.heap.size, 0, none⟩) hBT).trans t0
    replace t1 := (hb.cell (p := ⟨w.heap.size, 1, none⟩) hBT).trans t1
    replace t2 := (hb.cell (p := ⟨w.heap.size, 2, none⟩) hBT).trans t2
    replace hBT := Nat.lt_of_lt_of_le hBT hb.size
    replace R := R.later hb
    replace hB := below_step hB hb
    clear hb
    go_wp2_with fail
    refine (cM _ R).mono ?_
    clear cM
    rintro e w2 ⟨rfl, hb⟩
    replace t0 := (hb.cell (p := ⟨w.heap.size, 0, none⟩) hBT).trans t0
    replace t1 := (hb.cell (p := ⟨w.heap.size, 1, none⟩) hBT).trans t1
    replace t2 := (hb.cell (p := ⟨w.heap.size, 2, none⟩) hBT).trans t2
    replace hBT := Nat.lt_of_lt_of_le hBT hb.size
    replace R := R.later hb
    replace hB := below_step hB hb
    clear hb
    go_wp2_with fail
    have X0 := Tbox.new w2 s n (.slice none 0 0) 24
    have hn0 := below_new w2 (.cells #[.int .i64 s, .int .i64 n, .slice none 0 0] 24)
    go_loopw [9] (fun vi wr => ∃ (z : Int) (k : Nat) (v : Value), vi = .int .i64 z ∧ Hid (z = (k : Int) - 1 ∧ k ≤ l.length) ∧ Tbox wr w2.heap.size s n v ∧ Hid (wr.ownsRow (w2.heap.size + 1) 34 4 v (l.length - k) (flatV fK (turnK l k))) ∧ Hid (Below w2.heap.size w2 wr)) (fun vi _ => (intOf vi + 1).toNat)
    case atStart =>
      refine ⟨_, l.length, _, rfl, (show Hid _ from ⟨by omega, Nat.le_refl _⟩), X0, (show Hid _ from ?_), hn0⟩
      show World.ownsRow _ _ _ _ _ _ _
      rw [turnK_end, Nat.sub_self]
      exact World.ownsRow_nil _ _ _ _
    case round =>
      clear X0 hn0
      obtain ⟨z, k, v, rfl, HZ, X, HO, HB⟩ := hrel
      have RL := R.later HB.out
      replace t0 := (HB.out.cell (p := ⟨w.heap.size, 0, none⟩) hBT).trans t0
      replace t1 := (HB.out.cell (p := ⟨w.heap.size, 1, none⟩) hBT).trans t1
      replace t2 := (HB.out.cell (p := ⟨w.heap.size, 2, none⟩) hBT).trans t2
      by_cases hz : 0 ≤ z
      · obtain ⟨q, rfl⟩ : ∃ q : Nat, z = (q : Int) := ⟨z.toNat, by omega⟩
        obtain rfl : k = q + 1 := by have h := HZ.out.1; omega
        have hq : q < l.length := by have h := HZ.out.2; omega
        have hqz : (q : Int) < (l.length : Int) := by omega
        have HQ : Hid (q < l.length) := hq
        obtain ⟨r, hr⟩ := getK hq
        have hTS := turnK_step hr
        have hwr := R.wf r (List.mem_of_getElem? hr)
        obtain ⟨b, o, rfl, hbb, hc⟩ := RL.at hr
        obtain ⟨ka, kp, kb, kq⟩ := r
        have v0 := hc 0 _ rfl
        have v1 := hc 1 _ rfl
        have v2 := hc 2 _ rfl
        have v3 := hc 3 _ rfl
        rw [Nat.add_zero] at v0
        clear hc hr hq HZ RL
        have HTS : Hid (turnK l q = turnK l (q + 1) ++ [⟨kb, kq, ka, kp⟩]) := hTS
        clear hTS
        have hbL := below_new wr (.cells #[.int .i64 ka, .int .i64 kp, .int .i64 kb, .int .i64 kq] 34)
        have XL : Lies (wr.alloc (.cells #[.int .i64 ka, .int .i64 kp, .int .i64 kb, .int .i64 kq] 34)) wr.heap.size [ka, kp, kb, kq] := Lies.new wr [ka, kp, kb, kq] 34 rfl
        have y0 := XL.cells 0 _ rfl
        have y1 := XL.cells 1 _ rfl
        have y2 := XL.cells 2 _ rfl
        have y3 := XL.cells 3 _ rfl
        have yl := XL.lt
        clear XL
        have X1 := X.later hbL
        obtain ⟨xl, x0, x1, x2, xf⟩ := X1
        have ow2 := own_laterR HO.out hbL
        have hsz : w2.heap.size + 1 ≤ (wr.alloc (.cells #[.int .i64 ka, .int .i64 kp, .int .i64 kb, .int .i64 kq] 34)).heap.size := by have h := X.lt; have h2 := hbL.size; omega
        have hle : l.length - (q + 1) + 1 ≤ 1000000 := by omega
        go_wp2_with (at_builtin; refine wpRds_one fK_len (by decide) _ ⟨kb, kq, ka, kp⟩ 34 rfl rfl _ _ 22 rfl (w2.heap.size + 1) 32 _ Try.underlying22 infoK rfl rfl ow2 (by first | rfl | (simp [go_sem]; done)) hle (by omega) hsz ?_; intro v9 w9 own9 hg9; apply Classical.byContradiction; intro hstop)
        have hX9 : Below (w2.heap.size + 1) wr w9 := below_growR ((hbL.mono (by have h := X.lt; omega)).alloc hsz (.cells #[.int .i64 kb, .int .i64 kq, .int .i64 ka, .int .i64 kp] 34)) (ow2.alloc _) hg9 (Nat.le_trans hsz (below_new _ _).size)
        have X9 := X.under hX9 (Nat.lt_succ_self _)
        have hB9 : Below w2.heap.size w2 w9 := HB.out.trans (hX9.mono (Nat.le_succ _))
        rw [show l.length - (q + 1) + 1 = l.length - q by have h := HQ.out; omega, ← HTS.out] at own9
        have HO9 : Hid ((w9.setCell ⟨w2.heap.size, 2, none⟩ v9).ownsRow (w2.heap.size + 1) 34 4 v9 (l.length - q) (flatV fK (turnK l q))) := own_setCellR own9 (Nat.lt_succ_self _) v9
        obtain ⟨hv9, -⟩ : (∃ a m k, v9 = .slice a m k) ∧ True := by
          refine ⟨?_, trivial⟩
          rcases own9.2 with h | ⟨g, cap, cur, h, _⟩
          · exact ⟨_, _, _, h.1⟩
          · exact ⟨_, _, _, h⟩
        obtain ⟨a9, m9, k9, rfl⟩ := hv9
        have XP := X9.put (.slice a9 m9 k9)
        have HBP : Hid (Below w2.heap.size w2 (w9.setCell ⟨w2.heap.size, 2, none⟩ (.slice a9 m9 k9))) := hB9.setCell (p := ⟨w2.heap.size, 2, none⟩) (Nat.le_refl _) _
        obtain ⟨xl9, x09, x19, x29, xf9⟩ := X9
        apply hstop
        clear hstop own9 hg9 hX9 hB9 HTS HO HB X xl x0 x1 x2 xf ow2 hsz hle hbL
        go_wp2_with fail
        go_roundw
        case rel => exact ⟨_, q, _, rfl, (show Hid _ from ⟨by omega, Nat.le_of_lt HQ.out⟩), XP, HO9, HBP⟩
        case measure => simp [intOf]
      · obtain rfl : k = 0 := by have h := HZ.out.1; omega
        have hz2 : z = -1 := by have h := HZ.out.1; omega
        have own := HO.out
        rw [Nat.sub_zero] at own
        obtain ⟨a8, k8, rfl, R8⟩ := rds_of_owns fK_len own HUL.out HWT.out
        clear own HO HZ HUL HWT
        replace R := RL
        clear RL
        replace hB := below_step hB HB.out
        replace hBT := Nat.lt_of_lt_of_le hBT HB.out.size
        clear HB
        generalize w2.heap.size = N at X ⊢
        subst hz2
        have hz3 : ¬ (0 : Int) ≤ -1 := by omega
        clear hz
        go_wp2_with fail
        refine (cFt _ R).mono ?_
        clear cFt
        rintro e w21 ⟨rfl, hb⟩
        replace t0 := (hb.cell (p := ⟨w.heap.size, 0, none⟩) hBT).trans t0
        replace t1 := (hb.cell (p := ⟨w.heap.size, 1, none⟩) hBT).trans t1
        replace t2 := (hb.cell (p := ⟨w.heap.size, 2, none⟩) hBT).trans t2
        replace hBT := Nat.lt_of_lt_of_le hBT hb.size
        replace R := R.later hb
        replace R8 := R8.later hb
        replace X := X.later hb
        replace hB := below_step hB hb
        clear hb
        obtain ⟨xl, x0, x1, x2, xf⟩ := X
        have X : Tbox w21 N s n (.slice a8 l.length k8) := ⟨xl, x0, x1, x2, xf⟩
        clear xl
        go_wp2_with fail
        refine (cFu _ _ _ R8).mono ?_
        clear cFu
        rintro e w22 ⟨rfl, hb⟩
        replace t0 := (hb.cell (p := ⟨w.heap.size, 0, none⟩) hBT).trans t0
        replace t1 := (hb.cell (p := ⟨w.heap.size, 1, none⟩) hBT).trans t1
        replace t2 := (hb.cell (p := ⟨w.heap.size, 2, none⟩) hBT).trans t2
        replace hBT := Nat.lt_of_lt_of_le hBT hb.size
        replace R := R.later hb
        replace R8 := R8.later hb
        replace X := X.later hb
        replace hB := below_step hB hb
        clear hb
        clear x0 x1 x2 xf
        go_wp2_with fail
        have S0 : Below w22.heap.size w22 w22.drew := (Below.refl _ _).drew
        have R8D := R8.later S0
        have RD := R.later S0
        clear R8
        clear R
        have R8 := R8D
        have R := RD
        clear R8D
        clear RD
        refine wp_region_noPanic ?_
        refine wp_region_held_drew (S := fun w' => Below w22.heap.size w22 w') (by kernel_rfl) S0 (fun hH => ?_)
        clear S0
        generalize w22.drew = w22d at hH R8 R ⊢
        refine wpAnyH_take (i := 0) (oi := { dst := some 71, op := _, type := _, pos := _, after := _, guard := _ }) (v := ?_) rfl (by kernel_rfl) (by kernel_rfl) (by kernel_rfl) (fun _ _ _ h => h) (Or.inl ⟨by rfl, ?_⟩) hH ?_
        rotate_left
        · intro wz hSw
          (try dsimp only at hSw)
          have zX := X.later hSw
          have z0 := zX.c0
          have z1 := zX.c1
          have z2 := zX.c2
          clear zX
          first | (go_simp; done) | (go_simp; with_reducible rfl)
        try simp only [Act.put, List.setIfInBounds_toArray, List.set_cons_zero, List.set_cons_succ]
        refine wpAnyH_ready (rs := [1]) (by kernel_rfl) (by simp) ?_
        refine (AllReadyH.cons (o := { dst := some 72, op := _, type := _, pos := _, after := _, guard := _ }) rfl (fun K hK => ?_) AllReadyH.nil)
        go_simp
        refine (cMu _ _ _ R8).mono ?_
        rintro e w221x0 ⟨rfl, hb⟩
        have hn : Below w22.heap.size w22 w221x0 := below_step hH hb
        replace R8 := R8.later hb
        replace R := R.later hb
        clear hb
        go_wp2_with fail
        refine hK.out _ _ hn (fun hH2 => ?_)
        clear hK K hH hn
        have hH := hH2
        clear hH2
        try simp only [Act.put, List.setIfInBounds_toArray, List.set_cons_zero, List.set_cons_succ]
        refine wpAnyH_take (i := 2) (oi := { dst := some 73, op := _, type := _, pos := _, after := _, guard := _ }) (v := ?_) rfl (by kernel_rfl) (by kernel_rfl) (by kernel_rfl) (fun _ _ _ h => h) (Or.inl ⟨by rfl, ?_⟩) hH ?_
        rotate_left
        · intro wz hSw
          (try dsimp only at hSw)
          first | (go_simp; done) | (go_simp; with_reducible rfl)
        try simp only [Act.put, List.setIfInBounds_toArray, List.set_cons_zero, List.set_cons_succ]
        refine wpAnyH_take (i := 3) (oi := { dst := some 74, op := _, type := _, pos := _, after := _, guard := _ }) (v := ?_) rfl (by kernel_rfl) (by kernel_rfl) (by kernel_rfl) (fun _ _ _ h => h) (Or.inl ⟨by rfl, ?_⟩) hH ?_
        rotate_left
        · intro wz hSw
          (try dsimp only at hSw)
          first | (go_simp; done) | (go_simp; with_reducible rfl)
        try simp only [Act.put, List.setIfInBounds_toArray, List.set_cons_zero, List.set_cons_succ]
        refine wpAnyH_take (i := 4) (oi := { dst := some 75, op := _, type := _, pos := _, after := _, guard := _ }) (v := ?_) rfl (by kernel_rfl) (by kernel_rfl) (by kernel_rfl) (fun _ _ _ h => h) (Or.inl ⟨by rfl, ?_⟩) hH ?_
        rotate_left
        · intro wz hSw
          (try dsimp only at hSw)
          first | (go_simp; done) | (go_simp; with_reducible rfl)
        try simp only [Act.put, List.setIfInBounds_toArray, List.set_cons_zero, List.set_cons_succ]
        refine wpAnyH_take (i := 5) (oi := { dst := some 76, op := _, type := _, pos := _, after := _, guard := _ }) (v := ?_) rfl (by kernel_rfl) (by kernel_rfl) (by kernel_rfl) (fun _ _ _ h => h) (Or.inl ⟨by rfl, ?_⟩) hH ?_
        rotate_left
        · intro wz hSw
          (try dsimp only at hSw)
          first | (go_simp; done) | (go_simp; with_reducible rfl)
        try simp only [Act.put, List.setIfInBounds_toArray, List.set_cons_zero, List.set_cons_succ]
        refine wpAnyH_take (i := 6) (oi := { dst := some 77, op := _, type := _, pos := _, after := _, guard := _ }) (v := ?_) rfl (by kernel_rfl) (by kernel_rfl) (by kernel_rfl) (fun _ _ _ h => h) (Or.inl ⟨by rfl, ?_⟩) hH ?_
        rotate_left
        · intro wz hSw
          (try dsimp only at hSw)
          first | (go_simp; done) | (go_simp; with_reducible rfl)
        try simp only [Act.put, List.setIfInBounds_toArray, List.set_cons_zero, List.set_cons_succ]
        refine wpAnyH_take (i := 7) (oi := { dst := some 78, op := _, type := _, pos := _, after := _, guard := _ }) (v := ?_) rfl (by kernel_rfl) (by kernel_rfl) (by kernel_rfl) (fun _ _ _ h => h) (Or.inl ⟨by rfl, ?_⟩) hH ?_
        rotate_left
        · intro wz hSw
          (try dsimp only at hSw)
          first | (go_simp; done) | (go_simp; with_reducible rfl)
        try simp only [Act.put, List.setIfInBounds_toArray, List.set_cons_zero, List.set_cons_succ]
        refine wpAnyH_take (i := 8) (oi := { dst := some 79, op := _, type := _, pos := _, after := _, guard := _ }) (v := ?_) rfl (by kernel_rfl) (by kernel_rfl) (by kernel_rfl) (fun _ _ _ h => h) (Or.inl ⟨by rfl, ?_⟩) hH ?_
        rotate_left
        · intro wz hSw
          (try dsimp only at hSw)
          first | (go_simp; done) | (go_simp; with_reducible rfl)
        try simp only [Act.put, List.setIfInBounds_toArray, List.set_cons_zero, List.set_cons_succ]
        refine wpAnyH_take (i := 9) (oi := { dst := some 80, op := _, type := _, pos := _, after := _, guard := _ }) (v := ?_) rfl (by kernel_rfl) (by kernel_rfl) (by kernel_rfl) (fun _ _ _ h => h) (Or.inl ⟨by rfl, ?_⟩) hH ?_
        rotate_left
        · intro wz hSw
          (try dsimp only at hSw)
          first | (go_simp; done) | (go_simp; with_reducible rfl)
        try simp only [Act.put, List.setIfInBounds_toArray, List.set_cons_zero, List.set_cons_succ]
        refine wpAnyH_take (i := 10) (oi := { dst := some 81, op := _, type := _, pos := _, after := _, guard := _ }) (v := ?_) rfl (by kernel_rfl) (by kernel_rfl) (by kernel_rfl) (fun _ _ _ h => h) (Or.inl ⟨by rfl, ?_⟩) hH ?_
        rotate_left
        · intro wz hSw
          (try dsimp only at hSw)
          first | (go_simp; done) | (go_simp; with_reducible rfl)
        try simp only [Act.put, List.setIfInBounds_toArray, List.set_cons_zero, List.set_cons_succ]
        refine wpAnyH_take (i := 11) (oi := { dst := some 82, op := _, type := _, pos := _, after := _, guard := _ }) (v := ?_) rfl (by kernel_rfl) (by kernel_rfl) (by kernel_rfl) (fun _ _ _ h => h) (Or.inl ⟨by rfl, ?_⟩) hH ?_
        rotate_left
        · intro wz hSw
          (try dsimp only at hSw)
          first | (go_simp; done) | (go_simp; with_reducible rfl)
        try simp only [Act.put, List.setIfInBounds_toArray, List.set_cons_zero, List.set_cons_succ]
        refine wpAnyH_take (i := 12) (oi := { dst := some 83, op := _, type := _, pos := _, after := _, guard := _ }) (v := ?_) rfl (by kernel_rfl) (by kernel_rfl) (by kernel_rfl) (fun _ _ _ h => h) (Or.inl ⟨by rfl, ?_⟩) hH ?_
        rotate_left
        · intro wz hSw
          (try dsimp only at hSw)
          first | (go_simp; done) | (go_simp; with_reducible rfl)
        try simp only [Act.put, List.setIfInBounds_toArray, List.set_cons_zero, List.set_cons_succ]
        refine wpAnyH_take (i := 13) (oi := { dst := some 84, op := _, type := _, pos := _, after := _, guard := _ }) (v := ?_) rfl (by kernel_rfl) (by kernel_rfl) (by kernel_rfl) (fun _ _ _ h => h) (Or.inl ⟨by rfl, ?_⟩) hH ?_
        rotate_left
        · intro wz hSw
          (try dsimp only at hSw)
          first | (go_simp; done) | (go_simp; with_reducible rfl)
        try simp only [Act.put, List.setIfInBounds_toArray, List.set_cons_zero, List.set_cons_succ]
        refine wpAnyH_take (i := 14) (oi := { dst := some 85, op := _, type := _, pos := _, after := _, guard := _ }) (v := ?_) rfl (by kernel_rfl) (by kernel_rfl) (by kernel_rfl) (fun _ _ _ h => h) (Or.inl ⟨by rfl, ?_⟩) hH ?_
        rotate_left
        · intro wz hSw
          (try dsimp only at hSw)
          first | (go_simp; done) | (go_simp; with_reducible rfl)
        try simp only [Act.put, List.setIfInBounds_toArray, List.set_cons_zero, List.set_cons_succ]
        refine wpAnyH_take (i := 15) (oi := { dst := some 86, op := _, type := _, pos := _, after := _, guard := _ }) (v := ?_) rfl (by kernel_rfl) (by kernel_rfl) (by kernel_rfl) (fun _ _ _ h => h) (Or.inl ⟨by rfl, ?_⟩) hH ?_
        rotate_left
        · intro wz hSw
          (try dsimp only at hSw)
          first | (go_simp; done) | (go_simp; with_reducible rfl)
        try simp only [Act.put, List.setIfInBounds_toArray, List.set_cons_zero, List.set_cons_succ]
        refine wpAnyH_take (i := 16) (oi := { dst := some 87, op := _, type := _, pos := _, after := _, guard := _ }) (v := ?_) rfl (by kernel_rfl) (by kernel_rfl) (by kernel_rfl) (fun _ _ _ h => h) (Or.inl ⟨by rfl, ?_⟩) hH ?_
        rotate_left
        · intro wz hSw
          (try dsimp only at hSw)
          first | (go_simp; done) | (go_simp; with_reducible rfl)
        try simp only [Act.put, List.setIfInBounds_toArray, List.set_cons_zero, List.set_cons_succ]
        refine wpAnyH_take (i := 17) (oi := { dst := some 88, op := _, type := _, pos := _, after := _, guard := _ }) (v := ?_) rfl (by kernel_rfl) (by kernel_rfl) (by kernel_rfl) (fun _ _ _ h => h) (Or.inl ⟨by rfl, ?_⟩) hH ?_
        rotate_left
        · intro wz hSw
          (try dsimp only at hSw)
          first | (go_simp; done) | (go_simp; with_reducible rfl)
        try simp only [Act.put, List.setIfInBounds_toArray, List.set_cons_zero, List.set_cons_succ]
        refine wpAnyH_take (i := 18) (oi := { dst := some 89, op := _, type := _, pos := _, after := _, guard := _ }) (v := ?_) rfl (by kernel_rfl) (by kernel_rfl) (by kernel_rfl) (fun _ _ _ h => h) (Or.inl ⟨by rfl, ?_⟩) hH ?_
        rotate_left
        · intro wz hSw
          (try dsimp only at hSw)
          have z0 := (hSw.cell (p := ⟨w.heap.size, 0, none⟩) hBT).trans t0
          have z1 := (hSw.cell (p := ⟨w.heap.size, 1, none⟩) hBT).trans t1
          have z2 := (hSw.cell (p := ⟨w.heap.size, 2, none⟩) hBT).trans t2
          first | (go_simp; done) | (go_simp; with_reducible rfl)
        try simp only [Act.put, List.setIfInBounds_toArray, List.set_cons_zero, List.set_cons_succ]
        refine wpAnyH_take (i := 19) (oi := { dst := some 90, op := _, type := _, pos := _, after := _, guard := _ }) (v := ?_) rfl (by kernel_rfl) (by kernel_rfl) (by kernel_rfl) (fun _ _ _ h => h) (Or.inl ⟨by rfl, ?_⟩) hH ?_
        rotate_left
        · intro wz hSw
          (try dsimp only at hSw)
          first | (go_simp; done) | (go_simp; with_reducible rfl)
        try simp only [Act.put, List.setIfInBounds_toArray, List.set_cons_zero, List.set_cons_succ]
        refine wpAnyH_take (i := 20) (oi := { dst := some 91, op := _, type := _, pos := _, after := _, guard := _ }) (v := ?_) rfl (by kernel_rfl) (by kernel_rfl) (by kernel_rfl) (fun _ _ _ h => h) (Or.inl ⟨by rfl, ?_⟩) hH ?_
        rotate_left
        · intro wz hSw
          (try dsimp only at hSw)
          first | (go_simp; done) | (go_simp; with_reducible rfl)
        try simp only [Act.put, List.setIfInBounds_toArray, List.set_cons_zero, List.set_cons_succ]
        refine wpAnyH_take (i := 22) (oi := { dst := some 93, op := _, type := _, pos := _, after := _, guard := _ }) (v := ?_) rfl (by kernel_rfl) (by kernel_rfl) (by kernel_rfl) (fun _ _ _ h => h) (Or.inl ⟨by rfl, ?_⟩) hH ?_
        rotate_left
        · intro wz hSw
          (try dsimp only at hSw)
          have zX := X.later hSw
          have z0 := zX.c0
          have z1 := zX.c1
          have z2 := zX.c2
          clear zX
          first | (go_simp; done) | (go_simp; with_reducible rfl)
        try simp only [Act.put, List.setIfInBounds_toArray, List.set_cons_zero, List.set_cons_succ]
        refine wpAnyH_take (i := 23) (oi := { dst := some 94, op := _, type := _, pos := _, after := _, guard := _ }) (v := ?_) rfl (by kernel_rfl) (by kernel_rfl) (by kernel_rfl) (fun _ _ _ h => h) (Or.inl ⟨by rfl, ?_⟩) hH ?_
        rotate_left
        · intro wz hSw
          (try dsimp only at hSw)
          first | (go_simp; done) | (go_simp; with_reducible rfl)
        try simp only [Act.put, List.setIfInBounds_toArray, List.set_cons_zero, List.set_cons_succ]
        refine wpAnyH_take (i := 24) (oi := { dst := some 95, op := _, type := _, pos := _, after := _, guard := _ }) (v := ?_) rfl (by kernel_rfl) (by kernel_rfl) (by kernel_rfl) (fun _ _ _ h => h) (Or.inl ⟨by rfl, ?_⟩) hH ?_
        rotate_left
        · intro wz hSw
          (try dsimp only at hSw)
          first | (go_simp; done) | (go_simp; with_reducible rfl)
        try simp only [Act.put, List.setIfInBounds_toArray, List.set_cons_zero, List.set_cons_succ]
        refine wpAnyH_ready (rs := [21]) (by kernel_rfl) (by simp) ?_
        refine (AllReadyH.cons (o := { dst := some 92, op := _, type := _, pos := _, after := _, guard := _ }) rfl (fun K hK => ?_) AllReadyH.nil)
        go_simp
        refine (cEt _ R).mono ?_
        rintro e w2221x1 ⟨rfl, hb⟩
        have hn : Below w22.heap.size w22 w2221x1 := below_step hH hb
        replace R8 := R8.later hb
        replace R := R.later hb
        clear hb
        go_wp2_with fail
        refine hK.out _ _ hn (fun hH2 => ?_)
        clear hK K hH hn
        have hH := hH2
        clear hH2
        try simp only [Act.put, List.setIfInBounds_toArray, List.set_cons_zero, List.set_cons_succ]
        refine wpAnyH_ready (rs := [25]) (by kernel_rfl) (by simp) ?_
        refine (AllReadyH.cons (o := { dst := some 96, op := _, type := _, pos := _, after := _, guard := _ }) rfl (fun K hK => ?_) AllReadyH.nil)
        go_simp
        refine (cEu _ _ _ R8).mono ?_
        rintro e w2225x2 ⟨rfl, hb⟩
        have hn : Below w22.heap.size w22 w2225x2 := below_step hH hb
        replace R8 := R8.later hb
        replace R := R.later hb
        clear hb
        go_wp2_with fail
        refine hK.out _ _ hn (fun hH2 => ?_)
        clear hK K hH hn
        have hH := hH2
        clear hH2
        try simp only [Act.put, List.setIfInBounds_toArray, List.set_cons_zero, List.set_cons_succ]
        refine wpAnyH_take (i := 26) (oi := { dst := some 97, op := _, type := _, pos := _, after := _, guard := _ }) (v := ?_) rfl (by kernel_rfl) (by kernel_rfl) (by kernel_rfl) (fun _ _ _ h => h) (Or.inl ⟨by rfl, ?_⟩) hH ?_
        rotate_left
        · intro wz hSw
          (try dsimp only at hSw)
          first | (go_simp; done) | (go_simp; with_reducible rfl)
        try simp only [Act.put, List.setIfInBounds_toArray, List.set_cons_zero, List.set_cons_succ]
        refine wpAnyH_take (i := 27) (oi := { dst := some 98, op := _, type := _, pos := _, after := _, guard := _ }) (v := ?_) rfl (by kernel_rfl) (by kernel_rfl) (by kernel_rfl) (fun _ _ _ h => h) (Or.inl ⟨by rfl, ?_⟩) hH ?_
        rotate_left
        · intro wz hSw
          (try dsimp only at hSw)
          first | (go_simp; done) | (go_simp; with_reducible rfl)
        try simp only [Act.put, List.setIfInBounds_toArray, List.set_cons_zero, List.set_cons_succ]
        refine wpAnyH_take (i := 28) (oi := { dst := some 6, op := _, type := _, pos := _, after := _, guard := _ }) (v := ?_) rfl (by kernel_rfl) (by kernel_rfl) (by kernel_rfl) (fun _ _ _ h => h) (Or.inl ⟨by rfl, ?_⟩) hH ?_
        rotate_left
        · intro wz hSw
          (try dsimp only at hSw)
          first | (go_simp; done) | (go_simp; with_reducible rfl)
        try simp only [Act.put, List.setIfInBounds_toArray, List.set_cons_zero, List.set_cons_succ]
        refine wpAnyH_done (by kernel_rfl) ?_ _
        refine NoPanic.normal ?_
        replace hB := below_step hB hH
        go_wp2_with fail
        go_ret
        exact ⟨by simp, hB⟩
theorem own : ownKnob Try.prog.godebug = none := by kernel_rfl
theorem laidOut : laidOutB Try.prog = true := by kernel_rfl
set_option maxRecDepth 100000 in
theorem lifted (os : Os) (started : os.Started) (H : Type) (enc : TypeId × Value → H) :
    ReturnsInHanded {} Try.checked os 7 .any (Rows.topoTurnedSpec.pre6 enc Try.prog Try.f7 Rows.topoTurnedRow.domain false) (Rows.topoTurnedSpec.post enc Try.prog Try.f7 false true false false) := by
  refine returnsInHanded_of_change (C := Try.checked) own started (by kernel_rfl) Try.func7
    (ChangeSpec.witness6 (enc := enc) (C := Try.checked) false ⟨#[], #[.agg #[.int .i64 0, .int .i64 0, .slice none 0 0], .int .i64 0, .int .i64 0], []⟩ 8 (by kernel_rfl) (by kernel_rfl) (by kernel_rfl) (by kernel_rfl)) ?_
  intro W base args ds gs before hval0 hW hcnd _
  have hval : ∀ (j : Nat) t v, Try.f7.params[j]? = some t → args[j]? = some v → Value.okWide Try.prog W .any base t v := hval0
  have hW' := hW
  obtain ⟨p, q, hA0, hV, rfl, hfz, hnd⟩ := hW
  have hA : DataW.TrodAll enc Try.prog W 0 (fun _ => true) true Try.f7.params.toList args.toList ds p := hA0
  rw [Try.params7] at hA hval
  obtain ⟨v0, vs0, d0, ds0, p0, q0, hargs, rfl, rfl, h0, r0⟩ := trodAll_cons hA
  obtain ⟨v1, vs1, d1, ds1, p1, q1, rfl, rfl, rfl, h1, r1⟩ := trodAll_cons r0
  obtain ⟨v2, vs2, d2, ds2, p2, q2, rfl, rfl, rfl, h2, r2⟩ := trodAll_cons r1
  obtain ⟨rfl, rfl, rfl⟩ := trodAll_nil r2
  obtain rfl : args = #[v0, v1, v2] := by cases args; simp_all
  obtain ⟨rfl, rfl⟩ := trodVars_none hV
  have k0 := h0
  have lt0 : ∀ x ∈ p0, x.block < W.heap.size := by obtain ⟨m, hm⟩ := k0; exact DataW.trod_lt m _ _ _ hm
  have k1 := h1
  have lt1 : ∀ x ∈ p1, x.block < W.heap.size := by obtain ⟨m, hm⟩ := k1; exact DataW.trod_lt m _ _ _ hm
  have k2 := h2
  have lt2 : ∀ x ∈ p2, x.block < W.heap.size := by obtain ⟨m, hm⟩ := k2; exact DataW.trod_lt m _ _ _ hm
  obtain ⟨a0, b0, x0, c0, l0, rfl, w0a, w0b, R0⟩ := open_topo (fun _ => rfl) (hval 0 24 v0 rfl rfl) h0
  obtain ⟨a1, rfl, rfl, hp1, w1⟩ := open_int Try.underlying3 (hval 1 3 v1 rfl rfl) h1
  obtain ⟨a2, rfl, rfl, hp2, w2⟩ := open_int Try.underlying3 (hval 2 3 v2 rfl rfl) h2
  clear hA0 hval0
  refine (walk a0 b0 x0 c0 l0 a1 a2 w0a w0b w1 w2 W R0).mono fun e W' ⟨he, bel⟩ => ?_
  subst he
  exact ⟨_, rfl, _, _, _, [], _, [], hW', trodAll_mk1 (shut_bool Try.underlying4 _), (trodAll_cons_mk (Below.trod laidOut (by kernel_rfl) (of_decide_eq_true (by kernel_rfl)) k0 bel lt0) (trodAll_cons_mk (Below.trod laidOut (by kernel_rfl) (of_decide_eq_true (by kernel_rfl)) k1 bel lt1) (trodAll_cons_mk (Below.trod laidOut (by kernel_rfl) (of_decide_eq_true (by kernel_rfl)) k2 bel lt2) trodAll_mk0))), rfl, bel.frame _, fun h => by cases h⟩

theorem over : Rows.topoTurnedRow.holds Try.pinned (OpenSpec.ofChange Rows.topoTurnedSpec) :=
  OpenClaim.holds_of_wide 7 Try.f7 rfl rfl rfl rfl rfl rfl rfl ⟨rfl, rfl, rfl, rfl, rfl⟩ rfl rfl rfl rfl rfl (by kernel_rfl) Try.func7 (by kernel_rfl)
    (of_decide_eq_true (by kernel_rfl)) (by unfold Func.isWrapper; first | (rw [if_pos (by decide +kernel)]; kernel_rfl) | (rw [if_neg (by decide +kernel)]; exact ⟨rfl, rfl⟩))
    (fun os started H enc _ => lifted os started H enc)
end Go.Proofs.Ytlfhjliphhfoaaa.topoTurned
namespace Go.Proofs.Ytlfhjliphhfoaaa
theorem topoTurned_holds : Rows.TopoTurnedSaid := topoTurned.over
#print axioms topoTurned_holds
end Go.Proofs.Ytlfhjliphhfoaaa
