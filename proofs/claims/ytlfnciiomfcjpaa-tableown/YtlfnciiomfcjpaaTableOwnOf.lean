/- The walk of TableOwn, over whatever code does as TabIf says. -/
import Derived.Test.YtlfnciiomfcjpaaTabIf
import Derived.Test.YtlfnciiomfcjpaaTabFacts
namespace Go.Proofs.Ytlfnciiomfcjpaa.tableOwn
open Go.ChangeShapes Go.WideShapes Go.ChangeAt Go.RowKit Pk Tb R
set_option linter.unusedVariables false
set_option linter.unusedSimpArgs false

theorem eq_same (a n i p k t : Int) (w : World) : (binOp .eql 28 (.agg #[.int .i64 a, .int .i64 n, .int .i64 i, .int .i64 p, .int .i64 k, .int .i64 t]) (.agg #[.int .i64 a, .int .i64 n, .int .i64 i, .int .i64 p, .int .i64 k, .int .i64 t])).run Try.prog w = .ok (.bool true) w := by go_simp
set_option maxRecDepth 100000 in
theorem walk_no (C : TCode) (a : Option Addr) (c : Nat) (l : List Vr) (t ra rn ri rp rk rt : Int) (w : World) (V : Vers 0 w a c l) (h : ¬ Fw l) :
    Calls Try.prog 7 #[.slice a l.length c, .int .i64 t, .agg #[.int .i64 ra, .int .i64 rn, .int .i64 ri, .int .i64 rp, .int .i64 rk, .int .i64 rt]] w fun e w' => e = .returned (.bool true) ∧ Below w.heap.size w w' := by
  have hn := below_new w (.cells #[.int .i64 ra, .int .i64 rn, .int .i64 ri, .int .i64 rp, .int .i64 rk, .int .i64 rt] 28)
  go_enter Try.func7, Try.ntmps7
  go_wp2_with fail
  refine (tawake_any C _).mono ?_
  rintro e w1 ⟨rfl, hb1⟩
  have hbA := below_step hn hb1
  have cF := few_any w1 (V.later hbA)
  rw [decide_eq_false h] at cF
  go_wp2_with fail
  refine cF.mono ?_
  clear cF
  rintro e w2 ⟨rfl, hb2⟩
  have hbB := below_step hbA hb2
  go_wp2_with fail
  go_ret
  exact ⟨rfl, hbB⟩
set_option maxRecDepth 100000 in
set_option maxHeartbeats 4000000 in
theorem walk_empty (C : TCode) (a : Option Addr) (c : Nat) (l : List Vr) (t ra rn ri rp rk rt : Int) (hwr : ∀ z ∈ fR ⟨ra, rn, ri, rp, rk, rt⟩, (Lit.int .i64 z).wf = true) (w : World) (V : Vers 0 w a c l) (h : Fw l) (hl : l = []) :
    Calls Try.prog 7 #[.slice a l.length c, .int .i64 t, .agg #[.int .i64 ra, .int .i64 rn, .int .i64 ri, .int .i64 rp, .int .i64 rk, .int .i64 rt]] w fun e w' => e = .returned (.bool true) ∧ Below w.heap.size w w' := by
  have HLN : Hid (l = []) := hl
  clear hl
  have hn := below_new w (.cells #[.int .i64 ra, .int .i64 rn, .int .i64 ri, .int .i64 rp, .int .i64 rk, .int .i64 rt] 28)
  have X := Lies.new w [ra, rn, ri, rp, rk, rt] 28 rfl
  go_enter Try.func7, Try.ntmps7
  go_wp2_with fail
  refine (tawake_any C _).mono ?_
  rintro e w1 ⟨rfl, hb1⟩
  have hbA := below_step hn hb1
  have cF := few_any w1 (V.later hbA)
  rw [decide_eq_true h] at cF
  have HS : Hid (Sm l) := fw_sm h
  have HF : Hid (Fw l) := h
  clear h
  go_wp2_with fail
  refine cF.mono ?_
  clear cF
  rintro e w2 ⟨rfl, hb2⟩
  have hbB := below_step hbA hb2
  have V2 := V.later hbB
  replace X := (X.later hb1).later hb2
  clear hb1 hbA hb2
  have hlb : ((l.length : Int) == 0) = true := by rw [HLN.out]; rfl
  go_wp2_with fail
  first | (go_quiet (fail); go_wp2_with fail) | skip
  go_ret
  exact ⟨rfl, by first | exact hbB | exact hbB.trans (below_draws _ _ _)⟩
set_option maxRecDepth 100000 in
set_option maxHeartbeats 4000000 in
theorem walk_hollow (C : TCode) (a : Option Addr) (c : Nat) (l : List Vr) (t ra rn ri rp rk rt : Int) (hwr : ∀ z ∈ fR ⟨ra, rn, ri, rp, rk, rt⟩, (Lit.int .i64 z).wf = true) (w : World) (V : Vers 0 w a c l) (h : Fw l) (zt : Int) (hz : l[0]? = some ⟨zt, []⟩) :
    Calls Try.prog 7 #[.slice a l.length c, .int .i64 t, .agg #[.int .i64 ra, .int .i64 rn, .int .i64 ri, .int .i64 rp, .int .i64 rk, .int .i64 rt]] w fun e w' => e = .returned (.bool true) ∧ Below w.heap.size w w' := by
  have HZN : Hid (l[0]? = some ⟨zt, []⟩) := hz
  clear hz
  have hn := below_new w (.cells #[.int .i64 ra, .int .i64 rn, .int .i64 ri, .int .i64 rp, .int .i64 rk, .int .i64 rt] 28)
  have X := Lies.new w [ra, rn, ri, rp, rk, rt] 28 rfl
  go_enter Try.func7, Try.ntmps7
  go_wp2_with fail
  refine (tawake_any C _).mono ?_
  rintro e w1 ⟨rfl, hb1⟩
  have hbA := below_step hn hb1
  have cF := few_any w1 (V.later hbA)
  rw [decide_eq_true h] at cF
  have HS : Hid (Sm l) := fw_sm h
  have HF : Hid (Fw l) := h
  clear h
  go_wp2_with fail
  refine cF.mono ?_
  clear cF
  rintro e w2 ⟨rfl, hb2⟩
  have hbB := below_step hbA hb2
  have V2 := V.later hbB
  replace X := (X.later hb1).later hb2
  clear hb1 hbA hb2
  have hz := HZN.out
  have hl0 : 0 < l.length := by
    rcases Nat.eq_zero_or_pos l.length with e | e
    · rw [List.eq_nil_of_length_eq_zero e] at hz; cases hz
    · exact e
  have hlb : ((l.length : Int) == 0) = false := by rw [beq_eq_false_iff_ne]; omega
  have hlz : (0 : Int) < (l.length : Int) := by omega
  obtain ⟨bl, ol, xl, kl, el, hbl, -, g1, -, -⟩ := V2.at hz
  cases el
  simp only [Nat.zero_mul, Nat.add_zero, List.length_nil] at g1
  clear hz hl0
  go_wp2_with fail
  first | (go_quiet (fail); go_wp2_with fail) | skip
  go_ret
  exact ⟨rfl, by first | exact hbB | exact hbB.trans (below_draws _ _ _)⟩
set_option maxRecDepth 100000 in
set_option maxHeartbeats 4000000 in
theorem walk_main (C : TCode) (a : Option Addr) (c : Nat) (l : List Vr) (t ra rn ri rp rk rt : Int) (hwr : ∀ z ∈ fR ⟨ra, rn, ri, rp, rk, rt⟩, (Lit.int .i64 z).wf = true) (w : World) (V : Vers 0 w a c l) (h : Fw l) (z0 : Vr) (sa sn si sp sk st : Int) (hz : l[0]? = some z0 ∧ z0.l[0]? = some ⟨sa, sn, si, sp, sk, st⟩) :
    Calls Try.prog 7 #[.slice a l.length c, .int .i64 t, .agg #[.int .i64 ra, .int .i64 rn, .int .i64 ri, .int .i64 rp, .int .i64 rk, .int .i64 rt]] w fun e w' => e = .returned (.bool true) ∧ Below w.heap.size w w' := by
  have mixed : Try.prog.follows .mixedOrders = true := by kernel_rfl
  have hn := below_new w (.cells #[.int .i64 ra, .int .i64 rn, .int .i64 ri, .int .i64 rp, .int .i64 rk, .int .i64 rt] 28)
  have X := Lies.new w [ra, rn, ri, rp, rk, rt] 28 rfl
  go_enter Try.func7, Try.ntmps7
  go_wp2_with fail
  refine (tawake_any C _).mono ?_
  rintro e w1 ⟨rfl, hb1⟩
  have hbA := below_step hn hb1
  have cF := few_any w1 (V.later hbA)
  rw [decide_eq_true h] at cF
  have HS : Hid (Sm l) := fw_sm h
  have HF : Hid (Fw l) := h
  clear h
  go_wp2_with fail
  refine cF.mono ?_
  clear cF
  rintro e w2 ⟨rfl, hb2⟩
  have hbB := below_step hbA hb2
  have V2 := V.later hbB
  replace X := (X.later hb1).later hb2
  clear hb1 hbA hb2
  have HZ : Hid (l[0]? = some z0 ∧ z0.l[0]? = some ⟨sa, sn, si, sp, sk, st⟩) := hz
  have hl0 : 0 < l.length := by rcases Nat.eq_zero_or_pos l.length with e | e; · rw [List.eq_nil_of_length_eq_zero e] at hz; cases hz.1
                                · exact e
  have hz0 : 0 < z0.l.length := by rcases Nat.eq_zero_or_pos z0.l.length with e | e; · rw [List.eq_nil_of_length_eq_zero e] at hz; cases hz.2
                                   · exact e
  have hlb : ((l.length : Int) == 0) = false := by rw [beq_eq_false_iff_ne]; omega
  have hzb : ((z0.l.length : Int) == 0) = false := by rw [beq_eq_false_iff_ne]; omega
  have hlz : (0 : Int) < (l.length : Int) := by omega
  have hzz : (0 : Int) < (z0.l.length : Int) := by omega
  obtain ⟨bl, ol, xl, kl, el, hbl, -, g1, Rz, -⟩ := V2.at HZ.out.1
  cases el
  obtain ⟨bz, oz, ez, hbz, hcz⟩ := Rz.at HZ.out.2
  cases ez
  have s0 := hcz 0 _ rfl
  have s1 := hcz 1 _ rfl
  have s2 := hcz 2 _ rfl
  have s3 := hcz 3 _ rfl
  have s4 := hcz 4 _ rfl
  have s5 := hcz 5 _ rfl
  simp only [Nat.zero_mul, Nat.add_zero] at g1 s0 s1 s2 s3 s4 s5
  have hnw := below_new w2 (.cells #[.int .i64 sa, .int .i64 sn, .int .i64 si, .int .i64 sp, .int .i64 sk, .int .i64 st] 28)
  have Xw : Lies (w2.alloc (.cells #[.int .i64 sa, .int .i64 sn, .int .i64 si, .int .i64 sp, .int .i64 sk, .int .i64 st] 28)) w2.heap.size [sa, sn, si, sp, sk, st] := Lies.new w2 [sa, sn, si, sp, sk, st] 28 rfl
  replace V2 := V2.later hnw
  replace X := X.later hnw
  replace hbB := below_step hbB hnw
  obtain ⟨x0, x1, x2, x3, x4, x5⟩ := X.six
  have cc := C.putL _ V2 HS.out t 10000 ra rn ri rp rk rt hwr
  clear hz hnw X
  go_wp2_with fail
  clear x0 x1 x2 x3 x4 x5 s0 s1 s2 s3 s4 s5 g1 Rz hcz hbz
  refine cc.mono ?_
  clear cc
  rintro e w3 ⟨y1, k1, rfl, P0, L0, hbW⟩
  have HLE : Hid (l.length ≤ (putT l t ⟨ra, rn, ri, rp, rk, rt⟩ 10000).1.length) := put_len
  have hwB := hbB.size
  generalize (putT l t ⟨ra, rn, ri, rp, rk, rt⟩ 10000).2 = E1
  generalize (putT l t ⟨ra, rn, ri, rp, rk, rt⟩ 10000).1 = LA at P0 L0 HLE ⊢
  generalize w2.alloc (.cells #[.int .i64 sa, .int .i64 sn, .int .i64 si, .int .i64 sp, .int .i64 sk, .int .i64 st] 28) = W0 at P0 L0 V2 Xw hbB hbW hwB
  have cc := C.dropL w3 (V2.later hbW) HS.out t
  go_wp2_with fail
  refine cc.mono ?_
  clear cc
  rintro e w4 ⟨y2, k2, rfl, D1, L2, hb4⟩
  have hbX := below_step hbW hb4
  have hW3 := hbW.size
  generalize dropT l t = LD at D1 L2 ⊢
  have hLA0 : 0 < LA.length := Nat.lt_of_lt_of_le hl0 HLE.out
  have hLAz : (0 : Int) < (LA.length : Int) := by omega
  have hLAb : decide ((0 : Int) < (LA.length : Int)) = true := decide_eq_true hLAz
  have hva := getD_atV hLA0
  generalize LA.getD 0 default = a0 at hva
  obtain ⟨at0, al⟩ := a0
  have hge : decide ((l.length : Int) ≤ (LA.length : Int)) = true := decide_eq_true (by have h := HLE.out; omega)
  have hgn : decide (l.length ≤ LA.length) = true := decide_eq_true HLE.out
  have hq := eq_same sa sn si sp sk st
  clear hl0 hz0 hbW
  cases al with
  | nil =>
    obtain ⟨b, o, x, kk, e, hb1, -, g1, -, -⟩ := P0.at hva
    cases e
    have G1 := (hb4.cell (p := ⟨b, o + 0 * 2 + 1, none⟩) hb1).trans g1
    simp only [Nat.zero_mul, Nat.add_zero, List.length_nil] at G1
    clear g1 hva P0 L0
    have hbZ := hbX
    by_cases hd : LD.length = 0
    · have hdp : (0 < LD.length) = False := eq_false (by omega)
      have hdb : decide ((0 : Int) < (LD.length : Int)) = false := decide_eq_false (by omega)
      clear hd D1 L2
      have VZ := V2.later hbZ
      have XZ := Xw.later hbZ
      obtain ⟨bl2, ol2, xl2, kl2, el2, -, -, g9, Rz9, -⟩ := VZ.at HZ.out.1
      cases el2
      obtain ⟨bz9, oz9, ez9, -, hcz9⟩ := Rz9.at HZ.out.2
      cases ez9
      have t0 := hcz9 0 _ rfl
      have t1 := hcz9 1 _ rfl
      have t2 := hcz9 2 _ rfl
      have t3 := hcz9 3 _ rfl
      have t4 := hcz9 4 _ rfl
      have t5 := hcz9 5 _ rfl
      simp only [Nat.zero_mul, Nat.add_zero] at g9 t0 t1 t2 t3 t4 t5
      obtain ⟨x0, x1, x2, x3, x4, x5⟩ := XZ.six
      clear VZ XZ Rz9 hcz9
      go_wp2_with fail
      go_quiet (fail)
      go_wp2_with fail
      go_ret
      exact ⟨rfl, (below_step hbB hbZ).trans (below_draws _ _ _)⟩
    · have hd0 : 0 < LD.length := by omega
      have hd0z : (0 : Int) < (LD.length : Int) := by omega
      have hvd := getD_atV hd0
      generalize LD.getD 0 default = d0 at hvd
      obtain ⟨dt0, dl⟩ := d0
      cases dl with
      | nil =>
        obtain ⟨b5, o5, x5, kk5, e5, -, -, g5, -, -⟩ := D1.at hvd
        cases e5
        simp only [Nat.zero_mul, Nat.add_zero, List.length_nil] at g5
        clear hvd hd D1 L2
        have VZ := V2.later hbZ
        have XZ := Xw.later hbZ
        obtain ⟨bl2, ol2, xl2, kl2, el2, -, -, g9, Rz9, -⟩ := VZ.at HZ.out.1
        cases el2
        obtain ⟨bz9, oz9, ez9, -, hcz9⟩ := Rz9.at HZ.out.2
        cases ez9
        have t0 := hcz9 0 _ rfl
        have t1 := hcz9 1 _ rfl
        have t2 := hcz9 2 _ rfl
        have t3 := hcz9 3 _ rfl
        have t4 := hcz9 4 _ rfl
        have t5 := hcz9 5 _ rfl
        simp only [Nat.zero_mul, Nat.add_zero] at g9 t0 t1 t2 t3 t4 t5
        obtain ⟨x0, x1, x2, x3, x4, x5⟩ := XZ.six
        clear VZ XZ Rz9 hcz9
        go_wp2_with fail
        go_quiet (fail)
        go_wp2_with fail
        go_ret
        exact ⟨rfl, (below_step hbB hbZ).trans (below_draws _ _ _)⟩
      | cons r2 rest2 =>
        obtain ⟨r2a, r2n, r2i, r2p, r2k, r2t⟩ := r2
        obtain ⟨b5, o5, bx5, ox5, kk5, e5, -, g5, hB5, hlt5, hcell5, hfr5⟩ := D1.first L2 hvd (r := ⟨r2a, r2n, r2i, r2p, r2k, r2t⟩) rfl
        cases e5
        have Gp5 := hcell5 3 _ rfl
        have Gf5 := hfr5 (ox5 + 3)
        have hdl : 0 < (((⟨r2a, r2n, r2i, r2p, r2k, r2t⟩ : Rl) :: rest2).length) := Nat.succ_pos _
        generalize (⟨r2a, r2n, r2i, r2p, r2k, r2t⟩ : Rl) :: rest2 = dl at g5 hvd hdl
        have hdlz : (0 : Int) < (dl.length : Int) := by omega
        replace hbZ := (hbZ.setCell (p := ⟨bx5, ox5 + 3, none⟩) (Nat.le_trans hW3 hB5) (.int .i64 (wrap64 (r2p + 1)))).drew
        clear hcell5 hfr5 hvd hd D1 L2
        go_wp2_with fail
        go_big_region_o
        clear Gp5 Gf5 g5 hdl hdlz
        generalize (w4.setCell ⟨bx5, ox5 + 3, none⟩ (.int .i64 (wrap64 (r2p + 1)))).drew = wB at hbZ ⊢
        have VZ := V2.later hbZ
        have XZ := Xw.later hbZ
        obtain ⟨bl2, ol2, xl2, kl2, el2, -, -, g9, Rz9, -⟩ := VZ.at HZ.out.1
        cases el2
        obtain ⟨bz9, oz9, ez9, -, hcz9⟩ := Rz9.at HZ.out.2
        cases ez9
        have t0 := hcz9 0 _ rfl
        have t1 := hcz9 1 _ rfl
        have t2 := hcz9 2 _ rfl
        have t3 := hcz9 3 _ rfl
        have t4 := hcz9 4 _ rfl
        have t5 := hcz9 5 _ rfl
        simp only [Nat.zero_mul, Nat.add_zero] at g9 t0 t1 t2 t3 t4 t5
        obtain ⟨x0, x1, x2, x3, x4, x5⟩ := XZ.six
        clear VZ XZ Rz9 hcz9
        go_wp2_with fail
        go_quiet (fail)
        go_wp2_with fail
        go_ret
        exact ⟨rfl, (below_step hbB hbZ).trans (below_draws _ _ _)⟩
  | cons r1 rest =>
    obtain ⟨r1a, r1n, r1i, r1p, r1k, r1t⟩ := r1
    obtain ⟨b, o, bx, ox, kk, e, hb1, g1, hB, hlt, hcell, hfr⟩ := P0.first L0 hva (r := ⟨r1a, r1n, r1i, r1p, r1k, r1t⟩) rfl
    cases e
    have G1 := (hb4.cell (p := ⟨b, o + 1, none⟩) hb1).trans g1
    have Gp := (hb4.cell (p := ⟨bx, ox + 3, none⟩) hlt).trans (hcell 3 _ rfl)
    have Gf := (hb4.frozen (p := ⟨bx, ox + 3, none⟩) hlt).trans (hfr (ox + 3))
    have hal : 0 < (((⟨r1a, r1n, r1i, r1p, r1k, r1t⟩ : Rl) :: rest).length) := Nat.succ_pos _
    generalize (⟨r1a, r1n, r1i, r1p, r1k, r1t⟩ : Rl) :: rest = al at G1 hva hal
    have halz : (0 : Int) < (al.length : Int) := by omega
    have hbZ := (hbX.setCell (p := ⟨bx, ox + 3, none⟩) hB (.int .i64 (wrap64 (r1p + 1)))).drew
    have DA := (D1.kept (Keeps.setCell (p := ⟨bx, ox + 3, none⟩) (Keeps.refl (fun k => k = bx) w4) (fun _ => rfl) (.int .i64 (wrap64 (r1p + 1)))) hlt)
    have LA2 := Loose.later DA (Loose.kept (p0 := ⟨bx, ox + 3, none⟩) (u := .int .i64 (wrap64 (r1p + 1))) D1 L2 rfl hlt) (Below.refl _ _).drew
    replace DA := DA.later (Below.refl _ _).drew
    clear g1 hcell hfr hva P0 L0
    go_wp2_with fail
    go_big_region_o
    clear Gp Gf G1 hal halz D1 L2 hb4 hbX
    generalize (w4.setCell ⟨bx, ox + 3, none⟩ (.int .i64 (wrap64 (r1p + 1)))).drew = wA at hbZ DA LA2 ⊢
    by_cases hd : LD.length = 0
    · have hdp : (0 < LD.length) = False := eq_false (by omega)
      have hdb : decide ((0 : Int) < (LD.length : Int)) = false := decide_eq_false (by omega)
      clear hd DA LA2
      have VZ := V2.later hbZ
      have XZ := Xw.later hbZ
      obtain ⟨bl2, ol2, xl2, kl2, el2, -, -, g9, Rz9, -⟩ := VZ.at HZ.out.1
      cases el2
      obtain ⟨bz9, oz9, ez9, -, hcz9⟩ := Rz9.at HZ.out.2
      cases ez9
      have t0 := hcz9 0 _ rfl
      have t1 := hcz9 1 _ rfl
      have t2 := hcz9 2 _ rfl
      have t3 := hcz9 3 _ rfl
      have t4 := hcz9 4 _ rfl
      have t5 := hcz9 5 _ rfl
      simp only [Nat.zero_mul, Nat.add_zero] at g9 t0 t1 t2 t3 t4 t5
      obtain ⟨x0, x1, x2, x3, x4, x5⟩ := XZ.six
      clear VZ XZ Rz9 hcz9
      go_wp2_with fail
      go_quiet (fail)
      go_wp2_with fail
      go_ret
      exact ⟨rfl, (below_step hbB hbZ).trans (below_draws _ _ _)⟩
    · have hd0 : 0 < LD.length := by omega
      have hd0z : (0 : Int) < (LD.length : Int) := by omega
      have hvd := getD_atV hd0
      generalize LD.getD 0 default = d0 at hvd
      obtain ⟨dt0, dl⟩ := d0
      cases dl with
      | nil =>
        obtain ⟨b5, o5, x5, kk5, e5, -, -, g5, -, -⟩ := DA.at hvd
        cases e5
        simp only [Nat.zero_mul, Nat.add_zero, List.length_nil] at g5
        clear hvd hd DA LA2
        have VZ := V2.later hbZ
        have XZ := Xw.later hbZ
        obtain ⟨bl2, ol2, xl2, kl2, el2, -, -, g9, Rz9, -⟩ := VZ.at HZ.out.1
        cases el2
        obtain ⟨bz9, oz9, ez9, -, hcz9⟩ := Rz9.at HZ.out.2
        cases ez9
        have t0 := hcz9 0 _ rfl
        have t1 := hcz9 1 _ rfl
        have t2 := hcz9 2 _ rfl
        have t3 := hcz9 3 _ rfl
        have t4 := hcz9 4 _ rfl
        have t5 := hcz9 5 _ rfl
        simp only [Nat.zero_mul, Nat.add_zero] at g9 t0 t1 t2 t3 t4 t5
        obtain ⟨x0, x1, x2, x3, x4, x5⟩ := XZ.six
        clear VZ XZ Rz9 hcz9
        go_wp2_with fail
        go_quiet (fail)
        go_wp2_with fail
        go_ret
        exact ⟨rfl, (below_step hbB hbZ).trans (below_draws _ _ _)⟩
      | cons r2 rest2 =>
        obtain ⟨r2a, r2n, r2i, r2p, r2k, r2t⟩ := r2
        obtain ⟨b5, o5, bx5, ox5, kk5, e5, -, g5, hB5, hlt5, hcell5, hfr5⟩ := DA.first LA2 hvd (r := ⟨r2a, r2n, r2i, r2p, r2k, r2t⟩) rfl
        cases e5
        have Gp5 := hcell5 3 _ rfl
        have Gf5 := hfr5 (ox5 + 3)
        have hdl : 0 < (((⟨r2a, r2n, r2i, r2p, r2k, r2t⟩ : Rl) :: rest2).length) := Nat.succ_pos _
        generalize (⟨r2a, r2n, r2i, r2p, r2k, r2t⟩ : Rl) :: rest2 = dl at g5 hvd hdl
        have hdlz : (0 : Int) < (dl.length : Int) := by omega
        replace hbZ := (hbZ.setCell (p := ⟨bx5, ox5 + 3, none⟩) (Nat.le_trans hW3 hB5) (.int .i64 (wrap64 (r2p + 1)))).drew
        clear hcell5 hfr5 hvd hd DA LA2
        go_wp2_with fail
        go_big_region_o
        clear Gp5 Gf5 g5 hdl hdlz
        generalize (wA.setCell ⟨bx5, ox5 + 3, none⟩ (.int .i64 (wrap64 (r2p + 1)))).drew = wB at hbZ ⊢
        have VZ := V2.later hbZ
        have XZ := Xw.later hbZ
        obtain ⟨bl2, ol2, xl2, kl2, el2, -, -, g9, Rz9, -⟩ := VZ.at HZ.out.1
        cases el2
        obtain ⟨bz9, oz9, ez9, -, hcz9⟩ := Rz9.at HZ.out.2
        cases ez9
        have t0 := hcz9 0 _ rfl
        have t1 := hcz9 1 _ rfl
        have t2 := hcz9 2 _ rfl
        have t3 := hcz9 3 _ rfl
        have t4 := hcz9 4 _ rfl
        have t5 := hcz9 5 _ rfl
        simp only [Nat.zero_mul, Nat.add_zero] at g9 t0 t1 t2 t3 t4 t5
        obtain ⟨x0, x1, x2, x3, x4, x5⟩ := XZ.six
        clear VZ XZ Rz9 hcz9
        go_wp2_with fail
        go_quiet (fail)
        go_wp2_with fail
        go_ret
        exact ⟨rfl, (below_step hbB hbZ).trans (below_draws _ _ _)⟩

end Go.Proofs.Ytlfnciiomfcjpaa.tableOwn
