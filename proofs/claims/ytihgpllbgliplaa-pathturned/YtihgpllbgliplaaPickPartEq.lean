/- What the library's partition of equals does to a row of numbers. -/
import Derived.Test.YtihgpllbgliplaaPickSteps
namespace Go.Proofs.Ytihgpllbgliplaa
open Go.ChangeShapes Go.WideShapes Go.ChangeAt Go.RowKit Go.Sort Go.Shelf
set_option linter.unusedVariables false
set_option linter.unusedSimpArgs false

section
set_option maxRecDepth 100000
set_option maxHeartbeats 4000000
variable {n : Nat} {w0 : World} {B : Nat} {rv : Value} {cf : Fin (n + 1) → Fin (n + 1) → Int} (hc : Cmp w0 B rv cf)
include hc
theorem parte_any {w : World} {d : Array (Fin (n + 1))} (R : Row w0 B d w) {a b pivot c : Nat} (hap : a ≤ pivot) (hpb : pivot < b) (hb : b ≤ d.size) (hsz : d.size ≤ 1000) :
    Calls Try.prog 71 #[.slice (some ⟨B, 0, none⟩) d.size c, .int .i64 (a : Nat), .int .i64 (b : Nat), .int .i64 (pivot : Nat), mv rv] w fun e w' => e = .returned (.int .i64 (((partitionEqual (ltc cf) d a b pivot).1 : Nat) : Int)) ∧ Row w0 B (partitionEqual (ltc cf) d a b pivot).2 w' := by
  have eg := enters20
  have mixed : Try.prog.follows .mixedOrders = true := by kernel_rfl
  unfold partitionEqual
  obtain ⟨i, j, hi, hj, hbb, maa, mab, mba, mbb⟩ := part_facts a b d.size (by omega) (by omega) hb hsz
  rw [hi, hj]
  obtain ⟨dj, hdj⟩ : ∃ dj, swp d a pivot = dj := ⟨_, rfl⟩
  have hsj : dj.size = d.size := by rw [← hdj, swp_size]
  generalize hres : partEqLoop (ltc cf) a i j (swp d a pivot) = res
  rw [hdj] at hres
  have HP : Hid (partEqLoop (ltc cf) a i j dj = res) := hres
  have HB : Hid (a < i ∧ i ≤ j + 1 ∧ j < b ∧ b ≤ d.size ∧ d.size ≤ 1000 ∧ dj.size = d.size) := ⟨hbb.1, hbb.2.1, hbb.2.2, hb, hsz, hsj⟩
  have h0 : a < d.size := by clear maa mab mba mbb; omega
  have h1 : pivot < d.size := by clear maa mab mba mbb; omega
  clear hres hsj hbb hi hj hap hpb hb hsz
  have i0 : (a : Int) < (d.size : Int) := Int.ofNat_lt.2 h0
  have i1 : (pivot : Int) < (d.size : Int) := Int.ofNat_lt.2 h1
  obtain ⟨x, hx⟩ : ∃ x, d[a]! = x := ⟨_, rfl⟩
  obtain ⟨y, hy⟩ : ∃ y, d[pivot]! = y := ⟨_, rfl⟩
  go_enter Try.func71, Try.ntmps71
  have c1 := R.cell a h0
  have c2 := R.cell pivot h1
  have f1 := R.frozen a h0
  have f2 := R.frozen pivot h1
  obtain ⟨u3, c3⟩ := R.c2 (i := a) (j := pivot) h0 h1 (.int .i64 (((y : Fin (n + 1)) : Nat) : Int))
  have RI := (R.swap (i := a) (j := pivot) h0 h1 hx hy).drew
  rw [hx] at c1
  rw [hy] at c2
  clear R
  go_wp2_with fail
  go_big_region_o
  clear c1 c2 c3 f1 f2 u3
  generalize (w.setCell ⟨B, a, none⟩ _).setCell ⟨B, pivot, none⟩ _ = wz at RI ⊢
  generalize World.drew wz = w' at RI ⊢
  clear wz
  rw [hdj] at RI
  clear hdj hx hy h0 h1
  go_wp2_with fail
  clear maa mab mba mbb i0 i1
  go_loopw [11, 12] (fun vi vj wr => ∃ (i j : Nat) (dj : Array (Fin (n + 1))), vi = .int .i64 (i : Nat) ∧ vj = .int .i64 (j : Nat) ∧ a < i ∧ i ≤ j + 1 ∧ j < b ∧ dj.size = d.size ∧ Row w0 B dj wr ∧ Hid (partEqLoop (ltc cf) a i j dj = res)) (fun vi vj _ => (intOf vj).toNat + 1 - (intOf vi).toNat)
  case atStart => exact ⟨i, j, dj, rfl, rfl, HB.out.1, HB.out.2.1, HB.out.2.2.1, HB.out.2.2.2.2.2, RI, HP⟩
  case round =>
    have HB2 : Hid (b ≤ d.size ∧ d.size ≤ 1000) := ⟨HB.out.2.2.2.1, HB.out.2.2.2.2.1⟩
    clear RI HP HB
    obtain ⟨i, j, dj, rfl, rfl, hai, hij, hjb, hsj, RI, HP⟩ := hrel
    have HB : Hid (a < i ∧ i ≤ j + 1 ∧ j < b ∧ b ≤ d.size ∧ d.size ≤ 1000 ∧ dj.size = d.size) := ⟨hai, hij, hjb, HB2.out.1, HB2.out.2, hsj⟩
    clear hai hij hjb hsj HB2
    go_wp2_with fail
    go_loopw [11] (fun v wr => ∃ p : Nat, v = .int .i64 (p : Nat) ∧ i ≤ p ∧ p ≤ j + 1 ∧ Row w0 B dj wr ∧ Hid (scanUp (fun x => !ltc cf dj[a]! x) dj j p = scanUp (fun x => !ltc cf dj[a]! x) dj j i)) (fun v _ => j + 1 - (intOf v).toNat)
    case atStart => exact ⟨i, rfl, Nat.le_refl _, HB.out.2.1, RI, rfl⟩
    case round =>
      clear RI
      obtain ⟨p, rfl, hp1, hp2, R2, H2⟩ := hrel
      have HU : Hid (i ≤ p ∧ p ≤ j + 1) := ⟨hp1, hp2⟩
      clear hp1 hp2
      obtain ⟨y, hy⟩ : ∃ y, dj[a]! = y := ⟨_, rfl⟩
      have ia : (a : Int) < (d.size : Int) := by have HBo := HB.out; omega
      by_cases hle : p ≤ j
      · have hlez : (p : Int) ≤ (j : Int) := by omega
        have HL : Hid (p ≤ j) := hle
        clear hle
        have ip : (p : Int) < (d.size : Int) := by have HBo := HB.out; have HLo := HL.out; omega
        obtain ⟨x, hx⟩ : ∃ x, dj[p]! = x := ⟨_, rfl⟩
        have l1 := R2.at (i := p) (by have HBo := HB.out; have HLo := HL.out; omega) hx
        have l2 := R2.at (i := a) (by have HBo := HB.out; omega) hy
        have cc := R2.cmp hc y x
        cases hl : ltc cf y x with
        | false =>
          have hv : ¬ cf y x < 0 := of_decide_eq_false hl
          have hvd : decide (cf y x < 0) = false := hl
          have hvn : (!decide (cf y x < 0)) = true := by rw [hvd]; rfl
          obtain ⟨p', hp'⟩ : ∃ p', p + 1 = p' := ⟨_, rfl⟩
          have HN : Hid (p + 1 = p') := hp'
          have H3 : Hid (scanUp (fun x => !ltc cf dj[a]! x) dj j p' = scanUp (fun x => !ltc cf dj[a]! x) dj j i) := by show _ = _; rw [← H2.out, ← hp', up_go HL.out (by simp [hx, hy, hl])]
          clear H2 hl hx hy hp'
          have zmp : (p : Int) + 1 = (p' : Int) := by have HBo := HB.out; have HLo := HL.out; have HNo := HN.out; omega
          have lmp : p' ≤ 4000000 := by have HBo := HB.out; have HLo := HL.out; have HNo := HN.out; omega
          have mpa := w64i_of zmp lmp
          have mpb := w64_of zmp lmp
          clear zmp lmp
          go_wp2_with fail
          refine wp_region_below (by kernel_rfl) (by kernel_rfl) ?_
          repeat (quiet_step ((go_at_call 50; exact cc _)))
          refine wpQuiet_nil ?_
          rintro _ ⟨bw, rfl⟩
          have R3 := R2.later bw.hb
          clear l1 l2 cc R2
          generalize bw.w = w3 at R3 ⊢
          clear bw
          go_wp2_with fail
          clear mpa mpb hv hvd hvn
          go_roundw
          case rel => exact ⟨p', rfl, by have HUo := HU.out; have HNo := HN.out; omega, by have HLo := HL.out; have HNo := HN.out; omega, R3, H3⟩
          case measure => simp [intOf]; have h1 := HL.out; have h2 := HN.out; omega
        | true =>
          have hv : cf y x < 0 := of_decide_eq_true hl
          have hvd : decide (cf y x < 0) = true := hl
          have hvn : (!decide (cf y x < 0)) = false := by rw [hvd]; rfl
          have HUP : Hid (scanUp (fun x => !ltc cf dj[a]! x) dj j i = p) := by
            show _ = _
            rw [← H2.out, up_stop (by simp [hx, hy, hl])]
          have HX : Hid (dj[p]! = x ∧ dj[a]! = y ∧ ltc cf y x = true) := ⟨hx, hy, hl⟩
          clear H2 hl hx hy
          go_wp2_with fail
          refine wp_region_below (by kernel_rfl) (by kernel_rfl) ?_
          repeat (quiet_step ((go_at_call 50; exact cc _)))
          refine wpQuiet_nil ?_
          rintro _ ⟨bw, rfl⟩
          have R3 := R2.later bw.hb
          clear l1 l2 cc R2
          generalize bw.w = w3 at R3 ⊢
          clear bw
          go_wp2_with fail
          clear hv hvd hvn
          go_loopw [12] (fun v wr => ∃ q : Nat, v = .int .i64 (q : Nat) ∧ q ≤ j ∧ p ≤ q + 1 ∧ Row w0 B dj wr ∧ Hid (scanDown (fun x => ltc cf dj[a]! x) dj p q = scanDown (fun x => ltc cf dj[a]! x) dj p j)) (fun v _ => (intOf v).toNat)
          case atStart => exact ⟨j, rfl, Nat.le_refl _, HU.out.2, R3, rfl⟩
          case round =>
            clear R3
            obtain ⟨q, rfl, hq1, hq2, R4, H4⟩ := hrel
            have HQ : Hid (q ≤ j ∧ p ≤ q + 1) := ⟨hq1, hq2⟩
            clear hq1 hq2
            by_cases hle2 : p ≤ q
            · have hlez2 : (p : Int) ≤ (q : Int) := by omega
              have HM : Hid (p ≤ q) := hle2
              clear hle2
              have iq : (q : Int) < (d.size : Int) := by have HBo := HB.out; have HQo := HQ.out; omega
              obtain ⟨z, hz⟩ : ∃ z, dj[q]! = z := ⟨_, rfl⟩
              have l1 := R4.at (i := q) (by have HBo := HB.out; have HQo := HQ.out; omega) hz
              have l2 := R4.at (i := a) (by have HBo := HB.out; omega) HX.out.2.1
              have cc := R4.cmp hc y z
              obtain ⟨q', hq'⟩ : ∃ q', q - 1 = q' := ⟨_, rfl⟩
              have HN : Hid (q' + 1 = q) := by show _ = _; have h1 := HB.out; have h2 := HM.out; have h3 := HU.out; omega
              have zmq : (q : Int) - 1 = (q' : Int) := by have HBo := HB.out; have HQo := HQ.out; have HNo := HN.out; omega
              have lmq : q' ≤ 4000000 := by have HBo := HB.out; have HQo := HQ.out; have HNo := HN.out; omega
              have mqa := w64i_of zmq lmq
              have mqb := w64_of zmq lmq
              clear zmq lmq
              cases hl : ltc cf y z with
              | true =>
                have hv : cf y z < 0 := of_decide_eq_true hl
                have hvd : decide (cf y z < 0) = true := hl
                have hvn : (!decide (cf y z < 0)) = false := by rw [hvd]; rfl
                have H5 : Hid (scanDown (fun x => ltc cf dj[a]! x) dj p q' = scanDown (fun x => ltc cf dj[a]! x) dj p j) := by
                  show _ = _
                  rw [← H4.out, ← HN.out, down_go (by rw [HN.out]; exact HM.out) (by simp [HN.out, hz, HX.out.2.1, hl])]
                clear H4 hl hz hq'
                go_wp2_with fail
                refine wp_region_below (by kernel_rfl) (by kernel_rfl) ?_
                repeat (quiet_step ((go_at_call 50; exact cc _)))
                refine wpQuiet_nil ?_
                rintro _ ⟨bw, rfl⟩
                have R5 := R4.later bw.hb
                clear l1 l2 cc R4
                generalize bw.w = w5 at R5 ⊢
                clear bw
                go_wp2_with fail
                clear mqa mqb hv hvd hvn
                go_roundw
                case rel => exact ⟨q', rfl, by have HQo := HQ.out; have HNo := HN.out; omega, by have HMo := HM.out; have HNo := HN.out; omega, R5, H5⟩
                case measure => simp [intOf]; have h1 := HN.out; omega
              | false =>
                have hv : ¬ cf y z < 0 := of_decide_eq_false hl
                have hvd : decide (cf y z < 0) = false := hl
                have hvn : (!decide (cf y z < 0)) = true := by rw [hvd]; rfl
                have HV : Hid (scanDown (fun x => ltc cf dj[a]! x) dj p j = q) := by
                  show _ = _
                  rw [← H4.out, down_stop (by simp [hz, HX.out.2.1, hl])]
                have hne : p ≠ q := by
                  intro e
                  have h1 := HX.out.1
                  rw [e, hz] at h1
                  have h2 := HX.out.2.2
                  rw [← h1, hl] at h2
                  cases h2
                have HNE : Hid (p < q) := Nat.lt_of_le_of_ne HM.out hne
                obtain ⟨p', hp'⟩ : ∃ p', p + 1 = p' := ⟨_, rfl⟩
                have HN2 : Hid (p + 1 = p') := hp'
                have HR : Hid (partEqLoop (ltc cf) a p' q' (swp dj p q) = res) := by
                  have := partE_next HP.out HUP.out HV.out (Nat.not_lt.2 HM.out)
                  rw [hq', hp'] at this
                  exact this
                have hx := HX.out.1
                have hp2 : p < dj.size := by have h1 := HB.out; have h2 := HL.out; clear mqa mqb; omega
                have hq2 : q < dj.size := by have h1 := HB.out; have h2 := HQ.out; clear mqa mqb; omega
                clear H4 hl HUP HV HP HX hp' hq' hne
                go_wp2_with fail
                refine wp_region_below (by kernel_rfl) (by kernel_rfl) ?_
                repeat (quiet_step ((go_at_call 50; exact cc _)))
                refine wpQuiet_nil ?_
                rintro _ ⟨bw, rfl⟩
                have R5 := R4.later bw.hb
                clear l1 l2 cc R4
                generalize bw.w = w5 at R5 ⊢
                clear bw
                have hnlt : ¬ (q : Int) < (p : Int) := Int.not_lt.2 hlez2
                go_wp2_with fail
                clear hv hvd hvn
                have c1 := R5.cell p hp2
                have c2 := R5.cell q hq2
                have f1 := R5.frozen p hp2
                have f2 := R5.frozen q hq2
                obtain ⟨u3, c3⟩ := R5.c2 (i := p) (j := q) hp2 hq2 (.int .i64 (((z : Fin (n + 1)) : Nat) : Int))
                have R6 := (R5.swap (i := p) (j := q) hp2 hq2 hx hz).drew
                rw [hx] at c1
                rw [hz] at c2
                clear R5
                go_wp2_with fail
                go_big_region_o
                clear c1 c2 c3 f1 f2 u3
                generalize (w5.setCell ⟨B, p, none⟩ _).setCell ⟨B, q, none⟩ _ = wz at R6 ⊢
                generalize World.drew wz = w5' at R6 ⊢
                clear wz
                clear hx hz hnlt hp2 hq2 mqa mqb
                have zmp : (p : Int) + 1 = (p' : Int) := by have HBo := HB.out; have HLo := HL.out; have HN2o := HN2.out; omega
                have lmp : p' ≤ 4000000 := by have HBo := HB.out; have HLo := HL.out; have HN2o := HN2.out; omega
                have mpa := w64i_of zmp lmp
                have mpb := w64_of zmp lmp
                clear zmp lmp
                have zmq : (q : Int) - 1 = (q' : Int) := by have HBo := HB.out; have HQo := HQ.out; have HNo := HN.out; omega
                have lmq : q' ≤ 4000000 := by have HBo := HB.out; have HQo := HQ.out; have HNo := HN.out; omega
                have mqa := w64i_of zmq lmq
                have mqb := w64_of zmq lmq
                clear zmq lmq
                obtain ⟨dn, hdn⟩ : ∃ dn, swp dj p q = dn := ⟨_, rfl⟩
                have hsn : dn.size = d.size := by rw [← hdn, swp_size]; exact HB.out.2.2.2.2.2
                rw [hdn] at HR R6
                clear hdn
                go_wp2_with fail
                clear mpa mpb mqa mqb
                first
                  | (refine ⟨⟨p', q', dn, rfl, rfl, by have HBo := HB.out; have HUo := HU.out; have HN2o := HN2.out; omega, by have HNEo := HNE.out; have HN2o := HN2.out; have HNo := HN.out; omega, by have HBo := HB.out; have HQo := HQ.out; have HNo := HN.out; omega, hsn, R6, HR⟩, ?_⟩
                     simp [intOf]; have h1 := HN.out; have h2 := HN2.out; have h3 := HQ.out; have h4 := HU.out; have h5 := HNE.out; omega)
                  | (go_roundw
                     case rel => exact ⟨p', q', dn, rfl, rfl, by have HBo := HB.out; have HUo := HU.out; have HN2o := HN2.out; omega, by have HNEo := HNE.out; have HN2o := HN2.out; have HNo := HN.out; omega, by have HBo := HB.out; have HQo := HQ.out; have HNo := HN.out; omega, hsn, R6, HR⟩
                     case measure => simp [intOf]; have h1 := HN.out; have h2 := HN2.out; have h3 := HQ.out; have h4 := HU.out; have h5 := HNE.out; omega)
            · have hlez2 : ¬ (p : Int) ≤ (q : Int) := by omega
              have Hd2 : Hid (decide ((p : Int) ≤ (q : Int)) = false) := decide_eq_false hlez2
              have hgt : (q : Int) < (p : Int) := Int.not_le.1 hlez2
              have HV : Hid (scanDown (fun x => ltc cf dj[a]! x) dj p j = q) := by
                show _ = _
                rw [← H4.out, down_end (by omega)]
              have HE : Hid (res = (p, dj)) := partE_done HP.out HUP.out HV.out (by omega)
              have hya := HX.out.2.1
              have ha2 : a < dj.size := by have HBo := HB.out; omega
              have hq2 : q < dj.size := by have HBo := HB.out; have HQo := HQ.out; omega
              have hd2 := Hd2.out
              have hle3 : (p ≤ q) = False := eq_false hle2
              clear H4 HUP HV HP HX hle2
              go_wp2_with fail
              go_big_region_o
              have R5 := R4.drew
              clear R4
              generalize wr.drew = w5 at R5 ⊢
              clear hd2 hle3
              go_wp2_with fail
              go_wp2_with fail
              go_ret
              exact ⟨by rw [HE.out]; rfl, by rw [HE.out]; exact R5⟩
      · have hlez : ¬ (p : Int) ≤ (j : Int) := by omega
        have hd1 : decide ((p : Int) ≤ (j : Int)) = false := decide_eq_false hlez
        have hgt : (j : Int) < (p : Int) := Int.not_le.1 hlez
        have HUP : Hid (scanUp (fun x => !ltc cf dj[a]! x) dj j i = p) := by
          show _ = _
          rw [← H2.out, up_end (by omega)]
        have HE : Hid (res = (p, dj)) := partE_done HP.out HUP.out (down_end (by omega)) (by omega)
        have hya : dj[a]! = y := hy
        have ha2 : a < dj.size := by have HBo := HB.out; omega
        have hq2 : j < dj.size := by have HBo := HB.out; omega
        have hle3 : (p ≤ j) = False := eq_false hle
        have Hle : Hid ((p ≤ j) = False ∧ decide ((p : Int) ≤ (j : Int)) = false) := ⟨hle3, hd1⟩
        clear H2 HUP HP hy hle
        go_wp2_with fail
        go_big_region_o
        have R3 := R2.drew
        clear R2
        generalize wr.drew = w3 at R3 ⊢
        clear hle3 hd1
        go_wp2_with fail
        refine wp_loop_rounds 1 ?_
        rw [rounds_succ]
        obtain ⟨hle3, hd1⟩ := Hle.out
        go_wp2_with fail
        go_big_region_o
        have R5 := R3.drew
        clear R3
        generalize w3.drew = w5 at R5 ⊢
        clear hle3 hd1
        go_wp2_with fail
        go_wp2_with fail
        go_ret
        exact ⟨by rw [HE.out]; rfl, by rw [HE.out]; exact R5⟩
end
end Go.Proofs.Ytihgpllbgliplaa
