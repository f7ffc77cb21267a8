/- What the library's sort does to a part of a row of numbers, by a method value that compares: the part is sorted. -/
import Derived.Test.YtihgpllbgliplaaPickHeap
import Derived.Test.YtihgpllbgliplaaPickPart
import Derived.Test.YtihgpllbgliplaaPickPartEq
import Derived.Test.YtihgpllbgliplaaPickSteps
import Derived.Test.YtihgpllbgliplaaPickPins
import Derived.Deep.Cut
import Derived.Sort.LotB
import Derived.Sort.LotD3
namespace Go.Proofs.Ytihgpllbgliplaa
open Go.ChangeShapes Go.WideShapes Go.ChangeAt Go.RowKit Go.Sort Go.Shelf
set_option linter.unusedVariables false
set_option linter.unusedSimpArgs false

section
set_option maxRecDepth 100000
set_option maxHeartbeats 4000000
variable {n : Nat} {w0 : World} {B : Nat} {rv : Value} {cf : Fin (n + 1) → Fin (n + 1) → Int} (hc : Cmp w0 B rv cf)
include hc
theorem pdq_any (hO : SWO (ltc cf)) : ∀ (m : Nat) {w : World} {d : Array (Fin (n + 1))} (R : Row w0 B d w) {a b c limit : Nat}, b - a ≤ m → a ≤ b → b ≤ d.size → d.size ≤ 1000 → limit ≤ 1000 → Below (ltc cf) a b d →
    Calls Try.prog 58 #[.slice (some ⟨B, 0, none⟩) d.size c, .int .i64 (a : Nat), .int .i64 (b : Nat), .int .i64 (limit : Nat), mv rv] w fun e w' => e = .returned (.tuple #[]) ∧ ∃ d' : Array (Fin (n + 1)), PermIn a b d d' ∧ SortedIn (ltc cf) a b d' ∧ Row w0 B d' w' := by
  intro m
  induction m using Nat.strongRecOn with
  | _ m ih =>
  intro w d R a b c limit hm hab hb hsz hlim hbel
  have eg := enters20
  have mixed : Try.prog.follows .mixedOrders = true := by kernel_rfl
  have HZ : Hid (d.size ≤ 1000) := hsz
  have HM0 : Hid (b - a ≤ m ∧ limit ≤ 1000) := ⟨hm, hlim⟩
  have HI := show Hid _ from ih
  have HBE : Hid (Below (ltc cf) a b d) := hbel
  have HB0 : Hid (a ≤ b ∧ b ≤ d.size) := ⟨hab, hb⟩
  clear hm hab hb hsz hlim hbel ih
  go_enter Try.func58, Try.ntmps58
  go_wp2_with fail
  go_loopg [1, 2, 3, 10, 11] (b - a) (fun kx s1 s2 s3 s10 s11 wr => ∃ (a' b' lim : Nat) (wb wp : Bool) (dk : Array (Fin (n + 1))), s1 = .int .i64 (a' : Nat) ∧ s2 = .int .i64 (b' : Nat) ∧ s3 = .int .i64 (lim : Nat) ∧ s10 = .bool wb ∧ s11 = .bool wp ∧
    Hid (a' ≤ b' ∧ b' ≤ d.size ∧ b' - a' ≤ kx ∧ kx ≤ b - a ∧ lim ≤ 1000 ∧ dk.size = d.size) ∧ Hid (Below (ltc cf) a' b' dk) ∧ Row w0 B dk wr ∧ Hid (∀ d', PermIn a' b' dk d' → SortedIn (ltc cf) a' b' d' → PermIn a b d d' ∧ SortedIn (ltc cf) a b d'))
  case atStart => exact ⟨a, b, limit, true, true, d, rfl, rfl, rfl, rfl, rfl, ⟨HB0.out.1, HB0.out.2, Nat.le_refl _, Nat.le_refl _, HM0.out.2, rfl⟩, HBE, R, fun d' h1 h2 => ⟨h1, h2⟩⟩
  case round =>
    clear R HB0 HBE
    obtain ⟨a', b', lim, wb, wp, dk, rfl, rfl, rfl, rfl, rfl, HB, HBel, R1, HG⟩ := hrel
    obtain ⟨L, hL⟩ : ∃ L, b' - a' = L := ⟨_, rfl⟩
    have HL : Hid (a' + L = b') := by show _ = _; have h := HB.out; omega
    clear hL
    have zml : (b' : Int) - (a' : Int) = (L : Int) := by have HBo := HB.out; have HZo := HZ.out; have HLo := HL.out; omega
    have lml : L ≤ 4000000 := by have HBo := HB.out; have HZo := HZ.out; have HLo := HL.out; omega
    have mla := w64i_of zml lml
    have mlb := w64_of zml lml
    clear zml lml
    by_cases h12 : L ≤ 12
    · have h12z : (L : Int) ≤ 12 := by clear mla mlb; omega
      have ci := ins_any hc R1 (a := a') (b := b') (c := c) HB.out.1 (by rw [HB.out.2.2.2.2.2]; exact HB.out.2.1) (by rw [HB.out.2.2.2.2.2]; exact HZ.out)
      rw [HB.out.2.2.2.2.2] at ci
      have HE : Hid (PermIn a b d (insertionSort (ltc cf) dk a' b') ∧ SortedIn (ltc cf) a b (insertionSort (ltc cf) dk a' b')) := by
        have h := insertionSort_holds hO dk a' b' HB.out.1 (by rw [HB.out.2.2.2.2.2]; exact HB.out.2.1)
        exact HG.out _ h.1 h.2
      generalize insertionSort (ltc cf) dk a' b' = dn at ci HE
      clear HG h12
      go_wp2_with fail
      refine ci.mono ?_
      rintro e w2 ⟨rfl, R2⟩
      go_wp2_with fail
      refine ret0 rfl rfl ?_
      exact ⟨rfl, dn, HE.out.1, HE.out.2, R2⟩
    · have h12z : ¬ (L : Int) ≤ 12 := by clear mla mlb; omega
      have HL12 : Hid (12 < L) := Nat.not_le.1 h12
      clear h12
      by_cases hl0 : lim = 0
      · subst hl0
        have ch := heap_any hc R1 (a := a') (b := b') (c := c) (by have h1 := HL.out; have h2 := HL12.out; clear mla mlb; omega) (by rw [HB.out.2.2.2.2.2]; exact HB.out.2.1) (by rw [HB.out.2.2.2.2.2]; exact HZ.out)
        rw [HB.out.2.2.2.2.2] at ch
        have HE : Hid (PermIn a b d (heapSort (ltc cf) dk a' b') ∧ SortedIn (ltc cf) a b (heapSort (ltc cf) dk a' b')) := by
          have h := heapSort_holds hO dk a' b' HB.out.1 (by rw [HB.out.2.2.2.2.2]; exact HB.out.2.1)
          exact HG.out _ h.1 h.2
        generalize heapSort (ltc cf) dk a' b' = dn at ch HE
        clear HG
        go_wp2_with fail
        refine ch.mono ?_
        rintro e w2 ⟨rfl, R2⟩
        go_wp2_with fail
        refine ret0 rfl rfl ?_
        exact ⟨rfl, dn, HE.out.1, HE.out.2, R2⟩
      · have hl0z : ¬ (lim : Int) = 0 := by clear mla mlb; omega
        have HLM : Hid (0 < lim) := Nat.pos_of_ne_zero hl0
        clear hl0
        go_upto_if 39 with fail
        clear mla mlb
        go_cut [3] from 21 (fun s3 wc => ∃ (lim1 : Nat) (d1 : Array (Fin (n + 1))), s3 = .int .i64 (lim1 : Nat) ∧ Hid (lim1 ≤ lim ∧ PermIn a' b' dk d1) ∧ Row w0 B d1 wc)
        case first =>
          cases wb with
          | false =>
            have cb := brk_any (V := mv rv) R1 (a := a') (b := b') (c := c) (by have h1 := HL.out; have h2 := HL12.out; omega) (by rw [HB.out.2.2.2.2.2]; exact HB.out.2.1) (by rw [HB.out.2.2.2.2.2]; exact HZ.out)
            rw [HB.out.2.2.2.2.2] at cb
            obtain ⟨lim1, hl1⟩ : ∃ lim1, lim - 1 = lim1 := ⟨_, rfl⟩
            have HL1 : Hid (lim1 + 1 = lim) := by show _ = _; have h := HLM.out; omega
            clear hl1
            have zmk : (lim : Int) - 1 = (lim1 : Int) := by have HBo := HB.out; have HL1o := HL1.out; omega
            have lmk : lim1 ≤ 4000000 := by have HBo := HB.out; have HL1o := HL1.out; omega
            have mka := w64i_of zmk lmk
            have mkb := w64_of zmk lmk
            clear zmk lmk
            go_wp2_with fail
            refine cb.mono ?_
            rintro e w2 ⟨rfl, d1, hp1, R2⟩
            have HP1 : Hid (PermIn a' b' dk d1) := hp1
            clear hp1 cb
            go_wp2_with fail
            clear mka
            go_meet
            case rel => exact ⟨lim1, d1, rfl, ⟨by have h := HL1.out; clear mkb; omega, HP1.out⟩, R2⟩
          | true =>
            go_wp2_with fail
            go_meet
            case rel => exact ⟨lim, dk, rfl, ⟨Nat.le_refl _, permIn_refl _ _ _⟩, R1⟩
        case rest =>
          clear R1
          obtain ⟨lim1, d1, rfl, HP1, R1⟩ := hcut
          have HS1 : Hid (d1.size = d.size) := HP1.out.2.1.trans HB.out.2.2.2.2.2
          have cp := pivot_any hc R1 (a := a') (b := b') (c := c) (by have h1 := HL.out; have h2 := HL12.out; omega) (by rw [HS1.out]; exact HB.out.2.1) (by rw [HS1.out]; exact HZ.out)
          rw [HS1.out] at cp
          go_upto_if 56 with (go_at_call 68; refine cp.mono ?_; rintro e w2 ⟨p, h, rfl, hpa, hpb, R2⟩)
          have HPV : Hid (a' ≤ p ∧ p < b') := ⟨hpa, hpb⟩
          clear hpa hpb cp R1
          go_cut [13, 14] from 21 (fun s13 s14 wc => ∃ (p2 : Nat) (h2 : Int) (d2 : Array (Fin (n + 1))), s13 = .int .i64 (p2 : Nat) ∧ s14 = .int .i64 h2 ∧ Hid (a' ≤ p2 ∧ p2 < b') ∧ Hid (PermIn a' b' d1 d2) ∧ Row w0 B d2 wc)
          case first =>
            by_cases hh : h = 2
            · subst hh
              have cr := rev_any (rv := rv) R2 (a := a') (b := b') (c := c) HB.out.1 (by have h1 := HPV.out; omega) (by rw [HS1.out]; exact HB.out.2.1) (by rw [HS1.out]; exact HZ.out)
              rw [HS1.out] at cr
              obtain ⟨b1, hb1⟩ : ∃ b1, b' - 1 = b1 := ⟨_, rfl⟩
              have HB1 : Hid (b1 + 1 = b') := by show _ = _; have h := HPV.out; omega
              obtain ⟨pa, hpa⟩ : ∃ pa, p - a' = pa := ⟨_, rfl⟩
              have HPA : Hid (pa + a' = p) := by show _ = _; have h := HPV.out; omega
              obtain ⟨p2, hp2⟩ : ∃ p2, b1 - pa = p2 := ⟨_, rfl⟩
              have HP2 : Hid (a' ≤ p2 ∧ p2 < b' ∧ p2 + pa = b1) := by have h := HPV.out; have h1 := HB1.out; have h2 := HPA.out; show _ ∧ _; omega
              clear hb1 hpa hp2
              have zmb : (b' : Int) - 1 = (b1 : Int) := by have HBo := HB.out; have HZo := HZ.out; have HB1o := HB1.out; omega
              have lmb : b1 ≤ 4000000 := by have HBo := HB.out; have HZo := HZ.out; have HB1o := HB1.out; omega
              have mba := w64i_of zmb lmb
              have mbb := w64_of zmb lmb
              clear zmb lmb
              have zmp : (p : Int) - (a' : Int) = (pa : Int) := by clear mba mbb; have HBo := HB.out; have HZo := HZ.out; have HPAo := HPA.out; have HPVo := HPV.out; omega
              have lmp : pa ≤ 4000000 := by clear mba mbb; have HBo := HB.out; have HZo := HZ.out; have HPAo := HPA.out; have HPVo := HPV.out; omega
              have mpa := w64i_of zmp lmp
              have mpb := w64_of zmp lmp
              clear zmp lmp
              have zmq : (b1 : Int) - (pa : Int) = (p2 : Int) := by clear mba mbb mpa mpb; have HBo := HB.out; have HZo := HZ.out; have HP2o := HP2.out; omega
              have lmq : p2 ≤ 4000000 := by clear mba mbb mpa mpb; have HBo := HB.out; have HZo := HZ.out; have HP2o := HP2.out; omega
              have mqa := w64i_of zmq lmq
              have mqb := w64_of zmq lmq
              clear zmq lmq
              have hrv : Hid (PermIn a' b' d1 (reverseRange d1 a' b')) := reverseRange_holds d1 a' b' HB.out.1 (by rw [HS1.out]; exact HB.out.2.1)
              generalize reverseRange d1 a' b' = dr at cr hrv
              go_wp2_with fail
              refine cr.mono ?_
              rintro e w3 ⟨rfl, R3⟩
              clear cr R2
              go_wp2_with fail
              clear mba mbb mpa mpb mqa
              go_meet
              case rel => exact ⟨p2, 1, dr, by first | rfl | rw [mqb], rfl, ⟨HP2.out.1, HP2.out.2.1⟩, hrv, R3⟩
            · have hhf : (h = 2) = False := eq_false hh
              have hhb : (h == 2) = false := beq_eq_false_iff_ne.2 hh
              go_wp2_with fail
              go_meet
              case rel => exact ⟨p, h, d1, rfl, rfl, HPV.out, permIn_refl _ _ _, R2⟩
          case rest =>
            clear R2 HPV
            obtain ⟨p2, h2, d2, rfl, rfl, HP2, HPM2, R2⟩ := hcut
            have HS2 : Hid (d2.size = d.size) := HPM2.out.1.trans HS1.out
            go_upto_region 15 with fail
            go_cut [14, 75] from 21 (fun s14 s75 wx => s14 = .int .i64 h2 ∧ (∃ q : Bool, s75 = .bool q) ∧ wx = wc)
            case first =>
              by_cases hh : h2 = 1
              · subst hh
                cases wb <;> cases wp <;> (go_wp2_with fail; go_meet; exact ⟨rfl, ⟨_, rfl⟩, rfl⟩)
              · have hhb : (h2 == 1) = false := beq_eq_false_iff_ne.2 hh
                have hhf : (h2 = 1) = False := eq_false hh
                cases wb <;> cases wp <;> (go_wp2_with fail; go_meet; exact ⟨rfl, ⟨_, rfl⟩, rfl⟩)
            case rest =>
              obtain ⟨rfl, ⟨q, rfl⟩, rfl⟩ := hcut
              go_upto_if 75 with fail
              go_cut [] from 21 (fun wx => ∃ d3 : Array (Fin (n + 1)), Hid (PermIn a' b' d2 d3) ∧ Row w0 B d3 wx)
              case first =>
                cases q with
                | false =>
                  go_wp2_with fail
                  go_meet
                  case rel => exact ⟨d2, permIn_refl _ _ _, R2⟩
                | true =>
                  have cs := pins_any hc R2 (a := a') (b := b') (c := c) (by have h1 := HL.out; have h2 := HL12.out; omega) (by rw [HS2.out]; exact HB.out.2.1) (by rw [HS2.out]; exact HZ.out)
                  rw [HS2.out] at cs
                  have hbel2 : Below (ltc cf) a' b' d2 := ((HBel.out.perm (by rw [HB.out.2.2.2.2.2]; exact HB.out.2.1) HP1.out.2).perm (by rw [HS1.out]; exact HB.out.2.1) HPM2.out)
                  have hps := partialInsertionSort_holds hO d2 a' b' (by have h1 := HL.out; have h2 := HL12.out; omega) (by rw [HS2.out]; exact HB.out.2.1) hbel2
                  generalize partialInsertionSort (ltc cf) d2 a' b' = rr at cs hps
                  obtain ⟨d3, ok⟩ := rr
                  have HPS := show Hid _ from hps
                  clear hps hbel2
                  cases ok with
                  | false =>
                    go_wp2_with fail
                    refine cs.mono ?_
                    rintro e w4 ⟨rfl, R3⟩
                    clear cs R2
                    go_wp2_with fail
                    go_meet
                    case rel => exact ⟨d3, HPS.out.1, R3⟩
                  | true =>
                    have HE : Hid (PermIn a b d d3 ∧ SortedIn (ltc cf) a b d3) := HG.out _ (permIn_trans _ _ _ _ _ HP1.out.2 (permIn_trans _ _ _ _ _ HPM2.out HPS.out.1)) (HPS.out.2 rfl)
                    go_wp2_with fail
                    refine cs.mono ?_
                    rintro e w4 ⟨rfl, R3⟩
                    clear cs R2
                    go_wp2_with fail
                    refine ret0 rfl rfl ?_
                    exact ⟨rfl, d3, HE.out.1, HE.out.2, R3⟩
              case rest =>
                clear R2
                obtain ⟨d3, HPM3, R3⟩ := hcut
                have HS3 : Hid (d3.size = d.size) := HPM3.out.1.trans HS2.out
                have HP03 : Hid (PermIn a' b' dk d3) := permIn_trans _ _ _ _ _ HP1.out.2 (permIn_trans _ _ _ _ _ HPM2.out HPM3.out)
                have HBel3 : Hid (Below (ltc cf) a' b' d3) := HBel.out.perm (by rw [HB.out.2.2.2.2.2]; exact HB.out.2.1) HP03.out
                go_upto_region 17 with fail
                go_cut [97] from 21 (fun s97 wx => (∃ q : Bool, s97 = .bool q ∧ Hid (q = true → 0 < a' ∧ ltc cf d3[a' - 1]! d3[p2]! = false)) ∧ Row w0 B d3 wx)
                case first =>
                  rcases Nat.eq_zero_or_pos a' with ha | ha
                  · subst ha
                    have e0 : ((0 : Nat) : Int) = 0 := rfl
                    rw [e0]
                    clear e0
                    go_wp2_with fail
                    go_big_region_o
                    have R4 := R3.drew
                    clear R3
                    generalize wc.drew = w5 at R4 ⊢
                    go_wp2_with fail
                    go_meet
                    case rel => exact ⟨⟨_, rfl, (show Hid _ from fun h => nomatch h)⟩, R4⟩
                  · obtain ⟨ap, hap⟩ : ∃ ap, a' - 1 = ap := ⟨_, rfl⟩
                    have HA : Hid (ap + 1 = a') := by show _ = _; omega
                    clear hap ha
                    have j0 : ap < d3.size := by have h1 := HA.out; have h2 := HP2.out; have h3 := HB.out; have h4 := HS3.out; omega
                    have j1 : p2 < d3.size := by have h2 := HP2.out; have h3 := HB.out; have h4 := HS3.out; omega
                    have i0 : (ap : Int) < (d.size : Int) := by rw [← HS3.out]; exact Int.ofNat_lt.2 j0
                    have i1 : (p2 : Int) < (d.size : Int) := by rw [← HS3.out]; exact Int.ofNat_lt.2 j1
                    obtain ⟨x, hx⟩ : ∃ x, d3[ap]! = x := ⟨_, rfl⟩
                    obtain ⟨y, hy⟩ : ∃ y, d3[p2]! = y := ⟨_, rfl⟩
                    have HXY : Hid (d3[a' - 1]! = x ∧ d3[p2]! = y) := ⟨by rw [← HA.out, Nat.add_sub_cancel]; exact hx, hy⟩
                    have l1 := R3.at (i := ap) j0 hx
                    have l2 := R3.at (i := p2) j1 hy
                    have cc := R3.cmp hc x y
                    clear hx hy j0 j1
                    have ha0 : (0 : Int) < (a' : Int) := by have h1 := HA.out; omega
                    have ha0d : decide ((a' : Int) > 0) = true := decide_eq_true ha0
                    have ha0n : decide (0 < a') = true := decide_eq_true (Int.ofNat_lt.1 ha0)
                    have ha0p : 0 < a' := Int.ofNat_lt.1 ha0
                    have zmx : (a' : Int) - 1 = (ap : Int) := by have HBo := HB.out; have HZo := HZ.out; have HAo := HA.out; have HP2o := HP2.out; omega
                    have lmx : ap ≤ 4000000 := by have HBo := HB.out; have HZo := HZ.out; have HAo := HA.out; have HP2o := HP2.out; omega
                    have mxa := w64i_of zmx lmx
                    have mxb := w64_of zmx lmx
                    clear zmx lmx
                    cases hl : ltc cf x y with
                    | true =>
                      have hv : cf x y < 0 := of_decide_eq_true hl
                      have hvd : decide (cf x y < 0) = true := hl
                      have hvn : (!decide (cf x y < 0)) = false := by rw [hvd]; rfl
                      clear hl
                      go_wp2_with fail
                      refine wp_region_below (by kernel_rfl) (by kernel_rfl) ?_
                      repeat (quiet_step ((go_at_call 50; exact cc _)))
                      refine wpQuiet_nil ?_
                      rintro _ ⟨bw, rfl⟩
                      have R4 := R3.later bw.hb
                      clear l1 l2 cc R3
                      generalize bw.w = w5 at R4 ⊢
                      clear bw
                      go_wp2_with fail
                      go_meet
                      case rel => exact ⟨⟨_, rfl, (show Hid _ from fun h => by first | (exact Bool.noConfusion h) | (rw [hvn] at h; exact Bool.noConfusion h))⟩, R4⟩
                    | false =>
                      have hv : ¬ cf x y < 0 := of_decide_eq_false hl
                      have hvd : decide (cf x y < 0) = false := hl
                      have hvn : (!decide (cf x y < 0)) = true := by rw [hvd]; rfl
                      have HQ : Hid (0 < a' ∧ ltc cf d3[a' - 1]! d3[p2]! = false) := ⟨by rw [← HA.out]; exact Nat.succ_pos _, by rw [HXY.out.1, HXY.out.2]; exact hl⟩
                      clear hl
                      go_wp2_with fail
                      refine wp_region_below (by kernel_rfl) (by kernel_rfl) ?_
                      repeat (quiet_step ((go_at_call 50; exact cc _)))
                      refine wpQuiet_nil ?_
                      rintro _ ⟨bw, rfl⟩
                      have R4 := R3.later bw.hb
                      clear l1 l2 cc R3
                      generalize bw.w = w5 at R4 ⊢
                      clear bw
                      go_wp2_with fail
                      go_meet
                      case rel => exact ⟨⟨_, rfl, (show Hid _ from fun _ => HQ.out)⟩, R4⟩
                case rest =>
                  clear R3
                  obtain ⟨⟨q, rfl, HQ⟩, R4⟩ := hcut
                  cases q with
                  | true =>
                    have he := parte_any hc R4 (a := a') (b := b') (pivot := p2) (c := c) HP2.out.1 HP2.out.2 (by rw [HS3.out]; exact HB.out.2.1) (by rw [HS3.out]; exact HZ.out)
                    rw [HS3.out] at he
                    obtain ⟨mid, d4, hx⟩ : ∃ mid d4, partitionEqual (ltc cf) d3 a' b' p2 = (mid, d4) := ⟨_, _, rfl⟩
                    obtain ⟨r1, r2, r3, r4, r5⟩ := round_eq hO (partitionEqual_holds (ltc cf)) (HQ.out rfl).1 HP2.out.1 HP2.out.2 (by rw [HS3.out]; exact HB.out.2.1) HBel3.out (HQ.out rfl).2 hx
                    rw [hx] at he
                    dsimp only at he
                    have HM : Hid (a' < mid ∧ mid ≤ b' ∧ d4.size = d.size) := ⟨r1, r2, r3.trans HS3.out⟩
                    have HR4 : Hid (Below (ltc cf) mid b' d4) := r4
                    have HG2 : Hid (∀ d', PermIn mid b' d4 d' → SortedIn (ltc cf) mid b' d' → PermIn a b d d' ∧ SortedIn (ltc cf) a b d') := fun d' h1 h2 => by
                      have t := r5 d' h1 h2
                      exact HG.out d' (permIn_trans _ _ _ _ _ HP03.out t.1) t.2
                    clear hx r1 r2 r3 r4 r5 HG HQ
                    go_wp2_with fail
                    refine he.mono ?_
                    rintro e w7 ⟨rfl, R7⟩
                    clear he R4
                    go_wp2_with fail
                    go_roundg (b' - mid)
                    case measure => have h1 := HM.out; have h2 := HB.out; omega
                    case rel => exact ⟨mid, b', lim1, wb, wp, d4, rfl, rfl, rfl, rfl, rfl, ⟨HM.out.2.1, HB.out.2.1, Nat.le_refl _, by have h1 := HM.out; have h2 := HB.out; omega, by have h1 := HP1.out.1; have h2 := HB.out; omega, HM.out.2.2⟩, HR4, R7, HG2⟩
                  | false =>
                    have hpt := part_any hc R4 (a := a') (b := b') (pivot := p2) (c := c) HP2.out.1 HP2.out.2 (by rw [HS3.out]; exact HB.out.2.1) (by rw [HS3.out]; exact HZ.out)
                    rw [HS3.out] at hpt
                    obtain ⟨mid, ap, d4, hx⟩ : ∃ mid ap d4, partition (ltc cf) d3 a' b' p2 = (mid, ap, d4) := ⟨_, _, _, rfl⟩
                    obtain ⟨r1, r2, r3, r4, r5, r6, r7⟩ := round_part hO (partition_holds (ltc cf)) HP2.out.1 HP2.out.2 (by rw [HS3.out]; exact HB.out.2.1) HBel3.out hx
                    rw [hx] at hpt
                    dsimp only at hpt
                    have HM : Hid (a' ≤ mid ∧ mid < b' ∧ d4.size = d.size) := ⟨r1, r2, r3.trans HS3.out⟩
                    have H45 : Hid (Below (ltc cf) a' mid d4 ∧ Below (ltc cf) (mid + 1) b' d4) := ⟨r4, r5⟩
                    have H67 := show Hid _ from And.intro r6 r7
                    clear hx r1 r2 r3 r4 r5 r6 r7 HQ
                    obtain ⟨LL, hLL⟩ : ∃ LL, mid - a' = LL := ⟨_, rfl⟩
                    obtain ⟨RL, hRL⟩ : ∃ RL, b' - mid = RL := ⟨_, rfl⟩
                    obtain ⟨T, hT⟩ : ∃ T, L / 8 = T := ⟨_, rfl⟩
                    obtain ⟨mid1, hmid1⟩ : ∃ mid1, mid + 1 = mid1 := ⟨_, rfl⟩
                    have HX : Hid (a' + LL = mid ∧ mid + RL = b' ∧ L / 8 = T ∧ mid + 1 = mid1) := by have h1 := HM.out; show _ ∧ _; omega
                    clear hLL hRL hT hmid1
                    have x1 : (L : Int) / 8 = (T : Int) := by have h1 := HX.out; omega
                    have x2 : wrap64 (T : Int) = (T : Int) := wrap_6 _ (by clear x1; omega) (by clear x1; have h1 := HX.out; have h2 := HL.out; have h3 := HB.out; have h4 := HZ.out; omega)
                    have z1 : (mid : Int) - (a' : Int) = (LL : Int) := by clear x1 x2; have h1 := HX.out; omega
                    have z2 : (b' : Int) - (mid : Int) = (RL : Int) := by clear x1 x2 z1; have h1 := HX.out; omega
                    have z3 : (mid : Int) + 1 = (mid1 : Int) := by clear x1 x2 z1 z2; have h1 := HX.out; omega
                    have l1 : LL ≤ 4000000 ∧ RL ≤ 4000000 ∧ mid1 ≤ 4000000 := by clear x1 x2 z1 z2 z3; have h1 := HX.out; have h2 := HM.out; have h3 := HB.out; have h4 := HZ.out; omega
                    have x3 := w64_of z1 l1.1
                    have x4 := w64_of z2 l1.2.1
                    have x5 := w64_of z3 l1.2.2
                    have x3i := w64i_of z1 l1.1
                    have x4i := w64i_of z2 l1.2.1
                    have x5i := w64i_of z3 l1.2.2
                    clear z1 z2 z3 l1
                    by_cases h4 : LL < RL
                    · have h4z : (LL : Int) < (RL : Int) := Int.ofNat_lt.2 h4
                      clear h4
                      have hih := fun (w : World) (R : Row w0 B d4 w) => HI.out (mid - a') (by clear x1 x2 x3 x4 x5 x3i x4i x5i; have h1 := HM.out; have h2 := HB.out; have h3 := HM0.out; omega) R (a := a') (b := mid) (c := c) (limit := lim1) (Nat.le_refl _) HM.out.1 (by clear x1 x2 x3 x4 x5 x3i x4i x5i; have h1 := HM.out; have h2 := HB.out; omega) (by rw [HM.out.2.2]; exact HZ.out) (Nat.le_trans HP1.out.1 HB.out.2.2.2.2.1) H45.out.1
                      rw [HM.out.2.2] at hih
                      go_wp2_with fail
                      refine hpt.mono ?_
                      rintro e w7 ⟨ap2, rfl, R7⟩
                      clear hpt R4
                      go_wp2_with fail
                      refine (hih _ R7).mono ?_
                      rintro e w8 ⟨rfl, d5, hp5, hs5, R8⟩
                      have H5 := show Hid _ from H67.out.1 d5 hp5 hs5
                      have HG2 : Hid (∀ d', PermIn mid1 b' d5 d' → SortedIn (ltc cf) mid1 b' d' → PermIn a b d d' ∧ SortedIn (ltc cf) a b d') := fun d' h1 h2 => by
                        have e1 := HX.out.2.2.2
                        rw [← e1] at h1 h2
                        have t := H5.out.2 d' h1 h2
                        exact HG.out d' (permIn_trans _ _ _ _ _ HP03.out t.1) t.2
                      have HD5 : Hid (d5.size = d.size) := hp5.1.trans HM.out.2.2
                      have HB5 : Hid (Below (ltc cf) mid1 b' d5) := by have e1 := HX.out.2.2.2; rw [← e1]; exact H5.out.1
                      clear hih hp5 hs5 R7 HG
                      go_wp2_with fail
                      clear x1 x2 x3 x4 x5 x3i x4i x5i h4z
                      go_roundg (b' - mid1)
                      case measure => have h1 := HM.out; have h2 := HB.out; have h3 := HX.out; omega
                      case rel => exact ⟨mid1, b', lim1, _, _, d5, rfl, rfl, rfl, rfl, rfl, ⟨by have h1 := HM.out; have h3 := HX.out; omega, HB.out.2.1, Nat.le_refl _, by have h1 := HM.out; have h2 := HB.out; have h3 := HX.out; omega, by have h1 := HP1.out.1; have h2 := HB.out; omega, HD5.out⟩, HB5, R8, HG2⟩
                    · have h4z : ¬ (LL : Int) < (RL : Int) := fun h => h4 (Int.ofNat_lt.1 h)
                      have h4n : (LL < RL) = False := eq_false h4
                      clear h4
                      have hih := fun (w : World) (R : Row w0 B d4 w) => HI.out (b' - mid1) (by clear x1 x2 x3 x4 x5 x3i x4i x5i h4z h4n; have h1 := HM.out; have h2 := HB.out; have h3 := HM0.out; have h4 := HX.out; omega) R (a := mid1) (b := b') (c := c) (limit := lim1) (Nat.le_refl _) (by clear x1 x2 x3 x4 x5 x3i x4i x5i h4z h4n; have h1 := HM.out; have h4 := HX.out; omega) (by rw [HM.out.2.2]; exact HB.out.2.1) (by rw [HM.out.2.2]; exact HZ.out) (Nat.le_trans HP1.out.1 HB.out.2.2.2.2.1) (by rw [← HX.out.2.2.2]; exact H45.out.2)
                      rw [HM.out.2.2] at hih
                      go_wp2_with fail
                      refine hpt.mono ?_
                      rintro e w7 ⟨ap2, rfl, R7⟩
                      clear hpt R4
                      go_wp2_with fail
                      refine (hih _ R7).mono ?_
                      rintro e w8 ⟨rfl, d5, hp5, hs5, R8⟩
                      have H5 := show Hid _ from H67.out.2 d5 (by have e1 := HX.out.2.2.2; rw [e1]; exact hp5) (by have e1 := HX.out.2.2.2; rw [e1]; exact hs5)
                      have HG2 : Hid (∀ d', PermIn a' mid d5 d' → SortedIn (ltc cf) a' mid d' → PermIn a b d d' ∧ SortedIn (ltc cf) a b d') := fun d' h1 h2 => by
                        have t := H5.out.2 d' h1 h2
                        exact HG.out d' (permIn_trans _ _ _ _ _ HP03.out t.1) t.2
                      have HD5 : Hid (d5.size = d.size) := hp5.1.trans HM.out.2.2
                      clear hih hp5 hs5 R7 HG
                      go_wp2_with fail
                      clear x1 x2 x3 x4 x5 x3i x4i x5i h4z h4n
                      go_roundg (mid - a')
                      case measure => have h1 := HM.out; have h2 := HB.out; omega
                      case rel => exact ⟨a', mid, lim1, _, _, d5, rfl, rfl, rfl, rfl, rfl, ⟨HM.out.1, by have h1 := HM.out; have h2 := HB.out; omega, Nat.le_refl _, by have h1 := HM.out; have h2 := HB.out; omega, by have h1 := HP1.out.1; have h2 := HB.out; omega, HD5.out⟩, H5.out.1, R8, HG2⟩
end
end Go.Proofs.Ytihgpllbgliplaa
