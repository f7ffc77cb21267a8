/- What the library's partial insertion sort does to a row of numbers. -/
import Derived.Test.YtihgpllbgliplaaPickSteps
namespace Go.Proofs.Ytihgpllbgliplaa
open Go.ChangeShapes Go.WideShapes Go.ChangeAt Go.RowKit Go.Sort Go.Shelf
set_option linter.unusedVariables false
set_option linter.unusedSimpArgs false

section
variable {α : Type} [Inhabited α] {lt : α → α → Bool} {d : Array α} {a b i j k m p : Nat}
theorem ss_go (h : k < b) (hp : p + 1 = k) (hl : lt d[k]! d[p]! = false) : scanSorted lt d b k = scanSorted lt d b (k + 1) := by
  subst hp; rw [scanSorted, if_pos (by simp [h, hl])]
theorem ss_stop (hp : p + 1 = k) (hl : lt d[k]! d[p]! = true) : scanSorted lt d b k = k := by
  subst hp; rw [scanSorted, if_neg (by simp [hl])]
theorem ss_end (h : ¬ k < b) : scanSorted lt d b k = k := by rw [scanSorted, if_neg (by simp [h])]
theorem pi_full (h : scanSorted lt d b i = b) : partialIns lt a b (m + 1) i d = (d, true) := by
  show (if _ then _ else _) = _
  rw [if_pos h]
theorem pi_short (h : scanSorted lt d b i = k) (hk : k ≠ b) (h2 : b - a < 50) : partialIns lt a b (m + 1) i d = (d, false) := by
  show (if _ then _ else _) = _
  rw [if_neg (by rw [h]; exact hk), if_pos h2]
theorem pi_next (h : scanSorted lt d b i = k) (hk : k ≠ b) (h2 : ¬ b - a < 50) (hp : p + 1 = k) : partialIns lt a b (m + 1) i d = partialIns lt a b m k (fixUp lt b k (fixDown lt a k (swp d k p))) := by
  rw [partialIns_succ, h, if_neg hk, if_neg h2]
  subst hp; rfl
theorem sd_go (hp : p + 1 = j) (hl : lt d[j]! d[p]! = true) : shiftDown lt j d = shiftDown lt p (swp d j p) := by
  subst hp; rw [shiftDown, if_neg (by simp [hl])]
theorem sd_stop (hp : p + 1 = j) (hl : lt d[j]! d[p]! = false) : shiftDown lt j d = d := by
  subst hp; rw [shiftDown, if_pos (by simp [hl])]
theorem sd_zero : shiftDown lt 0 d = d := rfl
theorem su_go (h : j < b) (hp : p + 1 = j) (hl : lt d[j]! d[p]! = true) : shiftUp lt b j d = shiftUp lt b (j + 1) (swp d j p) := by
  subst hp; rw [shiftUp, if_pos h, if_neg (by simp [hl])]; rfl
theorem su_stop (h : j < b) (hp : p + 1 = j) (hl : lt d[j]! d[p]! = false) : shiftUp lt b j d = d := by
  subst hp; rw [shiftUp, if_pos h, if_pos (by simp [hl])]
theorem su_end (h : ¬ j < b) : shiftUp lt b j d = d := by rw [shiftUp, if_neg h]
theorem fd_two (hk : a + 2 ≤ k) (hp : p + 1 = k) : fixDown lt a k d = shiftDown lt p d := by
  subst hp; unfold fixDown; rw [if_pos (by omega)]; rfl
theorem fd_one (hk : ¬ a + 2 ≤ k) : fixDown lt a k d = d := by unfold fixDown; rw [if_neg (by omega)]
theorem fu_two (hk : k + 2 ≤ b) (hj : k + 1 = j) : fixUp lt b k d = shiftUp lt b j d := by
  subst hj; unfold fixUp; rw [if_pos (by omega)]
theorem fu_one (hk : ¬ k + 2 ≤ b) : fixUp lt b k d = d := by unfold fixUp; rw [if_neg (by omega)]
end
section
set_option maxRecDepth 100000
set_option maxHeartbeats 4000000
variable {n : Nat} {w0 : World} {B : Nat} {rv : Value} {cf : Fin (n + 1) → Fin (n + 1) → Int} (hc : Cmp w0 B rv cf)
include hc
theorem pins_any {w : World} {d : Array (Fin (n + 1))} (R : Row w0 B d w) {a b c : Nat} (hab : a < b) (hb : b ≤ d.size) (hsz : d.size ≤ 1000) :
    Calls Try.prog 70 #[.slice (some ⟨B, 0, none⟩) d.size c, .int .i64 (a : Nat), .int .i64 (b : Nat), mv rv] w fun e w' => e = .returned (.bool (partialInsertionSort (ltc cf) d a b).2) ∧ Row w0 B (partialInsertionSort (ltc cf) d a b).1 w' := by
  have eg := enters20
  have mixed : Try.prog.follows .mixedOrders = true := by kernel_rfl
  obtain ⟨i0, hi0⟩ : ∃ i0, a + 1 = i0 := ⟨_, rfl⟩
  have HD : Hid (partialInsertionSort (ltc cf) d a b = partialIns (ltc cf) a b 5 i0 d) := by show _ = _; unfold partialInsertionSort; rw [hi0]
  generalize partialInsertionSort (ltc cf) d a b = res at HD
  have HB : Hid (b ≤ d.size ∧ d.size ≤ 1000 ∧ a < b) := ⟨hb, hsz, hab⟩
  have HI0 : Hid (a + 1 = i0) := hi0
  clear hb hsz hab hi0
  have zma : (a : Int) + 1 = (i0 : Int) := by have HBo := HB.out; have HI0o := HI0.out; omega
  have lma : i0 ≤ 4000000 := by have HBo := HB.out; have HI0o := HI0.out; omega
  have maa := w64i_of zma lma
  have mab := w64_of zma lma
  clear zma lma
  go_enter Try.func70, Try.ntmps70
  go_wp2_with fail
  clear maa mab
  go_loopw [9, 10] (fun vi vs wr => ∃ (i s m : Nat) (dk : Array (Fin (n + 1))), vi = .int .i64 (i : Nat) ∧ vs = .int .i64 (s : Nat) ∧ s + m = 5 ∧ a < i ∧ i ≤ b ∧ dk.size = d.size ∧ Row w0 B dk wr ∧ Hid (res = partialIns (ltc cf) a b m i dk)) (fun _ vs _ => 6 - (intOf vs).toNat)
  case atStart => exact ⟨i0, 0, 5, d, rfl, rfl, rfl, by have HI0o := HI0.out; omega, by have HBo := HB.out; have HI0o := HI0.out; omega, rfl, R, HD⟩
  case round =>
    clear R HD HI0
    obtain ⟨i, s, m, dk, rfl, rfl, hsm, hai, hib, hsk, R2, H2⟩ := hrel
    cases m with
    | zero =>
      obtain rfl : s = 5 := hsm
      clear hai hib
      go_wp2_with fail
      go_ret
      exact ⟨by rw [H2.out]; rfl, by rw [H2.out]; exact R2⟩
    | succ m =>
      obtain ⟨s', hs'⟩ : ∃ s', s + 1 = s' := ⟨_, rfl⟩
      have HSM : Hid (s' + m = 5) := by show _ = _; omega
      have HSS : Hid (s + 1 = s') := hs'
      have hs5 : (s : Int) < 5 := by omega
      have HI : Hid (a < i ∧ i ≤ b ∧ dk.size = d.size) := ⟨hai, hib, hsk⟩
      clear hai hib hsk hs' hsm
      have zms : (s : Int) + 1 = (s' : Int) := by have HSMo := HSM.out; have HSSo := HSS.out; omega
      have lms : s' ≤ 4000000 := by have HSMo := HSM.out; have HSSo := HSS.out; omega
      have msa := w64i_of zms lms
      have msb := w64_of zms lms
      clear zms lms
      go_wp2_with fail
      go_loopw [9] (fun v wr => ∃ k : Nat, v = .int .i64 (k : Nat) ∧ i ≤ k ∧ k ≤ b ∧ Row w0 B dk wr ∧ Hid (scanSorted (ltc cf) dk b k = scanSorted (ltc cf) dk b i)) (fun v _ => b - (intOf v).toNat)
      case atStart => exact ⟨i, rfl, Nat.le_refl _, HI.out.2.1, R2, rfl⟩
      case round =>
        clear R2
        obtain ⟨k, rfl, hk1, hk2, R3, H3⟩ := hrel
        have HK : Hid (a < k ∧ k ≤ b) := ⟨by have h1 := HI.out; omega, hk2⟩
        have HK1 : Hid (i ≤ k) := hk1
        clear hk1 hk2
        by_cases hkb : k < b
        · have hkz : (k : Int) < (b : Int) := by omega
          have HL : Hid (k < b) := hkb
          clear hkb
          obtain ⟨kp, hkp⟩ : ∃ kp, k - 1 = kp := ⟨_, rfl⟩
          have HP : Hid (kp + 1 = k) := by show _ = _; have h1 := HK.out; omega
          clear hkp
          have p1 : k < dk.size := by have HBo := HB.out; have HIo := HI.out; have HLo := HL.out; omega
          have p2 : kp < dk.size := by have h1 := HP.out; omega
          have HPP : Hid (k < dk.size ∧ kp < dk.size) := ⟨p1, p2⟩
          have i1 : (k : Int) < (d.size : Int) := by rw [← HI.out.2.2]; exact Int.ofNat_lt.2 p1
          have i2 : (kp : Int) < (d.size : Int) := by rw [← HI.out.2.2]; exact Int.ofNat_lt.2 p2
          obtain ⟨x, hx⟩ : ∃ x, dk[k]! = x := ⟨_, rfl⟩
          obtain ⟨y, hy⟩ : ∃ y, dk[kp]! = y := ⟨_, rfl⟩
          have l1 := R3.at (i := k) p1 hx
          have l2 := R3.at (i := kp) p2 hy
          have cc := R3.cmp hc x y
          clear p1 p2
          have zmp : (k : Int) - 1 = (kp : Int) := by clear msa msb; have HBo := HB.out; have HKo := HK.out; have HPo := HP.out; omega
          have lmp : kp ≤ 4000000 := by clear msa msb; have HBo := HB.out; have HKo := HK.out; have HPo := HP.out; omega
          have mpa := w64i_of zmp lmp
          have mpb := w64_of zmp lmp
          clear zmp lmp
          cases hl : ltc cf x y with
          | false =>
            have hv : ¬ cf x y < 0 := of_decide_eq_false hl
            have hvd : decide (cf x y < 0) = false := hl
            have hvn : (!decide (cf x y < 0)) = true := by rw [hvd]; rfl
            obtain ⟨k', hk'⟩ : ∃ k', k + 1 = k' := ⟨_, rfl⟩
            have HN : Hid (k + 1 = k') := hk'
            have H4 : Hid (scanSorted (ltc cf) dk b k' = scanSorted (ltc cf) dk b i) := by show _ = _; rw [← H3.out, ss_go HL.out HP.out (by rw [hx, hy]; exact hl), hk']
            clear H3 hl hk' hx hy
            go_wp2_with fail
            refine wp_region_below (by kernel_rfl) (by kernel_rfl) ?_
            repeat (quiet_step ((go_at_call 50; exact cc _)))
            refine wpQuiet_nil ?_
            rintro _ ⟨bw, rfl⟩
            have R4 := R3.later bw.hb
            clear l1 l2 cc R3
            generalize bw.w = w4 at R4 ⊢
            clear bw
            clear mpa mpb
            have zmk : (k : Int) + 1 = (k' : Int) := by clear msa msb; have HBo := HB.out; have HKo := HK.out; have HNo := HN.out; omega
            have lmk : k' ≤ 4000000 := by clear msa msb; have HBo := HB.out; have HKo := HK.out; have HNo := HN.out; omega
            have mka := w64i_of zmk lmk
            have mkb := w64_of zmk lmk
            clear zmk lmk
            go_wp2_with fail
            clear mka mkb hv hvd hvn
            go_roundw
            case rel => exact ⟨k', rfl, by have h1 := HN.out; have h2 := HK1.out; clear msa msb; omega, by have h1 := HN.out; have h2 := HL.out; clear msa msb; omega, R4, H4⟩
            case measure => simp [intOf]; have h1 := HN.out; have h2 := HL.out; clear msa msb; omega
          | true =>
            have hv : cf x y < 0 := of_decide_eq_true hl
            have hvd : decide (cf x y < 0) = true := hl
            have hvn : (!decide (cf x y < 0)) = false := by rw [hvd]; rfl
            have HSC : Hid (scanSorted (ltc cf) dk b i = k) := by show _ = _; rw [← H3.out, ss_stop HP.out (by rw [hx, hy]; exact hl)]
            have hkne : ((k : Int) == (b : Int)) = false := beq_eq_false_iff_ne.2 (by clear msa msb mpa mpb; omega)
            clear H3 hl
            go_wp2_with fail
            refine wp_region_below (by kernel_rfl) (by kernel_rfl) ?_
            repeat (quiet_step ((go_at_call 50; exact cc _)))
            refine wpQuiet_nil ?_
            rintro _ ⟨bw, rfl⟩
            have R4 := R3.later bw.hb
            clear l1 l2 cc R3
            generalize bw.w = w4 at R4 ⊢
            clear bw
            have y2 : wrap64 ((b : Int) - (a : Int)) = (b : Int) - (a : Int) := wrap_6 _ (by clear msa msb mpa mpb; have HBo := HB.out; omega) (by clear msa msb mpa mpb; have HBo := HB.out; omega)
            by_cases h50 : b - a < 50
            · have h50z : (b : Int) - (a : Int) < 50 := by clear msa msb mpa mpb y2; have HBo := HB.out; omega
              have HE : Hid (res = (dk, false)) := by show _ = _; rw [H2.out, pi_short HSC.out (Nat.ne_of_lt HL.out) h50]
              clear h50 H2 HSC hx hy
              go_wp2_with fail
              go_ret
              exact ⟨by rw [HE.out]; rfl, by rw [HE.out]; exact R4⟩
            · have h50z : ¬ (b : Int) - (a : Int) < 50 := by clear msa msb mpa mpb y2; have HBo := HB.out; omega
              have HT0 : Hid (res = partialIns (ltc cf) a b m k (fixUp (ltc cf) b k (fixDown (ltc cf) a k (swp dk k kp)))) := by show _ = _; rw [H2.out, pi_next HSC.out (Nat.ne_of_lt HL.out) h50 HP.out]
              clear h50 H2 HSC
              go_wp2_with fail
              clear hv hvd hvn hkne h50z y2
              have c1 := R4.cell k HPP.out.1
              have c2 := R4.cell kp HPP.out.2
              have f1 := R4.frozen k HPP.out.1
              have f2 := R4.frozen kp HPP.out.2
              obtain ⟨u3, c3⟩ := R4.c2 (i := k) (j := kp) HPP.out.1 HPP.out.2 (.int .i64 (((y : Fin (n + 1)) : Nat) : Int))
              have R5 := (R4.swap (i := k) (j := kp) HPP.out.1 HPP.out.2 hx hy).drew
              rw [hx] at c1
              rw [hy] at c2
              clear R4
              go_wp2_with fail
              go_big_region_o
              clear c1 c2 c3 f1 f2 u3
              generalize (w4.setCell ⟨B, k, none⟩ _).setCell ⟨B, kp, none⟩ _ = wz at R5 ⊢
              generalize World.drew wz = w4' at R5 ⊢
              clear wz
              clear hx hy
              have hs1 : (swp dk k kp).size = d.size := by rw [swp_size]; exact HI.out.2.2
              generalize swp dk k kp = d1 at R5 HT0 hs1
              have y2 : wrap64 ((k : Int) - (a : Int)) = (k : Int) - (a : Int) := wrap_6 _ (by clear msa msb mpa mpb; have HBo := HB.out; have HKo := HK.out; omega) (by clear msa msb mpa mpb; have HBo := HB.out; have HKo := HK.out; omega)
              by_cases hka : a + 2 ≤ k
              · have hkaz : (k : Int) - (a : Int) ≥ 2 := by clear msa msb mpa mpb y2; omega
                have HT1 : Hid (res = partialIns (ltc cf) a b m k (fixUp (ltc cf) b k (shiftDown (ltc cf) kp d1))) := by show _ = _; rw [HT0.out, fd_two hka HP.out]
                have HDEC : Hid (decide ((2 : Int) ≤ wrap64 ((k : Int) - (a : Int))) = true) := decide_eq_true (by rw [y2]; exact hkaz)
                clear HT0 hka
                go_wp2_with fail
                try rw [HDEC.out]
                clear hkaz y2 mpa mpb HDEC
                go_loopw [11] (fun v wr => ∃ (j : Nat) (dj : Array (Fin (n + 1))), v = .int .i64 (j : Nat) ∧ j ≤ kp ∧ dj.size = d.size ∧ Row w0 B dj wr ∧ Hid (shiftDown (ltc cf) kp d1 = shiftDown (ltc cf) j dj)) (fun v _ => (intOf v).toNat)
                case atStart => exact ⟨kp, d1, rfl, Nat.le_refl _, hs1, R5, rfl⟩
                case round =>
                  clear R5 hs1
                  obtain ⟨j, dj, rfl, hjk, hsj, R6, H6⟩ := hrel
                  cases j with
                  | zero =>
                    have HT : Hid (res = partialIns (ltc cf) a b m k (fixUp (ltc cf) b k dj)) := by show _ = _; rw [HT1.out, H6.out, sd_zero]
                    have hsX := hsj
                    clear HT1 H6 hsj hjk i1 i2 hkz
                    have e0 : ((0 : Nat) : Int) = 0 := rfl
                    rw [e0]
                    clear e0
                    by_cases hk2 : k + 2 ≤ b
                    · obtain ⟨j0, hj0⟩ : ∃ j0, k + 1 = j0 := ⟨_, rfl⟩
                      have HJ0 : Hid (k + 1 = j0 ∧ k + 2 ≤ b) := ⟨hj0, hk2⟩
                      have HT2 : Hid (res = partialIns (ltc cf) a b m k (shiftUp (ltc cf) b j0 dj)) := by show _ = _; rw [HT.out, fu_two hk2 hj0]
                      clear HT hj0
                      have y1 : (b : Int) - (k : Int) ≥ 2 := by omega
                      have y2 : wrap64 ((b : Int) - (k : Int)) = (b : Int) - (k : Int) := wrap_6 _ (by have HBo := HB.out; have HKo := HK.out; omega) (by have HBo := HB.out; have HKo := HK.out; omega)
                      have y3 : IntKind.i64.wrap ((b : Int) - (k : Int)) = (b : Int) - (k : Int) := wrap_i _ (by clear y2; have HBo := HB.out; have HKo := HK.out; omega) (by clear y2; have HBo := HB.out; have HKo := HK.out; omega)
                      have HDEC : Hid (decide ((2 : Int) ≤ wrap64 ((b : Int) - (k : Int))) = true) := decide_eq_true (by rw [y2]; exact y1)
                      clear hk2
                      have zmj : (k : Int) + 1 = (j0 : Int) := by clear y1 y2 y3; have HBo := HB.out; have HKo := HK.out; have HJ0o := HJ0.out; omega
                      have lmj : j0 ≤ 4000000 := by clear y1 y2 y3; have HBo := HB.out; have HKo := HK.out; have HJ0o := HJ0.out; omega
                      have mja := w64i_of zmj lmj
                      have mjb := w64_of zmj lmj
                      clear zmj lmj
                      have HMJ : Hid (wrap64 ((k : Int) + 1) = (j0 : Int)) := mjb
                      go_wp2_with fail
                      try rw [HDEC.out]
                      try rw [HMJ.out]
                      clear mja mjb y1 y2 y3 HDEC HMJ
                      go_loopw [12] (fun v wr => ∃ (j : Nat) (dq : Array (Fin (n + 1))), v = .int .i64 (j : Nat) ∧ j0 ≤ j ∧ j ≤ b ∧ dq.size = d.size ∧ Row w0 B dq wr ∧ Hid (shiftUp (ltc cf) b j0 dj = shiftUp (ltc cf) b j dq)) (fun v _ => b - (intOf v).toNat)
                      case atStart => exact ⟨j0, dj, rfl, Nat.le_refl _, by have HJ0o := HJ0.out; omega, hsX, R6, rfl⟩
                      case round =>
                        clear R6 hsX
                        obtain ⟨j, dq, rfl, hj1, hj2, hsj, RX, H5⟩ := hrel
                        have HJ : Hid (j0 ≤ j ∧ j ≤ b ∧ dq.size = d.size) := ⟨hj1, hj2, hsj⟩
                        clear hj1 hj2 hsj
                        by_cases hjb : j < b
                        · have hjz : (j : Int) < (b : Int) := by omega
                          have HL : Hid (j < b) := hjb
                          clear hjb
                          obtain ⟨jp, hjp⟩ : ∃ jp, j - 1 = jp := ⟨_, rfl⟩
                          have HP : Hid (jp + 1 = j) := by show _ = _; have h1 := HJ0.out; have h2 := HJ.out; omega
                          clear hjp
                          have p1 : j < dq.size := by have HBo := HB.out; have HJo := HJ.out; have HLo := HL.out; omega
                          have p2 : jp < dq.size := by have h1 := HP.out; omega
                          have HPP : Hid (j < dq.size ∧ jp < dq.size) := ⟨p1, p2⟩
                          have i1 : (j : Int) < (d.size : Int) := by rw [← HJ.out.2.2]; exact Int.ofNat_lt.2 p1
                          have i2 : (jp : Int) < (d.size : Int) := by rw [← HJ.out.2.2]; exact Int.ofNat_lt.2 p2
                          obtain ⟨x, hx⟩ : ∃ x, dq[j]! = x := ⟨_, rfl⟩
                          obtain ⟨y, hy⟩ : ∃ y, dq[jp]! = y := ⟨_, rfl⟩
                          have l1 := RX.at (i := j) p1 hx
                          have l2 := RX.at (i := jp) p2 hy
                          have cc := RX.cmp hc x y
                          clear p1 p2
                          have zmp : (j : Int) - 1 = (jp : Int) := by have HBo := HB.out; have HJo := HJ.out; have HPo := HP.out; omega
                          have lmp : jp ≤ 4000000 := by have HBo := HB.out; have HJo := HJ.out; have HPo := HP.out; omega
                          have mpa := w64i_of zmp lmp
                          have mpb := w64_of zmp lmp
                          clear zmp lmp
                          cases hl : ltc cf x y with
                          | true =>
                            have hv : cf x y < 0 := of_decide_eq_true hl
                            have hvd : decide (cf x y < 0) = true := hl
                            have hvn : (!decide (cf x y < 0)) = false := by rw [hvd]; rfl
                            obtain ⟨j', hj'⟩ : ∃ j', j + 1 = j' := ⟨_, rfl⟩
                            have HN : Hid (j + 1 = j') := hj'
                            have H6 : Hid (shiftUp (ltc cf) b j0 dj = shiftUp (ltc cf) b j' (swp dq j jp)) := by show _ = _; rw [H5.out, su_go HL.out HP.out (by rw [hx, hy]; exact hl), hj']
                            clear H5 hl hj'
                            go_wp2_with fail
                            refine wp_region_below (by kernel_rfl) (by kernel_rfl) ?_
                            repeat (quiet_step ((go_at_call 50; exact cc _)))
                            refine wpQuiet_nil ?_
                            rintro _ ⟨bw, rfl⟩
                            have R7 := RX.later bw.hb
                            clear l1 l2 cc RX
                            generalize bw.w = w7 at R7 ⊢
                            clear bw
                            go_wp2_with fail
                            clear hv hvd hvn
                            have c1 := R7.cell j HPP.out.1
                            have c2 := R7.cell jp HPP.out.2
                            have f1 := R7.frozen j HPP.out.1
                            have f2 := R7.frozen jp HPP.out.2
                            obtain ⟨u3, c3⟩ := R7.c2 (i := j) (j := jp) HPP.out.1 HPP.out.2 (.int .i64 (((y : Fin (n + 1)) : Nat) : Int))
                            have R8 := (R7.swap (i := j) (j := jp) HPP.out.1 HPP.out.2 hx hy).drew
                            rw [hx] at c1
                            rw [hy] at c2
                            clear R7
                            go_wp2_with fail
                            go_big_region_o
                            clear c1 c2 c3 f1 f2 u3
                            generalize (w7.setCell ⟨B, j, none⟩ _).setCell ⟨B, jp, none⟩ _ = wz at R8 ⊢
                            generalize World.drew wz = w7' at R8 ⊢
                            clear wz
                            clear mpa mpb
                            have zmn : (j : Int) + 1 = (j' : Int) := by have HBo := HB.out; have HJo := HJ.out; have HNo := HN.out; omega
                            have lmn : j' ≤ 4000000 := by have HBo := HB.out; have HJo := HJ.out; have HNo := HN.out; omega
                            have mna := w64i_of zmn lmn
                            have mnb := w64_of zmn lmn
                            clear zmn lmn
                            go_wp2_with fail
                            clear mna mnb
                            go_roundw
                            case rel => exact ⟨j', swp dq j jp, rfl, by have HJo := HJ.out; have HNo := HN.out; omega, by have HLo := HL.out; have HNo := HN.out; omega, by rw [swp_size]; exact HJ.out.2.2, R8, H6⟩
                            case measure => simp [intOf]; have h1 := HN.out; have h2 := HL.out; omega
                          | false =>
                            have hv : ¬ cf x y < 0 := of_decide_eq_false hl
                            have hvd : decide (cf x y < 0) = false := hl
                            have hvn : (!decide (cf x y < 0)) = true := by rw [hvd]; rfl
                            have HE : Hid (res = partialIns (ltc cf) a b m k dq) := by show _ = _; rw [HT2.out, H5.out, su_stop HL.out HP.out (by rw [hx, hy]; exact hl)]
                            have hsY := HJ.out.2.2
                            clear H5 HT2 hl hx hy
                            go_wp2_with fail
                            refine wp_region_below (by kernel_rfl) (by kernel_rfl) ?_
                            repeat (quiet_step ((go_at_call 50; exact cc _)))
                            refine wpQuiet_nil ?_
                            rintro _ ⟨bw, rfl⟩
                            have R7 := RX.later bw.hb
                            clear l1 l2 cc RX
                            generalize bw.w = w7 at R7 ⊢
                            clear bw
                            go_wp2_with fail
                            clear hv hvd hvn mpa mpb
                            go_wp2_with fail
                            go_roundw
                            case rel => exact ⟨k, s', m, dq, rfl, rfl, HSM.out, by have HBo := HB.out; have HKo := HK.out; omega, by have HBo := HB.out; have HKo := HK.out; omega, hsY, R7, HE⟩
                            case measure => simp [intOf]; have h1 := HSM.out; have h2 := HSS.out; omega
                        · have hjz : ¬ (j : Int) < (b : Int) := by omega
                          have HE : Hid (res = partialIns (ltc cf) a b m k dq) := by show _ = _; rw [HT2.out, H5.out, su_end hjb]
                          have hsY := HJ.out.2.2
                          clear H5 HT2 hjb
                          go_wp2_with fail
                          go_roundw
                          case rel => exact ⟨k, s', m, dq, rfl, rfl, HSM.out, by have HBo := HB.out; have HKo := HK.out; omega, by have HBo := HB.out; have HKo := HK.out; omega, hsY, RX, HE⟩
                          case measure => simp [intOf]; have h1 := HSM.out; have h2 := HSS.out; omega
                    · have HE : Hid (res = partialIns (ltc cf) a b m k dj) := by show _ = _; rw [HT.out, fu_one hk2]
                      have hsY := hsX
                      have y1 : ¬ (b : Int) - (k : Int) ≥ 2 := by omega
                      have y2 : wrap64 ((b : Int) - (k : Int)) = (b : Int) - (k : Int) := wrap_6 _ (by have HBo := HB.out; have HKo := HK.out; omega) (by have HBo := HB.out; have HKo := HK.out; omega)
                      have y3 : IntKind.i64.wrap ((b : Int) - (k : Int)) = (b : Int) - (k : Int) := wrap_i _ (by clear y2; have HBo := HB.out; have HKo := HK.out; omega) (by clear y2; have HBo := HB.out; have HKo := HK.out; omega)
                      clear HT hk2 hsX
                      go_wp2_with fail
                      clear y1 y2 y3
                      go_wp2_with fail
                      go_roundw
                      case rel => exact ⟨k, s', m, dj, rfl, rfl, HSM.out, by have HBo := HB.out; have HKo := HK.out; omega, by have HBo := HB.out; have HKo := HK.out; omega, hsY, R6, HE⟩
                      case measure => simp [intOf]; have h1 := HSM.out; have h2 := HSS.out; omega
                  | succ jp =>
                    obtain ⟨j, hj⟩ : ∃ j, jp + 1 = j := ⟨_, rfl⟩
                    have HJ : Hid (jp + 1 = j ∧ j ≤ kp ∧ dj.size = d.size) := ⟨hj, by rw [← hj]; exact hjk, hsj⟩
                    rw [hj] at H6 ⊢
                    have hj1 : (j : Int) ≥ 1 := by clear msa msb; omega
                    clear hj hjk hsj
                    have p1 : j < dj.size := by have h1 := HJ.out; have h2 := HB.out; have h3 := HPP.out; have h4 := HI.out; clear msa msb; omega
                    have p2 : jp < dj.size := by have h1 := HJ.out; clear msa msb; omega
                    have HPJ : Hid (j < dj.size ∧ jp < dj.size) := ⟨p1, p2⟩
                    have q1 : (j : Int) < (d.size : Int) := by rw [← HJ.out.2.2]; exact Int.ofNat_lt.2 p1
                    have q2 : (jp : Int) < (d.size : Int) := by rw [← HJ.out.2.2]; exact Int.ofNat_lt.2 p2
                    obtain ⟨x, hx⟩ : ∃ x, dj[j]! = x := ⟨_, rfl⟩
                    obtain ⟨y, hy⟩ : ∃ y, dj[jp]! = y := ⟨_, rfl⟩
                    have l1 := R6.at (i := j) p1 hx
                    have l2 := R6.at (i := jp) p2 hy
                    have cc := R6.cmp hc x y
                    clear p1 p2
                    have zmq : (j : Int) - 1 = (jp : Int) := by clear msa msb; have HBo := HB.out; have HIo := HI.out; have HPPo := HPP.out; have HJo := HJ.out; omega
                    have lmq : jp ≤ 4000000 := by clear msa msb; have HBo := HB.out; have HIo := HI.out; have HPPo := HPP.out; have HJo := HJ.out; omega
                    have mqa := w64i_of zmq lmq
                    have mqb := w64_of zmq lmq
                    clear zmq lmq
                    cases hl : ltc cf x y with
                    | true =>
                      have hv : cf x y < 0 := of_decide_eq_true hl
                      have hvd : decide (cf x y < 0) = true := hl
                      have hvn : (!decide (cf x y < 0)) = false := by rw [hvd]; rfl
                      have H7 : Hid (shiftDown (ltc cf) kp d1 = shiftDown (ltc cf) jp (swp dj j jp)) := by show _ = _; rw [H6.out, sd_go HJ.out.1 (by rw [hx, hy]; exact hl)]
                      clear H6 hl
                      go_wp2_with fail
                      refine wp_region_below (by kernel_rfl) (by kernel_rfl) ?_
                      repeat (quiet_step ((go_at_call 50; exact cc _)))
                      refine wpQuiet_nil ?_
                      rintro _ ⟨bw, rfl⟩
                      have R7 := R6.later bw.hb
                      clear l1 l2 cc R6
                      generalize bw.w = w7 at R7 ⊢
                      clear bw
                      go_wp2_with fail
                      clear hv hvd hvn
                      have c1 := R7.cell j HPJ.out.1
                      have c2 := R7.cell jp HPJ.out.2
                      have f1 := R7.frozen j HPJ.out.1
                      have f2 := R7.frozen jp HPJ.out.2
                      obtain ⟨u3, c3⟩ := R7.c2 (i := j) (j := jp) HPJ.out.1 HPJ.out.2 (.int .i64 (((y : Fin (n + 1)) : Nat) : Int))
                      have R8 := (R7.swap (i := j) (j := jp) HPJ.out.1 HPJ.out.2 hx hy).drew
                      rw [hx] at c1
                      rw [hy] at c2
                      clear R7
                      go_wp2_with fail
                      go_big_region_o
                      clear c1 c2 c3 f1 f2 u3
                      generalize (w7.setCell ⟨B, j, none⟩ _).setCell ⟨B, jp, none⟩ _ = wz at R8 ⊢
                      generalize World.drew wz = w7' at R8 ⊢
                      clear wz
                      go_wp2_with fail
                      clear mqa mqb
                      go_roundw
                      case rel => exact ⟨jp, swp dj j jp, rfl, by have h1 := HJ.out; clear msa msb; omega, by rw [swp_size]; exact HJ.out.2.2, R8, H7⟩
                      case measure => simp [intOf]; have h1 := HJ.out; clear msa msb; omega
                    | false =>
                      have hv : ¬ cf x y < 0 := of_decide_eq_false hl
                      have hvd : decide (cf x y < 0) = false := hl
                      have hvn : (!decide (cf x y < 0)) = true := by rw [hvd]; rfl
                      have HT : Hid (res = partialIns (ltc cf) a b m k (fixUp (ltc cf) b k dj)) := by show _ = _; rw [HT1.out, H6.out, sd_stop HJ.out.1 (by rw [hx, hy]; exact hl)]
                      have hsX := HJ.out.2.2
                      clear HT1 H6 hl hx hy i1 i2 hkz
                      go_wp2_with fail
                      refine wp_region_below (by kernel_rfl) (by kernel_rfl) ?_
                      repeat (quiet_step ((go_at_call 50; exact cc _)))
                      refine wpQuiet_nil ?_
                      rintro _ ⟨bw, rfl⟩
                      have R7 := R6.later bw.hb
                      clear l1 l2 cc R6
                      generalize bw.w = w7 at R7 ⊢
                      clear bw
                      clear mqa mqb q1 q2 hj1 HJ HPJ
                      by_cases hk2 : k + 2 ≤ b
                      · obtain ⟨j0, hj0⟩ : ∃ j0, k + 1 = j0 := ⟨_, rfl⟩
                        have HJ0 : Hid (k + 1 = j0 ∧ k + 2 ≤ b) := ⟨hj0, hk2⟩
                        have HT2 : Hid (res = partialIns (ltc cf) a b m k (shiftUp (ltc cf) b j0 dj)) := by show _ = _; rw [HT.out, fu_two hk2 hj0]
                        clear HT hj0
                        have y1 : (b : Int) - (k : Int) ≥ 2 := by omega
                        have y2 : wrap64 ((b : Int) - (k : Int)) = (b : Int) - (k : Int) := wrap_6 _ (by have HBo := HB.out; have HKo := HK.out; omega) (by have HBo := HB.out; have HKo := HK.out; omega)
                        have y3 : IntKind.i64.wrap ((b : Int) - (k : Int)) = (b : Int) - (k : Int) := wrap_i _ (by clear y2; have HBo := HB.out; have HKo := HK.out; omega) (by clear y2; have HBo := HB.out; have HKo := HK.out; omega)
                        have HDEC : Hid (decide ((2 : Int) ≤ wrap64 ((b : Int) - (k : Int))) = true) := decide_eq_true (by rw [y2]; exact y1)
                        clear hk2
                        have zmj : (k : Int) + 1 = (j0 : Int) := by clear y1 y2 y3; have HBo := HB.out; have HKo := HK.out; have HJ0o := HJ0.out; omega
                        have lmj : j0 ≤ 4000000 := by clear y1 y2 y3; have HBo := HB.out; have HKo := HK.out; have HJ0o := HJ0.out; omega
                        have mja := w64i_of zmj lmj
                        have mjb := w64_of zmj lmj
                        clear zmj lmj
                        have HMJ : Hid (wrap64 ((k : Int) + 1) = (j0 : Int)) := mjb
                        go_wp2_with fail
                        try rw [HDEC.out]
                        try rw [HMJ.out]
                        clear mja mjb y1 y2 y3 HDEC HMJ
                        go_loopw [12] (fun v wr => ∃ (j : Nat) (dq : Array (Fin (n + 1))), v = .int .i64 (j : Nat) ∧ j0 ≤ j ∧ j ≤ b ∧ dq.size = d.size ∧ Row w0 B dq wr ∧ Hid (shiftUp (ltc cf) b j0 dj = shiftUp (ltc cf) b j dq)) (fun v _ => b - (intOf v).toNat)
                        case atStart => exact ⟨j0, dj, rfl, Nat.le_refl _, by have HJ0o := HJ0.out; omega, hsX, R7, rfl⟩
                        case round =>
                          clear R7 hsX
                          obtain ⟨j, dq, rfl, hj1, hj2, hsj, RX, H5⟩ := hrel
                          have HJ : Hid (j0 ≤ j ∧ j ≤ b ∧ dq.size = d.size) := ⟨hj1, hj2, hsj⟩
                          clear hj1 hj2 hsj
                          by_cases hjb : j < b
                          · have hjz : (j : Int) < (b : Int) := by omega
                            have HL : Hid (j < b) := hjb
                            clear hjb
                            obtain ⟨jp, hjp⟩ : ∃ jp, j - 1 = jp := ⟨_, rfl⟩
                            have HP : Hid (jp + 1 = j) := by show _ = _; have h1 := HJ0.out; have h2 := HJ.out; omega
                            clear hjp
                            have p1 : j < dq.size := by have HBo := HB.out; have HJo := HJ.out; have HLo := HL.out; omega
                            have p2 : jp < dq.size := by have h1 := HP.out; omega
                            have HPP : Hid (j < dq.size ∧ jp < dq.size) := ⟨p1, p2⟩
                            have i1 : (j : Int) < (d.size : Int) := by rw [← HJ.out.2.2]; exact Int.ofNat_lt.2 p1
                            have i2 : (jp : Int) < (d.size : Int) := by rw [← HJ.out.2.2]; exact Int.ofNat_lt.2 p2
                            obtain ⟨x, hx⟩ : ∃ x, dq[j]! = x := ⟨_, rfl⟩
                            obtain ⟨y, hy⟩ : ∃ y, dq[jp]! = y := ⟨_, rfl⟩
                            have l1 := RX.at (i := j) p1 hx
                            have l2 := RX.at (i := jp) p2 hy
                            have cc := RX.cmp hc x y
                            clear p1 p2
                            have zmp : (j : Int) - 1 = (jp : Int) := by have HBo := HB.out; have HJo := HJ.out; have HPo := HP.out; omega
                            have lmp : jp ≤ 4000000 := by have HBo := HB.out; have HJo := HJ.out; have HPo := HP.out; omega
                            have mpa := w64i_of zmp lmp
                            have mpb := w64_of zmp lmp
                            clear zmp lmp
                            cases hl : ltc cf x y with
                            | true =>
                              have hv : cf x y < 0 := of_decide_eq_true hl
                              have hvd : decide (cf x y < 0) = true := hl
                              have hvn : (!decide (cf x y < 0)) = false := by rw [hvd]; rfl
                              obtain ⟨j', hj'⟩ : ∃ j', j + 1 = j' := ⟨_, rfl⟩
                              have HN : Hid (j + 1 = j') := hj'
                              have H6 : Hid (shiftUp (ltc cf) b j0 dj = shiftUp (ltc cf) b j' (swp dq j jp)) := by show _ = _; rw [H5.out, su_go HL.out HP.out (by rw [hx, hy]; exact hl), hj']
                              clear H5 hl hj'
                              go_wp2_with fail
                              refine wp_region_below (by kernel_rfl) (by kernel_rfl) ?_
                              repeat (quiet_step ((go_at_call 50; exact cc _)))
                              refine wpQuiet_nil ?_
                              rintro _ ⟨bw, rfl⟩
                              have R7 := RX.later bw.hb
                              clear l1 l2 cc RX
                              generalize bw.w = w7 at R7 ⊢
                              clear bw
                              go_wp2_with fail
                              clear hv hvd hvn
                              have c1 := R7.cell j HPP.out.1
                              have c2 := R7.cell jp HPP.out.2
                              have f1 := R7.frozen j HPP.out.1
                              have f2 := R7.frozen jp HPP.out.2
                              obtain ⟨u3, c3⟩ := R7.c2 (i := j) (j := jp) HPP.out.1 HPP.out.2 (.int .i64 (((y : Fin (n + 1)) : Nat) : Int))
                              have R8 := (R7.swap (i := j) (j := jp) HPP.out.1 HPP.out.2 hx hy).drew
                              rw [hx] at c1
                              rw [hy] at c2
                              clear R7
                              go_wp2_with fail
                              go_big_region_o
                              clear c1 c2 c3 f1 f2 u3
                              generalize (w7.setCell ⟨B, j, none⟩ _).setCell ⟨B, jp, none⟩ _ = wz at R8 ⊢
                              generalize World.drew wz = w7' at R8 ⊢
                              clear wz
                              clear mpa mpb
                              have zmn : (j : Int) + 1 = (j' : Int) := by have HBo := HB.out; have HJo := HJ.out; have HNo := HN.out; omega
                              have lmn : j' ≤ 4000000 := by have HBo := HB.out; have HJo := HJ.out; have HNo := HN.out; omega
                              have mna := w64i_of zmn lmn
                              have mnb := w64_of zmn lmn
                              clear zmn lmn
                              go_wp2_with fail
                              clear mna mnb
                              go_roundw
                              case rel => exact ⟨j', swp dq j jp, rfl, by have HJo := HJ.out; have HNo := HN.out; omega, by have HLo := HL.out; have HNo := HN.out; omega, by rw [swp_size]; exact HJ.out.2.2, R8, H6⟩
                              case measure => simp [intOf]; have h1 := HN.out; have h2 := HL.out; omega
                            | false =>
                              have hv : ¬ cf x y < 0 := of_decide_eq_false hl
                              have hvd : decide (cf x y < 0) = false := hl
                              have hvn : (!decide (cf x y < 0)) = true := by rw [hvd]; rfl
                              have HE : Hid (res = partialIns (ltc cf) a b m k dq) := by show _ = _; rw [HT2.out, H5.out, su_stop HL.out HP.out (by rw [hx, hy]; exact hl)]
                              have hsY := HJ.out.2.2
                              clear H5 HT2 hl hx hy
                              go_wp2_with fail
                              refine wp_region_below (by kernel_rfl) (by kernel_rfl) ?_
                              repeat (quiet_step ((go_at_call 50; exact cc _)))
                              refine wpQuiet_nil ?_
                              rintro _ ⟨bw, rfl⟩
                              have R7 := RX.later bw.hb
                              clear l1 l2 cc RX
                              generalize bw.w = w7 at R7 ⊢
                              clear bw
                              go_wp2_with fail
                              clear hv hvd hvn mpa mpb
                              go_wp2_with fail
                              go_roundw
                              case rel => exact ⟨k, s', m, dq, rfl, rfl, HSM.out, by have HBo := HB.out; have HKo := HK.out; omega, by have HBo := HB.out; have HKo := HK.out; omega, hsY, R7, HE⟩
                              case measure => simp [intOf]; have h1 := HSM.out; have h2 := HSS.out; omega
                          · have hjz : ¬ (j : Int) < (b : Int) := by omega
                            have HE : Hid (res = partialIns (ltc cf) a b m k dq) := by show _ = _; rw [HT2.out, H5.out, su_end hjb]
                            have hsY := HJ.out.2.2
                            clear H5 HT2 hjb
                            go_wp2_with fail
                            go_roundw
                            case rel => exact ⟨k, s', m, dq, rfl, rfl, HSM.out, by have HBo := HB.out; have HKo := HK.out; omega, by have HBo := HB.out; have HKo := HK.out; omega, hsY, RX, HE⟩
                            case measure => simp [intOf]; have h1 := HSM.out; have h2 := HSS.out; omega
                      · have HE : Hid (res = partialIns (ltc cf) a b m k dj) := by show _ = _; rw [HT.out, fu_one hk2]
                        have hsY := hsX
                        have y1 : ¬ (b : Int) - (k : Int) ≥ 2 := by omega
                        have y2 : wrap64 ((b : Int) - (k : Int)) = (b : Int) - (k : Int) := wrap_6 _ (by have HBo := HB.out; have HKo := HK.out; omega) (by have HBo := HB.out; have HKo := HK.out; omega)
                        have y3 : IntKind.i64.wrap ((b : Int) - (k : Int)) = (b : Int) - (k : Int) := wrap_i _ (by clear y2; have HBo := HB.out; have HKo := HK.out; omega) (by clear y2; have HBo := HB.out; have HKo := HK.out; omega)
                        clear HT hk2 hsX
                        go_wp2_with fail
                        clear y1 y2 y3
                        go_wp2_with fail
                        go_roundw
                        case rel => exact ⟨k, s', m, dj, rfl, rfl, HSM.out, by have HBo := HB.out; have HKo := HK.out; omega, by have HBo := HB.out; have HKo := HK.out; omega, hsY, R7, HE⟩
                        case measure => simp [intOf]; have h1 := HSM.out; have h2 := HSS.out; omega
              · have hkaz : ¬ (k : Int) - (a : Int) ≥ 2 := by clear msa msb mpa mpb y2; omega
                have HT : Hid (res = partialIns (ltc cf) a b m k (fixUp (ltc cf) b k d1)) := by show _ = _; rw [HT0.out, fd_one hka]
                have hsX := hs1
                have y9 := y2
                clear HT0 hka hs1 i1 i2 hkz y2 mpa mpb
                by_cases hk2 : k + 2 ≤ b
                · obtain ⟨j0, hj0⟩ : ∃ j0, k + 1 = j0 := ⟨_, rfl⟩
                  have HJ0 : Hid (k + 1 = j0 ∧ k + 2 ≤ b) := ⟨hj0, hk2⟩
                  have HT2 : Hid (res = partialIns (ltc cf) a b m k (shiftUp (ltc cf) b j0 d1)) := by show _ = _; rw [HT.out, fu_two hk2 hj0]
                  clear HT hj0
                  have y1 : (b : Int) - (k : Int) ≥ 2 := by omega
                  have y2 : wrap64 ((b : Int) - (k : Int)) = (b : Int) - (k : Int) := wrap_6 _ (by have HBo := HB.out; have HKo := HK.out; omega) (by have HBo := HB.out; have HKo := HK.out; omega)
                  have y3 : IntKind.i64.wrap ((b : Int) - (k : Int)) = (b : Int) - (k : Int) := wrap_i _ (by clear y2; have HBo := HB.out; have HKo := HK.out; omega) (by clear y2; have HBo := HB.out; have HKo := HK.out; omega)
                  have HDEC : Hid (decide ((2 : Int) ≤ wrap64 ((b : Int) - (k : Int))) = true) := decide_eq_true (by rw [y2]; exact y1)
                  clear hk2
                  have zmj : (k : Int) + 1 = (j0 : Int) := by clear y1 y2 y3; have HBo := HB.out; have HKo := HK.out; have HJ0o := HJ0.out; omega
                  have lmj : j0 ≤ 4000000 := by clear y1 y2 y3; have HBo := HB.out; have HKo := HK.out; have HJ0o := HJ0.out; omega
                  have mja := w64i_of zmj lmj
                  have mjb := w64_of zmj lmj
                  clear zmj lmj
                  have HMJ : Hid (wrap64 ((k : Int) + 1) = (j0 : Int)) := mjb
                  go_wp2_with fail
                  try rw [HDEC.out]
                  try rw [HMJ.out]
                  clear mja mjb y1 y2 y3 HDEC HMJ
                  go_loopw [12] (fun v wr => ∃ (j : Nat) (dq : Array (Fin (n + 1))), v = .int .i64 (j : Nat) ∧ j0 ≤ j ∧ j ≤ b ∧ dq.size = d.size ∧ Row w0 B dq wr ∧ Hid (shiftUp (ltc cf) b j0 d1 = shiftUp (ltc cf) b j dq)) (fun v _ => b - (intOf v).toNat)
                  case atStart => exact ⟨j0, d1, rfl, Nat.le_refl _, by have HJ0o := HJ0.out; omega, hsX, R5, rfl⟩
                  case round =>
                    clear R5 hsX
                    obtain ⟨j, dq, rfl, hj1, hj2, hsj, RX, H5⟩ := hrel
                    have HJ : Hid (j0 ≤ j ∧ j ≤ b ∧ dq.size = d.size) := ⟨hj1, hj2, hsj⟩
                    clear hj1 hj2 hsj
                    by_cases hjb : j < b
                    · have hjz : (j : Int) < (b : Int) := by omega
                      have HL : Hid (j < b) := hjb
                      clear hjb
                      obtain ⟨jp, hjp⟩ : ∃ jp, j - 1 = jp := ⟨_, rfl⟩
                      have HP : Hid (jp + 1 = j) := by show _ = _; have h1 := HJ0.out; have h2 := HJ.out; omega
                      clear hjp
                      have p1 : j < dq.size := by have HBo := HB.out; have HJo := HJ.out; have HLo := HL.out; omega
                      have p2 : jp < dq.size := by have h1 := HP.out; omega
                      have HPP : Hid (j < dq.size ∧ jp < dq.size) := ⟨p1, p2⟩
                      have i1 : (j : Int) < (d.size : Int) := by rw [← HJ.out.2.2]; exact Int.ofNat_lt.2 p1
                      have i2 : (jp : Int) < (d.size : Int) := by rw [← HJ.out.2.2]; exact Int.ofNat_lt.2 p2
                      obtain ⟨x, hx⟩ : ∃ x, dq[j]! = x := ⟨_, rfl⟩
                      obtain ⟨y, hy⟩ : ∃ y, dq[jp]! = y := ⟨_, rfl⟩
                      have l1 := RX.at (i := j) p1 hx
                      have l2 := RX.at (i := jp) p2 hy
                      have cc := RX.cmp hc x y
                      clear p1 p2
                      have zmp : (j : Int) - 1 = (jp : Int) := by have HBo := HB.out; have HJo := HJ.out; have HPo := HP.out; omega
                      have lmp : jp ≤ 4000000 := by have HBo := HB.out; have HJo := HJ.out; have HPo := HP.out; omega
                      have mpa := w64i_of zmp lmp
                      have mpb := w64_of zmp lmp
                      clear zmp lmp
                      cases hl : ltc cf x y with
                      | true =>
                        have hv : cf x y < 0 := of_decide_eq_true hl
                        have hvd : decide (cf x y < 0) = true := hl
                        have hvn : (!decide (cf x y < 0)) = false := by rw [hvd]; rfl
                        obtain ⟨j', hj'⟩ : ∃ j', j + 1 = j' := ⟨_, rfl⟩
                        have HN : Hid (j + 1 = j') := hj'
                        have H6 : Hid (shiftUp (ltc cf) b j0 d1 = shiftUp (ltc cf) b j' (swp dq j jp)) := by show _ = _; rw [H5.out, su_go HL.out HP.out (by rw [hx, hy]; exact hl), hj']
                        clear H5 hl hj'
                        go_wp2_with fail
                        refine wp_region_below (by kernel_rfl) (by kernel_rfl) ?_
                        repeat (quiet_step ((go_at_call 50; exact cc _)))
                        refine wpQuiet_nil ?_
                        rintro _ ⟨bw, rfl⟩
                        have R7 := RX.later bw.hb
                        clear l1 l2 cc RX
                        generalize bw.w = w7 at R7 ⊢
                        clear bw
                        go_wp2_with fail
                        clear hv hvd hvn
                        have c1 := R7.cell j HPP.out.1
                        have c2 := R7.cell jp HPP.out.2
                        have f1 := R7.frozen j HPP.out.1
                        have f2 := R7.frozen jp HPP.out.2
                        obtain ⟨u3, c3⟩ := R7.c2 (i := j) (j := jp) HPP.out.1 HPP.out.2 (.int .i64 (((y : Fin (n + 1)) : Nat) : Int))
                        have R8 := (R7.swap (i := j) (j := jp) HPP.out.1 HPP.out.2 hx hy).drew
                        rw [hx] at c1
                        rw [hy] at c2
                        clear R7
                        go_wp2_with fail
                        go_big_region_o
                        clear c1 c2 c3 f1 f2 u3
                        generalize (w7.setCell ⟨B, j, none⟩ _).setCell ⟨B, jp, none⟩ _ = wz at R8 ⊢
                        generalize World.drew wz = w7' at R8 ⊢
                        clear wz
                        clear mpa mpb
                        have zmn : (j : Int) + 1 = (j' : Int) := by have HBo := HB.out; have HJo := HJ.out; have HNo := HN.out; omega
                        have lmn : j' ≤ 4000000 := by have HBo := HB.out; have HJo := HJ.out; have HNo := HN.out; omega
                        have mna := w64i_of zmn lmn
                        have mnb := w64_of zmn lmn
                        clear zmn lmn
                        go_wp2_with fail
                        clear mna mnb
                        go_roundw
                        case rel => exact ⟨j', swp dq j jp, rfl, by have HJo := HJ.out; have HNo := HN.out; omega, by have HLo := HL.out; have HNo := HN.out; omega, by rw [swp_size]; exact HJ.out.2.2, R8, H6⟩
                        case measure => simp [intOf]; have h1 := HN.out; have h2 := HL.out; omega
                      | false =>
                        have hv : ¬ cf x y < 0 := of_decide_eq_false hl
                        have hvd : decide (cf x y < 0) = false := hl
                        have hvn : (!decide (cf x y < 0)) = true := by rw [hvd]; rfl
                        have HE : Hid (res = partialIns (ltc cf) a b m k dq) := by show _ = _; rw [HT2.out, H5.out, su_stop HL.out HP.out (by rw [hx, hy]; exact hl)]
                        have hsY := HJ.out.2.2
                        clear H5 HT2 hl hx hy
                        go_wp2_with fail
                        refine wp_region_below (by kernel_rfl) (by kernel_rfl) ?_
                        repeat (quiet_step ((go_at_call 50; exact cc _)))
                        refine wpQuiet_nil ?_
                        rintro _ ⟨bw, rfl⟩
                        have R7 := RX.later bw.hb
                        clear l1 l2 cc RX
                        generalize bw.w = w7 at R7 ⊢
                        clear bw
                        go_wp2_with fail
                        clear hv hvd hvn mpa mpb
                        go_wp2_with fail
                        go_roundw
                        case rel => exact ⟨k, s', m, dq, rfl, rfl, HSM.out, by have HBo := HB.out; have HKo := HK.out; omega, by have HBo := HB.out; have HKo := HK.out; omega, hsY, R7, HE⟩
                        case measure => simp [intOf]; have h1 := HSM.out; have h2 := HSS.out; omega
                    · have hjz : ¬ (j : Int) < (b : Int) := by omega
                      have HE : Hid (res = partialIns (ltc cf) a b m k dq) := by show _ = _; rw [HT2.out, H5.out, su_end hjb]
                      have hsY := HJ.out.2.2
                      clear H5 HT2 hjb
                      go_wp2_with fail
                      go_roundw
                      case rel => exact ⟨k, s', m, dq, rfl, rfl, HSM.out, by have HBo := HB.out; have HKo := HK.out; omega, by have HBo := HB.out; have HKo := HK.out; omega, hsY, RX, HE⟩
                      case measure => simp [intOf]; have h1 := HSM.out; have h2 := HSS.out; omega
                · have HE : Hid (res = partialIns (ltc cf) a b m k d1) := by show _ = _; rw [HT.out, fu_one hk2]
                  have hsY := hsX
                  have y1 : ¬ (b : Int) - (k : Int) ≥ 2 := by omega
                  have y2 : wrap64 ((b : Int) - (k : Int)) = (b : Int) - (k : Int) := wrap_6 _ (by have HBo := HB.out; have HKo := HK.out; omega) (by have HBo := HB.out; have HKo := HK.out; omega)
                  have y3 : IntKind.i64.wrap ((b : Int) - (k : Int)) = (b : Int) - (k : Int) := wrap_i _ (by clear y2; have HBo := HB.out; have HKo := HK.out; omega) (by clear y2; have HBo := HB.out; have HKo := HK.out; omega)
                  clear HT hk2 hsX
                  go_wp2_with fail
                  clear y1 y2 y3
                  go_wp2_with fail
                  go_roundw
                  case rel => exact ⟨k, s', m, d1, rfl, rfl, HSM.out, by have HBo := HB.out; have HKo := HK.out; omega, by have HBo := HB.out; have HKo := HK.out; omega, hsY, R5, HE⟩
                  case measure => simp [intOf]; have h1 := HSM.out; have h2 := HSS.out; omega
        · obtain rfl : k = b := Nat.le_antisymm HK.out.2 (Nat.not_lt.1 hkb)
          have hkz : ¬ (k : Int) < (k : Int) := Int.lt_irrefl _
          have hke : (k < k) = False := eq_false hkb
          have HE : Hid (res = (dk, true)) := by show _ = _; rw [H2.out, pi_full (by rw [← H3.out, ss_end hkb])]
          clear H2 H3 hkb
          go_wp2_with fail
          go_big_region_o
          have R4 := R3.drew
          clear R3
          generalize wr.drew = w4 at R4 ⊢
          go_wp2_with fail
          go_ret
          exact ⟨by rw [HE.out]; rfl, by rw [HE.out]; exact R4⟩
end
end Go.Proofs.Ytihgpllbgliplaa
