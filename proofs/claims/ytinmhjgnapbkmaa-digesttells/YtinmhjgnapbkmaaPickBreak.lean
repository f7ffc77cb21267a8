/- What the library's breaking of patterns does to a row of numbers: it exchanges some of the part. -/
import Derived.Test.YtinmhjgnapbkmaaPickMed
import Derived.Sort.Walk7a
namespace Go.Proofs.Ytinmhjgnapbkmaa
open Go.ChangeShapes Go.WideShapes Go.ChangeAt Go.RowKit Go.Sort Go.Shelf
set_option linter.unusedVariables false
set_option linter.unusedSimpArgs false

section
set_option maxRecDepth 100000
set_option maxHeartbeats 2000000
theorem xs_any {X r0 : Nat} (hr : r0 < 18446744073709551616) (w : World) (hc : w.cell? ⟨X, 0, none⟩ = some (.int .u64 (r0 : Int))) (hf : w.frozen? ⟨X, 0, none⟩ = false) :
    Calls Try.prog 73 #[.pointer (some ⟨X, 0, none⟩)] w fun e w' => ∃ r : Nat, r < 18446744073709551616 ∧ e = .returned (.int .u64 (r : Int)) ∧ w' = (w.setCell ⟨X, 0, none⟩ (.int .u64 (r : Int))).drewN 3 := by
  have mixed : Try.prog.follows .mixedOrders = true := by kernel_rfl
  have cut : ∀ k : Nat, ((k % 18446744073709551616 : Nat) : Int) = (k : Int) % 18446744073709551616 := fun k => by omega
  have small : ∀ k : Nat, k % 18446744073709551616 < 18446744073709551616 := fun k => Nat.mod_lt _ (by decide)
  have lx : ∀ {x y : Nat}, x < 18446744073709551616 → y < 18446744073709551616 → x ^^^ y < 18446744073709551616 := fun hx hy => Nat.xor_lt_two_pow (n := 64) hx hy
  obtain ⟨r1, h1⟩ : ∃ r1 : Nat, r1 = r0 ^^^ (r0 * 8192 % 18446744073709551616) := ⟨_, rfl⟩
  obtain ⟨r2, h2⟩ : ∃ r2 : Nat, r2 = r1 ^^^ (r1 / 128) := ⟨_, rfl⟩
  obtain ⟨r3, h3⟩ : ∃ r3 : Nat, r3 = r2 ^^^ (r2 * 131072 % 18446744073709551616) := ⟨_, rfl⟩
  have l1 : r1 < 18446744073709551616 := h1 ▸ lx hr (small _)
  have l2 : r2 < 18446744073709551616 := h2 ▸ lx l1 (by omega)
  have l3 : r3 < 18446744073709551616 := h3 ▸ lx l2 (small _)
  have e1 : bits .xor .u64 (r0 : Int) (IntKind.u64.wrap ((r0 : Int) * 8192)) = (r1 : Int) := by
    rw [IntKind.wrap_u64, show (r0 : Int) * 8192 = ((r0 * 8192 : Nat) : Int) by omega, ← cut, bits_xor_u64_nat _ _ hr (small _), ← h1]
  have e2 : bits .xor .u64 (r1 : Int) ((r1 : Int) / 128) = (r2 : Int) := by
    rw [show (r1 : Int) / 128 = ((r1 / 128 : Nat) : Int) by omega, bits_xor_u64_nat _ _ l1 (by omega), ← h2]
  have e3 : bits .xor .u64 (r2 : Int) (IntKind.u64.wrap ((r2 : Int) * 131072)) = (r3 : Int) := by
    rw [IntKind.wrap_u64, show (r2 : Int) * 131072 = ((r2 * 131072 : Nat) : Int) by omega, ← cut, bits_xor_u64_nat _ _ l2 (small _), ← h3]
  clear h1 h2 h3 cut small lx
  have over : ∀ v v', (w.setCell ⟨X, 0, none⟩ v).setCell ⟨X, 0, none⟩ v' = w.setCell ⟨X, 0, none⟩ v' := setCell_setCell w X 0
  go_enter Try.func73, Try.ntmps73
  go_wp2
  go_region_o
  all_goals go_wp2
  all_goals go_region_o
  all_goals go_wp2
  all_goals go_region_o
  all_goals go_wp2
  go_ret
  exact ⟨r3, l3, rfl, rfl⟩
theorem npow_any (x : Nat) (hx : x ≤ 1000) (w : World) : Calls Try.prog 72 #[.int .i64 (x : Nat)] w fun e w' => e = .returned (.int .u64 ((1 <<< bitsLen x : Nat) : Int)) ∧ w' = w := by
  have cl := len_any x hx w
  rw [bitLen_eq _ (by omega)] at cl
  have hk : bitsLen x ≤ 62 := (bitsLen_le_iff x 62).2 (by omega)
  have hp := wrap_two_pow (bitsLen x) hk
  have wu : IntKind.u64.wrap (x : Int) = (x : Int) := by rw [IntKind.wrap_u64]; omega
  go_enter Try.func72, Try.ntmps72
  go_wp2_with fail
  refine cl.mono ?_
  rintro e w2 ⟨rfl, rfl⟩
  go_wp2_with fail
  go_ret
  exact ⟨rfl, rfl⟩
theorem brk_facts (a b N : Nat) (hab : a + 8 ≤ b) (hb : b ≤ N) (hN : N ≤ 1000) : ∃ L Q Q2 A2 I0 I1 : Nat, (a + L = b ∧ L ≤ 1000 ∧ 8 ≤ L ∧ a ≤ I0 ∧ I1 < b ∧ I0 + 2 = I1) ∧ (8 : Int) ≤ (L : Int) ∧
    wrap64 ((b : Int) - (a : Int)) = (L : Int) ∧ (L : Int) / 4 = (Q : Int) ∧ wrap64 (Q : Int) = (Q : Int) ∧ wrap64 ((Q : Int) * 2) = (Q2 : Int) ∧ wrap64 ((a : Int) + (Q2 : Int)) = (A2 : Int) ∧ wrap64 ((A2 : Int) - 1) = (I0 : Int) ∧ wrap64 ((A2 : Int) + 1) = (I1 : Int) := by
  refine ⟨b - a, (b - a) / 4, (b - a) / 4 * 2, a + (b - a) / 4 * 2, a + (b - a) / 4 * 2 - 1, a + (b - a) / 4 * 2 + 1, ?_, by omega, ?_, ?_, ?_, ?_, ?_, ?_, ?_⟩
  · omega
  · rw [wrap_6 _ (by omega) (by omega)]; omega
  · omega
  · rw [wrap_6 _ (by omega) (by omega)]
  · rw [wrap_6 _ (by omega) (by omega)]; omega
  · rw [wrap_6 _ (by omega) (by omega)]; omega
  · rw [wrap_6 _ (by omega) (by omega)]; omega
  · rw [wrap_6 _ (by omega) (by omega)]; omega
theorem pow_facts (L : Nat) (h : 8 ≤ L) (h2 : L ≤ 1000) : ∃ M M1 : Nat, 1 <<< bitsLen L = M ∧ M1 + 1 = M ∧ M ≤ 2 * L ∧ IntKind.u64.wrap ((M : Int) - 1) = (M1 : Int) := by
  have e1 : 1 ≤ 1 <<< bitsLen L := by rw [Nat.one_shiftLeft]; exact Nat.two_pow_pos _
  have e2 : 1 <<< bitsLen L ≤ 2 * L := by rw [Nat.one_shiftLeft]; exact two_pow_bitsLen_le (by omega)
  generalize 1 <<< bitsLen L = M at e1 e2
  exact ⟨M, M - 1, rfl, by omega, e2, by rw [IntKind.wrap_u64]; omega⟩
theorem brk_any {n : Nat} {w0 : World} {B : Nat} {V : Value} {w : World} {d : Array (Fin (n + 1))} (R : Row w0 B d w) {a b c : Nat} (hab : a + 8 ≤ b) (hb : b ≤ d.size) (hsz : d.size ≤ 1000) :
    Calls Try.prog 61 #[.slice (some ⟨B, 0, none⟩) d.size c, .int .i64 (a : Nat), .int .i64 (b : Nat), V] w fun e w' => e = .returned (.tuple #[]) ∧ ∃ d' : Array (Fin (n + 1)), PermIn a b d d' ∧ Row w0 B d' w' := by
  have mixed : Try.prog.follows .mixedOrders = true := by kernel_rfl
  obtain ⟨L, Q, Q2, A2, I0, I1, hf, h8, m1, m2, m3, m4, m5, m6, m7⟩ := brk_facts a b d.size hab hb hsz
  obtain ⟨M, M1, hM, hM1, hM2, m8⟩ := pow_facts L hf.2.2.1 hf.2.1
  have HF : Hid ((a + L = b ∧ L ≤ 1000 ∧ 8 ≤ L ∧ a ≤ I0 ∧ I1 < b ∧ I0 + 2 = I1) ∧ M1 + 1 = M ∧ M ≤ 2 * L) := ⟨hf, hM1, hM2⟩
  have HB : Hid (b ≤ d.size ∧ d.size ≤ 1000) := ⟨hb, hsz⟩
  have cp := fun w => npow_any L hf.2.1 w
  rw [hM] at cp
  have wu : IntKind.u64.wrap (L : Int) = (L : Int) := by have h := hf.2.1; clear m1 m2 m3 m4 m5 m6 m7 m8; rw [IntKind.wrap_u64]; omega
  have hXB : w.heap.size ≠ B := Nat.ne_of_gt R.ltw
  have hX0 : w0.heap.size ≤ w.heap.size := R.keep.size
  clear hf hM hM1 hM2 hab hb hsz
  have R1 := R.later (below_new w (.cells #[.int .u64 (L : Int)] 92))
  have cX : (w.alloc (.cells #[.int .u64 (L : Int)] 92)).cell? ⟨w.heap.size, 0, none⟩ = some (.int .u64 (L : Int)) := by simp
  have fX : (w.alloc (.cells #[.int .u64 (L : Int)] 92)).frozen? ⟨w.heap.size, 0, none⟩ = false := by simp
  have hlX : w.heap.size < (w.alloc (.cells #[.int .u64 (L : Int)] 92)).heap.size := by simp
  clear R
  go_enter Try.func61, Try.ntmps61
  go_wp2_with fail
  generalize w.alloc (.cells #[.int .u64 (L : Int)] 92) = w1 at R1 cX fX hlX ⊢
  generalize w.heap.size = X at hXB hX0 cX fX hlX ⊢
  refine (cp _).mono ?_
  rintro e w2 ⟨rfl, rfl⟩
  clear cp
  go_wp2_with fail
  try rw [m3]
  try rw [m4]
  try rw [m5]
  try rw [m6]
  clear m1 h8
  go_loopw [11] (fun v wr => ∃ (t r : Nat) (dk : Array (Fin (n + 1))), v = .int .i64 (t : Nat) ∧ (I0 ≤ t ∧ t ≤ I0 + 3 ∧ dk.size = d.size) ∧ Hid (PermIn a b d dk) ∧ Row w0 B dk wr ∧ wr.cell? ⟨X, 0, none⟩ = some (.int .u64 (r : Int)) ∧ wr.frozen? ⟨X, 0, none⟩ = false ∧ r < 18446744073709551616) (fun v _ => I0 + 3 - (intOf v).toNat)
  case atStart => exact ⟨I0, L, d, by first | rfl | rw [m6], ⟨Nat.le_refl _, Nat.le_add_right _ _, rfl⟩, permIn_refl _ _ _, R1, cX, fX, by have HFo := HF.out; clear m2 m3 m4 m5 m6 m7 m8; omega⟩
  case round =>
    clear R1 cX fX hlX m6
    obtain ⟨t, r, dk, rfl, ht, hpm, R2, c2, f2, hr⟩ := hrel
    have HT : Hid (I0 ≤ t ∧ t ≤ I0 + 3 ∧ dk.size = d.size) := ht
    clear ht
    by_cases hle : t ≤ I1
    · have hlez : (t : Int) ≤ (I1 : Int) := by clear m2 m3 m4 m5 m7 m8; omega
      have HL : Hid (t ≤ I1) := hle
      clear hle
      have cn := xs_any hr wr c2 f2
      go_wp2_with fail
      refine cn.mono ?_
      rintro e w2' ⟨rr, hrr, rfl, rfl⟩
      clear cn
      obtain ⟨O, hO⟩ : ∃ O : Nat, rr &&& M1 = O := ⟨_, rfl⟩
      have hO1 : O ≤ M1 := by rw [← hO]; exact Nat.and_le_right
      have HO : Hid (O ≤ M1 ∧ M1 + 1 ≤ 2 * L) := ⟨hO1, by have h := HF.out; clear m2 m3 m4 m5 m7 m8; omega⟩
      have eAnd : bits .and .u64 (rr : Int) (M1 : Int) = (O : Int) := by rw [bits_and_u64_nat _ _ hrr (by have h := HF.out; clear m2 m3 m4 m5 m7 m8; omega), hO]
      have eO : wrap64 (O : Int) = (O : Int) := wrap_6 _ (by clear eAnd m2 m3 m4 m5 m7 m8; omega) (by have h := HF.out; clear eAnd m2 m3 m4 m5 m7 m8; omega)
      have EO : Hid (wrap64 (O : Int) = (O : Int)) := eO
      have HRR : Hid (rr < 18446744073709551616) := hrr
      clear hO hO1 eO hrr
      have R4 : Row w0 B dk ((wr.setCell ⟨X, 0, none⟩ (.int .u64 (rr : Int))).drewN 3) := ((R2.newCell hX0 (.int .u64 (rr : Int))).drew).drew.drew
      have c4 : ((wr.setCell ⟨X, 0, none⟩ (.int .u64 (rr : Int))).drewN 3).cell? ⟨X, 0, none⟩ = some (.int .u64 (rr : Int)) := World.cell?_setCell_same' _ _ _ (by rw [c2]; rfl)
      have f4 : ((wr.setCell ⟨X, 0, none⟩ (.int .u64 (rr : Int))).drewN 3).frozen? ⟨X, 0, none⟩ = false := by rw [World.frozen?_drewN, World.frozen?_setCell]; exact f2
      clear R2 c2 f2 hr
      generalize (wr.setCell ⟨X, 0, none⟩ (.int .u64 (rr : Int))).drewN 3 = w2 at R4 c4 f4 ⊢
      by_cases hLO : L ≤ O
      · have eO := EO.out
        obtain ⟨O', hO'⟩ : ∃ O', O - L = O' := ⟨_, rfl⟩
        have HO' : Hid (O' + L = O ∧ O' < L) := by have h1 := HF.out; have h2 := HO.out; show _ ∧ _; clear eAnd eO m2 m3 m4 m5 m7 m8; omega
        have oz : (L : Int) ≤ (O : Int) := Int.ofNat_le.2 hLO
        have zo : (O : Int) - (L : Int) = (O' : Int) := by have h2 := HO'.out; clear eAnd eO m2 m3 m4 m5 m7 m8; omega
        have lo : O' ≤ 4000000 := by have h2 := HO'.out; have h1 := HF.out; clear eAnd eO m2 m3 m4 m5 m7 m8; omega
        have mo := w64_of zo lo
        clear zo lo hO'
        obtain ⟨p, hp⟩ : ∃ p, a + O' = p := ⟨_, rfl⟩
        have HP : Hid (a + O' = p) := hp
        clear hp hLO
        have HPP : Hid (a ≤ p ∧ p < b) := by have h1 := HP.out; have h2 := HO'.out; have h3 := HF.out; show _ ∧ _; clear eAnd eO m2 m3 m4 m5 m7 m8; clear mo; omega
        have zp : (a : Int) + (O' : Int) = (p : Int) := by have h1 := HP.out; clear eAnd eO m2 m3 m4 m5 m7 m8; clear mo; omega
        have lp : p ≤ 4000000 := by have h1 := HPP.out; have h2 := HB.out; clear eAnd eO m2 m3 m4 m5 m7 m8; clear mo; omega
        obtain ⟨t', ht'⟩ : ∃ t', t + 1 = t' := ⟨_, rfl⟩
        have HN : Hid (t + 1 = t') := ht'
        have zt : (t : Int) + 1 = (t' : Int) := by clear eAnd eO m2 m3 m4 m5 m7 m8; clear mo; omega
        have lt' : t' ≤ 4000000 := by have h1 := HL.out; have h2 := HF.out; have h3 := HB.out; clear eAnd eO m2 m3 m4 m5 m7 m8; clear mo; omega
        have q0 : a ≤ t ∧ t < b := by have h1 := HL.out; have h2 := HF.out; have h3 := HT.out; clear eAnd eO m2 m3 m4 m5 m7 m8; clear mo; omega
        have q1 : t < dk.size := by have h1 := HT.out; have h2 := HB.out; clear eAnd eO m2 m3 m4 m5 m7 m8; clear mo; omega
        have q2 : p < dk.size := by have h1 := HPP.out; have h2 := HB.out; have h3 := HT.out; clear eAnd eO m2 m3 m4 m5 m7 m8; clear mo; omega
        have i1 : (t : Int) < (d.size : Int) := by rw [← HT.out.2.2]; exact Int.ofNat_lt.2 q1
        have i2 : (p : Int) < (d.size : Int) := by rw [← HT.out.2.2]; exact Int.ofNat_lt.2 q2
        have hpm2 : Hid (PermIn a b d (swp dk t p)) := permIn_trans _ _ _ _ _ hpm.out (swp_permIn dk a b t p q0.1 q0.2 HPP.out.1 HPP.out.2 (by rw [HT.out.2.2]; exact HB.out.1))
        have mpa := w64i_of zp lp
        have mpb := w64_of zp lp
        have mta := w64i_of zt lt'
        have mtb := w64_of zt lt'
        clear zp lp zt lt' ht' q0
        obtain ⟨u, hu⟩ : ∃ u, dk[t]! = u := ⟨_, rfl⟩
        obtain ⟨v, hv⟩ : ∃ v, dk[p]! = v := ⟨_, rfl⟩
        have c1 := R4.cell t q1
        have c3 := R4.cell p q2
        have f1 := R4.frozen t q1
        have f3 := R4.frozen p q2
        obtain ⟨u3, c5⟩ := R4.c2 (i := t) (j := p) q1 q2 (.int .i64 (((v : Fin (n + 1)) : Nat) : Int))
        have R6 := (R4.swap (i := t) (j := p) q1 q2 hu hv).drew
        have k1 : ((w2.setCell ⟨B, t, none⟩ (.int .i64 ((v : Nat) : Int))).setCell ⟨B, p, none⟩ (.int .i64 ((u : Nat) : Int))).drew.cell? ⟨X, 0, none⟩ = some (.int .u64 (rr : Int)) :=
          (World.cell?_setCell_other _ ⟨B, p, none⟩ ⟨X, 0, none⟩ _ (by intro e; injection e with e1 _; exact hXB e1.symm)).trans ((World.cell?_setCell_other _ ⟨B, t, none⟩ ⟨X, 0, none⟩ _ (by intro e; injection e with e1 _; exact hXB e1.symm)).trans c4)
        have k2 : ((w2.setCell ⟨B, t, none⟩ (.int .i64 ((v : Nat) : Int))).setCell ⟨B, p, none⟩ (.int .i64 ((u : Nat) : Int))).drew.frozen? ⟨X, 0, none⟩ = false := by
          show World.frozen? (World.setCell _ _ _) _ = _
          rw [World.frozen?_setCell, World.frozen?_setCell]; exact f4
        rw [hu] at c1
        rw [hv] at c3
        clear R4 q1 q2 hu hv
        go_wp2_with fail
        go_big_region_o
        clear c1 c3 c5 f1 f3 u3 c4 f4
        generalize (w2.setCell ⟨B, t, none⟩ _).setCell ⟨B, p, none⟩ _ = wz at R6 k1 k2 ⊢
        generalize World.drew wz = w5 at R6 k1 k2 ⊢
        clear wz
        go_wp2_with fail
        go_roundw
        case rel => exact ⟨t', rr, swp dk t p, rfl, by have h1 := HT.out; have h2 := HN.out; have h3 := HL.out; have h4 := HF.out; rw [swp_size]; clear mpa mpb mta mtb; clear eAnd eO m2 m3 m4 m5 m7 m8; clear mo; omega, hpm2, R6, k1, k2, HRR.out⟩
        case measure => simp [intOf]; have h1 := HN.out; have h2 := HL.out; have h4 := HF.out; clear mpa mpb mta mtb; clear eAnd eO m2 m3 m4 m5 m7 m8; clear mo; omega
      · have eO := EO.out
        have oz : decide ((L : Int) ≤ (O : Int)) = false := decide_eq_false (fun h => hLO (Int.ofNat_le.1 h))
        have on : (L ≤ O) = False := eq_false hLO
        have oi : ((L : Int) ≤ (O : Int)) = False := eq_false (fun h => hLO (Int.ofNat_le.1 h))
        have HO' : Hid (O < L) := Nat.not_le.1 hLO
        obtain ⟨p, hp⟩ : ∃ p, a + O = p := ⟨_, rfl⟩
        have HP : Hid (a + O = p) := hp
        clear hp hLO
        have HPP : Hid (a ≤ p ∧ p < b) := by have h1 := HP.out; have h2 := HO'.out; have h3 := HF.out; show _ ∧ _; clear eAnd eO m2 m3 m4 m5 m7 m8; omega
        have zp : (a : Int) + (O : Int) = (p : Int) := by have h1 := HP.out; clear eAnd eO m2 m3 m4 m5 m7 m8; omega
        have lp : p ≤ 4000000 := by have h1 := HPP.out; have h2 := HB.out; clear eAnd eO m2 m3 m4 m5 m7 m8; omega
        obtain ⟨t', ht'⟩ : ∃ t', t + 1 = t' := ⟨_, rfl⟩
        have HN : Hid (t + 1 = t') := ht'
        have zt : (t : Int) + 1 = (t' : Int) := by clear eAnd eO m2 m3 m4 m5 m7 m8; omega
        have lt' : t' ≤ 4000000 := by have h1 := HL.out; have h2 := HF.out; have h3 := HB.out; clear eAnd eO m2 m3 m4 m5 m7 m8; omega
        have q0 : a ≤ t ∧ t < b := by have h1 := HL.out; have h2 := HF.out; have h3 := HT.out; clear eAnd eO m2 m3 m4 m5 m7 m8; omega
        have q1 : t < dk.size := by have h1 := HT.out; have h2 := HB.out; clear eAnd eO m2 m3 m4 m5 m7 m8; omega
        have q2 : p < dk.size := by have h1 := HPP.out; have h2 := HB.out; have h3 := HT.out; clear eAnd eO m2 m3 m4 m5 m7 m8; omega
        have i1 : (t : Int) < (d.size : Int) := by rw [← HT.out.2.2]; exact Int.ofNat_lt.2 q1
        have i2 : (p : Int) < (d.size : Int) := by rw [← HT.out.2.2]; exact Int.ofNat_lt.2 q2
        have hpm2 : Hid (PermIn a b d (swp dk t p)) := permIn_trans _ _ _ _ _ hpm.out (swp_permIn dk a b t p q0.1 q0.2 HPP.out.1 HPP.out.2 (by rw [HT.out.2.2]; exact HB.out.1))
        have mpa := w64i_of zp lp
        have mpb := w64_of zp lp
        have mta := w64i_of zt lt'
        have mtb := w64_of zt lt'
        clear zp lp zt lt' ht' q0
        obtain ⟨u, hu⟩ : ∃ u, dk[t]! = u := ⟨_, rfl⟩
        obtain ⟨v, hv⟩ : ∃ v, dk[p]! = v := ⟨_, rfl⟩
        have c1 := R4.cell t q1
        have c3 := R4.cell p q2
        have f1 := R4.frozen t q1
        have f3 := R4.frozen p q2
        obtain ⟨u3, c5⟩ := R4.c2 (i := t) (j := p) q1 q2 (.int .i64 (((v : Fin (n + 1)) : Nat) : Int))
        have R6 := (R4.swap (i := t) (j := p) q1 q2 hu hv).drew
        have k1 : ((w2.setCell ⟨B, t, none⟩ (.int .i64 ((v : Nat) : Int))).setCell ⟨B, p, none⟩ (.int .i64 ((u : Nat) : Int))).drew.cell? ⟨X, 0, none⟩ = some (.int .u64 (rr : Int)) :=
          (World.cell?_setCell_other _ ⟨B, p, none⟩ ⟨X, 0, none⟩ _ (by intro e; injection e with e1 _; exact hXB e1.symm)).trans ((World.cell?_setCell_other _ ⟨B, t, none⟩ ⟨X, 0, none⟩ _ (by intro e; injection e with e1 _; exact hXB e1.symm)).trans c4)
        have k2 : ((w2.setCell ⟨B, t, none⟩ (.int .i64 ((v : Nat) : Int))).setCell ⟨B, p, none⟩ (.int .i64 ((u : Nat) : Int))).drew.frozen? ⟨X, 0, none⟩ = false := by
          show World.frozen? (World.setCell _ _ _) _ = _
          rw [World.frozen?_setCell, World.frozen?_setCell]; exact f4
        rw [hu] at c1
        rw [hv] at c3
        clear R4 q1 q2 hu hv
        go_wp2_with fail
        go_big_region_o
        clear c1 c3 c5 f1 f3 u3 c4 f4
        generalize (w2.setCell ⟨B, t, none⟩ _).setCell ⟨B, p, none⟩ _ = wz at R6 k1 k2 ⊢
        generalize World.drew wz = w5 at R6 k1 k2 ⊢
        clear wz
        go_wp2_with fail
        go_roundw
        case rel => exact ⟨t', rr, swp dk t p, rfl, by have h1 := HT.out; have h2 := HN.out; have h3 := HL.out; have h4 := HF.out; rw [swp_size]; clear mpa mpb mta mtb; clear eAnd eO m2 m3 m4 m5 m7 m8; omega, hpm2, R6, k1, k2, HRR.out⟩
        case measure => simp [intOf]; have h1 := HN.out; have h2 := HL.out; have h4 := HF.out; clear mpa mpb mta mtb; clear eAnd eO m2 m3 m4 m5 m7 m8; omega
    · have hlez : ¬ (t : Int) ≤ (I1 : Int) := by clear m2 m3 m4 m5 m7 m8; omega
      go_wp2_with fail
      go_end0
      exact ⟨rfl, dk, hpm.out, R2⟩
end
end Go.Proofs.Ytinmhjgnapbkmaa
