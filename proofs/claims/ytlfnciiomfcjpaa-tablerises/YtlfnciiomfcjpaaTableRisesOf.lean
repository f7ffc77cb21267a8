/- The walk of TableRises, over whatever code does as TabIf says. -/
import Derived.Test.YtlfnciiomfcjpaaTabIf
import Derived.Test.YtlfnciiomfcjpaaTabFacts
namespace Go.Proofs.Ytlfnciiomfcjpaa.tableRises
open Go.ChangeShapes Go.WideShapes Go.ChangeAt Go.RowKit Pk Tb R
set_option linter.unusedVariables false
set_option linter.unusedSimpArgs false

set_option maxRecDepth 100000 in
theorem walk_long (C : TCode) (a : Option Addr) (c : Nat) (l : List Rl) (a2 : Option Addr) (c2 : Nat) (tags : List Int) (m : Int) (w : World) (R : Rds fR 6 w a c l) (R2 : Reads .i64 w a2 c2 tags) (h : 60 < l.length) :
    Calls Try.prog 9 #[.slice a l.length c, .slice a2 tags.length c2, .int .i64 m] w fun e w' => e = .returned (.bool true) ∧ Below w.heap.size w w' := by
  have hmx := Nat.le_trans R.le R.max
  unfold maxLen at hmx
  go_enter Try.func9, Try.ntmps9
  go_wp2_with fail
  refine (tawake_any C _).mono ?_
  rintro e w1 ⟨rfl, hb1⟩
  go_wp2_with fail
  go_ret
  exact ⟨rfl, hb1⟩
set_option maxRecDepth 100000 in
theorem walk_few (C : TCode) (a : Option Addr) (c : Nat) (l : List Rl) (a2 : Option Addr) (c2 : Nat) (tags : List Int) (m : Int) (w : World) (R : Rds fR 6 w a c l) (R2 : Reads .i64 w a2 c2 tags) (h : l.length ≤ 60) (h2 : tags.length < l.length) :
    Calls Try.prog 9 #[.slice a l.length c, .slice a2 tags.length c2, .int .i64 m] w fun e w' => e = .returned (.bool true) ∧ Below w.heap.size w w' := by
  have hlz : decide ((60 : Int) < (l.length : Int)) = false := decide_eq_false (by omega)
  have htz : decide ((tags.length : Int) < (l.length : Int)) = true := decide_eq_true (by omega)
  go_enter Try.func9, Try.ntmps9
  go_wp2_with fail
  refine (tawake_any C _).mono ?_
  rintro e w1 ⟨rfl, hb1⟩
  go_wp2_with fail
  go_ret
  exact ⟨rfl, hb1⟩
set_option maxRecDepth 100000 in
set_option maxHeartbeats 4000000 in
theorem walk_yes (C : TCode) (a : Option Addr) (c : Nat) (l : List Rl) (a2 : Option Addr) (c2 : Nat) (tags : List Int) (m : Int) (w : World) (R : Rds fR 6 w a c l) (R2 : Reads .i64 w a2 c2 tags) (h : l.length ≤ 60) (h2 : l.length ≤ tags.length) :
    Calls Try.prog 9 #[.slice a l.length c, .slice a2 tags.length c2, .int .i64 m] w fun e w' => e = .returned (.bool true) ∧ Below w.heap.size w w' := by
  have hlz : decide ((60 : Int) < (l.length : Int)) = false := decide_eq_false (by omega)
  have htz : decide ((tags.length : Int) < (l.length : Int)) = false := decide_eq_false (by omega)
  have htn : decide (tags.length < l.length) = false := decide_eq_false (by omega)
  have htp : (tags.length < l.length) = False := eq_false (by omega)
  have HL : Hid (l.length ≤ 60) := h
  have HT : Hid (l.length ≤ tags.length) := h2
  clear h h2
  go_enter Try.func9, Try.ntmps9
  go_wp2_with fail
  refine (tawake_any C _).mono ?_
  rintro e w1 ⟨rfl, hb1⟩
  have Ra := R.later hb1
  have Rb := R2.later hb1
  clear R R2
  go_wp2_with fail
  go_loopw [9, 8] (fun vi vt wr => ∃ (i : Nat) (T : List Vr) (x : Option Addr) (k : Nat), vi = .int .i64 (i : Nat) ∧ vt = .slice x T.length k ∧ Hid (i ≤ l.length ∧ Bd i i T ∧ Tb.Good T) ∧ Vers 0 wr x k T ∧ Below w1.heap.size w1 wr) (fun vi _ _ => l.length - (intOf vi).toNat)
  case atStart => exact ⟨0, [], none, 0, rfl, rfl, ⟨Nat.zero_le _, ⟨Nat.le_refl _, fun v hv => by cases hv⟩, good_nil⟩, Vers.empty _ _, Below.refl _ _⟩
  case round =>
    obtain ⟨i, T, x, kc, rfl, rfl, HI, VT, hbr⟩ := hrel
    by_cases hlt : i < l.length
    · have hiz : (i : Int) < (l.length : Int) := Int.ofNat_lt.2 hlt
      have hit : i < tags.length := Nat.lt_of_lt_of_le hlt HT.out
      have hitz : (i : Int) < (tags.length : Int) := Int.ofNat_lt.2 hit
      have HIL : Hid (i < l.length) := hlt
      have hi60 : i ≤ 60 := Nat.le_trans (Nat.le_of_lt hlt) HL.out
      have gi := getD_at hlt
      have hwr : Hid (∀ z ∈ fR (l.getD i default), (Lit.int .i64 z).wf = true) := Ra.wf _ (List.mem_of_getElem? gi)
      generalize l.getD i default = r at gi hwr
      obtain ⟨ra, rn, ri, rp, rk, rt⟩ := r
      obtain ⟨b1, o1, rfl, hl1, hc1⟩ := (Ra.later hbr).at gi
      have gt : tags[i]? = some (tags.getD i 0) := by rw [List.getD_eq_getElem?_getD, List.getElem?_eq_getElem hit]; rfl
      generalize tags.getD i 0 = t at gt
      obtain ⟨b2, o2, rfl, hl2, hc2⟩ := reads_at (Rb.later hbr) (by intro h0; rw [h0] at hit; exact absurd hit (Nat.not_lt_zero _))
      have y0 := hc2 i t gt
      have z0 := hc1 0 _ rfl
      have z1 := hc1 1 _ rfl
      have z2 := hc1 2 _ rfl
      have z3 := hc1 3 _ rfl
      have z4 := hc1 4 _ rfl
      have z5 := hc1 5 _ rfl
      rw [Nat.add_zero] at z0
      have HC8 : Hid (∀ j z, tags[j]? = some z → wr.cell? ⟨b2, o2 + j, none⟩ = some (.int .i64 z)) := hc2
      clear hc1 hc2 hlt hit
      have HSM : Hid (Sm T) := sm_bd HI.out.2.1 (by omega) (by omega)
      have HI2 : Hid (Bd (i + 1) (i + 1) (putT T t ⟨ra, rn, ri, rp, rk, rt⟩ m).1 ∧ Tb.Good (putT T t ⟨ra, rn, ri, rp, rk, rt⟩ m).1) := ⟨put_bd HI.out.2.1, put_good HI.out.2.2⟩
      have S0 : Below wr.heap.size wr wr.drew := (Below.refl _ _).drew
      go_wp2_with fail
      refine wp_region_noPanic ?_
      refine wp_region_held_drew (S := fun w' => Below wr.heap.size wr w') (by kernel_rfl) S0 (fun hH => ?_)
      clear S0
      refine wpAnyH_take (i := 0) (oi := { dst := some 36, op := _, type := _, pos := _, after := _, guard := _ }) (v := ?_) rfl (by kernel_rfl) (by kernel_rfl) (by kernel_rfl) (fun _ _ _ h => h) (Or.inl ⟨by rfl, ?_⟩) hH ?_
      rotate_left
      · intro wz hSw
        (try dsimp only at hSw)
        first | (go_simp; done) | (go_simp; with_reducible rfl)
      try simp only [Act.put, List.setIfInBounds_toArray, List.set_cons_zero, List.set_cons_succ]
      refine wpAnyH_take (i := 1) (oi := { dst := some 37, op := _, type := _, pos := _, after := _, guard := _ }) (v := ?_) rfl (by kernel_rfl) (by kernel_rfl) (by kernel_rfl) (fun _ _ _ h => h) (Or.inl ⟨by rfl, ?_⟩) hH ?_
      rotate_left
      · intro wz hSw
        (try dsimp only at hSw)
        first | (go_simp; done) | (go_simp; with_reducible rfl)
      try simp only [Act.put, List.setIfInBounds_toArray, List.set_cons_zero, List.set_cons_succ]
      refine wpAnyH_take (i := 2) (oi := { dst := some 38, op := _, type := _, pos := _, after := _, guard := _ }) (v := ?_) rfl (by kernel_rfl) (by kernel_rfl) (by kernel_rfl) (fun _ _ _ h => h) (Or.inl ⟨by rfl, ?_⟩) hH ?_
      rotate_left
      · intro wz hSw
        (try dsimp only at hSw)
        first | (go_simp; done) | (go_simp; with_reducible rfl)
      try simp only [Act.put, List.setIfInBounds_toArray, List.set_cons_zero, List.set_cons_succ]
      refine wpAnyH_take (i := 3) (oi := { dst := some 39, op := _, type := _, pos := _, after := _, guard := _ }) (v := ?_) rfl (by kernel_rfl) (by kernel_rfl) (by kernel_rfl) (fun _ _ _ h => h) (Or.inl ⟨by rfl, ?_⟩) hH ?_
      rotate_left
      · intro wz hSw
        (try dsimp only at hSw)
        first | (go_simp; done) | (go_simp; with_reducible rfl)
      try simp only [Act.put, List.setIfInBounds_toArray, List.set_cons_zero, List.set_cons_succ]
      refine wpAnyH_take (i := 4) (oi := { dst := some 40, op := _, type := _, pos := _, after := _, guard := _ }) (v := ?_) rfl (by kernel_rfl) (by kernel_rfl) (by kernel_rfl) (fun _ _ _ h => h) (Or.inl ⟨by rfl, ?_⟩) hH ?_
      rotate_left
      · intro wz hSw
        (try dsimp only at hSw)
        have zy := (hSw.cell (p := ⟨b2, o2 + i, none⟩) hl2).trans y0
        first | (go_simp; done) | (go_simp; with_reducible rfl)
      try simp only [Act.put, List.setIfInBounds_toArray, List.set_cons_zero, List.set_cons_succ]
      refine wpAnyH_take (i := 5) (oi := { dst := some 41, op := _, type := _, pos := _, after := _, guard := _ }) (v := ?_) rfl (by kernel_rfl) (by kernel_rfl) (by kernel_rfl) (fun _ _ _ h => h) (Or.inl ⟨by rfl, ?_⟩) hH ?_
      rotate_left
      · intro wz hSw
        (try dsimp only at hSw)
        first | (go_simp; done) | (go_simp; with_reducible rfl)
      try simp only [Act.put, List.setIfInBounds_toArray, List.set_cons_zero, List.set_cons_succ]
      refine wpAnyH_take (i := 6) (oi := { dst := some 42, op := _, type := _, pos := _, after := _, guard := _ }) (v := ?_) rfl (by kernel_rfl) (by kernel_rfl) (by kernel_rfl) (fun _ _ _ h => h) (Or.inl ⟨by rfl, ?_⟩) hH ?_
      rotate_left
      · intro wz hSw
        (try dsimp only at hSw)
        first | (go_simp; done) | (go_simp; with_reducible rfl)
      try simp only [Act.put, List.setIfInBounds_toArray, List.set_cons_zero, List.set_cons_succ]
      refine wpAnyH_take (i := 7) (oi := { dst := some 43, op := _, type := _, pos := _, after := _, guard := _ }) (v := ?_) rfl (by kernel_rfl) (by kernel_rfl) (by kernel_rfl) (fun _ _ _ h => h) (Or.inl ⟨by rfl, ?_⟩) hH ?_
      rotate_left
      · intro wz hSw
        (try dsimp only at hSw)
        first | (go_simp; done) | (go_simp; with_reducible rfl)
      try simp only [Act.put, List.setIfInBounds_toArray, List.set_cons_zero, List.set_cons_succ]
      refine wpAnyH_take (i := 8) (oi := { dst := some 44, op := _, type := _, pos := _, after := _, guard := _ }) (v := ?_) rfl (by kernel_rfl) (by kernel_rfl) (by kernel_rfl) (fun _ _ _ h => h) (Or.inl ⟨by rfl, ?_⟩) hH ?_
      rotate_left
      · intro wz hSw
        (try dsimp only at hSw)
        have zz0 := (hSw.cell (p := ⟨b1, o1 + i * 6, none⟩) hl1).trans z0
        have zz1 := (hSw.cell (p := ⟨b1, o1 + i * 6 + 1, none⟩) hl1).trans z1
        have zz2 := (hSw.cell (p := ⟨b1, o1 + i * 6 + 2, none⟩) hl1).trans z2
        have zz3 := (hSw.cell (p := ⟨b1, o1 + i * 6 + 3, none⟩) hl1).trans z3
        have zz4 := (hSw.cell (p := ⟨b1, o1 + i * 6 + 4, none⟩) hl1).trans z4
        have zz5 := (hSw.cell (p := ⟨b1, o1 + i * 6 + 5, none⟩) hl1).trans z5
        first | (go_simp; done) | (go_simp; with_reducible rfl)
      try simp only [Act.put, List.setIfInBounds_toArray, List.set_cons_zero, List.set_cons_succ]
      refine wpAnyH_take (i := 9) (oi := { dst := some 45, op := _, type := _, pos := _, after := _, guard := _ }) (v := ?_) rfl (by kernel_rfl) (by kernel_rfl) (by kernel_rfl) (fun _ _ _ h => h) (Or.inl ⟨by rfl, ?_⟩) hH ?_
      rotate_left
      · intro wz hSw
        (try dsimp only at hSw)
        first | (go_simp; done) | (go_simp; with_reducible rfl)
      try simp only [Act.put, List.setIfInBounds_toArray, List.set_cons_zero, List.set_cons_succ]
      refine wpAnyH_ready (rs := [10]) (by kernel_rfl) (by simp) ?_
      refine AllReadyH.cons (o := { dst := some 46, op := _, type := _, pos := _, after := _, guard := _ }) rfl (fun K hK => ?_) AllReadyH.nil
      go_simp
      refine (C.put _ (VT.later hH) HSM.out t m ra rn ri rp rk rt hwr.out).mono ?_
      rintro e wq10 ⟨x9, k9, rfl, VQ, hbq⟩
      go_wp2_with fail
      refine hK.out _ _ (kept_w hH hbq) (fun hH2 => ?_)
      clear hK K hH hbq
      have hH := hH2
      clear hH2
      try simp only [Act.put, List.setIfInBounds_toArray, List.set_cons_zero, List.set_cons_succ]
      refine wpAnyH_take (i := 11) (oi := { dst := some 35, op := _, type := _, pos := _, after := _, guard := _ }) (v := ?_) rfl (by kernel_rfl) (by kernel_rfl) (by kernel_rfl) (fun _ _ _ h => h) (Or.inl ⟨by rfl, ?_⟩) hH ?_
      rotate_left
      · intro wz hSw
        (try dsimp only at hSw)
        first | (go_simp; done) | (go_simp; with_reducible rfl)
      try simp only [Act.put, List.setIfInBounds_toArray, List.set_cons_zero, List.set_cons_succ]
      refine wpAnyH_take (i := 12) (oi := { dst := some 47, op := _, type := _, pos := _, after := _, guard := _ }) (v := ?_) rfl (by kernel_rfl) (by kernel_rfl) (by kernel_rfl) (fun _ _ _ h => h) (Or.inl ⟨by rfl, ?_⟩) hH ?_
      rotate_left
      · intro wz hSw
        (try dsimp only at hSw)
        first | (go_simp; done) | (go_simp; with_reducible rfl)
      try simp only [Act.put, List.setIfInBounds_toArray, List.set_cons_zero, List.set_cons_succ]
      refine wpAnyH_take (i := 13) (oi := { dst := some 48, op := _, type := _, pos := _, after := _, guard := _ }) (v := ?_) rfl (by kernel_rfl) (by kernel_rfl) (by kernel_rfl) (fun _ _ _ h => h) (Or.inl ⟨by rfl, ?_⟩) hH ?_
      rotate_left
      · intro wz hSw
        (try dsimp only at hSw)
        first | (go_simp; done) | (go_simp; with_reducible rfl)
      try simp only [Act.put, List.setIfInBounds_toArray, List.set_cons_zero, List.set_cons_succ]
      refine wpAnyH_take (i := 14) (oi := { dst := some 10, op := _, type := _, pos := _, after := _, guard := _ }) (v := ?_) rfl (by kernel_rfl) (by kernel_rfl) (by kernel_rfl) (fun _ _ _ h => h) (Or.inl ⟨by rfl, ?_⟩) hH ?_
      rotate_left
      · intro wz hSw
        (try dsimp only at hSw)
        first | (go_simp; done) | (go_simp; with_reducible rfl)
      try simp only [Act.put, List.setIfInBounds_toArray, List.set_cons_zero, List.set_cons_succ]
      refine wpAnyH_take (i := 15) (oi := { dst := some 11, op := _, type := _, pos := _, after := _, guard := _ }) (v := ?_) rfl (by kernel_rfl) (by kernel_rfl) (by kernel_rfl) (fun _ _ _ h => h) (Or.inl ⟨by rfl, ?_⟩) hH ?_
      rotate_left
      · intro wz hSw
        (try dsimp only at hSw)
        first | (go_simp; done) | (go_simp; with_reducible rfl)
      try simp only [Act.put, List.setIfInBounds_toArray, List.set_cons_zero, List.set_cons_succ]
      refine wpAnyH_done (by kernel_rfl) ?_ _
      refine NoPanic.normal ?_
      have hbC := below_step hbr hH
      have HC9 : Hid (∀ j z, tags[j]? = some z → wq10.cell? ⟨b2, o2 + j, none⟩ = some (.int .i64 z)) := fun j z hz => (hH.cell (p := ⟨b2, o2 + j, none⟩) hl2).trans (HC8.out j z hz)
      clear HC8
      replace VQ := VQ.low (Nat.zero_le _)
      clear z0 z1 z2 z3 z4 z5 y0 VT HI HSM hH hbr
      generalize putT T t ⟨ra, rn, ri, rp, rk, rt⟩ m = q at VQ HI2 ⊢
      obtain ⟨T2, E⟩ := q
      dsimp only at VQ HI2 ⊢
      by_cases hmod : (i : Int) % 5 = 4
      · have hmb : ((i : Int) % 5 == 4) = true := by simpa using hmod
        have hi1 : i - 1 < tags.length := by have h := HIL.out; have h2 := HT.out; omega
        have hi1z : ((i : Int) - 1) < (tags.length : Int) := by omega
        have hi1p : 1 ≤ i := by omega
        have y9 := HC9.out (i - 1) (tags.getD (i - 1) 0) (by rw [List.getD_eq_getElem?_getD, List.getElem?_eq_getElem hi1]; rfl)
        generalize tags.getD (i - 1) 0 = t9 at y9
        have cD := C.drop wq10 VQ (sm_bd HI2.out.1 (by omega) (by omega)) t9
        clear hmod hi1
        go_wp2_with fail
        refine cD.mono ?_
        clear cD
        rintro e wd ⟨x8, k8, rfl, VD, hb⟩
        have HI3 : Hid (Bd (i + 1) (i + 1) (dropT T2 t9) ∧ Tb.Good (dropT T2 t9)) := ⟨drop_bd HI2.out.1, drop_good HI2.out.2⟩
        replace hbC := below_step hbC hb
        replace VD := VD.low (Nat.zero_le _)
        clear y9 VQ hb HI2
        generalize dropT T2 t9 = T3 at VD HI3 ⊢
        have hT61 : T3.length ≤ 61 := by have h := HI3.out.1.1; omega
        go_wp2_with fail
        go_loopw [12] (fun vk wr => ∃ k : Nat, vk = .int .i64 (k : Nat) ∧ Hid (k ≤ T3.length) ∧ Below wd.heap.size wd wr) (fun vk _ => T3.length - (intOf vk).toNat)
        case atStart => exact ⟨0, rfl, Nat.zero_le _, Below.refl _ _⟩
        case round =>
          obtain ⟨k, rfl, HK, hbk⟩ := hrel
          by_cases hlk : k < T3.length
          · have hkz : (k : Int) < (T3.length : Int) := Int.ofNat_lt.2 hlk
            have hk61 : k ≤ 61 := Nat.le_trans (Nat.le_of_lt hlk) hT61
            have HKL : Hid (k < T3.length) := hlk
            have gk := getD_atV hlk
            obtain ⟨hne, hup⟩ := good_at HI3.out.2 hlk
            have hne0 : (T3.getD k default).l.length ≠ 0 := fun e => hne (List.eq_nil_of_length_eq_zero e)
            obtain ⟨bk, ok, xk, ck, ek, hlk2, g0, g1, Rk, -⟩ := (VD.later hbk).at gk
            cases ek
            have hlm := Nat.le_trans Rk.le Rk.max
            unfold maxLen at hlm
            rcases Nat.eq_zero_or_pos k with h0 | h0
            · subst h0
              generalize T3.getD 0 default = v at g0 g1 hne0 hlm
              have hnb : ((v.l.length : Int) == 0) = false := by simpa using hne0
              rw [show ((0 : Nat) : Int) = 0 from rfl]
              simp only [Nat.zero_mul, Nat.add_zero] at g0 g1
              clear hup hne Rk gk hlk
              go_wp2_with fail
              go_quiet (fail)
              go_wp2_with fail
              go_roundw
              case rel => exact ⟨1, by go_num, HKL.out, hbk.trans (below_draws _ _ _)⟩
              case measure => have h := HKL.out; simp [intOf]; omega
            · have gp := getD_atV (show k - 1 < T3.length by omega)
              obtain ⟨bk2, ok2, xk2, ck2, ek2, -, p0, -, -, -⟩ := (VD.later hbk).at gp
              cases ek2
              have hlt2 := hup h0
              generalize T3.getD k default = v at g0 g1 hne0 hlt2 hlm
              generalize T3.getD (k - 1) default = u at p0 hlt2
              have hnb : ((v.l.length : Int) == 0) = false := by simpa using hne0
              have hleb : decide (v.t ≤ u.t) = false := decide_eq_false (by omega)
              have hkp : decide ((0 : Int) < (k : Int)) = true := decide_eq_true (by omega)
              clear hup hne Rk gk gp hlk hlt2
              go_wp2_with fail
              go_quiet (fail)
              go_wp2_with fail
              go_roundw
              case rel => exact ⟨k + 1, by go_num, HKL.out, hbk.trans (below_draws _ _ _)⟩
              case measure => have h := HKL.out; simp [intOf]; omega
          · have hkz : ¬ (k : Int) < (T3.length : Int) := by omega
            have hke : k = T3.length := by have h := HK.out; omega
            have hbD := below_step hbC hbk
            have VL := VD.later hbk
            clear hlk hke hbk
            go_wp2_with fail
            go_roundw
            case rel => exact ⟨i + 1, T3, x8, k8, by go_num, rfl, ⟨HIL.out, HI3.out⟩, VL, hbD⟩
            case measure => have h := HIL.out; simp [intOf]; omega
      · have hmb : ((i : Int) % 5 == 4) = false := by simpa using hmod
        clear hmod HC9
        have hT61 : T2.length ≤ 61 := by have h := HI2.out.1.1; omega
        go_wp2_with fail
        go_loopw [12] (fun vk wr => ∃ k : Nat, vk = .int .i64 (k : Nat) ∧ Hid (k ≤ T2.length) ∧ Below wq10.heap.size wq10 wr) (fun vk _ => T2.length - (intOf vk).toNat)
        case atStart => exact ⟨0, rfl, Nat.zero_le _, Below.refl _ _⟩
        case round =>
          obtain ⟨k, rfl, HK, hbk⟩ := hrel
          by_cases hlk : k < T2.length
          · have hkz : (k : Int) < (T2.length : Int) := Int.ofNat_lt.2 hlk
            have hk61 : k ≤ 61 := Nat.le_trans (Nat.le_of_lt hlk) hT61
            have HKL : Hid (k < T2.length) := hlk
            have gk := getD_atV hlk
            obtain ⟨hne, hup⟩ := good_at HI2.out.2 hlk
            have hne0 : (T2.getD k default).l.length ≠ 0 := fun e => hne (List.eq_nil_of_length_eq_zero e)
            obtain ⟨bk, ok, xk, ck, ek, hlk2, g0, g1, Rk, -⟩ := (VQ.later hbk).at gk
            cases ek
            have hlm := Nat.le_trans Rk.le Rk.max
            unfold maxLen at hlm
            rcases Nat.eq_zero_or_pos k with h0 | h0
            · subst h0
              generalize T2.getD 0 default = v at g0 g1 hne0 hlm
              have hnb : ((v.l.length : Int) == 0) = false := by simpa using hne0
              rw [show ((0 : Nat) : Int) = 0 from rfl]
              simp only [Nat.zero_mul, Nat.add_zero] at g0 g1
              clear hup hne Rk gk hlk
              go_wp2_with fail
              go_quiet (fail)
              go_wp2_with fail
              go_roundw
              case rel => exact ⟨1, by go_num, HKL.out, hbk.trans (below_draws _ _ _)⟩
              case measure => have h := HKL.out; simp [intOf]; omega
            · have gp := getD_atV (show k - 1 < T2.length by omega)
              obtain ⟨bk2, ok2, xk2, ck2, ek2, -, p0, -, -, -⟩ := (VQ.later hbk).at gp
              cases ek2
              have hlt2 := hup h0
              generalize T2.getD k default = v at g0 g1 hne0 hlt2 hlm
              generalize T2.getD (k - 1) default = u at p0 hlt2
              have hnb : ((v.l.length : Int) == 0) = false := by simpa using hne0
              have hleb : decide (v.t ≤ u.t) = false := decide_eq_false (by omega)
              have hkp : decide ((0 : Int) < (k : Int)) = true := decide_eq_true (by omega)
              clear hup hne Rk gk gp hlk hlt2
              go_wp2_with fail
              go_quiet (fail)
              go_wp2_with fail
              go_roundw
              case rel => exact ⟨k + 1, by go_num, HKL.out, hbk.trans (below_draws _ _ _)⟩
              case measure => have h := HKL.out; simp [intOf]; omega
          · have hkz : ¬ (k : Int) < (T2.length : Int) := by omega
            have hke : k = T2.length := by have h := HK.out; omega
            have hbD := below_step hbC hbk
            have VL := VQ.later hbk
            clear hlk hke hbk
            go_wp2_with fail
            go_roundw
            case rel => exact ⟨i + 1, T2, x9, k9, by go_num, rfl, ⟨HIL.out, HI2.out⟩, VL, hbD⟩
            case measure => have h := HIL.out; simp [intOf]; omega
    · have hiz : ¬ (i : Int) < (l.length : Int) := by omega
      clear hlt
      go_wp2_with fail
      go_ret
      exact ⟨rfl, below_step hb1 hbr⟩

end Go.Proofs.Ytlfnciiomfcjpaa.tableRises
