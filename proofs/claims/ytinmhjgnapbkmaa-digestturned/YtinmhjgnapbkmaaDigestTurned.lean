/- Proved: for all tags, rules and numbers the call DigestTurned(tag, l, by) returns true and leaves l as it was (of more than 60 rules, and of a number that is no place in l, nothing is asked). -/
import Derived.Test.YtinmhjgnapbkmaaDigAwake
import Derived.Test.YtinmhjgnapbkmaaPickTurn
import Derived.Test.YtinmhjgnapbkmaaPickAll
import Derived.Lib.SmallJoins
namespace Go.Proofs.Ytinmhjgnapbkmaa.digestTurned
open Go.ChangeShapes Go.WideShapes Go.ChangeAt Go.RowKit O Dg Pk Tb R
set_option linter.unusedVariables false
set_option linter.unusedSimpArgs false

theorem infoR8 : (Try.prog.info? 35).map (fun i => (i.zero, i.size, i.bytes)) = some (some (.agg #[.int .i64 0, .int .i64 0, .int .i64 0, .int .i64 0, .int .i64 0, .int .i64 0]), 6, 48) := by kernel_rfl
theorem rds_drop2 {α : Type} {f : α → List Int} {sz : Nat} {w : World} {x0 : Addr} {c : Nat} {l : List α} (h : Rds f sz w (some x0) c l) (n : Nat) (hn : n ≤ l.length) : Rds f sz w (if c = n then some x0 else some (x0.add (n * sz))) (c - n) (l.drop n) := by
  have hle := h.le
  refine ⟨by rw [List.length_drop]; omega, Nat.le_trans (Nat.sub_le _ _) h.max, fun x hx => h.wf x (List.mem_of_mem_drop hx), fun e => (by split at e <;> cases e), fun hne => ?_⟩
  have hlt : n < l.length := by
    rcases Nat.lt_or_ge n l.length with h1 | h1
    · exact h1
    · exact absurd (List.drop_eq_nil_of_le h1) hne
  obtain ⟨b, o, e, hb, hc⟩ := h.cells (by intro h0; subst h0; simp at hlt)
  cases e
  rw [if_neg (by omega), Addr.add_lit]
  refine ⟨b, o + n * sz, rfl, hb, fun i x hx j y hy => ?_⟩
  have h1 := hc (n + i) x (by rw [← List.getElem?_drop]; exact hx) j y hy
  rw [Nat.add_mul, ← Nat.add_assoc o] at h1
  exact h1
theorem cbw {w : World} {b o j : Nat} {v : Value} (hl : b < w.heap.size) (h : w.cell? ⟨b, o + j, none⟩ = some v) : ∀ u : BW w, u.w.cell? ⟨b, o + j, none⟩ = some v := fun u => cell_bw (a := ⟨b, o + j, none⟩) hl h u
set_option maxRecDepth 100000 in
theorem walk_long (t : Int) (a : Option Addr) (c : Nat) (l : List Rl) (y : Int) (w : World) (R : Rds fR 6 w a c l) (hl : 60 < l.length) :
    Calls Try.prog 4 #[.int .i64 t, .slice a l.length c, .int .i64 y] w fun e w' => e = .returned (.bool true) ∧ Below w.heap.size w w' := by
  have hmx := Nat.le_trans R.le R.max
  unfold maxLen at hmx
  go_enter Try.func4, Try.ntmps4
  go_wp2_with fail
  refine (dawake_any _).mono ?_
  rintro e w1 ⟨rfl, hb1⟩
  go_wp2_with fail
  go_ret
  exact ⟨rfl, hb1⟩
set_option maxRecDepth 100000 in
theorem walk_low (t : Int) (a : Option Addr) (c : Nat) (l : List Rl) (y : Int) (w : World) (R : Rds fR 6 w a c l) (hl : l.length ≤ 60) (hy : y < 0) :
    Calls Try.prog 4 #[.int .i64 t, .slice a l.length c, .int .i64 y] w fun e w' => e = .returned (.bool true) ∧ Below w.heap.size w w' := by
  have hlz : decide ((60 : Int) < (l.length : Int)) = false := decide_eq_false (by omega)
  have hmx := Nat.le_trans R.le R.max
  unfold maxLen at hmx
  go_enter Try.func4, Try.ntmps4
  go_wp2_with fail
  refine (dawake_any _).mono ?_
  rintro e w1 ⟨rfl, hb1⟩
  go_wp2_with fail
  go_ret
  exact ⟨rfl, hb1⟩
set_option maxRecDepth 100000 in
theorem walk_high (t : Int) (a : Option Addr) (c : Nat) (l : List Rl) (y : Int) (w : World) (R : Rds fR 6 w a c l) (hl : l.length ≤ 60) (h0 : 0 ≤ y) (hy : (l.length : Int) < y) :
    Calls Try.prog 4 #[.int .i64 t, .slice a l.length c, .int .i64 y] w fun e w' => e = .returned (.bool true) ∧ Below w.heap.size w w' := by
  have hlz : decide ((60 : Int) < (l.length : Int)) = false := decide_eq_false (by omega)
  have h0z : decide (y < 0) = false := decide_eq_false (by omega)
  have hmx := Nat.le_trans R.le R.max
  unfold maxLen at hmx
  go_enter Try.func4, Try.ntmps4
  go_wp2_with fail
  refine (dawake_any _).mono ?_
  rintro e w1 ⟨rfl, hb1⟩
  go_wp2_with fail
  go_ret
  exact ⟨rfl, hb1⟩
set_option maxRecDepth 100000 in
set_option maxHeartbeats 4000000 in
theorem walk_none (t : Int) (w : World) :
    Calls Try.prog 4 #[.int .i64 t, .slice none 0 0, .int .i64 0] w fun e w' => e = .returned (.bool true) ∧ Below w.heap.size w w' := by
  go_enter Try.func4, Try.ntmps4
  go_wp2_with fail
  refine (dawake_any _).mono ?_
  rintro e w1 ⟨rfl, hb1⟩
  go_wp2_with fail
  go_loopw [8] (fun v wr => v = .int .i64 0 ∧ Below w1.heap.size w1 wr) (fun _ _ => 0)
  case atStart => exact ⟨rfl, Below.refl _ _⟩
  case round =>
    obtain ⟨rfl, hbr⟩ := hrel
    go_wp2_with fail
    have hb2 := below_step hb1 hbr
    clear hb1 hbr
    generalize wr = W at hb2 ⊢
    have R2 := Rds.none fR 6 W
    have S0 : Below W.heap.size W W.drew := (Below.refl _ _).drew
    have cA : ∀ w', Below W.heap.size W w' → Calls Try.prog 11 #[.int .i64 t, .slice none 0 0] w' fun e w2 => e = .returned (.int .i64 (ofN t [])) ∧ Below w'.heap.size w' w2 := fun w' h => of_any t w' (R2.later h) (by decide)
    have hn : ofN t [] = ofN t [] := rfl
    generalize hx : ofN t [] = n at cA
    rw [hx] at hn
    clear hn
    have hn := hx
    clear hx
    refine wp_region_noPanic ?_
    refine wp_region_held_drew (S := fun w' => Below W.heap.size W w') (by kernel_rfl) S0 (fun hH => ?_)
    clear S0
    refine wpAnyH_take (i := 0) (oi := { dst := some 55, op := _, type := _, pos := _, after := _, guard := _ }) (v := ?_) rfl (by kernel_rfl) (by kernel_rfl) (by kernel_rfl) (fun _ _ _ h => h) (Or.inl ⟨by rfl, ?_⟩) hH ?_
    rotate_left
    · intro wz hSw
      (try dsimp only at hSw)
      first | (go_simp; done) | (go_simp; with_reducible rfl)
    try simp only [Act.put, List.setIfInBounds_toArray, List.set_cons_zero, List.set_cons_succ]
    refine wpAnyH_take (i := 1) (oi := { dst := some 56, op := _, type := _, pos := _, after := _, guard := _ }) (v := ?_) rfl (by kernel_rfl) (by kernel_rfl) (by kernel_rfl) (fun _ _ _ h => h) (Or.inl ⟨by rfl, ?_⟩) hH ?_
    rotate_left
    · intro wz hSw
      (try dsimp only at hSw)
      first | (go_simp; done) | (go_simp; with_reducible rfl)
    try simp only [Act.put, List.setIfInBounds_toArray, List.set_cons_zero, List.set_cons_succ]
    refine wpAnyH_take (i := 3) (oi := { dst := some 58, op := _, type := _, pos := _, after := _, guard := _ }) (v := ?_) rfl (by kernel_rfl) (by kernel_rfl) (by kernel_rfl) (fun _ _ _ h => h) (Or.inl ⟨by rfl, ?_⟩) hH ?_
    rotate_left
    · intro wz hSw
      (try dsimp only at hSw)
      first | (go_simp; done) | (go_simp; with_reducible rfl)
    try simp only [Act.put, List.setIfInBounds_toArray, List.set_cons_zero, List.set_cons_succ]
    refine wpAnyH_take (i := 4) (oi := { dst := some 59, op := _, type := _, pos := _, after := _, guard := _ }) (v := ?_) rfl (by kernel_rfl) (by kernel_rfl) (by kernel_rfl) (fun _ _ _ h => h) (Or.inl ⟨by rfl, ?_⟩) hH ?_
    rotate_left
    · intro wz hSw
      (try dsimp only at hSw)
      first | (go_simp; done) | (go_simp; with_reducible rfl)
    try simp only [Act.put, List.setIfInBounds_toArray, List.set_cons_zero, List.set_cons_succ]
    refine wpAnyH_take (i := 5) (oi := { dst := some 60, op := _, type := _, pos := _, after := _, guard := _ }) (v := ?_) rfl (by kernel_rfl) (by kernel_rfl) (by kernel_rfl) (fun _ _ _ h => h) (Or.inl ⟨by rfl, ?_⟩) hH ?_
    rotate_left
    · intro wz hSw
      (try dsimp only at hSw)
      first | (go_simp; done) | (go_simp; with_reducible rfl)
    try simp only [Act.put, List.setIfInBounds_toArray, List.set_cons_zero, List.set_cons_succ]
    refine wpAnyH_take (i := 6) (oi := { dst := some 61, op := _, type := _, pos := _, after := _, guard := _ }) (v := ?_) rfl (by kernel_rfl) (by kernel_rfl) (by kernel_rfl) (fun _ _ _ h => h) (Or.inl ⟨by rfl, ?_⟩) hH ?_
    rotate_left
    · intro wz hSw
      (try dsimp only at hSw)
      first | (go_simp; done) | (go_simp; with_reducible rfl)
    try simp only [Act.put, List.setIfInBounds_toArray, List.set_cons_zero, List.set_cons_succ]
    refine wpAnyH_take (i := 8) (oi := { dst := some 63, op := _, type := _, pos := _, after := _, guard := _ }) (v := ?_) rfl (by kernel_rfl) (by kernel_rfl) (by kernel_rfl) (fun _ _ _ h => h) (Or.inl ⟨by rfl, ?_⟩) hH ?_
    rotate_left
    · intro wz hSw
      (try dsimp only at hSw)
      first | (go_simp; done) | (go_simp; with_reducible rfl)
    try simp only [Act.put, List.setIfInBounds_toArray, List.set_cons_zero, List.set_cons_succ]
    refine wpAnyH_take (i := 9) (oi := { dst := some 64, op := _, type := _, pos := _, after := _, guard := _ }) (v := ?_) rfl (by kernel_rfl) (by kernel_rfl) (by kernel_rfl) (fun _ _ _ h => h) (Or.inl ⟨by rfl, ?_⟩) hH ?_
    rotate_left
    · intro wz hSw
      (try dsimp only at hSw)
      first | (go_simp; done) | (go_simp; with_reducible rfl)
    try simp only [Act.put, List.setIfInBounds_toArray, List.set_cons_zero, List.set_cons_succ]
    refine wpAnyH_take (i := 10) (oi := { dst := some 65, op := _, type := _, pos := _, after := _, guard := _ }) (v := ?_) rfl (by kernel_rfl) (by kernel_rfl) (by kernel_rfl) (fun _ _ _ h => h) (Or.inl ⟨by rfl, ?_⟩) hH ?_
    rotate_left
    · intro wz hSw
      (try dsimp only at hSw)
      first | (go_simp; done) | (go_simp; with_reducible rfl)
    try simp only [Act.put, List.setIfInBounds_toArray, List.set_cons_zero, List.set_cons_succ]
    refine wpAnyH_ready (rs := [2]) (by kernel_rfl) (by simp) ?_
    refine AllReadyH.cons (o := { dst := some 57, op := _, type := _, pos := _, after := _, guard := _ }) rfl (fun K hK => ?_) AllReadyH.nil
    go_simp
    refine (cA _ hH).mono ?_
    rintro e wq2 ⟨rfl, hbq⟩
    go_wp2_with fail
    refine hK.out _ _ (kept_w hH hbq) (fun hH2 => ?_)
    clear hK K hH hbq
    have hH := hH2
    clear hH2
    try simp only [Act.put, List.setIfInBounds_toArray, List.set_cons_zero, List.set_cons_succ]
    refine wpAnyH_ready (rs := [7]) (by kernel_rfl) (by simp) ?_
    refine AllReadyH.cons (o := { dst := some 62, op := _, type := _, pos := _, after := _, guard := _ }) rfl (fun K hK => ?_) AllReadyH.nil
    have hs2 := hH.size
    refine stepRds_join fR_len (by decide) (by rfl) (.const (.slice none 0 0)) (.tmp 61) 22 (by rfl) W.heap.size 35 48 _ Try.underlying22 infoR8 rfl (v := .slice none 0 0) (n := 0) (ys := []) (by rfl) (World.ownsRow_nil _ _ _ _) (by rfl) (R2.later hH) rfl (by decide) (by decide) hs2 ?_
    intro v3 w3 own3 hg3
    simp only [Nat.zero_add, List.nil_append] at own3
    have hb3 := below_fresh (B := wq2.heap.size) hg3 (Nat.le_refl _)
    refine hK.out _ _ (kept_w hH hb3) (fun hH2 => ?_)
    clear hK K hH
    have hH := hH2
    clear hH2
    try simp only [Act.put, List.setIfInBounds_toArray, List.set_cons_zero, List.set_cons_succ]
    refine wpAnyH_ready (rs := [11]) (by kernel_rfl) (by simp) ?_
    refine AllReadyH.cons (o := { dst := some 66, op := _, type := _, pos := _, after := _, guard := _ }) rfl (fun K hK => ?_) AllReadyH.nil
    have hsz := hH.size
    have hTL : ([] : List Rl).length = 0 := rfl
    refine stepRds_join fR_len (by decide) (by rfl) (.tmp 62) (.tmp 65) 22 (by rfl) W.heap.size 35 48 _ Try.underlying22 infoR8 rfl (by rfl) own3 (by rfl) (R2.later hH) hTL (by decide) (by decide) hsz ?_
    intro v6 w6 own6 hg6
    have hB6 := below_growR hH own3 hg6 hsz
    replace own6 : w6.ownsRow W.heap.size 35 6 v6 0 (flatV fR ([] : List Rl)) := own6
    obtain ⟨a8, k8, rfl, R8⟩ := rds_of_owns fR_len own6 rfl (fun r hr => by cases hr)
    refine hK.out _ _ hB6 (fun hH2 => ?_)
    clear hK K hH
    have hH := hH2
    clear hH2
    try simp only [Act.put, List.setIfInBounds_toArray, List.set_cons_zero, List.set_cons_succ]
    refine wpAnyH_ready (rs := [12]) (by kernel_rfl) (by simp) ?_
    refine AllReadyH.cons (o := { dst := some 67, op := _, type := _, pos := _, after := _, guard := _ }) rfl (fun K hK => ?_) AllReadyH.nil
    go_simp
    refine (of_at t w6 R8 rfl (by decide)).mono ?_
    rw [hn]
    rintro e wq12 ⟨rfl, hbq⟩
    go_wp2_with fail
    refine hK.out _ _ (kept_w hH hbq) (fun hH2 => ?_)
    clear hK K hH hbq
    have hH := hH2
    clear hH2
    try simp only [Act.put, List.setIfInBounds_toArray, List.set_cons_zero, List.set_cons_succ]
    refine wpAnyH_take (i := 13) (oi := { dst := some 68, op := _, type := _, pos := _, after := _, guard := _ }) (v := ?_) rfl (by kernel_rfl) (by kernel_rfl) (by kernel_rfl) (fun _ _ _ h => h) (Or.inl ⟨by rfl, ?_⟩) hH ?_
    rotate_left
    · intro wz hSw
      (try dsimp only at hSw)
      first | (go_simp; done) | (go_simp; with_reducible rfl)
    try simp only [Act.put, List.setIfInBounds_toArray, List.set_cons_zero, List.set_cons_succ]
    refine wpAnyH_take (i := 14) (oi := { dst := some 6, op := _, type := _, pos := _, after := _, guard := _ }) (v := ?_) rfl (by kernel_rfl) (by kernel_rfl) (by kernel_rfl) (fun _ _ _ h => h) (Or.inl ⟨by rfl, ?_⟩) hH ?_
    rotate_left
    · intro wz hSw
      (try dsimp only at hSw)
      first | (go_simp; done) | (go_simp; with_reducible rfl)
    try simp only [Act.put, List.setIfInBounds_toArray, List.set_cons_zero, List.set_cons_succ]
    refine wpAnyH_done (by kernel_rfl) ?_ _
    refine NoPanic.normal ?_
    have hb3 := below_step hb2 hH
    go_wp2_with fail
    go_ret
    exact ⟨rfl, hb3⟩
set_option maxRecDepth 100000 in
set_option maxHeartbeats 8000000 in
theorem walk_short (t : Int) (x0 : Addr) (c : Nat) (l : List Rl) (y : Nat) (w : World) (R : Rds fR 6 w (some x0) c l) (hl : l.length ≤ 60) (hy : y ≤ l.length) :
    Calls Try.prog 4 #[.int .i64 t, .slice (some x0) l.length c, .int .i64 (y : Int)] w fun e w' => e = .returned (.bool true) ∧ Below w.heap.size w w' := by
  have hlz : decide ((60 : Int) < (l.length : Int)) = false := decide_eq_false (by omega)
  have h0z : decide ((y : Int) < 0) = false := decide_eq_false (by omega)
  have h1z : decide ((l.length : Int) < (y : Int)) = false := decide_eq_false (by omega)
  have h2z : decide (l.length < y) = false := decide_eq_false (by omega)
  have HL : Hid (l.length ≤ 60) := hl
  have HY : Hid (y ≤ l.length) := hy
  clear hl hy
  have hmx := Nat.le_trans R.le R.max
  unfold maxLen at hmx
  go_enter Try.func4, Try.ntmps4
  go_wp2_with fail
  refine (dawake_any _).mono ?_
  rintro e w1 ⟨rfl, hb1⟩
  have R1 := R.later hb1
  clear hmx
  go_wp2_with fail
  go_loopw [8] (fun v wr => ∃ i : Nat, v = .int .i64 (i : Nat) ∧ Hid (i ≤ l.length) ∧ Below w1.heap.size w1 wr) (fun v _ => l.length - (intOf v).toNat)
  case atStart => exact ⟨0, rfl, Nat.zero_le _, Below.refl _ _⟩
  case round =>
    obtain ⟨i, rfl, HA, hbr⟩ := hrel
    by_cases hlt : i < l.length
    · have hiz : (i : Int) < (l.length : Int) := Int.ofNat_lt.2 hlt
      have gi := getD_at hlt
      have HIL : Hid (i < l.length) := hlt
      have hi60 : i ≤ 60 := Nat.le_trans (Nat.le_of_lt hlt) HL.out
      have HLK : Hid (∀ k, k < l.length → l[k]? = some (l.getD k default)) := fun k hk => getD_at hk
      clear HA
      generalize l.getD i default = r at gi
      obtain ⟨ra, rn, ri, rp, rk, rt⟩ := r
      clear hlt
      go_wp2_with fail
      go_loopw [9] (fun v wr => ∃ k : Nat, v = .int .i64 (k : Nat) ∧ Hid (k ≤ i) ∧ Below w1.heap.size w1 wr) (fun v _ => l.length - (intOf v).toNat)
      case atStart => exact ⟨0, rfl, Nat.zero_le _, hbr⟩
      case round =>
        obtain ⟨k, rfl, HK, hbk⟩ := hrel
        by_cases hlt : k < i
        · have hkz : (k : Int) < (i : Int) := Int.ofNat_lt.2 hlt
          have hkl : k < l.length := Nat.lt_trans hlt HIL.out
          have hkz2 : (k : Int) < (l.length : Int) := Int.ofNat_lt.2 hkl
          have gk := HLK.out k hkl
          have hk60 : k ≤ 60 := Nat.le_trans (Nat.le_of_lt hlt) hi60
          have HKI : Hid (k < i) := hlt
          clear hlt hkl HK
          generalize l.getD k default = s at gk
          obtain ⟨sa, sn, si, sp, sk, st⟩ := s
          obtain ⟨bby, ooy, eey, hly, hcy⟩ := (R1.later hbk).at gi
          cases eey
          have y0 := cbw hly (hcy 0 _ rfl)
          have y1 := cbw hly (hcy 1 _ rfl)
          have y2 := cbw hly (hcy 2 _ rfl)
          have y3 := cbw hly (hcy 3 _ rfl)
          have y4 := cbw hly (hcy 4 _ rfl)
          have y5 := cbw hly (hcy 5 _ rfl)
          simp only [Nat.add_zero] at y0
          clear hcy hly
          obtain ⟨bbz, ooz, eez, hlz, hcz⟩ := (R1.later hbk).at gk
          cases eez
          have z0 := cbw hlz (hcz 0 _ rfl)
          have z1 := cbw hlz (hcz 1 _ rfl)
          have z2 := cbw hlz (hcz 2 _ rfl)
          have z3 := cbw hlz (hcz 3 _ rfl)
          have z4 := cbw hlz (hcz 4 _ rfl)
          have z5 := cbw hlz (hcz 5 _ rfl)
          simp only [Nat.add_zero] at z0
          clear hcz hlz
          have cA := fun u : BW wr => calls_bw (p := u) (ruAlike_any ra rn ri rp rk rt sa sn si sp sk st u.w)
          generalize hal : likeB ra rn ri rp sa sn si sp = b at cA
          clear hal
          cases b with
          | false =>
            go_wp2_with fail
            refine wp_region_below (by kernel_rfl) (by kernel_rfl) ?_
            iterate 8 (quiet_step (fail))
            quiet_step ((go_at_call 15; exact cA _))
            repeat (quiet_step (fail))
            refine wpQuiet_nil ?_
            rintro _ ⟨bw, rfl⟩
            have hb9 := below_step hbk bw.hb
            clear cA hbk y0 y1 y2 y3 y4 y5 z0 z1 z2 z3 z4 z5
            generalize bw.w = w5 at hb9 ⊢
            clear bw
            go_wp2_with fail
            go_roundw
            case rel => exact ⟨k + 1, by go_num, HKI.out, hb9⟩
            case measure => have h := HKI.out; have h2 := HIL.out; simp [intOf]; omega
          | true =>
            go_wp2_with fail
            refine wp_region_below (by kernel_rfl) (by kernel_rfl) ?_
            iterate 8 (quiet_step (fail))
            quiet_step ((go_at_call 15; exact cA _))
            repeat (quiet_step (fail))
            refine wpQuiet_nil ?_
            rintro _ ⟨bw, rfl⟩
            have hb9 := below_step hbk bw.hb
            clear cA hbk y0 y1 y2 y3 y4 y5 z0 z1 z2 z3 z4 z5
            generalize bw.w = w5 at hb9 ⊢
            clear bw
            go_wp2_with fail
            go_ret
            exact ⟨rfl, below_step hb1 hb9⟩
        · have hke : k = i := by have h := HK.out; omega
          have hkz : ¬ (k : Int) < (i : Int) := by omega
          clear HK hlt hke
          obtain ⟨bby, ooy, eey, hly, hcy⟩ := (R1.later hbk).at gi
          cases eey
          have y0 := hcy 0 _ rfl
          have y1 := hcy 1 _ rfl
          have y2 := hcy 2 _ rfl
          have y3 := hcy 3 _ rfl
          have y4 := hcy 4 _ rfl
          have y5 := hcy 5 _ rfl
          rw [Nat.add_zero] at y0
          clear hcy hly
          have cM := ruMay_any ra rn ri rp rk rt wr
          cases hm : okR ra rn ri rp rk rt with
          | true =>
            rw [hm] at cM
            clear hm
            go_wp2_with fail
            refine cM.mono ?_
            clear cM
            rintro e w5 ⟨rfl, hb8⟩
            have hb9 := below_step hbk hb8
            clear hb8 hbk y0 y1 y2 y3 y4 y5
            go_wp2_with fail
            go_roundw
            case rel => exact ⟨i + 1, by go_num, HIL.out, hb9⟩
            case measure => have h2 := HIL.out; simp [intOf]; omega
          | false =>
            rw [hm] at cM
            clear hm
            go_wp2_with fail
            refine cM.mono ?_
            clear cM
            rintro e w5 ⟨rfl, hb8⟩
            have hb9 := below_step hbk hb8
            clear hb8 hbk y0 y1 y2 y3 y4 y5
            go_wp2_with fail
            go_ret
            exact ⟨rfl, below_step hb1 hb9⟩
    · have hiz : ¬ (i : Int) < (l.length : Int) := by omega
      clear HA hlt
      go_wp2_with fail
      clear hiz
      have hb2 := below_step hb1 hbr
      have R2 := R1.later hbr
      clear hb1 hbr R1 R
      generalize wr = W at hb2 R2 ⊢
      have hyl : y ≤ l.length := HY.out
      have hyc : y ≤ c := Nat.le_trans hyl R2.le
      have hylz : (y : Int) ≤ (l.length : Int) := Int.ofNat_le.2 hyl
      have hycz : (y : Int) ≤ (c : Int) := Int.ofNat_le.2 hyc
      have hl60 : l.length ≤ 60 := HL.out
      have S0 : Below W.heap.size W W.drew := (Below.refl _ _).drew
      have hMl : Hid ((l.drop y ++ l.take y).length = l.length) := (turn_perm l y).length_eq
      have hM100 : (l.drop y ++ l.take y).length ≤ 100 := by rw [hMl.out]; exact Nat.le_trans hl60 (by decide)
      have hwf : ∀ r ∈ l.drop y ++ l.take y, ∀ z ∈ fR r, (Lit.int .i64 z).wf = true := fun r hr => R2.wf r ((turn_perm l y).mem_iff.1 hr)
      have hn : ofN t (l.drop y ++ l.take y) = ofN t l := by unfold ofN ofL; rw [sort_turn l y]
      have cA := fun w' (h : Below W.heap.size W w') => of_any t w' (R2.later h) (Nat.le_trans hl60 (by decide))
      generalize ofN t l = n at cA hn
      refine wp_region_noPanic ?_
      refine wp_region_held_drew (S := fun w' => Below W.heap.size W w') (by kernel_rfl) S0 (fun hH => ?_)
      clear S0
      refine wpAnyH_take (i := 0) (oi := { dst := some 55, op := _, type := _, pos := _, after := _, guard := _ }) (v := ?_) rfl (by kernel_rfl) (by kernel_rfl) (by kernel_rfl) (fun _ _ _ h => h) (Or.inl ⟨by rfl, ?_⟩) hH ?_
      rotate_left
      · intro wz hSw
        (try dsimp only at hSw)
        first | (go_simp; done) | (go_simp; with_reducible rfl)
      try simp only [Act.put, List.setIfInBounds_toArray, List.set_cons_zero, List.set_cons_succ]
      refine wpAnyH_take (i := 1) (oi := { dst := some 56, op := _, type := _, pos := _, after := _, guard := _ }) (v := ?_) rfl (by kernel_rfl) (by kernel_rfl) (by kernel_rfl) (fun _ _ _ h => h) (Or.inl ⟨by rfl, ?_⟩) hH ?_
      rotate_left
      · intro wz hSw
        (try dsimp only at hSw)
        first | (go_simp; done) | (go_simp; with_reducible rfl)
      try simp only [Act.put, List.setIfInBounds_toArray, List.set_cons_zero, List.set_cons_succ]
      refine wpAnyH_take (i := 3) (oi := { dst := some 58, op := _, type := _, pos := _, after := _, guard := _ }) (v := ?_) rfl (by kernel_rfl) (by kernel_rfl) (by kernel_rfl) (fun _ _ _ h => h) (Or.inl ⟨by rfl, ?_⟩) hH ?_
      rotate_left
      · intro wz hSw
        (try dsimp only at hSw)
        first | (go_simp; done) | (go_simp; with_reducible rfl)
      try simp only [Act.put, List.setIfInBounds_toArray, List.set_cons_zero, List.set_cons_succ]
      refine wpAnyH_take (i := 4) (oi := { dst := some 59, op := _, type := _, pos := _, after := _, guard := _ }) (v := ?_) rfl (by kernel_rfl) (by kernel_rfl) (by kernel_rfl) (fun _ _ _ h => h) (Or.inl ⟨by rfl, ?_⟩) hH ?_
      rotate_left
      · intro wz hSw
        (try dsimp only at hSw)
        first | (go_simp; done) | (go_simp; with_reducible rfl)
      try simp only [Act.put, List.setIfInBounds_toArray, List.set_cons_zero, List.set_cons_succ]
      refine wpAnyH_take (i := 5) (oi := { dst := some 60, op := _, type := _, pos := _, after := _, guard := _ }) (v := ?_) rfl (by kernel_rfl) (by kernel_rfl) (by kernel_rfl) (fun _ _ _ h => h) (Or.inl ⟨by rfl, ?_⟩) hH ?_
      rotate_left
      · intro wz hSw
        (try dsimp only at hSw)
        first | (go_simp; done) | (go_simp; with_reducible rfl)
      try simp only [Act.put, List.setIfInBounds_toArray, List.set_cons_zero, List.set_cons_succ]
      refine wpAnyH_take (i := 6) (oi := { dst := some 61, op := _, type := _, pos := _, after := _, guard := _ }) (v := ?_) rfl (by kernel_rfl) (by kernel_rfl) (by kernel_rfl) (fun _ _ _ h => h) (Or.inl ⟨by rfl, ?_⟩) hH ?_
      rotate_left
      · intro wz hSw
        (try dsimp only at hSw)
        first | (go_simp; done) | (go_simp; with_reducible rfl)
      try simp only [Act.put, List.setIfInBounds_toArray, List.set_cons_zero, List.set_cons_succ]
      refine wpAnyH_take (i := 8) (oi := { dst := some 63, op := _, type := _, pos := _, after := _, guard := _ }) (v := ?_) rfl (by kernel_rfl) (by kernel_rfl) (by kernel_rfl) (fun _ _ _ h => h) (Or.inl ⟨by rfl, ?_⟩) hH ?_
      rotate_left
      · intro wz hSw
        (try dsimp only at hSw)
        first | (go_simp; done) | (go_simp; with_reducible rfl)
      try simp only [Act.put, List.setIfInBounds_toArray, List.set_cons_zero, List.set_cons_succ]
      refine wpAnyH_take (i := 9) (oi := { dst := some 64, op := _, type := _, pos := _, after := _, guard := _ }) (v := ?_) rfl (by kernel_rfl) (by kernel_rfl) (by kernel_rfl) (fun _ _ _ h => h) (Or.inl ⟨by rfl, ?_⟩) hH ?_
      rotate_left
      · intro wz hSw
        (try dsimp only at hSw)
        first | (go_simp; done) | (go_simp; with_reducible rfl)
      try simp only [Act.put, List.setIfInBounds_toArray, List.set_cons_zero, List.set_cons_succ]
      refine wpAnyH_take (i := 10) (oi := { dst := some 65, op := _, type := _, pos := _, after := _, guard := _ }) (v := ?_) rfl (by kernel_rfl) (by kernel_rfl) (by kernel_rfl) (fun _ _ _ h => h) (Or.inl ⟨by rfl, ?_⟩) hH ?_
      rotate_left
      · intro wz hSw
        (try dsimp only at hSw)
        first | (go_simp; done) | (go_simp; with_reducible rfl)
      try simp only [Act.put, List.setIfInBounds_toArray, List.set_cons_zero, List.set_cons_succ]
      have RD := rds_drop2 R2 y hyl
      generalize (if c = y then some x0 else some (x0.add (y * 6))) = a9 at RD ⊢
      refine wpAnyH_ready (rs := [2]) (by kernel_rfl) (by simp) ?_
      refine AllReadyH.cons (o := { dst := some 57, op := _, type := _, pos := _, after := _, guard := _ }) rfl (fun K hK => ?_) AllReadyH.nil
      go_simp
      refine (cA _ hH).mono ?_
      rintro e wq2 ⟨rfl, hbq⟩
      go_wp2_with fail
      refine hK.out _ _ (kept_w hH hbq) (fun hH2 => ?_)
      clear hK K hH hbq
      have hH := hH2
      clear hH2
      try simp only [Act.put, List.setIfInBounds_toArray, List.set_cons_zero, List.set_cons_succ]
      refine wpAnyH_ready (rs := [7]) (by kernel_rfl) (by simp) ?_
      refine AllReadyH.cons (o := { dst := some 62, op := _, type := _, pos := _, after := _, guard := _ }) rfl (fun K hK => ?_) AllReadyH.nil
      have hs2 := hH.size
      refine stepRds_join fR_len (by decide) (by rfl) (.const (.slice none 0 0)) (.tmp 61) 22 (by rfl) W.heap.size 35 48 _ Try.underlying22 infoR8 rfl (v := .slice none 0 0) (n := 0) (ys := []) (by rfl) (World.ownsRow_nil _ _ _ _) (by rfl) (RD.later hH) List.length_drop (by omega) (by omega) hs2 ?_
      intro v3 w3 own3 hg3
      simp only [Nat.zero_add, List.nil_append] at own3
      have hb3 := below_fresh (B := wq2.heap.size) hg3 (Nat.le_refl _)
      refine hK.out _ _ (kept_w hH hb3) (fun hH2 => ?_)
      clear hK K hH
      have hH := hH2
      clear hH2
      try simp only [Act.put, List.setIfInBounds_toArray, List.set_cons_zero, List.set_cons_succ]
      refine wpAnyH_ready (rs := [11]) (by kernel_rfl) (by simp) ?_
      refine AllReadyH.cons (o := { dst := some 66, op := _, type := _, pos := _, after := _, guard := _ }) rfl (fun K hK => ?_) AllReadyH.nil
      have hsz := hH.size
      have hTL : (l.take y).length = y := by rw [List.length_take]; omega
      refine stepRds_join fR_len (by decide) (by rfl) (.tmp 62) (.tmp 65) 22 (by rfl) W.heap.size 35 48 _ Try.underlying22 infoR8 rfl (by rfl) own3 (by rfl) ((R2.later hH).take y) hTL (by omega) (by omega) hsz ?_
      intro v6 w6 own6 hg6
      have hB6 := below_growR hH own3 hg6 hsz
      rw [show l.length - y + y = l.length by omega] at own6
      obtain ⟨a8, k8, rfl, R8⟩ := rds_of_owns fR_len own6 hMl.out hwf
      refine hK.out _ _ hB6 (fun hH2 => ?_)
      clear hK K hH
      have hH := hH2
      clear hH2
      try simp only [Act.put, List.setIfInBounds_toArray, List.set_cons_zero, List.set_cons_succ]
      refine wpAnyH_ready (rs := [12]) (by kernel_rfl) (by simp) ?_
      refine AllReadyH.cons (o := { dst := some 67, op := _, type := _, pos := _, after := _, guard := _ }) rfl (fun K hK => ?_) AllReadyH.nil
      go_simp
      refine (of_at t w6 R8 hMl.out hM100).mono ?_
      rw [hn]
      rintro e wq12 ⟨rfl, hbq⟩
      go_wp2_with fail
      refine hK.out _ _ (kept_w hH hbq) (fun hH2 => ?_)
      clear hK K hH hbq
      have hH := hH2
      clear hH2
      try simp only [Act.put, List.setIfInBounds_toArray, List.set_cons_zero, List.set_cons_succ]
      refine wpAnyH_take (i := 13) (oi := { dst := some 68, op := _, type := _, pos := _, after := _, guard := _ }) (v := ?_) rfl (by kernel_rfl) (by kernel_rfl) (by kernel_rfl) (fun _ _ _ h => h) (Or.inl ⟨by rfl, ?_⟩) hH ?_
      rotate_left
      · intro wz hSw
        (try dsimp only at hSw)
        first | (go_simp; done) | (go_simp; with_reducible rfl)
      try simp only [Act.put, List.setIfInBounds_toArray, List.set_cons_zero, List.set_cons_succ]
      refine wpAnyH_take (i := 14) (oi := { dst := some 6, op := _, type := _, pos := _, after := _, guard := _ }) (v := ?_) rfl (by kernel_rfl) (by kernel_rfl) (by kernel_rfl) (fun _ _ _ h => h) (Or.inl ⟨by rfl, ?_⟩) hH ?_
      rotate_left
      · intro wz hSw
        (try dsimp only at hSw)
        first | (go_simp; done) | (go_simp; with_reducible rfl)
      try simp only [Act.put, List.setIfInBounds_toArray, List.set_cons_zero, List.set_cons_succ]
      refine wpAnyH_done (by kernel_rfl) ?_ _
      refine NoPanic.normal ?_
      have hb3 := below_step hb2 hH
      go_wp2_with fail
      go_ret
      exact ⟨rfl, hb3⟩

theorem walk (t : Int) (a : Option Addr) (c : Nat) (l : List Rl) (y : Int) (wt : (Lit.int .i64 t).wf = true) (wy : (Lit.int .i64 y).wf = true) (w : World) (R : Rds fR 6 w a c l) :
    Calls Try.prog 4 #[.int .i64 t, .slice a l.length c, .int .i64 y] w fun e w' => e = .returned (.bool true) ∧ Below w.heap.size w w' := by
  by_cases hl : 60 < l.length
  · exact walk_long t a c l y w R hl
  by_cases h0 : y < 0
  · exact walk_low t a c l y w R (by omega) h0
  by_cases h1 : (l.length : Int) < y
  · exact walk_high t a c l y w R (by omega) (by omega) h1
  obtain ⟨n, rfl⟩ : ∃ n : Nat, y = (n : Int) := ⟨y.toNat, by omega⟩
  cases a with
  | some x0 => exact walk_short t x0 c l n w R (by omega) (by omega)
  | none =>
    have hc := R.nil rfl
    have hl0 : l = [] := List.eq_nil_of_length_eq_zero (by have h := R.le; omega)
    subst hl0; subst hc
    obtain rfl : n = 0 := by simp at h1; omega
    exact walk_none t w

theorem own : ownKnob Try.prog.godebug = none := by kernel_rfl
theorem laidOut : laidOutB Try.prog = true := by kernel_rfl
set_option maxRecDepth 100000 in
theorem lifted (os : Os) (started : os.Started) (H : Type) (enc : TypeId × Value → H) :
    ReturnsInHanded {} Try.checked os 4 .any (Rows.digestTurnedSpec.pre6 enc Try.prog Try.f4 Rows.digestTurnedRow.domain false) (Rows.digestTurnedSpec.post enc Try.prog Try.f4 false true false false) := by
  refine returnsInHanded_of_change (C := Try.checked) own started (by kernel_rfl) Try.func4
    (ChangeSpec.witness6 (enc := enc) (C := Try.checked) false ⟨#[], #[.int .i64 0, .slice none 0 0, .int .i64 0], []⟩ 8 (by kernel_rfl) (by kernel_rfl) (by kernel_rfl) (by kernel_rfl)) ?_
  intro W base args ds gs before hval0 hW hcnd _
  have hval : ∀ (j : Nat) t v, Try.f4.params[j]? = some t → args[j]? = some v → Value.okWide Try.prog W .any base t v := hval0
  have hW' := hW
  obtain ⟨p, q, hA0, hV, rfl, hfz, hnd⟩ := hW
  have hA : DataW.TrodAll enc Try.prog W 0 (fun _ => true) true Try.f4.params.toList args.toList ds p := hA0
  rw [Try.params4] at hA hval
  obtain ⟨v0, vs0, d0, ds0, p0, q0, hargs, rfl, rfl, h0, r0⟩ := trodAll_cons hA
  obtain ⟨v1, vs1, d1, ds1, p1, q1, rfl, rfl, rfl, h1, r1⟩ := trodAll_cons r0
  obtain ⟨v2, vs2, d2, ds2, p2, q2, rfl, rfl, rfl, h2, r2⟩ := trodAll_cons r1
  obtain ⟨rfl, rfl, rfl⟩ := trodAll_nil r2
  obtain rfl : args = #[v0, v1, v2] := by cases args; simp_all
  obtain ⟨rfl, rfl⟩ := trodVars_none hV
  have k0 := h0
  have lt0 : ∀ x ∈ p0, x.block < W.heap.size := by obtain ⟨m, hm⟩ := k0; exact DataW.trod_lt m _ _ _ hm
  obtain ⟨a1, n1, c1, rfl⟩ := okWide_slice Try.underlying22 (hval 1 22 v1 rfl rfl)
  have k1 := h1
  have lt1 : ∀ x ∈ p1, x.block < W.heap.size := by obtain ⟨m, hm⟩ := k1; exact DataW.trod_lt m _ _ _ hm
  have k2 := h2
  have lt2 : ∀ x ∈ p2, x.block < W.heap.size := by obtain ⟨m, hm⟩ := k2; exact DataW.trod_lt m _ _ _ hm
  obtain ⟨a0, rfl, rfl, hp0, w0⟩ := open_int Try.underlying3 (hval 0 3 v0 rfl rfl) h0
  obtain ⟨l1, el1, R1⟩ : ∃ l : List Pk.Rl, n1 = List.length l ∧ Rds fR 6 W a1 c1 l := by
    obtain ⟨fuel, hf⟩ := h1
    exact rds_of_trod Try.underlying22 (by kernel_rfl) (fun _ => rfl) (by decide) fR_len elemR (by simpa [Value.cells] using hf)
  subst el1
  obtain ⟨a2, rfl, rfl, hp2, w2⟩ := open_int Try.underlying3 (hval 2 3 v2 rfl rfl) h2
  clear hA0 hval0
  refine (walk a0 a1 c1 l1 a2 w0 w2 W R1).mono fun e W' ⟨he, bel⟩ => ?_
  subst he
  exact ⟨_, rfl, _, _, _, [], _, [], hW', trodAll_mk1 (shut_bool Try.underlying4 _), (trodAll_cons_mk (Below.trod laidOut (by kernel_rfl) (of_decide_eq_true (by kernel_rfl)) k0 bel lt0) (trodAll_cons_mk (Below.trod laidOut (by kernel_rfl) (of_decide_eq_true (by kernel_rfl)) k1 bel lt1) (trodAll_cons_mk (Below.trod laidOut (by kernel_rfl) (of_decide_eq_true (by kernel_rfl)) k2 bel lt2) trodAll_mk0))), rfl, bel.frame _, fun h => by cases h⟩

theorem over : Rows.digestTurnedRow.holds Try.pinned (OpenSpec.ofChange Rows.digestTurnedSpec) :=
  OpenClaim.holds_of_wide 4 Try.f4 rfl rfl rfl rfl rfl rfl rfl ⟨rfl, rfl, rfl, rfl, rfl⟩ rfl rfl rfl rfl rfl (by kernel_rfl) Try.func4 (by kernel_rfl)
    (of_decide_eq_true (by kernel_rfl)) (by unfold Func.isWrapper; first | (rw [if_pos (by decide +kernel)]; kernel_rfl) | (rw [if_neg (by decide +kernel)]; exact ⟨rfl, rfl⟩))
    (fun os started H enc _ => lifted os started H enc)
end Go.Proofs.Ytinmhjgnapbkmaa.digestTurned
namespace Go.Proofs.Ytinmhjgnapbkmaa
theorem digestTurned_holds : Rows.DigestTurnedSaid := digestTurned.over
#print axioms digestTurned_holds
end Go.Proofs.Ytinmhjgnapbkmaa
