/- Proved: for all rules l, any number by, ports and destinations the call PickTurned(l, by, in, dst) returns true and leaves l as it was (of more than 60, and of a number that is no place in l, nothing is asked). -/
import Derived.Test.YtbjgnlednkegiaaPickOpen
import Derived.Test.YtbjgnlednkegiaaPickAll
import Derived.Test.YtbjgnlednkegiaaPickRefs
import Derived.Test.YtbjgnlednkegiaaPickTurn
import Derived.Lib.SmallJoins
namespace Go.Proofs.Ytbjgnlednkegiaa.pickTurned
open Go.ChangeShapes Go.WideShapes Go.ChangeAt Go.RowKit Pk R
set_option linter.unusedVariables false


theorem infoR8 : (Try.prog.info? 34).map (fun i => (i.zero, i.size, i.bytes)) = some (some (.agg #[.int .i64 0, .int .i64 0, .int .i64 0, .int .i64 0, .int .i64 0, .int .i64 0]), 6, 48) := by kernel_rfl
theorem rds_drop2 {α : Type} {f : α → List Int} {sz : Nat} {w : World} {x0 : Addr} {c : Nat} {l : List α} (h : Rds f sz w (some x0) c l) (n : Nat) (hn : n ≤ l.length) : Rds f sz w (if c = n then some x0 else some (x0.add (n * sz))) (c - n) (l.drop n) := by
  have hle := h.le
  refine ⟨by rw [List.length_drop]; omega, Nat.le_trans (Nat.sub_le _ _) h.max, fun x hx => h.wf x (List.mem_of_mem_drop hx), fun e => (by split at e <;> cases e), fun hne => ?_⟩
  have hlt : n < l.length := by
    rcases Nat.lt_or_ge n l.length with h1 | h1
    · exact h1
    · exact absurd (List.drop_eq_nil_of_le h1) hne
  obtain ⟨b, o, e, hb, hc⟩ := h.cells (by intro h0; subst h0; simp at hlt)
  cases e
  rw [if_neg (by omega), Addr.add_lit]
  refine ⟨b, o + n * sz, rfl, hb, fun i x hx j y hy => ?_⟩
  have h1 := hc (n + i) x (by rw [← List.getElem?_drop]; exact hx) j y hy
  rw [Nat.add_mul, ← Nat.add_assoc o] at h1
  exact h1
theorem cbw {w : World} {b o j : Nat} {v : Value} (hl : b < w.heap.size) (h : w.cell? ⟨b, o + j, none⟩ = some v) : ∀ u : BW w, u.w.cell? ⟨b, o + j, none⟩ = some v := fun u => cell_bw (a := ⟨b, o + j, none⟩) hl h u
theorem eq_same (a n i p k t : Int) (w : World) : (binOp .eql 34 (.agg #[.int .i64 a, .int .i64 n, .int .i64 i, .int .i64 p, .int .i64 k, .int .i64 t]) (.agg #[.int .i64 a, .int .i64 n, .int .i64 i, .int .i64 p, .int .i64 k, .int .i64 t])).run Try.prog w = .ok (.bool true) w := by go_simp
set_option maxRecDepth 100000 in
theorem walk_long (a : Option Addr) (c : Nat) (l : List Rl) (y x d : Int) (w : World) (R : Rds fR 6 w a c l) (hl : 60 < l.length) :
    Calls Try.prog 6 #[.slice a l.length c, .int .i64 y, .int .i64 x, .int .i64 d] w fun e w' => e = .returned (.bool true) ∧ Below w.heap.size w w' := by
  have hmx := Nat.le_trans R.le R.max
  unfold maxLen at hmx
  go_enter Try.func6, Try.ntmps6
  go_wp2_with fail
  refine (awake_any _).mono ?_
  rintro e w1 ⟨rfl, hb1⟩
  go_wp2_with fail
  go_ret
  exact ⟨rfl, hb1⟩
set_option maxRecDepth 100000 in
theorem walk_low (a : Option Addr) (c : Nat) (l : List Rl) (y x d : Int) (w : World) (R : Rds fR 6 w a c l) (hl : l.length ≤ 60) (hy : y < 0) :
    Calls Try.prog 6 #[.slice a l.length c, .int .i64 y, .int .i64 x, .int .i64 d] w fun e w' => e = .returned (.bool true) ∧ Below w.heap.size w w' := by
  have hlz : decide ((60 : Int) < (l.length : Int)) = false := decide_eq_false (by omega)
  have hmx := Nat.le_trans R.le R.max
  unfold maxLen at hmx
  go_enter Try.func6, Try.ntmps6
  go_wp2_with fail
  refine (awake_any _).mono ?_
  rintro e w1 ⟨rfl, hb1⟩
  go_wp2_with fail
  go_ret
  exact ⟨rfl, hb1⟩
set_option maxRecDepth 100000 in
theorem walk_high (a : Option Addr) (c : Nat) (l : List Rl) (y x d : Int) (w : World) (R : Rds fR 6 w a c l) (hl : l.length ≤ 60) (h0 : 0 ≤ y) (hy : (l.length : Int) < y) :
    Calls Try.prog 6 #[.slice a l.length c, .int .i64 y, .int .i64 x, .int .i64 d] w fun e w' => e = .returned (.bool true) ∧ Below w.heap.size w w' := by
  have hlz : decide ((60 : Int) < (l.length : Int)) = false := decide_eq_false (by omega)
  have h0z : decide (y < 0) = false := decide_eq_false (by omega)
  have hmx := Nat.le_trans R.le R.max
  unfold maxLen at hmx
  go_enter Try.func6, Try.ntmps6
  go_wp2_with fail
  refine (awake_any _).mono ?_
  rintro e w1 ⟨rfl, hb1⟩
  go_wp2_with fail
  go_ret
  exact ⟨rfl, hb1⟩
set_option maxRecDepth 100000 in
set_option maxHeartbeats 4000000 in
theorem walk_none (x d : Int) (w : World) :
    Calls Try.prog 6 #[.slice none 0 0, .int .i64 0, .int .i64 x, .int .i64 d] w fun e w' => e = .returned (.bool true) ∧ Below w.heap.size w w' := by
  go_enter Try.func6, Try.ntmps6
  go_wp2_with fail
  refine (awake_any _).mono ?_
  rintro e w1 ⟨rfl, hb1⟩
  go_wp2_with fail
  go_loopw [10] (fun v wr => v = .int .i64 0 ∧ Below w1.heap.size w1 wr) (fun _ _ => 0)
  case atStart => exact ⟨rfl, Below.refl _ _⟩
  case round =>
    obtain ⟨rfl, hbr⟩ := hrel
    go_wp2_with fail
    have hb2 := below_step hb1 hbr
    clear hb1 hbr
    generalize wr = W at hb2 ⊢
    have R2 := Rds.none fR 6 W
    have S0 : Below W.heap.size W W.drew := (Below.refl _ _).drew
    refine wp_region_noPanic ?_
    refine wp_region_held_drew (S := fun w' => Below W.heap.size W w') (by kernel_rfl) S0 (fun hH => ?_)
    clear S0
    refine wpAnyH_take (i := 0) (oi := { dst := some 61, op := _, type := _, pos := _, after := _, guard := _ }) (v := ?_) rfl (by kernel_rfl) (by kernel_rfl) (by kernel_rfl) (fun _ _ _ h => h) (Or.inl ⟨by rfl, ?_⟩) hH ?_
    rotate_left
    · intro wz hSw
      (try dsimp only at hSw)
      first | (go_simp; done) | (go_simp; with_reducible rfl)
    try simp only [Act.put, List.setIfInBounds_toArray, List.set_cons_zero, List.set_cons_succ]
    refine wpAnyH_take (i := 1) (oi := { dst := some 62, op := _, type := _, pos := _, after := _, guard := _ }) (v := ?_) rfl (by kernel_rfl) (by kernel_rfl) (by kernel_rfl) (fun _ _ _ h => h) (Or.inl ⟨by rfl, ?_⟩) hH ?_
    rotate_left
    · intro wz hSw
      (try dsimp only at hSw)
      first | (go_simp; done) | (go_simp; with_reducible rfl)
    try simp only [Act.put, List.setIfInBounds_toArray, List.set_cons_zero, List.set_cons_succ]
    refine wpAnyH_take (i := 2) (oi := { dst := some 63, op := _, type := _, pos := _, after := _, guard := _ }) (v := ?_) rfl (by kernel_rfl) (by kernel_rfl) (by kernel_rfl) (fun _ _ _ h => h) (Or.inl ⟨by rfl, ?_⟩) hH ?_
    rotate_left
    · intro wz hSw
      (try dsimp only at hSw)
      first | (go_simp; done) | (go_simp; with_reducible rfl)
    try simp only [Act.put, List.setIfInBounds_toArray, List.set_cons_zero, List.set_cons_succ]
    refine wpAnyH_take (i := 4) (oi := { dst := some 65, op := _, type := _, pos := _, after := _, guard := _ }) (v := ?_) rfl (by kernel_rfl) (by kernel_rfl) (by kernel_rfl) (fun _ _ _ h => h) (Or.inl ⟨by rfl, ?_⟩) hH ?_
    rotate_left
    · intro wz hSw
      (try dsimp only at hSw)
      first | (go_simp; done) | (go_simp; with_reducible rfl)
    try simp only [Act.put, List.setIfInBounds_toArray, List.set_cons_zero, List.set_cons_succ]
    refine wpAnyH_take (i := 5) (oi := { dst := some 66, op := _, type := _, pos := _, after := _, guard := _ }) (v := ?_) rfl (by kernel_rfl) (by kernel_rfl) (by kernel_rfl) (fun _ _ _ h => h) (Or.inl ⟨by rfl, ?_⟩) hH ?_
    rotate_left
    · intro wz hSw
      (try dsimp only at hSw)
      first | (go_simp; done) | (go_simp; with_reducible rfl)
    try simp only [Act.put, List.setIfInBounds_toArray, List.set_cons_zero, List.set_cons_succ]
    refine wpAnyH_take (i := 6) (oi := { dst := some 67, op := _, type := _, pos := _, after := _, guard := _ }) (v := ?_) rfl (by kernel_rfl) (by kernel_rfl) (by kernel_rfl) (fun _ _ _ h => h) (Or.inl ⟨by rfl, ?_⟩) hH ?_
    rotate_left
    · intro wz hSw
      (try dsimp only at hSw)
      first | (go_simp; done) | (go_simp; with_reducible rfl)
    try simp only [Act.put, List.setIfInBounds_toArray, List.set_cons_zero, List.set_cons_succ]
    refine wpAnyH_ready (rs := [3]) (by kernel_rfl) (by simp) ?_
    refine AllReadyH.cons (o := { dst := some 64, op := _, type := _, pos := _, after := _, guard := _ }) rfl (fun K hK => ?_) AllReadyH.nil
    refine stepRds_join fR_len (by decide) (by rfl) (.const (.slice none 0 0)) (.tmp 63) 22 (by rfl) W.heap.size 34 48 _ Try.underlying22 infoR8 rfl (v := .slice none 0 0) (n := 0) (ys := []) (by rfl) (World.ownsRow_nil _ _ _ _) (by rfl) (R2.later (Below.refl _ _).drew) rfl (by decide) (by decide) (Nat.le_refl _) ?_
    intro v3 w3 own3 hg3
    simp only [Nat.zero_add, List.nil_append] at own3
    have hb3 := below_fresh (B := W.drew.heap.size) hg3 (Nat.le_refl _)
    refine hK.out _ _ (kept_w hH hb3) (fun hH2 => ?_)
    clear hK K hH
    have hH := hH2
    clear hH2
    try simp only [Act.put, List.setIfInBounds_toArray, List.set_cons_zero, List.set_cons_succ]
    refine wpAnyH_ready (rs := [7]) (by kernel_rfl) (by simp) ?_
    refine AllReadyH.cons (o := { dst := some 68, op := _, type := _, pos := _, after := _, guard := _ }) rfl (fun K hK => ?_) AllReadyH.nil
    have hsz := hH.size
    have hTL : ([] : List Rl).length = 0 := rfl
    refine stepRds_join fR_len (by decide) (by rfl) (.tmp 64) (.tmp 67) 22 (by rfl) W.heap.size 34 48 _ Try.underlying22 infoR8 rfl (by rfl) own3 (by rfl) (R2.later hH) hTL (by decide) (by decide) hsz ?_
    intro v6 w6 own6 hg6
    have hB6 := below_growR hH own3 hg6 hsz
    refine hK.out _ _ hB6 (fun hH2 => ?_)
    clear hK K hH
    have hH := hH2
    clear hH2
    try simp only [Act.put, List.setIfInBounds_toArray, List.set_cons_zero, List.set_cons_succ]
    refine wpAnyH_take (i := 8) (oi := { dst := some 12, op := _, type := _, pos := _, after := _, guard := _ }) (v := ?_) rfl (by kernel_rfl) (by kernel_rfl) (by kernel_rfl) (fun _ _ _ h => h) (Or.inl ⟨by rfl, ?_⟩) hH ?_
    rotate_left
    · intro wz hSw
      (try dsimp only at hSw)
      first | (go_simp; done) | (go_simp; with_reducible rfl)
    try simp only [Act.put, List.setIfInBounds_toArray, List.set_cons_zero, List.set_cons_succ]
    refine wpAnyH_done (by kernel_rfl) ?_ _
    refine NoPanic.normal ?_
    replace own6 : w6.ownsRow W.heap.size 34 6 v6 0 (flatV fR ([] : List Rl)) := own6
    obtain ⟨a8, k8, rfl, R8⟩ := rds_of_owns fR_len own6 rfl (fun r hr => by cases hr)
    have hb3 := below_step hb2 hH
    have R3 := R2.later hH
    clear hsz hTL hB6 hg6 own3 hb3 hg3 own6
    replace hb2 := below_step hb2 hH
    clear R2 hH
    have sn : sortL [] = [] := (sort_perm []).eq_nil
    have c1 : Calls Try.prog 13 #[.slice none 0 0, .int .i64 x, .int .i64 d] w6 fun e w' => e = .returned (.int .i64 (-1)) ∧ Below w6.heap.size w6 w' := first_any w6 R3 x d
    go_wp2_with fail
    refine c1.mono ?_
    clear c1
    rintro e w7 ⟨rfl, hb7⟩
    have c2 : Calls Try.prog 13 #[.slice a8 0 k8, .int .i64 x, .int .i64 d] w7 fun e w' => e = .returned (.int .i64 (-1)) ∧ Below w7.heap.size w7 w' := first_any w7 (R8.later hb7) x d
    go_wp2_with fail
    refine c2.mono ?_
    clear c2
    rintro e w8 ⟨rfl, hb8⟩
    have hb9 := below_step hb7 hb8
    clear hb7 hb8
    have c3 : Calls Try.prog 11 #[.slice none 0 0] w8 fun e w' => ∃ (x : Option Addr) (k : Nat), e = .returned (.slice x 0 k) ∧ (Rds fR 6 w' x k [] ∧ ∀ y, x = some y → w8.heap.size ≤ y.block) ∧ Below w8.heap.size w8 w' := by
      have h := order_any sortsTo_100 (by decide) w8 (R3.later hb9) (by decide)
      rw [sn] at h
      exact h
    go_wp2_with fail
    refine c3.mono ?_
    clear c3
    rintro e w9 ⟨x9, k9, rfl, ⟨Ro, -⟩, hb10⟩
    have hb11 := below_step hb9 hb10
    clear hb9 hb10
    have c4 : Calls Try.prog 11 #[.slice a8 0 k8] w9 fun e w' => ∃ (x : Option Addr) (k : Nat), e = .returned (.slice x 0 k) ∧ (Rds fR 6 w' x k [] ∧ ∀ y, x = some y → w9.heap.size ≤ y.block) ∧ Below w9.heap.size w9 w' := by
      have h := order_any sortsTo_100 (by decide) w9 (R8.later hb11) (by decide)
      rw [sn] at h
      exact h
    go_wp2_with fail
    refine c4.mono ?_
    clear c4
    rintro e w10 ⟨x10, k10, rfl, ⟨Ro2, -⟩, hb12⟩
    have c5 : Calls Try.prog 10 #[.slice x9 0 k9, .slice x10 0 k10] w10 fun e w' => e = .returned (.bool true) ∧ Below w10.heap.size w10 w' := rsame8_any w10 (Ro.later hb12) Ro2
    clear Ro Ro2
    go_wp2_with fail
    refine c5.mono ?_
    clear c5
    rintro e w11 ⟨rfl, hb13⟩
    have hb15 := below_step hb2 (below_step hb11 (below_step hb12 hb13))
    go_wp2_with fail
    go_ret
    exact ⟨rfl, hb15⟩
set_option maxRecDepth 100000 in
set_option maxHeartbeats 8000000 in
theorem walk_short (x0 : Addr) (c : Nat) (l : List Rl) (y : Nat) (x d : Int) (w : World) (R : Rds fR 6 w (some x0) c l) (hl : l.length ≤ 60) (hy : y ≤ l.length) :
    Calls Try.prog 6 #[.slice (some x0) l.length c, .int .i64 (y : Int), .int .i64 x, .int .i64 d] w fun e w' => e = .returned (.bool true) ∧ Below w.heap.size w w' := by
  have hlz : decide ((60 : Int) < (l.length : Int)) = false := decide_eq_false (by omega)
  have h0z : decide ((y : Int) < 0) = false := decide_eq_false (by omega)
  have h1z : decide ((l.length : Int) < (y : Int)) = false := decide_eq_false (by omega)
  have h2z : decide (l.length < y) = false := decide_eq_false (by omega)
  have HL : Hid (l.length ≤ 60) := hl
  have HY : Hid (y ≤ l.length) := hy
  clear hl hy
  have hmx := Nat.le_trans R.le R.max
  unfold maxLen at hmx
  go_enter Try.func6, Try.ntmps6
  go_wp2_with fail
  refine (awake_any _).mono ?_
  rintro e w1 ⟨rfl, hb1⟩
  have R1 := R.later hb1
  clear hmx
  go_wp2_with fail
  go_loopw [10] (fun v wr => ∃ i : Nat, v = .int .i64 (i : Nat) ∧ Hid (i ≤ l.length ∧ ∀ n, n < i → ∀ k, k < n → Pk.alike (l.getD n default) (l.getD k default) = false) ∧ Below w1.heap.size w1 wr) (fun v _ => l.length - (intOf v).toNat)
  case atStart => exact ⟨0, rfl, ⟨Nat.zero_le _, fun n hn => absurd hn (Nat.not_lt_zero _)⟩, Below.refl _ _⟩
  case round =>
    obtain ⟨i, rfl, HA, hbr⟩ := hrel
    by_cases hlt : i < l.length
    · have hiz : (i : Int) < (l.length : Int) := Int.ofNat_lt.2 hlt
      have gi := getD_at hlt
      have HIL : Hid (i < l.length) := hlt
      have hi60 : i ≤ 60 := Nat.le_trans (Nat.le_of_lt hlt) HL.out
      have HLK : Hid (∀ k, k < l.length → l[k]? = some (l.getD k default)) := fun k hk => getD_at hk
      have HNX : Hid ((∀ k, k < i → Pk.alike (l.getD i default) (l.getD k default) = false) → ∀ n, n < i + 1 → ∀ k, k < n → Pk.alike (l.getD n default) (l.getD k default) = false) := by
        intro h n hn k hk
        rcases Nat.lt_or_ge n i with h1 | h1
        · exact HA.out.2 n h1 k hk
        · obtain rfl : n = i := by omega
          exact h k hk
      clear HA
      generalize l.getD i default = r at gi HNX
      obtain ⟨ra, rn, ri, rp, rk, rt⟩ := r
      clear hlt
      go_wp2_with fail
      go_loopw [11] (fun v wr => ∃ k : Nat, v = .int .i64 (k : Nat) ∧ Hid (k ≤ i ∧ ∀ n, n < k → Pk.alike ⟨ra, rn, ri, rp, rk, rt⟩ (l.getD n default) = false) ∧ Below w1.heap.size w1 wr) (fun v _ => l.length - (intOf v).toNat)
      case atStart => exact ⟨0, rfl, ⟨Nat.zero_le _, fun n hn => absurd hn (Nat.not_lt_zero _)⟩, hbr⟩
      case round =>
        obtain ⟨k, rfl, HK, hbk⟩ := hrel
        by_cases hlt : k < i
        · have hkz : (k : Int) < (i : Int) := Int.ofNat_lt.2 hlt
          have hkl : k < l.length := Nat.lt_trans hlt HIL.out
          have hkz2 : (k : Int) < (l.length : Int) := Int.ofNat_lt.2 hkl
          have gk := HLK.out k hkl
          have hk60 : k ≤ 60 := Nat.le_trans (Nat.le_of_lt hlt) hi60
          have HKI : Hid (k < i) := hlt
          have NK : Hid (Pk.alike ⟨ra, rn, ri, rp, rk, rt⟩ (l.getD k default) = false → ∀ n, n < k + 1 → Pk.alike ⟨ra, rn, ri, rp, rk, rt⟩ (l.getD n default) = false) := by
            intro h n hn
            rcases Nat.lt_or_ge n k with h1 | h1
            · exact HK.out.2 n h1
            · obtain rfl : n = k := by omega
              exact h
          clear hlt hkl HK
          generalize l.getD k default = s at gk NK
          obtain ⟨sa, sn, si, sp, sk, st⟩ := s
          obtain ⟨bby, ooy, eey, hly, hcy⟩ := (R1.later hbk).at gi
          cases eey
          have y0 := cbw hly (hcy 0 _ rfl)
          have y1 := cbw hly (hcy 1 _ rfl)
          have y2 := cbw hly (hcy 2 _ rfl)
          have y3 := cbw hly (hcy 3 _ rfl)
          have y4 := cbw hly (hcy 4 _ rfl)
          have y5 := cbw hly (hcy 5 _ rfl)
          simp only [Nat.add_zero] at y0
          clear hcy hly
          obtain ⟨bbz, ooz, eez, hlz, hcz⟩ := (R1.later hbk).at gk
          cases eez
          have z0 := cbw hlz (hcz 0 _ rfl)
          have z1 := cbw hlz (hcz 1 _ rfl)
          have z2 := cbw hlz (hcz 2 _ rfl)
          have z3 := cbw hlz (hcz 3 _ rfl)
          have z4 := cbw hlz (hcz 4 _ rfl)
          have z5 := cbw hlz (hcz 5 _ rfl)
          simp only [Nat.add_zero] at z0
          clear hcz hlz
          have cA := fun u : BW wr => calls_bw (p := u) (ruAlike_any ra rn ri rp rk rt sa sn si sp sk st u.w)
          generalize hal : likeB ra rn ri rp sa sn si sp = b at cA
          have HB : Hid (Pk.alike ⟨ra, rn, ri, rp, rk, rt⟩ ⟨sa, sn, si, sp, sk, st⟩ = b) := hal
          clear hal
          cases b with
          | false =>
            have N2 := show Hid _ from NK.out HB.out
            clear HB NK
            go_wp2_with fail
            refine wp_region_below (by kernel_rfl) (by kernel_rfl) ?_
            iterate 8 (quiet_step (fail))
            quiet_step ((go_at_call 17; exact cA _))
            repeat (quiet_step (fail))
            refine wpQuiet_nil ?_
            rintro _ ⟨bw, rfl⟩
            have hb9 := below_step hbk bw.hb
            clear cA hbk y0 y1 y2 y3 y4 y5 z0 z1 z2 z3 z4 z5
            generalize bw.w = w5 at hb9 ⊢
            clear bw
            go_wp2_with fail
            go_roundw
            case rel => exact ⟨k + 1, by go_num, ⟨HKI.out, N2.out⟩, hb9⟩
            case measure => have h := HKI.out; have h2 := HIL.out; simp [intOf]; omega
          | true =>
            clear HB NK
            go_wp2_with fail
            refine wp_region_below (by kernel_rfl) (by kernel_rfl) ?_
            iterate 8 (quiet_step (fail))
            quiet_step ((go_at_call 17; exact cA _))
            repeat (quiet_step (fail))
            refine wpQuiet_nil ?_
            rintro _ ⟨bw, rfl⟩
            have hb9 := below_step hbk bw.hb
            clear cA hbk y0 y1 y2 y3 y4 y5 z0 z1 z2 z3 z4 z5
            generalize bw.w = w5 at hb9 ⊢
            clear bw
            go_wp2_with fail
            go_ret
            exact ⟨rfl, below_step hb1 hb9⟩
        · have hke : k = i := by have h := HK.out.1; omega
          have hkz : ¬ (k : Int) < (i : Int) := by omega
          have N2 := show Hid _ from HNX.out (fun n hn => HK.out.2 n (by rw [hke]; exact hn))
          clear HNX HK hlt hke
          obtain ⟨bby, ooy, eey, hly, hcy⟩ := (R1.later hbk).at gi
          cases eey
          have y0 := hcy 0 _ rfl
          have y1 := hcy 1 _ rfl
          have y2 := hcy 2 _ rfl
          have y3 := hcy 3 _ rfl
          have y4 := hcy 4 _ rfl
          have y5 := hcy 5 _ rfl
          rw [Nat.add_zero] at y0
          clear hcy hly
          have cM := ruMay_any ra rn ri rp rk rt wr
          cases hm : okR ra rn ri rp rk rt with
          | true =>
            rw [hm] at cM
            clear hm
            go_wp2_with fail
            refine cM.mono ?_
            clear cM
            rintro e w5 ⟨rfl, hb8⟩
            have hb9 := below_step hbk hb8
            clear hb8 hbk y0 y1 y2 y3 y4 y5
            go_wp2_with fail
            go_roundw
            case rel => exact ⟨i + 1, by go_num, ⟨HIL.out, N2.out⟩, hb9⟩
            case measure => have h2 := HIL.out; simp [intOf]; omega
          | false =>
            rw [hm] at cM
            clear hm
            go_wp2_with fail
            refine cM.mono ?_
            clear cM
            rintro e w5 ⟨rfl, hb8⟩
            have hb9 := below_step hbk hb8
            clear hb8 hbk y0 y1 y2 y3 y4 y5
            go_wp2_with fail
            go_ret
            exact ⟨rfl, below_step hb1 hb9⟩
    · have hiz : ¬ (i : Int) < (l.length : Int) := by omega
      have HF := show Hid _ from first_perm (x := x) (d := d) (turn_perm l y) (fun n hn k hk => HA.out.2 n (by have h := HA.out.1; omega) k hk)
      clear HA hlt
      go_wp2_with fail
      clear hiz
      have hb2 := below_step hb1 hbr
      have R2 := R1.later hbr
      clear hb1 hbr R1 R
      generalize wr = W at hb2 R2 ⊢
      have hyl : y ≤ l.length := HY.out
      have hyc : y ≤ c := Nat.le_trans hyl R2.le
      have hylz : (y : Int) ≤ (l.length : Int) := Int.ofNat_le.2 hyl
      have hycz : (y : Int) ≤ (c : Int) := Int.ofNat_le.2 hyc
      have hl60 : l.length ≤ 60 := HL.out
      have S0 : Below W.heap.size W W.drew := (Below.refl _ _).drew
      refine wp_region_noPanic ?_
      refine wp_region_held_drew (S := fun w' => Below W.heap.size W w') (by kernel_rfl) S0 (fun hH => ?_)
      clear S0
      refine wpAnyH_take (i := 0) (oi := { dst := some 61, op := _, type := _, pos := _, after := _, guard := _ }) (v := ?_) rfl (by kernel_rfl) (by kernel_rfl) (by kernel_rfl) (fun _ _ _ h => h) (Or.inl ⟨by rfl, ?_⟩) hH ?_
      rotate_left
      · intro wz hSw
        (try dsimp only at hSw)
        first | (go_simp; done) | (go_simp; with_reducible rfl)
      try simp only [Act.put, List.setIfInBounds_toArray, List.set_cons_zero, List.set_cons_succ]
      refine wpAnyH_take (i := 1) (oi := { dst := some 62, op := _, type := _, pos := _, after := _, guard := _ }) (v := ?_) rfl (by kernel_rfl) (by kernel_rfl) (by kernel_rfl) (fun _ _ _ h => h) (Or.inl ⟨by rfl, ?_⟩) hH ?_
      rotate_left
      · intro wz hSw
        (try dsimp only at hSw)
        first | (go_simp; done) | (go_simp; with_reducible rfl)
      try simp only [Act.put, List.setIfInBounds_toArray, List.set_cons_zero, List.set_cons_succ]
      refine wpAnyH_take (i := 2) (oi := { dst := some 63, op := _, type := _, pos := _, after := _, guard := _ }) (v := ?_) rfl (by kernel_rfl) (by kernel_rfl) (by kernel_rfl) (fun _ _ _ h => h) (Or.inl ⟨by rfl, ?_⟩) hH ?_
      rotate_left
      · intro wz hSw
        (try dsimp only at hSw)
        first | (go_simp; done) | (go_simp; with_reducible rfl)
      try simp only [Act.put, List.setIfInBounds_toArray, List.set_cons_zero, List.set_cons_succ]
      refine wpAnyH_take (i := 4) (oi := { dst := some 65, op := _, type := _, pos := _, after := _, guard := _ }) (v := ?_) rfl (by kernel_rfl) (by kernel_rfl) (by kernel_rfl) (fun _ _ _ h => h) (Or.inl ⟨by rfl, ?_⟩) hH ?_
      rotate_left
      · intro wz hSw
        (try dsimp only at hSw)
        first | (go_simp; done) | (go_simp; with_reducible rfl)
      try simp only [Act.put, List.setIfInBounds_toArray, List.set_cons_zero, List.set_cons_succ]
      refine wpAnyH_take (i := 5) (oi := { dst := some 66, op := _, type := _, pos := _, after := _, guard := _ }) (v := ?_) rfl (by kernel_rfl) (by kernel_rfl) (by kernel_rfl) (fun _ _ _ h => h) (Or.inl ⟨by rfl, ?_⟩) hH ?_
      rotate_left
      · intro wz hSw
        (try dsimp only at hSw)
        first | (go_simp; done) | (go_simp; with_reducible rfl)
      try simp only [Act.put, List.setIfInBounds_toArray, List.set_cons_zero, List.set_cons_succ]
      refine wpAnyH_take (i := 6) (oi := { dst := some 67, op := _, type := _, pos := _, after := _, guard := _ }) (v := ?_) rfl (by kernel_rfl) (by kernel_rfl) (by kernel_rfl) (fun _ _ _ h => h) (Or.inl ⟨by rfl, ?_⟩) hH ?_
      rotate_left
      · intro wz hSw
        (try dsimp only at hSw)
        first | (go_simp; done) | (go_simp; with_reducible rfl)
      try simp only [Act.put, List.setIfInBounds_toArray, List.set_cons_zero, List.set_cons_succ]
      refine wpAnyH_ready (rs := [3]) (by kernel_rfl) (by simp) ?_
      refine AllReadyH.cons (o := { dst := some 64, op := _, type := _, pos := _, after := _, guard := _ }) rfl (fun K hK => ?_) AllReadyH.nil
      refine stepRds_join fR_len (by decide) (by rfl) (.const (.slice none 0 0)) (.tmp 63) 22 (by rfl) W.heap.size 34 48 _ Try.underlying22 infoR8 rfl (v := .slice none 0 0) (n := 0) (ys := []) (by rfl) (World.ownsRow_nil _ _ _ _) (by rfl) (rds_drop2 (R2.later (Below.refl _ _).drew) y hyl) List.length_drop (by omega) (by omega) (Nat.le_refl _) ?_
      intro v3 w3 own3 hg3
      simp only [Nat.zero_add, List.nil_append] at own3
      have hb3 := below_fresh (B := W.drew.heap.size) hg3 (Nat.le_refl _)
      refine hK.out _ _ (kept_w hH hb3) (fun hH2 => ?_)
      clear hK K hH
      have hH := hH2
      clear hH2
      try simp only [Act.put, List.setIfInBounds_toArray, List.set_cons_zero, List.set_cons_succ]
      refine wpAnyH_ready (rs := [7]) (by kernel_rfl) (by simp) ?_
      refine AllReadyH.cons (o := { dst := some 68, op := _, type := _, pos := _, after := _, guard := _ }) rfl (fun K hK => ?_) AllReadyH.nil
      have hsz := hH.size
      have hTL : (l.take y).length = y := by rw [List.length_take]; omega
      refine stepRds_join fR_len (by decide) (by rfl) (.tmp 64) (.tmp 67) 22 (by rfl) W.heap.size 34 48 _ Try.underlying22 infoR8 rfl (by rfl) own3 (by rfl) ((R2.later hH).take y) hTL (by omega) (by omega) hsz ?_
      intro v6 w6 own6 hg6
      have hB6 := below_growR hH own3 hg6 hsz
      refine hK.out _ _ hB6 (fun hH2 => ?_)
      clear hK K hH
      have hH := hH2
      clear hH2
      try simp only [Act.put, List.setIfInBounds_toArray, List.set_cons_zero, List.set_cons_succ]
      refine wpAnyH_take (i := 8) (oi := { dst := some 12, op := _, type := _, pos := _, after := _, guard := _ }) (v := ?_) rfl (by kernel_rfl) (by kernel_rfl) (by kernel_rfl) (fun _ _ _ h => h) (Or.inl ⟨by rfl, ?_⟩) hH ?_
      rotate_left
      · intro wz hSw
        (try dsimp only at hSw)
        first | (go_simp; done) | (go_simp; with_reducible rfl)
      try simp only [Act.put, List.setIfInBounds_toArray, List.set_cons_zero, List.set_cons_succ]
      refine wpAnyH_done (by kernel_rfl) ?_ _
      refine NoPanic.normal ?_
      generalize (if c = y then some x0 else some (x0.add (y * 6))) = a9
      clear hsz hTL hB6 hg6 own3 hb3 hg3
      have hMl : Hid ((l.drop y ++ l.take y).length = l.length) := (turn_perm l y).length_eq
      have hMs : Hid (sortL (l.drop y ++ l.take y) = sortL l) := sort_turn l y
      have hwf : ∀ r ∈ l.drop y ++ l.take y, ∀ z ∈ fR r, (Lit.int .i64 z).wf = true := fun r hr => R2.wf r ((turn_perm l y).mem_iff.1 hr)
      rw [show l.length - y + y = l.length by omega] at own6
      have hb3 := below_step hb2 hH
      have R3 := R2.later hH
      clear hb2 R2 hH
      clear hyl hyc hylz hycz hl60 HY
      generalize l.drop y ++ l.take y = M at own6 hMl hMs hwf HF
      obtain ⟨a8, k8, rfl, R8⟩ := rds_of_owns fR_len own6 hMl.out hwf
      clear own6 hwf
      have c1 := first_any w6 R3 x d
      rcases HF.out with ⟨f1, f2⟩ | ⟨q, p, hq, hp, f1, f2, f3⟩
      · rw [f1] at c1
        clear f1
        go_wp2_with fail
        refine c1.mono ?_
        clear c1
        rintro e w7 ⟨rfl, hb7⟩
        have c2 := first_any w7 (R8.later hb7) x d
        rw [f2, hMl.out] at c2
        clear f2
        go_wp2_with fail
        refine c2.mono ?_
        clear c2
        rintro e w8 ⟨rfl, hb8⟩
        have hb9 := below_step hb7 hb8
        clear hb7 hb8
        have c3 := order_any sortsTo_100 (by decide) w8 (R3.later hb9) (Nat.le_trans HL.out (by decide))
        rw [sort_len] at c3
        go_wp2_with fail
        refine c3.mono ?_
        clear c3
        rintro e w9 ⟨x9, k9, rfl, ⟨Ro, -⟩, hb10⟩
        have hb11 := below_step hb9 hb10
        clear hb9 hb10
        have c4 := order_any sortsTo_100 (by decide) w9 (R8.later hb11) (by rw [hMl.out]; exact Nat.le_trans HL.out (by decide))
        rw [hMs.out, sort_len, hMl.out] at c4
        go_wp2_with fail
        refine c4.mono ?_
        clear c4
        rintro e w10 ⟨x10, k10, rfl, ⟨Ro2, -⟩, hb12⟩
        have c5 := rsame8_any w10 (Ro.later hb12) Ro2
        rw [decide_eq_true (rfl : sortL l = sortL l), sort_len] at c5
        clear Ro Ro2
        go_wp2_with fail
        refine c5.mono ?_
        clear c5
        rintro e w11 ⟨rfl, hb13⟩
        have hb14 := below_step hb11 (below_step hb12 hb13)
        clear hb11 hb12 hb13
        have hb15 := below_step hb3 hb14
        go_wp2_with fail
        go_ret
        exact ⟨rfl, hb15⟩
      · have hqz : (q : Int) < (l.length : Int) := Int.ofNat_lt.2 hq
        have hpl : p < l.length := by rw [← hMl.out]; exact hp
        have hpz : (p : Int) < (l.length : Int) := Int.ofNat_lt.2 hpl
        have hq1 : decide ((q : Int) < 0) = false := decide_eq_false (by omega)
        have hp1 : decide ((p : Int) < 0) = false := decide_eq_false (by omega)
        have hq2 : decide (l.length ≤ q) = false := decide_eq_false (by omega)
        have hp2 : decide (l.length ≤ p) = false := decide_eq_false (by omega)
        have gq := getD_at hq
        have gp := getD_at hp
        rw [f3] at gp
        clear f3 hq hp hpl
        generalize l.getD q default = s at gq gp
        obtain ⟨sa, sn, si, sp, sk, st⟩ := s
        have heq := eq_same sa sn si sp sk st
        rw [f1] at c1
        clear f1
        go_wp2_with fail
        refine c1.mono ?_
        clear c1
        rintro e w7 ⟨rfl, hb7⟩
        have c2 := first_any w7 (R8.later hb7) x d
        rw [f2, hMl.out] at c2
        clear f2
        go_wp2_with fail
        refine c2.mono ?_
        clear c2
        rintro e w8 ⟨rfl, hb8⟩
        have hb9 := below_step hb7 hb8
        clear hb7 hb8
        have c3 := order_any sortsTo_100 (by decide) w8 (R3.later hb9) (Nat.le_trans HL.out (by decide))
        rw [sort_len] at c3
        go_wp2_with fail
        refine c3.mono ?_
        clear c3
        rintro e w9 ⟨x9, k9, rfl, ⟨Ro, -⟩, hb10⟩
        have hb11 := below_step hb9 hb10
        clear hb9 hb10
        have c4 := order_any sortsTo_100 (by decide) w9 (R8.later hb11) (by rw [hMl.out]; exact Nat.le_trans HL.out (by decide))
        rw [hMs.out, sort_len, hMl.out] at c4
        go_wp2_with fail
        refine c4.mono ?_
        clear c4
        rintro e w10 ⟨x10, k10, rfl, ⟨Ro2, -⟩, hb12⟩
        have c5 := rsame8_any w10 (Ro.later hb12) Ro2
        rw [decide_eq_true (rfl : sortL l = sortL l), sort_len] at c5
        clear Ro Ro2
        go_wp2_with fail
        refine c5.mono ?_
        clear c5
        rintro e w11 ⟨rfl, hb13⟩
        have hb14 := below_step hb11 (below_step hb12 hb13)
        clear hb11 hb12 hb13
        obtain ⟨bby, ooy, eey, hly, hcy⟩ := (R3.later hb14).at gq
        cases eey
        have y0 := hcy 0 _ rfl
        have y1 := hcy 1 _ rfl
        have y2 := hcy 2 _ rfl
        have y3 := hcy 3 _ rfl
        have y4 := hcy 4 _ rfl
        have y5 := hcy 5 _ rfl
        rw [Nat.add_zero] at y0
        clear hcy hly
        obtain ⟨bbz, ooz, eez, hlz, hcz⟩ := (R8.later hb14).at gp
        cases eez
        have z0 := hcz 0 _ rfl
        have z1 := hcz 1 _ rfl
        have z2 := hcz 2 _ rfl
        have z3 := hcz 3 _ rfl
        have z4 := hcz 4 _ rfl
        have z5 := hcz 5 _ rfl
        rw [Nat.add_zero] at z0
        clear hcz hlz
        have hb15 := below_step hb3 hb14
        clear hb3 hb14 R3 R8 gq gp
        go_wp2_with fail
        go_quiet (fail)
        go_wp2_with fail
        go_ret
        exact ⟨rfl, hb15.trans (below_draws _ _ _)⟩

theorem walk (a : Option Addr) (c : Nat) (l : List Rl) (y x d : Int) (wy : (Lit.int .i64 y).wf = true) (wx : (Lit.int .i64 x).wf = true) (wd : (Lit.int .i64 d).wf = true) (w : World) (R : Rds fR 6 w a c l) :
    Calls Try.prog 6 #[.slice a l.length c, .int .i64 y, .int .i64 x, .int .i64 d] w fun e w' => e = .returned (.bool true) ∧ Below w.heap.size w w' := by
  by_cases hl : 60 < l.length
  · exact walk_long a c l y x d w R hl
  by_cases h0 : y < 0
  · exact walk_low a c l y x d w R (by omega) h0
  by_cases h1 : (l.length : Int) < y
  · exact walk_high a c l y x d w R (by omega) (by omega) h1
  obtain ⟨n, rfl⟩ : ∃ n : Nat, y = (n : Int) := ⟨y.toNat, by omega⟩
  cases a with
  | some x0 => exact walk_short x0 c l n x d w R (by omega) (by omega)
  | none =>
    have hc := R.nil rfl
    have hl0 : l = [] := List.eq_nil_of_length_eq_zero (by have h := R.le; omega)
    subst hl0; subst hc
    obtain rfl : n = 0 := by simp at h1; omega
    exact walk_none x d w

theorem own : ownKnob Try.prog.godebug = none := by kernel_rfl
theorem laidOut : laidOutB Try.prog = true := by kernel_rfl
set_option maxRecDepth 100000 in
theorem lifted (os : Os) (started : os.Started) (H : Type) (enc : TypeId × Value → H) :
    ReturnsInHanded {} Try.checked os 6 .any (Rows.pickTurnedSpec.pre6 enc Try.prog Try.f6 Rows.pickTurnedRow.domain false) (Rows.pickTurnedSpec.post enc Try.prog Try.f6 false true false false) := by
  refine returnsInHanded_of_change (C := Try.checked) own started (by kernel_rfl) Try.func6
    (ChangeSpec.witness6 (enc := enc) (C := Try.checked) false ⟨#[], #[.slice none 0 0, .int .i64 0, .int .i64 0, .int .i64 0], []⟩ 8 (by kernel_rfl) (by kernel_rfl) (by kernel_rfl) (by kernel_rfl)) ?_
  intro W base args ds gs before hval0 hW hcnd _
  have hval : ∀ (j : Nat) t v, Try.f6.params[j]? = some t → args[j]? = some v → Value.okWide Try.prog W .any base t v := hval0
  have hW' := hW
  obtain ⟨p, q, hA0, hV, rfl, hfz, hnd⟩ := hW
  have hA : DataW.TrodAll enc Try.prog W 0 (fun _ => true) true Try.f6.params.toList args.toList ds p := hA0
  rw [Try.params6] at hA hval
  obtain ⟨v0, vs0, d0, ds0, p0, q0, hargs, rfl, rfl, h0, r0⟩ := trodAll_cons hA
  obtain ⟨v1, vs1, d1, ds1, p1, q1, rfl, rfl, rfl, h1, r1⟩ := trodAll_cons r0
  obtain ⟨v2, vs2, d2, ds2, p2, q2, rfl, rfl, rfl, h2, r2⟩ := trodAll_cons r1
  obtain ⟨v3, vs3, d3, ds3, p3, q3, rfl, rfl, rfl, h3, r3⟩ := trodAll_cons r2
  obtain ⟨rfl, rfl, rfl⟩ := trodAll_nil r3
  obtain rfl : args = #[v0, v1, v2, v3] := by cases args; simp_all
  obtain ⟨rfl, rfl⟩ := trodVars_none hV
  obtain ⟨a0, n0, c0, rfl⟩ := okWide_slice Try.underlying22 (hval 0 22 v0 rfl rfl)
  have k0 := h0
  have lt0 : ∀ x ∈ p0, x.block < W.heap.size := by obtain ⟨m, hm⟩ := k0; exact DataW.trod_lt m _ _ _ hm
  have k1 := h1
  have lt1 : ∀ x ∈ p1, x.block < W.heap.size := by obtain ⟨m, hm⟩ := k1; exact DataW.trod_lt m _ _ _ hm
  have k2 := h2
  have lt2 : ∀ x ∈ p2, x.block < W.heap.size := by obtain ⟨m, hm⟩ := k2; exact DataW.trod_lt m _ _ _ hm
  have k3 := h3
  have lt3 : ∀ x ∈ p3, x.block < W.heap.size := by obtain ⟨m, hm⟩ := k3; exact DataW.trod_lt m _ _ _ hm
  obtain ⟨l0, el0, R0⟩ : ∃ l : List Pk.Rl, n0 = List.length l ∧ Rds fR 6 W a0 c0 l := by
    obtain ⟨fuel, hf⟩ := h0
    exact rds_of_trod Try.underlying22 (by kernel_rfl) (fun _ => rfl) (by decide) fR_len elemR (by simpa [Value.cells] using hf)
  subst el0
  obtain ⟨a1, rfl, rfl, hp1, w1⟩ := open_int Try.underlying3 (hval 1 3 v1 rfl rfl) h1
  obtain ⟨a2, rfl, rfl, hp2, w2⟩ := open_int Try.underlying3 (hval 2 3 v2 rfl rfl) h2
  obtain ⟨a3, rfl, rfl, hp3, w3⟩ := open_int Try.underlying3 (hval 3 3 v3 rfl rfl) h3
  clear hA0 hval0
  refine (walk a0 c0 l0 a1 a2 a3 w1 w2 w3 W R0).mono fun e W' ⟨he, bel⟩ => ?_
  subst he
  exact ⟨_, rfl, _, _, _, [], _, [], hW', trodAll_mk1 (shut_bool Try.underlying4 _), (trodAll_cons_mk (Below.trod laidOut (by kernel_rfl) (of_decide_eq_true (by kernel_rfl)) k0 bel lt0) (trodAll_cons_mk (Below.trod laidOut (by kernel_rfl) (of_decide_eq_true (by kernel_rfl)) k1 bel lt1) (trodAll_cons_mk (Below.trod laidOut (by kernel_rfl) (of_decide_eq_true (by kernel_rfl)) k2 bel lt2) (trodAll_cons_mk (Below.trod laidOut (by kernel_rfl) (of_decide_eq_true (by kernel_rfl)) k3 bel lt3) trodAll_mk0)))), rfl, bel.frame _, fun h => by cases h⟩

theorem over : Rows.pickTurnedRow.holds Try.pinned (OpenSpec.ofChange Rows.pickTurnedSpec) :=
  OpenClaim.holds_of_wide 6 Try.f6 rfl rfl rfl rfl rfl rfl rfl ⟨rfl, rfl, rfl, rfl, rfl⟩ rfl rfl rfl rfl rfl (by kernel_rfl) Try.func6 (by kernel_rfl)
    (of_decide_eq_true (by kernel_rfl)) (by unfold Func.isWrapper; first | (rw [if_pos (by decide +kernel)]; kernel_rfl) | (rw [if_neg (by decide +kernel)]; exact ⟨rfl, rfl⟩))
    (fun os started H enc _ => lifted os started H enc)
end Go.Proofs.Ytbjgnlednkegiaa.pickTurned
namespace Go.Proofs.Ytbjgnlednkegiaa
theorem pickTurned_holds : Rows.PickTurnedSaid := pickTurned.over
#print axioms pickTurned_holds
end Go.Proofs.Ytbjgnlednkegiaa
