/- What the document's Order answers: the one list in order. -/
import Derived.Test.YtnmijgnflemhkaaPickRefs
import Derived.Test.YtnmijgnflemhkaaMaths
import Derived.Test.YtnmijgnflemhkaaPickSteps
namespace Go.Proofs.Ytnmijgnflemhkaa
open Go.ChangeShapes Go.WideShapes Go.ChangeAt Go.RowKit Pk R
set_option linter.unusedVariables false
set_option linter.unusedSimpArgs false

theorem infoR8 : (Try.prog.info? 42).map (fun i => (i.zero, i.size, i.bytes)) = some (some (.agg #[.int .i64 0, .int .i64 0, .int .i64 0, .int .i64 0, .int .i64 0, .int .i64 0]), 6, 48) := by kernel_rfl
theorem Rds.drop {α : Type} {f : α → List Int} {sz : Nat} {w : World} {b o c : Nat} {l : List α} (h : Rds f sz w (some ⟨b, o, Option.none⟩) c l) (n : Nat) (hn : n ≤ l.length) : Rds f sz w (if c = n then some ⟨b, o, Option.none⟩ else some ⟨b, o + n * sz, Option.none⟩) (c - n) (l.drop n) := by
  have hle := h.le
  refine ⟨by rw [List.length_drop]; omega, Nat.le_trans (Nat.sub_le _ _) h.max, fun x hx => h.wf x (List.mem_of_mem_drop hx), fun e => (by split at e <;> cases e), fun hne => ?_⟩
  have hlt : n < l.length := by
    rcases Nat.lt_or_ge n l.length with h1 | h1
    · exact h1
    · exact absurd (List.drop_eq_nil_of_le h1) hne
  obtain ⟨b1, o1, e, hb, hc⟩ := h.cells (by intro h0; subst h0; simp at hlt)
  cases e
  rw [if_neg (by omega)]
  refine ⟨b, o + n * sz, rfl, hb, fun i x hx j y hy => ?_⟩
  have h1 := hc (n + i) x (by rw [← List.getElem?_drop]; exact hx) j y hy
  rw [Nat.add_mul, ← Nat.add_assoc o] at h1
  exact h1
theorem insL_wf {r : Rl} {q : Nat} {O l : List Rl} {k : Nat} (h1 : ∀ x ∈ l, ∀ z ∈ fR x, (Lit.int .i64 z).wf = true) (h2 : l[k]? = some r) (h3 : ∀ x ∈ O, ∀ z ∈ fR x, (Lit.int .i64 z).wf = true) : ∀ y ∈ insL r q O, ∀ z ∈ fR y, (Lit.int .i64 z).wf = true := by
  intro y hy
  rcases List.mem_append.1 ((insL_perm r q O).mem_iff.1 hy) with h | h
  · exact h3 y h
  · rw [List.mem_singleton.1 h]; exact h1 r (List.mem_of_getElem? h2)
theorem insL_step {r : Rl} {q : Nat} {O l : List Rl} (HO : Hid (O.length ≤ l.length ∧ O.Perm (l.take O.length) ∧ Pk.Ord O)) (HLT : Hid (O.length < l.length)) (HNX : Hid (l.take (O.length + 1) = l.take O.length ++ [r])) (HQL : Hid (q ≤ O.length))
    (HQ : Hid (∀ j, q ≤ j → ∀ s, O[j]? = some s → bef r s)) (HEND : Hid (q = 0 ∨ ∀ x, O[q - 1]? = some x → ¬ bef r x)) :
    Hid ((insL r q O).length ≤ l.length ∧ (insL r q O).Perm (l.take (insL r q O).length) ∧ Pk.Ord (insL r q O)) := by
  refine ⟨?_, ?_, insL_ord HO.out.2.2 HQL.out HQ.out HEND.out⟩
  · rw [insL_len]; exact HLT.out
  · rw [insL_len, HNX.out]
    exact (insL_perm r q O).trans (List.Perm.append_right [r] HO.out.2.1)
section
set_option maxRecDepth 100000
set_option maxHeartbeats 4000000
theorem rorder8_any (w : World) {a : Option Addr} {c : Nat} {l : List Rl} (R : Rds fR 6 w a c l) (hl : l.length ≤ 100) :
    Calls Try.prog 23 #[.slice a l.length c] w fun e w' => ∃ (x : Option Addr) (k : Nat), e = .returned (.slice x (sortL l).length k) ∧ (Rds fR 6 w' x k (sortL l) ∧ ∀ y, x = some y → w.heap.size ≤ y.block) ∧ Below w.heap.size w w' := by
  have HL : Hid (l.length ≤ 100) := hl
  clear hl
  go_enter Try.func23, Try.ntmps23
  go_wp2_with fail
  go_loopw [3, 4] (fun vo vi wr => ∃ (O : List Rl) (x : Option Addr) (kc : Nat), vo = .slice x O.length kc ∧ vi = .int .i64 (O.length : Nat) ∧ Hid (O.length ≤ l.length ∧ O.Perm (l.take O.length) ∧ Pk.Ord O) ∧ Rds fR 6 wr x kc O ∧ Hid (∀ y, x = some y → w.heap.size ≤ y.block) ∧ Below w.heap.size w wr) (fun _ vi _ => l.length - (intOf vi).toNat)
  case atStart => exact ⟨[], none, 0, rfl, rfl, ⟨Nat.zero_le _, List.Perm.refl _, List.Pairwise.nil⟩, Rds.none _ _ _, (show Hid _ from fun y hy => nomatch hy), Below.refl _ _⟩
  case round =>
    obtain ⟨O, x, kc, rfl, rfl, HO, RO, HX, hbr⟩ := hrel
    by_cases hlt : O.length < l.length
    · have hkz : (O.length : Int) < (l.length : Int) := Int.ofNat_lt.2 hlt
      have gl := getD_at hlt
      have HNX : Hid (l.take (O.length + 1) = l.take O.length ++ [l.getD O.length default]) := by
        show _ = _
        rw [List.take_add_one, getD_at hlt]; rfl
      generalize l.getD O.length default = r at gl HNX
      obtain ⟨ra, rn, ri, rp, rk, rt⟩ := r
      have HLT : Hid (O.length < l.length) := hlt
      clear hlt
      go_wp2_with fail
      go_loopw [5] (fun v wr2 => ∃ q : Nat, v = .int .i64 (q : Nat) ∧ q ≤ O.length ∧ Below wr.heap.size wr wr2 ∧ Hid (∀ j, q ≤ j → ∀ s, O[j]? = some s → bef ⟨ra, rn, ri, rp, rk, rt⟩ s)) (fun v _ => (intOf v).toNat)
      case atStart => exact ⟨O.length, rfl, Nat.le_refl _, Below.refl _ _, (show Hid _ from fun j hj s hs => by rw [List.getElem?_eq_none hj] at hs; cases hs)⟩
      case round =>
        obtain ⟨q, rfl, hq, hb2, HQ⟩ := hrel
        have HQL : Hid (q ≤ O.length) := hq
        clear hq
        rcases Nat.eq_zero_or_pos q with h0 | h0
        · subst h0
          have e0 : ((0 : Nat) : Int) = 0 := rfl
          rw [e0]
          clear e0
          cases x with
          | none =>
            go_wp2_with fail
            have hOl : O.length ≤ 100 := by have h := HL.out; have h2 := HLT.out; omega
            have hsz := hb2.size
            skip
            have hb4 := hb2
            have hsz4 := hsz
            obtain ⟨b9, o9, e9, hl9, hc9⟩ := (R.later (below_step hbr hb4)).at gl
            cases e9
            have x0 := hc9 0 _ rfl
            have x1 := hc9 1 _ rfl
            have x2 := hc9 2 _ rfl
            have x3 := hc9 3 _ rfl
            have x4 := hc9 4 _ rfl
            have x5 := hc9 5 _ rfl
            rw [Nat.add_zero] at x0
            clear hc9
            have hn2 : 0 + 1 ≤ 1000000 := by omega
            go_wp2_with (at_builtin; refine wpRds_one fR_len (by decide) _ (⟨ra, rn, ri, rp, rk, rt⟩ : Rl) 42 rfl rfl (.tmp 36) (.tmp 41) 32 rfl _ 48 _ Try.underlying32 infoR8 rfl (v := .slice none 0 0) (n := 0) (ys := []) rfl (World.ownsRow_nil _ _ _ _) rfl hn2 (by decide) hsz4 ?_; intro v5 w5 own5 hg5; apply Classical.byContradiction; intro hstop)
            have hb5 := below_growR (hb4.alloc hsz4 (.cells ((fR (⟨ra, rn, ri, rp, rk, rt⟩ : Rl)).map (Value.int .i64)).toArray 42)) ((World.ownsRow_nil _ _ 42 6).alloc _) hg5 (Nat.le_trans hsz4 (below_new _ _).size)
            have hsz5 := hb5.size
            clear x0 x1 x2 x3 x4 x5 hg5 hn2
            simp only [Nat.zero_add, List.nil_append] at own5
            apply hstop
            clear hstop
            have hn3 : 1 + O.length ≤ 1000000 := by omega
            go_wp2_with (at_builtin; refine wpRds_join fR_len (by decide) rfl (.tmp 43) (.tmp 46) 32 rfl _ 42 48 _ Try.underlying32 infoR8 rfl rfl own5 rfl (RO.later hb5) rfl hn3 (by decide) hsz5 ?_; intro v6 w6 own6 hg6)
            have hb6 := below_growR hb5 own5 hg6 hsz5
            clear own5 hg6
            rw [show [(⟨ra, rn, ri, rp, rk, rt⟩ : Rl)] ++ O = insL (⟨ra, rn, ri, rp, rk, rt⟩ : Rl) 0 O from rfl, show 1 + O.length = (insL (⟨ra, rn, ri, rp, rk, rt⟩ : Rl) 0 O).length by rw [insL_len]; omega] at own6
            have hwf : ∀ y ∈ insL (⟨ra, rn, ri, rp, rk, rt⟩ : Rl) 0 O, ∀ z ∈ fR y, (Lit.int .i64 z).wf = true := insL_wf R.wf gl RO.wf
            obtain ⟨x6, k6, rfl, R6, hx6⟩ := rds_of_owns2 fR_len own6 rfl hwf
            clear own6 hwf
            have hbo := below_step hbr hb6
            have HO6 : Hid ((insL (⟨ra, rn, ri, rp, rk, rt⟩ : Rl) 0 O).length ≤ l.length ∧ (insL (⟨ra, rn, ri, rp, rk, rt⟩ : Rl) 0 O).Perm (l.take (insL (⟨ra, rn, ri, rp, rk, rt⟩ : Rl) 0 O).length) ∧ Pk.Ord (insL (⟨ra, rn, ri, rp, rk, rt⟩ : Rl) 0 O)) := insL_step HO HLT HNX HQL HQ (show Hid _ from .inl rfl)
            have HX6 : Hid (∀ y, x6 = some y → w.heap.size ≤ y.block) := (show Hid _ from fun y hy => Nat.le_trans hbr.size (hx6 y hy).1)
            have hil : (insL (⟨ra, rn, ri, rp, rk, rt⟩ : Rl) 0 O).length = O.length + 1 := insL_len _ _ _
            go_roundw
            case rel => exact ⟨insL (⟨ra, rn, ri, rp, rk, rt⟩ : Rl) 0 _, x6, k6, rfl, by rw [hil]; go_num, HO6, R6, HX6, hbo⟩
            case measure => simp [intOf]; omega
          | some x0 =>
            go_wp2_with fail
            have hOl : O.length ≤ 100 := by have h := HL.out; have h2 := HLT.out; omega
            have hsz := hb2.size
            skip
            have hb4 := hb2
            have hsz4 := hsz
            obtain ⟨b9, o9, e9, hl9, hc9⟩ := (R.later (below_step hbr hb4)).at gl
            cases e9
            have x0 := hc9 0 _ rfl
            have x1 := hc9 1 _ rfl
            have x2 := hc9 2 _ rfl
            have x3 := hc9 3 _ rfl
            have x4 := hc9 4 _ rfl
            have x5 := hc9 5 _ rfl
            rw [Nat.add_zero] at x0
            clear hc9
            have hn2 : 0 + 1 ≤ 1000000 := by omega
            go_wp2_with (at_builtin; refine wpRds_one fR_len (by decide) _ (⟨ra, rn, ri, rp, rk, rt⟩ : Rl) 42 rfl rfl (.tmp 36) (.tmp 41) 32 rfl _ 48 _ Try.underlying32 infoR8 rfl (v := .slice none 0 0) (n := 0) (ys := []) rfl (World.ownsRow_nil _ _ _ _) rfl hn2 (by decide) hsz4 ?_; intro v5 w5 own5 hg5; apply Classical.byContradiction; intro hstop)
            have hb5 := below_growR (hb4.alloc hsz4 (.cells ((fR (⟨ra, rn, ri, rp, rk, rt⟩ : Rl)).map (Value.int .i64)).toArray 42)) ((World.ownsRow_nil _ _ 42 6).alloc _) hg5 (Nat.le_trans hsz4 (below_new _ _).size)
            have hsz5 := hb5.size
            clear x0 x1 x2 x3 x4 x5 hg5 hn2
            simp only [Nat.zero_add, List.nil_append] at own5
            apply hstop
            clear hstop
            have hn3 : 1 + O.length ≤ 1000000 := by omega
            go_wp2_with (at_builtin; refine wpRds_join fR_len (by decide) rfl (.tmp 43) (.tmp 46) 32 rfl _ 42 48 _ Try.underlying32 infoR8 rfl rfl own5 rfl (RO.later hb5) rfl hn3 (by decide) hsz5 ?_; intro v6 w6 own6 hg6)
            have hb6 := below_growR hb5 own5 hg6 hsz5
            clear own5 hg6
            rw [show [(⟨ra, rn, ri, rp, rk, rt⟩ : Rl)] ++ O = insL (⟨ra, rn, ri, rp, rk, rt⟩ : Rl) 0 O from rfl, show 1 + O.length = (insL (⟨ra, rn, ri, rp, rk, rt⟩ : Rl) 0 O).length by rw [insL_len]; omega] at own6
            have hwf : ∀ y ∈ insL (⟨ra, rn, ri, rp, rk, rt⟩ : Rl) 0 O, ∀ z ∈ fR y, (Lit.int .i64 z).wf = true := insL_wf R.wf gl RO.wf
            obtain ⟨x6, k6, rfl, R6, hx6⟩ := rds_of_owns2 fR_len own6 rfl hwf
            clear own6 hwf
            have hbo := below_step hbr hb6
            have HO6 : Hid ((insL (⟨ra, rn, ri, rp, rk, rt⟩ : Rl) 0 O).length ≤ l.length ∧ (insL (⟨ra, rn, ri, rp, rk, rt⟩ : Rl) 0 O).Perm (l.take (insL (⟨ra, rn, ri, rp, rk, rt⟩ : Rl) 0 O).length) ∧ Pk.Ord (insL (⟨ra, rn, ri, rp, rk, rt⟩ : Rl) 0 O)) := insL_step HO HLT HNX HQL HQ (show Hid _ from .inl rfl)
            have HX6 : Hid (∀ y, x6 = some y → w.heap.size ≤ y.block) := (show Hid _ from fun y hy => Nat.le_trans hbr.size (hx6 y hy).1)
            have hil : (insL (⟨ra, rn, ri, rp, rk, rt⟩ : Rl) 0 O).length = O.length + 1 := insL_len _ _ _
            go_roundw
            case rel => exact ⟨insL (⟨ra, rn, ri, rp, rk, rt⟩ : Rl) 0 _, x6, k6, rfl, by rw [hil]; go_num, HO6, R6, HX6, hbo⟩
            case measure => simp [intOf]; omega
        · obtain ⟨p, hp⟩ : ∃ p, q - 1 = p := ⟨_, rfl⟩
          have HP : Hid (p + 1 = q) := by show _ = _; omega
          have hqz : (0 : Int) < (q : Int) := by omega
          have hqd : decide ((q : Int) > 0) = true := decide_eq_true hqz
          have hqn : 0 < q := h0
          have hpO : p < O.length := by have h := HQL.out; omega
          have hpz : (p : Int) < (O.length : Int) := Int.ofNat_lt.2 hpO
          clear hp
          have gp := getD_at hpO
          generalize O.getD p default = s at gp
          obtain ⟨sa, sn, si, sp, sk, st⟩ := s
          have zm : (q : Int) - 1 = (p : Int) := by have h := HP.out; omega
          have lm : p ≤ 4000000 := by have h := HQL.out; have h2 := HP.out; have h3 := HL.out; have h4 := HLT.out; omega
          have m1 := w64_of zm lm
          have m2 := w64i_of zm lm
          clear zm lm hpO
          have hbw := below_step hbr hb2
          obtain ⟨b1, o1, e1, hl1, hc1⟩ := (R.later hbw).at gl
          cases e1
          obtain ⟨b2, o2, e2, hl2, hc2⟩ := (RO.later hb2).at gp
          cases e2
          have z0 := cell_bw (a := ⟨b1, o1 + O.length * 6, none⟩) hl1 (by have h := hc1 0 _ rfl; rw [Nat.add_zero] at h; exact h)
          have t0 := cell_bw (a := ⟨b2, o2 + p * 6, none⟩) hl2 (by have h := hc2 0 _ rfl; rw [Nat.add_zero] at h; exact h)
          have z1 := cell_bw (a := ⟨b1, o1 + O.length * 6 + 1, none⟩) hl1 (hc1 1 _ rfl)
          have t1 := cell_bw (a := ⟨b2, o2 + p * 6 + 1, none⟩) hl2 (hc2 1 _ rfl)
          have z2 := cell_bw (a := ⟨b1, o1 + O.length * 6 + 2, none⟩) hl1 (hc1 2 _ rfl)
          have t2 := cell_bw (a := ⟨b2, o2 + p * 6 + 2, none⟩) hl2 (hc2 2 _ rfl)
          have z3 := cell_bw (a := ⟨b1, o1 + O.length * 6 + 3, none⟩) hl1 (hc1 3 _ rfl)
          have t3 := cell_bw (a := ⟨b2, o2 + p * 6 + 3, none⟩) hl2 (hc2 3 _ rfl)
          have z4 := cell_bw (a := ⟨b1, o1 + O.length * 6 + 4, none⟩) hl1 (hc1 4 _ rfl)
          have t4 := cell_bw (a := ⟨b2, o2 + p * 6 + 4, none⟩) hl2 (hc2 4 _ rfl)
          have z5 := cell_bw (a := ⟨b1, o1 + O.length * 6 + 5, none⟩) hl1 (hc1 5 _ rfl)
          have t5 := cell_bw (a := ⟨b2, o2 + p * 6 + 5, none⟩) hl2 (hc2 5 _ rfl)
          have cA := fun u : BW wr => calls_bw (p := u) (rbefore_any ra rn ri rp rk rt sa sn si sp sk st u.w)
          clear hc1 hc2
          cases hA : decide (bef ⟨ra, rn, ri, rp, rk, rt⟩ ⟨sa, sn, si, sp, sk, st⟩) with
          | true =>
            rw [hA] at cA
            have HQ2 : Hid (∀ j, p ≤ j → ∀ s, O[j]? = some s → bef ⟨ra, rn, ri, rp, rk, rt⟩ s) := by
              intro j hj s hs
              by_cases e : j = p
              · subst e; rw [gp] at hs; cases hs; exact of_decide_eq_true hA
              · exact HQ.out j (by have h := HP.out; omega) s hs
            clear hA HQ
            go_wp2_with fail
            refine wp_region_below (by kernel_rfl) (by kernel_rfl) ?_
            repeat (quiet_step ((go_at_call 33; exact cA _)))
            refine wpQuiet_nil ?_
            rintro _ ⟨bw, rfl⟩
            have hb3 := below_step hb2 bw.hb
            clear cA z0 z1 z2 z3 z4 z5 t0 t1 t2 t3 t4 t5
            generalize bw.w = w3 at hb3 ⊢
            clear bw
            go_wp2_with fail
            clear m1 m2
            go_roundw
            case rel => exact ⟨p, rfl, by have h := HQL.out; have h2 := HP.out; omega, hb3, HQ2⟩
            case measure => simp [intOf]; have h2 := HP.out; omega
          | false =>
            rw [hA] at cA
            have HEND : Hid (q = 0 ∨ ∀ x, O[q - 1]? = some x → ¬ bef ⟨ra, rn, ri, rp, rk, rt⟩ x) := .inr (fun x hx => by
              rw [← HP.out, Nat.add_sub_cancel, gp] at hx; cases hx; exact of_decide_eq_false hA)
            clear hA
            go_wp2_with fail
            refine wp_region_below (by kernel_rfl) (by kernel_rfl) ?_
            repeat (quiet_step ((go_at_call 33; exact cA _)))
            refine wpQuiet_nil ?_
            rintro _ ⟨bw, rfl⟩
            have hb3 := below_step hb2 bw.hb
            clear cA z0 z1 z2 z3 z4 z5 t0 t1 t2 t3 t4 t5
            generalize bw.w = w3 at hb3 ⊢
            clear bw
            have hOl : O.length ≤ 100 := by have h := HL.out; have h2 := HLT.out; omega
            have hsz := hb3.size
            have RT := (RO.later hb3).take q
            have hqm : q ≤ O.length := HQL.out
            have hTL : (O.take q).length = q := by rw [List.length_take]; omega
            have hqk : q ≤ kc := Nat.le_trans hqm RO.le
            have hqkz : (q : Int) ≤ (kc : Int) := Int.ofNat_le.2 hqk
            have hn1 : 0 + q ≤ 1000000 := by omega
            go_wp2_with (at_builtin; refine wpRds_join fR_len (by decide) rfl (.const (.slice none 0 0)) (.tmp 34) 32 rfl _ 42 48 _ Try.underlying32 infoR8 rfl (v := .slice none 0 0) (n := 0) (ys := []) rfl (World.ownsRow_nil _ _ _ _) rfl RT hTL hn1 (by decide) hsz ?_; intro v4 w4 own4 hg4; apply Classical.byContradiction; intro hstop)
            have hb4 := below_growR hb3 (World.ownsRow_nil _ _ 42 6) hg4 hsz
            simp only [Nat.zero_add, List.nil_append] at own4
            have hsz4 := hb4.size
            clear RT hTL hn1 hg4 hsz
            obtain ⟨b9, o9, e9, hl9, hc9⟩ := (R.later (below_step hbr hb4)).at gl
            cases e9
            have x0 := hc9 0 _ rfl
            have x1 := hc9 1 _ rfl
            have x2 := hc9 2 _ rfl
            have x3 := hc9 3 _ rfl
            have x4 := hc9 4 _ rfl
            have x5 := hc9 5 _ rfl
            rw [Nat.add_zero] at x0
            clear hc9
            apply hstop
            clear hstop
            have hn2 : q + 1 ≤ 1000000 := by omega
            go_wp2_with (at_builtin; refine wpRds_one fR_len (by decide) _ (⟨ra, rn, ri, rp, rk, rt⟩ : Rl) 42 rfl rfl (.tmp 36) (.tmp 41) 32 rfl _ 48 _ Try.underlying32 infoR8 rfl rfl own4 rfl hn2 (by decide) hsz4 ?_; intro v5 w5 own5 hg5; apply Classical.byContradiction; intro hstop)
            have hb5 := below_growR (hb4.alloc hsz4 (.cells ((fR (⟨ra, rn, ri, rp, rk, rt⟩ : Rl)).map (Value.int .i64)).toArray 42)) (own4.alloc _) hg5 (Nat.le_trans hsz4 (below_new _ _).size)
            have hsz5 := hb5.size
            clear x0 x1 x2 x3 x4 x5 hg5 hn2 own4
            apply hstop
            clear hstop
            have hn3 : q + 1 + (O.length - q) ≤ 1000000 := by omega
            go_wp2_with (at_builtin; refine wpRds_join fR_len (by decide) rfl (.tmp 43) (.tmp 46) 32 rfl _ 42 48 _ Try.underlying32 infoR8 rfl rfl own5 rfl ((RO.later hb5).drop q hqm) (show (O.drop q).length = O.length - q from List.length_drop) hn3 (by decide) hsz5 ?_; intro v6 w6 own6 hg6)
            have hb6 := below_growR hb5 own5 hg6 hsz5
            clear own5 hg6
            rw [show (O.take q ++ [(⟨ra, rn, ri, rp, rk, rt⟩ : Rl)]) ++ O.drop q = insL (⟨ra, rn, ri, rp, rk, rt⟩ : Rl) q O from List.append_assoc _ _ _, show q + 1 + (O.length - q) = (insL (⟨ra, rn, ri, rp, rk, rt⟩ : Rl) q O).length by rw [insL_len]; omega] at own6
            have hwf : ∀ y ∈ insL (⟨ra, rn, ri, rp, rk, rt⟩ : Rl) q O, ∀ z ∈ fR y, (Lit.int .i64 z).wf = true := insL_wf R.wf gl RO.wf
            obtain ⟨x6, k6, rfl, R6, hx6⟩ := rds_of_owns2 fR_len own6 rfl hwf
            clear own6 hwf
            have hbo := below_step hbr hb6
            have HO6 : Hid ((insL (⟨ra, rn, ri, rp, rk, rt⟩ : Rl) q O).length ≤ l.length ∧ (insL (⟨ra, rn, ri, rp, rk, rt⟩ : Rl) q O).Perm (l.take (insL (⟨ra, rn, ri, rp, rk, rt⟩ : Rl) q O).length) ∧ Pk.Ord (insL (⟨ra, rn, ri, rp, rk, rt⟩ : Rl) q O)) := insL_step HO HLT HNX HQL HQ HEND
            have HX6 : Hid (∀ y, x6 = some y → w.heap.size ≤ y.block) := (show Hid _ from fun y hy => Nat.le_trans hbr.size (hx6 y hy).1)
            have hil : (insL (⟨ra, rn, ri, rp, rk, rt⟩ : Rl) q O).length = O.length + 1 := insL_len _ _ _
            go_roundw
            case rel => exact ⟨insL (⟨ra, rn, ri, rp, rk, rt⟩ : Rl) q _, x6, k6, rfl, by rw [hil]; go_num, HO6, R6, HX6, hbo⟩
            case measure => simp [intOf]; omega
    · have hke : O.length = l.length := by have h := HO.out.1; omega
      have hkz : ¬ (O.length : Int) < (l.length : Int) := by omega
      have hkn : (O.length < l.length) = False := eq_false hlt
      have HS : Hid (O = sortL l) := by
        show _ = _
        refine sort_is ?_ HO.out.2.2
        have h := HO.out.2.1
        rw [hke, List.take_length] at h
        exact h
      clear hke hlt
      go_wp2_with fail
      go_ret
      obtain rfl := HS.out
      exact ⟨x, kc, rfl, ⟨RO, HX.out⟩, hbr⟩
end
end Go.Proofs.Ytnmijgnflemhkaa
