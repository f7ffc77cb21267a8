/- The bytes of a tag's rules, as the code's function to range over feeds them. -/
import Derived.Test.YtinmhjgnapbkmaaDigFeed
import Derived.Test.YtinmhjgnapbkmaaRulePut
import Derived.Test.YtinmhjgnapbkmaaPickAll
namespace Go.Proofs.Ytinmhjgnapbkmaa
open Go.ChangeShapes Go.WideShapes Go.ChangeAt Go.RowKit O Dg Pk R
set_option linter.unusedVariables false
set_option linter.unusedSimpArgs false
attribute [local go_sem] Oper.semAt_some

/-- what the caller knows stays behind whatever makes new memory only -/
theorem Takes.below {l N0 n0 : Nat} {J : List Int → (Nat → Prop) → World → Prop} (h : Takes l N0 n0 J) {pre : List Int} {T : Nat → Prop} {W W' : World} (hj : J pre T W) (hb : Below W.heap.size W W') : J pre T W' :=
  h.step pre T W W' hj (Keeps.of_below hb)
set_option maxRecDepth 100000 in
set_option maxHeartbeats 2000000 in
theorem ofRules_feeds (w0 : World) {bt bl : Nat} {t : Int} {a : Option Addr} {c : Nat} {S : List Rl} (h1 : w0.cell? ⟨bt, 0, none⟩ = some (.int .i64 t)) (h2 : w0.cell? ⟨bl, 0, none⟩ = some (.slice a S.length c))
    (hbt : bt < w0.heap.size) (hbl : bl < w0.heap.size) (R : Rds fR 6 w0 a c S) (hS : S.length ≤ 100) :
    Feeds 28 #[.pointer (some ⟨bt, 0, none⟩), .pointer (some ⟨bl, 0, none⟩)] (ofL t S) w0 := by
  intro n l J T W hW hT h0
  have hro : Fence.wide.round = none := rfl
  obtain ⟨i0, hi, hz0, hz1, hz2⟩ := info_parts info8
  have cw := fun (w : World) => (callsIn_wide (n := n - 1)).2 (word_any t w)
  have co := fun (w : World) (R : Rds fR 6 w a c S) => (callsIn_wide (n := n - 1)).2 (order_any sortsTo_100 (by decide) w R hS)
  have c1 := (hW.cell (p := ⟨bt, 0, none⟩) hbt).trans h1
  refine callsIn_of_wp Try.func28 rfl trivial ?_ hro
  simp only [Try.ntmps28, List.size_toArray, List.length_cons, List.length_nil, Nat.reduceAdd, Nat.reduceSub, Array.replicate_succ, Array.replicate_zero, List.push_toArray, List.append_toArray, List.nil_append, List.cons_append]
  have hdd : ∀ k : Nat, (Fence.wide.depth.isSome = true → 1 ≤ k) := fun k h => by cases h
  gi_wp2_with fail
  refine ⟨trivial, hdd _, ?_⟩
  gi_at_call 29
  refine (cw _).mono ?_
  rintro e w1 ⟨ad, k1, rfl, R1, hb1⟩
  obtain ⟨fn, tmps, assign, body, hy, hR⟩ := hT.take [] (wordL t) ad k1 (n - 1) T w1 (hT.below h0 hb1) hb1.size R1 (by rw [word_len]; decide) (by simp)
  rw [word_len] at hy
  gi_wp2_with fail
  refine ⟨hdd _, ?_⟩
  refine hR.mono ?_
  rintro e w2 ⟨rfl, T2, hj2, hk2, hT2⟩
  have hbase := hT.base _ _ _ (hT.below h0 hb1)
  have hB : Below w0.heap.size w0 w2 := (hW.trans (hb1.mono hW.size)).trans (hk2.below (Nat.le_trans hW.size hb1.size) (fun k h => (hbase k h).1))
  have c2 := (hB.cell (p := ⟨bl, 0, none⟩) hbl).trans h2
  have R2 := R.later hB
  have hs2 : W.heap.size ≤ w2.heap.size := Nat.le_trans hb1.size hk2.size
  clear hR hy hk2 hbase R1
  gi_wp2_with fail
  refine ⟨trivial, hdd _, ?_⟩
  gi_at_call 30
  refine (co _ R2).mono ?_
  rintro e w3 ⟨x, k3, rfl, ⟨R3, hx3⟩, hb3⟩
  have hlen : (sortL S).length = S.length := (sort_perm S).length_eq
  have hj3 := hT.below hj2 hb3
  have HN : Hid (∀ y, x = some y → ¬ T2 y.block) := fun y hy h => by
    have h3 := (hT.base _ _ _ hj2 _ h).2
    have h4 := hx3 y hy
    omega
  have hs3 : W.heap.size ≤ w3.heap.size := Nat.le_trans hs2 hb3.size
  clear hj2 hb3 hx3 R2 c2 hB hs2 hb1 c1 h0
  have HO : Hid (ofL t S = wordL t ++ rusB (sortL S)) := rfl
  generalize sortL S = O at R3 hlen HO
  have hO100 : O.length ≤ 100 := by omega
  gi_wp2_with fail
  gi_loopw [16] (fun vi wr => ∃ (k : Nat) (T : Nat → Prop), vi = .int .i64 (k : Nat) ∧ Hid (k ≤ O.length) ∧ Hid (J (wordL t ++ rusB (O.take k)) T wr) ∧ Rds fR 6 wr x k3 O ∧ Hid (∀ y, x = some y → ¬ T y.block) ∧ Hid (W.heap.size ≤ wr.heap.size)) (fun vi _ => O.length - (intOf vi).toNat)
  case atStart => exact ⟨0, T2, rfl, Nat.zero_le _, show J _ _ _ by simpa [rusB_nil] using hj3, R3, HN, hs3⟩
  case round =>
    obtain ⟨k, T, rfl, HK, HJ, RO, HNT, HS⟩ := hrel
    by_cases hlt : k < O.length
    · have hkz : (k : Int) < (O.length : Int) := Int.ofNat_lt.2 hlt
      obtain ⟨b, o, rfl, hbr1, hc⟩ := RO.at (getD_at hlt)
      have HTK : Hid (rusB (O.take (k + 1)) = rusB (O.take k) ++ ruB (O.getD k default)) := by
        show _ = _
        rw [List.take_add_one, getD_at hlt]
        exact rusB_snoc _ _
      have HPL : Hid ((wordL t ++ rusB (O.take k)).length ≤ 10000) := by
        show _ ≤ _
        have h1 := rusB_len (O.take k)
        rw [List.length_take] at h1
        rw [List.length_append, word_len]
        omega
      have HLT : Hid (k < O.length) := hlt
      clear hlt
      generalize O.getD k default = r at hc HTK
      obtain ⟨ra, rn, ri, rp, rk, rt⟩ := r
      have v0 := hc 0 _ rfl
      have v1 := hc 1 _ rfl
      have v2 := hc 2 _ rfl
      have v3 := hc 3 _ rfl
      have v4 := hc 4 _ rfl
      have v5 := hc 5 _ rfl
      simp only [Nat.add_zero] at v0
      clear hc
      have hbA := below_new wr (.cells #[.int .i64 ra, .int .i64 rn, .int .i64 ri, .int .i64 rp, .int .i64 rk, .int .i64 rt] 35)
      cases hm : okR ra rn ri rp rk rt
      · have HB : Hid (ruB ⟨ra, rn, ri, rp, rk, rt⟩ = []) := ruB_no hm
        have cp := fun (w : World) => (callsIn_wide (n := n - 1)).2 (ruPut_bad hm w)
        gi_wp2_with fail
        refine ⟨trivial, hdd _, ?_⟩
        gi_at_call 31
        refine (cp _).mono ?_
        rintro e w4 ⟨rfl, hb4⟩
        have hb5 := below_step hbA hb4
        gi_wp2_with fail
        go_roundw
        case rel => exact ⟨k + 1, T, by go_num, HLT.out, (show J _ _ _ by rw [HTK.out, HB.out, List.append_nil]; exact hT.below HJ.out hb5), RO.later hb5, HNT, Nat.le_trans HS.out hb5.size⟩
        case measure => have h := HLT.out; simp [intOf]; omega
      · have HB : Hid (ruB ⟨ra, rn, ri, rp, rk, rt⟩ = bodyR ra rn ri rp rk rt ++ [0]) := ruB_yes hm
        have HBL : Hid ((ruB ⟨ra, rn, ri, rp, rk, rt⟩).length = 10) := ruB_len hm
        have cp := fun (w : World) => (callsIn_wide (n := n - 1)).2 (ruPut_ok hm w)
        gi_wp2_with fail
        refine ⟨trivial, hdd _, ?_⟩
        gi_at_call 31
        refine (cp _).mono ?_
        rintro e w4 ⟨y, k4, rfl, R4, own4, hb4⟩
        have hsA := hb4.size
        rw [World.size_alloc] at hsA
        gi_wp2_with (gi_at_builtin; apply Classical.byContradiction; intro hstop)
        apply hstop
        clear hstop
        refine wpListIn_append_own _ rfl _ _ 48 rfl (wr.heap.size + 1) 5 i0 (.int .u8 0) 1 1 Try.underlying48 hi hz0 hz1 hz2 rfl (by decide) _ _ _ rfl ((own_mono own4 (by simp)).alloc _) ⟨w4.heap.size, 0, none⟩ 1 1 [.int .u8 0] rfl rfl (cell_one_new _ _ _) (ints_oneCell .u8 [_]) (by unfold maxLen; omega) (by omega) (by simp; omega) ?_
        intro v' w5 own5 hgrow5 _
        have eB : bodyR ra rn ri rp rk rt ++ [0] = ruB ⟨ra, rn, ri, rp, rk, rt⟩ := HB.out.symm
        have own6 : w5.ownsRow (wr.heap.size + 1) 5 1 v' 10 ((ruB ⟨ra, rn, ri, rp, rk, rt⟩).map (Value.int .u8)) := by
          rw [← eB, List.map_append]; exact own5
        obtain ⟨y5, c5, rfl, R5, -⟩ := reads_of_owns own6 (fun z hz => wf_u8_mk (ruB_oct _ z hz).1 (ruB_oct _ z hz).2)
        obtain ⟨b5, o5, rfl, -, -⟩ := R5.cells (by intro h; have := HBL.out; rw [h] at this; cases this)
        have hb5 : Below wr.heap.size wr w5 := by
          refine below_step hbA ?_
          rw [World.size_alloc]
          exact below_grow ((hb4.mono (by simp)).alloc hsA _) ((own_mono own4 (by simp)).alloc _) hgrow5 (by simp; omega)
        rw [HBL.out] at own6 ⊢
        obtain ⟨fn6, tmps6, assign6, body6, hy6, hR6⟩ := hT.take _ _ ⟨b5, o5, none⟩ c5 (n - 1) T w5 (hT.below HJ.out hb5) (Nat.le_trans HS.out hb5.size) R5 (Nat.le_of_eq HBL.out) HPL.out
        rw [HBL.out] at hy6
        clear own5 own6 eB hgrow5 R4 own4
        gi_wp2_with fail
        refine ⟨hdd _, ?_⟩
        refine hR6.mono ?_
        rintro e w6 ⟨rfl, T6, hj6, hk6, hT6⟩
        have hbase := hT.base _ _ _ (hT.below HJ.out hb5)
        clear hR6 hy6
        gi_wp2_with fail
        go_roundw
        case rel =>
          refine ⟨k + 1, T6, by go_num, HLT.out, (show J _ _ _ by rw [HTK.out, ← List.append_assoc]; exact hj6), (RO.later hb5).kept hk6 (fun y hy _ => HNT.out y hy), (show Hid _ from fun y hy h => ?_), Nat.le_trans HS.out (Nat.le_trans hb5.size hk6.size)⟩
          rcases hT6 _ h with h | h
          · exact HNT.out y hy h
          · cases hy
            have := hb5.size
            have e1 : b < wr.heap.size := hbr1
            have e2 : w5.heap.size ≤ b := h
            omega
        case measure => have h := HLT.out; simp [intOf]; omega
    · have hke : k = O.length := by have h := HK.out; omega
      have hkz : ¬ (k : Int) < (O.length : Int) := by omega
      have HF : Hid (J (ofL t S) T wr) := by
        show J _ _ _
        have h := HJ.out
        rw [hke, List.take_length] at h
        rw [HO.out]; exact h
      clear hke hlt HK HJ
      gi_wp2_with fail
      go_end0
      exact ⟨⟨_, rfl⟩, T, HF.out⟩
end Go.Proofs.Ytinmhjgnapbkmaa
