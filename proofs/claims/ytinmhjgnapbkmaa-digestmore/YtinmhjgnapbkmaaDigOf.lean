/- What the code's Of and All answer. -/
import Derived.Test.YtinmhjgnapbkmaaDigRules
import Derived.Test.YtinmhjgnapbkmaaDigFeed
import Derived.Test.YtinmhjgnapbkmaaTabOpen
namespace Go.Proofs.Ytinmhjgnapbkmaa
open Go.ChangeShapes Go.WideShapes Go.ChangeAt Go.RowKit O Dg Pk Tb R
set_option linter.unusedVariables false
set_option linter.unusedSimpArgs false
attribute [local go_sem] Oper.semAt_some

theorem of_any (t : Int) (w : World) {a : Option Addr} {c : Nat} {l : List Rl} (R : Rds fR 6 w a c l) (hl : l.length ≤ 100) :
    Calls Try.prog 11 #[.int .i64 t, .slice a l.length c] w fun e w' => e = .returned (.int .i64 (ofN t l)) ∧ Below w.heap.size w w' := by
  obtain ⟨W, hW⟩ : ∃ W, (w.alloc (.cells #[.int .i64 t] 3)).alloc (.cells #[.slice a l.length c] 22) = W := ⟨_, rfl⟩
  have hb : Below w.heap.size w W := by rw [← hW]; exact ((Below.refl _ w).alloc (Nat.le_refl _) _).alloc (by simp) _
  have hsz : W.heap.size = w.heap.size + 2 := by rw [← hW]; simp
  have b2 : Boxed W (w.heap.size + 1) 22 (.slice a l.length c) := by
    have := Boxed.new (w.alloc (.cells #[.int .i64 t] 3)) 22 (.slice a l.length c)
    rwa [World.size_alloc, hW] at this
  have b1 : Boxed W w.heap.size 3 (.int .i64 t) := by rw [← hW]; exact (Boxed.new w 3 (.int .i64 t)).alloc _
  have hF := ofRules_feeds W b1.cell b2.cell b1.lt b2.lt (R.later hb) hl
  have hlen := ofL_len t l
  have cs := sum_feeds W (enters_of Try.func28 (by kernel_rfl) rfl) hF (by omega) (ofL_oct t l)
  have co := ofRules_any t a l.length c w
  go_enter Try.func11, Try.ntmps11
  go_wp2_with fail
  refine co.mono ?_
  rintro e w1 ⟨rfl, rfl⟩
  rw [hW]
  go_wp2_with fail
  refine cs.mono ?_
  rintro e w2 ⟨rfl, hb2⟩
  go_wp2_with fail
  go_ret
  exact ⟨rfl, below_step hb hb2⟩
set_option maxRecDepth 100000 in
set_option maxHeartbeats 2000000 in
theorem ofVersions_feeds (w0 : World) {bl : Nat} {a : Option Addr} {c : Nat} {S : List Vr} (h2 : w0.cell? ⟨bl, 0, none⟩ = some (.slice a S.length c))
    (hbl : bl < w0.heap.size) (V : Vers 0 w0 a c S) (hS : S.length ≤ 100) (hS2 : ∀ v ∈ S, v.l.length ≤ 100) :
    Feeds 36 #[.pointer (some ⟨bl, 0, none⟩)] (allL S) w0 := by
  intro n l J T W hW hT h0
  have hro : Fence.wide.round = none := rfl
  have cw := fun (t : Int) (w : World) => (callsIn_wide (n := n - 1)).2 (word_any t w)
  have c2 := (hW.cell (p := ⟨bl, 0, none⟩) hbl).trans h2
  have hdd : ∀ k : Nat, (Fence.wide.depth.isSome = true → 1 ≤ k) := fun k h => by cases h
  refine callsIn_of_wp Try.func36 rfl trivial ?_ hro
  simp only [Try.ntmps36, List.size_toArray, List.length_cons, List.length_nil, Nat.reduceAdd, Nat.reduceSub, Array.replicate_succ, Array.replicate_zero, List.push_toArray, List.append_toArray, List.nil_append, List.cons_append]
  gi_wp2_with fail
  gi_loopw [7] (fun vi wr => ∃ (k : Nat) (T : Nat → Prop), vi = .int .i64 (k : Nat) ∧ Hid (k ≤ S.length) ∧ Hid (J (allL (S.take k)) T wr) ∧ Hid (Below w0.heap.size w0 wr) ∧ Hid (W.heap.size ≤ wr.heap.size)) (fun vi _ => S.length - (intOf vi).toNat)
  case atStart => exact ⟨0, T, rfl, Nat.zero_le _, show J _ _ _ from h0, hW, Nat.le_refl _⟩
  case round =>
    obtain ⟨k, T, rfl, HK, HJ, HB, HS⟩ := hrel
    by_cases hlt : k < S.length
    · have hkz : (k : Int) < (S.length : Int) := Int.ofNat_lt.2 hlt
      obtain ⟨b, o, x, kk, rfl, hbb, v0, v1, Rv, -⟩ := (V.later HB.out).at (getD_atV hlt)
      have HTK : Hid (allL (S.take (k + 1)) = allL (S.take k) ++ wordL (ofN (S.getD k default).t (S.getD k default).l)) := by
        show _ = _
        rw [List.take_add_one, getD_atV hlt]
        exact allL_snoc _ _
      have HPL : Hid ((allL (S.take k)).length ≤ 10000) := by
        show _ ≤ _
        rw [allL_len, List.length_take]
        omega
      have hvl : (S.getD k default).l.length ≤ 100 := hS2 _ (by rw [List.getD_eq_getElem?_getD, List.getElem?_eq_getElem hlt]; exact List.getElem_mem hlt)
      have HLT : Hid (k < S.length) := hlt
      clear hlt
      generalize S.getD k default = r at v0 v1 Rv HTK hvl
      obtain ⟨rt, rl⟩ := r
      dsimp only at v0 v1 Rv HTK hvl
      obtain ⟨WA, hWA⟩ : ∃ WA, wr.alloc (.cells #[.int .i64 rt, .slice x rl.length kk] 43) = WA := ⟨_, rfl⟩
      have hbA : Below wr.heap.size wr WA := hWA ▸ below_new wr _
      have y0 : WA.cell? ⟨wr.heap.size, 0, none⟩ = some (.int .i64 rt) := by rw [← hWA]; unfold World.cell?; rw [heap_alloc_new]; rfl
      have y1 : WA.cell? ⟨wr.heap.size, 1, none⟩ = some (.slice x rl.length kk) := by rw [← hWA]; unfold World.cell?; rw [heap_alloc_new]; rfl
      have cp := (callsIn_wide (n := n - 1)).2 (of_any rt WA (Rv.later hbA) hvl)
      gi_wp2_with fail
      refine ⟨trivial, hdd _, ?_⟩
      gi_at_call 11
      refine cp.mono ?_
      rintro e w4 ⟨rfl, hb4⟩
      clear cp
      gi_wp2_with fail
      refine ⟨trivial, hdd _, ?_⟩
      gi_at_call 29
      refine (cw _ _).mono ?_
      rintro e w5 ⟨ad, k1, rfl, R1, hb5'⟩
      have hb5 : Below wr.heap.size wr w5 := below_step (below_step hbA hb4) hb5'
      obtain ⟨fn6, tmps6, assign6, body6, hy6, hR6⟩ := hT.take _ _ ad k1 (n - 1) T w5 (hT.below HJ.out hb5) (Nat.le_trans HS.out hb5.size) R1 (by rw [word_len]; decide) HPL.out
      rw [word_len] at hy6
      gi_wp2_with fail
      refine ⟨hdd _, ?_⟩
      refine hR6.mono ?_
      rintro e w6 ⟨rfl, T6, hj6, hk6, hT6⟩
      have hbase := hT.base _ _ _ (hT.below HJ.out hb5)
      have HB6 : Hid (Below w0.heap.size w0 w6) := (HB.out.trans (hb5.mono HB.out.size)).trans (hk6.below (Nat.le_trans HB.out.size hb5.size) (fun k h => (hbase k h).1))
      clear hR6 hy6
      gi_wp2_with fail
      go_roundw
      case rel => exact ⟨k + 1, T6, by go_num, HLT.out, (show J _ _ _ by rw [HTK.out]; exact hj6), HB6.out, Nat.le_trans HS.out (Nat.le_trans hb5.size hk6.size)⟩
      case measure => have h := HLT.out; simp [intOf]; omega
    · have hke : k = S.length := by have h := HK.out; omega
      have hkz : ¬ (k : Int) < (S.length : Int) := by omega
      have HF : Hid (J (allL S) T wr) := by
        show J _ _ _
        have h := HJ.out
        rw [hke, List.take_length] at h
        exact h
      clear hke hlt HK HJ
      gi_wp2_with fail
      go_end0
      exact ⟨⟨_, rfl⟩, T, HF.out⟩
theorem all_of_any (w : World) {a : Option Addr} {c : Nat} {l : List Vr} (V : Vers 0 w a c l) (hl : l.length ≤ 100) (hl2 : ∀ v ∈ l, v.l.length ≤ 100) :
    Calls Try.prog 13 #[.slice a l.length c] w fun e w' => e = .returned (.int .i64 (allN l)) ∧ Below w.heap.size w w' := by
  obtain ⟨W, hW⟩ : ∃ W, w.alloc (.cells #[.slice a l.length c] 23) = W := ⟨_, rfl⟩
  have hb : Below w.heap.size w W := by rw [← hW]; exact (Below.refl _ w).alloc (Nat.le_refl _) _
  have b2 : Boxed W w.heap.size 23 (.slice a l.length c) := by
    have := Boxed.new w 23 (.slice a l.length c)
    rwa [hW] at this
  have hF := ofVersions_feeds W b2.cell b2.lt (V.later hb) hl hl2
  have hlen := allL_len l
  have cs := sum_feeds W (enters_of Try.func36 (by kernel_rfl) rfl) hF (by omega) (allL_oct l)
  have co := ofVersions_any a l.length c w
  go_enter Try.func13, Try.ntmps13
  go_wp2_with fail
  refine co.mono ?_
  rintro e w1 ⟨rfl, rfl⟩
  rw [hW]
  go_wp2_with fail
  refine cs.mono ?_
  rintro e w2 ⟨rfl, hb2⟩
  go_wp2_with fail
  go_ret
  exact ⟨rfl, below_step hb hb2⟩
end Go.Proofs.Ytinmhjgnapbkmaa
