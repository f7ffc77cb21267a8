/- What the document's Same of hops answers. -/
import Derived.Test.YtihgpllbgliplaaPathIf
import Derived.Test.YtihgpllbgliplaaQuiets
namespace Go.Proofs.Ytihgpllbgliplaa
open Go.ChangeShapes Go.WideShapes Go.ChangeAt Go.RowKit Pk Cf Pa
set_option linter.unusedVariables false
set_option linter.unusedSimpArgs false

theorem cbw13 {w : World} {b o j : Nat} {v : Value} (hl : b < w.heap.size) (h : w.cell? ⟨b, o + j, none⟩ = some v) : ∀ u : BW w, u.w.cell? ⟨b, o + j, none⟩ = some v := fun u => cell_bw (a := ⟨b, o + j, none⟩) hl h u
theorem ne_hp (at_ ai aw ap ag ah ao bt bi bw_ bp bg bh bo : Int) (w : World) : (binOp .neq 34 (.agg #[.int .i64 at_, .int .i64 ai, .int .i64 aw, .int .i64 ap, .int .i64 ag, .int .i64 ah, .int .i64 ao]) (.agg #[.int .i64 bt, .int .i64 bi, .int .i64 bw_, .int .i64 bp, .int .i64 bg, .int .i64 bh, .int .i64 bo])).run Try.prog w = .ok (.bool (!(decide ((⟨at_, ai, aw, ap, ag, ah, ao⟩ : Hp) = ⟨bt, bi, bw_, bp, bg, bh, bo⟩)))) w := by
  by_cases h0 : at_ = bt
  case neg =>
    rw [decide_eq_false (fun e => h0 (by injection e))]
    go_simp
  by_cases h1 : ai = bi
  case neg =>
    rw [decide_eq_false (fun e => h1 (by injection e))]
    go_simp
  by_cases h2 : aw = bw_
  case neg =>
    rw [decide_eq_false (fun e => h2 (by injection e))]
    go_simp
  by_cases h3 : ap = bp
  case neg =>
    rw [decide_eq_false (fun e => h3 (by injection e))]
    go_simp
  by_cases h4 : ag = bg
  case neg =>
    rw [decide_eq_false (fun e => h4 (by injection e))]
    go_simp
  by_cases h5 : ah = bh
  case neg =>
    rw [decide_eq_false (fun e => h5 (by injection e))]
    go_simp
  by_cases h6 : ao = bo
  · subst h0 h1 h2 h3 h4 h5 h6
    rw [decide_eq_true rfl]
    go_simp
  · rw [decide_eq_false (fun e => h6 (by injection e))]
    go_simp
theorem take_eq_hp {A B : List Hp} {k : Nat} {r q : Hp} (ha : A[k]? = some r) (hb : B[k]? = some q) (h : A.take k = B.take k) (e : r = q) : A.take (k + 1) = B.take (k + 1) := by
  rw [List.take_add_one, List.take_add_one, ha, hb, h, e]
section
variable (w : World) {x y : Option Addr} {c d : Nat} {A B : List Hp}
set_option maxRecDepth 100000 in
set_option maxHeartbeats 4000000 in
theorem rsame13_any (RA : Rds fH 7 w x c A) (RB : Rds fH 7 w y d B) :
    Calls Try.prog 14 #[.slice x A.length c, .slice y B.length d] w fun e w' => e = .returned (.bool (decide (A = B))) ∧ Below w.heap.size w w' := by
  have hmx := Nat.le_trans RA.le RA.max
  have hmy := Nat.le_trans RB.le RB.max
  unfold maxLen at hmx hmy
  by_cases hlen : A.length = B.length
  case neg =>
    have hz : ((A.length : Int) != (B.length : Int)) = true := by rw [bne_iff_ne]; omega
    have hf : decide (A = B) = false := decide_eq_false (fun e => hlen (by rw [e]))
    rw [hf]
    clear RA RB hlen
    go_enter Try.func14, Try.ntmps14
    go_wp2
    go_ret
    exact ⟨rfl, Below.refl _ _⟩
  have hz : ((A.length : Int) != (B.length : Int)) = false := by rw [bne_eq_false_iff_eq]; omega
  have HT : Hid (A.take A.length = B.take A.length → decide (A = B) = true) := fun h => by
    rw [List.take_length, hlen, List.take_length] at h
    exact decide_eq_true h
  have HN : Hid (∀ (k : Nat) (r q : Hp), A[k]? = some r → B[k]? = some q → ¬ r = q → decide (A = B) = false) := fun k r q h1 h2 h3 => decide_eq_false (fun e => by
    rw [e] at h1
    rw [h1] at h2
    exact h3 (Option.some.inj h2))
  generalize decide (A = B) = res at HT HN ⊢
  have HL : Hid (A.length = B.length) := hlen
  have hlz : (A.length : Int) = (B.length : Int) := by omega
  clear hlen
  go_enter Try.func14, Try.ntmps14
  go_wp2_with fail
  go_loopw [5] (fun vi wr => ∃ k : Nat, Hid (k ≤ A.length) ∧ vi = .int .i64 (k : Nat) ∧ Hid (A.take k = B.take k) ∧ Below w.heap.size w wr) (fun vi _ => A.length - (intOf vi).toNat)
  case atStart => exact ⟨0, Nat.zero_le _, rfl, (show Hid _ from by show _ = _; simp), Below.refl _ _⟩
  case round =>
    obtain ⟨k, HK, rfl, HS, hbr⟩ := hrel
    by_cases hlt : k < A.length
    · have hkz : (k : Int) < (A.length : Int) := by omega
      have hkB : k < B.length := by have h := HL.out; omega
      have hky : (k : Int) < (B.length : Int) := by omega
      obtain ⟨r, hr⟩ := getC hlt
      obtain ⟨q, hq⟩ := getC hkB
      obtain ⟨b, o, rfl, hlb, hcb⟩ := (RA.later hbr).at hr
      obtain ⟨b2, o2, rfl, hlb2, hcb2⟩ := (RB.later hbr).at hq
      have HLT : Hid (k + 1 ≤ A.length) := hlt
      have HY : Hid (r = q → A.take (k + 1) = B.take (k + 1)) := fun h => take_eq_hp hr hq HS.out h
      have HZ : Hid (¬ r = q → res = false) := fun h => HN.out k r q hr hq h
      obtain ⟨at_, ai, aw, ap, ag, ah, ao⟩ := r
      obtain ⟨bt, bi, bw_, bp, bg, bh, bo⟩ := q
      have y0 := cbw13 hlb (hcb 0 _ rfl)
      have y1 := cbw13 hlb (hcb 1 _ rfl)
      have y2 := cbw13 hlb (hcb 2 _ rfl)
      have y3 := cbw13 hlb (hcb 3 _ rfl)
      have y4 := cbw13 hlb (hcb 4 _ rfl)
      have y5 := cbw13 hlb (hcb 5 _ rfl)
      have y6 := cbw13 hlb (hcb 6 _ rfl)
      have z0 := cbw13 hlb2 (hcb2 0 _ rfl)
      have z1 := cbw13 hlb2 (hcb2 1 _ rfl)
      have z2 := cbw13 hlb2 (hcb2 2 _ rfl)
      have z3 := cbw13 hlb2 (hcb2 3 _ rfl)
      have z4 := cbw13 hlb2 (hcb2 4 _ rfl)
      have z5 := cbw13 hlb2 (hcb2 5 _ rfl)
      have z6 := cbw13 hlb2 (hcb2 6 _ rfl)
      simp only [Nat.add_zero] at y0 z0
      have q1 := fun w => ne_hp at_ ai aw ap ag ah ao bt bi bw_ bp bg bh bo w
      clear hlt hkB HK hr hq HS hcb hcb2 hlb hlb2
      by_cases hrq : (⟨at_, ai, aw, ap, ag, ah, ao⟩ : Hp) = ⟨bt, bi, bw_, bp, bg, bh, bo⟩
      · have HQ : Hid _ := HY.out hrq
        rw [decide_eq_true hrq] at q1
        clear HY HZ hrq
        go_wp2_with fail
        refine wp_region_below (by kernel_rfl) (by kernel_rfl) ?_
        repeat (quiet_step (fail))
        refine wpQuiet_nil ?_
        rintro _ ⟨bw, rfl⟩
        have hb6 := below_step hbr bw.hb
        clear q1 y0 y1 y2 y3 y4 y5 y6 z0 z1 z2 z3 z4 z5 z6
        generalize bw.w = w6 at hb6 ⊢
        clear bw
        go_wp2_with fail
        go_roundw
        case rel => exact ⟨k + 1, HLT.out, by go_num, HQ, hb6⟩
        case measure => have h := HLT.out; simp [intOf]; omega
      · have HF : Hid (res = false) := HZ.out hrq
        rw [decide_eq_false hrq] at q1
        clear HY HZ hrq HT HN
        go_wp2_with fail
        refine wp_region_below (by kernel_rfl) (by kernel_rfl) ?_
        repeat (quiet_step (fail))
        refine wpQuiet_nil ?_
        rintro _ ⟨bw, rfl⟩
        have hb6 := below_step hbr bw.hb
        clear q1 y0 y1 y2 y3 y4 y5 y6 z0 z1 z2 z3 z4 z5 z6
        generalize bw.w = w6 at hb6 ⊢
        clear bw
        go_wp2_with fail
        go_ret
        exact ⟨ret_bool HF.out.symm, hb6⟩
    · have hke : k = A.length := by have h := HK.out; omega
      have hkz : ¬ (k : Int) < (A.length : Int) := by omega
      have HR : Hid (res = true) := by
        refine HT.out ?_
        have h := HS.out
        rw [hke] at h
        exact h
      clear hke hlt HK HS
      go_wp2_with fail
      go_ret
      exact ⟨ret_bool HR.out.symm, hbr⟩
end
end Go.Proofs.Ytihgpllbgliplaa
