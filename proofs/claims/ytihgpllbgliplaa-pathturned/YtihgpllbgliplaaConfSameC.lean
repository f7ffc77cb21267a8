/- What the code's slices.Equal of rules, its sameList, slices.EqualFunc and its Same of configurations answer. -/
import Derived.Test.YtihgpllbgliplaaConfMem
import Derived.Test.YtihgpllbgliplaaQuiets
namespace Go.Proofs.Ytihgpllbgliplaa
open Go.ChangeShapes Go.WideShapes Go.ChangeAt Go.RowKit Pk Cf
set_option linter.unusedVariables false
set_option linter.unusedSimpArgs false

theorem cbw12 {w : World} {b o j : Nat} {v : Value} (hl : b < w.heap.size) (h : w.cell? ⟨b, o + j, none⟩ = some v) : ∀ u : BW w, u.w.cell? ⟨b, o + j, none⟩ = some v := fun u => cell_bw (a := ⟨b, o + j, none⟩) hl h u
theorem ne_rl12 (ra rn ri rp rk rt sa sn si sp sk st : Int) (w : World) : (binOp .neq 60 (.agg #[.int .i64 ra, .int .i64 rn, .int .i64 ri, .int .i64 rp, .int .i64 rk, .int .i64 rt]) (.agg #[.int .i64 sa, .int .i64 sn, .int .i64 si, .int .i64 sp, .int .i64 sk, .int .i64 st])).run Try.prog w = .ok (.bool (!((ra == sa && rn == sn) && (ri == si && (rp == sp && (rk == sk && rt == st)))))) w := by
  cases h0 : (ra == sa)
  · go_simp
  cases h1 : (rn == sn)
  · go_simp
  cases h2 : (ri == si)
  · go_simp
  cases h3 : (rp == sp)
  · go_simp
  cases h4 : (rk == sk)
  · go_simp
  cases h5 : (rt == st) <;> go_simp
theorem take_eq_succ {A B : List Rl} {k : Nat} {r q : Rl} (ha : A[k]? = some r) (hb : B[k]? = some q) (h : A.take k = B.take k) (e : r = q) : A.take (k + 1) = B.take (k + 1) := by
  rw [List.take_add_one, List.take_add_one, ha, hb, h, e]
theorem rl_eqb (ra rn ri rp rk rt sa sn si sp sk st : Int) : ((ra == sa && rn == sn) && (ri == si && (rp == sp && (rk == sk && rt == st)))) = decide ((⟨ra, rn, ri, rp, rk, rt⟩ : Rl) = ⟨sa, sn, si, sp, sk, st⟩) := by
  rw [Bool.eq_iff_iff]
  simp only [Bool.and_eq_true, beq_iff_eq, decide_eq_true_eq, Rl.mk.injEq]
  simp only [and_assoc]
section
variable (w : World) {x y : Option Addr} {c d : Nat} {A B : List Rl}
set_option maxRecDepth 100000 in
set_option maxHeartbeats 4000000 in
theorem ceq_any (RA : Rds fR 6 w x c A) (RB : Rds fR 6 w y d B) :
    Calls Try.prog 41 #[.slice x A.length c, .slice y B.length d] w fun e w' => e = .returned (.bool (decide (A = B))) ∧ Below w.heap.size w w' := by
  have hmx := Nat.le_trans RA.le RA.max
  have hmy := Nat.le_trans RB.le RB.max
  unfold maxLen at hmx hmy
  by_cases hlen : A.length = B.length
  case neg =>
    have hz : ((A.length : Int) != (B.length : Int)) = true := by rw [bne_iff_ne]; omega
    have hf : decide (A = B) = false := decide_eq_false (fun e => hlen (by rw [e]))
    rw [hf]
    clear RA RB hlen
    go_enter Try.func41, Try.ntmps41
    go_wp2
    go_ret
    exact ⟨rfl, Below.refl _ _⟩
  have hz : ((A.length : Int) != (B.length : Int)) = false := by rw [bne_eq_false_iff_eq]; omega
  have HT : Hid (A.take A.length = B.take A.length → decide (A = B) = true) := fun h => by
    rw [List.take_length, hlen, List.take_length] at h
    exact decide_eq_true h
  have HN : Hid (∀ (k : Nat) (r q : Rl), A[k]? = some r → B[k]? = some q → ¬ r = q → decide (A = B) = false) := fun k r q h1 h2 h3 => decide_eq_false (fun e => by
    rw [e] at h1
    rw [h1] at h2
    exact h3 (Option.some.inj h2))
  generalize decide (A = B) = res at HT HN ⊢
  have HL : Hid (A.length = B.length) := hlen
  have hlz : (A.length : Int) = (B.length : Int) := by omega
  clear hlen
  go_enter Try.func41, Try.ntmps41
  go_wp2_with fail
  go_loopw [13] (fun vi wr => ∃ k : Nat, Hid (k ≤ A.length) ∧ vi = .int .i64 (k : Nat) ∧ Hid (A.take k = B.take k) ∧ Below w.heap.size w wr) (fun vi _ => A.length - (intOf vi).toNat)
  case atStart => exact ⟨0, Nat.zero_le _, rfl, (show Hid _ from by show _ = _; simp), Below.refl _ _⟩
  case round =>
    obtain ⟨k, HK, rfl, HS, hbr⟩ := hrel
    by_cases hlt : k < A.length
    · have hkz : (k : Int) < (A.length : Int) := by omega
      have hkB : k < B.length := by have h := HL.out; omega
      have hky : (k : Int) < (B.length : Int) := by omega
      obtain ⟨r, hr⟩ := getC hlt
      obtain ⟨q, hq⟩ := getC hkB
      obtain ⟨b, o, rfl, hlb, hcb⟩ := (RA.later hbr).at hr
      obtain ⟨b2, o2, rfl, hlb2, hcb2⟩ := (RB.later hbr).at hq
      have HLT : Hid (k + 1 ≤ A.length) := hlt
      have HY : Hid (r = q → A.take (k + 1) = B.take (k + 1)) := fun h => take_eq_succ hr hq HS.out h
      have HZ : Hid (¬ r = q → res = false) := fun h => HN.out k r q hr hq h
      obtain ⟨ra, rn, ri, rp, rk, rt⟩ := r
      obtain ⟨sa, sn, si, sp, sk, st⟩ := q
      have y0 := cbw12 hlb (hcb 0 _ rfl)
      have y1 := cbw12 hlb (hcb 1 _ rfl)
      have y2 := cbw12 hlb (hcb 2 _ rfl)
      have y3 := cbw12 hlb (hcb 3 _ rfl)
      have y4 := cbw12 hlb (hcb 4 _ rfl)
      have y5 := cbw12 hlb (hcb 5 _ rfl)
      have z0 := cbw12 hlb2 (hcb2 0 _ rfl)
      have z1 := cbw12 hlb2 (hcb2 1 _ rfl)
      have z2 := cbw12 hlb2 (hcb2 2 _ rfl)
      have z3 := cbw12 hlb2 (hcb2 3 _ rfl)
      have z4 := cbw12 hlb2 (hcb2 4 _ rfl)
      have z5 := cbw12 hlb2 (hcb2 5 _ rfl)
      simp only [Nat.add_zero] at y0 z0
      have q1 := fun w => ne_rl12 ra rn ri rp rk rt sa sn si sp sk st w
      simp only [rl_eqb] at q1
      clear hlt hkB HK hr hq HS hcb hcb2 hlb hlb2
      by_cases hrq : (⟨ra, rn, ri, rp, rk, rt⟩ : Rl) = ⟨sa, sn, si, sp, sk, st⟩
      · have HQ : Hid _ := HY.out hrq
        rw [decide_eq_true hrq] at q1
        clear HY HZ hrq
        go_wp2_with fail
        refine wp_region_below (by kernel_rfl) (by kernel_rfl) ?_
        repeat (quiet_step (fail))
        refine wpQuiet_nil ?_
        rintro _ ⟨bw, rfl⟩
        have hb6 := below_step hbr bw.hb
        clear q1 y0 y1 y2 y3 y4 y5 z0 z1 z2 z3 z4 z5
        generalize bw.w = w6 at hb6 ⊢
        clear bw
        go_wp2_with fail
        go_roundw
        case rel => exact ⟨k + 1, HLT.out, by go_num, HQ, hb6⟩
        case measure => have h := HLT.out; simp [intOf]; omega
      · have HF : Hid (res = false) := HZ.out hrq
        rw [decide_eq_false hrq] at q1
        clear HY HZ hrq HT HN
        go_wp2_with fail
        refine wp_region_below (by kernel_rfl) (by kernel_rfl) ?_
        repeat (quiet_step (fail))
        refine wpQuiet_nil ?_
        rintro _ ⟨bw, rfl⟩
        have hb6 := below_step hbr bw.hb
        clear q1 y0 y1 y2 y3 y4 y5 z0 z1 z2 z3 z4 z5
        generalize bw.w = w6 at hb6 ⊢
        clear bw
        go_wp2_with fail
        go_ret
        exact ⟨ret_bool HF.out.symm, hb6⟩
    · have hke : k = A.length := by have h := HK.out; omega
      have hkz : ¬ (k : Int) < (A.length : Int) := by omega
      have HR : Hid (res = true) := by
        refine HT.out ?_
        have h := HS.out
        rw [hke] at h
        exact h
      clear hke hlt HK HS
      go_wp2_with fail
      go_ret
      exact ⟨ret_bool HR.out.symm, hbr⟩
end
section
/-- what pick.Order answers, of lists of up to sixty -/
def OrdC : Prop := ∀ (w : World) {a : Option Addr} {c : Nat} {l : List Rl}, Rds fR 6 w a c l → l.length ≤ 60 → Calls Try.prog 42 #[.slice a l.length c] w fun e w' => ∃ (x : Option Addr) (k : Nat), e = .returned (.slice x (Pk.sortL l).length k) ∧ (Rds fR 6 w' x k (Pk.sortL l) ∧ ∀ y, x = some y → w.heap.size ≤ y.block) ∧ Below w.heap.size w w'
set_option maxRecDepth 100000 in
set_option maxHeartbeats 4000000 in
theorem sameList_any (hO : OrdC) (w : World) {x y : Option Addr} {c d : Nat} {l m : List Rl} (R1 : Rds fR 6 w x c l) (R2 : Rds fR 6 w y d m) (h1 : l.length ≤ 60) (h2 : m.length ≤ 60) :
    Calls Try.prog 29 #[.slice x l.length c, .slice y m.length d] w fun e w' => e = .returned (.bool (decide (Pk.sortL l = Pk.sortL m))) ∧ Below w.heap.size w w' := by
  have cO1 := hO w R1 h1
  have cO2 := fun (u : World) (R : Rds fR 6 u y d m) => hO u R h2
  clear h1 h2
  generalize Pk.sortL l = S1 at cO1 ⊢
  generalize Pk.sortL m = S2 at cO2 ⊢
  have cE : ∀ (w : World) {x y : Option Addr} {c d : Nat}, Rds fR 6 w x c S1 → Rds fR 6 w y d S2 → Calls Try.prog 41 #[.slice x S1.length c, .slice y S2.length d] w fun e w' => e = .returned (.bool (decide (S1 = S2))) ∧ Below w.heap.size w w' := fun w _ _ _ _ h1 h2 => ceq_any w h1 h2
  generalize decide (S1 = S2) = dq at cE ⊢
  clear hO
  go_enter Try.func29, Try.ntmps29
  go_wp2_with fail
  refine cO1.mono ?_
  clear cO1
  rintro e w2 ⟨y1, j1, rfl, ⟨Q1, -⟩, hb⟩
  have cO3 := cO2 w2 (R2.later hb)
  clear cO2 R1 R2
  go_wp2_with fail
  refine cO3.mono ?_
  clear cO3
  rintro e w3 ⟨y2, j2, rfl, ⟨Q2, -⟩, hb2⟩
  have cE1 := cE w3 (Q1.later hb2) Q2
  replace hb := below_step hb hb2
  clear cE Q1 Q2 hb2
  go_wp2_with fail
  refine cE1.mono ?_
  clear cE1
  rintro e w4 ⟨rfl, hb4⟩
  replace hb := below_step hb hb4
  go_wp2_with fail
  go_ret
  exact ⟨rfl, hb⟩
variable (w : World) {a a2 : Option Addr} {c c2 : Nat} {A B : Cnf}
set_option maxRecDepth 100000 in
set_option maxHeartbeats 4000000 in
theorem eqf_any (hO : OrdC) (V : Lists w a c A) (V2 : Lists w a2 c2 B) (hA : ∀ l ∈ A, l.length ≤ 60) (hB : ∀ l ∈ B, l.length ≤ 60) :
    Calls Try.prog 28 #[.slice a A.length c, .slice a2 B.length c2, .func (.func 29) #[] #[]] w fun e w' => e = .returned (.bool (sameC A B)) ∧ Below w.heap.size w w' := by
  have hmx := Nat.le_trans V.le V.max
  have hmy := Nat.le_trans V2.le V2.max
  unfold maxLen at hmx hmy
  by_cases hlen : A.length = B.length
  case neg =>
    have hz : ((A.length : Int) != (B.length : Int)) = true := by rw [bne_iff_ne]; omega
    have hf : sameC A B = false := by
      cases g : sameC A B
      · rfl
      · exact absurd (same_len g) hlen
    rw [hf]
    clear V V2 hlen hO
    go_enter Try.func28, Try.ntmps28
    go_wp2
    go_ret
    exact ⟨rfl, Below.refl _ _⟩
  have hz : ((A.length : Int) != (B.length : Int)) = false := by rw [bne_eq_false_iff_eq]; omega
  have HT : Hid (A.map Pk.sortL = B.map Pk.sortL → sameC A B = true) := fun h => by unfold sameC; rw [decide_eq_true_eq]; exact h
  have HN : Hid (∀ (k : Nat) (l m : List Pk.Rl), A[k]? = some l → B[k]? = some m → ¬ Pk.sortL l = Pk.sortL m → sameC A B = false) := fun k l m h1 h2 h3 => same_notC h1 h2 h3
  generalize sameC A B = res at HT HN ⊢
  have HL : Hid (A.length = B.length) := hlen
  have HBa : Hid (∀ l ∈ A, l.length ≤ 60) := hA
  have HBb : Hid (∀ l ∈ B, l.length ≤ 60) := hB
  have HO : Hid OrdC := hO
  clear hlen hA hB hO
  go_enter Try.func28, Try.ntmps28
  go_wp2_with fail
  go_loopw [17] (fun vi wr => ∃ k : Nat, Hid (k ≤ A.length) ∧ vi = .int .i64 (k : Nat) ∧ Hid ((A.take k).map Pk.sortL = (B.take k).map Pk.sortL) ∧ Below w.heap.size w wr) (fun vi _ => A.length - (intOf vi).toNat)
  case atStart => exact ⟨0, Nat.zero_le _, rfl, (show Hid _ from by show _ = _; simp), Below.refl _ _⟩
  case round =>
    obtain ⟨k, HK, rfl, HS, hbr⟩ := hrel
    by_cases hlt : k < A.length
    · have hkz : (k : Int) < (A.length : Int) := by omega
      have hkB : k < B.length := by have h := HL.out; omega
      have hky : (k : Int) < (B.length : Int) := by omega
      obtain ⟨l, hl⟩ := getC hlt
      obtain ⟨m, hm⟩ := getC hkB
      obtain ⟨b, o, x, k1, ea, hb, c0, R1⟩ := (V.later hbr).at hl
      obtain ⟨b2, o2, x2, k2, eb, hb2, d0, R2⟩ := (V2.later hbr).at hm
      subst ea; subst eb
      have HLT : Hid (k + 1 ≤ A.length) := hlt
      have HY : Hid (decide (Pk.sortL l = Pk.sortL m) = true → (A.take (k + 1)).map Pk.sortL = (B.take (k + 1)).map Pk.sortL) := fun h => same_stepC hl hm HS.out (of_decide_eq_true h)
      have HZ : Hid (decide (Pk.sortL l = Pk.sortL m) = false → res = false) := fun h => HN.out k l m hl hm (of_decide_eq_false h)
      have cS := sameList_any HO.out wr R1 R2 (HBa.out l (List.mem_of_getElem? hl)) (HBb.out m (List.mem_of_getElem? hm))
      clear hlt hkB HK hl hm HS R1 R2
      generalize decide (Pk.sortL l = Pk.sortL m) = dq at cS HY HZ
      go_wp2_with fail
      go_at_call 29
      refine cS.mono ?_
      clear cS c0 d0
      rintro e w3 ⟨rfl, hb3⟩
      replace hbr := below_step hbr hb3
      clear hb3
      cases dq with
      | true =>
        have HN2 : Hid _ := HY.out rfl
        clear HY HZ
        go_wp2_with fail
        go_roundw
        case rel => exact ⟨k + 1, HLT.out, by go_num, HN2, hbr⟩
        case measure => have h := HLT.out; simp [intOf]; omega
      | false =>
        have HR : Hid (res = false) := HZ.out rfl
        clear HY HZ
        go_wp2_with fail
        go_ret
        exact ⟨ret_bool HR.out.symm, hbr⟩
    · have hke : k = A.length := by have h := HK.out; omega
      have hkz : ¬ (k : Int) < (A.length : Int) := by omega
      have HR : Hid (res = true) := by
        refine HT.out ?_
        have h := HS.out
        rw [hke, List.take_length, HL.out, List.take_length] at h
        exact h
      clear hke hlt HK HS
      go_wp2_with fail
      go_ret
      exact ⟨ret_bool HR.out.symm, hbr⟩
theorem csame_any (hO : OrdC) (V : Lists w a c A) (V2 : Lists w a2 c2 B) (hA : ∀ l ∈ A, l.length ≤ 60) (hB : ∀ l ∈ B, l.length ≤ 60) :
    Calls Try.prog 18 #[.slice a A.length c, .slice a2 B.length c2] w fun e w' => e = .returned (.bool (sameC A B)) ∧ Below w.heap.size w w' := by
  have cE := eqf_any w hO V V2 hA hB
  clear hO V V2 hA hB
  go_enter Try.func18, Try.ntmps18
  go_wp2_with fail
  refine cE.mono ?_
  rintro e w2 ⟨rfl, hb⟩
  go_wp2_with fail
  go_ret
  exact ⟨rfl, hb⟩
end
end Go.Proofs.Ytihgpllbgliplaa
