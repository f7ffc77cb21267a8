/- What the document's Same, rules and May of configurations answer. -/
import Derived.Test.YtnmijgnflemhkaaConfPlain
import Derived.Test.YtnmijgnflemhkaaPickRefOrd
import Derived.Test.YtnmijgnflemhkaaRuleRefMay
import Derived.Test.YtnmijgnflemhkaaTopRefMay
import Derived.BigQuiet
namespace Go.Proofs.Ytnmijgnflemhkaa
open Go.ChangeShapes Go.WideShapes Go.ChangeAt Go.RowKit Pk Cf
set_option linter.unusedVariables false
set_option linter.unusedSimpArgs false

theorem same_stepC {A B : Cnf} {k : Nat} {l m : List Pk.Rl} (ha : A[k]? = some l) (hb : B[k]? = some m) (h : (A.take k).map Pk.sortL = (B.take k).map Pk.sortL) (hs : Pk.sortL l = Pk.sortL m) : (A.take (k + 1)).map Pk.sortL = (B.take (k + 1)).map Pk.sortL := by
  rw [List.take_add_one, List.take_add_one, ha, hb, List.map_append, List.map_append, h]
  simp [hs]
theorem same_notC {A B : Cnf} {k : Nat} {l m : List Pk.Rl} (ha : A[k]? = some l) (hb : B[k]? = some m) (hs : ¬ Pk.sortL l = Pk.sortL m) : sameC A B = false := by
  unfold sameC
  rw [decide_eq_false_iff_not]
  intro e
  have h1 := congrArg (fun x => x[k]?) e
  simp only [List.getElem?_map, ha, hb, Option.map_some, Option.some.injEq] at h1
  exact hs h1
section
variable (w : World) {a a2 : Option Addr} {c c2 : Nat} {A B : Cnf}
set_option maxRecDepth 100000 in
set_option maxHeartbeats 4000000 in
theorem rsame12_any (V : Lists w a c A) (V2 : Lists w a2 c2 B) (hA : ∀ l ∈ A, l.length ≤ 100) (hB : ∀ l ∈ B, l.length ≤ 100) :
    Calls Try.prog 12 #[.slice a A.length c, .slice a2 B.length c2] w fun e w' => e = .returned (.bool (sameC A B)) ∧ Below w.heap.size w w' := by
  have hmx := Nat.le_trans V.le V.max
  have hmy := Nat.le_trans V2.le V2.max
  unfold maxLen at hmx hmy
  by_cases hlen : A.length = B.length
  case neg =>
    have hz : ((A.length : Int) != (B.length : Int)) = true := by rw [bne_iff_ne]; omega
    have hf : sameC A B = false := by
      cases g : sameC A B
      · rfl
      · exact absurd (same_len g) hlen
    rw [hf]
    clear V V2 hlen
    go_enter Try.func12, Try.ntmps12
    go_wp2
    go_ret
    exact ⟨rfl, Below.refl _ _⟩
  have hlz : (A.length : Int) = (B.length : Int) := by omega
  have HT : Hid (A.map Pk.sortL = B.map Pk.sortL → sameC A B = true) := fun h => by unfold sameC; rw [decide_eq_true_eq]; exact h
  have HN : Hid (∀ (k : Nat) (l m : List Pk.Rl), A[k]? = some l → B[k]? = some m → ¬ Pk.sortL l = Pk.sortL m → sameC A B = false) := fun k l m h1 h2 h3 => same_notC h1 h2 h3
  generalize sameC A B = res at HT HN ⊢
  have HL : Hid (A.length = B.length) := hlen
  have HBa : Hid (∀ l ∈ A, l.length ≤ 100) := hA
  have HBb : Hid (∀ l ∈ B, l.length ≤ 100) := hB
  clear hlen hA hB
  go_enter Try.func12, Try.ntmps12
  go_wp2_with fail
  go_loopw [5] (fun vi wr => ∃ k : Nat, Hid (k ≤ A.length) ∧ vi = .int .i64 (k : Nat) ∧ Hid ((A.take k).map Pk.sortL = (B.take k).map Pk.sortL) ∧ Below w.heap.size w wr) (fun vi _ => A.length - (intOf vi).toNat)
  case atStart => exact ⟨0, Nat.zero_le _, rfl, (show Hid _ from by show _ = _; simp), Below.refl _ _⟩
  case round =>
    obtain ⟨k, HK, rfl, HS, hbr⟩ := hrel
    by_cases hlt : k < A.length
    · have hkz : (k : Int) < (A.length : Int) := by omega
      have hky : (k : Int) < (B.length : Int) := by omega
      have hkB : k < B.length := by omega
      obtain ⟨l, hl⟩ := getC hlt
      obtain ⟨m, hm⟩ := getC hkB
      obtain ⟨b, o, x, k1, ea, hb, c0, R1⟩ := (V.later hbr).at hl
      obtain ⟨b2, o2, x2, k2, eb, hb2, d0, R2⟩ := (V2.later hbr).at hm
      subst ea; subst eb
      have HLT : Hid (k + 1 ≤ A.length) := hlt
      have HY : Hid (Pk.sortL l = Pk.sortL m → (A.take (k + 1)).map Pk.sortL = (B.take (k + 1)).map Pk.sortL) := fun h => same_stepC hl hm HS.out h
      have HZ : Hid (¬ Pk.sortL l = Pk.sortL m → res = false) := fun h => HN.out k l m hl hm h
      have h1 := HBa.out l (List.mem_of_getElem? hl)
      have h2 := HBb.out m (List.mem_of_getElem? hm)
      have cO1 := fun w (R : Rds fR 6 w x k1 l) => rorder8_any w R h1
      have cO2 := fun w (R : Rds fR 6 w x2 k2 m) => rorder8_any w R h2
      clear hlt hkB HK hl hm HS h1 h2
      generalize Pk.sortL l = S1 at cO1 HY HZ
      generalize Pk.sortL m = S2 at cO2 HY HZ
      go_wp2_with fail
      have S0 : Below wr.heap.size wr wr.drew := (Below.refl _ _).drew
      have R1D := R1.later S0
      have R2D := R2.later S0
      clear R1
      clear R2
      have R1 := R1D
      have R2 := R2D
      clear R1D
      clear R2D
      refine wp_region_noPanic ?_
      refine wp_region_held_drew (S := fun w' => Below wr.heap.size wr w') (by kernel_rfl) S0 (fun hH => ?_)
      clear S0
      generalize wr.drew = wrd at hH R1 R2 ⊢
      refine wpAnyH_take (i := 0) (oi := { dst := some 18, op := _, type := _, pos := _, after := _, guard := _ }) (v := ?_) rfl (by kernel_rfl) (by kernel_rfl) (by kernel_rfl) (fun _ _ _ h => h) (Or.inl ⟨by rfl, ?_⟩) hH ?_
      rotate_left
      · intro wz hSw
        (try dsimp only at hSw)
        first | (go_simp; done) | (go_simp; with_reducible rfl)
      try simp only [Act.put, List.setIfInBounds_toArray, List.set_cons_zero, List.set_cons_succ]
      refine wpAnyH_take (i := 1) (oi := { dst := some 19, op := _, type := _, pos := _, after := _, guard := _ }) (v := ?_) rfl (by kernel_rfl) (by kernel_rfl) (by kernel_rfl) (fun _ _ _ h => h) (Or.inl ⟨by rfl, ?_⟩) hH ?_
      rotate_left
      · intro wz hSw
        (try dsimp only at hSw)
        first | (go_simp; done) | (go_simp; with_reducible rfl)
      try simp only [Act.put, List.setIfInBounds_toArray, List.set_cons_zero, List.set_cons_succ]
      refine wpAnyH_take (i := 5) (oi := { dst := some 23, op := _, type := _, pos := _, after := _, guard := _ }) (v := ?_) rfl (by kernel_rfl) (by kernel_rfl) (by kernel_rfl) (fun _ _ _ h => h) (Or.inl ⟨by rfl, ?_⟩) hH ?_
      rotate_left
      · intro wz hSw
        (try dsimp only at hSw)
        first | (go_simp; done) | (go_simp; with_reducible rfl)
      try simp only [Act.put, List.setIfInBounds_toArray, List.set_cons_zero, List.set_cons_succ]
      refine wpAnyH_take (i := 6) (oi := { dst := some 24, op := _, type := _, pos := _, after := _, guard := _ }) (v := ?_) rfl (by kernel_rfl) (by kernel_rfl) (by kernel_rfl) (fun _ _ _ h => h) (Or.inl ⟨by rfl, ?_⟩) hH ?_
      rotate_left
      · intro wz hSw
        (try dsimp only at hSw)
        first | (go_simp; done) | (go_simp; with_reducible rfl)
      try simp only [Act.put, List.setIfInBounds_toArray, List.set_cons_zero, List.set_cons_succ]
      refine wpAnyH_take (i := 2) (oi := { dst := some 20, op := _, type := _, pos := _, after := _, guard := _ }) (v := ?_) rfl (by kernel_rfl) (by kernel_rfl) (by kernel_rfl) (fun _ _ _ h => h) (Or.inl ⟨by rfl, ?_⟩) hH ?_
      rotate_left
      · intro wz hSw
        (try dsimp only at hSw)
        first | (go_simp; done) | (go_simp; with_reducible rfl)
      try simp only [Act.put, List.setIfInBounds_toArray, List.set_cons_zero, List.set_cons_succ]
      refine wpAnyH_take (i := 7) (oi := { dst := some 25, op := _, type := _, pos := _, after := _, guard := _ }) (v := ?_) rfl (by kernel_rfl) (by kernel_rfl) (by kernel_rfl) (fun _ _ _ h => h) (Or.inl ⟨by rfl, ?_⟩) hH ?_
      rotate_left
      · intro wz hSw
        (try dsimp only at hSw)
        first | (go_simp; done) | (go_simp; with_reducible rfl)
      try simp only [Act.put, List.setIfInBounds_toArray, List.set_cons_zero, List.set_cons_succ]
      refine wpAnyH_take (i := 3) (oi := { dst := some 21, op := _, type := _, pos := _, after := _, guard := _ }) (v := ?_) rfl (by kernel_rfl) (by kernel_rfl) (by kernel_rfl) (fun _ _ _ h => h) (Or.inl ⟨by rfl, ?_⟩) hH ?_
      rotate_left
      · intro wz hSw
        (try dsimp only at hSw)
        have z0 := (hSw.cell (p := ⟨b, o + k, none⟩) hb).trans c0
        first | (go_simp; done) | (go_simp; with_reducible rfl)
      try simp only [Act.put, List.setIfInBounds_toArray, List.set_cons_zero, List.set_cons_succ]
      refine wpAnyH_take (i := 8) (oi := { dst := some 26, op := _, type := _, pos := _, after := _, guard := _ }) (v := ?_) rfl (by kernel_rfl) (by kernel_rfl) (by kernel_rfl) (fun _ _ _ h => h) (Or.inl ⟨by rfl, ?_⟩) hH ?_
      rotate_left
      · intro wz hSw
        (try dsimp only at hSw)
        have z0 := (hSw.cell (p := ⟨b2, o2 + k, none⟩) hb2).trans d0
        first | (go_simp; done) | (go_simp; with_reducible rfl)
      try simp only [Act.put, List.setIfInBounds_toArray, List.set_cons_zero, List.set_cons_succ]
      refine wpAnyH_ready (rs := [4]) (by kernel_rfl) (by simp) ?_
      refine (AllReadyH.cons (o := { dst := some 22, op := _, type := _, pos := _, after := _, guard := _ }) rfl (fun K hK => ?_) AllReadyH.nil)
      go_simp
      refine (cO1 _ R1).mono ?_
      rintro e wr4x0 ⟨y1, j1, rfl, ⟨S1r, -⟩, hb⟩
      have hn : Below wr.heap.size wr wr4x0 := below_step hH hb
      replace R1 := R1.later hb
      replace R2 := R2.later hb
      clear hb
      go_wp2_with fail
      refine hK.out _ _ hn (fun hH2 => ?_)
      clear hK K hH hn
      have hH := hH2
      clear hH2
      try simp only [Act.put, List.setIfInBounds_toArray, List.set_cons_zero, List.set_cons_succ]
      refine wpAnyH_ready (rs := [9]) (by kernel_rfl) (by simp) ?_
      refine (AllReadyH.cons (o := { dst := some 27, op := _, type := _, pos := _, after := _, guard := _ }) rfl (fun K hK => ?_) AllReadyH.nil)
      go_simp
      refine (cO2 _ R2).mono ?_
      rintro e wr9x1 ⟨y2, j2, rfl, ⟨S2r, -⟩, hb⟩
      have hn : Below wr.heap.size wr wr9x1 := below_step hH hb
      replace R1 := R1.later hb
      replace R2 := R2.later hb
      replace S1r := S1r.later hb
      clear hb
      go_wp2_with fail
      refine hK.out _ _ hn (fun hH2 => ?_)
      clear hK K hH hn
      have hH := hH2
      clear hH2
      try simp only [Act.put, List.setIfInBounds_toArray, List.set_cons_zero, List.set_cons_succ]
      refine wpAnyH_ready (rs := [10]) (by kernel_rfl) (by simp) ?_
      refine (AllReadyH.cons (o := { dst := some 28, op := _, type := _, pos := _, after := _, guard := _ }) rfl (fun K hK => ?_) AllReadyH.nil)
      go_simp
      refine (rsame8_any _ S1r S2r).mono ?_
      rintro e wr10x2 ⟨rfl, hb⟩
      have hn : Below wr.heap.size wr wr10x2 := below_step hH hb
      replace R1 := R1.later hb
      replace R2 := R2.later hb
      replace S1r := S1r.later hb
      replace S2r := S2r.later hb
      clear hb
      go_wp2_with fail
      refine hK.out _ _ hn (fun hH2 => ?_)
      clear hK K hH hn
      have hH := hH2
      clear hH2
      try simp only [Act.put, List.setIfInBounds_toArray, List.set_cons_zero, List.set_cons_succ]
      refine wpAnyH_take (i := 11) (oi := { dst := some 6, op := _, type := _, pos := _, after := _, guard := _ }) (v := ?_) rfl (by kernel_rfl) (by kernel_rfl) (by kernel_rfl) (fun _ _ _ h => h) (Or.inl ⟨by rfl, ?_⟩) hH ?_
      rotate_left
      · intro wz hSw
        (try dsimp only at hSw)
        first | (go_simp; done) | (go_simp; with_reducible rfl)
      try simp only [Act.put, List.setIfInBounds_toArray, List.set_cons_zero, List.set_cons_succ]
      refine wpAnyH_done (by kernel_rfl) ?_ _
      refine NoPanic.normal ?_
      replace hbr := below_step hbr hH
      clear S1r S2r R1 R2
      by_cases hq : S1 = S2
      · have hqz : decide (S1 = S2) = true := decide_eq_true hq
        have HN2 : Hid _ := HY.out hq
        clear hq HY HZ
        go_wp2_with fail
        go_roundw
        case rel => exact ⟨k + 1, HLT.out, by go_num, HN2, hbr⟩
        case measure => have h := HLT.out; simp [intOf]; omega
      · have hqz : decide (S1 = S2) = false := decide_eq_false hq
        have HR : Hid (res = false) := HZ.out hq
        clear hq HY HZ
        go_wp2_with fail
        go_ret
        exact ⟨ret_bool HR.out.symm, hbr⟩
    · have hke : k = A.length := by have h := HK.out; omega
      have hkz : ¬ (k : Int) < (A.length : Int) := by omega
      have HR : Hid (res = true) := by
        refine HT.out ?_
        have h := HS.out
        rw [hke, List.take_length, HL.out, List.take_length] at h
        exact h
      clear hke hlt HK HS
      go_wp2_with fail
      go_ret
      exact ⟨ret_bool HR.out.symm, hbr⟩
end
end Go.Proofs.Ytnmijgnflemhkaa
