/- What the document's 'add' answers: a prefix among others, once. -/
import Derived.Test.YtlgldoggnlcbkaaTrieRefs
namespace Go.Proofs.Ytlgldoggnlcbkaa
open Go.ChangeShapes Go.WideShapes Go.ChangeAt Go.RowKit Tt
set_option linter.unusedVariables false
set_option linter.unusedSimpArgs false

theorem eq_pre (a n b m : Int) (w : World) : (binOp .eql 29 (.agg #[.int .i64 a, .int .i64 n]) (.agg #[.int .i64 b, .int .i64 m])).run Try.prog w = .ok (.bool ((a == b) && (n == m))) w := by
  cases h0 : (a == b)
  · go_simp
  cases h1 : (n == m)
  · go_simp
  go_simp
theorem take_next {α : Type} {l : List α} {k : Nat} (h : k < l.length) {P : α → Prop} (ha : ∀ x ∈ l.take k, P x) (hx : P l[k]) : ∀ x ∈ l.take (k + 1), P x := by
  rw [List.take_succ_eq_append_getElem h]
  intro x hm
  rcases List.mem_append.1 hm with hm | hm
  · exact ha x hm
  · rw [List.mem_singleton.1 hm]; exact hx
theorem kept_add {b : Nat} {w w' w2 : World} {p0 p1 : Int} (hlt : b < w.heap.size) (h : Below w.heap.size w w' ∧ w'.cell? ⟨b, 0, none⟩ = some (.int .i64 p0) ∧ w'.cell? ⟨b, 1, none⟩ = some (.int .i64 p1)) (hb : Below w'.heap.size w' w2) : Below w.heap.size w w2 ∧ w2.cell? ⟨b, 0, none⟩ = some (.int .i64 p0) ∧ w2.cell? ⟨b, 1, none⟩ = some (.int .i64 p1) :=
  ⟨below_step h.1 hb, (hb.cell (p := ⟨b, 0, none⟩) (Nat.lt_of_lt_of_le hlt h.1.size)).trans h.2.1, (hb.cell (p := ⟨b, 1, none⟩) (Nat.lt_of_lt_of_le hlt h.1.size)).trans h.2.2⟩
theorem kept_add2 {b : Nat} {w w' w2 : World} {p0 p1 : Int} (hlt : b < w.heap.size) (h : Below w.heap.size w w' ∧ w'.cell? ⟨b, 0, none⟩ = some (.int .i64 p0) ∧ w'.cell? ⟨b, 1, none⟩ = some (.int .i64 p1)) (hb : Below w.heap.size w w2) : Below w.heap.size w w2 ∧ w2.cell? ⟨b, 0, none⟩ = some (.int .i64 p0) ∧ w2.cell? ⟨b, 1, none⟩ = some (.int .i64 p1) :=
  ⟨hb, (hb.cell (p := ⟨b, 0, none⟩) hlt).trans ((h.1.cell (p := ⟨b, 0, none⟩) hlt).symm.trans h.2.1), (hb.cell (p := ⟨b, 1, none⟩) hlt).trans ((h.1.cell (p := ⟨b, 1, none⟩) hlt).symm.trans h.2.2)⟩
theorem addP_no {l : List P2} {p : P2} (h : p ∉ l) : addP l p = l ++ [p] := if_neg h
theorem below_draw1 (w : World) : Below w.heap.size w w.drew := (Below.refl _ _).drew
theorem wf_more {α : Type} {f : α → List Int} {l : List α} {p : α} (hl : ∀ x ∈ l, ∀ z ∈ f x, (Lit.int .i64 z).wf = true) (hp : ∀ z ∈ f p, (Lit.int .i64 z).wf = true) : ∀ x ∈ l ++ [p], ∀ z ∈ f x, (Lit.int .i64 z).wf = true := by
  intro x hx
  rcases List.mem_append.1 hx with hx | hx
  · exact hl x hx
  · rw [List.mem_singleton.1 hx]; exact hp
set_option maxHeartbeats 2000000 in
theorem radd_any (w : World) {a : Option Addr} {c : Nat} {l : List P2} (R : Rds fP 2 w a c l) (hl : l.length ≤ 100000) (p0 p1 : Int) (wp0 : (Lit.int .i64 p0).wf = true) (wp1 : (Lit.int .i64 p1).wf = true) :
    Calls Try.prog 33 #[.slice a l.length c, .agg #[.int .i64 p0, .int .i64 p1]] w fun e w' => ∃ x k, e = .returned (.slice x (addP l (p0, p1)).length k) ∧ Rds fP 2 w' x k (addP l (p0, p1)) ∧ Below w.heap.size w w' := by
  have hmx := Nat.le_trans R.le R.max
  unfold maxLen at hmx
  have hn := below_new w (.cells #[.int .i64 p0, .int .i64 p1] 29)
  have X := Lies.new w [p0, p1] 29 rfl
  have R1 := R.later hn
  go_enter Try.func33, Try.ntmps33
  go_wp2
  go_loopw [5] (fun i wr => ∃ k : Nat, k ≤ l.length ∧ i = .int .i64 k ∧ Below (w.alloc (.cells #[.int .i64 p0, .int .i64 p1] 29)).heap.size (w.alloc (.cells #[.int .i64 p0, .int .i64 p1] 29)) wr ∧ ∀ x ∈ l.take k, x ≠ (p0, p1)) (fun i _ => l.length - (intOf i).toNat)
  case atStart => exact ⟨0, by omega, rfl, Below.refl _ _, by simp⟩
  case round =>
    obtain ⟨k, hk, rfl, hbr, hall⟩ := hrel
    have HA : Hid (∀ x ∈ l.take k, x ≠ (p0, p1)) := hall
    clear hall
    have R2 := R1.later hbr
    have X2 := X.later hbr
    obtain ⟨x0, x1⟩ := X2.two
    by_cases hlt : k < l.length
    · obtain ⟨b, o, rfl, hbb, hc⟩ := R2.at (List.getElem?_eq_getElem hlt)
      have c0 := hc 0 l[k].1 rfl
      have c1 := hc 1 l[k].2 rfl
      rw [Nat.add_zero] at c0
      have hi : (k : Int) < (l.length : Int) := by omega
      by_cases he : l[k] = (p0, p1)
      · have HE : Hid (l[k] = (p0, p1)) := he
        have e0 : l[k].1 = p0 := by rw [he]
        have e1 : l[k].2 = p1 := by rw [he]
        rw [e0] at c0
        rw [e1] at c1
        clear he e0 e1 hc
        go_wp2_with fail
        go_quiet (fail)
        go_wp2_with fail
        go_ret
        have hm : addP l (p0, p1) = l := if_pos (by rw [← HE.out]; exact List.getElem_mem hlt)
        rw [hm]
        exact ⟨_, _, rfl, R2.later (below_draws _ _ _), (below_step hn hbr).trans (below_draws _ _ _)⟩
      · have HE : Hid (l[k] ≠ (p0, p1)) := he
        have hq := fun w => eq_pre l[k].1 l[k].2 p0 p1 w
        have hne : ((l[k].1 == p0) && (l[k].2 == p1)) = false := by
          rw [Bool.eq_false_iff]
          intro hh
          simp only [Bool.and_eq_true, beq_iff_eq] at hh
          exact he (Prod.ext hh.1 hh.2)
        rw [hne] at hq
        clear he hne hc
        generalize l[k].1 = u0 at c0 hq
        generalize l[k].2 = u1 at c1 hq
        go_wp2_with fail
        go_quiet (fail)
        go_wp2_with fail
        go_roundw
        case rel => exact ⟨k + 1, by omega, by go_num, hbr.trans (below_draws _ _ _), take_next hlt HA.out HE.out⟩
        case measure => simp [intOf]; omega
    · have hkl : k = l.length := by omega
      have hnot : (p0, p1) ∉ l := fun hm => HA.out (p0, p1) (by rw [hkl, List.take_length]; exact hm) rfl
      have hlw : w.heap.size < wr.heap.size := Nat.lt_of_lt_of_le X.lt hbr.size
      have wfp : ∀ z ∈ fP (p0, p1), (Lit.int .i64 z).wf = true := by intro z hz; simp only [fP, List.mem_cons, List.not_mem_nil, or_false] at hz; rcases hz with rfl | rfl <;> assumption
      clear HA
      have S0 : Below wr.heap.size wr wr.drew ∧ wr.drew.cell? ⟨w.heap.size, 0, none⟩ = some (.int .i64 p0) ∧ wr.drew.cell? ⟨w.heap.size, 1, none⟩ = some (.int .i64 p1) := ⟨(Below.refl _ _).drew, x0, x1⟩
      go_wp2_with fail
      refine wp_region_noPanic ?_
      refine wp_region_held_drew (S := fun w' => Below wr.heap.size wr w' ∧ w'.cell? ⟨w.heap.size, 0, none⟩ = some (.int .i64 p0) ∧ w'.cell? ⟨w.heap.size, 1, none⟩ = some (.int .i64 p1)) (by kernel_rfl) S0 (fun hH => ?_)
      clear S0
      refine wpAnyH_take (i := 0) (oi := { dst := some 19, op := _, type := _, pos := _, after := _, guard := _ }) (v := ?_) rfl (by kernel_rfl) (by kernel_rfl) (by kernel_rfl) (fun _ _ _ h => h) (Or.inl ⟨by rfl, ?_⟩) hH ?_
      rotate_left
      · intro wz hSw
        (try dsimp only at hSw)
        first | (go_simp; done) | (go_simp; with_reducible rfl)
      try simp only [Act.put, List.setIfInBounds_toArray, List.set_cons_zero, List.set_cons_succ]
      refine wpAnyH_take (i := 2) (oi := { dst := some 21, op := _, type := _, pos := _, after := _, guard := _ }) (v := ?_) rfl (by kernel_rfl) (by kernel_rfl) (by kernel_rfl) (fun _ _ _ h => h) (Or.inl ⟨by rfl, ?_⟩) hH ?_
      rotate_left
      · intro wz hSw
        (try dsimp only at hSw)
        first | (go_simp; done) | (go_simp; with_reducible rfl)
      try simp only [Act.put, List.setIfInBounds_toArray, List.set_cons_zero, List.set_cons_succ]
      refine wpAnyH_ready (rs := [1, 3]) (by kernel_rfl) (by simp) ?_
      refine AllReadyH.cons (o := { dst := some 20, op := _, type := _, pos := _, after := _, guard := _ }) rfl (fun K hK => ?_) (AllReadyH.cons (o := { dst := some 22, op := _, type := _, pos := _, after := _, guard := _ }) rfl (fun K hK => ?_) AllReadyH.nil)
      · refine stepRds_join fP_len (by decide) (by rfl) (.const (.slice none 0 0)) (.tmp 19) 48 (by rfl) wr.heap.size 29 16 _ Try.underlying48 infoP rfl (v := .slice none 0 0) (n := 0) (ys := []) (by rfl) (World.ownsRow_nil _ _ _ _) (by rfl) (R2.later (Below.refl _ _).drew) rfl (by omega) (by omega) (Nat.le_refl _) ?_
        intro v3 w3 own3 hg3
        simp only [Nat.zero_add, List.nil_append] at own3
        have hb3 := below_fresh (B := wr.drew.heap.size) hg3 (Nat.le_refl _)
        refine hK.out _ _ (kept_add hlw hH hb3) (fun hH2 => ?_)
        clear hK K hH
        have hH := hH2
        clear hH2
        try simp only [Act.put, List.setIfInBounds_toArray, List.set_cons_zero, List.set_cons_succ]
        refine wpAnyH_ready (rs := [3]) (by kernel_rfl) (by simp) ?_
        refine AllReadyH.cons (o := { dst := some 22, op := _, type := _, pos := _, after := _, guard := _ }) rfl (fun K hK => ?_) AllReadyH.nil
        go_simp
        have hn5 := below_new w3 (.cells #[.int .i64 p0, .int .i64 p1] 29)
        have R5 := rds_new fP_len w3 (p0, p1) 29 wfp rfl
        refine hK.out _ _ (kept_add hlw hH hn5) (fun hH2 => ?_)
        clear hK K hH
        have hH := hH2
        clear hH2
        try simp only [Act.put, List.setIfInBounds_toArray, List.set_cons_zero, List.set_cons_succ]
        refine wpAnyH_ready (rs := [4]) (by kernel_rfl) (by simp) ?_
        refine AllReadyH.cons (o := { dst := some 23, op := _, type := _, pos := _, after := _, guard := _ }) rfl (fun K hK => ?_) AllReadyH.nil
        have hsz := hH.1.size
        refine stepRds_join fP_len (by decide) (by rfl) (.tmp 20) (.tmp 22) 48 (by rfl) wr.heap.size 29 16 _ Try.underlying48 infoP rfl (by rfl) (own3.alloc _) (m := 1) (by rfl) R5 rfl (by omega) (by omega) hsz ?_
        intro v6 w6 own6 hg6
        have hB6 := below_growR hH.1 (own3.alloc _) hg6 hsz
        refine hK.out _ _ (kept_add2 hlw hH hB6) (fun hH2 => ?_)
        clear hK K hH
        have hH := hH2
        clear hH2
        try simp only [Act.put, List.setIfInBounds_toArray, List.set_cons_zero, List.set_cons_succ]
        refine wpAnyH_take (i := 5) (oi := { dst := some 4, op := _, type := _, pos := _, after := _, guard := _ }) (v := ?_) rfl (by kernel_rfl) (by kernel_rfl) (by kernel_rfl) (fun _ _ _ h => h) (Or.inl ⟨by rfl, ?_⟩) hH ?_
        rotate_left
        · intro wz hSw
          (try dsimp only at hSw)
          first | (go_simp; done) | (go_simp; with_reducible rfl)
        try simp only [Act.put, List.setIfInBounds_toArray, List.set_cons_zero, List.set_cons_succ]
        refine wpAnyH_done (by kernel_rfl) ?_ _
        refine NoPanic.normal ?_
        go_wp2_with fail
        obtain ⟨a8, k8, rfl, R8⟩ := rds_of_owns fP_len own6 (by simp) (wf_more R.wf wfp)
        go_ret
        refine ⟨a8, k8, ?_, ?_, ?_⟩
        · rw [addP_no hnot]; simp
        · rw [addP_no hnot]; exact R8
        · exact below_step (below_step hn hbr) hH.1
      · go_simp
        have hn5 : Below wr.heap.size wr (wr.alloc (.cells #[.int .i64 p0, .int .i64 p1] 29)).drew := (below_new wr (.cells #[.int .i64 p0, .int .i64 p1] 29)).drew
        have R5 := (rds_new fP_len wr (p0, p1) 29 wfp rfl).later (below_draw1 _)
        refine hK.out _ _ (kept_add hlw hH (below_new _ _)) (fun hH2 => ?_)
        clear hK K hH
        have hH := hH2
        clear hH2
        try simp only [Act.put, List.setIfInBounds_toArray, List.set_cons_zero, List.set_cons_succ]
        refine wpAnyH_ready (rs := [1]) (by kernel_rfl) (by simp) ?_
        refine AllReadyH.cons (o := { dst := some 20, op := _, type := _, pos := _, after := _, guard := _ }) rfl (fun K hK => ?_) AllReadyH.nil
        have hsz := hH.1.size
        refine stepRds_join fP_len (by decide) (by rfl) (.const (.slice none 0 0)) (.tmp 19) 48 (by rfl) wr.heap.size 29 16 _ Try.underlying48 infoP rfl (v := .slice none 0 0) (n := 0) (ys := []) (by rfl) (World.ownsRow_nil _ _ _ _) (by rfl) (R2.later hH.1) rfl (by omega) (by omega) hsz ?_
        intro v3 w3 own3 hg3
        simp only [Nat.zero_add, List.nil_append] at own3
        have hb3 := below_fresh hg3 (Nat.le_refl _)
        have hsz3 := Nat.le_trans hsz hb3.size
        replace R5 := R5.later hb3
        refine hK.out _ _ (kept_add hlw hH hb3) (fun hH2 => ?_)
        clear hK K hH
        have hH := hH2
        clear hH2
        try simp only [Act.put, List.setIfInBounds_toArray, List.set_cons_zero, List.set_cons_succ]
        refine wpAnyH_ready (rs := [4]) (by kernel_rfl) (by simp) ?_
        refine AllReadyH.cons (o := { dst := some 23, op := _, type := _, pos := _, after := _, guard := _ }) rfl (fun K hK => ?_) AllReadyH.nil
        refine stepRds_join fP_len (by decide) (by rfl) (.tmp 20) (.tmp 22) 48 (by rfl) wr.heap.size 29 16 _ Try.underlying48 infoP rfl (by rfl) own3 (m := 1) (by rfl) R5 rfl (by omega) (by omega) hsz3 ?_
        intro v6 w6 own6 hg6
        have hB6 := below_growR hH.1 own3 hg6 hsz3
        refine hK.out _ _ (kept_add2 hlw hH hB6) (fun hH2 => ?_)
        clear hK K hH
        have hH := hH2
        clear hH2
        try simp only [Act.put, List.setIfInBounds_toArray, List.set_cons_zero, List.set_cons_succ]
        refine wpAnyH_take (i := 5) (oi := { dst := some 4, op := _, type := _, pos := _, after := _, guard := _ }) (v := ?_) rfl (by kernel_rfl) (by kernel_rfl) (by kernel_rfl) (fun _ _ _ h => h) (Or.inl ⟨by rfl, ?_⟩) hH ?_
        rotate_left
        · intro wz hSw
          (try dsimp only at hSw)
          first | (go_simp; done) | (go_simp; with_reducible rfl)
        try simp only [Act.put, List.setIfInBounds_toArray, List.set_cons_zero, List.set_cons_succ]
        refine wpAnyH_done (by kernel_rfl) ?_ _
        refine NoPanic.normal ?_
        go_wp2_with fail
        obtain ⟨a8, k8, rfl, R8⟩ := rds_of_owns fP_len own6 (by simp) (wf_more R.wf wfp)
        go_ret
        refine ⟨a8, k8, ?_, ?_, ?_⟩
        · rw [addP_no hnot]; simp
        · rw [addP_no hnot]; exact R8
        · exact below_step (below_step hn hbr) hH.1
end Go.Proofs.Ytlgldoggnlcbkaa
