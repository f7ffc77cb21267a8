/- What the document's 'with' answers: entries with one more, in order, in place of one that it was. -/
import Derived.Test.YtlgldoggnlcbkaaTrieAdd
namespace Go.Proofs.Ytlgldoggnlcbkaa
open Go.ChangeShapes Go.WideShapes Go.ChangeAt Go.RowKit Tt
set_option linter.unusedVariables false
set_option linter.unusedSimpArgs false

theorem kept_with {w w' w2 : World} {a : Option Addr} {c B : Nat} {l : List T3} {L : List Int} (h : Below w.heap.size w w' ∧ Rds fE 3 w' a c l ∧ Lies w' B L) (hb : Below w'.heap.size w' w2) : Below w.heap.size w w2 ∧ Rds fE 3 w2 a c l ∧ Lies w2 B L :=
  ⟨below_step h.1 hb, h.2.1.later hb, h.2.2.later hb⟩
theorem ne_pre (a n b m : Int) (w : World) : (binOp .neq 29 (.agg #[.int .i64 a, .int .i64 n]) (.agg #[.int .i64 b, .int .i64 m])).run Try.prog w = .ok (.bool (!((a == b) && (n == m)))) w := by
  cases h0 : (a == b)
  · go_simp
  cases h1 : (n == m)
  · go_simp
  go_simp
def stepW (e : T3) (s : List T3 × Bool) (x : T3) : List T3 × Bool := (s.1 ++ ((if (!s.2 && here e x) = true then [e] else []) ++ (if x.1 ≠ e.1 then [x] else [])), s.2 || here e x)
def stW (e : T3) (l : List T3) (k : Nat) : List T3 × Bool := (l.take k).foldl (stepW e) ([], false)
theorem stW_next (e : T3) {l : List T3} {k : Nat} (h : k < l.length) : stW e l (k + 1) = stepW e (stW e l k) l[k] := by
  unfold stW
  rw [List.take_succ_eq_append_getElem h, List.foldl_append]
  rfl
theorem with_fold (e : T3) (l : List T3) (s : List T3 × Bool) : s.1 ++ withGo e s.2 l = (l.foldl (stepW e) s).1 ++ (if (l.foldl (stepW e) s).2 = true then [] else [e]) := by
  induction l generalizing s with
  | nil => rfl
  | cons x l ih =>
    rw [List.foldl_cons, ← ih]
    simp only [withGo, stepW, List.append_assoc]
theorem with_st (e : T3) (l : List T3) : withGo e false l = (stW e l l.length).1 ++ (if (stW e l l.length).2 = true then [] else [e]) := by
  have := with_fold e l ([], false)
  unfold stW
  rw [List.take_length]
  exact this
theorem st_mem (e : T3) (l : List T3) (s : List T3 × Bool) : ∀ x ∈ (l.foldl (stepW e) s).1, x ∈ s.1 ∨ x = e ∨ x ∈ l := by
  induction l generalizing s with
  | nil => exact fun x hx => .inl hx
  | cons y l ih =>
    intro x hx
    rw [List.foldl_cons] at hx
    rcases ih _ x hx with h | h | h
    · simp only [stepW, List.mem_append] at h
      rcases h with h | h | h
      · exact .inl h
      · split at h
        · exact .inr (.inl (List.mem_singleton.1 h))
        · cases h
      · split at h
        · exact .inr (.inr (by rw [List.mem_singleton.1 h]; simp))
        · cases h
    · exact .inr (.inl h)
    · exact .inr (.inr (by simp [h]))
theorem st_len (e : T3) (l : List T3) (s : List T3 × Bool) : (l.foldl (stepW e) s).1.length ≤ s.1.length + 2 * l.length := by
  induction l generalizing s with
  | nil => exact Nat.le_refl _
  | cons y l ih =>
    rw [List.foldl_cons]
    have h := ih (stepW e s y)
    have h2 : (stepW e s y).1.length ≤ s.1.length + 2 := by
      simp only [stepW, List.length_append]
      split <;> split <;> simp
    simp only [List.length_cons]
    omega
/-- the row of what has been gathered so far -/
def OutIs (B : Nat) (w : World) (v : Value) (O : List T3) : Prop := w.ownsRow B 36 3 v O.length (flatV fE O)
theorem out_is {B : Nat} {w : World} {v : Value} {s s2 : List T3 × Bool} {O : List T3} (h : s = s2) (h2 : s2.1 = O) (h3 : OutIs B w v O) : OutIs B w v s.1 := by rw [h, h2]; exact h3
set_option maxHeartbeats 4000000 in
theorem rwith_any (w : World) {a : Option Addr} {c : Nat} {l : List T3} (R : Rds fE 3 w a c l) (hl : l.length ≤ 100) (e0 e1 e2 : Int) (we : ∀ z ∈ fE ((e0, e1), e2), (Lit.int .i64 z).wf = true) :
    Calls Try.prog 28 #[.slice a l.length c, .agg #[.int .i64 e0, .int .i64 e1, .int .i64 e2]] w fun e w' => ∃ x k, e = .returned (.slice x (withGo ((e0, e1), e2) false l).length k) ∧ (Rds fE 3 w' x k (withGo ((e0, e1), e2) false l) ∧ ∀ y, x = some y → w.heap.size ≤ y.block ∧ y.block < w'.heap.size) ∧ Below w.heap.size w w' := by
  have hmx := Nat.le_trans R.le R.max
  unfold maxLen at hmx
  have hn := below_new w (.cells #[.int .i64 e0, .int .i64 e1, .int .i64 e2] 36)
  have X := Lies.new w [e0, e1, e2] 36 rfl
  have R1 := R.later hn
  go_enter Try.func28, Try.ntmps28
  go_wp2
  go_loopw [5, 6, 7] (fun v d i wr => ∃ k : Nat, k ≤ l.length ∧ i = .int .i64 k ∧ d = .bool (stW ((e0, e1), e2) l k).2 ∧ OutIs (w.alloc (.cells #[.int .i64 e0, .int .i64 e1, .int .i64 e2] 36)).heap.size wr v (stW ((e0, e1), e2) l k).1 ∧ Below (w.alloc (.cells #[.int .i64 e0, .int .i64 e1, .int .i64 e2] 36)).heap.size (w.alloc (.cells #[.int .i64 e0, .int .i64 e1, .int .i64 e2] 36)) wr) (fun _ _ i _ => l.length - (intOf i).toNat)
  case atStart => exact ⟨0, by omega, rfl, rfl, World.ownsRow_nil _ _ _ _, Below.refl _ _⟩
  case round =>
    obtain ⟨k, hk, rfl, rfl, own, hbr⟩ := hrel
    have hsl := st_len ((e0, e1), e2) (l.take k) ([], false)
    have htl : (l.take k).length ≤ k := by simp; omega
    by_cases hlt : k < l.length
    · have gk : l[k]? = some l[k] := List.getElem?_eq_getElem hlt
      obtain ⟨b, o, rfl, hbb, -⟩ := R1.at gk
      have hi : (k : Int) < (l.length : Int) := by omega
      have NX : Hid (stW ((e0, e1), e2) l (k + 1) = stepW ((e0, e1), e2) (stW ((e0, e1), e2) l k) l[k]) := stW_next _ hlt
      have hsl2 : (stW ((e0, e1), e2) l k).1.length ≤ 0 + 2 * (l.take k).length := hsl
      clear hsl
      obtain ⟨⟨O, d⟩, hOd⟩ : ∃ s, stW ((e0, e1), e2) l k = s := ⟨_, rfl⟩
      rw [hOd] at own NX hsl2 ⊢
      clear hOd
      dsimp only at own hsl2 ⊢
      unfold OutIs at own
      have S0 : Below wr.heap.size wr wr.drew ∧ Rds fE 3 wr.drew (some ⟨b, o, none⟩) c l ∧ Lies wr.drew w.heap.size [e0, e1, e2] := ⟨(Below.refl _ _).drew, (R1.later hbr).later (below_draw1 _), (X.later hbr).later (below_draw1 _)⟩
      have hq := fun w => eq_pre l[k].1.1 l[k].1.2 e0 e1 w
      have hq2 := fun w => ne_pre l[k].1.1 l[k].1.2 e0 e1 w
      cases hah : less (e0, e1) (l[k].1.1, l[k].1.2)
      · by_cases he : l[k].1 = (e0, e1)
        · have hbv : ((l[k].1.1 == e0) && (l[k].1.2 == e1)) = true := by
            simp [he]
          rw [hbv] at hq hq2
          have HP : Hid (l[k].1 = (e0, e1)) := he
          have HH : Hid (here ((e0, e1), e2) l[k] = true) := by
            show (less (e0, e1) l[k].1 || decide (l[k].1 = (e0, e1))) = true
            rw [show less (e0, e1) l[k].1 = false from hah, decide_eq_true he]
            rfl
          clear he hbv
          cases d
          · go_wp2_with fail
            refine wp_region_noPanic ?_
            refine wp_region_held_drew (S := fun w' => Below wr.heap.size wr w' ∧ Rds fE 3 w' (some ⟨b, o, none⟩) c l ∧ Lies w' w.heap.size [e0, e1, e2]) (by kernel_rfl) S0 (fun hH => ?_)
            clear S0
            refine wpAnyH_take (i := 0) (oi := { dst := some 15, op := _, type := _, pos := _, after := _, guard := _ }) (v := ?_) rfl (by kernel_rfl) (by kernel_rfl) (by kernel_rfl) (fun _ _ _ h => h) (Or.inl ⟨by rfl, ?_⟩) hH ?_
            rotate_left
            · intro wz hSw
              (try dsimp only at hSw)
              first | (go_simp; done) | (go_simp; with_reducible rfl)
            try simp only [Act.put, List.setIfInBounds_toArray, List.set_cons_zero, List.set_cons_succ]
            refine wpAnyH_take (i := 1) (oi := { dst := some 16, op := _, type := _, pos := _, after := _, guard := _ }) (v := ?_) rfl (by kernel_rfl) (by kernel_rfl) (by kernel_rfl) (fun _ _ _ h => h) (Or.inl ⟨by rfl, ?_⟩) hH ?_
            rotate_left
            · intro wz hSw
              (try dsimp only at hSw)
              obtain ⟨q0, q1, q2⟩ := hSw.2.2.three
              first | (go_simp; done) | (go_simp; with_reducible rfl)
            try simp only [Act.put, List.setIfInBounds_toArray, List.set_cons_zero, List.set_cons_succ]
            refine wpAnyH_take (i := 2) (oi := { dst := some 17, op := _, type := _, pos := _, after := _, guard := _ }) (v := ?_) rfl (by kernel_rfl) (by kernel_rfl) (by kernel_rfl) (fun _ _ _ h => h) (Or.inl ⟨by rfl, ?_⟩) hH ?_
            rotate_left
            · intro wz hSw
              (try dsimp only at hSw)
              first | (go_simp; done) | (go_simp; with_reducible rfl)
            try simp only [Act.put, List.setIfInBounds_toArray, List.set_cons_zero, List.set_cons_succ]
            refine wpAnyH_take (i := 3) (oi := { dst := some 18, op := _, type := _, pos := _, after := _, guard := _ }) (v := ?_) rfl (by kernel_rfl) (by kernel_rfl) (by kernel_rfl) (fun _ _ _ h => h) (Or.inl ⟨by rfl, ?_⟩) hH ?_
            rotate_left
            · intro wz hSw
              (try dsimp only at hSw)
              first | (go_simp; done) | (go_simp; with_reducible rfl)
            try simp only [Act.put, List.setIfInBounds_toArray, List.set_cons_zero, List.set_cons_succ]
            refine wpAnyH_take (i := 4) (oi := { dst := some 19, op := _, type := _, pos := _, after := _, guard := _ }) (v := ?_) rfl (by kernel_rfl) (by kernel_rfl) (by kernel_rfl) (fun _ _ _ h => h) (Or.inl ⟨by rfl, ?_⟩) hH ?_
            rotate_left
            · intro wz hSw
              (try dsimp only at hSw)
              first | (go_simp; done) | (go_simp; with_reducible rfl)
            try simp only [Act.put, List.setIfInBounds_toArray, List.set_cons_zero, List.set_cons_succ]
            refine wpAnyH_take (i := 5) (oi := { dst := some 20, op := _, type := _, pos := _, after := _, guard := _ }) (v := ?_) rfl (by kernel_rfl) (by kernel_rfl) (by kernel_rfl) (fun _ _ _ h => h) (Or.inl ⟨by rfl, ?_⟩) hH ?_
            rotate_left
            · intro wz hSw
              (try dsimp only at hSw)
              first | (go_simp; done) | (go_simp; with_reducible rfl)
            try simp only [Act.put, List.setIfInBounds_toArray, List.set_cons_zero, List.set_cons_succ]
            refine wpAnyH_take (i := 6) (oi := { dst := some 21, op := _, type := _, pos := _, after := _, guard := _ }) (v := ?_) rfl (by kernel_rfl) (by kernel_rfl) (by kernel_rfl) (fun _ _ _ h => h) (Or.inl ⟨by rfl, ?_⟩) hH ?_
            rotate_left
            · intro wz hSw
              (try dsimp only at hSw)
              obtain ⟨b9, o9, e9, _, hc9⟩ := hSw.2.1.at gk
              cases e9
              have c0 := hc9 0 _ rfl
              have c1 := hc9 1 _ rfl
              rw [Nat.add_zero] at c0
              first | (go_simp; done) | (go_simp; with_reducible rfl)
            try simp only [Act.put, List.setIfInBounds_toArray, List.set_cons_zero, List.set_cons_succ]
            refine wpAnyH_ready (rs := [7]) (by kernel_rfl) (by simp) ?_
            refine AllReadyH.cons (o := { dst := some 22, op := _, type := _, pos := _, after := _, guard := _ }) rfl (fun K hK => ?_) AllReadyH.nil
            go_simp
            refine (rless_any _ _ _ _ _).mono ?_
            rw [hah]
            rintro e wq7 ⟨rfl, hbq⟩
            go_wp2_with fail
            refine hK.out _ _ (kept_with hH hbq) (fun hH2 => ?_)
            clear hK K hH hbq
            have hH := hH2
            clear hH2
            try simp only [Act.put, List.setIfInBounds_toArray, List.set_cons_zero, List.set_cons_succ]
            refine wpAnyH_take (i := 8) (oi := { dst := some 8, op := _, type := _, pos := _, after := _, guard := _ }) (v := ?_) rfl (by kernel_rfl) (by kernel_rfl) (by kernel_rfl) (fun _ _ _ h => h) (Or.inl ⟨by rfl, ?_⟩) hH ?_
            rotate_left
            · intro wz hSw
              (try dsimp only at hSw)
              first | (go_simp; done) | (go_simp; with_reducible rfl)
            try simp only [Act.put, List.setIfInBounds_toArray, List.set_cons_zero, List.set_cons_succ]
            refine wpAnyH_done (by kernel_rfl) ?_ _
            refine NoPanic.normal ?_
            have hb1 := below_step hbr hH.1
            have ow1 := own_laterR own hH.1
            clear hH own
            obtain ⟨x0, x1, x2⟩ := (X.later hb1).three
            obtain ⟨b9, o9, e9, -, hc9⟩ := (R1.later hb1).at gk
            cases e9
            have c0 := hc9 0 _ rfl
            have c1 := hc9 1 _ rfl
            have c2 := hc9 2 _ rfl
            rw [Nat.add_zero] at c0
            clear hc9
            have hs1 := hb1.size
            go_wp2_with fail
            go_quiet (fail)
            revert nq
            intro n1
            have hb2 := hb1.trans (below_draws _ _ n1)
            have ow2 := own_laterR ow1 (below_draws _ _ n1)
            go_wp2_with (at_builtin; refine wpRds_one fE_len (by decide) _ ((e0, e1), e2) 36 rfl rfl (.tmp 38) (.tmp 40) 40 rfl (w.alloc (.cells #[.int .i64 e0, .int .i64 e1, .int .i64 e2] 36)).heap.size 24 _ Try.underlying40 infoE rfl rfl ow2 rfl (by omega) (by omega) hs1 ?_; intro v8 w8 own8 hg8)
            have hb3 := below_growR (hb2.alloc hs1 (.cells #[.int .i64 e0, .int .i64 e1, .int .i64 e2] 36)) (ow2.alloc _) hg8 (Nat.le_trans hs1 (below_new _ _).size)
            clear x0 x1 x2 c0 c1 c2
            obtain ⟨x0, x1, x2⟩ := (X.later hb3).three
            obtain ⟨b9, o9, e9, -, hc9⟩ := (R1.later hb3).at gk
            cases e9
            have c0 := hc9 0 _ rfl
            have c1 := hc9 1 _ rfl
            have c2 := hc9 2 _ rfl
            rw [Nat.add_zero] at c0
            clear hc9
            have ow3 := own8
            have hs3 := hb3.size
            go_quiet (fail)
            have hb4 := hb3.trans (below_draws _ _ nq)
            have ow4 := own_laterR ow3 (below_draws _ _ nq)
            go_wp2_with fail
            go_roundw
            case rel => exact ⟨k + 1, by omega, by go_num, by rw [NX.out]; simp [stepW, HH.out], out_is NX.out (O := (O ++ [((e0, e1), e2)])) (by simp [stepW, HH.out, HP.out]) (by unfold OutIs; simpa using ow4), hb4⟩
            case measure => simp [intOf]; omega
          · go_wp2_with fail
            refine wp_region_noPanic ?_
            refine wp_region_held_drew (S := fun w' => Below wr.heap.size wr w' ∧ Rds fE 3 w' (some ⟨b, o, none⟩) c l ∧ Lies w' w.heap.size [e0, e1, e2]) (by kernel_rfl) S0 (fun hH => ?_)
            clear S0
            refine wpAnyH_take (i := 0) (oi := { dst := some 15, op := _, type := _, pos := _, after := _, guard := _ }) (v := ?_) rfl (by kernel_rfl) (by kernel_rfl) (by kernel_rfl) (fun _ _ _ h => h) (Or.inl ⟨by rfl, ?_⟩) hH ?_
            rotate_left
            · intro wz hSw
              (try dsimp only at hSw)
              first | (go_simp; done) | (go_simp; with_reducible rfl)
            try simp only [Act.put, List.setIfInBounds_toArray, List.set_cons_zero, List.set_cons_succ]
            refine wpAnyH_take (i := 1) (oi := { dst := some 16, op := _, type := _, pos := _, after := _, guard := _ }) (v := ?_) rfl (by kernel_rfl) (by kernel_rfl) (by kernel_rfl) (fun _ _ _ h => h) (Or.inl ⟨by rfl, ?_⟩) hH ?_
            rotate_left
            · intro wz hSw
              (try dsimp only at hSw)
              obtain ⟨q0, q1, q2⟩ := hSw.2.2.three
              first | (go_simp; done) | (go_simp; with_reducible rfl)
            try simp only [Act.put, List.setIfInBounds_toArray, List.set_cons_zero, List.set_cons_succ]
            refine wpAnyH_take (i := 2) (oi := { dst := some 17, op := _, type := _, pos := _, after := _, guard := _ }) (v := ?_) rfl (by kernel_rfl) (by kernel_rfl) (by kernel_rfl) (fun _ _ _ h => h) (Or.inl ⟨by rfl, ?_⟩) hH ?_
            rotate_left
            · intro wz hSw
              (try dsimp only at hSw)
              first | (go_simp; done) | (go_simp; with_reducible rfl)
            try simp only [Act.put, List.setIfInBounds_toArray, List.set_cons_zero, List.set_cons_succ]
            refine wpAnyH_take (i := 3) (oi := { dst := some 18, op := _, type := _, pos := _, after := _, guard := _ }) (v := ?_) rfl (by kernel_rfl) (by kernel_rfl) (by kernel_rfl) (fun _ _ _ h => h) (Or.inl ⟨by rfl, ?_⟩) hH ?_
            rotate_left
            · intro wz hSw
              (try dsimp only at hSw)
              first | (go_simp; done) | (go_simp; with_reducible rfl)
            try simp only [Act.put, List.setIfInBounds_toArray, List.set_cons_zero, List.set_cons_succ]
            refine wpAnyH_take (i := 4) (oi := { dst := some 19, op := _, type := _, pos := _, after := _, guard := _ }) (v := ?_) rfl (by kernel_rfl) (by kernel_rfl) (by kernel_rfl) (fun _ _ _ h => h) (Or.inl ⟨by rfl, ?_⟩) hH ?_
            rotate_left
            · intro wz hSw
              (try dsimp only at hSw)
              first | (go_simp; done) | (go_simp; with_reducible rfl)
            try simp only [Act.put, List.setIfInBounds_toArray, List.set_cons_zero, List.set_cons_succ]
            refine wpAnyH_take (i := 5) (oi := { dst := some 20, op := _, type := _, pos := _, after := _, guard := _ }) (v := ?_) rfl (by kernel_rfl) (by kernel_rfl) (by kernel_rfl) (fun _ _ _ h => h) (Or.inl ⟨by rfl, ?_⟩) hH ?_
            rotate_left
            · intro wz hSw
              (try dsimp only at hSw)
              first | (go_simp; done) | (go_simp; with_reducible rfl)
            try simp only [Act.put, List.setIfInBounds_toArray, List.set_cons_zero, List.set_cons_succ]
            refine wpAnyH_take (i := 6) (oi := { dst := some 21, op := _, type := _, pos := _, after := _, guard := _ }) (v := ?_) rfl (by kernel_rfl) (by kernel_rfl) (by kernel_rfl) (fun _ _ _ h => h) (Or.inl ⟨by rfl, ?_⟩) hH ?_
            rotate_left
            · intro wz hSw
              (try dsimp only at hSw)
              obtain ⟨b9, o9, e9, _, hc9⟩ := hSw.2.1.at gk
              cases e9
              have c0 := hc9 0 _ rfl
              have c1 := hc9 1 _ rfl
              rw [Nat.add_zero] at c0
              first | (go_simp; done) | (go_simp; with_reducible rfl)
            try simp only [Act.put, List.setIfInBounds_toArray, List.set_cons_zero, List.set_cons_succ]
            refine wpAnyH_ready (rs := [7]) (by kernel_rfl) (by simp) ?_
            refine AllReadyH.cons (o := { dst := some 22, op := _, type := _, pos := _, after := _, guard := _ }) rfl (fun K hK => ?_) AllReadyH.nil
            go_simp
            refine (rless_any _ _ _ _ _).mono ?_
            rw [hah]
            rintro e wq7 ⟨rfl, hbq⟩
            go_wp2_with fail
            refine hK.out _ _ (kept_with hH hbq) (fun hH2 => ?_)
            clear hK K hH hbq
            have hH := hH2
            clear hH2
            try simp only [Act.put, List.setIfInBounds_toArray, List.set_cons_zero, List.set_cons_succ]
            refine wpAnyH_take (i := 8) (oi := { dst := some 8, op := _, type := _, pos := _, after := _, guard := _ }) (v := ?_) rfl (by kernel_rfl) (by kernel_rfl) (by kernel_rfl) (fun _ _ _ h => h) (Or.inl ⟨by rfl, ?_⟩) hH ?_
            rotate_left
            · intro wz hSw
              (try dsimp only at hSw)
              first | (go_simp; done) | (go_simp; with_reducible rfl)
            try simp only [Act.put, List.setIfInBounds_toArray, List.set_cons_zero, List.set_cons_succ]
            refine wpAnyH_done (by kernel_rfl) ?_ _
            refine NoPanic.normal ?_
            have hb1 := below_step hbr hH.1
            have ow1 := own_laterR own hH.1
            clear hH own
            obtain ⟨x0, x1, x2⟩ := (X.later hb1).three
            obtain ⟨b9, o9, e9, -, hc9⟩ := (R1.later hb1).at gk
            cases e9
            have c0 := hc9 0 _ rfl
            have c1 := hc9 1 _ rfl
            have c2 := hc9 2 _ rfl
            rw [Nat.add_zero] at c0
            clear hc9
            have hs1 := hb1.size
            go_wp2_with fail
            go_quiet (fail)
            revert nq
            intro n1
            have hb2 := hb1.trans (below_draws _ _ n1)
            have ow2 := own_laterR ow1 (below_draws _ _ n1)
            go_wp2_with fail
            have hb3 := hb2
            have ow3 := ow2
            have hs3 := hs1
            go_quiet (fail)
            have hb4 := hb1.trans (below_draws _ _ (n1 + nq))
            have ow4 := own_laterR ow1 (below_draws _ _ (n1 + nq))
            go_wp2_with fail
            go_roundw
            case rel => exact ⟨k + 1, by omega, by go_num, by rw [NX.out]; simp [stepW, HH.out], out_is NX.out (O := O) (by simp [stepW, HH.out, HP.out]) (by unfold OutIs; simpa using ow4), hb4⟩
            case measure => simp [intOf]; omega
        · have hbv : ((l[k].1.1 == e0) && (l[k].1.2 == e1)) = false := by
            rw [Bool.eq_false_iff]; intro hh; simp only [Bool.and_eq_true, beq_iff_eq] at hh; exact he (Prod.ext hh.1 hh.2)
          rw [hbv] at hq hq2
          have HP : Hid (¬ l[k].1 = (e0, e1)) := he
          have HH : Hid (here ((e0, e1), e2) l[k] = false) := by
            show (less (e0, e1) l[k].1 || decide (l[k].1 = (e0, e1))) = false
            rw [show less (e0, e1) l[k].1 = false from hah, decide_eq_false he]
            rfl
          clear he hbv
          cases d
          · go_wp2_with fail
            refine wp_region_noPanic ?_
            refine wp_region_held_drew (S := fun w' => Below wr.heap.size wr w' ∧ Rds fE 3 w' (some ⟨b, o, none⟩) c l ∧ Lies w' w.heap.size [e0, e1, e2]) (by kernel_rfl) S0 (fun hH => ?_)
            clear S0
            refine wpAnyH_take (i := 0) (oi := { dst := some 15, op := _, type := _, pos := _, after := _, guard := _ }) (v := ?_) rfl (by kernel_rfl) (by kernel_rfl) (by kernel_rfl) (fun _ _ _ h => h) (Or.inl ⟨by rfl, ?_⟩) hH ?_
            rotate_left
            · intro wz hSw
              (try dsimp only at hSw)
              first | (go_simp; done) | (go_simp; with_reducible rfl)
            try simp only [Act.put, List.setIfInBounds_toArray, List.set_cons_zero, List.set_cons_succ]
            refine wpAnyH_take (i := 1) (oi := { dst := some 16, op := _, type := _, pos := _, after := _, guard := _ }) (v := ?_) rfl (by kernel_rfl) (by kernel_rfl) (by kernel_rfl) (fun _ _ _ h => h) (Or.inl ⟨by rfl, ?_⟩) hH ?_
            rotate_left
            · intro wz hSw
              (try dsimp only at hSw)
              obtain ⟨q0, q1, q2⟩ := hSw.2.2.three
              first | (go_simp; done) | (go_simp; with_reducible rfl)
            try simp only [Act.put, List.setIfInBounds_toArray, List.set_cons_zero, List.set_cons_succ]
            refine wpAnyH_take (i := 2) (oi := { dst := some 17, op := _, type := _, pos := _, after := _, guard := _ }) (v := ?_) rfl (by kernel_rfl) (by kernel_rfl) (by kernel_rfl) (fun _ _ _ h => h) (Or.inl ⟨by rfl, ?_⟩) hH ?_
            rotate_left
            · intro wz hSw
              (try dsimp only at hSw)
              first | (go_simp; done) | (go_simp; with_reducible rfl)
            try simp only [Act.put, List.setIfInBounds_toArray, List.set_cons_zero, List.set_cons_succ]
            refine wpAnyH_take (i := 3) (oi := { dst := some 18, op := _, type := _, pos := _, after := _, guard := _ }) (v := ?_) rfl (by kernel_rfl) (by kernel_rfl) (by kernel_rfl) (fun _ _ _ h => h) (Or.inl ⟨by rfl, ?_⟩) hH ?_
            rotate_left
            · intro wz hSw
              (try dsimp only at hSw)
              first | (go_simp; done) | (go_simp; with_reducible rfl)
            try simp only [Act.put, List.setIfInBounds_toArray, List.set_cons_zero, List.set_cons_succ]
            refine wpAnyH_take (i := 4) (oi := { dst := some 19, op := _, type := _, pos := _, after := _, guard := _ }) (v := ?_) rfl (by kernel_rfl) (by kernel_rfl) (by kernel_rfl) (fun _ _ _ h => h) (Or.inl ⟨by rfl, ?_⟩) hH ?_
            rotate_left
            · intro wz hSw
              (try dsimp only at hSw)
              first | (go_simp; done) | (go_simp; with_reducible rfl)
            try simp only [Act.put, List.setIfInBounds_toArray, List.set_cons_zero, List.set_cons_succ]
            refine wpAnyH_take (i := 5) (oi := { dst := some 20, op := _, type := _, pos := _, after := _, guard := _ }) (v := ?_) rfl (by kernel_rfl) (by kernel_rfl) (by kernel_rfl) (fun _ _ _ h => h) (Or.inl ⟨by rfl, ?_⟩) hH ?_
            rotate_left
            · intro wz hSw
              (try dsimp only at hSw)
              first | (go_simp; done) | (go_simp; with_reducible rfl)
            try simp only [Act.put, List.setIfInBounds_toArray, List.set_cons_zero, List.set_cons_succ]
            refine wpAnyH_take (i := 6) (oi := { dst := some 21, op := _, type := _, pos := _, after := _, guard := _ }) (v := ?_) rfl (by kernel_rfl) (by kernel_rfl) (by kernel_rfl) (fun _ _ _ h => h) (Or.inl ⟨by rfl, ?_⟩) hH ?_
            rotate_left
            · intro wz hSw
              (try dsimp only at hSw)
              obtain ⟨b9, o9, e9, _, hc9⟩ := hSw.2.1.at gk
              cases e9
              have c0 := hc9 0 _ rfl
              have c1 := hc9 1 _ rfl
              rw [Nat.add_zero] at c0
              first | (go_simp; done) | (go_simp; with_reducible rfl)
            try simp only [Act.put, List.setIfInBounds_toArray, List.set_cons_zero, List.set_cons_succ]
            refine wpAnyH_ready (rs := [7]) (by kernel_rfl) (by simp) ?_
            refine AllReadyH.cons (o := { dst := some 22, op := _, type := _, pos := _, after := _, guard := _ }) rfl (fun K hK => ?_) AllReadyH.nil
            go_simp
            refine (rless_any _ _ _ _ _).mono ?_
            rw [hah]
            rintro e wq7 ⟨rfl, hbq⟩
            go_wp2_with fail
            refine hK.out _ _ (kept_with hH hbq) (fun hH2 => ?_)
            clear hK K hH hbq
            have hH := hH2
            clear hH2
            try simp only [Act.put, List.setIfInBounds_toArray, List.set_cons_zero, List.set_cons_succ]
            refine wpAnyH_take (i := 8) (oi := { dst := some 8, op := _, type := _, pos := _, after := _, guard := _ }) (v := ?_) rfl (by kernel_rfl) (by kernel_rfl) (by kernel_rfl) (fun _ _ _ h => h) (Or.inl ⟨by rfl, ?_⟩) hH ?_
            rotate_left
            · intro wz hSw
              (try dsimp only at hSw)
              first | (go_simp; done) | (go_simp; with_reducible rfl)
            try simp only [Act.put, List.setIfInBounds_toArray, List.set_cons_zero, List.set_cons_succ]
            refine wpAnyH_done (by kernel_rfl) ?_ _
            refine NoPanic.normal ?_
            have hb1 := below_step hbr hH.1
            have ow1 := own_laterR own hH.1
            clear hH own
            obtain ⟨x0, x1, x2⟩ := (X.later hb1).three
            obtain ⟨b9, o9, e9, -, hc9⟩ := (R1.later hb1).at gk
            cases e9
            have c0 := hc9 0 _ rfl
            have c1 := hc9 1 _ rfl
            have c2 := hc9 2 _ rfl
            rw [Nat.add_zero] at c0
            clear hc9
            have hs1 := hb1.size
            go_wp2_with fail
            go_quiet (fail)
            revert nq
            intro n1
            have hb2 := hb1.trans (below_draws _ _ n1)
            have ow2 := own_laterR ow1 (below_draws _ _ n1)
            go_wp2_with fail
            have hb3 := hb2
            have ow3 := ow2
            have hs3 := hs1
            go_quiet (fail)
            have hb4 := hb1.trans (below_draws _ _ (n1 + nq))
            have ow4 := own_laterR ow1 (below_draws _ _ (n1 + nq))
            go_wp2_with (at_builtin; refine wpRds_one fE_len (by decide) _ l[k] 36 rfl rfl (.tmp 50) (.tmp 55) 40 rfl (w.alloc (.cells #[.int .i64 e0, .int .i64 e1, .int .i64 e2] 36)).heap.size 24 _ Try.underlying40 infoE rfl rfl ow4 rfl (by omega) (by omega) hs3 ?_; intro v9 w9 own9 hg9)
            have hb5 := below_growR (hb4.alloc hs3 (.cells ((fE l[k]).map (Value.int .i64)).toArray 36)) (ow4.alloc _) hg9 (Nat.le_trans hs3 (below_new _ _).size)
            go_roundw
            case rel => exact ⟨k + 1, by omega, by go_num, by rw [NX.out]; simp [stepW, HH.out], out_is NX.out (O := (O ++ [l[k]])) (by simp [stepW, HH.out, HP.out]) (by unfold OutIs; simpa using own9), hb5⟩
            case measure => simp [intOf]; omega
          · go_wp2_with fail
            refine wp_region_noPanic ?_
            refine wp_region_held_drew (S := fun w' => Below wr.heap.size wr w' ∧ Rds fE 3 w' (some ⟨b, o, none⟩) c l ∧ Lies w' w.heap.size [e0, e1, e2]) (by kernel_rfl) S0 (fun hH => ?_)
            clear S0
            refine wpAnyH_take (i := 0) (oi := { dst := some 15, op := _, type := _, pos := _, after := _, guard := _ }) (v := ?_) rfl (by kernel_rfl) (by kernel_rfl) (by kernel_rfl) (fun _ _ _ h => h) (Or.inl ⟨by rfl, ?_⟩) hH ?_
            rotate_left
            · intro wz hSw
              (try dsimp only at hSw)
              first | (go_simp; done) | (go_simp; with_reducible rfl)
            try simp only [Act.put, List.setIfInBounds_toArray, List.set_cons_zero, List.set_cons_succ]
            refine wpAnyH_take (i := 1) (oi := { dst := some 16, op := _, type := _, pos := _, after := _, guard := _ }) (v := ?_) rfl (by kernel_rfl) (by kernel_rfl) (by kernel_rfl) (fun _ _ _ h => h) (Or.inl ⟨by rfl, ?_⟩) hH ?_
            rotate_left
            · intro wz hSw
              (try dsimp only at hSw)
              obtain ⟨q0, q1, q2⟩ := hSw.2.2.three
              first | (go_simp; done) | (go_simp; with_reducible rfl)
            try simp only [Act.put, List.setIfInBounds_toArray, List.set_cons_zero, List.set_cons_succ]
            refine wpAnyH_take (i := 2) (oi := { dst := some 17, op := _, type := _, pos := _, after := _, guard := _ }) (v := ?_) rfl (by kernel_rfl) (by kernel_rfl) (by kernel_rfl) (fun _ _ _ h => h) (Or.inl ⟨by rfl, ?_⟩) hH ?_
            rotate_left
            · intro wz hSw
              (try dsimp only at hSw)
              first | (go_simp; done) | (go_simp; with_reducible rfl)
            try simp only [Act.put, List.setIfInBounds_toArray, List.set_cons_zero, List.set_cons_succ]
            refine wpAnyH_take (i := 3) (oi := { dst := some 18, op := _, type := _, pos := _, after := _, guard := _ }) (v := ?_) rfl (by kernel_rfl) (by kernel_rfl) (by kernel_rfl) (fun _ _ _ h => h) (Or.inl ⟨by rfl, ?_⟩) hH ?_
            rotate_left
            · intro wz hSw
              (try dsimp only at hSw)
              first | (go_simp; done) | (go_simp; with_reducible rfl)
            try simp only [Act.put, List.setIfInBounds_toArray, List.set_cons_zero, List.set_cons_succ]
            refine wpAnyH_take (i := 4) (oi := { dst := some 19, op := _, type := _, pos := _, after := _, guard := _ }) (v := ?_) rfl (by kernel_rfl) (by kernel_rfl) (by kernel_rfl) (fun _ _ _ h => h) (Or.inl ⟨by rfl, ?_⟩) hH ?_
            rotate_left
            · intro wz hSw
              (try dsimp only at hSw)
              first | (go_simp; done) | (go_simp; with_reducible rfl)
            try simp only [Act.put, List.setIfInBounds_toArray, List.set_cons_zero, List.set_cons_succ]
            refine wpAnyH_take (i := 5) (oi := { dst := some 20, op := _, type := _, pos := _, after := _, guard := _ }) (v := ?_) rfl (by kernel_rfl) (by kernel_rfl) (by kernel_rfl) (fun _ _ _ h => h) (Or.inl ⟨by rfl, ?_⟩) hH ?_
            rotate_left
            · intro wz hSw
              (try dsimp only at hSw)
              first | (go_simp; done) | (go_simp; with_reducible rfl)
            try simp only [Act.put, List.setIfInBounds_toArray, List.set_cons_zero, List.set_cons_succ]
            refine wpAnyH_take (i := 6) (oi := { dst := some 21, op := _, type := _, pos := _, after := _, guard := _ }) (v := ?_) rfl (by kernel_rfl) (by kernel_rfl) (by kernel_rfl) (fun _ _ _ h => h) (Or.inl ⟨by rfl, ?_⟩) hH ?_
            rotate_left
            · intro wz hSw
              (try dsimp only at hSw)
              obtain ⟨b9, o9, e9, _, hc9⟩ := hSw.2.1.at gk
              cases e9
              have c0 := hc9 0 _ rfl
              have c1 := hc9 1 _ rfl
              rw [Nat.add_zero] at c0
              first | (go_simp; done) | (go_simp; with_reducible rfl)
            try simp only [Act.put, List.setIfInBounds_toArray, List.set_cons_zero, List.set_cons_succ]
            refine wpAnyH_ready (rs := [7]) (by kernel_rfl) (by simp) ?_
            refine AllReadyH.cons (o := { dst := some 22, op := _, type := _, pos := _, after := _, guard := _ }) rfl (fun K hK => ?_) AllReadyH.nil
            go_simp
            refine (rless_any _ _ _ _ _).mono ?_
            rw [hah]
            rintro e wq7 ⟨rfl, hbq⟩
            go_wp2_with fail
            refine hK.out _ _ (kept_with hH hbq) (fun hH2 => ?_)
            clear hK K hH hbq
            have hH := hH2
            clear hH2
            try simp only [Act.put, List.setIfInBounds_toArray, List.set_cons_zero, List.set_cons_succ]
            refine wpAnyH_take (i := 8) (oi := { dst := some 8, op := _, type := _, pos := _, after := _, guard := _ }) (v := ?_) rfl (by kernel_rfl) (by kernel_rfl) (by kernel_rfl) (fun _ _ _ h => h) (Or.inl ⟨by rfl, ?_⟩) hH ?_
            rotate_left
            · intro wz hSw
              (try dsimp only at hSw)
              first | (go_simp; done) | (go_simp; with_reducible rfl)
            try simp only [Act.put, List.setIfInBounds_toArray, List.set_cons_zero, List.set_cons_succ]
            refine wpAnyH_done (by kernel_rfl) ?_ _
            refine NoPanic.normal ?_
            have hb1 := below_step hbr hH.1
            have ow1 := own_laterR own hH.1
            clear hH own
            obtain ⟨x0, x1, x2⟩ := (X.later hb1).three
            obtain ⟨b9, o9, e9, -, hc9⟩ := (R1.later hb1).at gk
            cases e9
            have c0 := hc9 0 _ rfl
            have c1 := hc9 1 _ rfl
            have c2 := hc9 2 _ rfl
            rw [Nat.add_zero] at c0
            clear hc9
            have hs1 := hb1.size
            go_wp2_with fail
            go_quiet (fail)
            revert nq
            intro n1
            have hb2 := hb1.trans (below_draws _ _ n1)
            have ow2 := own_laterR ow1 (below_draws _ _ n1)
            go_wp2_with fail
            have hb3 := hb2
            have ow3 := ow2
            have hs3 := hs1
            go_quiet (fail)
            have hb4 := hb1.trans (below_draws _ _ (n1 + nq))
            have ow4 := own_laterR ow1 (below_draws _ _ (n1 + nq))
            go_wp2_with (at_builtin; refine wpRds_one fE_len (by decide) _ l[k] 36 rfl rfl (.tmp 50) (.tmp 55) 40 rfl (w.alloc (.cells #[.int .i64 e0, .int .i64 e1, .int .i64 e2] 36)).heap.size 24 _ Try.underlying40 infoE rfl rfl ow4 rfl (by omega) (by omega) hs3 ?_; intro v9 w9 own9 hg9)
            have hb5 := below_growR (hb4.alloc hs3 (.cells ((fE l[k]).map (Value.int .i64)).toArray 36)) (ow4.alloc _) hg9 (Nat.le_trans hs3 (below_new _ _).size)
            go_roundw
            case rel => exact ⟨k + 1, by omega, by go_num, by rw [NX.out]; simp [stepW, HH.out], out_is NX.out (O := (O ++ [l[k]])) (by simp [stepW, HH.out, HP.out]) (by unfold OutIs; simpa using own9), hb5⟩
            case measure => simp [intOf]; omega
      · by_cases he : l[k].1 = (e0, e1)
        · have hbv : ((l[k].1.1 == e0) && (l[k].1.2 == e1)) = true := by
            simp [he]
          rw [hbv] at hq hq2
          have HP : Hid (l[k].1 = (e0, e1)) := he
          have HH : Hid (here ((e0, e1), e2) l[k] = true) := by
            show (less (e0, e1) l[k].1 || decide (l[k].1 = (e0, e1))) = true
            rw [show less (e0, e1) l[k].1 = true from hah, decide_eq_true he]
            rfl
          clear he hbv
          cases d
          · go_wp2_with fail
            refine wp_region_noPanic ?_
            refine wp_region_held_drew (S := fun w' => Below wr.heap.size wr w' ∧ Rds fE 3 w' (some ⟨b, o, none⟩) c l ∧ Lies w' w.heap.size [e0, e1, e2]) (by kernel_rfl) S0 (fun hH => ?_)
            clear S0
            refine wpAnyH_take (i := 0) (oi := { dst := some 15, op := _, type := _, pos := _, after := _, guard := _ }) (v := ?_) rfl (by kernel_rfl) (by kernel_rfl) (by kernel_rfl) (fun _ _ _ h => h) (Or.inl ⟨by rfl, ?_⟩) hH ?_
            rotate_left
            · intro wz hSw
              (try dsimp only at hSw)
              first | (go_simp; done) | (go_simp; with_reducible rfl)
            try simp only [Act.put, List.setIfInBounds_toArray, List.set_cons_zero, List.set_cons_succ]
            refine wpAnyH_take (i := 1) (oi := { dst := some 16, op := _, type := _, pos := _, after := _, guard := _ }) (v := ?_) rfl (by kernel_rfl) (by kernel_rfl) (by kernel_rfl) (fun _ _ _ h => h) (Or.inl ⟨by rfl, ?_⟩) hH ?_
            rotate_left
            · intro wz hSw
              (try dsimp only at hSw)
              obtain ⟨q0, q1, q2⟩ := hSw.2.2.three
              first | (go_simp; done) | (go_simp; with_reducible rfl)
            try simp only [Act.put, List.setIfInBounds_toArray, List.set_cons_zero, List.set_cons_succ]
            refine wpAnyH_take (i := 2) (oi := { dst := some 17, op := _, type := _, pos := _, after := _, guard := _ }) (v := ?_) rfl (by kernel_rfl) (by kernel_rfl) (by kernel_rfl) (fun _ _ _ h => h) (Or.inl ⟨by rfl, ?_⟩) hH ?_
            rotate_left
            · intro wz hSw
              (try dsimp only at hSw)
              first | (go_simp; done) | (go_simp; with_reducible rfl)
            try simp only [Act.put, List.setIfInBounds_toArray, List.set_cons_zero, List.set_cons_succ]
            refine wpAnyH_take (i := 3) (oi := { dst := some 18, op := _, type := _, pos := _, after := _, guard := _ }) (v := ?_) rfl (by kernel_rfl) (by kernel_rfl) (by kernel_rfl) (fun _ _ _ h => h) (Or.inl ⟨by rfl, ?_⟩) hH ?_
            rotate_left
            · intro wz hSw
              (try dsimp only at hSw)
              first | (go_simp; done) | (go_simp; with_reducible rfl)
            try simp only [Act.put, List.setIfInBounds_toArray, List.set_cons_zero, List.set_cons_succ]
            refine wpAnyH_take (i := 4) (oi := { dst := some 19, op := _, type := _, pos := _, after := _, guard := _ }) (v := ?_) rfl (by kernel_rfl) (by kernel_rfl) (by kernel_rfl) (fun _ _ _ h => h) (Or.inl ⟨by rfl, ?_⟩) hH ?_
            rotate_left
            · intro wz hSw
              (try dsimp only at hSw)
              first | (go_simp; done) | (go_simp; with_reducible rfl)
            try simp only [Act.put, List.setIfInBounds_toArray, List.set_cons_zero, List.set_cons_succ]
            refine wpAnyH_take (i := 5) (oi := { dst := some 20, op := _, type := _, pos := _, after := _, guard := _ }) (v := ?_) rfl (by kernel_rfl) (by kernel_rfl) (by kernel_rfl) (fun _ _ _ h => h) (Or.inl ⟨by rfl, ?_⟩) hH ?_
            rotate_left
            · intro wz hSw
              (try dsimp only at hSw)
              first | (go_simp; done) | (go_simp; with_reducible rfl)
            try simp only [Act.put, List.setIfInBounds_toArray, List.set_cons_zero, List.set_cons_succ]
            refine wpAnyH_take (i := 6) (oi := { dst := some 21, op := _, type := _, pos := _, after := _, guard := _ }) (v := ?_) rfl (by kernel_rfl) (by kernel_rfl) (by kernel_rfl) (fun _ _ _ h => h) (Or.inl ⟨by rfl, ?_⟩) hH ?_
            rotate_left
            · intro wz hSw
              (try dsimp only at hSw)
              obtain ⟨b9, o9, e9, _, hc9⟩ := hSw.2.1.at gk
              cases e9
              have c0 := hc9 0 _ rfl
              have c1 := hc9 1 _ rfl
              rw [Nat.add_zero] at c0
              first | (go_simp; done) | (go_simp; with_reducible rfl)
            try simp only [Act.put, List.setIfInBounds_toArray, List.set_cons_zero, List.set_cons_succ]
            refine wpAnyH_ready (rs := [7]) (by kernel_rfl) (by simp) ?_
            refine AllReadyH.cons (o := { dst := some 22, op := _, type := _, pos := _, after := _, guard := _ }) rfl (fun K hK => ?_) AllReadyH.nil
            go_simp
            refine (rless_any _ _ _ _ _).mono ?_
            rw [hah]
            rintro e wq7 ⟨rfl, hbq⟩
            go_wp2_with fail
            refine hK.out _ _ (kept_with hH hbq) (fun hH2 => ?_)
            clear hK K hH hbq
            have hH := hH2
            clear hH2
            try simp only [Act.put, List.setIfInBounds_toArray, List.set_cons_zero, List.set_cons_succ]
            refine wpAnyH_take (i := 8) (oi := { dst := some 8, op := _, type := _, pos := _, after := _, guard := _ }) (v := ?_) rfl (by kernel_rfl) (by kernel_rfl) (by kernel_rfl) (fun _ _ _ h => h) (Or.inl ⟨by rfl, ?_⟩) hH ?_
            rotate_left
            · intro wz hSw
              (try dsimp only at hSw)
              first | (go_simp; done) | (go_simp; with_reducible rfl)
            try simp only [Act.put, List.setIfInBounds_toArray, List.set_cons_zero, List.set_cons_succ]
            refine wpAnyH_done (by kernel_rfl) ?_ _
            refine NoPanic.normal ?_
            have hb1 := below_step hbr hH.1
            have ow1 := own_laterR own hH.1
            clear hH own
            obtain ⟨x0, x1, x2⟩ := (X.later hb1).three
            obtain ⟨b9, o9, e9, -, hc9⟩ := (R1.later hb1).at gk
            cases e9
            have c0 := hc9 0 _ rfl
            have c1 := hc9 1 _ rfl
            have c2 := hc9 2 _ rfl
            rw [Nat.add_zero] at c0
            clear hc9
            have hs1 := hb1.size
            go_wp2_with fail
            go_quiet (fail)
            revert nq
            intro n1
            have hb2 := hb1.trans (below_draws _ _ n1)
            have ow2 := own_laterR ow1 (below_draws _ _ n1)
            go_wp2_with (at_builtin; refine wpRds_one fE_len (by decide) _ ((e0, e1), e2) 36 rfl rfl (.tmp 38) (.tmp 40) 40 rfl (w.alloc (.cells #[.int .i64 e0, .int .i64 e1, .int .i64 e2] 36)).heap.size 24 _ Try.underlying40 infoE rfl rfl ow2 rfl (by omega) (by omega) hs1 ?_; intro v8 w8 own8 hg8)
            have hb3 := below_growR (hb2.alloc hs1 (.cells #[.int .i64 e0, .int .i64 e1, .int .i64 e2] 36)) (ow2.alloc _) hg8 (Nat.le_trans hs1 (below_new _ _).size)
            clear x0 x1 x2 c0 c1 c2
            obtain ⟨x0, x1, x2⟩ := (X.later hb3).three
            obtain ⟨b9, o9, e9, -, hc9⟩ := (R1.later hb3).at gk
            cases e9
            have c0 := hc9 0 _ rfl
            have c1 := hc9 1 _ rfl
            have c2 := hc9 2 _ rfl
            rw [Nat.add_zero] at c0
            clear hc9
            have ow3 := own8
            have hs3 := hb3.size
            go_quiet (fail)
            have hb4 := hb3.trans (below_draws _ _ nq)
            have ow4 := own_laterR ow3 (below_draws _ _ nq)
            go_wp2_with fail
            go_roundw
            case rel => exact ⟨k + 1, by omega, by go_num, by rw [NX.out]; simp [stepW, HH.out], out_is NX.out (O := (O ++ [((e0, e1), e2)])) (by simp [stepW, HH.out, HP.out]) (by unfold OutIs; simpa using ow4), hb4⟩
            case measure => simp [intOf]; omega
          · go_wp2_with fail
            refine wp_region_noPanic ?_
            refine wp_region_held_drew (S := fun w' => Below wr.heap.size wr w' ∧ Rds fE 3 w' (some ⟨b, o, none⟩) c l ∧ Lies w' w.heap.size [e0, e1, e2]) (by kernel_rfl) S0 (fun hH => ?_)
            clear S0
            refine wpAnyH_take (i := 0) (oi := { dst := some 15, op := _, type := _, pos := _, after := _, guard := _ }) (v := ?_) rfl (by kernel_rfl) (by kernel_rfl) (by kernel_rfl) (fun _ _ _ h => h) (Or.inl ⟨by rfl, ?_⟩) hH ?_
            rotate_left
            · intro wz hSw
              (try dsimp only at hSw)
              first | (go_simp; done) | (go_simp; with_reducible rfl)
            try simp only [Act.put, List.setIfInBounds_toArray, List.set_cons_zero, List.set_cons_succ]
            refine wpAnyH_take (i := 1) (oi := { dst := some 16, op := _, type := _, pos := _, after := _, guard := _ }) (v := ?_) rfl (by kernel_rfl) (by kernel_rfl) (by kernel_rfl) (fun _ _ _ h => h) (Or.inl ⟨by rfl, ?_⟩) hH ?_
            rotate_left
            · intro wz hSw
              (try dsimp only at hSw)
              obtain ⟨q0, q1, q2⟩ := hSw.2.2.three
              first | (go_simp; done) | (go_simp; with_reducible rfl)
            try simp only [Act.put, List.setIfInBounds_toArray, List.set_cons_zero, List.set_cons_succ]
            refine wpAnyH_take (i := 2) (oi := { dst := some 17, op := _, type := _, pos := _, after := _, guard := _ }) (v := ?_) rfl (by kernel_rfl) (by kernel_rfl) (by kernel_rfl) (fun _ _ _ h => h) (Or.inl ⟨by rfl, ?_⟩) hH ?_
            rotate_left
            · intro wz hSw
              (try dsimp only at hSw)
              first | (go_simp; done) | (go_simp; with_reducible rfl)
            try simp only [Act.put, List.setIfInBounds_toArray, List.set_cons_zero, List.set_cons_succ]
            refine wpAnyH_take (i := 3) (oi := { dst := some 18, op := _, type := _, pos := _, after := _, guard := _ }) (v := ?_) rfl (by kernel_rfl) (by kernel_rfl) (by kernel_rfl) (fun _ _ _ h => h) (Or.inl ⟨by rfl, ?_⟩) hH ?_
            rotate_left
            · intro wz hSw
              (try dsimp only at hSw)
              first | (go_simp; done) | (go_simp; with_reducible rfl)
            try simp only [Act.put, List.setIfInBounds_toArray, List.set_cons_zero, List.set_cons_succ]
            refine wpAnyH_take (i := 4) (oi := { dst := some 19, op := _, type := _, pos := _, after := _, guard := _ }) (v := ?_) rfl (by kernel_rfl) (by kernel_rfl) (by kernel_rfl) (fun _ _ _ h => h) (Or.inl ⟨by rfl, ?_⟩) hH ?_
            rotate_left
            · intro wz hSw
              (try dsimp only at hSw)
              first | (go_simp; done) | (go_simp; with_reducible rfl)
            try simp only [Act.put, List.setIfInBounds_toArray, List.set_cons_zero, List.set_cons_succ]
            refine wpAnyH_take (i := 5) (oi := { dst := some 20, op := _, type := _, pos := _, after := _, guard := _ }) (v := ?_) rfl (by kernel_rfl) (by kernel_rfl) (by kernel_rfl) (fun _ _ _ h => h) (Or.inl ⟨by rfl, ?_⟩) hH ?_
            rotate_left
            · intro wz hSw
              (try dsimp only at hSw)
              first | (go_simp; done) | (go_simp; with_reducible rfl)
            try simp only [Act.put, List.setIfInBounds_toArray, List.set_cons_zero, List.set_cons_succ]
            refine wpAnyH_take (i := 6) (oi := { dst := some 21, op := _, type := _, pos := _, after := _, guard := _ }) (v := ?_) rfl (by kernel_rfl) (by kernel_rfl) (by kernel_rfl) (fun _ _ _ h => h) (Or.inl ⟨by rfl, ?_⟩) hH ?_
            rotate_left
            · intro wz hSw
              (try dsimp only at hSw)
              obtain ⟨b9, o9, e9, _, hc9⟩ := hSw.2.1.at gk
              cases e9
              have c0 := hc9 0 _ rfl
              have c1 := hc9 1 _ rfl
              rw [Nat.add_zero] at c0
              first | (go_simp; done) | (go_simp; with_reducible rfl)
            try simp only [Act.put, List.setIfInBounds_toArray, List.set_cons_zero, List.set_cons_succ]
            refine wpAnyH_ready (rs := [7]) (by kernel_rfl) (by simp) ?_
            refine AllReadyH.cons (o := { dst := some 22, op := _, type := _, pos := _, after := _, guard := _ }) rfl (fun K hK => ?_) AllReadyH.nil
            go_simp
            refine (rless_any _ _ _ _ _).mono ?_
            rw [hah]
            rintro e wq7 ⟨rfl, hbq⟩
            go_wp2_with fail
            refine hK.out _ _ (kept_with hH hbq) (fun hH2 => ?_)
            clear hK K hH hbq
            have hH := hH2
            clear hH2
            try simp only [Act.put, List.setIfInBounds_toArray, List.set_cons_zero, List.set_cons_succ]
            refine wpAnyH_take (i := 8) (oi := { dst := some 8, op := _, type := _, pos := _, after := _, guard := _ }) (v := ?_) rfl (by kernel_rfl) (by kernel_rfl) (by kernel_rfl) (fun _ _ _ h => h) (Or.inl ⟨by rfl, ?_⟩) hH ?_
            rotate_left
            · intro wz hSw
              (try dsimp only at hSw)
              first | (go_simp; done) | (go_simp; with_reducible rfl)
            try simp only [Act.put, List.setIfInBounds_toArray, List.set_cons_zero, List.set_cons_succ]
            refine wpAnyH_done (by kernel_rfl) ?_ _
            refine NoPanic.normal ?_
            have hb1 := below_step hbr hH.1
            have ow1 := own_laterR own hH.1
            clear hH own
            obtain ⟨x0, x1, x2⟩ := (X.later hb1).three
            obtain ⟨b9, o9, e9, -, hc9⟩ := (R1.later hb1).at gk
            cases e9
            have c0 := hc9 0 _ rfl
            have c1 := hc9 1 _ rfl
            have c2 := hc9 2 _ rfl
            rw [Nat.add_zero] at c0
            clear hc9
            have hs1 := hb1.size
            go_wp2_with fail
            go_quiet (fail)
            revert nq
            intro n1
            have hb2 := hb1.trans (below_draws _ _ n1)
            have ow2 := own_laterR ow1 (below_draws _ _ n1)
            go_wp2_with fail
            have hb3 := hb2
            have ow3 := ow2
            have hs3 := hs1
            go_quiet (fail)
            have hb4 := hb1.trans (below_draws _ _ (n1 + nq))
            have ow4 := own_laterR ow1 (below_draws _ _ (n1 + nq))
            go_wp2_with fail
            go_roundw
            case rel => exact ⟨k + 1, by omega, by go_num, by rw [NX.out]; simp [stepW, HH.out], out_is NX.out (O := O) (by simp [stepW, HH.out, HP.out]) (by unfold OutIs; simpa using ow4), hb4⟩
            case measure => simp [intOf]; omega
        · have hbv : ((l[k].1.1 == e0) && (l[k].1.2 == e1)) = false := by
            rw [Bool.eq_false_iff]; intro hh; simp only [Bool.and_eq_true, beq_iff_eq] at hh; exact he (Prod.ext hh.1 hh.2)
          rw [hbv] at hq hq2
          have HP : Hid (¬ l[k].1 = (e0, e1)) := he
          have HH : Hid (here ((e0, e1), e2) l[k] = true) := by
            show (less (e0, e1) l[k].1 || decide (l[k].1 = (e0, e1))) = true
            rw [show less (e0, e1) l[k].1 = true from hah, decide_eq_false he]
            rfl
          clear he hbv
          cases d
          · go_wp2_with fail
            refine wp_region_noPanic ?_
            refine wp_region_held_drew (S := fun w' => Below wr.heap.size wr w' ∧ Rds fE 3 w' (some ⟨b, o, none⟩) c l ∧ Lies w' w.heap.size [e0, e1, e2]) (by kernel_rfl) S0 (fun hH => ?_)
            clear S0
            refine wpAnyH_take (i := 0) (oi := { dst := some 15, op := _, type := _, pos := _, after := _, guard := _ }) (v := ?_) rfl (by kernel_rfl) (by kernel_rfl) (by kernel_rfl) (fun _ _ _ h => h) (Or.inl ⟨by rfl, ?_⟩) hH ?_
            rotate_left
            · intro wz hSw
              (try dsimp only at hSw)
              first | (go_simp; done) | (go_simp; with_reducible rfl)
            try simp only [Act.put, List.setIfInBounds_toArray, List.set_cons_zero, List.set_cons_succ]
            refine wpAnyH_take (i := 1) (oi := { dst := some 16, op := _, type := _, pos := _, after := _, guard := _ }) (v := ?_) rfl (by kernel_rfl) (by kernel_rfl) (by kernel_rfl) (fun _ _ _ h => h) (Or.inl ⟨by rfl, ?_⟩) hH ?_
            rotate_left
            · intro wz hSw
              (try dsimp only at hSw)
              obtain ⟨q0, q1, q2⟩ := hSw.2.2.three
              first | (go_simp; done) | (go_simp; with_reducible rfl)
            try simp only [Act.put, List.setIfInBounds_toArray, List.set_cons_zero, List.set_cons_succ]
            refine wpAnyH_take (i := 2) (oi := { dst := some 17, op := _, type := _, pos := _, after := _, guard := _ }) (v := ?_) rfl (by kernel_rfl) (by kernel_rfl) (by kernel_rfl) (fun _ _ _ h => h) (Or.inl ⟨by rfl, ?_⟩) hH ?_
            rotate_left
            · intro wz hSw
              (try dsimp only at hSw)
              first | (go_simp; done) | (go_simp; with_reducible rfl)
            try simp only [Act.put, List.setIfInBounds_toArray, List.set_cons_zero, List.set_cons_succ]
            refine wpAnyH_take (i := 3) (oi := { dst := some 18, op := _, type := _, pos := _, after := _, guard := _ }) (v := ?_) rfl (by kernel_rfl) (by kernel_rfl) (by kernel_rfl) (fun _ _ _ h => h) (Or.inl ⟨by rfl, ?_⟩) hH ?_
            rotate_left
            · intro wz hSw
              (try dsimp only at hSw)
              first | (go_simp; done) | (go_simp; with_reducible rfl)
            try simp only [Act.put, List.setIfInBounds_toArray, List.set_cons_zero, List.set_cons_succ]
            refine wpAnyH_take (i := 4) (oi := { dst := some 19, op := _, type := _, pos := _, after := _, guard := _ }) (v := ?_) rfl (by kernel_rfl) (by kernel_rfl) (by kernel_rfl) (fun _ _ _ h => h) (Or.inl ⟨by rfl, ?_⟩) hH ?_
            rotate_left
            · intro wz hSw
              (try dsimp only at hSw)
              first | (go_simp; done) | (go_simp; with_reducible rfl)
            try simp only [Act.put, List.setIfInBounds_toArray, List.set_cons_zero, List.set_cons_succ]
            refine wpAnyH_take (i := 5) (oi := { dst := some 20, op := _, type := _, pos := _, after := _, guard := _ }) (v := ?_) rfl (by kernel_rfl) (by kernel_rfl) (by kernel_rfl) (fun _ _ _ h => h) (Or.inl ⟨by rfl, ?_⟩) hH ?_
            rotate_left
            · intro wz hSw
              (try dsimp only at hSw)
              first | (go_simp; done) | (go_simp; with_reducible rfl)
            try simp only [Act.put, List.setIfInBounds_toArray, List.set_cons_zero, List.set_cons_succ]
            refine wpAnyH_take (i := 6) (oi := { dst := some 21, op := _, type := _, pos := _, after := _, guard := _ }) (v := ?_) rfl (by kernel_rfl) (by kernel_rfl) (by kernel_rfl) (fun _ _ _ h => h) (Or.inl ⟨by rfl, ?_⟩) hH ?_
            rotate_left
            · intro wz hSw
              (try dsimp only at hSw)
              obtain ⟨b9, o9, e9, _, hc9⟩ := hSw.2.1.at gk
              cases e9
              have c0 := hc9 0 _ rfl
              have c1 := hc9 1 _ rfl
              rw [Nat.add_zero] at c0
              first | (go_simp; done) | (go_simp; with_reducible rfl)
            try simp only [Act.put, List.setIfInBounds_toArray, List.set_cons_zero, List.set_cons_succ]
            refine wpAnyH_ready (rs := [7]) (by kernel_rfl) (by simp) ?_
            refine AllReadyH.cons (o := { dst := some 22, op := _, type := _, pos := _, after := _, guard := _ }) rfl (fun K hK => ?_) AllReadyH.nil
            go_simp
            refine (rless_any _ _ _ _ _).mono ?_
            rw [hah]
            rintro e wq7 ⟨rfl, hbq⟩
            go_wp2_with fail
            refine hK.out _ _ (kept_with hH hbq) (fun hH2 => ?_)
            clear hK K hH hbq
            have hH := hH2
            clear hH2
            try simp only [Act.put, List.setIfInBounds_toArray, List.set_cons_zero, List.set_cons_succ]
            refine wpAnyH_take (i := 8) (oi := { dst := some 8, op := _, type := _, pos := _, after := _, guard := _ }) (v := ?_) rfl (by kernel_rfl) (by kernel_rfl) (by kernel_rfl) (fun _ _ _ h => h) (Or.inl ⟨by rfl, ?_⟩) hH ?_
            rotate_left
            · intro wz hSw
              (try dsimp only at hSw)
              first | (go_simp; done) | (go_simp; with_reducible rfl)
            try simp only [Act.put, List.setIfInBounds_toArray, List.set_cons_zero, List.set_cons_succ]
            refine wpAnyH_done (by kernel_rfl) ?_ _
            refine NoPanic.normal ?_
            have hb1 := below_step hbr hH.1
            have ow1 := own_laterR own hH.1
            clear hH own
            obtain ⟨x0, x1, x2⟩ := (X.later hb1).three
            obtain ⟨b9, o9, e9, -, hc9⟩ := (R1.later hb1).at gk
            cases e9
            have c0 := hc9 0 _ rfl
            have c1 := hc9 1 _ rfl
            have c2 := hc9 2 _ rfl
            rw [Nat.add_zero] at c0
            clear hc9
            have hs1 := hb1.size
            go_wp2_with fail
            go_quiet (fail)
            revert nq
            intro n1
            have hb2 := hb1.trans (below_draws _ _ n1)
            have ow2 := own_laterR ow1 (below_draws _ _ n1)
            go_wp2_with (at_builtin; refine wpRds_one fE_len (by decide) _ ((e0, e1), e2) 36 rfl rfl (.tmp 38) (.tmp 40) 40 rfl (w.alloc (.cells #[.int .i64 e0, .int .i64 e1, .int .i64 e2] 36)).heap.size 24 _ Try.underlying40 infoE rfl rfl ow2 rfl (by omega) (by omega) hs1 ?_; intro v8 w8 own8 hg8)
            have hb3 := below_growR (hb2.alloc hs1 (.cells #[.int .i64 e0, .int .i64 e1, .int .i64 e2] 36)) (ow2.alloc _) hg8 (Nat.le_trans hs1 (below_new _ _).size)
            clear x0 x1 x2 c0 c1 c2
            obtain ⟨x0, x1, x2⟩ := (X.later hb3).three
            obtain ⟨b9, o9, e9, -, hc9⟩ := (R1.later hb3).at gk
            cases e9
            have c0 := hc9 0 _ rfl
            have c1 := hc9 1 _ rfl
            have c2 := hc9 2 _ rfl
            rw [Nat.add_zero] at c0
            clear hc9
            have ow3 := own8
            have hs3 := hb3.size
            go_quiet (fail)
            have hb4 := hb3.trans (below_draws _ _ nq)
            have ow4 := own_laterR ow3 (below_draws _ _ nq)
            go_wp2_with (at_builtin; refine wpRds_one fE_len (by decide) _ l[k] 36 rfl rfl (.tmp 50) (.tmp 55) 40 rfl (w.alloc (.cells #[.int .i64 e0, .int .i64 e1, .int .i64 e2] 36)).heap.size 24 _ Try.underlying40 infoE rfl rfl ow4 rfl (by omega) (by omega) hs3 ?_; intro v9 w9 own9 hg9)
            have hb5 := below_growR (hb4.alloc hs3 (.cells ((fE l[k]).map (Value.int .i64)).toArray 36)) (ow4.alloc _) hg9 (Nat.le_trans hs3 (below_new _ _).size)
            go_roundw
            case rel => exact ⟨k + 1, by omega, by go_num, by rw [NX.out]; simp [stepW, HH.out], out_is NX.out (O := ((O ++ [((e0, e1), e2)]) ++ [l[k]])) (by simp [stepW, HH.out, HP.out]) (by unfold OutIs; simpa using own9), hb5⟩
            case measure => simp [intOf]; omega
          · go_wp2_with fail
            refine wp_region_noPanic ?_
            refine wp_region_held_drew (S := fun w' => Below wr.heap.size wr w' ∧ Rds fE 3 w' (some ⟨b, o, none⟩) c l ∧ Lies w' w.heap.size [e0, e1, e2]) (by kernel_rfl) S0 (fun hH => ?_)
            clear S0
            refine wpAnyH_take (i := 0) (oi := { dst := some 15, op := _, type := _, pos := _, after := _, guard := _ }) (v := ?_) rfl (by kernel_rfl) (by kernel_rfl) (by kernel_rfl) (fun _ _ _ h => h) (Or.inl ⟨by rfl, ?_⟩) hH ?_
            rotate_left
            · intro wz hSw
              (try dsimp only at hSw)
              first | (go_simp; done) | (go_simp; with_reducible rfl)
            try simp only [Act.put, List.setIfInBounds_toArray, List.set_cons_zero, List.set_cons_succ]
            refine wpAnyH_take (i := 1) (oi := { dst := some 16, op := _, type := _, pos := _, after := _, guard := _ }) (v := ?_) rfl (by kernel_rfl) (by kernel_rfl) (by kernel_rfl) (fun _ _ _ h => h) (Or.inl ⟨by rfl, ?_⟩) hH ?_
            rotate_left
            · intro wz hSw
              (try dsimp only at hSw)
              obtain ⟨q0, q1, q2⟩ := hSw.2.2.three
              first | (go_simp; done) | (go_simp; with_reducible rfl)
            try simp only [Act.put, List.setIfInBounds_toArray, List.set_cons_zero, List.set_cons_succ]
            refine wpAnyH_take (i := 2) (oi := { dst := some 17, op := _, type := _, pos := _, after := _, guard := _ }) (v := ?_) rfl (by kernel_rfl) (by kernel_rfl) (by kernel_rfl) (fun _ _ _ h => h) (Or.inl ⟨by rfl, ?_⟩) hH ?_
            rotate_left
            · intro wz hSw
              (try dsimp only at hSw)
              first | (go_simp; done) | (go_simp; with_reducible rfl)
            try simp only [Act.put, List.setIfInBounds_toArray, List.set_cons_zero, List.set_cons_succ]
            refine wpAnyH_take (i := 3) (oi := { dst := some 18, op := _, type := _, pos := _, after := _, guard := _ }) (v := ?_) rfl (by kernel_rfl) (by kernel_rfl) (by kernel_rfl) (fun _ _ _ h => h) (Or.inl ⟨by rfl, ?_⟩) hH ?_
            rotate_left
            · intro wz hSw
              (try dsimp only at hSw)
              first | (go_simp; done) | (go_simp; with_reducible rfl)
            try simp only [Act.put, List.setIfInBounds_toArray, List.set_cons_zero, List.set_cons_succ]
            refine wpAnyH_take (i := 4) (oi := { dst := some 19, op := _, type := _, pos := _, after := _, guard := _ }) (v := ?_) rfl (by kernel_rfl) (by kernel_rfl) (by kernel_rfl) (fun _ _ _ h => h) (Or.inl ⟨by rfl, ?_⟩) hH ?_
            rotate_left
            · intro wz hSw
              (try dsimp only at hSw)
              first | (go_simp; done) | (go_simp; with_reducible rfl)
            try simp only [Act.put, List.setIfInBounds_toArray, List.set_cons_zero, List.set_cons_succ]
            refine wpAnyH_take (i := 5) (oi := { dst := some 20, op := _, type := _, pos := _, after := _, guard := _ }) (v := ?_) rfl (by kernel_rfl) (by kernel_rfl) (by kernel_rfl) (fun _ _ _ h => h) (Or.inl ⟨by rfl, ?_⟩) hH ?_
            rotate_left
            · intro wz hSw
              (try dsimp only at hSw)
              first | (go_simp; done) | (go_simp; with_reducible rfl)
            try simp only [Act.put, List.setIfInBounds_toArray, List.set_cons_zero, List.set_cons_succ]
            refine wpAnyH_take (i := 6) (oi := { dst := some 21, op := _, type := _, pos := _, after := _, guard := _ }) (v := ?_) rfl (by kernel_rfl) (by kernel_rfl) (by kernel_rfl) (fun _ _ _ h => h) (Or.inl ⟨by rfl, ?_⟩) hH ?_
            rotate_left
            · intro wz hSw
              (try dsimp only at hSw)
              obtain ⟨b9, o9, e9, _, hc9⟩ := hSw.2.1.at gk
              cases e9
              have c0 := hc9 0 _ rfl
              have c1 := hc9 1 _ rfl
              rw [Nat.add_zero] at c0
              first | (go_simp; done) | (go_simp; with_reducible rfl)
            try simp only [Act.put, List.setIfInBounds_toArray, List.set_cons_zero, List.set_cons_succ]
            refine wpAnyH_ready (rs := [7]) (by kernel_rfl) (by simp) ?_
            refine AllReadyH.cons (o := { dst := some 22, op := _, type := _, pos := _, after := _, guard := _ }) rfl (fun K hK => ?_) AllReadyH.nil
            go_simp
            refine (rless_any _ _ _ _ _).mono ?_
            rw [hah]
            rintro e wq7 ⟨rfl, hbq⟩
            go_wp2_with fail
            refine hK.out _ _ (kept_with hH hbq) (fun hH2 => ?_)
            clear hK K hH hbq
            have hH := hH2
            clear hH2
            try simp only [Act.put, List.setIfInBounds_toArray, List.set_cons_zero, List.set_cons_succ]
            refine wpAnyH_take (i := 8) (oi := { dst := some 8, op := _, type := _, pos := _, after := _, guard := _ }) (v := ?_) rfl (by kernel_rfl) (by kernel_rfl) (by kernel_rfl) (fun _ _ _ h => h) (Or.inl ⟨by rfl, ?_⟩) hH ?_
            rotate_left
            · intro wz hSw
              (try dsimp only at hSw)
              first | (go_simp; done) | (go_simp; with_reducible rfl)
            try simp only [Act.put, List.setIfInBounds_toArray, List.set_cons_zero, List.set_cons_succ]
            refine wpAnyH_done (by kernel_rfl) ?_ _
            refine NoPanic.normal ?_
            have hb1 := below_step hbr hH.1
            have ow1 := own_laterR own hH.1
            clear hH own
            obtain ⟨x0, x1, x2⟩ := (X.later hb1).three
            obtain ⟨b9, o9, e9, -, hc9⟩ := (R1.later hb1).at gk
            cases e9
            have c0 := hc9 0 _ rfl
            have c1 := hc9 1 _ rfl
            have c2 := hc9 2 _ rfl
            rw [Nat.add_zero] at c0
            clear hc9
            have hs1 := hb1.size
            go_wp2_with fail
            go_quiet (fail)
            revert nq
            intro n1
            have hb2 := hb1.trans (below_draws _ _ n1)
            have ow2 := own_laterR ow1 (below_draws _ _ n1)
            go_wp2_with fail
            have hb3 := hb2
            have ow3 := ow2
            have hs3 := hs1
            go_quiet (fail)
            have hb4 := hb1.trans (below_draws _ _ (n1 + nq))
            have ow4 := own_laterR ow1 (below_draws _ _ (n1 + nq))
            go_wp2_with (at_builtin; refine wpRds_one fE_len (by decide) _ l[k] 36 rfl rfl (.tmp 50) (.tmp 55) 40 rfl (w.alloc (.cells #[.int .i64 e0, .int .i64 e1, .int .i64 e2] 36)).heap.size 24 _ Try.underlying40 infoE rfl rfl ow4 rfl (by omega) (by omega) hs3 ?_; intro v9 w9 own9 hg9)
            have hb5 := below_growR (hb4.alloc hs3 (.cells ((fE l[k]).map (Value.int .i64)).toArray 36)) (ow4.alloc _) hg9 (Nat.le_trans hs3 (below_new _ _).size)
            go_roundw
            case rel => exact ⟨k + 1, by omega, by go_num, by rw [NX.out]; simp [stepW, HH.out], out_is NX.out (O := (O ++ [l[k]])) (by simp [stepW, HH.out, HP.out]) (by unfold OutIs; simpa using own9), hb5⟩
            case measure => simp [intOf]; omega
    · have hkl : k = l.length := by omega
      subst hkl
      have ws := with_st ((e0, e1), e2) l
      have hsl2 : (stW ((e0, e1), e2) l l.length).1.length ≤ 0 + 2 * (l.take l.length).length := hsl
      clear hsl
      have hmem : ∀ x ∈ (stW ((e0, e1), e2) l l.length).1, x = ((e0, e1), e2) ∨ x ∈ l := by
        intro x hx
        rcases st_mem _ _ _ x hx with h | h | h
        · cases h
        · exact .inl h
        · exact .inr (List.mem_of_mem_take h)
      have hwO : ∀ x ∈ (stW ((e0, e1), e2) l l.length).1, ∀ z ∈ fE x, (Lit.int .i64 z).wf = true := by
        intro x hx
        rcases hmem x hx with rfl | h
        · exact we
        · exact R.wf x h
      clear hmem
      obtain ⟨⟨O, d⟩, hOd⟩ : ∃ s, stW ((e0, e1), e2) l l.length = s := ⟨_, rfl⟩
      rw [hOd] at own ws hsl2 hwO ⊢
      clear hOd
      dsimp only at own hsl2 ws hwO ⊢
      unfold OutIs at own
      have hs1 := hbr.size
      obtain ⟨x0, x1, x2⟩ := (X.later hbr).three
      cases d
      · rw [if_neg (by decide)] at ws
        go_wp2_with (at_builtin; refine wpRds_one fE_len (by decide) _ ((e0, e1), e2) 36 rfl rfl (.tmp 59) (.tmp 61) 40 rfl (w.alloc (.cells #[.int .i64 e0, .int .i64 e1, .int .i64 e2] 36)).heap.size 24 _ Try.underlying40 infoE rfl rfl own rfl (by omega) (by omega) hs1 ?_; intro v8 w8 own8 hg8)
        have hb3 := below_growR (hbr.alloc hs1 (.cells #[.int .i64 e0, .int .i64 e1, .int .i64 e2] 36)) (own.alloc _) hg8 (Nat.le_trans hs1 (below_new _ _).size)
        obtain ⟨a8, k8, rfl, R8, ha8⟩ := rds_of_owns2 fE_len own8 (by simp) (wf_more hwO we)
        go_ret
        rw [ws]
        exact ⟨a8, k8, by simp, ⟨R8, fun y e => ⟨Nat.le_trans hn.size (ha8 y e).1, (ha8 y e).2⟩⟩, below_step hn hb3⟩
      · rw [if_pos rfl, List.append_nil] at ws
        obtain ⟨a8, k8, rfl, R8, ha8⟩ := rds_of_owns2 fE_len own rfl hwO
        go_wp2_with fail
        go_ret
        rw [ws]
        exact ⟨a8, k8, rfl, ⟨R8, fun y e => ⟨Nat.le_trans hn.size (ha8 y e).1, (ha8 y e).2⟩⟩, below_step hn hbr⟩
end Go.Proofs.Ytlgldoggnlcbkaa
