/- What the code's First answers. -/
import Derived.Test.YtihgpllbgliplaaQuiets
import Derived.Test.YtihgpllbgliplaaRuleAhead
import Derived.Test.YtihgpllbgliplaaMaths
namespace Go.Proofs.Ytihgpllbgliplaa
open Go.ChangeShapes Go.WideShapes Go.ChangeAt Go.RowKit Pk R
set_option linter.unusedVariables false
set_option linter.unusedSimpArgs false

theorem allReady_pass {P : Program} {ops : Array Oper} {Q : Exit → Act → World → Prop} {md : Region.Mode} {S : World → Prop} {fuel : Nat} {listed : Array Bool} {a : Act} {w : World} {i : Nat} {o : Oper} {rs : List Nat} (ho : ops[i]? = some o)
    (hw : Region.wanted o (yielded ops a.tmps) = false) (hS : S w) (h : wpAnyH P md ops Q S fuel (listed.setIfInBounds i true) (a.put o.dst undef) w) (hs : AllReadyH P md ops Q S fuel listed a w rs) : AllReadyH P md ops Q S fuel listed a w (i :: rs) :=
  AllReadyH.cons ho (fun K' hK => by rw [if_neg (by rw [hw]; exact Bool.false_ne_true)]; exact hK.out _ _ hS (fun _ => h)) hs
theorem kept_w {W w' w2 : World} (h : Below W.heap.size W w') (hb : Below w'.heap.size w' w2) : Below W.heap.size W w2 := below_step h hb
/-- the number of the one that counts, of the first k -/
def firstK (x d : Int) (l : List Rl) : Nat → Int
  | 0 => -1
  | k + 1 => if fits x d (l.getD k default) = true then (if firstK x d l k = -1 then (k : Int) else if Pk.ahead (l.getD k default) (l.getD (firstK x d l k).toNat default) = true then (k : Int) else firstK x d l k) else firstK x d l k
theorem firstK_bd (x d : Int) (l : List Rl) (k : Nat) : firstK x d l k = -1 ∨ (0 ≤ firstK x d l k ∧ firstK x d l k < (k : Int)) := by
  induction k with
  | zero => exact .inl rfl
  | succ k ih =>
    unfold firstK
    split
    · split
      · right; omega
      · split
        · right; omega
        · rcases ih with h | h
          · exact .inl h
          · right; omega
    · rcases ih with h | h
      · exact .inl h
      · right; omega
def firstL (x d : Int) (l : List Rl) : Int := firstK x d l l.length
theorem getD_at {l : List Rl} {k : Nat} (h : k < l.length) : l[k]? = some (l.getD k default) := by rw [List.getD_eq_getElem?_getD, List.getElem?_eq_getElem h]; rfl
section
set_option maxRecDepth 100000
set_option maxHeartbeats 8000000
theorem first_any (w : World) {a : Option Addr} {c : Nat} {l : List Rl} (R : Rds fR 6 w a c l) (x d : Int) :
    Calls Try.prog 31 #[.slice a l.length c, .int .i64 x, .int .i64 d] w fun e w' => e = .returned (.int .i64 (firstL x d l)) ∧ Below w.heap.size w w' := by
  have hmx := Nat.le_trans R.le R.max
  unfold maxLen at hmx
  have HF : Hid (firstL x d l = firstK x d l l.length) := rfl
  generalize firstL x d l = res at HF
  go_enter Try.func31, Try.ntmps31
  go_wp2_with fail
  go_loopw [12, 7] (fun v f wr => ∃ k : Nat, k ≤ l.length ∧ v = .int .i64 (k : Nat) ∧ f = .int .i64 (firstK x d l k) ∧ Below w.heap.size w wr) (fun v _ _ => l.length - (intOf v).toNat)
  case atStart => exact ⟨0, by omega, rfl, rfl, Below.refl _ _⟩
  case round =>
    obtain ⟨k, hk, rfl, rfl, hbr⟩ := hrel
    by_cases hlt : k < l.length
    · have hkz : (k : Int) < (l.length : Int) := by omega
      obtain ⟨b, o, rfl, hbr1, hc⟩ := (R.later hbr).at (getD_at hlt)
      have hbd := firstK_bd x d l k
      have NX : Hid (firstK x d l (k + 1) = if fits x d (l.getD k default) = true then (if firstK x d l k = -1 then (k : Int) else if Pk.ahead (l.getD k default) (l.getD (firstK x d l k).toNat default) = true then (k : Int) else firstK x d l k) else firstK x d l k) := rfl
      generalize hrk : l.getD k default = r at hc NX
      obtain ⟨ra, rn, ri, rp, rk, rt⟩ := r
      have v0 := hc 0 _ rfl
      have v1 := hc 1 _ rfl
      have v2 := hc 2 _ rfl
      have v3 := hc 3 _ rfl
      have v4 := hc 4 _ rfl
      have v5 := hc 5 _ rfl
      rw [Nat.add_zero] at v0
      clear hc hrk
      have cF := fun u => ruFits_any ra rn ri rp rk rt x d u
      generalize hfk : firstK x d l k = f at hbd NX
      clear hfk
      cases hfit : fitB ra rn ri x d with
      | false =>
        rw [hfit] at cF
        have N2 : Hid (firstK x d l (k + 1) = f) := by
          show _ = _
          rw [NX.out, if_neg (by show ¬ fitB ra rn ri x d = true; rw [hfit]; decide)]
        clear NX hbd hfit
        go_wp2_with fail
        have hb1 := below_new wr (.cells #[.int .i64 ra, .int .i64 rn, .int .i64 ri, .int .i64 rp, .int .i64 rk, .int .i64 rt] 60)
        have X : Lies (wr.alloc (.cells #[.int .i64 ra, .int .i64 rn, .int .i64 ri, .int .i64 rp, .int .i64 rk, .int .i64 rt] 60)) wr.heap.size [ra, rn, ri, rp, rk, rt] := Lies.new wr [ra, rn, ri, rp, rk, rt] 60 rfl
        obtain ⟨x0, x1, x2, x3, x4, x5⟩ := X.six
        have hBx := X.lt
        have hb2 := below_step hbr hb1
        obtain ⟨Bx, eB⟩ : ∃ b, wr.heap.size = b := ⟨_, rfl⟩
        rw [eB] at x0 x1 x2 x3 x4 x5 hBx ⊢
        generalize wr.alloc (.cells #[.int .i64 ra, .int .i64 rn, .int .i64 ri, .int .i64 rp, .int .i64 rk, .int .i64 rt] 60) = W at x0 x1 x2 x3 x4 x5 hBx hb2 ⊢
        clear X eB hb1
        have S0 : Below W.heap.size W W.drew := (Below.refl _ _).drew
        refine wp_region_noPanic ?_
        refine wp_region_held_drew (S := fun w' => Below W.heap.size W w') (by kernel_rfl) S0 (fun hH => ?_)
        clear S0
        refine wpAnyH_take (i := 0) (oi := { dst := some 17, op := _, type := _, pos := _, after := _, guard := _ }) (v := ?_) rfl (by kernel_rfl) (by kernel_rfl) (by kernel_rfl) (fun _ _ _ h => h) (Or.inl ⟨by rfl, ?_⟩) hH ?_
        rotate_left
        · intro wz hSw
          (try dsimp only at hSw)
          have z0 := (hSw.cell (p := ⟨Bx, 0, none⟩) hBx).trans x0
          have z1 := (hSw.cell (p := ⟨Bx, 1, none⟩) hBx).trans x1
          have z2 := (hSw.cell (p := ⟨Bx, 2, none⟩) hBx).trans x2
          have z3 := (hSw.cell (p := ⟨Bx, 3, none⟩) hBx).trans x3
          have z4 := (hSw.cell (p := ⟨Bx, 4, none⟩) hBx).trans x4
          have z5 := (hSw.cell (p := ⟨Bx, 5, none⟩) hBx).trans x5
          first | (go_simp; done) | (go_simp; with_reducible rfl)
        try simp only [Act.put, List.setIfInBounds_toArray, List.set_cons_zero, List.set_cons_succ]
        refine wpAnyH_take (i := 1) (oi := { dst := some 18, op := _, type := _, pos := _, after := _, guard := _ }) (v := ?_) rfl (by kernel_rfl) (by kernel_rfl) (by kernel_rfl) (fun _ _ _ h => h) (Or.inl ⟨by rfl, ?_⟩) hH ?_
        rotate_left
        · intro wz hSw
          (try dsimp only at hSw)
          first | (go_simp; done) | (go_simp; with_reducible rfl)
        try simp only [Act.put, List.setIfInBounds_toArray, List.set_cons_zero, List.set_cons_succ]
        refine wpAnyH_take (i := 2) (oi := { dst := some 19, op := _, type := _, pos := _, after := _, guard := _ }) (v := ?_) rfl (by kernel_rfl) (by kernel_rfl) (by kernel_rfl) (fun _ _ _ h => h) (Or.inl ⟨by rfl, ?_⟩) hH ?_
        rotate_left
        · intro wz hSw
          (try dsimp only at hSw)
          first | (go_simp; done) | (go_simp; with_reducible rfl)
        try simp only [Act.put, List.setIfInBounds_toArray, List.set_cons_zero, List.set_cons_succ]
        refine wpAnyH_ready (rs := [3]) (by kernel_rfl) (by simp) ?_
        refine AllReadyH.cons (o := { dst := some 20, op := _, type := _, pos := _, after := _, guard := _ }) rfl (fun K hK => ?_) AllReadyH.nil
        go_simp
        refine (cF _).mono ?_
        rintro e wq3 ⟨rfl, hbq⟩
        go_wp2_with fail
        refine hK.out _ _ (kept_w hH hbq) (fun hH2 => ?_)
        clear hK K hH hbq
        have hH := hH2
        clear hH2
        try simp only [Act.put, List.setIfInBounds_toArray, List.set_cons_zero, List.set_cons_succ]
        refine wpAnyH_take (i := 4) (oi := { dst := some 21, op := _, type := _, pos := _, after := _, guard := _ }) (v := ?_) rfl (by kernel_rfl) (by kernel_rfl) (by kernel_rfl) (fun _ _ _ h => h) (Or.inl ⟨by rfl, ?_⟩) hH ?_
        rotate_left
        · intro wz hSw
          (try dsimp only at hSw)
          first | (go_simp; done) | (go_simp; with_reducible rfl)
        try simp only [Act.put, List.setIfInBounds_toArray, List.set_cons_zero, List.set_cons_succ]
        refine wpAnyH_take (i := 5) (oi := { dst := some 22, op := _, type := _, pos := _, after := _, guard := _ }) (v := undef) rfl (by kernel_rfl) (by kernel_rfl) (by kernel_rfl) (fun _ _ _ h => h) (Or.inr ⟨by rfl, rfl⟩) hH ?_
        try simp only [Act.put, List.setIfInBounds_toArray, List.set_cons_zero, List.set_cons_succ]
        refine wpAnyH_take (i := 6) (oi := { dst := some 23, op := _, type := _, pos := _, after := _, guard := _ }) (v := undef) rfl (by kernel_rfl) (by kernel_rfl) (by kernel_rfl) (fun _ _ _ h => h) (Or.inr ⟨by rfl, rfl⟩) hH ?_
        try simp only [Act.put, List.setIfInBounds_toArray, List.set_cons_zero, List.set_cons_succ]
        refine wpAnyH_take (i := 7) (oi := { dst := some 24, op := _, type := _, pos := _, after := _, guard := _ }) (v := undef) rfl (by kernel_rfl) (by kernel_rfl) (by kernel_rfl) (fun _ _ _ h => h) (Or.inr ⟨by rfl, rfl⟩) hH ?_
        try simp only [Act.put, List.setIfInBounds_toArray, List.set_cons_zero, List.set_cons_succ]
        refine wpAnyH_take (i := 8) (oi := { dst := some 25, op := _, type := _, pos := _, after := _, guard := _ }) (v := undef) rfl (by kernel_rfl) (by kernel_rfl) (by kernel_rfl) (fun _ _ _ h => h) (Or.inr ⟨by rfl, rfl⟩) hH ?_
        try simp only [Act.put, List.setIfInBounds_toArray, List.set_cons_zero, List.set_cons_succ]
        refine wpAnyH_take (i := 9) (oi := { dst := some 26, op := _, type := _, pos := _, after := _, guard := _ }) (v := undef) rfl (by kernel_rfl) (by kernel_rfl) (by kernel_rfl) (fun _ _ _ h => h) (Or.inr ⟨by rfl, rfl⟩) hH ?_
        try simp only [Act.put, List.setIfInBounds_toArray, List.set_cons_zero, List.set_cons_succ]
        refine wpAnyH_take (i := 10) (oi := { dst := some 27, op := _, type := _, pos := _, after := _, guard := _ }) (v := undef) rfl (by kernel_rfl) (by kernel_rfl) (by kernel_rfl) (fun _ _ _ h => h) (Or.inr ⟨by rfl, rfl⟩) hH ?_
        try simp only [Act.put, List.setIfInBounds_toArray, List.set_cons_zero, List.set_cons_succ]
        refine wpAnyH_take (i := 11) (oi := { dst := some 28, op := _, type := _, pos := _, after := _, guard := _ }) (v := undef) rfl (by kernel_rfl) (by kernel_rfl) (by kernel_rfl) (fun _ _ _ h => h) (Or.inr ⟨by rfl, rfl⟩) hH ?_
        try simp only [Act.put, List.setIfInBounds_toArray, List.set_cons_zero, List.set_cons_succ]
        refine wpAnyH_take (i := 12) (oi := { dst := some 29, op := _, type := _, pos := _, after := _, guard := _ }) (v := undef) rfl (by kernel_rfl) (by kernel_rfl) (by kernel_rfl) (fun _ _ _ h => h) (Or.inr ⟨by rfl, rfl⟩) hH ?_
        try simp only [Act.put, List.setIfInBounds_toArray, List.set_cons_zero, List.set_cons_succ]
        refine wpAnyH_ready (rs := [13]) (by kernel_rfl) (by simp) ?_
        refine allReady_pass (o := { dst := some 30, op := _, type := _, pos := _, after := _, guard := _ }) rfl (by rfl) hH ?_ AllReadyH.nil
        try simp only [Act.put, List.setIfInBounds_toArray, List.set_cons_zero, List.set_cons_succ]
        refine wpAnyH_take (i := 14) (oi := { dst := some 31, op := _, type := _, pos := _, after := _, guard := _ }) (v := undef) rfl (by kernel_rfl) (by kernel_rfl) (by kernel_rfl) (fun _ _ _ h => h) (Or.inr ⟨by rfl, rfl⟩) hH ?_
        try simp only [Act.put, List.setIfInBounds_toArray, List.set_cons_zero, List.set_cons_succ]
        refine wpAnyH_take (i := 15) (oi := { dst := some 32, op := _, type := _, pos := _, after := _, guard := _ }) (v := ?_) rfl (by kernel_rfl) (by kernel_rfl) (by kernel_rfl) (fun _ _ _ h => h) (Or.inl ⟨by rfl, ?_⟩) hH ?_
        rotate_left
        · intro wz hSw
          (try dsimp only at hSw)
          first | (go_simp; done) | (go_simp; with_reducible rfl)
        try simp only [Act.put, List.setIfInBounds_toArray, List.set_cons_zero, List.set_cons_succ]
        refine wpAnyH_done (by kernel_rfl) ?_ _
        refine NoPanic.normal ?_
        have hb3 := below_step hb2 hH
        go_wp2_with fail
        go_roundw
        case rel => exact ⟨k + 1, by omega, by go_num, by rw [N2.out], hb3⟩
        case measure => simp [intOf]; omega
      | true =>
        rw [hfit] at cF
        rcases hbd with rfl | ⟨hf0, hf1⟩
        · have N2 : Hid (firstK x d l (k + 1) = (k : Int)) := by
            show _ = _
            rw [NX.out, if_pos (by show fitB ra rn ri x d = true; exact hfit), if_pos rfl]
          clear NX hfit
          go_wp2_with fail
          have hb1 := below_new wr (.cells #[.int .i64 ra, .int .i64 rn, .int .i64 ri, .int .i64 rp, .int .i64 rk, .int .i64 rt] 60)
          have X : Lies (wr.alloc (.cells #[.int .i64 ra, .int .i64 rn, .int .i64 ri, .int .i64 rp, .int .i64 rk, .int .i64 rt] 60)) wr.heap.size [ra, rn, ri, rp, rk, rt] := Lies.new wr [ra, rn, ri, rp, rk, rt] 60 rfl
          obtain ⟨x0, x1, x2, x3, x4, x5⟩ := X.six
          have hBx := X.lt
          have hb2 := below_step hbr hb1
          obtain ⟨Bx, eB⟩ : ∃ b, wr.heap.size = b := ⟨_, rfl⟩
          rw [eB] at x0 x1 x2 x3 x4 x5 hBx ⊢
          generalize wr.alloc (.cells #[.int .i64 ra, .int .i64 rn, .int .i64 ri, .int .i64 rp, .int .i64 rk, .int .i64 rt] 60) = W at x0 x1 x2 x3 x4 x5 hBx hb2 ⊢
          clear X eB hb1
          have S0 : Below W.heap.size W W.drew := (Below.refl _ _).drew
          refine wp_region_noPanic ?_
          refine wp_region_held_drew (S := fun w' => Below W.heap.size W w') (by kernel_rfl) S0 (fun hH => ?_)
          clear S0
          refine wpAnyH_take (i := 0) (oi := { dst := some 17, op := _, type := _, pos := _, after := _, guard := _ }) (v := ?_) rfl (by kernel_rfl) (by kernel_rfl) (by kernel_rfl) (fun _ _ _ h => h) (Or.inl ⟨by rfl, ?_⟩) hH ?_
          rotate_left
          · intro wz hSw
            (try dsimp only at hSw)
            have z0 := (hSw.cell (p := ⟨Bx, 0, none⟩) hBx).trans x0
            have z1 := (hSw.cell (p := ⟨Bx, 1, none⟩) hBx).trans x1
            have z2 := (hSw.cell (p := ⟨Bx, 2, none⟩) hBx).trans x2
            have z3 := (hSw.cell (p := ⟨Bx, 3, none⟩) hBx).trans x3
            have z4 := (hSw.cell (p := ⟨Bx, 4, none⟩) hBx).trans x4
            have z5 := (hSw.cell (p := ⟨Bx, 5, none⟩) hBx).trans x5
            first | (go_simp; done) | (go_simp; with_reducible rfl)
          try simp only [Act.put, List.setIfInBounds_toArray, List.set_cons_zero, List.set_cons_succ]
          refine wpAnyH_take (i := 1) (oi := { dst := some 18, op := _, type := _, pos := _, after := _, guard := _ }) (v := ?_) rfl (by kernel_rfl) (by kernel_rfl) (by kernel_rfl) (fun _ _ _ h => h) (Or.inl ⟨by rfl, ?_⟩) hH ?_
          rotate_left
          · intro wz hSw
            (try dsimp only at hSw)
            first | (go_simp; done) | (go_simp; with_reducible rfl)
          try simp only [Act.put, List.setIfInBounds_toArray, List.set_cons_zero, List.set_cons_succ]
          refine wpAnyH_take (i := 2) (oi := { dst := some 19, op := _, type := _, pos := _, after := _, guard := _ }) (v := ?_) rfl (by kernel_rfl) (by kernel_rfl) (by kernel_rfl) (fun _ _ _ h => h) (Or.inl ⟨by rfl, ?_⟩) hH ?_
          rotate_left
          · intro wz hSw
            (try dsimp only at hSw)
            first | (go_simp; done) | (go_simp; with_reducible rfl)
          try simp only [Act.put, List.setIfInBounds_toArray, List.set_cons_zero, List.set_cons_succ]
          refine wpAnyH_ready (rs := [3]) (by kernel_rfl) (by simp) ?_
          refine AllReadyH.cons (o := { dst := some 20, op := _, type := _, pos := _, after := _, guard := _ }) rfl (fun K hK => ?_) AllReadyH.nil
          go_simp
          refine (cF _).mono ?_
          rintro e wq3 ⟨rfl, hbq⟩
          go_wp2_with fail
          refine hK.out _ _ (kept_w hH hbq) (fun hH2 => ?_)
          clear hK K hH hbq
          have hH := hH2
          clear hH2
          try simp only [Act.put, List.setIfInBounds_toArray, List.set_cons_zero, List.set_cons_succ]
          refine wpAnyH_take (i := 4) (oi := { dst := some 21, op := _, type := _, pos := _, after := _, guard := _ }) (v := ?_) rfl (by kernel_rfl) (by kernel_rfl) (by kernel_rfl) (fun _ _ _ h => h) (Or.inl ⟨by rfl, ?_⟩) hH ?_
          rotate_left
          · intro wz hSw
            (try dsimp only at hSw)
            first | (go_simp; done) | (go_simp; with_reducible rfl)
          try simp only [Act.put, List.setIfInBounds_toArray, List.set_cons_zero, List.set_cons_succ]
          refine wpAnyH_take (i := 5) (oi := { dst := some 22, op := _, type := _, pos := _, after := _, guard := _ }) (v := ?_) rfl (by kernel_rfl) (by kernel_rfl) (by kernel_rfl) (fun _ _ _ h => h) (Or.inl ⟨by rfl, ?_⟩) hH ?_
          rotate_left
          · intro wz hSw
            (try dsimp only at hSw)
            first | (go_simp; done) | (go_simp; with_reducible rfl)
          try simp only [Act.put, List.setIfInBounds_toArray, List.set_cons_zero, List.set_cons_succ]
          refine wpAnyH_take (i := 6) (oi := { dst := some 23, op := _, type := _, pos := _, after := _, guard := _ }) (v := ?_) rfl (by kernel_rfl) (by kernel_rfl) (by kernel_rfl) (fun _ _ _ h => h) (Or.inl ⟨by rfl, ?_⟩) hH ?_
          rotate_left
          · intro wz hSw
            (try dsimp only at hSw)
            first | (go_simp; done) | (go_simp; with_reducible rfl)
          try simp only [Act.put, List.setIfInBounds_toArray, List.set_cons_zero, List.set_cons_succ]
          refine wpAnyH_take (i := 7) (oi := { dst := some 24, op := _, type := _, pos := _, after := _, guard := _ }) (v := ?_) rfl (by kernel_rfl) (by kernel_rfl) (by kernel_rfl) (fun _ _ _ h => h) (Or.inl ⟨by rfl, ?_⟩) hH ?_
          rotate_left
          · intro wz hSw
            (try dsimp only at hSw)
            first | (go_simp; done) | (go_simp; with_reducible rfl)
          try simp only [Act.put, List.setIfInBounds_toArray, List.set_cons_zero, List.set_cons_succ]
          refine wpAnyH_take (i := 8) (oi := { dst := some 25, op := _, type := _, pos := _, after := _, guard := _ }) (v := undef) rfl (by kernel_rfl) (by kernel_rfl) (by kernel_rfl) (fun _ _ _ h => h) (Or.inr ⟨by rfl, rfl⟩) hH ?_
          try simp only [Act.put, List.setIfInBounds_toArray, List.set_cons_zero, List.set_cons_succ]
          refine wpAnyH_take (i := 9) (oi := { dst := some 26, op := _, type := _, pos := _, after := _, guard := _ }) (v := undef) rfl (by kernel_rfl) (by kernel_rfl) (by kernel_rfl) (fun _ _ _ h => h) (Or.inr ⟨by rfl, rfl⟩) hH ?_
          try simp only [Act.put, List.setIfInBounds_toArray, List.set_cons_zero, List.set_cons_succ]
          refine wpAnyH_take (i := 10) (oi := { dst := some 27, op := _, type := _, pos := _, after := _, guard := _ }) (v := undef) rfl (by kernel_rfl) (by kernel_rfl) (by kernel_rfl) (fun _ _ _ h => h) (Or.inr ⟨by rfl, rfl⟩) hH ?_
          try simp only [Act.put, List.setIfInBounds_toArray, List.set_cons_zero, List.set_cons_succ]
          refine wpAnyH_take (i := 11) (oi := { dst := some 28, op := _, type := _, pos := _, after := _, guard := _ }) (v := undef) rfl (by kernel_rfl) (by kernel_rfl) (by kernel_rfl) (fun _ _ _ h => h) (Or.inr ⟨by rfl, rfl⟩) hH ?_
          try simp only [Act.put, List.setIfInBounds_toArray, List.set_cons_zero, List.set_cons_succ]
          refine wpAnyH_take (i := 12) (oi := { dst := some 29, op := _, type := _, pos := _, after := _, guard := _ }) (v := undef) rfl (by kernel_rfl) (by kernel_rfl) (by kernel_rfl) (fun _ _ _ h => h) (Or.inr ⟨by rfl, rfl⟩) hH ?_
          try simp only [Act.put, List.setIfInBounds_toArray, List.set_cons_zero, List.set_cons_succ]
          refine wpAnyH_ready (rs := [13]) (by kernel_rfl) (by simp) ?_
          refine allReady_pass (o := { dst := some 30, op := _, type := _, pos := _, after := _, guard := _ }) rfl (by rfl) hH ?_ AllReadyH.nil
          try simp only [Act.put, List.setIfInBounds_toArray, List.set_cons_zero, List.set_cons_succ]
          refine wpAnyH_take (i := 14) (oi := { dst := some 31, op := _, type := _, pos := _, after := _, guard := _ }) (v := ?_) rfl (by kernel_rfl) (by kernel_rfl) (by kernel_rfl) (fun _ _ _ h => h) (Or.inl ⟨by rfl, ?_⟩) hH ?_
          rotate_left
          · intro wz hSw
            (try dsimp only at hSw)
            first | (go_simp; done) | (go_simp; with_reducible rfl)
          try simp only [Act.put, List.setIfInBounds_toArray, List.set_cons_zero, List.set_cons_succ]
          refine wpAnyH_take (i := 15) (oi := { dst := some 32, op := _, type := _, pos := _, after := _, guard := _ }) (v := ?_) rfl (by kernel_rfl) (by kernel_rfl) (by kernel_rfl) (fun _ _ _ h => h) (Or.inl ⟨by rfl, ?_⟩) hH ?_
          rotate_left
          · intro wz hSw
            (try dsimp only at hSw)
            first | (go_simp; done) | (go_simp; with_reducible rfl)
          try simp only [Act.put, List.setIfInBounds_toArray, List.set_cons_zero, List.set_cons_succ]
          refine wpAnyH_done (by kernel_rfl) ?_ _
          refine NoPanic.normal ?_
          have hb3 := below_step hb2 hH
          go_wp2_with fail
          go_roundw
          case rel => exact ⟨k + 1, by omega, by go_num, by rw [N2.out], hb3⟩
          case measure => simp [intOf]; omega
        · obtain ⟨q, rfl⟩ : ∃ q : Nat, f = (q : Int) := ⟨f.toNat, by omega⟩
          have hql : q < l.length := by omega
          obtain ⟨b9, o9, e9, -, hd⟩ := (R.later hbr).at (getD_at hql)
          cases e9
          have hne : ((q : Int) == -1) = false := by rw [beq_eq_false_iff_ne]; omega
          have hqz : (q : Int) < (l.length : Int) := by omega
          rw [if_pos (show fits x d ⟨ra, rn, ri, rp, rk, rt⟩ = true from hfit), if_neg (by omega), Int.toNat_natCast] at NX
          generalize hsq : l.getD q default = s at hd NX
          obtain ⟨sa, sn, si, sp, sk, st⟩ := s
          have u0 := hd 0 _ rfl
          have u1 := hd 1 _ rfl
          have u2 := hd 2 _ rfl
          have u3 := hd 3 _ rfl
          have u4 := hd 4 _ rfl
          have u5 := hd 5 _ rfl
          rw [Nat.add_zero] at u0
          clear hd hsq hfit
          have cA := fun u => ruAhead_any ra rn ri rp rk rt sa sn si sp sk st u
          cases hah : ahB rn rp ri sn sp si with
          | true =>
            rw [hah] at cA
            have N2 : Hid (firstK x d l (k + 1) = (k : Int)) := by
              show _ = _
              rw [NX.out, if_pos (by show ahB rn rp ri sn sp si = true; exact hah)]
            clear NX hah
            go_wp2_with fail
            have hb1 := below_new wr (.cells #[.int .i64 ra, .int .i64 rn, .int .i64 ri, .int .i64 rp, .int .i64 rk, .int .i64 rt] 60)
            have X : Lies (wr.alloc (.cells #[.int .i64 ra, .int .i64 rn, .int .i64 ri, .int .i64 rp, .int .i64 rk, .int .i64 rt] 60)) wr.heap.size [ra, rn, ri, rp, rk, rt] := Lies.new wr [ra, rn, ri, rp, rk, rt] 60 rfl
            obtain ⟨x0, x1, x2, x3, x4, x5⟩ := X.six
            have hBx := X.lt
            have y0 := (hb1.cell (p := ⟨b, o + q * 6, none⟩) hbr1).trans u0
            have y1 := (hb1.cell (p := ⟨b, o + q * 6 + 1, none⟩) hbr1).trans u1
            have y2 := (hb1.cell (p := ⟨b, o + q * 6 + 2, none⟩) hbr1).trans u2
            have y3 := (hb1.cell (p := ⟨b, o + q * 6 + 3, none⟩) hbr1).trans u3
            have y4 := (hb1.cell (p := ⟨b, o + q * 6 + 4, none⟩) hbr1).trans u4
            have y5 := (hb1.cell (p := ⟨b, o + q * 6 + 5, none⟩) hbr1).trans u5
            have hbb := Nat.lt_of_lt_of_le hbr1 hb1.size
            have hb2 := below_step hbr hb1
            obtain ⟨Bx, eB⟩ : ∃ b, wr.heap.size = b := ⟨_, rfl⟩
            rw [eB] at x0 x1 x2 x3 x4 x5 hBx ⊢
            generalize wr.alloc (.cells #[.int .i64 ra, .int .i64 rn, .int .i64 ri, .int .i64 rp, .int .i64 rk, .int .i64 rt] 60) = W at x0 x1 x2 x3 x4 x5 hBx hb2 y0 y1 y2 y3 y4 y5 hbb ⊢
            clear X eB hb1
            have S0 : Below W.heap.size W W.drew := (Below.refl _ _).drew
            refine wp_region_noPanic ?_
            refine wp_region_held_drew (S := fun w' => Below W.heap.size W w') (by kernel_rfl) S0 (fun hH => ?_)
            clear S0
            refine wpAnyH_take (i := 0) (oi := { dst := some 17, op := _, type := _, pos := _, after := _, guard := _ }) (v := ?_) rfl (by kernel_rfl) (by kernel_rfl) (by kernel_rfl) (fun _ _ _ h => h) (Or.inl ⟨by rfl, ?_⟩) hH ?_
            rotate_left
            · intro wz hSw
              (try dsimp only at hSw)
              have z0 := (hSw.cell (p := ⟨Bx, 0, none⟩) hBx).trans x0
              have z1 := (hSw.cell (p := ⟨Bx, 1, none⟩) hBx).trans x1
              have z2 := (hSw.cell (p := ⟨Bx, 2, none⟩) hBx).trans x2
              have z3 := (hSw.cell (p := ⟨Bx, 3, none⟩) hBx).trans x3
              have z4 := (hSw.cell (p := ⟨Bx, 4, none⟩) hBx).trans x4
              have z5 := (hSw.cell (p := ⟨Bx, 5, none⟩) hBx).trans x5
              first | (go_simp; done) | (go_simp; with_reducible rfl)
            try simp only [Act.put, List.setIfInBounds_toArray, List.set_cons_zero, List.set_cons_succ]
            refine wpAnyH_take (i := 1) (oi := { dst := some 18, op := _, type := _, pos := _, after := _, guard := _ }) (v := ?_) rfl (by kernel_rfl) (by kernel_rfl) (by kernel_rfl) (fun _ _ _ h => h) (Or.inl ⟨by rfl, ?_⟩) hH ?_
            rotate_left
            · intro wz hSw
              (try dsimp only at hSw)
              first | (go_simp; done) | (go_simp; with_reducible rfl)
            try simp only [Act.put, List.setIfInBounds_toArray, List.set_cons_zero, List.set_cons_succ]
            refine wpAnyH_take (i := 2) (oi := { dst := some 19, op := _, type := _, pos := _, after := _, guard := _ }) (v := ?_) rfl (by kernel_rfl) (by kernel_rfl) (by kernel_rfl) (fun _ _ _ h => h) (Or.inl ⟨by rfl, ?_⟩) hH ?_
            rotate_left
            · intro wz hSw
              (try dsimp only at hSw)
              first | (go_simp; done) | (go_simp; with_reducible rfl)
            try simp only [Act.put, List.setIfInBounds_toArray, List.set_cons_zero, List.set_cons_succ]
            refine wpAnyH_ready (rs := [3]) (by kernel_rfl) (by simp) ?_
            refine AllReadyH.cons (o := { dst := some 20, op := _, type := _, pos := _, after := _, guard := _ }) rfl (fun K hK => ?_) AllReadyH.nil
            go_simp
            refine (cF _).mono ?_
            rintro e wq3 ⟨rfl, hbq⟩
            go_wp2_with fail
            refine hK.out _ _ (kept_w hH hbq) (fun hH2 => ?_)
            clear hK K hH hbq
            have hH := hH2
            clear hH2
            try simp only [Act.put, List.setIfInBounds_toArray, List.set_cons_zero, List.set_cons_succ]
            refine wpAnyH_take (i := 4) (oi := { dst := some 21, op := _, type := _, pos := _, after := _, guard := _ }) (v := ?_) rfl (by kernel_rfl) (by kernel_rfl) (by kernel_rfl) (fun _ _ _ h => h) (Or.inl ⟨by rfl, ?_⟩) hH ?_
            rotate_left
            · intro wz hSw
              (try dsimp only at hSw)
              first | (go_simp; done) | (go_simp; with_reducible rfl)
            try simp only [Act.put, List.setIfInBounds_toArray, List.set_cons_zero, List.set_cons_succ]
            refine wpAnyH_take (i := 5) (oi := { dst := some 22, op := _, type := _, pos := _, after := _, guard := _ }) (v := ?_) rfl (by kernel_rfl) (by kernel_rfl) (by kernel_rfl) (fun _ _ _ h => h) (Or.inl ⟨by rfl, ?_⟩) hH ?_
            rotate_left
            · intro wz hSw
              (try dsimp only at hSw)
              first | (go_simp; done) | (go_simp; with_reducible rfl)
            try simp only [Act.put, List.setIfInBounds_toArray, List.set_cons_zero, List.set_cons_succ]
            refine wpAnyH_take (i := 6) (oi := { dst := some 23, op := _, type := _, pos := _, after := _, guard := _ }) (v := ?_) rfl (by kernel_rfl) (by kernel_rfl) (by kernel_rfl) (fun _ _ _ h => h) (Or.inl ⟨by rfl, ?_⟩) hH ?_
            rotate_left
            · intro wz hSw
              (try dsimp only at hSw)
              first | (go_simp; done) | (go_simp; with_reducible rfl)
            try simp only [Act.put, List.setIfInBounds_toArray, List.set_cons_zero, List.set_cons_succ]
            refine wpAnyH_take (i := 7) (oi := { dst := some 24, op := _, type := _, pos := _, after := _, guard := _ }) (v := ?_) rfl (by kernel_rfl) (by kernel_rfl) (by kernel_rfl) (fun _ _ _ h => h) (Or.inl ⟨by rfl, ?_⟩) hH ?_
            rotate_left
            · intro wz hSw
              (try dsimp only at hSw)
              first | (go_simp; done) | (go_simp; with_reducible rfl)
            try simp only [Act.put, List.setIfInBounds_toArray, List.set_cons_zero, List.set_cons_succ]
            refine wpAnyH_take (i := 8) (oi := { dst := some 25, op := _, type := _, pos := _, after := _, guard := _ }) (v := ?_) rfl (by kernel_rfl) (by kernel_rfl) (by kernel_rfl) (fun _ _ _ h => h) (Or.inl ⟨by rfl, ?_⟩) hH ?_
            rotate_left
            · intro wz hSw
              (try dsimp only at hSw)
              have z0 := (hSw.cell (p := ⟨Bx, 0, none⟩) hBx).trans x0
              have z1 := (hSw.cell (p := ⟨Bx, 1, none⟩) hBx).trans x1
              have z2 := (hSw.cell (p := ⟨Bx, 2, none⟩) hBx).trans x2
              have z3 := (hSw.cell (p := ⟨Bx, 3, none⟩) hBx).trans x3
              have z4 := (hSw.cell (p := ⟨Bx, 4, none⟩) hBx).trans x4
              have z5 := (hSw.cell (p := ⟨Bx, 5, none⟩) hBx).trans x5
              first | (go_simp; done) | (go_simp; with_reducible rfl)
            try simp only [Act.put, List.setIfInBounds_toArray, List.set_cons_zero, List.set_cons_succ]
            refine wpAnyH_take (i := 9) (oi := { dst := some 26, op := _, type := _, pos := _, after := _, guard := _ }) (v := ?_) rfl (by kernel_rfl) (by kernel_rfl) (by kernel_rfl) (fun _ _ _ h => h) (Or.inl ⟨by rfl, ?_⟩) hH ?_
            rotate_left
            · intro wz hSw
              (try dsimp only at hSw)
              first | (go_simp; done) | (go_simp; with_reducible rfl)
            try simp only [Act.put, List.setIfInBounds_toArray, List.set_cons_zero, List.set_cons_succ]
            refine wpAnyH_take (i := 10) (oi := { dst := some 27, op := _, type := _, pos := _, after := _, guard := _ }) (v := ?_) rfl (by kernel_rfl) (by kernel_rfl) (by kernel_rfl) (fun _ _ _ h => h) (Or.inl ⟨by rfl, ?_⟩) hH ?_
            rotate_left
            · intro wz hSw
              (try dsimp only at hSw)
              first | (go_simp; done) | (go_simp; with_reducible rfl)
            try simp only [Act.put, List.setIfInBounds_toArray, List.set_cons_zero, List.set_cons_succ]
            refine wpAnyH_take (i := 11) (oi := { dst := some 28, op := _, type := _, pos := _, after := _, guard := _ }) (v := ?_) rfl (by kernel_rfl) (by kernel_rfl) (by kernel_rfl) (fun _ _ _ h => h) (Or.inl ⟨by rfl, ?_⟩) hH ?_
            rotate_left
            · intro wz hSw
              (try dsimp only at hSw)
              first | (go_simp; done) | (go_simp; with_reducible rfl)
            try simp only [Act.put, List.setIfInBounds_toArray, List.set_cons_zero, List.set_cons_succ]
            refine wpAnyH_take (i := 12) (oi := { dst := some 29, op := _, type := _, pos := _, after := _, guard := _ }) (v := ?_) rfl (by kernel_rfl) (by kernel_rfl) (by kernel_rfl) (fun _ _ _ h => h) (Or.inl ⟨by rfl, ?_⟩) hH ?_
            rotate_left
            · intro wz hSw
              (try dsimp only at hSw)
              have z1 := (hSw.cell (p := ⟨b, o + q * 6 + 1, none⟩) hbb).trans y1
              have z2 := (hSw.cell (p := ⟨b, o + q * 6 + 2, none⟩) hbb).trans y2
              have z3 := (hSw.cell (p := ⟨b, o + q * 6 + 3, none⟩) hbb).trans y3
              have z4 := (hSw.cell (p := ⟨b, o + q * 6 + 4, none⟩) hbb).trans y4
              have z5 := (hSw.cell (p := ⟨b, o + q * 6 + 5, none⟩) hbb).trans y5
              have z0 := (hSw.cell (p := ⟨b, o + q * 6, none⟩) hbb).trans y0
              first | (go_simp; done) | (go_simp; with_reducible rfl)
            try simp only [Act.put, List.setIfInBounds_toArray, List.set_cons_zero, List.set_cons_succ]
            refine wpAnyH_ready (rs := [13]) (by kernel_rfl) (by simp) ?_
            refine AllReadyH.cons (o := { dst := some 30, op := _, type := _, pos := _, after := _, guard := _ }) rfl (fun K hK => ?_) AllReadyH.nil
            go_simp
            refine (cA _).mono ?_
            rintro e wq13 ⟨rfl, hbq⟩
            go_wp2_with fail
            refine hK.out _ _ (kept_w hH hbq) (fun hH2 => ?_)
            clear hK K hH hbq
            have hH := hH2
            clear hH2
            try simp only [Act.put, List.setIfInBounds_toArray, List.set_cons_zero, List.set_cons_succ]
            refine wpAnyH_take (i := 14) (oi := { dst := some 31, op := _, type := _, pos := _, after := _, guard := _ }) (v := ?_) rfl (by kernel_rfl) (by kernel_rfl) (by kernel_rfl) (fun _ _ _ h => h) (Or.inl ⟨by rfl, ?_⟩) hH ?_
            rotate_left
            · intro wz hSw
              (try dsimp only at hSw)
              first | (go_simp; done) | (go_simp; with_reducible rfl)
            try simp only [Act.put, List.setIfInBounds_toArray, List.set_cons_zero, List.set_cons_succ]
            refine wpAnyH_take (i := 15) (oi := { dst := some 32, op := _, type := _, pos := _, after := _, guard := _ }) (v := ?_) rfl (by kernel_rfl) (by kernel_rfl) (by kernel_rfl) (fun _ _ _ h => h) (Or.inl ⟨by rfl, ?_⟩) hH ?_
            rotate_left
            · intro wz hSw
              (try dsimp only at hSw)
              first | (go_simp; done) | (go_simp; with_reducible rfl)
            try simp only [Act.put, List.setIfInBounds_toArray, List.set_cons_zero, List.set_cons_succ]
            refine wpAnyH_done (by kernel_rfl) ?_ _
            refine NoPanic.normal ?_
            have hb3 := below_step hb2 hH
            go_wp2_with fail
            go_roundw
            case rel => exact ⟨k + 1, by omega, by go_num, by rw [N2.out], hb3⟩
            case measure => simp [intOf]; omega
          | false =>
            rw [hah] at cA
            have N2 : Hid (firstK x d l (k + 1) = (q : Int)) := by
              show _ = _
              rw [NX.out, if_neg (by show ¬ ahB rn rp ri sn sp si = true; rw [hah]; decide)]
            clear NX hah
            go_wp2_with fail
            have hb1 := below_new wr (.cells #[.int .i64 ra, .int .i64 rn, .int .i64 ri, .int .i64 rp, .int .i64 rk, .int .i64 rt] 60)
            have X : Lies (wr.alloc (.cells #[.int .i64 ra, .int .i64 rn, .int .i64 ri, .int .i64 rp, .int .i64 rk, .int .i64 rt] 60)) wr.heap.size [ra, rn, ri, rp, rk, rt] := Lies.new wr [ra, rn, ri, rp, rk, rt] 60 rfl
            obtain ⟨x0, x1, x2, x3, x4, x5⟩ := X.six
            have hBx := X.lt
            have y0 := (hb1.cell (p := ⟨b, o + q * 6, none⟩) hbr1).trans u0
            have y1 := (hb1.cell (p := ⟨b, o + q * 6 + 1, none⟩) hbr1).trans u1
            have y2 := (hb1.cell (p := ⟨b, o + q * 6 + 2, none⟩) hbr1).trans u2
            have y3 := (hb1.cell (p := ⟨b, o + q * 6 + 3, none⟩) hbr1).trans u3
            have y4 := (hb1.cell (p := ⟨b, o + q * 6 + 4, none⟩) hbr1).trans u4
            have y5 := (hb1.cell (p := ⟨b, o + q * 6 + 5, none⟩) hbr1).trans u5
            have hbb := Nat.lt_of_lt_of_le hbr1 hb1.size
            have hb2 := below_step hbr hb1
            obtain ⟨Bx, eB⟩ : ∃ b, wr.heap.size = b := ⟨_, rfl⟩
            rw [eB] at x0 x1 x2 x3 x4 x5 hBx ⊢
            generalize wr.alloc (.cells #[.int .i64 ra, .int .i64 rn, .int .i64 ri, .int .i64 rp, .int .i64 rk, .int .i64 rt] 60) = W at x0 x1 x2 x3 x4 x5 hBx hb2 y0 y1 y2 y3 y4 y5 hbb ⊢
            clear X eB hb1
            have S0 : Below W.heap.size W W.drew := (Below.refl _ _).drew
            refine wp_region_noPanic ?_
            refine wp_region_held_drew (S := fun w' => Below W.heap.size W w') (by kernel_rfl) S0 (fun hH => ?_)
            clear S0
            refine wpAnyH_take (i := 0) (oi := { dst := some 17, op := _, type := _, pos := _, after := _, guard := _ }) (v := ?_) rfl (by kernel_rfl) (by kernel_rfl) (by kernel_rfl) (fun _ _ _ h => h) (Or.inl ⟨by rfl, ?_⟩) hH ?_
            rotate_left
            · intro wz hSw
              (try dsimp only at hSw)
              have z0 := (hSw.cell (p := ⟨Bx, 0, none⟩) hBx).trans x0
              have z1 := (hSw.cell (p := ⟨Bx, 1, none⟩) hBx).trans x1
              have z2 := (hSw.cell (p := ⟨Bx, 2, none⟩) hBx).trans x2
              have z3 := (hSw.cell (p := ⟨Bx, 3, none⟩) hBx).trans x3
              have z4 := (hSw.cell (p := ⟨Bx, 4, none⟩) hBx).trans x4
              have z5 := (hSw.cell (p := ⟨Bx, 5, none⟩) hBx).trans x5
              first | (go_simp; done) | (go_simp; with_reducible rfl)
            try simp only [Act.put, List.setIfInBounds_toArray, List.set_cons_zero, List.set_cons_succ]
            refine wpAnyH_take (i := 1) (oi := { dst := some 18, op := _, type := _, pos := _, after := _, guard := _ }) (v := ?_) rfl (by kernel_rfl) (by kernel_rfl) (by kernel_rfl) (fun _ _ _ h => h) (Or.inl ⟨by rfl, ?_⟩) hH ?_
            rotate_left
            · intro wz hSw
              (try dsimp only at hSw)
              first | (go_simp; done) | (go_simp; with_reducible rfl)
            try simp only [Act.put, List.setIfInBounds_toArray, List.set_cons_zero, List.set_cons_succ]
            refine wpAnyH_take (i := 2) (oi := { dst := some 19, op := _, type := _, pos := _, after := _, guard := _ }) (v := ?_) rfl (by kernel_rfl) (by kernel_rfl) (by kernel_rfl) (fun _ _ _ h => h) (Or.inl ⟨by rfl, ?_⟩) hH ?_
            rotate_left
            · intro wz hSw
              (try dsimp only at hSw)
              first | (go_simp; done) | (go_simp; with_reducible rfl)
            try simp only [Act.put, List.setIfInBounds_toArray, List.set_cons_zero, List.set_cons_succ]
            refine wpAnyH_ready (rs := [3]) (by kernel_rfl) (by simp) ?_
            refine AllReadyH.cons (o := { dst := some 20, op := _, type := _, pos := _, after := _, guard := _ }) rfl (fun K hK => ?_) AllReadyH.nil
            go_simp
            refine (cF _).mono ?_
            rintro e wq3 ⟨rfl, hbq⟩
            go_wp2_with fail
            refine hK.out _ _ (kept_w hH hbq) (fun hH2 => ?_)
            clear hK K hH hbq
            have hH := hH2
            clear hH2
            try simp only [Act.put, List.setIfInBounds_toArray, List.set_cons_zero, List.set_cons_succ]
            refine wpAnyH_take (i := 4) (oi := { dst := some 21, op := _, type := _, pos := _, after := _, guard := _ }) (v := ?_) rfl (by kernel_rfl) (by kernel_rfl) (by kernel_rfl) (fun _ _ _ h => h) (Or.inl ⟨by rfl, ?_⟩) hH ?_
            rotate_left
            · intro wz hSw
              (try dsimp only at hSw)
              first | (go_simp; done) | (go_simp; with_reducible rfl)
            try simp only [Act.put, List.setIfInBounds_toArray, List.set_cons_zero, List.set_cons_succ]
            refine wpAnyH_take (i := 5) (oi := { dst := some 22, op := _, type := _, pos := _, after := _, guard := _ }) (v := ?_) rfl (by kernel_rfl) (by kernel_rfl) (by kernel_rfl) (fun _ _ _ h => h) (Or.inl ⟨by rfl, ?_⟩) hH ?_
            rotate_left
            · intro wz hSw
              (try dsimp only at hSw)
              first | (go_simp; done) | (go_simp; with_reducible rfl)
            try simp only [Act.put, List.setIfInBounds_toArray, List.set_cons_zero, List.set_cons_succ]
            refine wpAnyH_take (i := 6) (oi := { dst := some 23, op := _, type := _, pos := _, after := _, guard := _ }) (v := ?_) rfl (by kernel_rfl) (by kernel_rfl) (by kernel_rfl) (fun _ _ _ h => h) (Or.inl ⟨by rfl, ?_⟩) hH ?_
            rotate_left
            · intro wz hSw
              (try dsimp only at hSw)
              first | (go_simp; done) | (go_simp; with_reducible rfl)
            try simp only [Act.put, List.setIfInBounds_toArray, List.set_cons_zero, List.set_cons_succ]
            refine wpAnyH_take (i := 7) (oi := { dst := some 24, op := _, type := _, pos := _, after := _, guard := _ }) (v := ?_) rfl (by kernel_rfl) (by kernel_rfl) (by kernel_rfl) (fun _ _ _ h => h) (Or.inl ⟨by rfl, ?_⟩) hH ?_
            rotate_left
            · intro wz hSw
              (try dsimp only at hSw)
              first | (go_simp; done) | (go_simp; with_reducible rfl)
            try simp only [Act.put, List.setIfInBounds_toArray, List.set_cons_zero, List.set_cons_succ]
            refine wpAnyH_take (i := 8) (oi := { dst := some 25, op := _, type := _, pos := _, after := _, guard := _ }) (v := ?_) rfl (by kernel_rfl) (by kernel_rfl) (by kernel_rfl) (fun _ _ _ h => h) (Or.inl ⟨by rfl, ?_⟩) hH ?_
            rotate_left
            · intro wz hSw
              (try dsimp only at hSw)
              have z0 := (hSw.cell (p := ⟨Bx, 0, none⟩) hBx).trans x0
              have z1 := (hSw.cell (p := ⟨Bx, 1, none⟩) hBx).trans x1
              have z2 := (hSw.cell (p := ⟨Bx, 2, none⟩) hBx).trans x2
              have z3 := (hSw.cell (p := ⟨Bx, 3, none⟩) hBx).trans x3
              have z4 := (hSw.cell (p := ⟨Bx, 4, none⟩) hBx).trans x4
              have z5 := (hSw.cell (p := ⟨Bx, 5, none⟩) hBx).trans x5
              first | (go_simp; done) | (go_simp; with_reducible rfl)
            try simp only [Act.put, List.setIfInBounds_toArray, List.set_cons_zero, List.set_cons_succ]
            refine wpAnyH_take (i := 9) (oi := { dst := some 26, op := _, type := _, pos := _, after := _, guard := _ }) (v := ?_) rfl (by kernel_rfl) (by kernel_rfl) (by kernel_rfl) (fun _ _ _ h => h) (Or.inl ⟨by rfl, ?_⟩) hH ?_
            rotate_left
            · intro wz hSw
              (try dsimp only at hSw)
              first | (go_simp; done) | (go_simp; with_reducible rfl)
            try simp only [Act.put, List.setIfInBounds_toArray, List.set_cons_zero, List.set_cons_succ]
            refine wpAnyH_take (i := 10) (oi := { dst := some 27, op := _, type := _, pos := _, after := _, guard := _ }) (v := ?_) rfl (by kernel_rfl) (by kernel_rfl) (by kernel_rfl) (fun _ _ _ h => h) (Or.inl ⟨by rfl, ?_⟩) hH ?_
            rotate_left
            · intro wz hSw
              (try dsimp only at hSw)
              first | (go_simp; done) | (go_simp; with_reducible rfl)
            try simp only [Act.put, List.setIfInBounds_toArray, List.set_cons_zero, List.set_cons_succ]
            refine wpAnyH_take (i := 11) (oi := { dst := some 28, op := _, type := _, pos := _, after := _, guard := _ }) (v := ?_) rfl (by kernel_rfl) (by kernel_rfl) (by kernel_rfl) (fun _ _ _ h => h) (Or.inl ⟨by rfl, ?_⟩) hH ?_
            rotate_left
            · intro wz hSw
              (try dsimp only at hSw)
              first | (go_simp; done) | (go_simp; with_reducible rfl)
            try simp only [Act.put, List.setIfInBounds_toArray, List.set_cons_zero, List.set_cons_succ]
            refine wpAnyH_take (i := 12) (oi := { dst := some 29, op := _, type := _, pos := _, after := _, guard := _ }) (v := ?_) rfl (by kernel_rfl) (by kernel_rfl) (by kernel_rfl) (fun _ _ _ h => h) (Or.inl ⟨by rfl, ?_⟩) hH ?_
            rotate_left
            · intro wz hSw
              (try dsimp only at hSw)
              have z1 := (hSw.cell (p := ⟨b, o + q * 6 + 1, none⟩) hbb).trans y1
              have z2 := (hSw.cell (p := ⟨b, o + q * 6 + 2, none⟩) hbb).trans y2
              have z3 := (hSw.cell (p := ⟨b, o + q * 6 + 3, none⟩) hbb).trans y3
              have z4 := (hSw.cell (p := ⟨b, o + q * 6 + 4, none⟩) hbb).trans y4
              have z5 := (hSw.cell (p := ⟨b, o + q * 6 + 5, none⟩) hbb).trans y5
              have z0 := (hSw.cell (p := ⟨b, o + q * 6, none⟩) hbb).trans y0
              first | (go_simp; done) | (go_simp; with_reducible rfl)
            try simp only [Act.put, List.setIfInBounds_toArray, List.set_cons_zero, List.set_cons_succ]
            refine wpAnyH_ready (rs := [13]) (by kernel_rfl) (by simp) ?_
            refine AllReadyH.cons (o := { dst := some 30, op := _, type := _, pos := _, after := _, guard := _ }) rfl (fun K hK => ?_) AllReadyH.nil
            go_simp
            refine (cA _).mono ?_
            rintro e wq13 ⟨rfl, hbq⟩
            go_wp2_with fail
            refine hK.out _ _ (kept_w hH hbq) (fun hH2 => ?_)
            clear hK K hH hbq
            have hH := hH2
            clear hH2
            try simp only [Act.put, List.setIfInBounds_toArray, List.set_cons_zero, List.set_cons_succ]
            refine wpAnyH_take (i := 14) (oi := { dst := some 31, op := _, type := _, pos := _, after := _, guard := _ }) (v := ?_) rfl (by kernel_rfl) (by kernel_rfl) (by kernel_rfl) (fun _ _ _ h => h) (Or.inl ⟨by rfl, ?_⟩) hH ?_
            rotate_left
            · intro wz hSw
              (try dsimp only at hSw)
              first | (go_simp; done) | (go_simp; with_reducible rfl)
            try simp only [Act.put, List.setIfInBounds_toArray, List.set_cons_zero, List.set_cons_succ]
            refine wpAnyH_take (i := 15) (oi := { dst := some 32, op := _, type := _, pos := _, after := _, guard := _ }) (v := ?_) rfl (by kernel_rfl) (by kernel_rfl) (by kernel_rfl) (fun _ _ _ h => h) (Or.inl ⟨by rfl, ?_⟩) hH ?_
            rotate_left
            · intro wz hSw
              (try dsimp only at hSw)
              first | (go_simp; done) | (go_simp; with_reducible rfl)
            try simp only [Act.put, List.setIfInBounds_toArray, List.set_cons_zero, List.set_cons_succ]
            refine wpAnyH_done (by kernel_rfl) ?_ _
            refine NoPanic.normal ?_
            have hb3 := below_step hb2 hH
            go_wp2_with fail
            go_roundw
            case rel => exact ⟨k + 1, by omega, by go_num, by rw [N2.out], hb3⟩
            case measure => simp [intOf]; omega
    · obtain rfl : k = l.length := by omega
      go_wp2_with fail
      go_ret
      exact ⟨ret_int HF.out.symm, hbr⟩
end
end Go.Proofs.Ytihgpllbgliplaa
