/- What the code's Far and Edge answer. -/
import Derived.Test.YtihgpllbgliplaaTopOthers
namespace Go.Proofs.Ytihgpllbgliplaa
open Go.ChangeShapes Go.WideShapes Go.ChangeAt Go.RowKit Go.Maps Tp
set_option linter.unusedVariables false
set_option linter.unusedSimpArgs false

/-- the other end's numbers, or noughts -/
def other (o : Option En) : En := o.getD (0, 0)
/-- three cells of a boxed topology -/
theorem box3 (w : World) (u v x : Value) (t : TypeId) : (w.alloc (.cells #[u, v, x] t)).cell? ⟨w.heap.size, 0, none⟩ = some u ∧ (w.alloc (.cells #[u, v, x] t)).cell? ⟨w.heap.size, 1, none⟩ = some v ∧ (w.alloc (.cells #[u, v, x] t)).cell? ⟨w.heap.size, 2, none⟩ = some x := by
  exact ⟨by simp, by simp, by simp⟩
set_option maxRecDepth 100000 in
set_option maxHeartbeats 4000000 in
theorem far_any (s n : Int) (w : World) {a : Option Addr} {c : Nat} {l : List Lk} (R : Rds fK 4 w a c l) (hl : l.length ≤ 100) (x y : Int) (hwe : We (x, y)) :
    Calls Try.prog 32 #[.agg #[.int .i64 s, .int .i64 n, .slice a l.length c], .int .i64 x, .int .i64 y] w fun e w' => e = .returned (.tuple #[.int .i64 (other (far s n l (x, y))).1, .int .i64 (other (far s n l (x, y))).2, .bool (far s n l (x, y)).isSome]) ∧ Below w.heap.size w w' := by
  have hb1 := below_new w (.cells #[.int .i64 s, .int .i64 n, .slice a l.length c] 24)
  have hb2 := below_new (w.alloc (.cells #[.int .i64 s, .int .i64 n, .slice a l.length c] 24)) (.cells #[.int .i64 x, .int .i64 y] 78)
  have hB2 := below_step hb1 hb2
  have hB12 := hB2
  have cP := isPort_any s n a l.length c x y ((w.alloc (.cells #[.int .i64 s, .int .i64 n, .slice a l.length c] 24)).alloc (.cells #[.int .i64 x, .int .i64 y] 78))
  cases hp : isP s n (x, y) with
  | false =>
    rw [hp] at cP
    have hf : far s n l (x, y) = none := far_none hp
    rw [hf]
    dsimp only [other, Option.getD_none, Option.isSome_none]
    go_enter Try.func32, Try.ntmps32
    go_wp2_with fail
    refine cP.mono ?_
    clear cP
    rintro e w3 ⟨rfl, hb3⟩
    replace hB2 := below_step hB2 hb3
    go_wp2_with fail
    go_ret3
    exact ⟨rfl, hB2⟩
  | true =>
    rw [hp] at cP
    have hf : far s n l (x, y) = getE (ends l) (x, y) := far_port hp
    rw [hf]
    obtain ⟨t0, t1, t2⟩ := box3 w (.int .i64 s) (.int .i64 n) (.slice a l.length c) 24
    have hBT : w.heap.size < ((w.alloc (.cells #[.int .i64 s, .int .i64 n, .slice a l.length c] 24)).alloc (.cells #[.int .i64 x, .int .i64 y] 78)).heap.size := by simp; omega
    have X := Lies.new (w.alloc (.cells #[.int .i64 s, .int .i64 n, .slice a l.length c] 24)) [x, y] 78 (B := w.heap.size + 1) (by simp)
    obtain ⟨a0, a1⟩ := X.two
    have hBA := X.lt
    clear X
    replace t0 := (hb2.cell (p := ⟨w.heap.size, 0, none⟩) (by simp)).trans t0
    replace t1 := (hb2.cell (p := ⟨w.heap.size, 1, none⟩) (by simp)).trans t1
    replace t2 := (hb2.cell (p := ⟨w.heap.size, 2, none⟩) (by simp)).trans t2
    replace R := R.later hB2
    cases hg : getE (ends l) (x, y) with
    | none =>
      dsimp only [other, Option.getD_some, Option.getD_none, Option.isSome_some, Option.isSome_none]
      go_enter Try.func32, Try.ntmps32
      go_wp2_with fail
      refine cP.mono ?_
      clear cP
      rintro e W ⟨rfl, hb3⟩
      replace t0 := (hb3.cell (p := ⟨w.heap.size, 0, none⟩) hBT).trans t0
      replace t1 := (hb3.cell (p := ⟨w.heap.size, 1, none⟩) hBT).trans t1
      replace t2 := (hb3.cell (p := ⟨w.heap.size, 2, none⟩) hBT).trans t2
      replace a0 := (hb3.cell (p := ⟨w.heap.size + 1, 0, none⟩) hBA).trans a0
      replace a1 := (hb3.cell (p := ⟨w.heap.size + 1, 1, none⟩) hBA).trans a1
      replace hBT := Nat.lt_of_lt_of_le hBT hb3.size
      replace hBA := Nat.lt_of_lt_of_le hBA hb3.size
      replace R := R.later hb3
      replace hB2 := below_step hB2 hb3
      clear hb3 hb1 hb2 hB12
      have hwB : w.heap.size ≤ W.heap.size := hB2.size
      have eBT : w.heap.size = w.heap.size := rfl
      go_wp2_with fail
      have S0 : Below W.heap.size W W.drew := (Below.refl _ _).drew
      have RD := R.later S0
      clear R
      have R := RD
      clear RD
      refine wp_region_noPanic ?_
      refine wp_region_held_drew (S := fun w' => Below W.heap.size W w') (by kernel_rfl) S0 (fun hH => ?_)
      clear S0
      generalize W.drew = Wd at hH R ⊢
      refine wpAnyH_take (i := 0) (oi := { dst := some 20, op := _, type := _, pos := _, after := _, guard := _ }) (v := ?_) rfl (by kernel_rfl) (by kernel_rfl) (by kernel_rfl) (fun _ _ _ h => h) (Or.inl ⟨by rfl, ?_⟩) hH ?_
      rotate_left
      · intro wz hSw
        (try dsimp only at hSw)
        first | (go_simp; done) | (go_simp; with_reducible rfl)
      try simp only [Act.put, List.setIfInBounds_toArray, List.set_cons_zero, List.set_cons_succ]
      refine wpAnyH_take (i := 3) (oi := { dst := some 23, op := _, type := _, pos := _, after := _, guard := _ }) (v := ?_) rfl (by kernel_rfl) (by kernel_rfl) (by kernel_rfl) (fun _ _ _ h => h) (Or.inl ⟨by rfl, ?_⟩) hH ?_
      rotate_left
      · intro wz hSw
        (try dsimp only at hSw)
        have z0 := (hSw.cell (p := ⟨w.heap.size + 1, 0, none⟩) hBA).trans a0
        have z1 := (hSw.cell (p := ⟨w.heap.size + 1, 1, none⟩) hBA).trans a1
        first | (go_simp; done) | (go_simp; with_reducible rfl)
      try simp only [Act.put, List.setIfInBounds_toArray, List.set_cons_zero, List.set_cons_succ]
      refine wpAnyH_take (i := 1) (oi := { dst := some 21, op := _, type := _, pos := _, after := _, guard := _ }) (v := ?_) rfl (by kernel_rfl) (by kernel_rfl) (by kernel_rfl) (fun _ _ _ h => h) (Or.inl ⟨by rfl, ?_⟩) hH ?_
      rotate_left
      · intro wz hSw
        (try dsimp only at hSw)
        have z2 := (hSw.cell (p := ⟨w.heap.size, 2, none⟩) hBT).trans t2
        first | (go_simp; done) | (go_simp; with_reducible rfl)
      try simp only [Act.put, List.setIfInBounds_toArray, List.set_cons_zero, List.set_cons_succ]
      refine wpAnyH_ready (rs := [2, 8]) (by kernel_rfl) (by simp) ?_
      refine (AllReadyH.cons (o := { dst := some 22, op := _, type := _, pos := _, after := _, guard := _ }) rfl (fun K hK => ?_) (AllReadyH.cons (o := { dst := some 10, op := _, type := _, pos := _, after := _, guard := _ }) rfl (fun K hK => ?_) AllReadyH.nil))
      · go_simp
        refine (others_any _ R hl).mono ?_
        rintro e W2x0 ⟨rfl, M, hb⟩
        have hn : Below W.heap.size W W2x0 := below_step hH hb
        replace R := R.later hb
        clear hb
        go_wp2_with fail
        refine hK.out _ _ hn (fun hH2 => ?_)
        clear hK K hH hn
        have hH := hH2
        clear hH2
        try simp only [Act.put, List.setIfInBounds_toArray, List.set_cons_zero, List.set_cons_succ]
        refine wpAnyH_ready (rs := [4, 8]) (by kernel_rfl) (by simp) ?_
        refine (AllReadyH.cons (o := { dst := some 24, op := _, type := _, pos := _, after := _, guard := _ }) rfl (fun K hK => ?_) (AllReadyH.cons (o := { dst := some 10, op := _, type := _, pos := _, after := _, guard := _ }) rfl (fun K hK => ?_) AllReadyH.nil))
        · have hLk := M.look hwe
          rw [get_mapL, hg] at hLk
          dsimp only [arr, Option.getD_some, Option.getD_none, Option.isSome_some, Option.isSome_none] at hLk
          go_simp
          have hn := hH
          clear hLk
          refine hK.out _ _ hn (fun hH2 => ?_)
          clear hK K hH hn
          have hH := hH2
          clear hH2
          try simp only [Act.put, List.setIfInBounds_toArray, List.set_cons_zero, List.set_cons_succ]
          refine wpAnyH_take (i := 5) (oi := { dst := some 19, op := _, type := _, pos := _, after := _, guard := _ }) (v := ?_) rfl (by kernel_rfl) (by kernel_rfl) (by kernel_rfl) (fun _ _ _ h => h) (Or.inl ⟨by rfl, ?_⟩) hH ?_
          rotate_left
          · intro wz hSw
            (try dsimp only at hSw)
            first | (go_simp; done) | (go_simp; with_reducible rfl)
          try simp only [Act.put, List.setIfInBounds_toArray, List.set_cons_zero, List.set_cons_succ]
          refine wpAnyH_take (i := 6) (oi := { dst := some 25, op := _, type := _, pos := _, after := _, guard := _ }) (v := ?_) rfl (by kernel_rfl) (by kernel_rfl) (by kernel_rfl) (fun _ _ _ h => h) (Or.inl ⟨by rfl, ?_⟩) hH ?_
          rotate_left
          · intro wz hSw
            (try dsimp only at hSw)
            first | (go_simp; done) | (go_simp; with_reducible rfl)
          try simp only [Act.put, List.setIfInBounds_toArray, List.set_cons_zero, List.set_cons_succ]
          refine wpAnyH_take (i := 7) (oi := { dst := some 26, op := _, type := _, pos := _, after := _, guard := _ }) (v := ?_) rfl (by kernel_rfl) (by kernel_rfl) (by kernel_rfl) (fun _ _ _ h => h) (Or.inl ⟨by rfl, ?_⟩) hH ?_
          rotate_left
          · intro wz hSw
            (try dsimp only at hSw)
            first | (go_simp; done) | (go_simp; with_reducible rfl)
          try simp only [Act.put, List.setIfInBounds_toArray, List.set_cons_zero, List.set_cons_succ]
          refine wpAnyH_ready (rs := [8]) (by kernel_rfl) (by simp) ?_
          refine (AllReadyH.cons (o := { dst := some 10, op := _, type := _, pos := _, after := _, guard := _ }) rfl (fun K hK => ?_) AllReadyH.nil)
          go_simp
          have hb := below_new W2x0 (.cells #[.int .i64 0, .int .i64 0] 78)
          have hn : Below W.heap.size W (W2x0.alloc (.cells #[.int .i64 0, .int .i64 0] 78)) := below_step hH hb
          have eY : W.heap.size ≤ W2x0.heap.size := hH.size
          replace R := R.later hb
          replace M := M.later hb
          have Y : Lies (W2x0.alloc (.cells #[.int .i64 0, .int .i64 0] 78)) W2x0.heap.size [0, 0] := Lies.new W2x0 [0, 0] 78 rfl
          clear hb
          generalize W2x0.alloc (.cells #[.int .i64 0, .int .i64 0] 78) = W8x2 at hn Y R M ⊢
          generalize W2x0.heap.size = YB at Y eY  ⊢
          refine hK.out _ _ hn (fun hH2 => ?_)
          clear hK K hH hn
          have hH := hH2
          clear hH2
          try simp only [Act.put, List.setIfInBounds_toArray, List.set_cons_zero, List.set_cons_succ]
          refine wpAnyH_ready (rs := [9]) (by kernel_rfl) (by simp) ?_
          refine (AllReadyH.cons (o := { dst := none, op := _, type := _, pos := _, after := _, guard := _ }) rfl (fun K hK => ?_) AllReadyH.nil)
          obtain ⟨p0, p1⟩ := Y.two
          have pl := Y.lt
          have pf := Y.fz
          go_simp
          have hn : Below W.heap.size W ((W8x2.setCell ⟨YB, 0, none⟩ (.int .i64 0)).setCell ⟨YB, 1, none⟩ (.int .i64 0)) := below_put2 hH eY _ _
          have ZY := Y.put2 0 0
          clear Y p0 p1 pl pf
          clear R
          clear M
          generalize (W8x2.setCell ⟨YB, 0, none⟩ (.int .i64 0)).setCell ⟨YB, 1, none⟩ (.int .i64 0) = W9x3 at hn ZY ⊢
          have Y := ZY
          clear ZY
          refine hK.out _ _ hn (fun hH2 => ?_)
          clear hK K hH hn
          have hH := hH2
          clear hH2
          try simp only [Act.put, List.setIfInBounds_toArray, List.set_cons_zero, List.set_cons_succ]
          refine wpAnyH_take (i := 10) (oi := { dst := some 11, op := _, type := _, pos := _, after := _, guard := _ }) (v := ?_) rfl (by kernel_rfl) (by kernel_rfl) (by kernel_rfl) (fun _ _ _ h => h) (Or.inl ⟨by rfl, ?_⟩) hH ?_
          rotate_left
          · intro wz hSw
            (try dsimp only at hSw)
            first | (go_simp; done) | (go_simp; with_reducible rfl)
          try simp only [Act.put, List.setIfInBounds_toArray, List.set_cons_zero, List.set_cons_succ]
          refine wpAnyH_done (by kernel_rfl) ?_ _
          refine NoPanic.normal ?_
          have hB5 := below_step hB2 hH
          obtain ⟨y0, y1⟩ := Y.two
          have yl := Y.lt
          clear Y eY hH
          go_wp2_with fail
          go_quiet (fail)
          go_wp2_with fail
          go_ret3
          exact ⟨rfl, hB5.trans (below_draws _ _ _)⟩
        · go_simp
          have hb := below_new W2x0 (.cells #[.int .i64 0, .int .i64 0] 78)
          have hn : Below W.heap.size W (W2x0.alloc (.cells #[.int .i64 0, .int .i64 0] 78)) := below_step hH hb
          have eY : W.heap.size ≤ W2x0.heap.size := hH.size
          replace R := R.later hb
          replace M := M.later hb
          have Y : Lies (W2x0.alloc (.cells #[.int .i64 0, .int .i64 0] 78)) W2x0.heap.size [0, 0] := Lies.new W2x0 [0, 0] 78 rfl
          clear hb
          generalize W2x0.alloc (.cells #[.int .i64 0, .int .i64 0] 78) = W8x4 at hn Y R M ⊢
          generalize W2x0.heap.size = YB at Y eY  ⊢
          refine hK.out _ _ hn (fun hH2 => ?_)
          clear hK K hH hn
          have hH := hH2
          clear hH2
          try simp only [Act.put, List.setIfInBounds_toArray, List.set_cons_zero, List.set_cons_succ]
          refine wpAnyH_ready (rs := [4]) (by kernel_rfl) (by simp) ?_
          refine (AllReadyH.cons (o := { dst := some 24, op := _, type := _, pos := _, after := _, guard := _ }) rfl (fun K hK => ?_) AllReadyH.nil)
          have hLk := M.look hwe
          rw [get_mapL, hg] at hLk
          dsimp only [arr, Option.getD_some, Option.getD_none, Option.isSome_some, Option.isSome_none] at hLk
          go_simp
          have hn := hH
          clear hLk
          refine hK.out _ _ hn (fun hH2 => ?_)
          clear hK K hH hn
          have hH := hH2
          clear hH2
          try simp only [Act.put, List.setIfInBounds_toArray, List.set_cons_zero, List.set_cons_succ]
          refine wpAnyH_take (i := 5) (oi := { dst := some 19, op := _, type := _, pos := _, after := _, guard := _ }) (v := ?_) rfl (by kernel_rfl) (by kernel_rfl) (by kernel_rfl) (fun _ _ _ h => h) (Or.inl ⟨by rfl, ?_⟩) hH ?_
          rotate_left
          · intro wz hSw
            (try dsimp only at hSw)
            first | (go_simp; done) | (go_simp; with_reducible rfl)
          try simp only [Act.put, List.setIfInBounds_toArray, List.set_cons_zero, List.set_cons_succ]
          refine wpAnyH_take (i := 6) (oi := { dst := some 25, op := _, type := _, pos := _, after := _, guard := _ }) (v := ?_) rfl (by kernel_rfl) (by kernel_rfl) (by kernel_rfl) (fun _ _ _ h => h) (Or.inl ⟨by rfl, ?_⟩) hH ?_
          rotate_left
          · intro wz hSw
            (try dsimp only at hSw)
            first | (go_simp; done) | (go_simp; with_reducible rfl)
          try simp only [Act.put, List.setIfInBounds_toArray, List.set_cons_zero, List.set_cons_succ]
          refine wpAnyH_take (i := 7) (oi := { dst := some 26, op := _, type := _, pos := _, after := _, guard := _ }) (v := ?_) rfl (by kernel_rfl) (by kernel_rfl) (by kernel_rfl) (fun _ _ _ h => h) (Or.inl ⟨by rfl, ?_⟩) hH ?_
          rotate_left
          · intro wz hSw
            (try dsimp only at hSw)
            first | (go_simp; done) | (go_simp; with_reducible rfl)
          try simp only [Act.put, List.setIfInBounds_toArray, List.set_cons_zero, List.set_cons_succ]
          refine wpAnyH_ready (rs := [9]) (by kernel_rfl) (by simp) ?_
          refine (AllReadyH.cons (o := { dst := none, op := _, type := _, pos := _, after := _, guard := _ }) rfl (fun K hK => ?_) AllReadyH.nil)
          obtain ⟨p0, p1⟩ := Y.two
          have pl := Y.lt
          have pf := Y.fz
          go_simp
          have hn : Below W.heap.size W ((W8x4.setCell ⟨YB, 0, none⟩ (.int .i64 0)).setCell ⟨YB, 1, none⟩ (.int .i64 0)) := below_put2 hH eY _ _
          have ZY := Y.put2 0 0
          clear Y p0 p1 pl pf
          clear R
          clear M
          generalize (W8x4.setCell ⟨YB, 0, none⟩ (.int .i64 0)).setCell ⟨YB, 1, none⟩ (.int .i64 0) = W9x6 at hn ZY ⊢
          have Y := ZY
          clear ZY
          refine hK.out _ _ hn (fun hH2 => ?_)
          clear hK K hH hn
          have hH := hH2
          clear hH2
          try simp only [Act.put, List.setIfInBounds_toArray, List.set_cons_zero, List.set_cons_succ]
          refine wpAnyH_take (i := 10) (oi := { dst := some 11, op := _, type := _, pos := _, after := _, guard := _ }) (v := ?_) rfl (by kernel_rfl) (by kernel_rfl) (by kernel_rfl) (fun _ _ _ h => h) (Or.inl ⟨by rfl, ?_⟩) hH ?_
          rotate_left
          · intro wz hSw
            (try dsimp only at hSw)
            first | (go_simp; done) | (go_simp; with_reducible rfl)
          try simp only [Act.put, List.setIfInBounds_toArray, List.set_cons_zero, List.set_cons_succ]
          refine wpAnyH_done (by kernel_rfl) ?_ _
          refine NoPanic.normal ?_
          have hB5 := below_step hB2 hH
          obtain ⟨y0, y1⟩ := Y.two
          have yl := Y.lt
          clear Y eY hH
          go_wp2_with fail
          go_quiet (fail)
          go_wp2_with fail
          go_ret3
          exact ⟨rfl, hB5.trans (below_draws _ _ _)⟩
      · go_simp
        have hb := below_new Wd (.cells #[.int .i64 0, .int .i64 0] 78)
        have hn : Below W.heap.size W (Wd.alloc (.cells #[.int .i64 0, .int .i64 0] 78)) := below_step hH hb
        have eY : W.heap.size ≤ Wd.heap.size := hH.size
        replace R := R.later hb
        have Y : Lies (Wd.alloc (.cells #[.int .i64 0, .int .i64 0] 78)) Wd.heap.size [0, 0] := Lies.new Wd [0, 0] 78 rfl
        clear hb
        generalize Wd.alloc (.cells #[.int .i64 0, .int .i64 0] 78) = W8x7 at hn Y R ⊢
        generalize Wd.heap.size = YB at Y eY  ⊢
        refine hK.out _ _ hn (fun hH2 => ?_)
        clear hK K hH hn
        have hH := hH2
        clear hH2
        try simp only [Act.put, List.setIfInBounds_toArray, List.set_cons_zero, List.set_cons_succ]
        refine wpAnyH_ready (rs := [2]) (by kernel_rfl) (by simp) ?_
        refine (AllReadyH.cons (o := { dst := some 22, op := _, type := _, pos := _, after := _, guard := _ }) rfl (fun K hK => ?_) AllReadyH.nil)
        go_simp
        refine (others_any _ R hl).mono ?_
        rintro e W2x8 ⟨rfl, M, hb⟩
        have hn : Below W.heap.size W W2x8 := below_step hH hb
        replace R := R.later hb
        replace Y := Y.later hb
        clear hb
        go_wp2_with fail
        refine hK.out _ _ hn (fun hH2 => ?_)
        clear hK K hH hn
        have hH := hH2
        clear hH2
        try simp only [Act.put, List.setIfInBounds_toArray, List.set_cons_zero, List.set_cons_succ]
        refine wpAnyH_ready (rs := [4]) (by kernel_rfl) (by simp) ?_
        refine (AllReadyH.cons (o := { dst := some 24, op := _, type := _, pos := _, after := _, guard := _ }) rfl (fun K hK => ?_) AllReadyH.nil)
        have hLk := M.look hwe
        rw [get_mapL, hg] at hLk
        dsimp only [arr, Option.getD_some, Option.getD_none, Option.isSome_some, Option.isSome_none] at hLk
        go_simp
        have hn := hH
        clear hLk
        refine hK.out _ _ hn (fun hH2 => ?_)
        clear hK K hH hn
        have hH := hH2
        clear hH2
        try simp only [Act.put, List.setIfInBounds_toArray, List.set_cons_zero, List.set_cons_succ]
        refine wpAnyH_take (i := 5) (oi := { dst := some 19, op := _, type := _, pos := _, after := _, guard := _ }) (v := ?_) rfl (by kernel_rfl) (by kernel_rfl) (by kernel_rfl) (fun _ _ _ h => h) (Or.inl ⟨by rfl, ?_⟩) hH ?_
        rotate_left
        · intro wz hSw
          (try dsimp only at hSw)
          first | (go_simp; done) | (go_simp; with_reducible rfl)
        try simp only [Act.put, List.setIfInBounds_toArray, List.set_cons_zero, List.set_cons_succ]
        refine wpAnyH_take (i := 6) (oi := { dst := some 25, op := _, type := _, pos := _, after := _, guard := _ }) (v := ?_) rfl (by kernel_rfl) (by kernel_rfl) (by kernel_rfl) (fun _ _ _ h => h) (Or.inl ⟨by rfl, ?_⟩) hH ?_
        rotate_left
        · intro wz hSw
          (try dsimp only at hSw)
          first | (go_simp; done) | (go_simp; with_reducible rfl)
        try simp only [Act.put, List.setIfInBounds_toArray, List.set_cons_zero, List.set_cons_succ]
        refine wpAnyH_take (i := 7) (oi := { dst := some 26, op := _, type := _, pos := _, after := _, guard := _ }) (v := ?_) rfl (by kernel_rfl) (by kernel_rfl) (by kernel_rfl) (fun _ _ _ h => h) (Or.inl ⟨by rfl, ?_⟩) hH ?_
        rotate_left
        · intro wz hSw
          (try dsimp only at hSw)
          first | (go_simp; done) | (go_simp; with_reducible rfl)
        try simp only [Act.put, List.setIfInBounds_toArray, List.set_cons_zero, List.set_cons_succ]
        refine wpAnyH_ready (rs := [9]) (by kernel_rfl) (by simp) ?_
        refine (AllReadyH.cons (o := { dst := none, op := _, type := _, pos := _, after := _, guard := _ }) rfl (fun K hK => ?_) AllReadyH.nil)
        obtain ⟨p0, p1⟩ := Y.two
        have pl := Y.lt
        have pf := Y.fz
        go_simp
        have hn : Below W.heap.size W ((W2x8.setCell ⟨YB, 0, none⟩ (.int .i64 0)).setCell ⟨YB, 1, none⟩ (.int .i64 0)) := below_put2 hH eY _ _
        have ZY := Y.put2 0 0
        clear Y p0 p1 pl pf
        clear R
        clear M
        generalize (W2x8.setCell ⟨YB, 0, none⟩ (.int .i64 0)).setCell ⟨YB, 1, none⟩ (.int .i64 0) = W9x10 at hn ZY ⊢
        have Y := ZY
        clear ZY
        refine hK.out _ _ hn (fun hH2 => ?_)
        clear hK K hH hn
        have hH := hH2
        clear hH2
        try simp only [Act.put, List.setIfInBounds_toArray, List.set_cons_zero, List.set_cons_succ]
        refine wpAnyH_take (i := 10) (oi := { dst := some 11, op := _, type := _, pos := _, after := _, guard := _ }) (v := ?_) rfl (by kernel_rfl) (by kernel_rfl) (by kernel_rfl) (fun _ _ _ h => h) (Or.inl ⟨by rfl, ?_⟩) hH ?_
        rotate_left
        · intro wz hSw
          (try dsimp only at hSw)
          first | (go_simp; done) | (go_simp; with_reducible rfl)
        try simp only [Act.put, List.setIfInBounds_toArray, List.set_cons_zero, List.set_cons_succ]
        refine wpAnyH_done (by kernel_rfl) ?_ _
        refine NoPanic.normal ?_
        have hB5 := below_step hB2 hH
        obtain ⟨y0, y1⟩ := Y.two
        have yl := Y.lt
        clear Y eY hH
        go_wp2_with fail
        go_quiet (fail)
        go_wp2_with fail
        go_ret3
        exact ⟨rfl, hB5.trans (below_draws _ _ _)⟩
    | some o =>
      obtain ⟨o0, o1⟩ := o
      dsimp only [other, Option.getD_some, Option.getD_none, Option.isSome_some, Option.isSome_none]
      go_enter Try.func32, Try.ntmps32
      go_wp2_with fail
      refine cP.mono ?_
      clear cP
      rintro e W ⟨rfl, hb3⟩
      replace t0 := (hb3.cell (p := ⟨w.heap.size, 0, none⟩) hBT).trans t0
      replace t1 := (hb3.cell (p := ⟨w.heap.size, 1, none⟩) hBT).trans t1
      replace t2 := (hb3.cell (p := ⟨w.heap.size, 2, none⟩) hBT).trans t2
      replace a0 := (hb3.cell (p := ⟨w.heap.size + 1, 0, none⟩) hBA).trans a0
      replace a1 := (hb3.cell (p := ⟨w.heap.size + 1, 1, none⟩) hBA).trans a1
      replace hBT := Nat.lt_of_lt_of_le hBT hb3.size
      replace hBA := Nat.lt_of_lt_of_le hBA hb3.size
      replace R := R.later hb3
      replace hB2 := below_step hB2 hb3
      clear hb3 hb1 hb2 hB12
      have hwB : w.heap.size ≤ W.heap.size := hB2.size
      have eBT : w.heap.size = w.heap.size := rfl
      go_wp2_with fail
      have S0 : Below W.heap.size W W.drew := (Below.refl _ _).drew
      have RD := R.later S0
      clear R
      have R := RD
      clear RD
      refine wp_region_noPanic ?_
      refine wp_region_held_drew (S := fun w' => Below W.heap.size W w') (by kernel_rfl) S0 (fun hH => ?_)
      clear S0
      generalize W.drew = Wd at hH R ⊢
      refine wpAnyH_take (i := 0) (oi := { dst := some 20, op := _, type := _, pos := _, after := _, guard := _ }) (v := ?_) rfl (by kernel_rfl) (by kernel_rfl) (by kernel_rfl) (fun _ _ _ h => h) (Or.inl ⟨by rfl, ?_⟩) hH ?_
      rotate_left
      · intro wz hSw
        (try dsimp only at hSw)
        first | (go_simp; done) | (go_simp; with_reducible rfl)
      try simp only [Act.put, List.setIfInBounds_toArray, List.set_cons_zero, List.set_cons_succ]
      refine wpAnyH_take (i := 3) (oi := { dst := some 23, op := _, type := _, pos := _, after := _, guard := _ }) (v := ?_) rfl (by kernel_rfl) (by kernel_rfl) (by kernel_rfl) (fun _ _ _ h => h) (Or.inl ⟨by rfl, ?_⟩) hH ?_
      rotate_left
      · intro wz hSw
        (try dsimp only at hSw)
        have z0 := (hSw.cell (p := ⟨w.heap.size + 1, 0, none⟩) hBA).trans a0
        have z1 := (hSw.cell (p := ⟨w.heap.size + 1, 1, none⟩) hBA).trans a1
        first | (go_simp; done) | (go_simp; with_reducible rfl)
      try simp only [Act.put, List.setIfInBounds_toArray, List.set_cons_zero, List.set_cons_succ]
      refine wpAnyH_take (i := 1) (oi := { dst := some 21, op := _, type := _, pos := _, after := _, guard := _ }) (v := ?_) rfl (by kernel_rfl) (by kernel_rfl) (by kernel_rfl) (fun _ _ _ h => h) (Or.inl ⟨by rfl, ?_⟩) hH ?_
      rotate_left
      · intro wz hSw
        (try dsimp only at hSw)
        have z2 := (hSw.cell (p := ⟨w.heap.size, 2, none⟩) hBT).trans t2
        first | (go_simp; done) | (go_simp; with_reducible rfl)
      try simp only [Act.put, List.setIfInBounds_toArray, List.set_cons_zero, List.set_cons_succ]
      refine wpAnyH_ready (rs := [2, 8]) (by kernel_rfl) (by simp) ?_
      refine (AllReadyH.cons (o := { dst := some 22, op := _, type := _, pos := _, after := _, guard := _ }) rfl (fun K hK => ?_) (AllReadyH.cons (o := { dst := some 10, op := _, type := _, pos := _, after := _, guard := _ }) rfl (fun K hK => ?_) AllReadyH.nil))
      · go_simp
        refine (others_any _ R hl).mono ?_
        rintro e W2x0 ⟨rfl, M, hb⟩
        have hn : Below W.heap.size W W2x0 := below_step hH hb
        replace R := R.later hb
        clear hb
        go_wp2_with fail
        refine hK.out _ _ hn (fun hH2 => ?_)
        clear hK K hH hn
        have hH := hH2
        clear hH2
        try simp only [Act.put, List.setIfInBounds_toArray, List.set_cons_zero, List.set_cons_succ]
        refine wpAnyH_ready (rs := [4, 8]) (by kernel_rfl) (by simp) ?_
        refine (AllReadyH.cons (o := { dst := some 24, op := _, type := _, pos := _, after := _, guard := _ }) rfl (fun K hK => ?_) (AllReadyH.cons (o := { dst := some 10, op := _, type := _, pos := _, after := _, guard := _ }) rfl (fun K hK => ?_) AllReadyH.nil))
        · have hLk := M.look hwe
          rw [get_mapL, hg] at hLk
          dsimp only [arr, Option.getD_some, Option.getD_none, Option.isSome_some, Option.isSome_none] at hLk
          go_simp
          have hn := hH
          clear hLk
          refine hK.out _ _ hn (fun hH2 => ?_)
          clear hK K hH hn
          have hH := hH2
          clear hH2
          try simp only [Act.put, List.setIfInBounds_toArray, List.set_cons_zero, List.set_cons_succ]
          refine wpAnyH_take (i := 5) (oi := { dst := some 19, op := _, type := _, pos := _, after := _, guard := _ }) (v := ?_) rfl (by kernel_rfl) (by kernel_rfl) (by kernel_rfl) (fun _ _ _ h => h) (Or.inl ⟨by rfl, ?_⟩) hH ?_
          rotate_left
          · intro wz hSw
            (try dsimp only at hSw)
            first | (go_simp; done) | (go_simp; with_reducible rfl)
          try simp only [Act.put, List.setIfInBounds_toArray, List.set_cons_zero, List.set_cons_succ]
          refine wpAnyH_take (i := 6) (oi := { dst := some 25, op := _, type := _, pos := _, after := _, guard := _ }) (v := ?_) rfl (by kernel_rfl) (by kernel_rfl) (by kernel_rfl) (fun _ _ _ h => h) (Or.inl ⟨by rfl, ?_⟩) hH ?_
          rotate_left
          · intro wz hSw
            (try dsimp only at hSw)
            first | (go_simp; done) | (go_simp; with_reducible rfl)
          try simp only [Act.put, List.setIfInBounds_toArray, List.set_cons_zero, List.set_cons_succ]
          refine wpAnyH_take (i := 7) (oi := { dst := some 26, op := _, type := _, pos := _, after := _, guard := _ }) (v := ?_) rfl (by kernel_rfl) (by kernel_rfl) (by kernel_rfl) (fun _ _ _ h => h) (Or.inl ⟨by rfl, ?_⟩) hH ?_
          rotate_left
          · intro wz hSw
            (try dsimp only at hSw)
            first | (go_simp; done) | (go_simp; with_reducible rfl)
          try simp only [Act.put, List.setIfInBounds_toArray, List.set_cons_zero, List.set_cons_succ]
          refine wpAnyH_ready (rs := [8]) (by kernel_rfl) (by simp) ?_
          refine (AllReadyH.cons (o := { dst := some 10, op := _, type := _, pos := _, after := _, guard := _ }) rfl (fun K hK => ?_) AllReadyH.nil)
          go_simp
          have hb := below_new W2x0 (.cells #[.int .i64 0, .int .i64 0] 78)
          have hn : Below W.heap.size W (W2x0.alloc (.cells #[.int .i64 0, .int .i64 0] 78)) := below_step hH hb
          have eY : W.heap.size ≤ W2x0.heap.size := hH.size
          replace R := R.later hb
          replace M := M.later hb
          have Y : Lies (W2x0.alloc (.cells #[.int .i64 0, .int .i64 0] 78)) W2x0.heap.size [0, 0] := Lies.new W2x0 [0, 0] 78 rfl
          clear hb
          generalize W2x0.alloc (.cells #[.int .i64 0, .int .i64 0] 78) = W8x2 at hn Y R M ⊢
          generalize W2x0.heap.size = YB at Y eY  ⊢
          refine hK.out _ _ hn (fun hH2 => ?_)
          clear hK K hH hn
          have hH := hH2
          clear hH2
          try simp only [Act.put, List.setIfInBounds_toArray, List.set_cons_zero, List.set_cons_succ]
          refine wpAnyH_ready (rs := [9]) (by kernel_rfl) (by simp) ?_
          refine (AllReadyH.cons (o := { dst := none, op := _, type := _, pos := _, after := _, guard := _ }) rfl (fun K hK => ?_) AllReadyH.nil)
          obtain ⟨p0, p1⟩ := Y.two
          have pl := Y.lt
          have pf := Y.fz
          go_simp
          have hn : Below W.heap.size W ((W8x2.setCell ⟨YB, 0, none⟩ (.int .i64 o0)).setCell ⟨YB, 1, none⟩ (.int .i64 o1)) := below_put2 hH eY _ _
          have ZY := Y.put2 o0 o1
          clear Y p0 p1 pl pf
          clear R
          clear M
          generalize (W8x2.setCell ⟨YB, 0, none⟩ (.int .i64 o0)).setCell ⟨YB, 1, none⟩ (.int .i64 o1) = W9x3 at hn ZY ⊢
          have Y := ZY
          clear ZY
          refine hK.out _ _ hn (fun hH2 => ?_)
          clear hK K hH hn
          have hH := hH2
          clear hH2
          try simp only [Act.put, List.setIfInBounds_toArray, List.set_cons_zero, List.set_cons_succ]
          refine wpAnyH_take (i := 10) (oi := { dst := some 11, op := _, type := _, pos := _, after := _, guard := _ }) (v := ?_) rfl (by kernel_rfl) (by kernel_rfl) (by kernel_rfl) (fun _ _ _ h => h) (Or.inl ⟨by rfl, ?_⟩) hH ?_
          rotate_left
          · intro wz hSw
            (try dsimp only at hSw)
            first | (go_simp; done) | (go_simp; with_reducible rfl)
          try simp only [Act.put, List.setIfInBounds_toArray, List.set_cons_zero, List.set_cons_succ]
          refine wpAnyH_done (by kernel_rfl) ?_ _
          refine NoPanic.normal ?_
          have hB5 := below_step hB2 hH
          obtain ⟨y0, y1⟩ := Y.two
          have yl := Y.lt
          clear Y eY hH
          go_wp2_with fail
          go_quiet (fail)
          go_wp2_with fail
          go_ret3
          exact ⟨rfl, hB5.trans (below_draws _ _ _)⟩
        · go_simp
          have hb := below_new W2x0 (.cells #[.int .i64 0, .int .i64 0] 78)
          have hn : Below W.heap.size W (W2x0.alloc (.cells #[.int .i64 0, .int .i64 0] 78)) := below_step hH hb
          have eY : W.heap.size ≤ W2x0.heap.size := hH.size
          replace R := R.later hb
          replace M := M.later hb
          have Y : Lies (W2x0.alloc (.cells #[.int .i64 0, .int .i64 0] 78)) W2x0.heap.size [0, 0] := Lies.new W2x0 [0, 0] 78 rfl
          clear hb
          generalize W2x0.alloc (.cells #[.int .i64 0, .int .i64 0] 78) = W8x4 at hn Y R M ⊢
          generalize W2x0.heap.size = YB at Y eY  ⊢
          refine hK.out _ _ hn (fun hH2 => ?_)
          clear hK K hH hn
          have hH := hH2
          clear hH2
          try simp only [Act.put, List.setIfInBounds_toArray, List.set_cons_zero, List.set_cons_succ]
          refine wpAnyH_ready (rs := [4]) (by kernel_rfl) (by simp) ?_
          refine (AllReadyH.cons (o := { dst := some 24, op := _, type := _, pos := _, after := _, guard := _ }) rfl (fun K hK => ?_) AllReadyH.nil)
          have hLk := M.look hwe
          rw [get_mapL, hg] at hLk
          dsimp only [arr, Option.getD_some, Option.getD_none, Option.isSome_some, Option.isSome_none] at hLk
          go_simp
          have hn := hH
          clear hLk
          refine hK.out _ _ hn (fun hH2 => ?_)
          clear hK K hH hn
          have hH := hH2
          clear hH2
          try simp only [Act.put, List.setIfInBounds_toArray, List.set_cons_zero, List.set_cons_succ]
          refine wpAnyH_take (i := 5) (oi := { dst := some 19, op := _, type := _, pos := _, after := _, guard := _ }) (v := ?_) rfl (by kernel_rfl) (by kernel_rfl) (by kernel_rfl) (fun _ _ _ h => h) (Or.inl ⟨by rfl, ?_⟩) hH ?_
          rotate_left
          · intro wz hSw
            (try dsimp only at hSw)
            first | (go_simp; done) | (go_simp; with_reducible rfl)
          try simp only [Act.put, List.setIfInBounds_toArray, List.set_cons_zero, List.set_cons_succ]
          refine wpAnyH_take (i := 6) (oi := { dst := some 25, op := _, type := _, pos := _, after := _, guard := _ }) (v := ?_) rfl (by kernel_rfl) (by kernel_rfl) (by kernel_rfl) (fun _ _ _ h => h) (Or.inl ⟨by rfl, ?_⟩) hH ?_
          rotate_left
          · intro wz hSw
            (try dsimp only at hSw)
            first | (go_simp; done) | (go_simp; with_reducible rfl)
          try simp only [Act.put, List.setIfInBounds_toArray, List.set_cons_zero, List.set_cons_succ]
          refine wpAnyH_take (i := 7) (oi := { dst := some 26, op := _, type := _, pos := _, after := _, guard := _ }) (v := ?_) rfl (by kernel_rfl) (by kernel_rfl) (by kernel_rfl) (fun _ _ _ h => h) (Or.inl ⟨by rfl, ?_⟩) hH ?_
          rotate_left
          · intro wz hSw
            (try dsimp only at hSw)
            first | (go_simp; done) | (go_simp; with_reducible rfl)
          try simp only [Act.put, List.setIfInBounds_toArray, List.set_cons_zero, List.set_cons_succ]
          refine wpAnyH_ready (rs := [9]) (by kernel_rfl) (by simp) ?_
          refine (AllReadyH.cons (o := { dst := none, op := _, type := _, pos := _, after := _, guard := _ }) rfl (fun K hK => ?_) AllReadyH.nil)
          obtain ⟨p0, p1⟩ := Y.two
          have pl := Y.lt
          have pf := Y.fz
          go_simp
          have hn : Below W.heap.size W ((W8x4.setCell ⟨YB, 0, none⟩ (.int .i64 o0)).setCell ⟨YB, 1, none⟩ (.int .i64 o1)) := below_put2 hH eY _ _
          have ZY := Y.put2 o0 o1
          clear Y p0 p1 pl pf
          clear R
          clear M
          generalize (W8x4.setCell ⟨YB, 0, none⟩ (.int .i64 o0)).setCell ⟨YB, 1, none⟩ (.int .i64 o1) = W9x6 at hn ZY ⊢
          have Y := ZY
          clear ZY
          refine hK.out _ _ hn (fun hH2 => ?_)
          clear hK K hH hn
          have hH := hH2
          clear hH2
          try simp only [Act.put, List.setIfInBounds_toArray, List.set_cons_zero, List.set_cons_succ]
          refine wpAnyH_take (i := 10) (oi := { dst := some 11, op := _, type := _, pos := _, after := _, guard := _ }) (v := ?_) rfl (by kernel_rfl) (by kernel_rfl) (by kernel_rfl) (fun _ _ _ h => h) (Or.inl ⟨by rfl, ?_⟩) hH ?_
          rotate_left
          · intro wz hSw
            (try dsimp only at hSw)
            first | (go_simp; done) | (go_simp; with_reducible rfl)
          try simp only [Act.put, List.setIfInBounds_toArray, List.set_cons_zero, List.set_cons_succ]
          refine wpAnyH_done (by kernel_rfl) ?_ _
          refine NoPanic.normal ?_
          have hB5 := below_step hB2 hH
          obtain ⟨y0, y1⟩ := Y.two
          have yl := Y.lt
          clear Y eY hH
          go_wp2_with fail
          go_quiet (fail)
          go_wp2_with fail
          go_ret3
          exact ⟨rfl, hB5.trans (below_draws _ _ _)⟩
      · go_simp
        have hb := below_new Wd (.cells #[.int .i64 0, .int .i64 0] 78)
        have hn : Below W.heap.size W (Wd.alloc (.cells #[.int .i64 0, .int .i64 0] 78)) := below_step hH hb
        have eY : W.heap.size ≤ Wd.heap.size := hH.size
        replace R := R.later hb
        have Y : Lies (Wd.alloc (.cells #[.int .i64 0, .int .i64 0] 78)) Wd.heap.size [0, 0] := Lies.new Wd [0, 0] 78 rfl
        clear hb
        generalize Wd.alloc (.cells #[.int .i64 0, .int .i64 0] 78) = W8x7 at hn Y R ⊢
        generalize Wd.heap.size = YB at Y eY  ⊢
        refine hK.out _ _ hn (fun hH2 => ?_)
        clear hK K hH hn
        have hH := hH2
        clear hH2
        try simp only [Act.put, List.setIfInBounds_toArray, List.set_cons_zero, List.set_cons_succ]
        refine wpAnyH_ready (rs := [2]) (by kernel_rfl) (by simp) ?_
        refine (AllReadyH.cons (o := { dst := some 22, op := _, type := _, pos := _, after := _, guard := _ }) rfl (fun K hK => ?_) AllReadyH.nil)
        go_simp
        refine (others_any _ R hl).mono ?_
        rintro e W2x8 ⟨rfl, M, hb⟩
        have hn : Below W.heap.size W W2x8 := below_step hH hb
        replace R := R.later hb
        replace Y := Y.later hb
        clear hb
        go_wp2_with fail
        refine hK.out _ _ hn (fun hH2 => ?_)
        clear hK K hH hn
        have hH := hH2
        clear hH2
        try simp only [Act.put, List.setIfInBounds_toArray, List.set_cons_zero, List.set_cons_succ]
        refine wpAnyH_ready (rs := [4]) (by kernel_rfl) (by simp) ?_
        refine (AllReadyH.cons (o := { dst := some 24, op := _, type := _, pos := _, after := _, guard := _ }) rfl (fun K hK => ?_) AllReadyH.nil)
        have hLk := M.look hwe
        rw [get_mapL, hg] at hLk
        dsimp only [arr, Option.getD_some, Option.getD_none, Option.isSome_some, Option.isSome_none] at hLk
        go_simp
        have hn := hH
        clear hLk
        refine hK.out _ _ hn (fun hH2 => ?_)
        clear hK K hH hn
        have hH := hH2
        clear hH2
        try simp only [Act.put, List.setIfInBounds_toArray, List.set_cons_zero, List.set_cons_succ]
        refine wpAnyH_take (i := 5) (oi := { dst := some 19, op := _, type := _, pos := _, after := _, guard := _ }) (v := ?_) rfl (by kernel_rfl) (by kernel_rfl) (by kernel_rfl) (fun _ _ _ h => h) (Or.inl ⟨by rfl, ?_⟩) hH ?_
        rotate_left
        · intro wz hSw
          (try dsimp only at hSw)
          first | (go_simp; done) | (go_simp; with_reducible rfl)
        try simp only [Act.put, List.setIfInBounds_toArray, List.set_cons_zero, List.set_cons_succ]
        refine wpAnyH_take (i := 6) (oi := { dst := some 25, op := _, type := _, pos := _, after := _, guard := _ }) (v := ?_) rfl (by kernel_rfl) (by kernel_rfl) (by kernel_rfl) (fun _ _ _ h => h) (Or.inl ⟨by rfl, ?_⟩) hH ?_
        rotate_left
        · intro wz hSw
          (try dsimp only at hSw)
          first | (go_simp; done) | (go_simp; with_reducible rfl)
        try simp only [Act.put, List.setIfInBounds_toArray, List.set_cons_zero, List.set_cons_succ]
        refine wpAnyH_take (i := 7) (oi := { dst := some 26, op := _, type := _, pos := _, after := _, guard := _ }) (v := ?_) rfl (by kernel_rfl) (by kernel_rfl) (by kernel_rfl) (fun _ _ _ h => h) (Or.inl ⟨by rfl, ?_⟩) hH ?_
        rotate_left
        · intro wz hSw
          (try dsimp only at hSw)
          first | (go_simp; done) | (go_simp; with_reducible rfl)
        try simp only [Act.put, List.setIfInBounds_toArray, List.set_cons_zero, List.set_cons_succ]
        refine wpAnyH_ready (rs := [9]) (by kernel_rfl) (by simp) ?_
        refine (AllReadyH.cons (o := { dst := none, op := _, type := _, pos := _, after := _, guard := _ }) rfl (fun K hK => ?_) AllReadyH.nil)
        obtain ⟨p0, p1⟩ := Y.two
        have pl := Y.lt
        have pf := Y.fz
        go_simp
        have hn : Below W.heap.size W ((W2x8.setCell ⟨YB, 0, none⟩ (.int .i64 o0)).setCell ⟨YB, 1, none⟩ (.int .i64 o1)) := below_put2 hH eY _ _
        have ZY := Y.put2 o0 o1
        clear Y p0 p1 pl pf
        clear R
        clear M
        generalize (W2x8.setCell ⟨YB, 0, none⟩ (.int .i64 o0)).setCell ⟨YB, 1, none⟩ (.int .i64 o1) = W9x10 at hn ZY ⊢
        have Y := ZY
        clear ZY
        refine hK.out _ _ hn (fun hH2 => ?_)
        clear hK K hH hn
        have hH := hH2
        clear hH2
        try simp only [Act.put, List.setIfInBounds_toArray, List.set_cons_zero, List.set_cons_succ]
        refine wpAnyH_take (i := 10) (oi := { dst := some 11, op := _, type := _, pos := _, after := _, guard := _ }) (v := ?_) rfl (by kernel_rfl) (by kernel_rfl) (by kernel_rfl) (fun _ _ _ h => h) (Or.inl ⟨by rfl, ?_⟩) hH ?_
        rotate_left
        · intro wz hSw
          (try dsimp only at hSw)
          first | (go_simp; done) | (go_simp; with_reducible rfl)
        try simp only [Act.put, List.setIfInBounds_toArray, List.set_cons_zero, List.set_cons_succ]
        refine wpAnyH_done (by kernel_rfl) ?_ _
        refine NoPanic.normal ?_
        have hB5 := below_step hB2 hH
        obtain ⟨y0, y1⟩ := Y.two
        have yl := Y.lt
        clear Y eY hH
        go_wp2_with fail
        go_quiet (fail)
        go_wp2_with fail
        go_ret3
        exact ⟨rfl, hB5.trans (below_draws _ _ _)⟩
end Go.Proofs.Ytihgpllbgliplaa
