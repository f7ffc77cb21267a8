/- How the code compares two rules by their numbers. -/
import Derived.Test.YtihgpllbgliplaaQuiets
import Derived.Test.YtihgpllbgliplaaRuleAhead
import Derived.Test.YtihgpllbgliplaaMaths
namespace Go.Proofs.Ytihgpllbgliplaa
open Go.ChangeShapes Go.WideShapes Go.ChangeAt Go.RowKit Pk R
set_option linter.unusedVariables false
set_option linter.unusedSimpArgs false

set_option maxHeartbeats 1000000 in
theorem or_any (x y z u : Int) (w : World) {a : Option Addr} {c : Nat} (R : Reads .i64 w a c [x, y, z, u]) :
    Calls Try.prog 60 #[.slice a 4 c] w fun e w' => e = .returned (.int .i64 (or4 x y z u)) ∧ w' = w := by
  obtain ⟨b, o, rfl, lt, hc⟩ := reads_at R (by simp)
  have y0 := hc 0 x rfl
  have y1 := hc 1 y rfl
  have y2 := hc 2 z rfl
  have y3 := hc 3 u rfl
  rw [Nat.add_zero] at y0
  clear hc R
  by_cases hx : x = 0
  · subst hx
    by_cases hy : y = 0
    · subst hy
      by_cases hz : z = 0
      · subst hz
        by_cases hu : u = 0
        · subst hu
          go_enter Try.func60, Try.ntmps60
          go_wp2
          refine wp_loop_rounds 5 ?_
          rw [rounds_succ]; go_wp2
          rw [rounds_succ]; go_wp2
          rw [rounds_succ]; go_wp2
          rw [rounds_succ]; go_wp2
          rw [rounds_succ]; go_wp2
          go_ret
          exact ⟨rfl, rfl⟩
        · have HE : Hid (or4 0 0 0 u = u) := rfl
          go_enter Try.func60, Try.ntmps60
          go_wp2
          refine wp_loop_rounds 5 ?_
          rw [rounds_succ]; go_wp2
          rw [rounds_succ]; go_wp2
          rw [rounds_succ]; go_wp2
          rw [rounds_succ]; go_wp2
          go_ret
          exact ⟨ret_int HE.out.symm, rfl⟩
      · have HE : Hid (or4 0 0 z u = z) := by unfold Hid or4; rw [if_pos rfl, if_pos rfl, if_neg hz]
        go_enter Try.func60, Try.ntmps60
        go_wp2
        refine wp_loop_rounds 5 ?_
        rw [rounds_succ]; go_wp2
        rw [rounds_succ]; go_wp2
        rw [rounds_succ]; go_wp2
        go_ret
        exact ⟨ret_int HE.out.symm, rfl⟩
    · have HE : Hid (or4 0 y z u = y) := by unfold Hid or4; rw [if_pos rfl, if_neg hy]
      go_enter Try.func60, Try.ntmps60
      go_wp2
      refine wp_loop_rounds 5 ?_
      rw [rounds_succ]; go_wp2
      rw [rounds_succ]; go_wp2
      go_ret
      exact ⟨ret_int HE.out.symm, rfl⟩
  · have HE : Hid (or4 x y z u = x) := by unfold Hid or4; rw [if_neg hx]
    go_enter Try.func60, Try.ntmps60
    go_wp2
    refine wp_loop_rounds 5 ?_
    rw [rounds_succ]; go_wp2
    go_ret
    exact ⟨ret_int HE.out.symm, rfl⟩
theorem or_new (x y z u : Int) (W : World) {B : Nat} (hB : W.heap.size = B) (hx : (Lit.int .i64 x).wf = true) (hy : (Lit.int .i64 y).wf = true) (hz : (Lit.int .i64 z).wf = true) (hu : (Lit.int .i64 u).wf = true) :
    Calls Try.prog 60 #[.slice (some ⟨B, 0, none⟩) 4 4] (W.alloc (.cells #[.int .i64 x, .int .i64 y, .int .i64 z, .int .i64 u] 3)).drew fun e w' => e = .returned (.int .i64 (or4 x y z u)) ∧ w' = (W.alloc (.cells #[.int .i64 x, .int .i64 y, .int .i64 z, .int .i64 u] 3)).drew := by
  have hwf : ∀ v ∈ [x, y, z, u], (Lit.int .i64 v).wf = true := by
    intro v hv
    simp only [List.mem_cons, List.not_mem_nil, or_false] at hv
    rcases hv with rfl | rfl | rfl | rfl <;> assumption
  exact or_any x y z u _ ((reads_new64 W [x, y, z, u] hwf (by simp) hB rfl).later (Below.refl _ _).drew)
theorem keptC {w w' w2 : World} {P Q : Nat} {ra rk rt sa sk st : Int} (h : Below w.heap.size w w' ∧ P < w'.heap.size ∧ Q < w'.heap.size ∧ w'.cell? ⟨P, 0, none⟩ = some (.int .i64 ra) ∧ w'.cell? ⟨P, 4, none⟩ = some (.int .i64 rk) ∧ w'.cell? ⟨P, 5, none⟩ = some (.int .i64 rt) ∧ w'.cell? ⟨Q, 0, none⟩ = some (.int .i64 sa) ∧ w'.cell? ⟨Q, 4, none⟩ = some (.int .i64 sk) ∧ w'.cell? ⟨Q, 5, none⟩ = some (.int .i64 st)) (hb : Below w'.heap.size w' w2) : Below w.heap.size w w2 ∧ P < w2.heap.size ∧ Q < w2.heap.size ∧ w2.cell? ⟨P, 0, none⟩ = some (.int .i64 ra) ∧ w2.cell? ⟨P, 4, none⟩ = some (.int .i64 rk) ∧ w2.cell? ⟨P, 5, none⟩ = some (.int .i64 rt) ∧ w2.cell? ⟨Q, 0, none⟩ = some (.int .i64 sa) ∧ w2.cell? ⟨Q, 4, none⟩ = some (.int .i64 sk) ∧ w2.cell? ⟨Q, 5, none⟩ = some (.int .i64 st) := by
  obtain ⟨h0, h1, h2, c1, c2, c3, d1, d2, d3⟩ := h
  exact ⟨below_step h0 hb, Nat.lt_of_lt_of_le h1 hb.size, Nat.lt_of_lt_of_le h2 hb.size, (hb.cell (p := ⟨P, 0, none⟩) h1).trans c1, (hb.cell (p := ⟨P, 4, none⟩) h1).trans c2, (hb.cell (p := ⟨P, 5, none⟩) h1).trans c3,
    (hb.cell (p := ⟨Q, 0, none⟩) h2).trans d1, (hb.cell (p := ⟨Q, 4, none⟩) h2).trans d2, (hb.cell (p := ⟨Q, 5, none⟩) h2).trans d3⟩
set_option maxHeartbeats 4000000 in
theorem comp_0 (w : World) {b o c N x y : Nat} (hbb : b < w.heap.size) (hN : N ≤ 9223372036854775807) (hx2 : (x : Int) < (N : Int)) (hy2 : (y : Int) < (N : Int)) {ra rn ri rp rk rt sa sn si sp sk st : Int} (hab : ahB rn rp ri sn sp si = true)
    (hcx : ∀ j v, [ra, rn, ri, rp, rk, rt][j]? = some v → w.cell? ⟨b, o + x * 6 + j, none⟩ = some (.int .i64 v)) (hcy : ∀ j v, [sa, sn, si, sp, sk, st][j]? = some v → w.cell? ⟨b, o + y * 6 + j, none⟩ = some (.int .i64 v)) :
    Calls Try.prog 50 #[.slice (some ⟨b, o, none⟩) N c, .int .i64 (x : Nat), .int .i64 (y : Nat)] w fun e w' => e = .returned (.int .i64 (-1)) ∧ Below w.heap.size w w' := by
  obtain ⟨res, HE⟩ : ∃ r, Hid ((-1 : Int) = r) := ⟨_, rfl⟩
  rw [show (-1 : Int) = res from HE]
  have x0 := hcx 0 _ rfl
  have x1 := hcx 1 _ rfl
  have x2 := hcx 2 _ rfl
  have x3 := hcx 3 _ rfl
  have x4 := hcx 4 _ rfl
  have x5 := hcx 5 _ rfl
  have y0 := hcy 0 _ rfl
  have y1 := hcy 1 _ rfl
  have y2 := hcy 2 _ rfl
  have y3 := hcy 3 _ rfl
  have y4 := hcy 4 _ rfl
  have y5 := hcy 5 _ rfl
  rw [Nat.add_zero] at x0 y0
  clear hcx hcy
  go_enter Try.func50, Try.ntmps50
  go_wp2_with fail
  go_region
  · skip
    clear x0 x1 x2 x3 x4 x5 y0 y1 y2 y3 y4 y5
    have hbW : Below w.heap.size w (((w.alloc (.cells #[.int .i64 ra, .int .i64 rn, .int .i64 ri, .int .i64 rp, .int .i64 rk, .int .i64 rt] 60)).alloc (.cells #[.int .i64 sa, .int .i64 sn, .int .i64 si, .int .i64 sp, .int .i64 sk, .int .i64 st] 60)).drew) := (below_step (below_new _ _) (below_new _ _)).drew
    have XA : Lies (((w.alloc (.cells #[.int .i64 ra, .int .i64 rn, .int .i64 ri, .int .i64 rp, .int .i64 rk, .int .i64 rt] 60)).alloc (.cells #[.int .i64 sa, .int .i64 sn, .int .i64 si, .int .i64 sp, .int .i64 sk, .int .i64 st] 60)).drew) (w.heap.size) [ra, rn, ri, rp, rk, rt] := ((Lies.new w [ra, rn, ri, rp, rk, rt] 60 rfl).later (below_new _ _)).later (Below.refl _ _).drew
    have XB : Lies (((w.alloc (.cells #[.int .i64 ra, .int .i64 rn, .int .i64 ri, .int .i64 rp, .int .i64 rk, .int .i64 rt] 60)).alloc (.cells #[.int .i64 sa, .int .i64 sn, .int .i64 si, .int .i64 sp, .int .i64 sk, .int .i64 st] 60)).drew) (w.heap.size + 1) [sa, sn, si, sp, sk, st] := (Lies.new (w.alloc (.cells #[.int .i64 ra, .int .i64 rn, .int .i64 ri, .int .i64 rp, .int .i64 rk, .int .i64 rt] 60)) [sa, sn, si, sp, sk, st] 60 (B := w.heap.size + 1) (by simp)).later (Below.refl _ _).drew
    generalize ((w.alloc (.cells #[.int .i64 ra, .int .i64 rn, .int .i64 ri, .int .i64 rp, .int .i64 rk, .int .i64 rt] 60)).alloc (.cells #[.int .i64 sa, .int .i64 sn, .int .i64 si, .int .i64 sp, .int .i64 sk, .int .i64 st] 60)).drew = W at hbW XA XB ⊢
    obtain ⟨a0, a1, a2, a3, a4, a5⟩ := XA.six
    obtain ⟨b0, b1, b2, b3, b4, b5⟩ := XB.six
    have cA := fun u => ruAhead_any ra rn ri rp rk rt sa sn si sp sk st u
    rw [hab] at cA
    go_wp2_with fail
    refine (cA _).mono ?_
    rintro e w2 ⟨rfl, hb2⟩
    go_wp2_with fail
    go_ret
    exact ⟨ret_int HE.out, below_step hbW hb2⟩
  · skip
    clear x0 x1 x2 x3 x4 x5 y0 y1 y2 y3 y4 y5
    have hbW : Below w.heap.size w (((w.alloc (.cells #[.int .i64 sa, .int .i64 sn, .int .i64 si, .int .i64 sp, .int .i64 sk, .int .i64 st] 60)).alloc (.cells #[.int .i64 ra, .int .i64 rn, .int .i64 ri, .int .i64 rp, .int .i64 rk, .int .i64 rt] 60)).drew) := (below_step (below_new _ _) (below_new _ _)).drew
    have XB : Lies (((w.alloc (.cells #[.int .i64 sa, .int .i64 sn, .int .i64 si, .int .i64 sp, .int .i64 sk, .int .i64 st] 60)).alloc (.cells #[.int .i64 ra, .int .i64 rn, .int .i64 ri, .int .i64 rp, .int .i64 rk, .int .i64 rt] 60)).drew) (w.heap.size) [sa, sn, si, sp, sk, st] := ((Lies.new w [sa, sn, si, sp, sk, st] 60 rfl).later (below_new _ _)).later (Below.refl _ _).drew
    have XA : Lies (((w.alloc (.cells #[.int .i64 sa, .int .i64 sn, .int .i64 si, .int .i64 sp, .int .i64 sk, .int .i64 st] 60)).alloc (.cells #[.int .i64 ra, .int .i64 rn, .int .i64 ri, .int .i64 rp, .int .i64 rk, .int .i64 rt] 60)).drew) (w.heap.size + 1) [ra, rn, ri, rp, rk, rt] := (Lies.new (w.alloc (.cells #[.int .i64 sa, .int .i64 sn, .int .i64 si, .int .i64 sp, .int .i64 sk, .int .i64 st] 60)) [ra, rn, ri, rp, rk, rt] 60 (B := w.heap.size + 1) (by simp)).later (Below.refl _ _).drew
    generalize ((w.alloc (.cells #[.int .i64 sa, .int .i64 sn, .int .i64 si, .int .i64 sp, .int .i64 sk, .int .i64 st] 60)).alloc (.cells #[.int .i64 ra, .int .i64 rn, .int .i64 ri, .int .i64 rp, .int .i64 rk, .int .i64 rt] 60)).drew = W at hbW XA XB ⊢
    obtain ⟨a0, a1, a2, a3, a4, a5⟩ := XA.six
    obtain ⟨b0, b1, b2, b3, b4, b5⟩ := XB.six
    have cA := fun u => ruAhead_any ra rn ri rp rk rt sa sn si sp sk st u
    rw [hab] at cA
    go_wp2_with fail
    refine (cA _).mono ?_
    rintro e w2 ⟨rfl, hb2⟩
    go_wp2_with fail
    go_ret
    exact ⟨ret_int HE.out, below_step hbW hb2⟩
set_option maxHeartbeats 4000000 in
theorem comp_1 (w : World) {b o c N x y : Nat} (hbb : b < w.heap.size) (hN : N ≤ 9223372036854775807) (hx2 : (x : Int) < (N : Int)) (hy2 : (y : Int) < (N : Int)) {ra rn ri rp rk rt sa sn si sp sk st : Int} (hab : ahB rn rp ri sn sp si = false) (hba : ahB sn sp si rn rp ri = true)
    (hcx : ∀ j v, [ra, rn, ri, rp, rk, rt][j]? = some v → w.cell? ⟨b, o + x * 6 + j, none⟩ = some (.int .i64 v)) (hcy : ∀ j v, [sa, sn, si, sp, sk, st][j]? = some v → w.cell? ⟨b, o + y * 6 + j, none⟩ = some (.int .i64 v)) :
    Calls Try.prog 50 #[.slice (some ⟨b, o, none⟩) N c, .int .i64 (x : Nat), .int .i64 (y : Nat)] w fun e w' => e = .returned (.int .i64 (1)) ∧ Below w.heap.size w w' := by
  obtain ⟨res, HE⟩ : ∃ r, Hid ((1 : Int) = r) := ⟨_, rfl⟩
  rw [show (1 : Int) = res from HE]
  have x0 := hcx 0 _ rfl
  have x1 := hcx 1 _ rfl
  have x2 := hcx 2 _ rfl
  have x3 := hcx 3 _ rfl
  have x4 := hcx 4 _ rfl
  have x5 := hcx 5 _ rfl
  have y0 := hcy 0 _ rfl
  have y1 := hcy 1 _ rfl
  have y2 := hcy 2 _ rfl
  have y3 := hcy 3 _ rfl
  have y4 := hcy 4 _ rfl
  have y5 := hcy 5 _ rfl
  rw [Nat.add_zero] at x0 y0
  clear hcx hcy
  go_enter Try.func50, Try.ntmps50
  go_wp2_with fail
  go_region
  · skip
    clear x0 x1 x2 x3 x4 x5 y0 y1 y2 y3 y4 y5
    have hbW : Below w.heap.size w (((w.alloc (.cells #[.int .i64 ra, .int .i64 rn, .int .i64 ri, .int .i64 rp, .int .i64 rk, .int .i64 rt] 60)).alloc (.cells #[.int .i64 sa, .int .i64 sn, .int .i64 si, .int .i64 sp, .int .i64 sk, .int .i64 st] 60)).drew) := (below_step (below_new _ _) (below_new _ _)).drew
    have XA : Lies (((w.alloc (.cells #[.int .i64 ra, .int .i64 rn, .int .i64 ri, .int .i64 rp, .int .i64 rk, .int .i64 rt] 60)).alloc (.cells #[.int .i64 sa, .int .i64 sn, .int .i64 si, .int .i64 sp, .int .i64 sk, .int .i64 st] 60)).drew) (w.heap.size) [ra, rn, ri, rp, rk, rt] := ((Lies.new w [ra, rn, ri, rp, rk, rt] 60 rfl).later (below_new _ _)).later (Below.refl _ _).drew
    have XB : Lies (((w.alloc (.cells #[.int .i64 ra, .int .i64 rn, .int .i64 ri, .int .i64 rp, .int .i64 rk, .int .i64 rt] 60)).alloc (.cells #[.int .i64 sa, .int .i64 sn, .int .i64 si, .int .i64 sp, .int .i64 sk, .int .i64 st] 60)).drew) (w.heap.size + 1) [sa, sn, si, sp, sk, st] := (Lies.new (w.alloc (.cells #[.int .i64 ra, .int .i64 rn, .int .i64 ri, .int .i64 rp, .int .i64 rk, .int .i64 rt] 60)) [sa, sn, si, sp, sk, st] 60 (B := w.heap.size + 1) (by simp)).later (Below.refl _ _).drew
    generalize ((w.alloc (.cells #[.int .i64 ra, .int .i64 rn, .int .i64 ri, .int .i64 rp, .int .i64 rk, .int .i64 rt] 60)).alloc (.cells #[.int .i64 sa, .int .i64 sn, .int .i64 si, .int .i64 sp, .int .i64 sk, .int .i64 st] 60)).drew = W at hbW XA XB ⊢
    obtain ⟨a0, a1, a2, a3, a4, a5⟩ := XA.six
    obtain ⟨b0, b1, b2, b3, b4, b5⟩ := XB.six
    have cA := fun u => ruAhead_any ra rn ri rp rk rt sa sn si sp sk st u
    have cB := fun u => ruAhead_any sa sn si sp sk st ra rn ri rp rk rt u
    rw [hab] at cA
    rw [hba] at cB
    go_wp2_with fail
    refine (cA _).mono ?_
    rintro e w2 ⟨rfl, hb2⟩
    clear a0 a1 a2 a3 a4 a5 b0 b1 b2 b3 b4 b5
    obtain ⟨a0, a1, a2, a3, a4, a5⟩ := (XA.later hb2).six
    obtain ⟨b0, b1, b2, b3, b4, b5⟩ := (XB.later hb2).six
    go_wp2_with fail
    refine (cB _).mono ?_
    rintro e w3 ⟨rfl, hb3⟩
    go_wp2_with fail
    go_ret
    exact ⟨ret_int HE.out, below_step (below_step hbW hb2) hb3⟩
  · skip
    clear x0 x1 x2 x3 x4 x5 y0 y1 y2 y3 y4 y5
    have hbW : Below w.heap.size w (((w.alloc (.cells #[.int .i64 sa, .int .i64 sn, .int .i64 si, .int .i64 sp, .int .i64 sk, .int .i64 st] 60)).alloc (.cells #[.int .i64 ra, .int .i64 rn, .int .i64 ri, .int .i64 rp, .int .i64 rk, .int .i64 rt] 60)).drew) := (below_step (below_new _ _) (below_new _ _)).drew
    have XB : Lies (((w.alloc (.cells #[.int .i64 sa, .int .i64 sn, .int .i64 si, .int .i64 sp, .int .i64 sk, .int .i64 st] 60)).alloc (.cells #[.int .i64 ra, .int .i64 rn, .int .i64 ri, .int .i64 rp, .int .i64 rk, .int .i64 rt] 60)).drew) (w.heap.size) [sa, sn, si, sp, sk, st] := ((Lies.new w [sa, sn, si, sp, sk, st] 60 rfl).later (below_new _ _)).later (Below.refl _ _).drew
    have XA : Lies (((w.alloc (.cells #[.int .i64 sa, .int .i64 sn, .int .i64 si, .int .i64 sp, .int .i64 sk, .int .i64 st] 60)).alloc (.cells #[.int .i64 ra, .int .i64 rn, .int .i64 ri, .int .i64 rp, .int .i64 rk, .int .i64 rt] 60)).drew) (w.heap.size + 1) [ra, rn, ri, rp, rk, rt] := (Lies.new (w.alloc (.cells #[.int .i64 sa, .int .i64 sn, .int .i64 si, .int .i64 sp, .int .i64 sk, .int .i64 st] 60)) [ra, rn, ri, rp, rk, rt] 60 (B := w.heap.size + 1) (by simp)).later (Below.refl _ _).drew
    generalize ((w.alloc (.cells #[.int .i64 sa, .int .i64 sn, .int .i64 si, .int .i64 sp, .int .i64 sk, .int .i64 st] 60)).alloc (.cells #[.int .i64 ra, .int .i64 rn, .int .i64 ri, .int .i64 rp, .int .i64 rk, .int .i64 rt] 60)).drew = W at hbW XA XB ⊢
    obtain ⟨a0, a1, a2, a3, a4, a5⟩ := XA.six
    obtain ⟨b0, b1, b2, b3, b4, b5⟩ := XB.six
    have cA := fun u => ruAhead_any ra rn ri rp rk rt sa sn si sp sk st u
    have cB := fun u => ruAhead_any sa sn si sp sk st ra rn ri rp rk rt u
    rw [hab] at cA
    rw [hba] at cB
    go_wp2_with fail
    refine (cA _).mono ?_
    rintro e w2 ⟨rfl, hb2⟩
    clear a0 a1 a2 a3 a4 a5 b0 b1 b2 b3 b4 b5
    obtain ⟨a0, a1, a2, a3, a4, a5⟩ := (XA.later hb2).six
    obtain ⟨b0, b1, b2, b3, b4, b5⟩ := (XB.later hb2).six
    go_wp2_with fail
    refine (cB _).mono ?_
    rintro e w3 ⟨rfl, hb3⟩
    go_wp2_with fail
    go_ret
    exact ⟨ret_int HE.out, below_step (below_step hbW hb2) hb3⟩
set_option maxHeartbeats 4000000 in
theorem comp_2 (w : World) {b o c N x y : Nat} (hbb : b < w.heap.size) (hN : N ≤ 9223372036854775807) (hx2 : (x : Int) < (N : Int)) (hy2 : (y : Int) < (N : Int)) {ra rn ri rp rk rt sa sn si sp sk st : Int} (hab : ahB rn rp ri sn sp si = false) (hba : ahB sn sp si rn rp ri = false)
    (hcx : ∀ j v, [ra, rn, ri, rp, rk, rt][j]? = some v → w.cell? ⟨b, o + x * 6 + j, none⟩ = some (.int .i64 v)) (hcy : ∀ j v, [sa, sn, si, sp, sk, st][j]? = some v → w.cell? ⟨b, o + y * 6 + j, none⟩ = some (.int .i64 v)) :
    Calls Try.prog 50 #[.slice (some ⟨b, o, none⟩) N c, .int .i64 (x : Nat), .int .i64 (y : Nat)] w fun e w' => e = .returned (.int .i64 (or4 (cmpI ra sa) (cmpI rk sk) (cmpI rt st) (cmpI x y))) ∧ Below w.heap.size w w' := by
  obtain ⟨res, HE⟩ : ∃ r, Hid ((or4 (cmpI ra sa) (cmpI rk sk) (cmpI rt st) (cmpI x y) : Int) = r) := ⟨_, rfl⟩
  rw [show (or4 (cmpI ra sa) (cmpI rk sk) (cmpI rt st) (cmpI x y) : Int) = res from HE]
  have x0 := hcx 0 _ rfl
  have x1 := hcx 1 _ rfl
  have x2 := hcx 2 _ rfl
  have x3 := hcx 3 _ rfl
  have x4 := hcx 4 _ rfl
  have x5 := hcx 5 _ rfl
  have y0 := hcy 0 _ rfl
  have y1 := hcy 1 _ rfl
  have y2 := hcy 2 _ rfl
  have y3 := hcy 3 _ rfl
  have y4 := hcy 4 _ rfl
  have y5 := hcy 5 _ rfl
  rw [Nat.add_zero] at x0 y0
  clear hcx hcy
  go_enter Try.func50, Try.ntmps50
  go_wp2_with fail
  go_region
  · skip
    clear x0 x1 x2 x3 x4 x5 y0 y1 y2 y3 y4 y5
    have hbW : Below w.heap.size w (((w.alloc (.cells #[.int .i64 ra, .int .i64 rn, .int .i64 ri, .int .i64 rp, .int .i64 rk, .int .i64 rt] 60)).alloc (.cells #[.int .i64 sa, .int .i64 sn, .int .i64 si, .int .i64 sp, .int .i64 sk, .int .i64 st] 60)).drew) := (below_step (below_new _ _) (below_new _ _)).drew
    have XA : Lies (((w.alloc (.cells #[.int .i64 ra, .int .i64 rn, .int .i64 ri, .int .i64 rp, .int .i64 rk, .int .i64 rt] 60)).alloc (.cells #[.int .i64 sa, .int .i64 sn, .int .i64 si, .int .i64 sp, .int .i64 sk, .int .i64 st] 60)).drew) (w.heap.size) [ra, rn, ri, rp, rk, rt] := ((Lies.new w [ra, rn, ri, rp, rk, rt] 60 rfl).later (below_new _ _)).later (Below.refl _ _).drew
    have XB : Lies (((w.alloc (.cells #[.int .i64 ra, .int .i64 rn, .int .i64 ri, .int .i64 rp, .int .i64 rk, .int .i64 rt] 60)).alloc (.cells #[.int .i64 sa, .int .i64 sn, .int .i64 si, .int .i64 sp, .int .i64 sk, .int .i64 st] 60)).drew) (w.heap.size + 1) [sa, sn, si, sp, sk, st] := (Lies.new (w.alloc (.cells #[.int .i64 ra, .int .i64 rn, .int .i64 ri, .int .i64 rp, .int .i64 rk, .int .i64 rt] 60)) [sa, sn, si, sp, sk, st] 60 (B := w.heap.size + 1) (by simp)).later (Below.refl _ _).drew
    generalize ((w.alloc (.cells #[.int .i64 ra, .int .i64 rn, .int .i64 ri, .int .i64 rp, .int .i64 rk, .int .i64 rt] 60)).alloc (.cells #[.int .i64 sa, .int .i64 sn, .int .i64 si, .int .i64 sp, .int .i64 sk, .int .i64 st] 60)).drew = W at hbW XA XB ⊢
    obtain ⟨a0, a1, a2, a3, a4, a5⟩ := XA.six
    obtain ⟨b0, b1, b2, b3, b4, b5⟩ := XB.six
    have cA := fun u => ruAhead_any ra rn ri rp rk rt sa sn si sp sk st u
    have cB := fun u => ruAhead_any sa sn si sp sk st ra rn ri rp rk rt u
    rw [hab] at cA
    rw [hba] at cB
    go_wp2_with fail
    refine (cA _).mono ?_
    rintro e w2 ⟨rfl, hb2⟩
    clear a0 a1 a2 a3 a4 a5 b0 b1 b2 b3 b4 b5
    obtain ⟨a0, a1, a2, a3, a4, a5⟩ := (XA.later hb2).six
    obtain ⟨b0, b1, b2, b3, b4, b5⟩ := (XB.later hb2).six
    go_wp2_with fail
    refine (cB _).mono ?_
    rintro e w3 ⟨rfl, hb3⟩
    clear a0 a1 a2 a3 a4 a5 b0 b1 b2 b3 b4 b5
    have YA := (XA.later hb2).later hb3
    have YB := (XB.later hb2).later hb3
    have hb4 := below_step (below_step hbW hb2) hb3
    obtain ⟨a0, a1, a2, a3, a4, a5⟩ := YA.six
    obtain ⟨b0, b1, b2, b3, b4, b5⟩ := YB.six
    have S0 : Below w.heap.size w w3.drew ∧ w.heap.size < w3.drew.heap.size ∧ w.heap.size + 1 < w3.drew.heap.size ∧ w3.drew.cell? ⟨w.heap.size, 0, none⟩ = some (.int .i64 ra) ∧ w3.drew.cell? ⟨w.heap.size, 4, none⟩ = some (.int .i64 rk) ∧ w3.drew.cell? ⟨w.heap.size, 5, none⟩ = some (.int .i64 rt) ∧ w3.drew.cell? ⟨w.heap.size + 1, 0, none⟩ = some (.int .i64 sa) ∧ w3.drew.cell? ⟨w.heap.size + 1, 4, none⟩ = some (.int .i64 sk) ∧ w3.drew.cell? ⟨w.heap.size + 1, 5, none⟩ = some (.int .i64 st) := ⟨hb4.drew, YA.lt, YB.lt, a0, a4, a5, b0, b4, b5⟩
    clear a0 a1 a2 a3 a4 a5 b0 b1 b2 b3 b4 b5 YA YB XA XB cA cB
    go_wp2_with fail
    go_region_held3 (fun w' => Below w.heap.size w w' ∧ w.heap.size < w'.heap.size ∧ w.heap.size + 1 < w'.heap.size ∧ w'.cell? ⟨w.heap.size, 0, none⟩ = some (.int .i64 ra) ∧ w'.cell? ⟨w.heap.size, 4, none⟩ = some (.int .i64 rk) ∧ w'.cell? ⟨w.heap.size, 5, none⟩ = some (.int .i64 rt) ∧ w'.cell? ⟨w.heap.size + 1, 0, none⟩ = some (.int .i64 sa) ∧ w'.cell? ⟨w.heap.size + 1, 4, none⟩ = some (.int .i64 sk) ∧ w'.cell? ⟨w.heap.size + 1, 5, none⟩ = some (.int .i64 st))
      (first | assumption | exact keptC (by assumption) (below_new _ _))
      (first | (go_at_call 53; refine (compare_any _ _ _).mono ?_; rintro e w' ⟨rfl, rfl⟩) | (go_at_call 60; refine (or_new _ _ _ _ _ (by simp) (cmp_wf _ _) (cmp_wf _ _) (cmp_wf _ _) (cmp_wf _ _)).mono ?_; rintro e w' ⟨rfl, rfl⟩))
    go_wp2_with fail
    go_ret
    exact ⟨ret_int HE.out, below_step hb4 (below_new _ _).drew⟩
  · skip
    clear x0 x1 x2 x3 x4 x5 y0 y1 y2 y3 y4 y5
    have hbW : Below w.heap.size w (((w.alloc (.cells #[.int .i64 sa, .int .i64 sn, .int .i64 si, .int .i64 sp, .int .i64 sk, .int .i64 st] 60)).alloc (.cells #[.int .i64 ra, .int .i64 rn, .int .i64 ri, .int .i64 rp, .int .i64 rk, .int .i64 rt] 60)).drew) := (below_step (below_new _ _) (below_new _ _)).drew
    have XB : Lies (((w.alloc (.cells #[.int .i64 sa, .int .i64 sn, .int .i64 si, .int .i64 sp, .int .i64 sk, .int .i64 st] 60)).alloc (.cells #[.int .i64 ra, .int .i64 rn, .int .i64 ri, .int .i64 rp, .int .i64 rk, .int .i64 rt] 60)).drew) (w.heap.size) [sa, sn, si, sp, sk, st] := ((Lies.new w [sa, sn, si, sp, sk, st] 60 rfl).later (below_new _ _)).later (Below.refl _ _).drew
    have XA : Lies (((w.alloc (.cells #[.int .i64 sa, .int .i64 sn, .int .i64 si, .int .i64 sp, .int .i64 sk, .int .i64 st] 60)).alloc (.cells #[.int .i64 ra, .int .i64 rn, .int .i64 ri, .int .i64 rp, .int .i64 rk, .int .i64 rt] 60)).drew) (w.heap.size + 1) [ra, rn, ri, rp, rk, rt] := (Lies.new (w.alloc (.cells #[.int .i64 sa, .int .i64 sn, .int .i64 si, .int .i64 sp, .int .i64 sk, .int .i64 st] 60)) [ra, rn, ri, rp, rk, rt] 60 (B := w.heap.size + 1) (by simp)).later (Below.refl _ _).drew
    generalize ((w.alloc (.cells #[.int .i64 sa, .int .i64 sn, .int .i64 si, .int .i64 sp, .int .i64 sk, .int .i64 st] 60)).alloc (.cells #[.int .i64 ra, .int .i64 rn, .int .i64 ri, .int .i64 rp, .int .i64 rk, .int .i64 rt] 60)).drew = W at hbW XA XB ⊢
    obtain ⟨a0, a1, a2, a3, a4, a5⟩ := XA.six
    obtain ⟨b0, b1, b2, b3, b4, b5⟩ := XB.six
    have cA := fun u => ruAhead_any ra rn ri rp rk rt sa sn si sp sk st u
    have cB := fun u => ruAhead_any sa sn si sp sk st ra rn ri rp rk rt u
    rw [hab] at cA
    rw [hba] at cB
    go_wp2_with fail
    refine (cA _).mono ?_
    rintro e w2 ⟨rfl, hb2⟩
    clear a0 a1 a2 a3 a4 a5 b0 b1 b2 b3 b4 b5
    obtain ⟨a0, a1, a2, a3, a4, a5⟩ := (XA.later hb2).six
    obtain ⟨b0, b1, b2, b3, b4, b5⟩ := (XB.later hb2).six
    go_wp2_with fail
    refine (cB _).mono ?_
    rintro e w3 ⟨rfl, hb3⟩
    clear a0 a1 a2 a3 a4 a5 b0 b1 b2 b3 b4 b5
    have YA := (XA.later hb2).later hb3
    have YB := (XB.later hb2).later hb3
    have hb4 := below_step (below_step hbW hb2) hb3
    obtain ⟨a0, a1, a2, a3, a4, a5⟩ := YA.six
    obtain ⟨b0, b1, b2, b3, b4, b5⟩ := YB.six
    have S0 : Below w.heap.size w w3.drew ∧ w.heap.size + 1 < w3.drew.heap.size ∧ w.heap.size < w3.drew.heap.size ∧ w3.drew.cell? ⟨w.heap.size + 1, 0, none⟩ = some (.int .i64 ra) ∧ w3.drew.cell? ⟨w.heap.size + 1, 4, none⟩ = some (.int .i64 rk) ∧ w3.drew.cell? ⟨w.heap.size + 1, 5, none⟩ = some (.int .i64 rt) ∧ w3.drew.cell? ⟨w.heap.size, 0, none⟩ = some (.int .i64 sa) ∧ w3.drew.cell? ⟨w.heap.size, 4, none⟩ = some (.int .i64 sk) ∧ w3.drew.cell? ⟨w.heap.size, 5, none⟩ = some (.int .i64 st) := ⟨hb4.drew, YA.lt, YB.lt, a0, a4, a5, b0, b4, b5⟩
    clear a0 a1 a2 a3 a4 a5 b0 b1 b2 b3 b4 b5 YA YB XA XB cA cB
    go_wp2_with fail
    go_region_held3 (fun w' => Below w.heap.size w w' ∧ w.heap.size + 1 < w'.heap.size ∧ w.heap.size < w'.heap.size ∧ w'.cell? ⟨w.heap.size + 1, 0, none⟩ = some (.int .i64 ra) ∧ w'.cell? ⟨w.heap.size + 1, 4, none⟩ = some (.int .i64 rk) ∧ w'.cell? ⟨w.heap.size + 1, 5, none⟩ = some (.int .i64 rt) ∧ w'.cell? ⟨w.heap.size, 0, none⟩ = some (.int .i64 sa) ∧ w'.cell? ⟨w.heap.size, 4, none⟩ = some (.int .i64 sk) ∧ w'.cell? ⟨w.heap.size, 5, none⟩ = some (.int .i64 st))
      (first | assumption | exact keptC (by assumption) (below_new _ _))
      (first | (go_at_call 53; refine (compare_any _ _ _).mono ?_; rintro e w' ⟨rfl, rfl⟩) | (go_at_call 60; refine (or_new _ _ _ _ _ (by simp) (cmp_wf _ _) (cmp_wf _ _) (cmp_wf _ _) (cmp_wf _ _)).mono ?_; rintro e w' ⟨rfl, rfl⟩))
    go_wp2_with fail
    go_ret
    exact ⟨ret_int HE.out, below_step hb4 (below_new _ _).drew⟩
theorem comp_any (w : World) {a : Option Addr} {c : Nat} {l : List Rl} (R : Rds fR 6 w a c l) {x y : Nat} (hx : x < l.length) (hy : y < l.length) :
    Calls Try.prog 50 #[.slice a l.length c, .int .i64 (x : Nat), .int .i64 (y : Nat)] w fun e w' => e = .returned (.int .i64 (cfR l[x] l[y] x y)) ∧ Below w.heap.size w w' := by
  have gx : l[x]? = some l[x] := List.getElem?_eq_getElem hx
  have gy : l[y]? = some l[y] := List.getElem?_eq_getElem hy
  obtain ⟨b, o, rfl, hbb, hcx⟩ := R.at gx
  obtain ⟨b', o', e', -, hcy⟩ := R.at gy
  cases e'
  have hmx := Nat.le_trans R.le R.max
  unfold maxLen at hmx
  have hx2 : (x : Int) < (l.length : Int) := by omega
  have hy2 : (y : Int) < (l.length : Int) := by omega
  generalize l[x] = r at *
  generalize l[y] = s at *
  obtain ⟨ra, rn, ri, rp, rk, rt⟩ := r
  obtain ⟨sa, sn, si, sp, sk, st⟩ := s
  unfold cfR Pk.ahead
  cases hab : ahB rn rp ri sn sp si with
  | true => rw [if_pos rfl]; exact comp_0 w hbb (by omega) hx2 hy2 hab hcx hcy
  | false =>
    rw [if_neg (by decide)]
    cases hba : ahB sn sp si rn rp ri with
    | true => rw [if_pos rfl]; exact comp_1 w hbb (by omega) hx2 hy2 hab hba hcx hcy
    | false => rw [if_neg (by decide)]; exact comp_2 w hbb (by omega) hx2 hy2 hab hba hcx hcy
end Go.Proofs.Ytihgpllbgliplaa
