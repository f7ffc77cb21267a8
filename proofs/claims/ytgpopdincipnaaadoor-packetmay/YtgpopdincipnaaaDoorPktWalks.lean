/- What the table of package packet holds, and what its small functions answer: the contracts that the claims on its statements rest on. -/
import Derived.Test.YtgpopdincipnaaaDoorPktMath
import Derived.Test.YtgpopdincipnaaaDoorOctGets
namespace Go.Proofs.YtgpopdincipnaaaDoor
open Go.ChangeShapes Go.WideShapes Go.ChangeAt Go.RowKit O
set_option linter.unusedVariables false
set_option linter.unusedSimpArgs false

/-- the table of widths and greatest numbers, as it lies in memory -/
structure Tab (w : World) : Prop where
  lt : 0 < w.heap.size
  c0 : w.cell? ⟨0, 0, none⟩ = some (.int .i64 4)
  c1 : w.cell? ⟨0, 1, none⟩ = some (.int .i64 4294967295)
  c2 : w.cell? ⟨0, 2, none⟩ = some (.int .i64 4)
  c3 : w.cell? ⟨0, 3, none⟩ = some (.int .i64 4294967295)
  c4 : w.cell? ⟨0, 4, none⟩ = some (.int .i64 4)
  c5 : w.cell? ⟨0, 5, none⟩ = some (.int .i64 4294967295)
  c6 : w.cell? ⟨0, 6, none⟩ = some (.int .i64 2)
  c7 : w.cell? ⟨0, 7, none⟩ = some (.int .i64 16)
  c8 : w.cell? ⟨0, 8, none⟩ = some (.int .i64 2)
  c9 : w.cell? ⟨0, 9, none⟩ = some (.int .i64 4095)
theorem Tab.later {w w' : World} (T : Tab w) (hb : Below w.heap.size w w') : Tab w' :=
  ⟨Nat.lt_of_lt_of_le T.lt hb.size, (hb.cell (p := ⟨0, 0, none⟩) T.lt).trans T.c0, (hb.cell (p := ⟨0, 1, none⟩) T.lt).trans T.c1, (hb.cell (p := ⟨0, 2, none⟩) T.lt).trans T.c2, (hb.cell (p := ⟨0, 3, none⟩) T.lt).trans T.c3,
   (hb.cell (p := ⟨0, 4, none⟩) T.lt).trans T.c4, (hb.cell (p := ⟨0, 5, none⟩) T.lt).trans T.c5, (hb.cell (p := ⟨0, 6, none⟩) T.lt).trans T.c6, (hb.cell (p := ⟨0, 7, none⟩) T.lt).trans T.c7,
   (hb.cell (p := ⟨0, 8, none⟩) T.lt).trans T.c8, (hb.cell (p := ⟨0, 9, none⟩) T.lt).trans T.c9⟩
theorem below_new (w : World) (o : Obj) : Below w.heap.size w (w.alloc o) := (Below.refl _ _).alloc (Nat.le_refl _) _

/-- a packet in a block of the call's own -/
structure Box (w : World) (B : Nat) (i s d t g : Int) : Prop where
  lt : B < w.heap.size
  c0 : w.cell? ⟨B, 0, none⟩ = some (.int .i64 i)
  c1 : w.cell? ⟨B, 1, none⟩ = some (.int .i64 s)
  c2 : w.cell? ⟨B, 2, none⟩ = some (.int .i64 d)
  c3 : w.cell? ⟨B, 3, none⟩ = some (.int .i64 t)
  c4 : w.cell? ⟨B, 4, none⟩ = some (.int .i64 g)
  fz : ∀ j, w.frozen? ⟨B, j, none⟩ = false
theorem Box.later {w w' : World} {B : Nat} {i s d t g : Int} (T : Box w B i s d t g) (hb : Below w.heap.size w w') : Box w' B i s d t g :=
  ⟨Nat.lt_of_lt_of_le T.lt hb.size, (hb.cell (p := ⟨B, 0, none⟩) T.lt).trans T.c0, (hb.cell (p := ⟨B, 1, none⟩) T.lt).trans T.c1, (hb.cell (p := ⟨B, 2, none⟩) T.lt).trans T.c2, (hb.cell (p := ⟨B, 3, none⟩) T.lt).trans T.c3,
   (hb.cell (p := ⟨B, 4, none⟩) T.lt).trans T.c4, fun j => (hb.frozen (p := ⟨B, j, none⟩) T.lt).trans (T.fz j)⟩
theorem Box.new (w : World) (i s d t g : Int) : Box (w.alloc (.cells #[.int .i64 i, .int .i64 s, .int .i64 d, .int .i64 t, .int .i64 g] 23)) w.heap.size i s d t g :=
  ⟨by simp, by go_simp, by go_simp, by go_simp, by go_simp, by go_simp, fun j => by unfold World.frozen?; rw [heap_alloc_new]; simp⟩
/-- the five numbers of a packet are ints -/
def W5 (i s d t g : Int) : Prop := ∀ z ∈ [i, s, d, t, g], (Lit.int .i64 z).wf = true

theorem reads_new64 (w : World) (l : List Int) (hl : ∀ z ∈ l, (Lit.int .i64 z).wf = true) (h0 : l.length ≤ 100) {B n : Nat} (hB : w.heap.size = B) (hn : l.length = n) : Reads .i64 (w.alloc (.cells (l.map (Value.int .i64)).toArray 3)) (some ⟨B, 0, none⟩) n l := by
  subst hB hn
  refine ⟨Nat.le_refl _, by unfold maxLen; omega, hl, fun h => (nomatch h), fun _ => ⟨_, _, rfl, by simp, fun i hi => ?_⟩⟩
  have := World.news_of_block (heap_alloc_new w (.cells (l.map (Value.int .i64)).toArray 3)) i (.int .i64 (l.getD i 0)) (by simp [List.getD, hi])
  rw [Addr.add_lit] at this
  exact this
theorem reads5 {w : World} {a : Option Addr} {c : Nat} {x0 x1 x2 x3 x4 : Int} (R : Reads .i64 w a c [x0, x1, x2, x3, x4]) : ∃ b o, a = some ⟨b, o, none⟩ ∧ w.cell? ⟨b, o, none⟩ = some (.int .i64 x0) ∧ w.cell? ⟨b, o + 1, none⟩ = some (.int .i64 x1) ∧ w.cell? ⟨b, o + 2, none⟩ = some (.int .i64 x2) ∧ w.cell? ⟨b, o + 3, none⟩ = some (.int .i64 x3) ∧ w.cell? ⟨b, o + 4, none⟩ = some (.int .i64 x4) := by
  obtain ⟨b, o, e, _, hc⟩ := R.cells (by simp)
  exact ⟨b, o, e, hc 0 (by simp), hc 1 (by simp), hc 2 (by simp), hc 3 (by simp), hc 4 (by simp)⟩

/-! ### numbers -/
set_option maxHeartbeats 1000000 in
theorem numbers_any (i s d t g : Int) (hw : W5 i s d t g) (w : World) :
    Calls Tryd.prog 17 #[.agg #[.int .i64 i, .int .i64 s, .int .i64 d, .int .i64 t, .int .i64 g]] w fun e w' => ∃ a c, e = .returned (.slice a 5 c) ∧ Reads .i64 w' a c [i, s, d, t, g] ∧ Below w.heap.size w w' := by
  go_enter Tryd.func17, Tryd.ntmps17
  go_wp2
  go_ret
  exact ⟨_, _, rfl, reads_new64 _ [i, s, d, t, g] hw (by simp) (by simp) rfl, below_step (below_new w _) (below_new _ _)⟩

/-! ### widths -/
theorem own_new (w : World) (l : List Int) (h0 : l.length ≤ 100) : (w.alloc (.cells (l.map (Value.int .i64)).toArray 3)).ownsRow w.heap.size 3 1 (.slice (some ⟨w.heap.size, 0, none⟩) l.length l.length) l.length (l.map (Value.int .i64)) :=
  ⟨by simp, .inr ⟨w.heap.size, l.length, _, rfl, Nat.le_refl _, heap_alloc_new w _, Nat.le_refl _, by unfold maxLen; omega, by simp, by rw [Nat.mul_one]; exact List.take_of_length_le (by simp)⟩⟩
theorem make5 (w : World) : (Instr.makeSlice 38 (.int .i64 5) (.int .i64 5)).run Tryd.prog w = .ok (.slice (some ⟨w.heap.size, 0, none⟩) 5 5) (w.alloc (.cells #[.int .i64 0, .int .i64 0, .int .i64 0, .int .i64 0, .int .i64 0] 3)) := by kernel_rfl
theorem ix0 (w : World) : (Instr.index 48 (.agg #[.int .i64 4, .int .i64 4294967295, .int .i64 4, .int .i64 4294967295, .int .i64 4, .int .i64 4294967295, .int .i64 2, .int .i64 16, .int .i64 2, .int .i64 4095]) (.int .i64 0)).run Tryd.prog w = .ok (.agg #[.int .i64 4, .int .i64 4294967295]) w := by kernel_rfl
theorem ix1 (w : World) : (Instr.index 48 (.agg #[.int .i64 4, .int .i64 4294967295, .int .i64 4, .int .i64 4294967295, .int .i64 4, .int .i64 4294967295, .int .i64 2, .int .i64 16, .int .i64 2, .int .i64 4095]) (.int .i64 1)).run Tryd.prog w = .ok (.agg #[.int .i64 4, .int .i64 4294967295]) w := by kernel_rfl
theorem ix2 (w : World) : (Instr.index 48 (.agg #[.int .i64 4, .int .i64 4294967295, .int .i64 4, .int .i64 4294967295, .int .i64 4, .int .i64 4294967295, .int .i64 2, .int .i64 16, .int .i64 2, .int .i64 4095]) (.int .i64 2)).run Tryd.prog w = .ok (.agg #[.int .i64 4, .int .i64 4294967295]) w := by kernel_rfl
theorem ix3 (w : World) : (Instr.index 48 (.agg #[.int .i64 4, .int .i64 4294967295, .int .i64 4, .int .i64 4294967295, .int .i64 4, .int .i64 4294967295, .int .i64 2, .int .i64 16, .int .i64 2, .int .i64 4095]) (.int .i64 3)).run Tryd.prog w = .ok (.agg #[.int .i64 2, .int .i64 16]) w := by kernel_rfl
theorem ix4 (w : World) : (Instr.index 48 (.agg #[.int .i64 4, .int .i64 4294967295, .int .i64 4, .int .i64 4294967295, .int .i64 4, .int .i64 4294967295, .int .i64 2, .int .i64 16, .int .i64 2, .int .i64 4095]) (.int .i64 4)).run Tryd.prog w = .ok (.agg #[.int .i64 2, .int .i64 4095]) w := by kernel_rfl
set_option maxHeartbeats 2000000 in
theorem widths_any (w : World) (T : Tab w) :
    Calls Tryd.prog 18 #[] w fun e w' => ∃ a c, e = .returned (.slice a 5 c) ∧ Reads .i64 w' a c [4, 4, 4, 2, 2] ∧ w'.ownsRow w.heap.size 3 1 (.slice a 5 c) 5 ([4, 4, 4, 2, 2].map (Value.int .i64)) ∧ Below w.heap.size w w' := by
  obtain ⟨lt, c0, c1, c2, c3, c4, c5, c6, c7, c8, c9⟩ := id T
  have m5 := make5
  have i0 := ix0
  have i1 := ix1
  have i2 := ix2
  have i3 := ix3
  have i4 := ix4
  go_enter Tryd.func18, Tryd.ntmps18
  go_wp2
  refine wp_loop_rounds 6 ?_
  rw [rounds_succ]; go_wp2
  rw [rounds_succ]; go_wp2
  rw [rounds_succ]; go_wp2
  rw [rounds_succ]; go_wp2
  rw [rounds_succ]; go_wp2
  rw [rounds_succ]; go_wp2
  go_ret
  have own := (((((own_new w [4, 4, 4, 2, 2] (by simp)).alloc (.cells #[.int .i64 4, .int .i64 4294967295] 47)).alloc (.cells #[.int .i64 4, .int .i64 4294967295] 47)).alloc (.cells #[.int .i64 4, .int .i64 4294967295] 47)).alloc (.cells #[.int .i64 2, .int .i64 16] 47)).alloc (.cells #[.int .i64 2, .int .i64 4095] 47)
  exact ⟨_, _, rfl, (reads_own own (by decide)).1, own, below_step (below_step (below_step (below_step (below_step (below_new w _) (below_new _ _)) (below_new _ _)) (below_new _ _)) (below_new _ _)) (below_new _ _)⟩

/-! ### May -/
/-- what is so of a packet's numbers up to the k-th -/
def preK (i s d t g : Int) (k : Nat) : Prop := (0 < k → 0 ≤ i ∧ i ≤ 4294967295) ∧ (1 < k → 0 ≤ s ∧ s ≤ 4294967295) ∧ (2 < k → 0 ≤ d ∧ d ≤ 4294967295) ∧ (3 < k → 0 ≤ t ∧ t ≤ 16) ∧ (4 < k → 0 ≤ g ∧ g ≤ 4095)
theorem preK_end {i s d t g : Int} (h : preK i s d t g 5) : okPk i s d t g = true :=
  okPk_mk (h.1 (by decide)) (h.2.1 (by decide)) (h.2.2.1 (by decide)) (h.2.2.2.1 (by decide)) (h.2.2.2.2 (by decide))
set_option maxHeartbeats 2000000 in
theorem may_any (i s d t g : Int) (hw : W5 i s d t g) (w : World) (T : Tab w) :
    Calls Tryd.prog 15 #[.agg #[.int .i64 i, .int .i64 s, .int .i64 d, .int .i64 t, .int .i64 g]] w fun e w' => e = .returned (.bool (okPk i s d t g)) ∧ Below w.heap.size w w' := by
  have T0 := T.later (below_new w (.cells #[.int .i64 i, .int .i64 s, .int .i64 d, .int .i64 t, .int .i64 g] 23))
  go_enter Tryd.func15, Tryd.ntmps15
  go_wp2_with (go_at_call 17; refine (numbers_any i s d t g hw _).mono ?_; rintro e w1 ⟨a, c, rfl, R, hb⟩)
  obtain ⟨lt, c0, c1, c2, c3, c4, c5, c6, c7, c8, c9⟩ := T0.later hb
  obtain ⟨b, o, rfl, n0, n1, n2, n3, n4⟩ := reads5 R
  have hbel : Below w.heap.size w w1 := below_step (below_new w _) hb
  clear R T0 hb
  go_loop [8] (fun x => ∃ k : Nat, k ≤ 5 ∧ x = .int .i64 k ∧ preK i s d t g k) (fun x => 5 - (intOf x).toNat)
  case atStart => exact ⟨0, by omega, rfl, by simp [preK]⟩
  case round =>
    obtain ⟨k, hk, rfl, hp⟩ := hrel
    have HP : Hid (preK i s d t g k) := hp
    clear hp
    rcases (show k = 0 ∨ k = 1 ∨ k = 2 ∨ k = 3 ∨ k = 4 ∨ k = 5 by omega) with rfl | rfl | rfl | rfl | rfl | rfl
    · by_cases h1 : i < 0
      · have HN : Hid (okPk i s d t g = false) := okPk_no (by omega)
        go_wp2
        go_ret
        exact ⟨ret_bool HN.out.symm, hbel⟩
      · by_cases h2 : 4294967295 < i
        · have HN : Hid (okPk i s d t g = false) := okPk_no (by omega)
          go_wp2
          go_ret
          exact ⟨ret_bool HN.out.symm, hbel⟩
        · have HS : Hid (preK i s d t g 1) := by
            have h := HP.out
            unfold Hid preK at *
            omega
          go_wp2
          go_round
          case rel => exact ⟨1, by omega, by go_num, HS.out⟩
          case measure => simp [intOf]
    · by_cases h1 : s < 0
      · have HN : Hid (okPk i s d t g = false) := okPk_no (by omega)
        go_wp2
        go_ret
        exact ⟨ret_bool HN.out.symm, hbel⟩
      · by_cases h2 : 4294967295 < s
        · have HN : Hid (okPk i s d t g = false) := okPk_no (by omega)
          go_wp2
          go_ret
          exact ⟨ret_bool HN.out.symm, hbel⟩
        · have HS : Hid (preK i s d t g 2) := by
            have h := HP.out
            unfold Hid preK at *
            omega
          go_wp2
          go_round
          case rel => exact ⟨2, by omega, by go_num, HS.out⟩
          case measure => simp [intOf]
    · by_cases h1 : d < 0
      · have HN : Hid (okPk i s d t g = false) := okPk_no (by omega)
        go_wp2
        go_ret
        exact ⟨ret_bool HN.out.symm, hbel⟩
      · by_cases h2 : 4294967295 < d
        · have HN : Hid (okPk i s d t g = false) := okPk_no (by omega)
          go_wp2
          go_ret
          exact ⟨ret_bool HN.out.symm, hbel⟩
        · have HS : Hid (preK i s d t g 3) := by
            have h := HP.out
            unfold Hid preK at *
            omega
          go_wp2
          go_round
          case rel => exact ⟨3, by omega, by go_num, HS.out⟩
          case measure => simp [intOf]
    · by_cases h1 : t < 0
      · have HN : Hid (okPk i s d t g = false) := okPk_no (by omega)
        go_wp2
        go_ret
        exact ⟨ret_bool HN.out.symm, hbel⟩
      · by_cases h2 : 16 < t
        · have HN : Hid (okPk i s d t g = false) := okPk_no (by omega)
          go_wp2
          go_ret
          exact ⟨ret_bool HN.out.symm, hbel⟩
        · have HS : Hid (preK i s d t g 4) := by
            have h := HP.out
            unfold Hid preK at *
            omega
          go_wp2
          go_round
          case rel => exact ⟨4, by omega, by go_num, HS.out⟩
          case measure => simp [intOf]
    · by_cases h1 : g < 0
      · have HN : Hid (okPk i s d t g = false) := okPk_no (by omega)
        go_wp2
        go_ret
        exact ⟨ret_bool HN.out.symm, hbel⟩
      · by_cases h2 : 4095 < g
        · have HN : Hid (okPk i s d t g = false) := okPk_no (by omega)
          go_wp2
          go_ret
          exact ⟨ret_bool HN.out.symm, hbel⟩
        · have HS : Hid (preK i s d t g 5) := by
            have h := HP.out
            unfold Hid preK at *
            omega
          go_wp2
          go_round
          case rel => exact ⟨5, by omega, by go_num, HS.out⟩
          case measure => simp [intOf]
    · have HN : Hid (okPk i s d t g = true) := preK_end HP.out
      go_wp2
      go_ret
      exact ⟨ret_bool HN.out.symm, hbel⟩
end Go.Proofs.YtgpopdincipnaaaDoor
