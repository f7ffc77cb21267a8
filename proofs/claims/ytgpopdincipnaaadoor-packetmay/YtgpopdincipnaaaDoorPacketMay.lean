/- Proved: for every packet p and every int over the call PacketMay(p, over) returns true: a packet with one field beyond its bounds may not be, and has no bytes. The table of fields starts as the program lays it (the card ties it to the text). No other condition. -/
import Derived.Test.YtgpopdincipnaaaDoorPktTwo
import Derived.Test.YtgpopdincipnaaaDoorPktLaid
import Derived.Test.YtgpopdincipnaaaDoorTie
import Derived.Test.YtgpopdincipnaaaDoorCards
import Derived.SevenTiedAt
import Derived.Lib.SmallJoins
namespace Go.Proofs.YtgpopdincipnaaaDoor.packetMay
open Go.ChangeShapes Go.WideShapes Go.ChangeAt Go.RowKit O
set_option linter.unusedVariables false


theorem news (w : World) (l : List Int) (e : TypeId) : ∀ j x, l[j]? = some x → (w.alloc (.cells (l.map (Value.int .i64)).toArray e)).cell? ⟨w.heap.size, j, none⟩ = some (.int .i64 x) := by
  intro j x hx
  have := World.news_of_block (heap_alloc_new w (.cells (l.map (Value.int .i64)).toArray e)) j (.int .i64 x) (by simp [hx])
  rw [Addr.add_lit] at this
  simpa using this
set_option maxHeartbeats 2000000 in
theorem may_bad (i s d t g n : Int) (hw : W5 i s d t g) (w : World) (T : Tab w) (h : okPk i s d t g = false ∨ (okPk i s d t g = true ∧ n < 1)) :
    Calls Tryd.prog 7 #[.agg #[.int .i64 i, .int .i64 s, .int .i64 d, .int .i64 t, .int .i64 g], .int .i64 n] w fun e w' => e = .returned (.bool true) ∧ Below w.heap.size w w' := by
  rcases h with hk | ⟨hk, hn⟩
  all_goals
    have hb0 := below_new w (.cells #[.int .i64 i, .int .i64 s, .int .i64 d, .int .i64 t, .int .i64 g] 23)
    have X0 := Box.new w i s d t g
    have T0 := T.later hb0
    go_enter Tryd.func7, Tryd.ntmps7
    go_wp2_with (go_at_call 9; refine (awake_any _ T0).mono ?_; rintro e w1 ⟨rfl, hb1⟩; obtain ⟨_, c0, c1, c2, c3, c4, _⟩ := X0.later hb1)
    refine (may_any i s d t g hw _ (T0.later hb1)).mono ?_
    rintro e w2 ⟨rfl, hb2⟩
    go_wp2_with fail
    go_ret
    exact ⟨rfl, below_step (below_step hb0 hb1) hb2⟩
set_option maxHeartbeats 4000000 in
theorem may_main (i s d t g n nn : Int) (hw : W5 i s d t g) (wi : (Lit.int .i64 i).wf = true) (ws : (Lit.int .i64 s).wf = true) (wd : (Lit.int .i64 d).wf = true) (wt : (Lit.int .i64 t).wf = true) (wg : (Lit.int .i64 g).wf = true) (wnn : (Lit.int .i64 nn).wf = true) (w : World) (T : Tab w) (hk : okPk i s d t g = true) (hn : 1 ≤ n) (hn2 : n ≤ 9223372036854775807) (hnn : -n = nn) :
    Calls Tryd.prog 7 #[.agg #[.int .i64 i, .int .i64 s, .int .i64 d, .int .i64 t, .int .i64 g], .int .i64 n] w fun e w' => e = .returned (.bool true) ∧ Below w.heap.size w w' := by
  have hnn2 : nn < 0 := by omega
  have hb0 := below_new w (.cells #[.int .i64 i, .int .i64 s, .int .i64 d, .int .i64 t, .int .i64 g] 23)
  have X0 := Box.new w i s d t g
  have T0 := T.later hb0
  go_enter Tryd.func7, Tryd.ntmps7
  go_wp2_with (go_at_call 9; refine (awake_any _ T0).mono ?_; rintro e w1 ⟨rfl, hb1⟩; obtain ⟨_, c0, c1, c2, c3, c4, _⟩ := X0.later hb1)
  refine (may_any i s d t g hw _ (T0.later hb1)).mono ?_
  rintro e w2 ⟨rfl, hb2⟩
  obtain ⟨_, d0, d1, d2, d3, d4, _⟩ := (X0.later hb1).later hb2
  go_wp2_with fail
  have hb3 := below_new w2 (.cells #[.int .i64 nn, .int .i64 s, .int .i64 d, .int .i64 t, .int .i64 g, .int .i64 i, .int .i64 s, .int .i64 d, .int .i64 17, .int .i64 g, .int .i64 i, .int .i64 s, .int .i64 d, .int .i64 t, .int .i64 4096, .int .i64 i, .int .i64 s, .int .i64 4294967296, .int .i64 t, .int .i64 g, .int .i64 i, .int .i64 (-1), .int .i64 d, .int .i64 t, .int .i64 g, .int .i64 i, .int .i64 s, .int .i64 d, .int .i64 nn, .int .i64 g] 23)
  have hbW := below_step (below_step (below_step hb0 hb1) hb2) hb3
  have TW := T.later hbW
  have hc := news w2 [nn, s, d, t, g, i, s, d, 17, g, i, s, d, t, 4096, i, s, 4294967296, t, g, i, -1, d, t, g, i, s, d, nn, g] 23
  have ltB : w2.heap.size < (w2.alloc (.cells #[.int .i64 nn, .int .i64 s, .int .i64 d, .int .i64 t, .int .i64 g, .int .i64 i, .int .i64 s, .int .i64 d, .int .i64 17, .int .i64 g, .int .i64 i, .int .i64 s, .int .i64 d, .int .i64 t, .int .i64 4096, .int .i64 i, .int .i64 s, .int .i64 4294967296, .int .i64 t, .int .i64 g, .int .i64 i, .int .i64 (-1), .int .i64 d, .int .i64 t, .int .i64 g, .int .i64 i, .int .i64 s, .int .i64 d, .int .i64 nn, .int .i64 g] 23)).heap.size := by simp
  obtain ⟨W, hW⟩ : ∃ W, W = w2.alloc (.cells #[.int .i64 nn, .int .i64 s, .int .i64 d, .int .i64 t, .int .i64 g, .int .i64 i, .int .i64 s, .int .i64 d, .int .i64 17, .int .i64 g, .int .i64 i, .int .i64 s, .int .i64 d, .int .i64 t, .int .i64 4096, .int .i64 i, .int .i64 s, .int .i64 4294967296, .int .i64 t, .int .i64 g, .int .i64 i, .int .i64 (-1), .int .i64 d, .int .i64 t, .int .i64 g, .int .i64 i, .int .i64 s, .int .i64 d, .int .i64 nn, .int .i64 g] 23) := ⟨_, rfl⟩
  have hcW : ∀ j x, ([nn, s, d, t, g, i, s, d, 17, g, i, s, d, t, 4096, i, s, 4294967296, t, g, i, -1, d, t, g, i, s, d, nn, g] : List Int)[j]? = some x → W.cell? ⟨w2.heap.size, j, none⟩ = some (.int .i64 x) := by rw [hW]; exact hc
  rw [← hW] at hbW TW ltB ⊢
  clear hc hb3 hW d0 d1 d2 d3 d4 c0 c1 c2 c3 c4 hb0 hb1 hb2 X0 T0
  go_loopw [7] (fun x wr => ∃ k : Nat, k ≤ 6 ∧ x = .int .i64 k ∧ Below W.heap.size W wr) (fun x _ => 6 - (intOf x).toNat)
  case atStart => exact ⟨0, by omega, rfl, Below.refl _ _⟩
  case round =>
    obtain ⟨k, hk6, rfl, hbel⟩ := hrel
    have hc : Hid (∀ j x, ([nn, s, d, t, g, i, s, d, 17, g, i, s, d, t, 4096, i, s, 4294967296, t, g, i, -1, d, t, g, i, s, d, nn, g] : List Int)[j]? = some x → W.cell? ⟨w2.heap.size, j, none⟩ = some (.int .i64 x)) := hcW
    have TR := TW.later hbel
    have ltr := Nat.lt_of_lt_of_le ltB hbel.size
    clear hcW
    rcases (show k = 0 ∨ k = 1 ∨ k = 2 ∨ k = 3 ∨ k = 4 ∨ k = 5 ∨ k = 6 by omega) with rfl | rfl | rfl | rfl | rfl | rfl | rfl
    · have HK : okPk nn s d t g = false := okPk_no (by omega)
      have y0 : wr.cell? ⟨w2.heap.size, 0, none⟩ = some (.int .i64 nn) := (hbel.cell (p := ⟨w2.heap.size, 0, none⟩) ltB).trans (hc.out 0 _ rfl)
      have y1 : wr.cell? ⟨w2.heap.size, 1, none⟩ = some (.int .i64 s) := (hbel.cell (p := ⟨w2.heap.size, 1, none⟩) ltB).trans (hc.out 1 _ rfl)
      have y2 : wr.cell? ⟨w2.heap.size, 2, none⟩ = some (.int .i64 d) := (hbel.cell (p := ⟨w2.heap.size, 2, none⟩) ltB).trans (hc.out 2 _ rfl)
      have y3 : wr.cell? ⟨w2.heap.size, 3, none⟩ = some (.int .i64 t) := (hbel.cell (p := ⟨w2.heap.size, 3, none⟩) ltB).trans (hc.out 3 _ rfl)
      have y4 : wr.cell? ⟨w2.heap.size, 4, none⟩ = some (.int .i64 g) := (hbel.cell (p := ⟨w2.heap.size, 4, none⟩) ltB).trans (hc.out 4 _ rfl)
      have hw5 : W5 nn s d t g := w5_mk (by first | assumption | decide) (by first | assumption | decide) (by first | assumption | decide) (by first | assumption | decide) (by first | assumption | decide)
      clear hc
      go_wp2_with fail
      refine (pput_bad2 HK hw5 _ TR).mono ?_
      rintro e w5 ⟨a5, k5, rfl, hb5⟩
      have z0 : w5.cell? ⟨w2.heap.size, 0, none⟩ = some (.int .i64 nn) := (hb5.cell (p := ⟨w2.heap.size, 0, none⟩) ltr).trans y0
      have z1 : w5.cell? ⟨w2.heap.size, 1, none⟩ = some (.int .i64 s) := (hb5.cell (p := ⟨w2.heap.size, 1, none⟩) ltr).trans y1
      have z2 : w5.cell? ⟨w2.heap.size, 2, none⟩ = some (.int .i64 d) := (hb5.cell (p := ⟨w2.heap.size, 2, none⟩) ltr).trans y2
      have z3 : w5.cell? ⟨w2.heap.size, 3, none⟩ = some (.int .i64 t) := (hb5.cell (p := ⟨w2.heap.size, 3, none⟩) ltr).trans y3
      have z4 : w5.cell? ⟨w2.heap.size, 4, none⟩ = some (.int .i64 g) := (hb5.cell (p := ⟨w2.heap.size, 4, none⟩) ltr).trans y4
      go_wp2_with fail
      refine (may_any nn s d t g hw5 _ (TR.later hb5)).mono ?_
      rintro e w6 ⟨rfl, hb6⟩
      go_wp2_with fail
      go_roundw
      case rel => exact ⟨1, by omega, by go_num, below_step (below_step hbel hb5) hb6⟩
      case measure => simp [intOf]
    · have HK : okPk i s d 17 g = false := okPk_no (by omega)
      have y0 : wr.cell? ⟨w2.heap.size, 5, none⟩ = some (.int .i64 i) := (hbel.cell (p := ⟨w2.heap.size, 5, none⟩) ltB).trans (hc.out 5 _ rfl)
      have y1 : wr.cell? ⟨w2.heap.size, 6, none⟩ = some (.int .i64 s) := (hbel.cell (p := ⟨w2.heap.size, 6, none⟩) ltB).trans (hc.out 6 _ rfl)
      have y2 : wr.cell? ⟨w2.heap.size, 7, none⟩ = some (.int .i64 d) := (hbel.cell (p := ⟨w2.heap.size, 7, none⟩) ltB).trans (hc.out 7 _ rfl)
      have y3 : wr.cell? ⟨w2.heap.size, 8, none⟩ = some (.int .i64 17) := (hbel.cell (p := ⟨w2.heap.size, 8, none⟩) ltB).trans (hc.out 8 _ rfl)
      have y4 : wr.cell? ⟨w2.heap.size, 9, none⟩ = some (.int .i64 g) := (hbel.cell (p := ⟨w2.heap.size, 9, none⟩) ltB).trans (hc.out 9 _ rfl)
      have hw5 : W5 i s d 17 g := w5_mk (by first | assumption | decide) (by first | assumption | decide) (by first | assumption | decide) (by first | assumption | decide) (by first | assumption | decide)
      clear hc
      go_wp2_with fail
      refine (pput_bad2 HK hw5 _ TR).mono ?_
      rintro e w5 ⟨a5, k5, rfl, hb5⟩
      have z0 : w5.cell? ⟨w2.heap.size, 5, none⟩ = some (.int .i64 i) := (hb5.cell (p := ⟨w2.heap.size, 5, none⟩) ltr).trans y0
      have z1 : w5.cell? ⟨w2.heap.size, 6, none⟩ = some (.int .i64 s) := (hb5.cell (p := ⟨w2.heap.size, 6, none⟩) ltr).trans y1
      have z2 : w5.cell? ⟨w2.heap.size, 7, none⟩ = some (.int .i64 d) := (hb5.cell (p := ⟨w2.heap.size, 7, none⟩) ltr).trans y2
      have z3 : w5.cell? ⟨w2.heap.size, 8, none⟩ = some (.int .i64 17) := (hb5.cell (p := ⟨w2.heap.size, 8, none⟩) ltr).trans y3
      have z4 : w5.cell? ⟨w2.heap.size, 9, none⟩ = some (.int .i64 g) := (hb5.cell (p := ⟨w2.heap.size, 9, none⟩) ltr).trans y4
      go_wp2_with fail
      refine (may_any i s d 17 g hw5 _ (TR.later hb5)).mono ?_
      rintro e w6 ⟨rfl, hb6⟩
      go_wp2_with fail
      go_roundw
      case rel => exact ⟨2, by omega, by go_num, below_step (below_step hbel hb5) hb6⟩
      case measure => simp [intOf]
    · have HK : okPk i s d t 4096 = false := okPk_no (by omega)
      have y0 : wr.cell? ⟨w2.heap.size, 10, none⟩ = some (.int .i64 i) := (hbel.cell (p := ⟨w2.heap.size, 10, none⟩) ltB).trans (hc.out 10 _ rfl)
      have y1 : wr.cell? ⟨w2.heap.size, 11, none⟩ = some (.int .i64 s) := (hbel.cell (p := ⟨w2.heap.size, 11, none⟩) ltB).trans (hc.out 11 _ rfl)
      have y2 : wr.cell? ⟨w2.heap.size, 12, none⟩ = some (.int .i64 d) := (hbel.cell (p := ⟨w2.heap.size, 12, none⟩) ltB).trans (hc.out 12 _ rfl)
      have y3 : wr.cell? ⟨w2.heap.size, 13, none⟩ = some (.int .i64 t) := (hbel.cell (p := ⟨w2.heap.size, 13, none⟩) ltB).trans (hc.out 13 _ rfl)
      have y4 : wr.cell? ⟨w2.heap.size, 14, none⟩ = some (.int .i64 4096) := (hbel.cell (p := ⟨w2.heap.size, 14, none⟩) ltB).trans (hc.out 14 _ rfl)
      have hw5 : W5 i s d t 4096 := w5_mk (by first | assumption | decide) (by first | assumption | decide) (by first | assumption | decide) (by first | assumption | decide) (by first | assumption | decide)
      clear hc
      go_wp2_with fail
      refine (pput_bad2 HK hw5 _ TR).mono ?_
      rintro e w5 ⟨a5, k5, rfl, hb5⟩
      have z0 : w5.cell? ⟨w2.heap.size, 10, none⟩ = some (.int .i64 i) := (hb5.cell (p := ⟨w2.heap.size, 10, none⟩) ltr).trans y0
      have z1 : w5.cell? ⟨w2.heap.size, 11, none⟩ = some (.int .i64 s) := (hb5.cell (p := ⟨w2.heap.size, 11, none⟩) ltr).trans y1
      have z2 : w5.cell? ⟨w2.heap.size, 12, none⟩ = some (.int .i64 d) := (hb5.cell (p := ⟨w2.heap.size, 12, none⟩) ltr).trans y2
      have z3 : w5.cell? ⟨w2.heap.size, 13, none⟩ = some (.int .i64 t) := (hb5.cell (p := ⟨w2.heap.size, 13, none⟩) ltr).trans y3
      have z4 : w5.cell? ⟨w2.heap.size, 14, none⟩ = some (.int .i64 4096) := (hb5.cell (p := ⟨w2.heap.size, 14, none⟩) ltr).trans y4
      go_wp2_with fail
      refine (may_any i s d t 4096 hw5 _ (TR.later hb5)).mono ?_
      rintro e w6 ⟨rfl, hb6⟩
      go_wp2_with fail
      go_roundw
      case rel => exact ⟨3, by omega, by go_num, below_step (below_step hbel hb5) hb6⟩
      case measure => simp [intOf]
    · have HK : okPk i s 4294967296 t g = false := okPk_no (by omega)
      have y0 : wr.cell? ⟨w2.heap.size, 15, none⟩ = some (.int .i64 i) := (hbel.cell (p := ⟨w2.heap.size, 15, none⟩) ltB).trans (hc.out 15 _ rfl)
      have y1 : wr.cell? ⟨w2.heap.size, 16, none⟩ = some (.int .i64 s) := (hbel.cell (p := ⟨w2.heap.size, 16, none⟩) ltB).trans (hc.out 16 _ rfl)
      have y2 : wr.cell? ⟨w2.heap.size, 17, none⟩ = some (.int .i64 4294967296) := (hbel.cell (p := ⟨w2.heap.size, 17, none⟩) ltB).trans (hc.out 17 _ rfl)
      have y3 : wr.cell? ⟨w2.heap.size, 18, none⟩ = some (.int .i64 t) := (hbel.cell (p := ⟨w2.heap.size, 18, none⟩) ltB).trans (hc.out 18 _ rfl)
      have y4 : wr.cell? ⟨w2.heap.size, 19, none⟩ = some (.int .i64 g) := (hbel.cell (p := ⟨w2.heap.size, 19, none⟩) ltB).trans (hc.out 19 _ rfl)
      have hw5 : W5 i s 4294967296 t g := w5_mk (by first | assumption | decide) (by first | assumption | decide) (by first | assumption | decide) (by first | assumption | decide) (by first | assumption | decide)
      clear hc
      go_wp2_with fail
      refine (pput_bad2 HK hw5 _ TR).mono ?_
      rintro e w5 ⟨a5, k5, rfl, hb5⟩
      have z0 : w5.cell? ⟨w2.heap.size, 15, none⟩ = some (.int .i64 i) := (hb5.cell (p := ⟨w2.heap.size, 15, none⟩) ltr).trans y0
      have z1 : w5.cell? ⟨w2.heap.size, 16, none⟩ = some (.int .i64 s) := (hb5.cell (p := ⟨w2.heap.size, 16, none⟩) ltr).trans y1
      have z2 : w5.cell? ⟨w2.heap.size, 17, none⟩ = some (.int .i64 4294967296) := (hb5.cell (p := ⟨w2.heap.size, 17, none⟩) ltr).trans y2
      have z3 : w5.cell? ⟨w2.heap.size, 18, none⟩ = some (.int .i64 t) := (hb5.cell (p := ⟨w2.heap.size, 18, none⟩) ltr).trans y3
      have z4 : w5.cell? ⟨w2.heap.size, 19, none⟩ = some (.int .i64 g) := (hb5.cell (p := ⟨w2.heap.size, 19, none⟩) ltr).trans y4
      go_wp2_with fail
      refine (may_any i s 4294967296 t g hw5 _ (TR.later hb5)).mono ?_
      rintro e w6 ⟨rfl, hb6⟩
      go_wp2_with fail
      go_roundw
      case rel => exact ⟨4, by omega, by go_num, below_step (below_step hbel hb5) hb6⟩
      case measure => simp [intOf]
    · have HK : okPk i (-1) d t g = false := okPk_no (by omega)
      have y0 : wr.cell? ⟨w2.heap.size, 20, none⟩ = some (.int .i64 i) := (hbel.cell (p := ⟨w2.heap.size, 20, none⟩) ltB).trans (hc.out 20 _ rfl)
      have y1 : wr.cell? ⟨w2.heap.size, 21, none⟩ = some (.int .i64 (-1)) := (hbel.cell (p := ⟨w2.heap.size, 21, none⟩) ltB).trans (hc.out 21 _ rfl)
      have y2 : wr.cell? ⟨w2.heap.size, 22, none⟩ = some (.int .i64 d) := (hbel.cell (p := ⟨w2.heap.size, 22, none⟩) ltB).trans (hc.out 22 _ rfl)
      have y3 : wr.cell? ⟨w2.heap.size, 23, none⟩ = some (.int .i64 t) := (hbel.cell (p := ⟨w2.heap.size, 23, none⟩) ltB).trans (hc.out 23 _ rfl)
      have y4 : wr.cell? ⟨w2.heap.size, 24, none⟩ = some (.int .i64 g) := (hbel.cell (p := ⟨w2.heap.size, 24, none⟩) ltB).trans (hc.out 24 _ rfl)
      have hw5 : W5 i (-1) d t g := w5_mk (by first | assumption | decide) (by first | assumption | decide) (by first | assumption | decide) (by first | assumption | decide) (by first | assumption | decide)
      clear hc
      go_wp2_with fail
      refine (pput_bad2 HK hw5 _ TR).mono ?_
      rintro e w5 ⟨a5, k5, rfl, hb5⟩
      have z0 : w5.cell? ⟨w2.heap.size, 20, none⟩ = some (.int .i64 i) := (hb5.cell (p := ⟨w2.heap.size, 20, none⟩) ltr).trans y0
      have z1 : w5.cell? ⟨w2.heap.size, 21, none⟩ = some (.int .i64 (-1)) := (hb5.cell (p := ⟨w2.heap.size, 21, none⟩) ltr).trans y1
      have z2 : w5.cell? ⟨w2.heap.size, 22, none⟩ = some (.int .i64 d) := (hb5.cell (p := ⟨w2.heap.size, 22, none⟩) ltr).trans y2
      have z3 : w5.cell? ⟨w2.heap.size, 23, none⟩ = some (.int .i64 t) := (hb5.cell (p := ⟨w2.heap.size, 23, none⟩) ltr).trans y3
      have z4 : w5.cell? ⟨w2.heap.size, 24, none⟩ = some (.int .i64 g) := (hb5.cell (p := ⟨w2.heap.size, 24, none⟩) ltr).trans y4
      go_wp2_with fail
      refine (may_any i (-1) d t g hw5 _ (TR.later hb5)).mono ?_
      rintro e w6 ⟨rfl, hb6⟩
      go_wp2_with fail
      go_roundw
      case rel => exact ⟨5, by omega, by go_num, below_step (below_step hbel hb5) hb6⟩
      case measure => simp [intOf]
    · have HK : okPk i s d nn g = false := okPk_no (by omega)
      have y0 : wr.cell? ⟨w2.heap.size, 25, none⟩ = some (.int .i64 i) := (hbel.cell (p := ⟨w2.heap.size, 25, none⟩) ltB).trans (hc.out 25 _ rfl)
      have y1 : wr.cell? ⟨w2.heap.size, 26, none⟩ = some (.int .i64 s) := (hbel.cell (p := ⟨w2.heap.size, 26, none⟩) ltB).trans (hc.out 26 _ rfl)
      have y2 : wr.cell? ⟨w2.heap.size, 27, none⟩ = some (.int .i64 d) := (hbel.cell (p := ⟨w2.heap.size, 27, none⟩) ltB).trans (hc.out 27 _ rfl)
      have y3 : wr.cell? ⟨w2.heap.size, 28, none⟩ = some (.int .i64 nn) := (hbel.cell (p := ⟨w2.heap.size, 28, none⟩) ltB).trans (hc.out 28 _ rfl)
      have y4 : wr.cell? ⟨w2.heap.size, 29, none⟩ = some (.int .i64 g) := (hbel.cell (p := ⟨w2.heap.size, 29, none⟩) ltB).trans (hc.out 29 _ rfl)
      have hw5 : W5 i s d nn g := w5_mk (by first | assumption | decide) (by first | assumption | decide) (by first | assumption | decide) (by first | assumption | decide) (by first | assumption | decide)
      clear hc
      go_wp2_with fail
      refine (pput_bad2 HK hw5 _ TR).mono ?_
      rintro e w5 ⟨a5, k5, rfl, hb5⟩
      have z0 : w5.cell? ⟨w2.heap.size, 25, none⟩ = some (.int .i64 i) := (hb5.cell (p := ⟨w2.heap.size, 25, none⟩) ltr).trans y0
      have z1 : w5.cell? ⟨w2.heap.size, 26, none⟩ = some (.int .i64 s) := (hb5.cell (p := ⟨w2.heap.size, 26, none⟩) ltr).trans y1
      have z2 : w5.cell? ⟨w2.heap.size, 27, none⟩ = some (.int .i64 d) := (hb5.cell (p := ⟨w2.heap.size, 27, none⟩) ltr).trans y2
      have z3 : w5.cell? ⟨w2.heap.size, 28, none⟩ = some (.int .i64 nn) := (hb5.cell (p := ⟨w2.heap.size, 28, none⟩) ltr).trans y3
      have z4 : w5.cell? ⟨w2.heap.size, 29, none⟩ = some (.int .i64 g) := (hb5.cell (p := ⟨w2.heap.size, 29, none⟩) ltr).trans y4
      go_wp2_with fail
      refine (may_any i s d nn g hw5 _ (TR.later hb5)).mono ?_
      rintro e w6 ⟨rfl, hb6⟩
      go_wp2_with fail
      go_roundw
      case rel => exact ⟨6, by omega, by go_num, below_step (below_step hbel hb5) hb6⟩
      case measure => simp [intOf]
    · go_wp2_with fail
      go_ret
      exact ⟨rfl, below_step hbW hbel⟩
theorem walk (i s d t g n : Int) (wi : (Lit.int .i64 i).wf = true) (ws : (Lit.int .i64 s).wf = true) (wd : (Lit.int .i64 d).wf = true) (wt : (Lit.int .i64 t).wf = true) (wg : (Lit.int .i64 g).wf = true) (wn : (Lit.int .i64 n).wf = true) (w : World) (T : Tab w) :
    Calls Tryd.prog 7 #[.agg #[.int .i64 i, .int .i64 s, .int .i64 d, .int .i64 t, .int .i64 g], .int .i64 n] w fun e w' => e = .returned (.bool true) ∧ Below w.heap.size w w' := by
  have hw : W5 i s d t g := w5_mk wi ws wd wt wg
  obtain ⟨n0, n1⟩ := wf_i64 wn
  by_cases h : okPk i s d t g = false ∨ (okPk i s d t g = true ∧ n < 1)
  · exact may_bad i s d t g n hw w T h
  have hk : okPk i s d t g = true := by
    cases hk : okPk i s d t g
    · exact absurd (.inl hk) h
    · rfl
  have hn : 1 ≤ n := by
    by_cases h1 : n < 1
    · exact absurd (.inr ⟨hk, h1⟩) h
    · omega
  exact may_main i s d t g n (-n) hw wi ws wd wt wg (wf_i64_mk (by omega) (by omega)) w T hk hn n1 rfl

set_option maxRecDepth 100000 in
theorem lifted (os : Os) (started : os.Started) (H : Type) (enc : TypeId × Value → H) :
    ReturnsInHanded {} Tryd.checked os 7 .any (fun w args => (Rows.packetMaySpec.pre enc Tryd.prog Tryd.f7 [] false w args ∧ laidMetH Tryd.prog [("wayfinder/packet.fields", Rows.laid_wayfinder_packet_fields)] w) ∧ sizedMet enc Tryd.prog Tryd.f7 (OpenSpec.ofChange Rows.packetMaySpec) false w args) (Rows.packetMaySpec.post enc Tryd.prog Tryd.f7 false true false false) := by
  refine returnsInHanded_of_change_and (C := Tryd.checked) (X := fun w _ => laidMetH Tryd.prog [("wayfinder/packet.fields", Rows.laid_wayfinder_packet_fields)] w) (fun _ _ _ hh h => h.of_heap hh) own started (by kernel_rfl) Tryd.func7
    (ChangeSpec.witness_shaped (enc := enc) (C := Tryd.checked) (os := os) (X := fun w _ => laidMetH Tryd.prog [("wayfinder/packet.fields", Rows.laid_wayfinder_packet_fields)] w) false (World.doorLaid Tryd.prog 400 os) #[.agg #[.int .i64 0, .int .i64 0, .int .i64 0, .int .i64 0, .int .i64 0], .int .i64 0] 8 rfl (World.shaped_of_RefB (by kernel_rfl) (by kernel_rfl)) (by kernel_rfl) (by kernel_rfl) (by kernel_rfl) (door_met os _)) ?_
  intro W base args ds gs before hval0 hW _ _ hL _
  have hval : ∀ (j : Nat) t v, Tryd.f7.params[j]? = some t → args[j]? = some v → Value.okWide Tryd.prog W .any base t v := hval0
  have hW' := hW
  obtain ⟨p, q, hA0, hV, rfl, hfz, hnd⟩ := hW
  have hA : DataW.TrodAll enc Tryd.prog W 0 (fun _ => true) true Tryd.f7.params.toList args.toList ds p := hA0
  rw [Tryd.params7] at hA hval
  obtain ⟨v0, vs0, d0, ds0, p0, q0, hargs, rfl, rfl, h0, r0⟩ := trodAll_cons hA
  obtain ⟨v1, vs1, d1, ds1, p1, q1, rfl, rfl, rfl, h1, r1⟩ := trodAll_cons r0
  obtain ⟨rfl, rfl, rfl⟩ := trodAll_nil r1
  obtain rfl : args = #[v0, v1] := by cases args; simp_all
  obtain ⟨rfl, rfl⟩ := trodVars_none hV
  have k0 := h0
  have lt0 : ∀ x ∈ p0, x.block < W.heap.size := by obtain ⟨m, hm⟩ := k0; exact DataW.trod_lt m _ _ _ hm
  have k1 := h1
  have lt1 : ∀ x ∈ p1, x.block < W.heap.size := by obtain ⟨m, hm⟩ := k1; exact DataW.trod_lt m _ _ _ hm
  obtain ⟨x0a, x0b, x0c, x0d, x0e, y0a, y0b, y0c, y0d, y0e, n0, rfl, rfl, hp0, t0a, t0b, t0c, t0d, t0e⟩ := open_agg5 Tryd.underlying23 (by kernel_rfl) (by kernel_rfl) (hval 0 23 v0 rfl rfl) h0
  obtain ⟨a0, e0a, f0a, w0a⟩ := DataW.trod_int Tryd.underlying3 t0a
  obtain rfl : x0a = .int .i64 a0 := by simpa using e0a
  obtain ⟨b0, e0b, f0b, w0b⟩ := DataW.trod_int Tryd.underlying3 t0b
  obtain rfl : x0b = .int .i64 b0 := by simpa using e0b
  obtain ⟨c0, e0c, f0c, w0c⟩ := DataW.trod_int Tryd.underlying3 t0c
  obtain rfl : x0c = .int .i64 c0 := by simpa using e0c
  obtain ⟨d0, e0d, f0d, w0d⟩ := DataW.trod_int Tryd.underlying3 t0d
  obtain rfl : x0d = .int .i64 d0 := by simpa using e0d
  obtain ⟨e0, e0e, f0e, w0e⟩ := DataW.trod_int Tryd.underlying3 t0e
  obtain rfl : x0e = .int .i64 e0 := by simpa using e0e
  obtain ⟨a1, rfl, rfl, hp1, w1⟩ := open_int Tryd.underlying3 (hval 1 3 v1 rfl rfl) h1
  clear hA0 hval0
  refine (walk a0 b0 c0 d0 e0 a1 w0a w0b w0c w0d w0e w1 W (tab_of_laid hL)).mono fun e W' ⟨he, bel⟩ => ?_
  subst he
  exact ⟨_, rfl, _, _, _, [], _, [], hW', trodAll_mk1 (shut_bool Tryd.underlying4 _), (trodAll_cons_mk (Below.trod laidOut (by kernel_rfl) (of_decide_eq_true (by kernel_rfl)) k0 bel lt0) (trodAll_cons_mk (Below.trod laidOut (by kernel_rfl) (of_decide_eq_true (by kernel_rfl)) k1 bel lt1) trodAll_mk0)), rfl, bel.frame _, fun h => by cases h⟩

theorem over : Rows.packetMayRow.holds Tryd.pinned (OpenSpec.ofChange Rows.packetMaySpec) :=
  OpenClaim.holds_of_wide 7 Tryd.f7 rfl rfl rfl rfl rfl rfl rfl ⟨rfl, rfl, rfl, rfl, rfl⟩ rfl rfl rfl rfl rfl (by kernel_rfl) Tryd.func7 (by kernel_rfl)
    (of_decide_eq_true (by kernel_rfl)) (by unfold Func.isWrapper; first | (rw [if_pos (by decide +kernel)]; kernel_rfl) | (rw [if_neg (by decide +kernel)]; exact ⟨rfl, rfl⟩))
    (fun os started H enc _ => lifted os started H enc)

theorem tied : Rows.PacketMayCardSaid :=
  Claim7.holds_tied_plain_at .later [] [.data] true (true, "46527ee65b5e7be070ea704f30c9d9712f2079c6a769904d475dbcddb3d50cd1") false
    over (fun _ h => by cases h) (by kernel_rfl) (fun _ h => by cases h) packetMay_row_tie rfl ⟨rfl, rfl⟩ (by kernel_rfl) rfl
    (fun f fn hf hfn => by
      obtain rfl : f = 7 := Option.some.inj ((show Tryd.prog.funcNamed Rows.packetMayRow.func = some 7 by kernel_rfl).symm.trans hf) |>.symm
      obtain rfl : fn = Tryd.f7 := (Option.some.inj (Tryd.func7.symm.trans hfn)).symm
      exact ⟨by kernel_rfl, fun j t ht => by
        rw [Tryd.params7] at ht
        have hm : t ∈ [23, 3] := by simpa using Array.mem_of_getElem? ht
        have hall : ([23, 3].all fun u => !Tryd.prog.wantsStandIn u) = true := by kernel_rfl
        exact (show Tryd.prog.wantsStandIn t = false by simpa using List.all_eq_true.1 hall t hm)⟩)
    (by kernel_rfl)
end Go.Proofs.YtgpopdincipnaaaDoor.packetMay
namespace Go.Proofs.YtgpopdincipnaaaDoor
theorem packetMay_holds : Rows.PacketMayCardSaid := packetMay.tied
#print axioms packetMay_holds
end Go.Proofs.YtgpopdincipnaaaDoor
