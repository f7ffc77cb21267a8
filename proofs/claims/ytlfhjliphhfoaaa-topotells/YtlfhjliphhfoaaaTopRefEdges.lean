/- What the document's Edges answers. -/
import Derived.Test.YtlfhjliphhfoaaaTopEdges
import Derived.Test.YtlfhjliphhfoaaaTopRefs
namespace Go.Proofs.Ytlfhjliphhfoaaa
open Go.ChangeShapes Go.WideShapes Go.ChangeAt Go.RowKit Go.Maps Tp
set_option linter.unusedVariables false
set_option linter.unusedSimpArgs false

theorem edge_open {s n : Int} (l : List Lk) {i j : Nat} (hi : i + 1 ≤ s.toNat) (hj : j + 1 ≤ n.toNat) : edge s n l ((i : Int), (j : Int)) = open' l ((i : Int), (j : Int)) := by
  have : isP s n ((i : Int), (j : Int)) = true := by
    simp only [isP, Bool.and_eq_true, decide_eq_true_eq]; omega
  simp [edge, open', this]
section
variable (s n : Int) (w : World) {a : Option Addr} {c : Nat} {l : List Lk}
set_option maxRecDepth 100000 in
set_option maxHeartbeats 4000000 in
theorem redges_any (R : Rds fK 4 w a c l) :
    Calls Try.prog 15 #[.agg #[.int .i64 s, .int .i64 n, .slice a l.length c]] w fun e w' => ∃ x k, e = .returned (.slice x (edges s n l).length k) ∧ Rds fQ 2 w' x k (edges s n l) ∧ Below w.heap.size w w' := by
  have hb1 := below_new w (.cells #[.int .i64 s, .int .i64 n, .slice a l.length c] 24)
  by_cases h0 : 100 < s
  case pos =>
    have he : edges s n l = [] := by unfold edges; rw [if_pos (.inl h0)]
    rw [he]
    have R0 := Rds.none fQ 2 (w.alloc (.cells #[.int .i64 s, .int .i64 n, .slice a l.length c] 24))
    go_enter Try.func15, Try.ntmps15
    go_wp2
    go_ret
    exact ⟨none, 0, rfl, R0, hb1⟩
  by_cases h1 : 100 < n
  case pos =>
    have he : edges s n l = [] := by unfold edges; rw [if_pos (.inr h1)]
    rw [he]
    have R0 := Rds.none fQ 2 (w.alloc (.cells #[.int .i64 s, .int .i64 n, .slice a l.length c] 24))
    go_enter Try.func15, Try.ntmps15
    go_wp2
    go_ret
    exact ⟨none, 0, rfl, R0, hb1⟩
  have HE : Hid (edges s n l = part l s.toNat n.toNat 0) := part_all s n l h0 h1
  have HS : Hid (s.toNat ≤ 100 ∧ n.toNat ≤ 100) := ⟨by omega, by omega⟩
  generalize edges s n l = res at HE ⊢
  obtain ⟨t0, t1, t2⟩ := box3 w (.int .i64 s) (.int .i64 n) (.slice a l.length c) 24
  have hBT : w.heap.size < (w.alloc (.cells #[.int .i64 s, .int .i64 n, .slice a l.length c] 24)).heap.size := by simp
  have R1 := R.later hb1
  clear R
  go_enter Try.func15, Try.ntmps15
  go_wp2_with fail
  generalize hW : w.alloc (.cells #[.int .i64 s, .int .i64 n, .slice a l.length c] 24) = w2 at t0 t1 t2 hBT R1 hb1 ⊢
  clear hW
  have HB1 : Hid (Below w.heap.size w w2) := hb1
  clear hb1
  go_loopw [4, 3] (fun vi vo wr => ∃ i : Nat, Hid (i ≤ s.toNat) ∧ vi = .int .i64 (i : Nat) ∧ Hid (wr.ownsRow w2.heap.size 32 2 vo (part l i n.toNat 0).length (flatV fQ (part l i n.toNat 0))) ∧ Hid (Below w2.heap.size w2 wr)) (fun vi _ _ => s.toNat - (intOf vi).toNat)
  case atStart => exact ⟨0, Nat.zero_le _, rfl, (show World.ownsRow _ _ _ _ _ _ _ by rw [part_zero]; exact World.ownsRow_nil _ _ _ _), Below.refl _ _⟩
  case round =>
    obtain ⟨i, HI, rfl, HO, HB⟩ := hrel
    have q0 := (HB.out.cell (p := ⟨w.heap.size, 0, none⟩) hBT).trans t0
    have q1 := (HB.out.cell (p := ⟨w.heap.size, 1, none⟩) hBT).trans t1
    have q2 := (HB.out.cell (p := ⟨w.heap.size, 2, none⟩) hBT).trans t2
    by_cases hlt : (i : Int) < s
    · have HI2 : Hid (i + 1 ≤ s.toNat) := by show _ ≤ _; omega
      clear HI
      go_wp2_with fail
      go_loopw [5, 3] (fun vj vo wr => ∃ j : Nat, Hid (j ≤ n.toNat) ∧ vj = .int .i64 (j : Nat) ∧ Hid (wr.ownsRow w2.heap.size 32 2 vo (part l i n.toNat j).length (flatV fQ (part l i n.toNat j))) ∧ Hid (Below w2.heap.size w2 wr)) (fun vj _ _ => n.toNat - (intOf vj).toNat)
      case atStart => exact ⟨0, Nat.zero_le _, rfl, HO, HB⟩
      case round =>
        clear q0 q1 q2 HO HB
        obtain ⟨j, HJ, rfl, HO, HB⟩ := hrel
        by_cases hjt : (j : Int) < n
        · have HJ2 : Hid (j + 1 ≤ n.toNat) := by show _ ≤ _; omega
          clear HJ
          have q0 := (HB.out.cell (p := ⟨w.heap.size, 0, none⟩) hBT).trans t0
          have q1 := (HB.out.cell (p := ⟨w.heap.size, 1, none⟩) hBT).trans t1
          have q2 := (HB.out.cell (p := ⟨w.heap.size, 2, none⟩) hBT).trans t2
          have cE := redge_any s n wr (R1.later HB.out) (i : Int) (j : Int)
          rw [edge_open l HI2.out HJ2.out] at cE
          have NX := part_step l i n.toNat j
          cases hg : open' l ((i : Int), (j : Int)) with
          | false =>
            rw [hg] at cE
            have HN : Hid (part l i n.toNat (j + 1) = part l i n.toNat j) := by
              show _ = _
              rw [NX, if_neg (by rw [hg]; decide), List.append_nil]
            clear NX hg
            go_wp2_with fail
            refine cE.mono ?_
            clear cE
            rintro e w4 ⟨rfl, hb4⟩
            have HO2 : Hid (w4.ownsRow w2.heap.size 32 2 u3 (part l i n.toNat (j + 1)).length (flatV fQ (part l i n.toNat (j + 1)))) := by
              show World.ownsRow _ _ _ _ _ _ _
              rw [HN.out]; exact own_laterR HO.out hb4
            have HB2 : Hid (Below w2.heap.size w2 w4) := HB.out.trans (hb4.mono HB.out.size)
            clear hb4 HO HB q0 q1 q2
            go_wp2_with fail
            go_roundw
            case rel => exact ⟨j + 1, HJ2.out, by go_num, HO2, HB2⟩
            case measure => have h := HJ2.out; simp [intOf]; omega
          | true =>
            rw [hg] at cE
            have HN : Hid (part l i n.toNat (j + 1) = part l i n.toNat j ++ [((i : Int), (j : Int))]) := by
              show _ = _
              rw [NX, if_pos hg]
            have hle : (part l i n.toNat j).length + 1 ≤ 1000000 := by
              have h1 := HI2.out; have h2 := HJ2.out; have h3 := HS.out
              have := part_le l (i := i) (n := n.toNat) (j := j) (by omega) (by omega) (by omega)
              omega
            have HLn : Hid ((part l i n.toNat j).length + 1 = (part l i n.toNat (j + 1)).length) := by
              show _ = _
              rw [HN.out]; simp
            have HFl : Hid (flatV fQ (part l i n.toNat j ++ [((i : Int), (j : Int))]) = flatV fQ (part l i n.toNat (j + 1))) := by show _ = _; rw [HN.out]
            clear NX hg HN
            go_wp2_with fail
            refine cE.mono ?_
            clear cE
            rintro e w4 ⟨rfl, hb4⟩
            have ow2 := own_laterR HO.out hb4
            have HB2 : Hid (Below w2.heap.size w2 w4) := HB.out.trans (hb4.mono HB.out.size)
            have hsz := HB2.out.size
            clear hb4 HO HB q0 q1 q2
            go_wp2_with (at_builtin; refine wpRds_one fQ_len (by decide) _ ((i : Int), (j : Int)) 32 rfl rfl _ _ 30 rfl w2.heap.size 16 _ Try.underlying30 infoQ rfl rfl ow2 (by first | rfl | (simp [go_sem]; done)) hle (by omega) hsz ?_; intro v9 w9 own9 hg9)
            have HB5 : Hid (Below w2.heap.size w2 w9) := below_growR (HB2.out.alloc hsz (.cells ((fQ ((i : Int), (j : Int))).map (Value.int .i64)).toArray 32)) (ow2.alloc _) hg9 (Nat.le_trans hsz (below_new _ _).size)
            rw [HLn.out, HFl.out] at own9
            have HO9 : Hid _ := own9
            clear own9 hg9 ow2 HB2 hsz hle
            go_wp2_with fail
            go_roundw
            case rel => exact ⟨j + 1, HJ2.out, by go_num, HO9, HB5⟩
            case measure => have h := HJ2.out; simp [intOf]; omega
        · have q1 := (HB.out.cell (p := ⟨w.heap.size, 1, none⟩) hBT).trans t1
          have HO2 : Hid (wr.ownsRow w2.heap.size 32 2 u3 (part l (i + 1) n.toNat 0).length (flatV fQ (part l (i + 1) n.toNat 0))) := by
            show World.ownsRow _ _ _ _ _ _ _
            have h : j = n.toNat := by have h := HJ.out; omega
            subst h
            rw [part_next]; exact HO.out
          clear HO HJ
          go_wp2_with fail
          go_roundw
          case rel => exact ⟨i + 1, HI2.out, by go_num, HO2, HB⟩
          case measure => have h := HI2.out; simp [intOf]; omega
    · have HX : ∃ x k, u3 = .slice x res.length k ∧ Rds fQ 2 wr x k res := by
        have h : i = s.toNat := by have h := HI.out; omega
        subst h
        have own := HO.out
        rw [← HE.out] at own
        have h3 := HS.out
        exact rds_of_owns fQ_len own rfl (by rw [HE.out]; exact part_wf l (by omega) (by omega) (by omega))
      obtain ⟨x, k, rfl, RX⟩ := HX
      have hB : Below w.heap.size w wr := HB1.out.trans (HB.out.mono HB1.out.size)
      clear HO HB HI
      go_wp2_with fail
      go_ret
      exact ⟨x, k, rfl, RX, hB⟩
end
end Go.Proofs.Ytlfhjliphhfoaaa
