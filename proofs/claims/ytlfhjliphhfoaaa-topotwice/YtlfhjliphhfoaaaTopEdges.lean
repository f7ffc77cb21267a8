/- What the code's Edges answers. -/
import Derived.Test.YtlfhjliphhfoaaaTopMay
namespace Go.Proofs.Ytlfhjliphhfoaaa
open Go.ChangeShapes Go.WideShapes Go.ChangeAt Go.RowKit Go.Maps Tp
set_option linter.unusedVariables false
set_option linter.unusedSimpArgs false

/-- the ports that lead out, of the first i switches, and of the next one's first j ports -/
def part (l : List Lk) (i n j : Nat) : List En := (grid i n ++ row i j).filter (open' l)
theorem part_zero (l : List Lk) (n : Nat) : part l 0 n 0 = [] := by simp [part, grid, row]
theorem part_step (l : List Lk) (i n j : Nat) : part l i n (j + 1) = part l i n j ++ (if open' l ((i : Int), (j : Int)) = true then [((i : Int), (j : Int))] else []) := by
  have hr : row i (j + 1) = row i j ++ [((i : Int), (j : Int))] := by unfold row; rw [List.range_succ, List.map_append]; rfl
  unfold part
  rw [hr, ← List.append_assoc, List.filter_append]
  congr 1
  cases h : open' l ((i : Int), (j : Int)) <;> simp [h]
theorem part_next (l : List Lk) (i n : Nat) : part l (i + 1) n 0 = part l i n n := by
  unfold part grid
  rw [List.range_succ, List.flatMap_append]
  simp [row]
theorem part_all (s n : Int) (l : List Lk) (h0 : ¬ 100 < s) (h1 : ¬ 100 < n) : edges s n l = part l s.toNat n.toNat 0 := by
  unfold edges part
  rw [if_neg (by omega)]
  simp [row]
theorem grid_le {s n : Nat} (hs : s ≤ 100) (hn : n ≤ 100) : (grid s n).length ≤ 10000 := by
  rw [grid_len]; exact Nat.mul_le_mul hs hn
theorem part_le (l : List Lk) {i n j : Nat} (hi : i ≤ 100) (hn : n ≤ 100) (hj : j ≤ 100) : (part l i n j).length ≤ 10100 := by
  unfold part
  refine Nat.le_trans (List.length_filter_le _ _) ?_
  rw [List.length_append]
  have h1 := grid_le hi hn
  have h2 : (row i j).length = j := by simp [row]
  omega
theorem part_wf (l : List Lk) {i n j : Nat} (hi : i ≤ 100) (hn : n ≤ 100) (hj : j ≤ 100) : ∀ e ∈ part l i n j, ∀ z ∈ fQ e, (Lit.int .i64 z).wf = true := by
  intro e he z hz
  have hb : 0 ≤ e.1 ∧ e.1 ≤ 100 ∧ 0 ≤ e.2 ∧ e.2 ≤ 100 := by
    rcases List.mem_append.1 (List.mem_filter.1 he).1 with h | h
    · have := (mem_grid i n e).1 h
      simp only [isP, Bool.and_eq_true, decide_eq_true_eq] at this
      omega
    · obtain ⟨k, hk, rfl⟩ := List.mem_map.1 h
      have := List.mem_range.1 hk
      simp only [Int.ofNat_eq_natCast]
      omega
  simp only [fQ, List.mem_cons, List.not_mem_nil, or_false] at hz
  rcases hz with rfl | rfl <;> exact wf_i64_mk (by omega) (by omega)
theorem MapAt.under {w w' : World} {b B : Nat} {m : List (En × En)} (h : MapAt w b m) (hb : Below B w w') (hlt : b < B) : MapAt w' b m := by
  obtain ⟨D, ⟨es, clock, hbk, r⟩, hr⟩ := h
  exact ⟨D, ⟨es, clock, (hb.block b hlt).trans hbk, r⟩, hr⟩
theorem infoQ : (Try.prog.info? 32).map (fun i => (i.zero, i.size, i.bytes)) = some (some (.agg #[.int .i64 0, .int .i64 0]), 2, 16) := by kernel_rfl
section
variable (s n : Int) (w : World) {a : Option Addr} {c : Nat} {l : List Lk}
set_option maxRecDepth 100000 in
set_option maxHeartbeats 4000000 in
theorem edges_any (R : Rds fK 4 w a c l) (hl : l.length ≤ 100) :
    Calls Try.prog 14 #[.agg #[.int .i64 s, .int .i64 n, .slice a l.length c]] w fun e w' => ∃ x k, e = .returned (.slice x (edges s n l).length k) ∧ Rds fQ 2 w' x k (edges s n l) ∧ Below w.heap.size w w' := by
  have hb1 := below_new w (.cells #[.int .i64 s, .int .i64 n, .slice a l.length c] 24)
  by_cases h0 : 100 < s
  case pos =>
    have he : edges s n l = [] := by unfold edges; rw [if_pos (.inl h0)]
    rw [he]
    have R0 := Rds.none fQ 2 (w.alloc (.cells #[.int .i64 s, .int .i64 n, .slice a l.length c] 24))
    go_enter Try.func14, Try.ntmps14
    go_wp2
    go_ret
    exact ⟨none, 0, rfl, R0, hb1⟩
  by_cases h1 : 100 < n
  case pos =>
    have he : edges s n l = [] := by unfold edges; rw [if_pos (.inr h1)]
    rw [he]
    have R0 := Rds.none fQ 2 (w.alloc (.cells #[.int .i64 s, .int .i64 n, .slice a l.length c] 24))
    go_enter Try.func14, Try.ntmps14
    go_wp2
    go_ret
    exact ⟨none, 0, rfl, R0, hb1⟩
  have HE : Hid (edges s n l = part l s.toNat n.toNat 0) := part_all s n l h0 h1
  have HS : Hid (s.toNat ≤ 100 ∧ n.toNat ≤ 100) := ⟨by omega, by omega⟩
  generalize edges s n l = res at HE ⊢
  obtain ⟨t0, t1, t2⟩ := box3 w (.int .i64 s) (.int .i64 n) (.slice a l.length c) 24
  have hBT : w.heap.size < (w.alloc (.cells #[.int .i64 s, .int .i64 n, .slice a l.length c] 24)).heap.size := by simp
  have R1 := R.later hb1
  have cO : Calls Try.prog 21 #[.slice a l.length c] (w.alloc (.cells #[.int .i64 s, .int .i64 n, .slice a l.length c] 24)) fun e w' => ∃ b, e = .returned (.map (some b)) ∧ MapAt w' b (mapL l) ∧ Below (w.alloc (.cells #[.int .i64 s, .int .i64 n, .slice a l.length c] 24)).heap.size (w.alloc (.cells #[.int .i64 s, .int .i64 n, .slice a l.length c] 24)) w' := (others_any _ R1 hl).mono (fun e w' h => ⟨_, h.1, h.2.1, h.2.2⟩)
  clear R R1 hl
  go_enter Try.func14, Try.ntmps14
  go_wp2_with fail
  refine cO.mono ?_
  clear cO
  rintro e w2 ⟨b, rfl, M, hb2⟩
  replace t0 := (hb2.cell (p := ⟨w.heap.size, 0, none⟩) hBT).trans t0
  replace t1 := (hb2.cell (p := ⟨w.heap.size, 1, none⟩) hBT).trans t1
  replace t2 := (hb2.cell (p := ⟨w.heap.size, 2, none⟩) hBT).trans t2
  replace hBT := Nat.lt_of_lt_of_le hBT hb2.size
  replace hb1 := below_step hb1 hb2
  clear hb2
  have hMb := M.lt
  have HM : Hid (∀ wr, Below w2.heap.size w2 wr → MapAt wr b (mapL l)) := fun wr h => M.under h hMb
  have HB1 : Hid (Below w.heap.size w w2) := hb1
  clear M hb1
  go_wp2_with fail
  go_loopw [23, 3] (fun vi vo wr => ∃ i : Nat, Hid (i ≤ s.toNat) ∧ vi = .int .i64 (i : Nat) ∧ Hid (wr.ownsRow w2.heap.size 32 2 vo (part l i n.toNat 0).length (flatV fQ (part l i n.toNat 0))) ∧ Hid (Below w2.heap.size w2 wr)) (fun vi _ _ => s.toNat - (intOf vi).toNat)
  case atStart => exact ⟨0, Nat.zero_le _, rfl, (show World.ownsRow _ _ _ _ _ _ _ by rw [part_zero]; exact World.ownsRow_nil _ _ _ _), Below.refl _ _⟩
  case round =>
    obtain ⟨i, HI, rfl, HO, HB⟩ := hrel
    have q0 := (HB.out.cell (p := ⟨w.heap.size, 0, none⟩) hBT).trans t0
    have q1 := (HB.out.cell (p := ⟨w.heap.size, 1, none⟩) hBT).trans t1
    have q2 := (HB.out.cell (p := ⟨w.heap.size, 2, none⟩) hBT).trans t2
    by_cases hlt : (i : Int) < s
    · have HI2 : Hid (i + 1 ≤ s.toNat) := by show _ ≤ _; omega
      clear HI
      go_wp2_with fail
      go_loopw [28, 3] (fun vj vo wr => ∃ j : Nat, Hid (j ≤ n.toNat) ∧ vj = .int .i64 (j : Nat) ∧ Hid (wr.ownsRow w2.heap.size 32 2 vo (part l i n.toNat j).length (flatV fQ (part l i n.toNat j))) ∧ Hid (Below w2.heap.size w2 wr)) (fun vj _ _ => n.toNat - (intOf vj).toNat)
      case atStart => exact ⟨0, Nat.zero_le _, rfl, HO, HB⟩
      case round =>
        clear q0 q1 q2 HO HB
        obtain ⟨j, HJ, rfl, HO, HB⟩ := hrel
        by_cases hjt : (j : Int) < n
        · have HJ2 : Hid (j + 1 ≤ n.toNat) := by show _ ≤ _; omega
          clear HJ
          have hwe : We ((i : Int), (j : Int)) := by
            have h1 := HI2.out; have h2 := HJ2.out; have h3 := HS.out
            exact ⟨wf_i64_mk (by simp only []; omega) (by simp only []; omega), wf_i64_mk (by simp only []; omega) (by simp only []; omega)⟩
          have hbA := below_new wr (.cells #[.int .i64 (i : Int), .int .i64 (j : Int)] 32)
          have hLk := ((HM.out wr HB.out).later hbA).look hwe
          rw [get_mapL] at hLk
          have NX := part_step l i n.toNat j
          cases hg : getE (ends l) ((i : Int), (j : Int)) with
          | some o =>
            obtain ⟨o0, o1⟩ := o
            rw [hg] at hLk
            dsimp only [arr, Option.getD_some, Option.isSome_some] at hLk
            have HN : Hid (part l i n.toNat (j + 1) = part l i n.toNat j) := by
              show _ = _
              rw [NX, if_neg (by simp [open', hg]), List.append_nil]
            have hbB := below_step hbA (below_new (wr.alloc (.cells #[.int .i64 (i : Int), .int .i64 (j : Int)] 32)) (.cells #[.int .i64 o0, .int .i64 o1] 32))
            have HO2 : Hid (((wr.alloc (.cells #[.int .i64 (i : Int), .int .i64 (j : Int)] 32)).alloc (.cells #[.int .i64 o0, .int .i64 o1] 32)).ownsRow w2.heap.size 32 2 u3 (part l i n.toNat (j + 1)).length (flatV fQ (part l i n.toNat (j + 1)))) := by
              show World.ownsRow _ _ _ _ _ _ _
              rw [HN.out]; exact own_laterR HO.out hbB
            have HB2 : Hid (Below w2.heap.size w2 ((wr.alloc (.cells #[.int .i64 (i : Int), .int .i64 (j : Int)] 32)).alloc (.cells #[.int .i64 o0, .int .i64 o1] 32))) := HB.out.trans (hbB.mono HB.out.size)
            clear NX hg hwe hbA hbB HO HB
            go_wp2_with fail
            go_roundw
            case rel => exact ⟨j + 1, HJ2.out, by go_num, HO2, HB2⟩
            case measure => have h := HJ2.out; simp [intOf]; omega
          | none =>
            rw [hg] at hLk
            dsimp only [arr, Option.getD_none, Option.isSome_none] at hLk
            have HN : Hid (part l i n.toNat (j + 1) = part l i n.toNat j ++ [((i : Int), (j : Int))]) := by
              show _ = _
              rw [NX, if_pos (by simp [open', hg])]
            have hbB := below_step hbA (below_new (wr.alloc (.cells #[.int .i64 (i : Int), .int .i64 (j : Int)] 32)) (.cells #[.int .i64 0, .int .i64 0] 32))
            have ow2 := own_laterR HO.out hbB
            have HB2 : Hid (Below w2.heap.size w2 ((wr.alloc (.cells #[.int .i64 (i : Int), .int .i64 (j : Int)] 32)).alloc (.cells #[.int .i64 0, .int .i64 0] 32))) := HB.out.trans (hbB.mono HB.out.size)
            have hsz := HB2.out.size
            have hle : (part l i n.toNat j).length + 1 ≤ 1000000 := by
              have h1 := HI2.out; have h2 := HJ2.out; have h3 := HS.out
              have := part_le l (i := i) (n := n.toNat) (j := j) (by omega) (by omega) (by omega)
              omega
            have HLn : Hid ((part l i n.toNat j).length + 1 = (part l i n.toNat (j + 1)).length) := by
              show _ = _
              rw [HN.out]; simp
            have HFl : Hid (flatV fQ (part l i n.toNat j ++ [((i : Int), (j : Int))]) = flatV fQ (part l i n.toNat (j + 1))) := by show _ = _; rw [HN.out]
            clear NX hg hwe hbA hbB HO HB HN
            go_wp2_with (at_builtin; refine wpRds_one fQ_len (by decide) _ ((i : Int), (j : Int)) 32 rfl rfl _ _ 30 rfl w2.heap.size 16 _ Try.underlying30 infoQ rfl rfl ow2 (by first | rfl | (simp [go_sem]; done)) hle (by omega) hsz ?_; intro v9 w9 own9 hg9)
            have HB5 : Hid (Below w2.heap.size w2 w9) := below_growR (HB2.out.alloc hsz (.cells ((fQ ((i : Int), (j : Int))).map (Value.int .i64)).toArray 32)) (ow2.alloc _) hg9 (Nat.le_trans hsz (below_new _ _).size)
            rw [HLn.out, HFl.out] at own9
            have HO9 : Hid _ := own9
            clear own9 hg9 ow2 HB2 hsz hle
            go_wp2_with fail
            go_roundw
            case rel => exact ⟨j + 1, HJ2.out, by go_num, HO9, HB5⟩
            case measure => have h := HJ2.out; simp [intOf]; omega
        · have HO2 : Hid (wr.ownsRow w2.heap.size 32 2 u3 (part l (i + 1) n.toNat 0).length (flatV fQ (part l (i + 1) n.toNat 0))) := by
            show World.ownsRow _ _ _ _ _ _ _
            have h : j = n.toNat := by have h := HJ.out; omega
            subst h
            rw [part_next]; exact HO.out
          clear HO HJ
          go_wp2_with fail
          go_roundw
          case rel => exact ⟨i + 1, HI2.out, by go_num, HO2, HB⟩
          case measure => have h := HI2.out; simp [intOf]; omega
    · have HX : ∃ x k, u3 = .slice x res.length k ∧ Rds fQ 2 wr x k res := by
        have h : i = s.toNat := by have h := HI.out; omega
        subst h
        have own := HO.out
        rw [← HE.out] at own
        have h3 := HS.out
        exact rds_of_owns fQ_len own rfl (by rw [HE.out]; exact part_wf l (by omega) (by omega) (by omega))
      obtain ⟨x, k, rfl, RX⟩ := HX
      have hB : Below w.heap.size w wr := HB1.out.trans (HB.out.mono HB1.out.size)
      clear HO HB HI
      go_wp2_with fail
      go_ret
      exact ⟨x, k, rfl, RX, hB⟩
end
end Go.Proofs.Ytlfhjliphhfoaaa
