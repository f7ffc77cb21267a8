/- What the code's May answers. -/
import Derived.Test.YtihgpllbgliplaaTopFar
namespace Go.Proofs.Ytihgpllbgliplaa
open Go.ChangeShapes Go.WideShapes Go.ChangeAt Go.RowKit Go.Maps Tp
set_option linter.unusedVariables false
set_option linter.unusedSimpArgs false

theorem we_ends {w : World} {a : Option Addr} {c : Nat} {l : List Lk} (R : Rds fK 4 w a c l) : ∀ e ∈ keys (ends l), We e := by
  intro e he
  obtain ⟨x, hx, h⟩ := (mem_ends l e).1 he
  have hw := R.wf x hx
  rcases h with rfl | rfl
  · exact ⟨hw _ (by simp [fK]), hw _ (by simp [fK])⟩
  · exact ⟨hw _ (by simp [fK]), hw _ (by simp [fK])⟩
theorem okB_no1 {s n : Int} {l : List Lk} (h : s < 1) : mayT s n l = false := by
  have : ¬ 1 ≤ s := by omega
  simp [mayT, okB, this]
theorem okB_no2 {s n : Int} {l : List Lk} (h : 6 < s) : mayT s n l = false := by
  have : ¬ s ≤ 6 := by omega
  simp [mayT, okB, this]
theorem okB_no3 {s n : Int} {l : List Lk} (h : n < 1) : mayT s n l = false := by
  have : ¬ 1 ≤ n := by omega
  simp [mayT, okB, this]
theorem okB_no4 {s n : Int} {l : List Lk} (h : 8 < n) : mayT s n l = false := by
  have : ¬ n ≤ 8 := by omega
  simp [mayT, okB, this]
theorem okB_no5 {s n : Int} {l : List Lk} (h : 12 < l.length) : mayT s n l = false := by
  have : ¬ l.length ≤ 12 := by omega
  simp [mayT, okB, this]
theorem may_ways {s n : Int} {l : List Lk} (h0 : ¬ s < 1) (h1 : ¬ 6 < s) (h2 : ¬ n < 1) (h3 : ¬ 8 < n) (h4 : ¬ 12 < l.length) : mayT s n l = ((mapL l).all (fun p => isP s n p.1) && ((mapL l).length == 2 * l.length)) := by
  unfold mayT okB
  rw [decide_eq_true (show 1 ≤ s by omega), decide_eq_true (show s ≤ 6 by omega), decide_eq_true (show 1 ≤ n by omega), decide_eq_true (show n ≤ 8 by omega), decide_eq_true (show l.length ≤ 12 by omega)]
  rfl
theorem all_ports {s n : Int} {l : List Lk} (hw : ∀ e ∈ keys (ends l), We e) (h : ∀ e, We e → (getE (mapL l) e).isSome = true → isP s n e = true) : (mapL l).all (fun p => isP s n p.1) = true := by
  rw [List.all_eq_true]
  intro p hp
  have hk : p.1 ∈ keys (mapL l) := List.mem_map.2 ⟨p, hp, rfl⟩
  exact h p.1 (hw _ ((mem_mapL l p.1).1 hk)) ((get_some _ _).2 hk)
theorem no_port {s n : Int} {l : List Lk} {e : En} (hs : (getE (mapL l) e).isSome = true) (h : isP s n e = false) : (mapL l).all (fun p => isP s n p.1) = false := by
  rw [← Bool.not_eq_true, List.all_eq_true]
  intro g
  obtain ⟨p, hp, rfl⟩ := List.mem_map.1 ((get_some _ _).1 hs)
  rw [g p hp] at h
  cases h
theorem Iter.sees {w : World} {b r : Nat} {m : List (En × En)} {left : En → Bool} {cnt : Nat} {e : En} (h : Iter w b r m left cnt) (he : We e) (hl : left e = true) : (getE m e).isSome = true := by
  obtain ⟨D, L, _, _, _, hs⟩ := h
  exact hs e he hl
section
variable (s n : Int) (w : World) {a : Option Addr} {c : Nat} {l : List Lk}
set_option maxRecDepth 100000 in
set_option maxHeartbeats 4000000 in
theorem toMay_any (R : Rds fK 4 w a c l) :
    Calls Try.prog 26 #[.agg #[.int .i64 s, .int .i64 n, .slice a l.length c]] w fun e w' => e = .returned (.bool (mayT s n l)) ∧ Below w.heap.size w w' := by
  have hmx := Nat.le_trans R.le R.max
  unfold maxLen at hmx
  have hb1 := below_new w (.cells #[.int .i64 s, .int .i64 n, .slice a l.length c] 24)
  by_cases h0 : s < 1
  case pos =>
    rw [okB_no1 h0]
    go_enter Try.func26, Try.ntmps26
    go_wp2
    go_ret
    exact ⟨rfl, hb1⟩
  by_cases h1 : 6 < s
  case pos =>
    rw [okB_no2 h1]
    go_enter Try.func26, Try.ntmps26
    go_wp2
    go_ret
    exact ⟨rfl, hb1⟩
  by_cases h2 : n < 1
  case pos =>
    rw [okB_no3 h2]
    go_enter Try.func26, Try.ntmps26
    go_wp2
    go_ret
    exact ⟨rfl, hb1⟩
  by_cases h3 : 8 < n
  case pos =>
    rw [okB_no4 h3]
    go_enter Try.func26, Try.ntmps26
    go_wp2
    go_ret
    exact ⟨rfl, hb1⟩
  by_cases h4 : 12 < l.length
  case pos =>
    rw [okB_no5 h4]
    have hz : (12 : Int) < (l.length : Int) := by omega
    go_enter Try.func26, Try.ntmps26
    go_wp2
    go_ret
    exact ⟨rfl, hb1⟩
  have hz : ¬ (12 : Int) < (l.length : Int) := by omega
  have HW := may_ways h0 h1 h2 h3 h4
  have hwe := we_ends R
  generalize mayT s n l = res at HW ⊢
  have HR : Hid (res = _) := HW
  clear HW
  obtain ⟨t0, t1, t2⟩ := box3 w (.int .i64 s) (.int .i64 n) (.slice a l.length c) 24
  have hBT : w.heap.size < (w.alloc (.cells #[.int .i64 s, .int .i64 n, .slice a l.length c] 24)).heap.size := by simp
  have R1 := R.later hb1
  have cO : Calls Try.prog 37 #[.slice a l.length c] (w.alloc (.cells #[.int .i64 s, .int .i64 n, .slice a l.length c] 24)) fun e w' => ∃ b, e = .returned (.map (some b)) ∧ MapAt w' b (mapL l) ∧ Below (w.alloc (.cells #[.int .i64 s, .int .i64 n, .slice a l.length c] 24)).heap.size (w.alloc (.cells #[.int .i64 s, .int .i64 n, .slice a l.length c] 24)) w' := (others_any _ R1 (by omega)).mono (fun e w' h => ⟨_, h.1, h.2.1, h.2.2⟩)
  have HE : Hid (∀ e, We e → (getE (mapL l) e).isSome = true → (getE (mapL l) e).isSome = false → isP s n e = true) := fun e _ h h2 => by rw [h] at h2; cases h2
  have HK : Hid (∀ e ∈ keys (ends l), We e) := hwe
  clear R R1 hwe
  go_enter Try.func26, Try.ntmps26
  go_wp2_with fail
  refine cO.mono ?_
  clear cO
  rintro e w2 ⟨b, rfl, M, hb2⟩
  replace t0 := (hb2.cell (p := ⟨w.heap.size, 0, none⟩) hBT).trans t0
  replace t1 := (hb2.cell (p := ⟨w.heap.size, 1, none⟩) hBT).trans t1
  replace t2 := (hb2.cell (p := ⟨w.heap.size, 2, none⟩) hBT).trans t2
  replace hBT := Nat.lt_of_lt_of_le hBT hb2.size
  replace hb1 := below_step hb1 hb2
  clear hb2
  go_wp2_with (at_range; refine wpList_range_map _ rfl _ rfl rfl M ?_; intro w3 I hb3 hs3)
  go_frame
  replace t0 := (hb3.cell (p := ⟨w.heap.size, 0, none⟩) hBT).trans t0
  replace t1 := (hb3.cell (p := ⟨w.heap.size, 1, none⟩) hBT).trans t1
  replace t2 := (hb3.cell (p := ⟨w.heap.size, 2, none⟩) hBT).trans t2
  replace hb1 := below_step hb1 hb3
  clear hb3 M
  generalize w2.heap.size = r at I hs3 hBT ⊢
  have hr3 : r ≤ w3.heap.size := by omega
  clear hs3
  go_loopw [4] (fun _ wr => ∃ (left : En → Bool) (cnt : Nat), Iter wr b r (mapL l) left cnt ∧ Hid (∀ e, We e → (getE (mapL l) e).isSome = true → left e = false → isP s n e = true) ∧ Below r w3 wr) (fun _ wr => wr.rangeLeft b r)
  case atStart => exact ⟨_, _, I, HE, Below.refl _ _⟩
  case round =>
    clear I HE
    obtain ⟨left, cnt, I, HE, hbr⟩ := hrel
    have q0 := (hbr.cell (p := ⟨w.heap.size, 0, none⟩) hBT).trans t0
    have q1 := (hbr.cell (p := ⟨w.heap.size, 1, none⟩) hBT).trans t1
    have q2 := (hbr.cell (p := ⟨w.heap.size, 2, none⟩) hBT).trans t2
    go_wp2_with (at_next; refine wpList_next_map _ rfl _ rfl rfl I ?_ ?_)
    · intro hd
      have M := I.map
      have HA : Hid (res = ((mapL l).length == 2 * l.length)) := by
        show _ = _
        rw [HR.out, all_ports HK.out (fun e he hs => HE.out e he hs (hd e.1 e.2 he)), Bool.true_and]
      have hB := hb1.trans (hbr.mono (by omega))
      clear hd HR HE HK I t0 t1 t2
      generalize mapL l = m at M HA
      have hLen := fun ty => M.len ty
      by_cases hq : m.length = 2 * l.length
      · have hq1 : ((m.length : Int) == 2 * (l.length : Int)) = true := by rw [beq_iff_eq]; omega
        have HB : Hid (res = true) := by show _ = _; rw [HA.out, beq_iff_eq]; exact hq
        have hq2 : (m.length : Int) = 2 * (l.length : Int) := by omega
        clear hq HA M
        go_wp2_with fail
        go_ret
        exact ⟨ret_bool (by rw [HB.out]), hB⟩
      · have hq1 : ((m.length : Int) == 2 * (l.length : Int)) = false := by rw [beq_eq_false_iff_ne]; omega
        have HB : Hid (res = false) := by show _ = _; rw [HA.out, beq_eq_false_iff_ne]; exact hq
        have HN : Hid (¬ (m.length : Int) = 2 * (l.length : Int)) := by show ¬ _; omega
        clear hq HA M
        go_wp2_with fail
        go_ret
        exact ⟨ret_bool (by rw [HB.out]), hB⟩
    · intro x y u v w4 cnt4 hwx hlx I4 hlt4 hg4 hen
      have hb4 : Below r w3 w4 := hbr.grown hg4 (Nat.le_trans hr3 hbr.size) (fun j hj => by cases hj; exact Nat.le_refl _)
      have hb5 := below_new w4 (.cells #[.int .i64 x, .int .i64 y] 78)
      have q0' := (hb4.cell (p := ⟨w.heap.size, 0, none⟩) hBT).trans t0
      have q1' := (hb4.cell (p := ⟨w.heap.size, 1, none⟩) hBT).trans t1
      have q2' := (hb4.cell (p := ⟨w.heap.size, 2, none⟩) hBT).trans t2
      have hBT4 : w.heap.size < w4.heap.size := Nat.lt_of_lt_of_le hBT (Nat.le_trans hr3 hb4.size)
      replace q0 := (hb5.cell (p := ⟨w.heap.size, 0, none⟩) hBT4).trans q0'
      replace q1 := (hb5.cell (p := ⟨w.heap.size, 1, none⟩) hBT4).trans q1'
      replace q2 := (hb5.cell (p := ⟨w.heap.size, 2, none⟩) hBT4).trans q2'
      have hs : (getE (mapL l) (x, y)).isSome = true := I.sees hwx hlx
      have cP := isPort_any s n a l.length c x y (w4.alloc (.cells #[.int .i64 x, .int .i64 y] 78))
      have hL : wr.rangeLeft b r = cnt := I.left_eq
      clear I t0 t1 t2
      cases hp : isP s n (x, y) with
      | false =>
        rw [hp] at cP
        have HB : Hid (res = false) := by show _ = _; rw [HR.out, no_port hs hp, Bool.false_and]
        clear hs
        go_wp2_with fail
        refine cP.mono ?_
        clear cP
        rintro e w6 ⟨rfl, hb6⟩
        have hB := hb1.trans ((hb4.trans ((below_step hb5 hb6).mono (Nat.le_trans hr3 hb4.size))).mono (by omega))
        go_wp2_with fail
        go_ret
        exact ⟨ret_bool HB.out.symm, hB⟩
      | true =>
        rw [hp] at cP
        clear hs
        go_wp2_with fail
        refine cP.mono ?_
        clear cP
        rintro e w6 ⟨rfl, hb6⟩
        have I6 := I4.later (below_step hb5 hb6)
        have hB : Below r w3 w6 := hb4.trans ((below_step hb5 hb6).mono (Nat.le_trans hr3 hb4.size))
        clear I4 hb4 hb5 hb6
        go_wp2_with fail
        go_roundw
        case rel =>
          refine ⟨_, cnt4, I6, (show Hid _ from fun e he hs h => ?_), hB⟩
          by_cases he2 : e = (x, y)
          · rw [he2]; exact hp
          · exact HE.out e he hs (by simpa [he2] using h)
        case measure => rw [I6.left_eq, hL]; exact hlt4
end
end Go.Proofs.Ytihgpllbgliplaa
