/- What Open of package frame answers, for all bytes: the contract that the claims on its statements rest on. -/
import Derived.Test.YtklcchmpmilcaaaDoorFrameFirst
import Derived.Test.YtklcchmpmilcaaaDoorMsgGet
namespace Go.Proofs.YtklcchmpmilcaaaDoor
open Go.ChangeShapes Go.WideShapes Go.ChangeAt Go.RowKit R Q Fr
set_option linter.unusedVariables false
set_option linter.unusedSimpArgs false

/-- what 'faults' leaves, for 'first' to go through -/
def Firsts (w : World) (a : Option Addr) (n c : Nat) (zz : Int) : Prop := ∀ w1 A B T, Listed w1 A B T → B < w1.heap.size → T < w1.heap.size → w1.cell? ⟨B, 0, none⟩ = some (.slice a n c) → w1.cell? ⟨T, 0, none⟩ = some (.func (.func 42) #[] #[.pointer (some ⟨B, 0, none⟩)]) → Below w.heap.size w w1 →
  Calls Tryd.prog 22 #[.slice (some ⟨A, 0, none⟩) 6 6] w1 fun e w' => e = .returned (.int .i64 zz) ∧ Below w1.heap.size w1 w'
set_option maxHeartbeats 2000000 in
/-- something is wrong with the frame itself -/
theorem open_fault (w : World) {a : Option Addr} {n c : Nat} {zz : Int} (hz : (zz != 0) = true) (k : Firsts w a n c zz) :
    Calls Tryd.prog 12 #[.slice a n c] w fun e w' => e = .returned (.tuple #[.agg #[.int .i64 0, .int .i64 0, .int .i64 0, .int .i64 0, .int .i64 0, .int .i64 0, .int .i64 0, .int .i64 0, .int .i64 0, .int .i64 0], .int .i64 zz]) ∧ Below w.heap.size w w' := by
  have X := Lies.new w [0, 0, 0, 0, 0, 0, 0, 0, 0, 0] 29 rfl
  have hB := below_new w (.cells #[.int .i64 0, .int .i64 0, .int .i64 0, .int .i64 0, .int .i64 0, .int .i64 0, .int .i64 0, .int .i64 0, .int .i64 0, .int .i64 0] 29)
  go_enter Tryd.func12, Tryd.ntmps12
  go_wp2_with fail
  refine (faults_any _ a n c).mono ?_
  rintro e w1 ⟨A, B, T, rfl, L, ltB, ltT, cb, ct, hb⟩
  replace X := X.later hb
  replace hB := below_step hB hb
  clear hb
  go_wp2_with fail
  refine (k _ A B T L ltB ltT cb ct hB).mono ?_
  rintro e w2 ⟨rfl, hb⟩
  replace X := X.later hb
  replace hB := below_step hB hb
  clear hb L cb ct ltB ltT k
  obtain ⟨x0, x1, x2, x3, x4, x5, x6, x7, x8, x9⟩ := X.ten
  have xl := X.lt
  have xf := X.fz
  go_wp2_with fail
  refine bodyPost_ret (v := .tuple #[.agg #[.int .i64 0, .int .i64 0, .int .i64 0, .int .i64 0, .int .i64 0, .int .i64 0, .int .i64 0, .int .i64 0, .int .i64 0, .int .i64 0], .int .i64 zz]) (by simp [results, Tryd.results12, go_sem, x0, x1, x2, x3, x4, x5, x6, x7, x8, x9]) rfl ?_
  exact ⟨rfl, below_lay10 _ _ _ _ _ _ _ _ _ _ hB (Nat.le_refl _)⟩
set_option maxHeartbeats 2000000 in
/-- the frame itself is well: what the message's bytes say -/
theorem open_in (w : World) {bb oo n c N : Nat} {x1 : Int} (k : Firsts w (some ⟨bb, oo, none⟩) n c 0) {y z v g a' n' i p k' t zz : Int}
    (lt : bb < w.heap.size) (c1 : w.cell? ⟨bb, oo + 1, none⟩ = some (.int .u8 (N : Int))) (hN : N ≤ 255) (hn : N + 4 ≤ n) (hc : n ≤ c) (hm : c ≤ maxLen)
    (G : ∀ w1, Below w.heap.size w w1 → Calls Tryd.prog 24 #[.slice (some ⟨bb, oo + 2, none⟩) N (c - 2)] w1 fun e w' => e = .returned (.tuple #[.agg #[.int .i64 y, .int .i64 z, .int .i64 v, .int .i64 g, .int .i64 a', .int .i64 n', .int .i64 i, .int .i64 p, .int .i64 k', .int .i64 t], .int .i64 zz]) ∧ Below w1.heap.size w1 w') :
    Calls Tryd.prog 12 #[.slice (some ⟨bb, oo, none⟩) n c] w fun e w' => e = .returned (.tuple #[.agg #[.int .i64 y, .int .i64 z, .int .i64 v, .int .i64 g, .int .i64 a', .int .i64 n', .int .i64 i, .int .i64 p, .int .i64 k', .int .i64 t], .int .i64 zz]) ∧ Below w.heap.size w w' := by
  have X := Lies.new w [0, 0, 0, 0, 0, 0, 0, 0, 0, 0] 29 rfl
  have hB := below_new w (.cells #[.int .i64 0, .int .i64 0, .int .i64 0, .int .i64 0, .int .i64 0, .int .i64 0, .int .i64 0, .int .i64 0, .int .i64 0, .int .i64 0] 29)
  unfold maxLen at hm
  go_enter Tryd.func12, Tryd.ntmps12
  go_wp2_with fail
  refine (faults_any _ _ n c).mono ?_
  rintro e w1 ⟨A, B, T, rfl, L, ltB, ltT, cb, ct, hb⟩
  replace X := X.later hb
  replace hB := below_step hB hb
  clear hb
  go_wp2_with fail
  refine (k _ A B T L ltB ltT cb ct hB).mono ?_
  rintro e w2 ⟨rfl, hb⟩
  replace X := X.later hb
  replace hB := below_step hB hb
  clear hb L cb ct ltB ltT k
  have d1 := (hB.cell (p := ⟨bb, oo + 1, none⟩) lt).trans c1
  have h1 : (1 : Int) < (n : Int) := by omega
  have h2 : (2 : Int) + (N : Int) ≤ (c : Int) := by omega
  have h3 : (0 : Int) ≤ (2 : Int) + (N : Int) := by omega
  have h4 : (2 : Int) ≤ (2 : Int) + (N : Int) := by omega
  have h5 : ((2 : Int) + (N : Int)).toNat = 2 + N := by omega
  have h6 : 2 + N - 2 = N := by omega
  have h7 : ¬ c = 2 := by omega
  go_wp2_with fail
  refine (G _ hB).mono ?_
  rintro e w3 ⟨rfl, hb⟩
  replace X := X.later hb
  replace hB := below_step hB hb
  clear hb d1
  obtain ⟨x0, x1, x2, x3, x4, x5, x6, x7, x8, x9⟩ := X.ten
  have xl := X.lt
  have xf := X.fz
  go_wp2_with fail
  refine bodyPost_ret (v := .tuple #[.agg #[.int .i64 y, .int .i64 z, .int .i64 v, .int .i64 g, .int .i64 a', .int .i64 n', .int .i64 i, .int .i64 p, .int .i64 k', .int .i64 t], .int .i64 zz]) (by simp [results, Tryd.results12, go_sem, x0, x1, x2, x3, x4, x5, x6, x7, x8, x9]) rfl ?_
  exact ⟨rfl, below_lay10 _ _ _ _ _ _ _ _ _ _ hB (Nat.le_refl _)⟩

/-! ### which of them says yes -/
theorem firsts_short (w : World) {a : Option Addr} {n c : Nat} (h : n < 4) : Firsts w a n c 3 := by
  intro w1 A B T L ltB ltT cb ct hb
  exact first_0 w1 L (fun w2 h2 => clo2_any w2 ((h2.cell (p := ⟨B, 0, none⟩) ltB).trans cb) true (decide_eq_true (by omega)))
theorem nF_cast {b : List Int} (h : O.Oct b) : b.getD 1 0 = (nF b : Int) := by have := h.at 1; unfold nF; omega
theorem mkHeld {w w1 : World} {bb oo c B T : Nat} {b : List Int} (R : Reads .u8 w (some ⟨bb, oo, none⟩) c b) (lt : bb < w.heap.size) (hc : ∀ i, i < b.length → w.cell? ⟨bb, oo + i, none⟩ = some (.int .u8 (b.getD i 0)))
    (h4 : 4 ≤ b.length) (hm : b.length ≤ 100000) (ltB : B < w1.heap.size) (ltT : T < w1.heap.size) (cb : w1.cell? ⟨B, 0, none⟩ = some (.slice (some ⟨bb, oo, none⟩) b.length c)) (ct : w1.cell? ⟨T, 0, none⟩ = some (.func (.func 42) #[] #[.pointer (some ⟨B, 0, none⟩)])) (hb : Below w.heap.size w w1) :
    Held w1 B T bb oo b.length c (nF b) (b.getD 0 0) := by
  refine ⟨ltB, ltT, Nat.lt_of_lt_of_le lt hb.size, cb, ct, ?_, ?_, nF_le R.oct, h4, hm⟩
  · exact (hb.cell (p := ⟨bb, oo, none⟩) lt).trans (by have := hc 0 (by omega); rwa [Nat.add_zero] at this)
  · exact (hb.cell (p := ⟨bb, oo + 1, none⟩) lt).trans (by rw [hc 1 (by omega), nF_cast R.oct])
section
variable {w : World} {bb oo c : Nat} {b : List Int} (R : Reads .u8 w (some ⟨bb, oo, none⟩) c b) (lt : bb < w.heap.size) (hc : ∀ i, i < b.length → w.cell? ⟨bb, oo + i, none⟩ = some (.int .u8 (b.getD i 0))) (h4 : 4 ≤ b.length) (hm : b.length ≤ 100000)
include R lt hc h4 hm
theorem firsts_mark (h : b.getD 0 0 ≠ 197) : Firsts w (some ⟨bb, oo, none⟩) b.length c 2 := by
  intro w1 A B T L ltB ltT cb ct hb
  have H := mkHeld R lt hc h4 hm ltB ltT cb ct hb
  exact first_1 w1 L (fun w2 h2 => clo2_any w2 (H.later h2).cb false (decide_eq_false (by omega))) (fun w2 h2 => clo3_any w2 (H.later h2) true (by simpa using h))
theorem firsts_more (h : b.getD 0 0 = 197) (h5 : b.length < sizeF b) : Firsts w (some ⟨bb, oo, none⟩) b.length c 3 := by
  intro w1 A B T L ltB ltT cb ct hb
  have H := mkHeld R lt hc h4 hm ltB ltT cb ct hb
  unfold sizeF at h5
  exact first_2 w1 L (fun w2 h2 => clo2_any w2 (H.later h2).cb false (decide_eq_false (by omega))) (fun w2 h2 => clo3_any w2 (H.later h2) false (by simpa using h)) (fun w2 h2 => clo4_any w2 (H.later h2) true (decide_eq_true (by omega)))
theorem firsts_long (h : b.getD 0 0 = 197) (h5 : sizeF b < b.length) : Firsts w (some ⟨bb, oo, none⟩) b.length c 2 := by
  intro w1 A B T L ltB ltT cb ct hb
  have H := mkHeld R lt hc h4 hm ltB ltT cb ct hb
  unfold sizeF at h5
  exact first_3 w1 L (fun w2 h2 => clo2_any w2 (H.later h2).cb false (decide_eq_false (by omega))) (fun w2 h2 => clo3_any w2 (H.later h2) false (by simpa using h)) (fun w2 h2 => clo4_any w2 (H.later h2) false (decide_eq_false (by omega))) (fun w2 h2 => clo5_any w2 (H.later h2) true (decide_eq_true (by omega)))
theorem firsts_sum (h : b.getD 0 0 = 197) (h5 : b.length = sizeF b) (h6 : O.sumN b ≠ 0) : Firsts w (some ⟨bb, oo, none⟩) b.length c 4 := by
  intro w1 A B T L ltB ltT cb ct hb
  have H := mkHeld R lt hc h4 hm ltB ltT cb ct hb
  unfold sizeF at h5
  exact first_4 w1 L (fun w2 h2 => clo2_any w2 (H.later h2).cb false (decide_eq_false (by omega))) (fun w2 h2 => clo3_any w2 (H.later h2) false (by simpa using h)) (fun w2 h2 => clo4_any w2 (H.later h2) false (decide_eq_false (by omega))) (fun w2 h2 => clo5_any w2 (H.later h2) false (decide_eq_false (by omega)))
    (fun w2 h2 => clo6_any w2 (H.later h2).cb ((R.later hb).later h2) rfl hm true (by simpa using h6))
theorem firsts_pad (h : b.getD 0 0 = 197) (h5 : b.length = sizeF b) (h6 : O.sumN b = 0) (h7 : badPad b = true) : Firsts w (some ⟨bb, oo, none⟩) b.length c 2 := by
  intro w1 A B T L ltB ltT cb ct hb
  have H := mkHeld R lt hc h4 hm ltB ltT cb ct hb
  unfold sizeF at h5
  obtain ⟨h8, h9⟩ := of_decide_eq_true h7
  have cp := hc (2 + nF b) (by omega)
  exact first_5 w1 L (fun w2 h2 => clo2_any w2 (H.later h2).cb false (decide_eq_false (by omega))) (fun w2 h2 => clo3_any w2 (H.later h2) false (by simpa using h)) (fun w2 h2 => clo4_any w2 (H.later h2) false (decide_eq_false (by omega))) (fun w2 h2 => clo5_any w2 (H.later h2) false (decide_eq_false (by omega)))
    (fun w2 h2 => clo6_any w2 (H.later h2).cb ((R.later hb).later h2) rfl hm false (by simpa using h6))
    (fun w2 h2 => clo7_odd w2 (H.later h2) h8 h5 (((h2.cell (p := ⟨bb, oo + (2 + nF b), none⟩) H.ltb)).trans ((hb.cell (p := ⟨bb, oo + (2 + nF b), none⟩) lt).trans cp)) true (by simpa using h9))
theorem firsts_none (h : b.getD 0 0 = 197) (h5 : b.length = sizeF b) (h6 : O.sumN b = 0) (h7 : badPad b = false) : Firsts w (some ⟨bb, oo, none⟩) b.length c 0 := by
  intro w1 A B T L ltB ltT cb ct hb
  have H := mkHeld R lt hc h4 hm ltB ltT cb ct hb
  unfold sizeF at h5
  refine first_6 w1 L (fun w2 h2 => clo2_any w2 (H.later h2).cb false (decide_eq_false (by omega))) (fun w2 h2 => clo3_any w2 (H.later h2) false (by simpa using h)) (fun w2 h2 => clo4_any w2 (H.later h2) false (decide_eq_false (by omega))) (fun w2 h2 => clo5_any w2 (H.later h2) false (decide_eq_false (by omega)))
    (fun w2 h2 => clo6_any w2 (H.later h2).cb ((R.later hb).later h2) rfl hm false (by simpa using h6)) (fun w2 h2 => ?_)
  by_cases h8 : nF b % 2 = 1
  · have cp := hc (2 + nF b) (by omega)
    have h9 : b.getD (2 + nF b) 0 = 0 := by
      by_cases h9 : b.getD (2 + nF b) 0 = 0
      · exact h9
      · exact absurd ⟨h8, h9⟩ (of_decide_eq_false h7)
    exact clo7_odd w2 (H.later h2) h8 h5 (((h2.cell (p := ⟨bb, oo + (2 + nF b), none⟩) H.ltb)).trans ((hb.cell (p := ⟨bb, oo + (2 + nF b), none⟩) lt).trans cp)) false (by simpa using h9)
  · exact clo7_even w2 (H.later h2) (by omega)
end
theorem in_reads {w : World} {bb oo c : Nat} {b : List Int} (R : Reads .u8 w (some ⟨bb, oo, none⟩) c b) (h4 : 4 ≤ b.length) {w1 : World} (hb : Below w.heap.size w w1) : Reads .u8 w1 (some ⟨bb, oo + 2, none⟩) (c - 2) (inF b) := reads_cut (R.later hb) 2 (nF b) (by omega)
/-- Open, of bytes of no message -/
theorem fOpen_none (w : World) (T : Tab w) {a : Option Addr} {c N : Nat} {b : List Int} {zz : Int} (R : Reads .u8 w a c b) (hN : b.length = N) (hl : N ≤ 100000) (h : foE b = zz) (h0 : zz ≠ 0) :
    Calls Tryd.prog 12 #[.slice a N c] w fun e w' => e = .returned (.tuple #[.agg #[.int .i64 0, .int .i64 0, .int .i64 0, .int .i64 0, .int .i64 0, .int .i64 0, .int .i64 0, .int .i64 0, .int .i64 0, .int .i64 0], .int .i64 zz]) ∧ Below w.heap.size w w' := by
  subst hN
  have hz : (zz != 0) = true := by simpa using h0
  by_cases h4 : b.length < 4
  · rw [foE_short h4] at h
    subst h
    exact open_fault w hz (firsts_short w h4)
  have h4' : 4 ≤ b.length := by omega
  obtain ⟨bb, oo, rfl, lt, hc⟩ := R.cells (by intro e; rw [e] at h4'; cases h4')
  by_cases hm : b.getD 0 0 = 197
  case neg =>
    rw [foE_mark h4' hm] at h
    subst h
    exact open_fault w hz (firsts_mark R lt hc h4' hl hm)
  by_cases h5 : b.length < sizeF b
  · rw [foE_more h4' hm h5] at h
    subst h
    exact open_fault w hz (firsts_more R lt hc h4' hl hm h5)
  by_cases h6 : sizeF b < b.length
  · rw [foE_long h4' hm h6] at h
    subst h
    exact open_fault w hz (firsts_long R lt hc h4' hl hm h6)
  have h7 : b.length = sizeF b := by omega
  by_cases h8 : O.sumN b = 0
  case neg =>
    rw [foE_sum h4' hm h7 h8] at h
    subst h
    exact open_fault w hz (firsts_sum R lt hc h4' hl hm h7 h8)
  cases h9 : badPad b
  · rw [foE_in h4' hm h7 h8 h9] at h
    have hlen := inF_len h7
    have hn := nF_le R.oct
    exact open_in w (x1 := 0) (firsts_none R lt hc h4' hl hm h7 h8 h9) lt (by rw [hc 1 (by omega), nF_cast R.oct]) hn (by unfold sizeF at h7; omega) R.le R.max
      (fun w1 hb => mGet_none w1 (T.later hb) (in_reads R h4' hb) hlen (by omega) h h0)
  · rw [foE_pad h4' hm h7 h8 h9] at h
    subst h
    exact open_fault w hz (firsts_pad R lt hc h4' hl hm h7 h8 h9)
/-- Open, of a frame -/
theorem fOpen_some (w : World) (T : Tab w) {a : Option Addr} {c N : Nat} {b : List Int} {y z v g a' n i p k t : Int} (R : Reads .u8 w a c b) (hN : b.length = N) (hl : N ≤ 100000) (h : foE b = 0) (hm : isMsg (inF b) y z v g a' n i p k t) :
    Calls Tryd.prog 12 #[.slice a N c] w fun e w' => e = .returned (.tuple #[.agg #[.int .i64 y, .int .i64 z, .int .i64 v, .int .i64 g, .int .i64 a', .int .i64 n, .int .i64 i, .int .i64 p, .int .i64 k, .int .i64 t], .int .i64 0]) ∧ Below w.heap.size w w' := by
  subst hN
  obtain ⟨h4, h1, h7, h8, h9, hg⟩ := foE_zero h
  obtain ⟨bb, oo, rfl, lt, hc⟩ := R.cells (by intro e; rw [e] at h4; cases h4)
  have hlen := inF_len h7
  have hn := nF_le R.oct
  exact open_in w (x1 := 0) (firsts_none R lt hc h4 hl h1 h7 h8 h9) lt (by rw [hc 1 (by omega), nF_cast R.oct]) hn (by unfold sizeF at h7; omega) R.le R.max
    (fun w1 hb => mGet_some w1 (T.later hb) (in_reads R h4 hb) hlen (by omega) hg hm)
end Go.Proofs.YtklcchmpmilcaaaDoor
