/- The small steps of the code's sort: scans, reversal, medians, pivots, breaking patterns. -/
import Derived.Test.YtihgpllbgliplaaPickSmall
import Derived.Sort.LotC
import Derived.Sort.Walk7a
/-! Steps of the scans, and of the loops of both partitions. -/
namespace Go.Proofs.Ytihgpllbgliplaa
open Go.ChangeShapes Go.WideShapes Go.ChangeAt Go.RowKit Go.Sort Go.Shelf
set_option linter.unusedVariables false
set_option linter.unusedSimpArgs false

theorem w64_of {x : Int} {y : Nat} (h : x = (y : Int)) (hy : y ≤ 4000000) : wrap64 x = (y : Int) := by rw [h]; exact wrap_6 _ (by omega) (by omega)
theorem w64i_of {x : Int} {y : Nat} (h : x = (y : Int)) (hy : y ≤ 4000000) : IntKind.i64.wrap x = (y : Int) := by rw [h]; exact wrap_i _ (by omega) (by omega)
theorem part_facts (a b N : Nat) (hab : a < b) (h1 : 1 ≤ b) (hb : b ≤ N) (hN : N ≤ 1000) : ∃ i j : Nat, a + 1 = i ∧ b - 1 = j ∧ (a < i ∧ i ≤ j + 1 ∧ j < b) ∧ IntKind.i64.wrap ((a : Int) + 1) = (i : Int) ∧ wrap64 ((a : Int) + 1) = (i : Int) ∧ IntKind.i64.wrap ((b : Int) - 1) = (j : Int) ∧ wrap64 ((b : Int) - 1) = (j : Int) := by
  refine ⟨a + 1, b - 1, rfl, rfl, by omega, ?_, ?_, ?_, ?_⟩
  · rw [wrap_i _ (by omega) (by omega)]; omega
  · rw [wrap_6 _ (by omega) (by omega)]; omega
  · rw [wrap_i _ (by omega) (by omega)]; omega
  · rw [wrap_6 _ (by omega) (by omega)]; omega
theorem Row.c2 {n : Nat} {w0 w : World} {B : Nat} {d : Array (Fin (n + 1))} (h : Row w0 B d w) {i j : Nat} (hi : i < d.size) (hj : j < d.size) (v : Value) : ∃ u, (w.setCell ⟨B, i, none⟩ v).cell? ⟨B, j, none⟩ = some u := by
  by_cases e : i = j
  · subst e; exact ⟨_, World.cell?_setCell_same' _ _ _ (by rw [h.cell i hi]; rfl)⟩
  · exact ⟨_, (World.cell?_setCell_other w ⟨B, i, none⟩ ⟨B, j, none⟩ _ (by intro h; injection h with h1 h2; exact e h2)).trans (h.cell j hj)⟩
section
variable {α : Type} [Inhabited α] {p : α → Bool} {d : Array α} {i j : Nat}
theorem up_go (h : i ≤ j) (hp : p d[i]! = true) : scanUp p d j i = scanUp p d j (i + 1) := by
  rw [scanUp, if_pos (by simp [h, hp])]
theorem up_stop (hp : p d[i]! = false) : scanUp p d j i = i := by rw [scanUp, if_neg (by simp [hp])]
theorem up_end (h : j < i) : scanUp p d j i = i := by rw [scanUp, if_neg (by simp; intro h2; omega)]
theorem down_go (h : i ≤ j + 1) (hp : p d[j + 1]! = true) : scanDown p d i (j + 1) = scanDown p d i j := by
  rw [scanDown, if_pos (by simp [h, hp])]
theorem down_stop (hp : p d[j]! = false) : scanDown p d i j = j := by
  cases j with
  | zero => rfl
  | succ j => rw [scanDown, if_neg (by simp [hp])]
theorem down_end (h : j < i) : scanDown p d i j = j := by
  cases j with
  | zero => rfl
  | succ j => rw [scanDown, if_neg (by simp; intro h2; omega)]
variable {lt : α → α → Bool} {a k m : Nat} {r : Nat × Array α}
theorem part_done (h : partLoop lt a i j d = r) (h1 : scanUp (fun x => lt x d[a]!) d j i = k) (h2 : scanDown (fun x => !lt x d[a]!) d k j = m) (h3 : m < k) : r = (m, d) := by
  subst h1; rw [partLoop_eq, h2, if_pos h3] at h; exact h.symm
theorem part_next (h : partLoop lt a i j d = r) (h1 : scanUp (fun x => lt x d[a]!) d j i = k) (h2 : scanDown (fun x => !lt x d[a]!) d k j = m) (h3 : ¬ m < k) : partLoop lt a (k + 1) (m - 1) (swp d k m) = r := by
  subst h1; rw [partLoop_eq, h2, if_neg h3] at h; exact h
theorem partE_done (h : partEqLoop lt a i j d = r) (h1 : scanUp (fun x => !lt d[a]! x) d j i = k) (h2 : scanDown (fun x => lt d[a]! x) d k j = m) (h3 : m < k) : r = (k, d) := by
  subst h1; rw [partEqLoop_eq, h2, if_pos h3] at h; exact h.symm
theorem partE_next (h : partEqLoop lt a i j d = r) (h1 : scanUp (fun x => !lt d[a]! x) d j i = k) (h2 : scanDown (fun x => lt d[a]! x) d k j = m) (h3 : ¬ m < k) : partEqLoop lt a (k + 1) (m - 1) (swp d k m) = r := by
  subst h1; rw [partEqLoop_eq, h2, if_neg h3] at h; exact h
end
end Go.Proofs.Ytihgpllbgliplaa

/-! What the library's reversal does to a row of numbers; the steps of a sift. -/
namespace Go.Proofs.Ytihgpllbgliplaa
open Go.ChangeShapes Go.WideShapes Go.ChangeAt Go.RowKit Go.Sort Go.Shelf
set_option linter.unusedVariables false
set_option linter.unusedSimpArgs false

section
variable {n : Nat} (lt : Fin (n + 1) → Fin (n + 1) → Bool) {hi first r ch ch1 p0 p1 p2 : Nat} {d : Array (Fin (n + 1))}
theorem sift_c1 (h0 : 2 * r + 1 = ch) (h1 : ch < hi) (h2 : first + r = p0 ∧ first + ch = p1) (h : ¬ ch + 1 < hi ∨ lt d[first + ch]! d[first + ch + 1]! = false) (hs : lt d[p0]! d[p1]! = false) : siftDown lt hi first r d = d := by
  obtain ⟨rfl, rfl⟩ := h2
  subst h0
  rw [siftDown, dif_neg (by omega), if_neg (by rcases h with h | h <;> simp [h]), if_pos (by rw [hs]; rfl)]
theorem sift_c2 (h0 : 2 * r + 1 = ch) (h1 : ch < hi) (h2 : first + r = p0 ∧ first + ch = p1) (h : ¬ ch + 1 < hi ∨ lt d[first + ch]! d[first + ch + 1]! = false) (hs : lt d[p0]! d[p1]! = true) : siftDown lt hi first r d = siftDown lt hi first ch (swp d p0 p1) := by
  obtain ⟨rfl, rfl⟩ := h2
  subst h0
  rw [siftDown, dif_neg (by omega), if_neg (by rcases h with h | h <;> simp [h]), if_neg (by rw [hs]; decide)]
theorem sift_b1 (h0 : 2 * r + 1 = ch) (h1 : ch + 1 = ch1) (h2 : ch1 < hi) (h3 : first + r = p0) (h4 : first + ch = p1 ∧ p1 + 1 = p2) (h : lt d[p1]! d[p2]! = true) (hs : lt d[p0]! d[p2]! = false) : siftDown lt hi first r d = d := by
  obtain ⟨rfl, rfl⟩ := h4
  subst h0 h1 h3
  rw [siftDown, dif_neg (by omega), if_pos (by rw [h]; simpa using h2), if_pos (by rw [show first + (2 * r + 2) = first + (2 * r + 1) + 1 by omega, hs]; rfl)]
theorem sift_b2 (h0 : 2 * r + 1 = ch) (h1 : ch + 1 = ch1) (h2 : ch1 < hi) (h3 : first + r = p0) (h4 : first + ch = p1 ∧ p1 + 1 = p2) (h : lt d[p1]! d[p2]! = true) (hs : lt d[p0]! d[p2]! = true) : siftDown lt hi first r d = siftDown lt hi first ch1 (swp d p0 p2) := by
  obtain ⟨rfl, rfl⟩ := h4
  subst h0 h1 h3
  rw [siftDown, dif_neg (by omega), if_pos (by rw [h]; simpa using h2), if_neg (by rw [show first + (2 * r + 2) = first + (2 * r + 1) + 1 by omega, hs]; decide), dif_pos (by omega), show first + (2 * r + 2) = first + (2 * r + 1) + 1 by omega]
theorem sift_facts (r first : Nat) (hr : r ≤ 1000) (hf : first ≤ 1000) : ∃ r2 ch ch1 p0 p1 p2 : Nat, 2 * r = r2 ∧ r2 + 1 = ch ∧ ch + 1 = ch1 ∧ first + r = p0 ∧ first + ch = p1 ∧ p1 + 1 = p2 ∧ IntKind.i64.wrap (2 * (r : Int)) = (r2 : Int) ∧ wrap64 (2 * (r : Int)) = (r2 : Int) ∧ IntKind.i64.wrap ((r2 : Int) + 1) = (ch : Int) ∧ wrap64 ((r2 : Int) + 1) = (ch : Int) ∧ IntKind.i64.wrap ((ch : Int) + 1) = (ch1 : Int) ∧ wrap64 ((ch : Int) + 1) = (ch1 : Int) ∧ IntKind.i64.wrap ((first : Int) + (r : Int)) = (p0 : Int) ∧ wrap64 ((first : Int) + (r : Int)) = (p0 : Int) ∧ IntKind.i64.wrap ((first : Int) + (ch : Int)) = (p1 : Int) ∧ wrap64 ((first : Int) + (ch : Int)) = (p1 : Int) ∧ IntKind.i64.wrap ((p1 : Int) + 1) = (p2 : Int) ∧ wrap64 ((p1 : Int) + 1) = (p2 : Int) ∧ IntKind.i64.wrap ((first : Int) + (ch1 : Int)) = (p2 : Int) ∧ wrap64 ((first : Int) + (ch1 : Int)) = (p2 : Int) := by
  refine ⟨2 * r, 2 * r + 1, 2 * r + 1 + 1, first + r, first + (2 * r + 1), first + (2 * r + 1) + 1, rfl, rfl, rfl, rfl, rfl, rfl, ?_, ?_, ?_, ?_, ?_, ?_, ?_, ?_, ?_, ?_, ?_, ?_, ?_, ?_⟩
  · rw [wrap_i _ (by omega) (by omega)]; omega
  · rw [wrap_6 _ (by omega) (by omega)]; omega
  · rw [wrap_i _ (by omega) (by omega)]; omega
  · rw [wrap_6 _ (by omega) (by omega)]; omega
  · rw [wrap_i _ (by omega) (by omega)]; omega
  · rw [wrap_6 _ (by omega) (by omega)]; omega
  · rw [wrap_i _ (by omega) (by omega)]; omega
  · rw [wrap_6 _ (by omega) (by omega)]; omega
  · rw [wrap_i _ (by omega) (by omega)]; omega
  · rw [wrap_6 _ (by omega) (by omega)]; omega
  · rw [wrap_i _ (by omega) (by omega)]; omega
  · rw [wrap_6 _ (by omega) (by omega)]; omega
  · rw [wrap_i _ (by omega) (by omega)]; omega
  · rw [wrap_6 _ (by omega) (by omega)]; omega
theorem rev_go {i j : Nat} (h : i < j) : reverseLoop i j d = reverseLoop (i + 1) (j - 1) (swp d i j) := by rw [reverseLoop, if_pos h]
theorem rev_stop {i j : Nat} (h : ¬ i < j) : reverseLoop i j d = d := by rw [reverseLoop, if_neg h]
end
section
set_option maxRecDepth 100000
set_option maxHeartbeats 16000000
variable {n : Nat} {w0 : World} {B : Nat} {rv : Value} {cf : Fin (n + 1) → Fin (n + 1) → Int}
theorem rev_any {w : World} {d : Array (Fin (n + 1))} (R : Row w0 B d w) {a b c : Nat} (hab : a ≤ b) (hb1 : 1 ≤ b) (hb : b ≤ d.size) (hsz : d.size ≤ 1000) :
    Calls Try.prog 69 #[.slice (some ⟨B, 0, none⟩) d.size c, .int .i64 (a : Nat), .int .i64 (b : Nat), mv rv] w fun e w' => e = .returned (.tuple #[]) ∧ Row w0 B (reverseRange d a b) w' := by
  have mixed : Try.prog.follows .mixedOrders = true := by kernel_rfl
  obtain ⟨b', hb'⟩ : ∃ b', b - 1 = b' := ⟨_, rfl⟩
  have HD : Hid (reverseRange d a b = reverseLoop a b' d) := by show _ = _; unfold reverseRange; rw [hb']
  generalize reverseRange d a b = res at HD
  have m1a : IntKind.i64.wrap ((b : Int) - 1) = (b' : Int) := by rw [wrap_i _ (by omega) (by omega)]; omega
  have m1b : wrap64 ((b : Int) - 1) = (b' : Int) := by rw [wrap_6 _ (by omega) (by omega)]; omega
  go_enter Try.func69, Try.ntmps69
  go_wp2_with fail
  go_loopw [8, 9] (fun vi vj wr => ∃ (i j : Nat) (dk : Array (Fin (n + 1))), vi = .int .i64 (i : Nat) ∧ vj = .int .i64 (j : Nat) ∧ i ≤ 1001 ∧ j < d.size ∧ dk.size = d.size ∧ Row w0 B dk wr ∧ Hid (res = reverseLoop i j dk)) (fun _ vj _ => (intOf vj).toNat)
  case atStart => exact ⟨a, b', d, rfl, rfl, by omega, by omega, rfl, R, HD⟩
  case round =>
    clear R
    obtain ⟨i, j, dj, rfl, rfl, hi, hj, hsj, R5, H2⟩ := hrel
    by_cases hlt : i < j
    · have hltz : (i : Int) < (j : Int) := by omega
      obtain ⟨j', hj'⟩ : ∃ j', j - 1 = j' := ⟨_, rfl⟩
      have H3 : Hid (res = reverseLoop (i + 1) j' (swp dj i j)) := by show _ = _; rw [H2.out, rev_go hlt, hj']
      clear H2
      have m2a : IntKind.i64.wrap ((j : Int) - 1) = (j' : Int) := by rw [wrap_i _ (by omega) (by omega)]; omega
      have m2b : wrap64 ((j : Int) - 1) = (j' : Int) := by rw [wrap_6 _ (by omega) (by omega)]; omega
      have i0 : (i : Int) < (d.size : Int) := by omega
      have i1 : (j : Int) < (d.size : Int) := by omega
      obtain ⟨u, hu⟩ : ∃ u, dj[i]! = u := ⟨_, rfl⟩
      obtain ⟨v, hv⟩ : ∃ v, dj[j]! = v := ⟨_, rfl⟩
      have c1 := R5.cell i (by omega)
      have c2 := R5.cell j (by omega)
      have f1 := R5.frozen i (by omega)
      have f2 := R5.frozen j (by omega)
      have R6 := (R5.swap (i := i) (j := j) (by omega) (by omega) hu hv).drew
      rw [hu] at c1
      rw [hv] at c2
      have c3 := (World.cell?_setCell_other wr ⟨B, i, none⟩ ⟨B, j, none⟩ (.int .i64 ((v : Nat) : Int)) (by intro e; injection e with _ e2; omega)).trans c2
      clear R5 hu hv
      go_wp2_with fail
      go_big_region_o
      go_wp2_with fail
      go_roundw
      case rel => exact ⟨i + 1, j', swp dj i j, by go_num, rfl, by omega, by omega, by rw [swp_size]; exact hsj, R6, H3⟩
      case measure => simp [intOf]; omega
    · have hltz : ¬ (i : Int) < (j : Int) := by omega
      go_wp2_with fail
      go_end0
      exact ⟨rfl, by rw [H2.out, rev_stop hlt]; exact R5⟩
end
end Go.Proofs.Ytihgpllbgliplaa

/-! What the library's choice of a pivot answers: one of the places; the row stays as it was. -/
namespace Go.Proofs.Ytihgpllbgliplaa
open Go.ChangeShapes Go.WideShapes Go.ChangeAt Go.RowKit Go.Sort Go.Shelf
set_option linter.unusedVariables false
set_option linter.unusedSimpArgs false

theorem Row.newCell {n : Nat} {w0 w : World} {B : Nat} {d : Array (Fin (n + 1))} (h : Row w0 B d w) {C o : Nat} (hC : w0.heap.size ≤ C) (v : Value) : Row w0 B d (w.setCell ⟨C, o, none⟩ v) :=
  ⟨h.keep.setCell (p := ⟨C, o, none⟩) (fun hl => absurd hl (Nat.not_lt.2 hC)) v, h.lt,
    fun i hi => (World.cell?_setCell_other w ⟨C, o, none⟩ ⟨B, i, none⟩ v (by intro e; injection e with e1 _; have := h.lt; omega)).trans (h.cell i hi),
    fun i hi => by rw [World.frozen?_setCell]; exact h.frozen i hi⟩
/-- a counter beside the row, in a block of its own -/
structure Cnt {n : Nat} (w0 : World) (B : Nat) (d : Array (Fin (n + 1))) (C s : Nat) (w : World) : Prop where
  row : Row w0 B d w
  cell : w.cell? ⟨C, 0, none⟩ = some (.int .i64 (s : Int))
  frozen : w.frozen? ⟨C, 0, none⟩ = false
  old : w0.heap.size ≤ C
  lt : C < w.heap.size
section
variable {n : Nat} {w0 w w' : World} {B C s : Nat} {d : Array (Fin (n + 1))}
theorem Cnt.later (h : Cnt w0 B d C s w) (hb : Below w.heap.size w w') : Cnt w0 B d C s w' :=
  ⟨h.row.later hb, (hb.cell (p := ⟨C, 0, none⟩) h.lt).trans h.cell, (hb.frozen (p := ⟨C, 0, none⟩) h.lt).trans h.frozen, h.old, Nat.lt_of_lt_of_le h.lt hb.size⟩
theorem Cnt.bump (h : Cnt w0 B d C s w) (t : Nat) : Cnt w0 B d C t (w.setCell ⟨C, 0, none⟩ (.int .i64 (t : Int))) :=
  ⟨h.row.newCell h.old _, World.cell?_setCell_same' _ _ _ (by rw [h.cell]; rfl), by rw [World.frozen?_setCell]; exact h.frozen, h.old, by simpa using h.lt⟩
theorem Cnt.start (h : Row w0 B d w) (T : TypeId) : Cnt w0 B d w.heap.size 0 (w.alloc (.cells #[.int .i64 0] T)) :=
  ⟨h.later (below_new _ _), by simp, by simp, h.keep.size, by simp⟩
end
section
set_option maxRecDepth 100000
set_option maxHeartbeats 4000000
variable {n : Nat} {w0 : World} {B : Nat} {rv : Value} {cf : Fin (n + 1) → Fin (n + 1) → Int} (hc : Cmp w0 B rv cf)
include hc
theorem ord2_any {w : World} {d : Array (Fin (n + 1))} {C s : Nat} (K : Cnt w0 B d C s w) {a b c : Nat} (ha : a < d.size) (hb : b < d.size) (hsz : d.size ≤ 1000) (hs : s ≤ 1000) :
    Calls Try.prog 82 #[.slice (some ⟨B, 0, none⟩) d.size c, .int .i64 (a : Nat), .int .i64 (b : Nat), .pointer (some ⟨C, 0, none⟩), mv rv] w fun e w' => ∃ x y t : Nat, e = .returned (.tuple #[.int .i64 (x : Int), .int .i64 (y : Int)]) ∧ ((x = a ∧ y = b) ∨ (x = b ∧ y = a)) ∧ t ≤ s + 1 ∧ Cnt w0 B d C t w' := by
  have eg := enters20
  have mixed : Try.prog.follows .mixedOrders = true := by kernel_rfl
  have i0 : (a : Int) < (d.size : Int) := by omega
  have i1 : (b : Int) < (d.size : Int) := by omega
  obtain ⟨x, hx⟩ : ∃ x, d[b]! = x := ⟨_, rfl⟩
  obtain ⟨y, hy⟩ : ∃ y, d[a]! = y := ⟨_, rfl⟩
  have l1 := K.row.at (i := b) (by omega) hx
  have l2 := K.row.at (i := a) (by omega) hy
  have cc := K.row.cmp hc x y
  clear hx hy
  by_cases hv : cf x y < 0
  · have m1 : wrap64 ((s : Int) + 1) = ((s + 1 : Nat) : Int) := by rw [wrap_6 _ (by omega) (by omega)]; omega
    have m2 : IntKind.i64.wrap ((s : Int) + 1) = ((s + 1 : Nat) : Int) := by rw [wrap_i _ (by omega) (by omega)]; omega
    go_enter Try.func82, Try.ntmps82
    go_wp2_with fail
    refine wp_region_below (by kernel_rfl) (by kernel_rfl) ?_
    repeat (quiet_step ((go_at_call 50; exact cc _)))
    refine wpQuiet_nil ?_
    rintro _ ⟨bw, rfl⟩
    have K2 := K.later bw.hb
    clear l1 l2 cc K
    generalize bw.w = w3 at K2 ⊢
    have c1 := K2.cell
    have f1 := K2.frozen
    have K3 := K2.bump (s + 1)
    clear K2
    go_wp2_with fail
    go_ret2
    exact ⟨b, a, s + 1, rfl, .inr ⟨rfl, rfl⟩, Nat.le_refl _, K3⟩
  · go_enter Try.func82, Try.ntmps82
    go_wp2_with fail
    refine wp_region_below (by kernel_rfl) (by kernel_rfl) ?_
    repeat (quiet_step ((go_at_call 50; exact cc _)))
    refine wpQuiet_nil ?_
    rintro _ ⟨bw, rfl⟩
    have K2 := K.later bw.hb
    clear l1 l2 cc K
    generalize bw.w = w3 at K2 ⊢
    go_wp2_with fail
    go_ret2
    exact ⟨a, b, s, rfl, .inl ⟨rfl, rfl⟩, Nat.le_succ _, K2⟩
theorem med_any {w : World} {d : Array (Fin (n + 1))} {C s : Nat} (K : Cnt w0 B d C s w) {a b e c : Nat} (ha : a < d.size) (hb : b < d.size) (he : e < d.size) (hsz : d.size ≤ 1000) (hs : s ≤ 900) :
    Calls Try.prog 81 #[.slice (some ⟨B, 0, none⟩) d.size c, .int .i64 (a : Nat), .int .i64 (b : Nat), .int .i64 (e : Nat), .pointer (some ⟨C, 0, none⟩), mv rv] w fun r w' => ∃ x t : Nat, r = .returned (.int .i64 (x : Int)) ∧ (x = a ∨ x = b ∨ x = e) ∧ t ≤ s + 3 ∧ Cnt w0 B d C t w' := by
  go_enter Try.func81, Try.ntmps81
  go_wp2_with fail
  refine (ord2_any hc K (c := c) ha hb hsz (by omega)).mono ?_
  rintro r w1 ⟨x1, y1, t1, rfl, h1, g1, K1⟩
  clear K
  have hx1 : x1 < d.size := by omega
  have hy1 : y1 < d.size := by omega
  go_wp2_with fail
  refine (ord2_any hc K1 (c := c) hy1 he hsz (by omega)).mono ?_
  rintro r w2 ⟨x2, y2, t2, rfl, h2, g2, K2⟩
  clear K1
  have hx2 : x2 < d.size := by omega
  go_wp2_with fail
  refine (ord2_any hc K2 (c := c) hx1 hx2 hsz (by omega)).mono ?_
  rintro r w3 ⟨x3, y3, t3, rfl, h3, g3, K3⟩
  clear K2
  go_wp2_with fail
  go_ret
  exact ⟨y3, t3, rfl, by omega, by omega, K3⟩
theorem meda_any {w : World} {d : Array (Fin (n + 1))} {C s : Nat} (K : Cnt w0 B d C s w) {a c : Nat} (ha : 1 ≤ a) (hb : a + 1 < d.size) (hsz : d.size ≤ 1000) (hs : s ≤ 900) :
    Calls Try.prog 80 #[.slice (some ⟨B, 0, none⟩) d.size c, .int .i64 (a : Nat), .pointer (some ⟨C, 0, none⟩), mv rv] w fun r w' => ∃ x t : Nat, r = .returned (.int .i64 (x : Int)) ∧ (a ≤ x + 1 ∧ x ≤ a + 1) ∧ t ≤ s + 3 ∧ Cnt w0 B d C t w' := by
  obtain ⟨p, hp⟩ : ∃ p : Nat, a - 1 = p := ⟨_, rfl⟩
  obtain ⟨q, hq⟩ : ∃ q : Nat, a + 1 = q := ⟨_, rfl⟩
  have m1 : wrap64 ((a : Int) - 1) = (p : Int) := by rw [wrap_6 _ (by omega) (by omega)]; omega
  have m2 : IntKind.i64.wrap ((a : Int) - 1) = (p : Int) := by rw [wrap_i _ (by omega) (by omega)]; omega
  have m3 : wrap64 ((a : Int) + 1) = (q : Int) := by rw [wrap_6 _ (by omega) (by omega)]; omega
  have m4 : IntKind.i64.wrap ((a : Int) + 1) = (q : Int) := by rw [wrap_i _ (by omega) (by omega)]; omega
  have cm := med_any hc K (a := p) (b := a) (e := q) (c := c) (by omega) (by omega) (by omega) hsz hs
  go_enter Try.func80, Try.ntmps80
  go_wp2_with fail
  refine cm.mono ?_
  rintro r w1 ⟨x, t, rfl, h1, g1, K1⟩
  go_wp2_with fail
  go_ret
  exact ⟨x, t, rfl, by omega, g1, K1⟩
end
end Go.Proofs.Ytihgpllbgliplaa

/-! What the library's choice of a pivot answers: a place of the part, and a hint; the row stays as it was. -/
namespace Go.Proofs.Ytihgpllbgliplaa
open Go.ChangeShapes Go.WideShapes Go.ChangeAt Go.RowKit Go.Sort Go.Shelf
set_option linter.unusedVariables false
set_option linter.unusedSimpArgs false

theorem pivot_facts (a b N : Nat) (hab : a + 8 ≤ b) (hb : b ≤ N) (hN : N ≤ 1000) : ∃ L Q I Q2 J Q3 K : Nat, (8 : Int) ≤ (L : Int) ∧ (a + 1 ≤ I ∧ 1 ≤ I ∧ I + 1 < b ∧ I + 1 < N) ∧ (a + 1 ≤ J ∧ 1 ≤ J ∧ J + 1 < b ∧ J + 1 < N) ∧ (a + 1 ≤ K ∧ 1 ≤ K ∧ K + 1 < b ∧ K + 1 < N) ∧ wrap64 ((b : Int) - (a : Int)) = (L : Int) ∧ IntKind.i64.wrap ((b : Int) - (a : Int)) = (L : Int) ∧ (L : Int) / 4 = (Q : Int) ∧ wrap64 (Q : Int) = (Q : Int) ∧ wrap64 ((a : Int) + (Q : Int)) = (I : Int) ∧ IntKind.i64.wrap ((a : Int) + (Q : Int)) = (I : Int) ∧ wrap64 ((Q : Int) * 2) = (Q2 : Int) ∧ IntKind.i64.wrap ((Q : Int) * 2) = (Q2 : Int) ∧ wrap64 ((a : Int) + (Q2 : Int)) = (J : Int) ∧ IntKind.i64.wrap ((a : Int) + (Q2 : Int)) = (J : Int) ∧ wrap64 ((Q : Int) * 3) = (Q3 : Int) ∧ IntKind.i64.wrap ((Q : Int) * 3) = (Q3 : Int) ∧ wrap64 ((a : Int) + (Q3 : Int)) = (K : Int) ∧ IntKind.i64.wrap ((a : Int) + (Q3 : Int)) = (K : Int) := by
  refine ⟨b - a, (b - a) / 4, a + (b - a) / 4, (b - a) / 4 * 2, a + (b - a) / 4 * 2, (b - a) / 4 * 3, a + (b - a) / 4 * 3, by omega, by omega, by omega, by omega, ?_, ?_, ?_, ?_, ?_, ?_, ?_, ?_, ?_, ?_, ?_, ?_, ?_, ?_⟩
  · rw [wrap_6 _ (by omega) (by omega)]; omega
  · rw [wrap_i _ (by omega) (by omega)]; omega
  · omega
  · rw [wrap_6 _ (by omega) (by omega)]
  · rw [wrap_6 _ (by omega) (by omega)]; omega
  · rw [wrap_i _ (by omega) (by omega)]; omega
  · rw [wrap_6 _ (by omega) (by omega)]; omega
  · rw [wrap_i _ (by omega) (by omega)]; omega
  · rw [wrap_6 _ (by omega) (by omega)]; omega
  · rw [wrap_i _ (by omega) (by omega)]; omega
  · rw [wrap_6 _ (by omega) (by omega)]; omega
  · rw [wrap_i _ (by omega) (by omega)]; omega
  · rw [wrap_6 _ (by omega) (by omega)]; omega
  · rw [wrap_i _ (by omega) (by omega)]; omega
section
set_option maxRecDepth 100000
set_option maxHeartbeats 4000000
variable {n : Nat} {w0 : World} {B : Nat} {rv : Value} {cf : Fin (n + 1) → Fin (n + 1) → Int} (hc : Cmp w0 B rv cf)
include hc
theorem pivot_any {w : World} {d : Array (Fin (n + 1))} (R : Row w0 B d w) {a b c : Nat} (hab : a + 8 ≤ b) (hb : b ≤ d.size) (hsz : d.size ≤ 1000) :
    Calls Try.prog 68 #[.slice (some ⟨B, 0, none⟩) d.size c, .int .i64 (a : Nat), .int .i64 (b : Nat), mv rv] w fun e w' => ∃ (p : Nat) (h : Int), e = .returned (.tuple #[.int .i64 (p : Int), .int .i64 h]) ∧ a ≤ p ∧ p < b ∧ Row w0 B d w' := by
  obtain ⟨L, Q, I, Q2, J, Q3, K, h8, bI, bJ, bK, m0, m1, m2, m3, m4, m5, m6, m7, m8, m9, m10, m11, m12, m13⟩ := pivot_facts a b d.size hab hb hsz
  have C0 := Cnt.start R 3
  have HB : Hid ((a + 1 ≤ I ∧ 1 ≤ I ∧ I + 1 < b ∧ I + 1 < d.size) ∧ (a + 1 ≤ J ∧ 1 ≤ J ∧ J + 1 < b ∧ J + 1 < d.size) ∧ (a + 1 ≤ K ∧ 1 ≤ K ∧ K + 1 < b ∧ K + 1 < d.size)) := ⟨bI, bJ, bK⟩
  clear bI bJ bK
  by_cases h50z : (50 : Int) ≤ (L : Int)
  · skip
    go_enter Try.func68, Try.ntmps68
    go_wp2_with fail
    clear m0 m1 m2 m3 m4 m5 m6 m7 m8 m9 m10 m11 m12 m13 h8
    obtain ⟨bI, bJ, bK⟩ := HB.out
    refine (meda_any hc C0 (a := I) (c := c) bI.2.1 bI.2.2.2 hsz (by omega)).mono ?_
    rintro r w1 ⟨x1, t1, rfl, h1, g1, K1⟩
    go_wp2_with fail
    refine (meda_any hc K1 (a := J) (c := c) bJ.2.1 bJ.2.2.2 hsz (by omega)).mono ?_
    rintro r w2 ⟨x2, t2, rfl, h2, g2, K2⟩
    go_wp2_with fail
    refine (meda_any hc K2 (a := K) (c := c) bK.2.1 bK.2.2.2 hsz (by omega)).mono ?_
    rintro r w3 ⟨x3, t3, rfl, h3, g3, K3⟩
    clear K1 K2 C0 R
    go_wp2_with fail
    refine (med_any hc K3 (a := x1) (b := x2) (e := x3) (c := c) (by omega) (by omega) (by omega) hsz (by omega)).mono ?_
    rintro r w4 ⟨x, t, rfl, h4, g4, K4⟩
    clear K3
    have hx1 : a ≤ x := by omega
    have hx2 : x < b := by omega
    have c1 := K4.cell
    have R5 := K4.row
    clear K4 h1 h2 h3 h4
    by_cases e0 : t = 0
    · subst e0
      go_wp2_with fail
      go_ret2
      exact ⟨x, _, rfl, hx1, hx2, R5⟩
    · by_cases e12 : t = 12
      · subst e12
        go_wp2_with fail
        go_ret2
        exact ⟨x, _, rfl, hx1, hx2, R5⟩
      · have q0 : ((t : Int) == 0) = false := by rw [beq_eq_false_iff_ne]; omega
        have q12 : ((t : Int) == 12) = false := by rw [beq_eq_false_iff_ne]; omega
        have e0z : ¬ (t : Int) = 0 := by omega
        have e12z : ¬ (t : Int) = 12 := by omega
        go_wp2_with fail
        go_ret2
        exact ⟨x, _, rfl, hx1, hx2, R5⟩
  · skip
    go_enter Try.func68, Try.ntmps68
    go_wp2_with fail
    clear m0 m1 m2 m3 m4 m5 m6 m7 m8 m9 m10 m11 m12 m13 h8
    obtain ⟨bI, bJ, bK⟩ := HB.out
    refine (med_any hc C0 (a := I) (b := J) (e := K) (c := c) (by omega) (by omega) (by omega) hsz (by omega)).mono ?_
    rintro r w4 ⟨x, t, rfl, h4, g4, K4⟩
    clear C0 R
    have hx1 : a ≤ x := by omega
    have hx2 : x < b := by omega
    have c1 := K4.cell
    have R5 := K4.row
    clear K4 h4
    by_cases e0 : t = 0
    · subst e0
      go_wp2_with fail
      go_ret2
      exact ⟨x, _, rfl, hx1, hx2, R5⟩
    · have q0 : ((t : Int) == 0) = false := by rw [beq_eq_false_iff_ne]; omega
      have q12 : ((t : Int) == 12) = false := by rw [beq_eq_false_iff_ne]; omega
      have e0z : ¬ (t : Int) = 0 := by omega
      have e12z : ¬ (t : Int) = 12 := by omega
      go_wp2_with fail
      go_ret2
      exact ⟨x, _, rfl, hx1, hx2, R5⟩
end
end Go.Proofs.Ytihgpllbgliplaa

/-! What the library's breaking of patterns does to a row of numbers: it exchanges some of the part. -/
namespace Go.Proofs.Ytihgpllbgliplaa
open Go.ChangeShapes Go.WideShapes Go.ChangeAt Go.RowKit Go.Sort Go.Shelf
set_option linter.unusedVariables false
set_option linter.unusedSimpArgs false

section
set_option maxRecDepth 100000
set_option maxHeartbeats 2000000
theorem xs_any {X r0 : Nat} (hr : r0 < 18446744073709551616) (w : World) (hc : w.cell? ⟨X, 0, none⟩ = some (.int .u64 (r0 : Int))) (hf : w.frozen? ⟨X, 0, none⟩ = false) :
    Calls Try.prog 79 #[.pointer (some ⟨X, 0, none⟩)] w fun e w' => ∃ r : Nat, r < 18446744073709551616 ∧ e = .returned (.int .u64 (r : Int)) ∧ w' = (w.setCell ⟨X, 0, none⟩ (.int .u64 (r : Int))).drewN 3 := by
  have mixed : Try.prog.follows .mixedOrders = true := by kernel_rfl
  have cut : ∀ k : Nat, ((k % 18446744073709551616 : Nat) : Int) = (k : Int) % 18446744073709551616 := fun k => by omega
  have small : ∀ k : Nat, k % 18446744073709551616 < 18446744073709551616 := fun k => Nat.mod_lt _ (by decide)
  have lx : ∀ {x y : Nat}, x < 18446744073709551616 → y < 18446744073709551616 → x ^^^ y < 18446744073709551616 := fun hx hy => Nat.xor_lt_two_pow (n := 64) hx hy
  obtain ⟨r1, h1⟩ : ∃ r1 : Nat, r1 = r0 ^^^ (r0 * 8192 % 18446744073709551616) := ⟨_, rfl⟩
  obtain ⟨r2, h2⟩ : ∃ r2 : Nat, r2 = r1 ^^^ (r1 / 128) := ⟨_, rfl⟩
  obtain ⟨r3, h3⟩ : ∃ r3 : Nat, r3 = r2 ^^^ (r2 * 131072 % 18446744073709551616) := ⟨_, rfl⟩
  have l1 : r1 < 18446744073709551616 := h1 ▸ lx hr (small _)
  have l2 : r2 < 18446744073709551616 := h2 ▸ lx l1 (by omega)
  have l3 : r3 < 18446744073709551616 := h3 ▸ lx l2 (small _)
  have e1 : bits .xor .u64 (r0 : Int) (IntKind.u64.wrap ((r0 : Int) * 8192)) = (r1 : Int) := by
    rw [IntKind.wrap_u64, show (r0 : Int) * 8192 = ((r0 * 8192 : Nat) : Int) by omega, ← cut, bits_xor_u64_nat _ _ hr (small _), ← h1]
  have e2 : bits .xor .u64 (r1 : Int) ((r1 : Int) / 128) = (r2 : Int) := by
    rw [show (r1 : Int) / 128 = ((r1 / 128 : Nat) : Int) by omega, bits_xor_u64_nat _ _ l1 (by omega), ← h2]
  have e3 : bits .xor .u64 (r2 : Int) (IntKind.u64.wrap ((r2 : Int) * 131072)) = (r3 : Int) := by
    rw [IntKind.wrap_u64, show (r2 : Int) * 131072 = ((r2 * 131072 : Nat) : Int) by omega, ← cut, bits_xor_u64_nat _ _ l2 (small _), ← h3]
  clear h1 h2 h3 cut small lx
  have over : ∀ v v', (w.setCell ⟨X, 0, none⟩ v).setCell ⟨X, 0, none⟩ v' = w.setCell ⟨X, 0, none⟩ v' := setCell_setCell w X 0
  go_enter Try.func79, Try.ntmps79
  go_wp2
  go_region_o
  all_goals go_wp2
  all_goals go_region_o
  all_goals go_wp2
  all_goals go_region_o
  all_goals go_wp2
  go_ret
  exact ⟨r3, l3, rfl, rfl⟩
theorem npow_any (x : Nat) (hx : x ≤ 1000) (w : World) : Calls Try.prog 78 #[.int .i64 (x : Nat)] w fun e w' => e = .returned (.int .u64 ((1 <<< bitsLen x : Nat) : Int)) ∧ w' = w := by
  have cl := len_any x hx w
  rw [bitLen_eq _ (by omega)] at cl
  have hk : bitsLen x ≤ 62 := (bitsLen_le_iff x 62).2 (by omega)
  have hp := wrap_two_pow (bitsLen x) hk
  have wu : IntKind.u64.wrap (x : Int) = (x : Int) := by rw [IntKind.wrap_u64]; omega
  go_enter Try.func78, Try.ntmps78
  go_wp2_with fail
  refine cl.mono ?_
  rintro e w2 ⟨rfl, rfl⟩
  go_wp2_with fail
  go_ret
  exact ⟨rfl, rfl⟩
theorem brk_facts (a b N : Nat) (hab : a + 8 ≤ b) (hb : b ≤ N) (hN : N ≤ 1000) : ∃ L Q Q2 A2 I0 I1 : Nat, (a + L = b ∧ L ≤ 1000 ∧ 8 ≤ L ∧ a ≤ I0 ∧ I1 < b ∧ I0 + 2 = I1) ∧ (8 : Int) ≤ (L : Int) ∧
    wrap64 ((b : Int) - (a : Int)) = (L : Int) ∧ (L : Int) / 4 = (Q : Int) ∧ wrap64 (Q : Int) = (Q : Int) ∧ wrap64 ((Q : Int) * 2) = (Q2 : Int) ∧ wrap64 ((a : Int) + (Q2 : Int)) = (A2 : Int) ∧ wrap64 ((A2 : Int) - 1) = (I0 : Int) ∧ wrap64 ((A2 : Int) + 1) = (I1 : Int) := by
  refine ⟨b - a, (b - a) / 4, (b - a) / 4 * 2, a + (b - a) / 4 * 2, a + (b - a) / 4 * 2 - 1, a + (b - a) / 4 * 2 + 1, ?_, by omega, ?_, ?_, ?_, ?_, ?_, ?_, ?_⟩
  · omega
  · rw [wrap_6 _ (by omega) (by omega)]; omega
  · omega
  · rw [wrap_6 _ (by omega) (by omega)]
  · rw [wrap_6 _ (by omega) (by omega)]; omega
  · rw [wrap_6 _ (by omega) (by omega)]; omega
  · rw [wrap_6 _ (by omega) (by omega)]; omega
  · rw [wrap_6 _ (by omega) (by omega)]; omega
theorem pow_facts (L : Nat) (h : 8 ≤ L) (h2 : L ≤ 1000) : ∃ M M1 : Nat, 1 <<< bitsLen L = M ∧ M1 + 1 = M ∧ M ≤ 2 * L ∧ IntKind.u64.wrap ((M : Int) - 1) = (M1 : Int) := by
  have e1 : 1 ≤ 1 <<< bitsLen L := by rw [Nat.one_shiftLeft]; exact Nat.two_pow_pos _
  have e2 : 1 <<< bitsLen L ≤ 2 * L := by rw [Nat.one_shiftLeft]; exact two_pow_bitsLen_le (by omega)
  generalize 1 <<< bitsLen L = M at e1 e2
  exact ⟨M, M - 1, rfl, by omega, e2, by rw [IntKind.wrap_u64]; omega⟩
theorem brk_any {n : Nat} {w0 : World} {B : Nat} {V : Value} {w : World} {d : Array (Fin (n + 1))} (R : Row w0 B d w) {a b c : Nat} (hab : a + 8 ≤ b) (hb : b ≤ d.size) (hsz : d.size ≤ 1000) :
    Calls Try.prog 67 #[.slice (some ⟨B, 0, none⟩) d.size c, .int .i64 (a : Nat), .int .i64 (b : Nat), V] w fun e w' => e = .returned (.tuple #[]) ∧ ∃ d' : Array (Fin (n + 1)), PermIn a b d d' ∧ Row w0 B d' w' := by
  have mixed : Try.prog.follows .mixedOrders = true := by kernel_rfl
  obtain ⟨L, Q, Q2, A2, I0, I1, hf, h8, m1, m2, m3, m4, m5, m6, m7⟩ := brk_facts a b d.size hab hb hsz
  obtain ⟨M, M1, hM, hM1, hM2, m8⟩ := pow_facts L hf.2.2.1 hf.2.1
  have HF : Hid ((a + L = b ∧ L ≤ 1000 ∧ 8 ≤ L ∧ a ≤ I0 ∧ I1 < b ∧ I0 + 2 = I1) ∧ M1 + 1 = M ∧ M ≤ 2 * L) := ⟨hf, hM1, hM2⟩
  have HB : Hid (b ≤ d.size ∧ d.size ≤ 1000) := ⟨hb, hsz⟩
  have cp := fun w => npow_any L hf.2.1 w
  rw [hM] at cp
  have wu : IntKind.u64.wrap (L : Int) = (L : Int) := by have h := hf.2.1; clear m1 m2 m3 m4 m5 m6 m7 m8; rw [IntKind.wrap_u64]; omega
  have hXB : w.heap.size ≠ B := Nat.ne_of_gt R.ltw
  have hX0 : w0.heap.size ≤ w.heap.size := R.keep.size
  clear hf hM hM1 hM2 hab hb hsz
  have R1 := R.later (below_new w (.cells #[.int .u64 (L : Int)] 121))
  have cX : (w.alloc (.cells #[.int .u64 (L : Int)] 121)).cell? ⟨w.heap.size, 0, none⟩ = some (.int .u64 (L : Int)) := by simp
  have fX : (w.alloc (.cells #[.int .u64 (L : Int)] 121)).frozen? ⟨w.heap.size, 0, none⟩ = false := by simp
  have hlX : w.heap.size < (w.alloc (.cells #[.int .u64 (L : Int)] 121)).heap.size := by simp
  clear R
  go_enter Try.func67, Try.ntmps67
  go_wp2_with fail
  generalize w.alloc (.cells #[.int .u64 (L : Int)] 121) = w1 at R1 cX fX hlX ⊢
  generalize w.heap.size = X at hXB hX0 cX fX hlX ⊢
  refine (cp _).mono ?_
  rintro e w2 ⟨rfl, rfl⟩
  clear cp
  go_wp2_with fail
  try rw [m3]
  try rw [m4]
  try rw [m5]
  try rw [m6]
  clear m1 h8
  go_loopw [11] (fun v wr => ∃ (t r : Nat) (dk : Array (Fin (n + 1))), v = .int .i64 (t : Nat) ∧ (I0 ≤ t ∧ t ≤ I0 + 3 ∧ dk.size = d.size) ∧ Hid (PermIn a b d dk) ∧ Row w0 B dk wr ∧ wr.cell? ⟨X, 0, none⟩ = some (.int .u64 (r : Int)) ∧ wr.frozen? ⟨X, 0, none⟩ = false ∧ r < 18446744073709551616) (fun v _ => I0 + 3 - (intOf v).toNat)
  case atStart => exact ⟨I0, L, d, by first | rfl | rw [m6], ⟨Nat.le_refl _, Nat.le_add_right _ _, rfl⟩, permIn_refl _ _ _, R1, cX, fX, by have HFo := HF.out; clear m2 m3 m4 m5 m6 m7 m8; omega⟩
  case round =>
    clear R1 cX fX hlX m6
    obtain ⟨t, r, dk, rfl, ht, hpm, R2, c2, f2, hr⟩ := hrel
    have HT : Hid (I0 ≤ t ∧ t ≤ I0 + 3 ∧ dk.size = d.size) := ht
    clear ht
    by_cases hle : t ≤ I1
    · have hlez : (t : Int) ≤ (I1 : Int) := by clear m2 m3 m4 m5 m7 m8; omega
      have HL : Hid (t ≤ I1) := hle
      clear hle
      have cn := xs_any hr wr c2 f2
      go_wp2_with fail
      refine cn.mono ?_
      rintro e w2' ⟨rr, hrr, rfl, rfl⟩
      clear cn
      obtain ⟨O, hO⟩ : ∃ O : Nat, rr &&& M1 = O := ⟨_, rfl⟩
      have hO1 : O ≤ M1 := by rw [← hO]; exact Nat.and_le_right
      have HO : Hid (O ≤ M1 ∧ M1 + 1 ≤ 2 * L) := ⟨hO1, by have h := HF.out; clear m2 m3 m4 m5 m7 m8; omega⟩
      have eAnd : bits .and .u64 (rr : Int) (M1 : Int) = (O : Int) := by rw [bits_and_u64_nat _ _ hrr (by have h := HF.out; clear m2 m3 m4 m5 m7 m8; omega), hO]
      have eO : wrap64 (O : Int) = (O : Int) := wrap_6 _ (by clear eAnd m2 m3 m4 m5 m7 m8; omega) (by have h := HF.out; clear eAnd m2 m3 m4 m5 m7 m8; omega)
      have EO : Hid (wrap64 (O : Int) = (O : Int)) := eO
      have HRR : Hid (rr < 18446744073709551616) := hrr
      clear hO hO1 eO hrr
      have R4 : Row w0 B dk ((wr.setCell ⟨X, 0, none⟩ (.int .u64 (rr : Int))).drewN 3) := ((R2.newCell hX0 (.int .u64 (rr : Int))).drew).drew.drew
      have c4 : ((wr.setCell ⟨X, 0, none⟩ (.int .u64 (rr : Int))).drewN 3).cell? ⟨X, 0, none⟩ = some (.int .u64 (rr : Int)) := World.cell?_setCell_same' _ _ _ (by rw [c2]; rfl)
      have f4 : ((wr.setCell ⟨X, 0, none⟩ (.int .u64 (rr : Int))).drewN 3).frozen? ⟨X, 0, none⟩ = false := by rw [World.frozen?_drewN, World.frozen?_setCell]; exact f2
      clear R2 c2 f2 hr
      generalize (wr.setCell ⟨X, 0, none⟩ (.int .u64 (rr : Int))).drewN 3 = w2 at R4 c4 f4 ⊢
      by_cases hLO : L ≤ O
      · have eO := EO.out
        obtain ⟨O', hO'⟩ : ∃ O', O - L = O' := ⟨_, rfl⟩
        have HO' : Hid (O' + L = O ∧ O' < L) := by have h1 := HF.out; have h2 := HO.out; show _ ∧ _; clear eAnd eO m2 m3 m4 m5 m7 m8; omega
        have oz : (L : Int) ≤ (O : Int) := Int.ofNat_le.2 hLO
        have zo : (O : Int) - (L : Int) = (O' : Int) := by have h2 := HO'.out; clear eAnd eO m2 m3 m4 m5 m7 m8; omega
        have lo : O' ≤ 4000000 := by have h2 := HO'.out; have h1 := HF.out; clear eAnd eO m2 m3 m4 m5 m7 m8; omega
        have mo := w64_of zo lo
        clear zo lo hO'
        obtain ⟨p, hp⟩ : ∃ p, a + O' = p := ⟨_, rfl⟩
        have HP : Hid (a + O' = p) := hp
        clear hp hLO
        have HPP : Hid (a ≤ p ∧ p < b) := by have h1 := HP.out; have h2 := HO'.out; have h3 := HF.out; show _ ∧ _; clear eAnd eO m2 m3 m4 m5 m7 m8; clear mo; omega
        have zp : (a : Int) + (O' : Int) = (p : Int) := by have h1 := HP.out; clear eAnd eO m2 m3 m4 m5 m7 m8; clear mo; omega
        have lp : p ≤ 4000000 := by have h1 := HPP.out; have h2 := HB.out; clear eAnd eO m2 m3 m4 m5 m7 m8; clear mo; omega
        obtain ⟨t', ht'⟩ : ∃ t', t + 1 = t' := ⟨_, rfl⟩
        have HN : Hid (t + 1 = t') := ht'
        have zt : (t : Int) + 1 = (t' : Int) := by clear eAnd eO m2 m3 m4 m5 m7 m8; clear mo; omega
        have lt' : t' ≤ 4000000 := by have h1 := HL.out; have h2 := HF.out; have h3 := HB.out; clear eAnd eO m2 m3 m4 m5 m7 m8; clear mo; omega
        have q0 : a ≤ t ∧ t < b := by have h1 := HL.out; have h2 := HF.out; have h3 := HT.out; clear eAnd eO m2 m3 m4 m5 m7 m8; clear mo; omega
        have q1 : t < dk.size := by have h1 := HT.out; have h2 := HB.out; clear eAnd eO m2 m3 m4 m5 m7 m8; clear mo; omega
        have q2 : p < dk.size := by have h1 := HPP.out; have h2 := HB.out; have h3 := HT.out; clear eAnd eO m2 m3 m4 m5 m7 m8; clear mo; omega
        have i1 : (t : Int) < (d.size : Int) := by rw [← HT.out.2.2]; exact Int.ofNat_lt.2 q1
        have i2 : (p : Int) < (d.size : Int) := by rw [← HT.out.2.2]; exact Int.ofNat_lt.2 q2
        have hpm2 : Hid (PermIn a b d (swp dk t p)) := permIn_trans _ _ _ _ _ hpm.out (swp_permIn dk a b t p q0.1 q0.2 HPP.out.1 HPP.out.2 (by rw [HT.out.2.2]; exact HB.out.1))
        have mpa := w64i_of zp lp
        have mpb := w64_of zp lp
        have mta := w64i_of zt lt'
        have mtb := w64_of zt lt'
        clear zp lp zt lt' ht' q0
        obtain ⟨u, hu⟩ : ∃ u, dk[t]! = u := ⟨_, rfl⟩
        obtain ⟨v, hv⟩ : ∃ v, dk[p]! = v := ⟨_, rfl⟩
        have c1 := R4.cell t q1
        have c3 := R4.cell p q2
        have f1 := R4.frozen t q1
        have f3 := R4.frozen p q2
        obtain ⟨u3, c5⟩ := R4.c2 (i := t) (j := p) q1 q2 (.int .i64 (((v : Fin (n + 1)) : Nat) : Int))
        have R6 := (R4.swap (i := t) (j := p) q1 q2 hu hv).drew
        have k1 : ((w2.setCell ⟨B, t, none⟩ (.int .i64 ((v : Nat) : Int))).setCell ⟨B, p, none⟩ (.int .i64 ((u : Nat) : Int))).drew.cell? ⟨X, 0, none⟩ = some (.int .u64 (rr : Int)) :=
          (World.cell?_setCell_other _ ⟨B, p, none⟩ ⟨X, 0, none⟩ _ (by intro e; injection e with e1 _; exact hXB e1.symm)).trans ((World.cell?_setCell_other _ ⟨B, t, none⟩ ⟨X, 0, none⟩ _ (by intro e; injection e with e1 _; exact hXB e1.symm)).trans c4)
        have k2 : ((w2.setCell ⟨B, t, none⟩ (.int .i64 ((v : Nat) : Int))).setCell ⟨B, p, none⟩ (.int .i64 ((u : Nat) : Int))).drew.frozen? ⟨X, 0, none⟩ = false := by
          show World.frozen? (World.setCell _ _ _) _ = _
          rw [World.frozen?_setCell, World.frozen?_setCell]; exact f4
        rw [hu] at c1
        rw [hv] at c3
        clear R4 q1 q2 hu hv
        go_wp2_with fail
        go_big_region_o
        clear c1 c3 c5 f1 f3 u3 c4 f4
        generalize (w2.setCell ⟨B, t, none⟩ _).setCell ⟨B, p, none⟩ _ = wz at R6 k1 k2 ⊢
        generalize World.drew wz = w5 at R6 k1 k2 ⊢
        clear wz
        go_wp2_with fail
        go_roundw
        case rel => exact ⟨t', rr, swp dk t p, rfl, by have h1 := HT.out; have h2 := HN.out; have h3 := HL.out; have h4 := HF.out; rw [swp_size]; clear mpa mpb mta mtb; clear eAnd eO m2 m3 m4 m5 m7 m8; clear mo; omega, hpm2, R6, k1, k2, HRR.out⟩
        case measure => simp [intOf]; have h1 := HN.out; have h2 := HL.out; have h4 := HF.out; clear mpa mpb mta mtb; clear eAnd eO m2 m3 m4 m5 m7 m8; clear mo; omega
      · have eO := EO.out
        have oz : decide ((L : Int) ≤ (O : Int)) = false := decide_eq_false (fun h => hLO (Int.ofNat_le.1 h))
        have on : (L ≤ O) = False := eq_false hLO
        have oi : ((L : Int) ≤ (O : Int)) = False := eq_false (fun h => hLO (Int.ofNat_le.1 h))
        have HO' : Hid (O < L) := Nat.not_le.1 hLO
        obtain ⟨p, hp⟩ : ∃ p, a + O = p := ⟨_, rfl⟩
        have HP : Hid (a + O = p) := hp
        clear hp hLO
        have HPP : Hid (a ≤ p ∧ p < b) := by have h1 := HP.out; have h2 := HO'.out; have h3 := HF.out; show _ ∧ _; clear eAnd eO m2 m3 m4 m5 m7 m8; omega
        have zp : (a : Int) + (O : Int) = (p : Int) := by have h1 := HP.out; clear eAnd eO m2 m3 m4 m5 m7 m8; omega
        have lp : p ≤ 4000000 := by have h1 := HPP.out; have h2 := HB.out; clear eAnd eO m2 m3 m4 m5 m7 m8; omega
        obtain ⟨t', ht'⟩ : ∃ t', t + 1 = t' := ⟨_, rfl⟩
        have HN : Hid (t + 1 = t') := ht'
        have zt : (t : Int) + 1 = (t' : Int) := by clear eAnd eO m2 m3 m4 m5 m7 m8; omega
        have lt' : t' ≤ 4000000 := by have h1 := HL.out; have h2 := HF.out; have h3 := HB.out; clear eAnd eO m2 m3 m4 m5 m7 m8; omega
        have q0 : a ≤ t ∧ t < b := by have h1 := HL.out; have h2 := HF.out; have h3 := HT.out; clear eAnd eO m2 m3 m4 m5 m7 m8; omega
        have q1 : t < dk.size := by have h1 := HT.out; have h2 := HB.out; clear eAnd eO m2 m3 m4 m5 m7 m8; omega
        have q2 : p < dk.size := by have h1 := HPP.out; have h2 := HB.out; have h3 := HT.out; clear eAnd eO m2 m3 m4 m5 m7 m8; omega
        have i1 : (t : Int) < (d.size : Int) := by rw [← HT.out.2.2]; exact Int.ofNat_lt.2 q1
        have i2 : (p : Int) < (d.size : Int) := by rw [← HT.out.2.2]; exact Int.ofNat_lt.2 q2
        have hpm2 : Hid (PermIn a b d (swp dk t p)) := permIn_trans _ _ _ _ _ hpm.out (swp_permIn dk a b t p q0.1 q0.2 HPP.out.1 HPP.out.2 (by rw [HT.out.2.2]; exact HB.out.1))
        have mpa := w64i_of zp lp
        have mpb := w64_of zp lp
        have mta := w64i_of zt lt'
        have mtb := w64_of zt lt'
        clear zp lp zt lt' ht' q0
        obtain ⟨u, hu⟩ : ∃ u, dk[t]! = u := ⟨_, rfl⟩
        obtain ⟨v, hv⟩ : ∃ v, dk[p]! = v := ⟨_, rfl⟩
        have c1 := R4.cell t q1
        have c3 := R4.cell p q2
        have f1 := R4.frozen t q1
        have f3 := R4.frozen p q2
        obtain ⟨u3, c5⟩ := R4.c2 (i := t) (j := p) q1 q2 (.int .i64 (((v : Fin (n + 1)) : Nat) : Int))
        have R6 := (R4.swap (i := t) (j := p) q1 q2 hu hv).drew
        have k1 : ((w2.setCell ⟨B, t, none⟩ (.int .i64 ((v : Nat) : Int))).setCell ⟨B, p, none⟩ (.int .i64 ((u : Nat) : Int))).drew.cell? ⟨X, 0, none⟩ = some (.int .u64 (rr : Int)) :=
          (World.cell?_setCell_other _ ⟨B, p, none⟩ ⟨X, 0, none⟩ _ (by intro e; injection e with e1 _; exact hXB e1.symm)).trans ((World.cell?_setCell_other _ ⟨B, t, none⟩ ⟨X, 0, none⟩ _ (by intro e; injection e with e1 _; exact hXB e1.symm)).trans c4)
        have k2 : ((w2.setCell ⟨B, t, none⟩ (.int .i64 ((v : Nat) : Int))).setCell ⟨B, p, none⟩ (.int .i64 ((u : Nat) : Int))).drew.frozen? ⟨X, 0, none⟩ = false := by
          show World.frozen? (World.setCell _ _ _) _ = _
          rw [World.frozen?_setCell, World.frozen?_setCell]; exact f4
        rw [hu] at c1
        rw [hv] at c3
        clear R4 q1 q2 hu hv
        go_wp2_with fail
        go_big_region_o
        clear c1 c3 c5 f1 f3 u3 c4 f4
        generalize (w2.setCell ⟨B, t, none⟩ _).setCell ⟨B, p, none⟩ _ = wz at R6 k1 k2 ⊢
        generalize World.drew wz = w5 at R6 k1 k2 ⊢
        clear wz
        go_wp2_with fail
        go_roundw
        case rel => exact ⟨t', rr, swp dk t p, rfl, by have h1 := HT.out; have h2 := HN.out; have h3 := HL.out; have h4 := HF.out; rw [swp_size]; clear mpa mpb mta mtb; clear eAnd eO m2 m3 m4 m5 m7 m8; omega, hpm2, R6, k1, k2, HRR.out⟩
        case measure => simp [intOf]; have h1 := HN.out; have h2 := HL.out; have h4 := HF.out; clear mpa mpb mta mtb; clear eAnd eO m2 m3 m4 m5 m7 m8; omega
    · have hlez : ¬ (t : Int) ≤ (I1 : Int) := by clear m2 m3 m4 m5 m7 m8; omega
      go_wp2_with fail
      go_end0
      exact ⟨rfl, dk, hpm.out, R2⟩
end
end Go.Proofs.Ytihgpllbgliplaa
