/- What the library's choice of a pivot answers: one of the places; the row stays as it was. -/
import Derived.Test.YtinmhjgnapbkmaaPickScan
namespace Go.Proofs.Ytinmhjgnapbkmaa
open Go.ChangeShapes Go.WideShapes Go.ChangeAt Go.RowKit Go.Sort Go.Shelf
set_option linter.unusedVariables false
set_option linter.unusedSimpArgs false

theorem Row.newCell {n : Nat} {w0 w : World} {B : Nat} {d : Array (Fin (n + 1))} (h : Row w0 B d w) {C o : Nat} (hC : w0.heap.size ≤ C) (v : Value) : Row w0 B d (w.setCell ⟨C, o, none⟩ v) :=
  ⟨h.keep.setCell (p := ⟨C, o, none⟩) (fun hl => absurd hl (Nat.not_lt.2 hC)) v, h.lt,
    fun i hi => (World.cell?_setCell_other w ⟨C, o, none⟩ ⟨B, i, none⟩ v (by intro e; injection e with e1 _; have := h.lt; omega)).trans (h.cell i hi),
    fun i hi => by rw [World.frozen?_setCell]; exact h.frozen i hi⟩
/-- a counter beside the row, in a block of its own -/
structure Cnt {n : Nat} (w0 : World) (B : Nat) (d : Array (Fin (n + 1))) (C s : Nat) (w : World) : Prop where
  row : Row w0 B d w
  cell : w.cell? ⟨C, 0, none⟩ = some (.int .i64 (s : Int))
  frozen : w.frozen? ⟨C, 0, none⟩ = false
  old : w0.heap.size ≤ C
  lt : C < w.heap.size
section
variable {n : Nat} {w0 w w' : World} {B C s : Nat} {d : Array (Fin (n + 1))}
theorem Cnt.later (h : Cnt w0 B d C s w) (hb : Below w.heap.size w w') : Cnt w0 B d C s w' :=
  ⟨h.row.later hb, (hb.cell (p := ⟨C, 0, none⟩) h.lt).trans h.cell, (hb.frozen (p := ⟨C, 0, none⟩) h.lt).trans h.frozen, h.old, Nat.lt_of_lt_of_le h.lt hb.size⟩
theorem Cnt.bump (h : Cnt w0 B d C s w) (t : Nat) : Cnt w0 B d C t (w.setCell ⟨C, 0, none⟩ (.int .i64 (t : Int))) :=
  ⟨h.row.newCell h.old _, World.cell?_setCell_same' _ _ _ (by rw [h.cell]; rfl), by rw [World.frozen?_setCell]; exact h.frozen, h.old, by simpa using h.lt⟩
theorem Cnt.start (h : Row w0 B d w) (T : TypeId) : Cnt w0 B d w.heap.size 0 (w.alloc (.cells #[.int .i64 0] T)) :=
  ⟨h.later (below_new _ _), by simp, by simp, h.keep.size, by simp⟩
end
section
set_option maxRecDepth 100000
set_option maxHeartbeats 4000000
variable {n : Nat} {w0 : World} {B : Nat} {rv : Value} {cf : Fin (n + 1) → Fin (n + 1) → Int} (hc : Cmp w0 B rv cf)
include hc
theorem ord2_any {w : World} {d : Array (Fin (n + 1))} {C s : Nat} (K : Cnt w0 B d C s w) {a b c : Nat} (ha : a < d.size) (hb : b < d.size) (hsz : d.size ≤ 1000) (hs : s ≤ 1000) :
    Calls Try.prog 76 #[.slice (some ⟨B, 0, none⟩) d.size c, .int .i64 (a : Nat), .int .i64 (b : Nat), .pointer (some ⟨C, 0, none⟩), mv rv] w fun e w' => ∃ x y t : Nat, e = .returned (.tuple #[.int .i64 (x : Int), .int .i64 (y : Int)]) ∧ ((x = a ∧ y = b) ∨ (x = b ∧ y = a)) ∧ t ≤ s + 1 ∧ Cnt w0 B d C t w' := by
  have eg := enters20
  have mixed : Try.prog.follows .mixedOrders = true := by kernel_rfl
  have i0 : (a : Int) < (d.size : Int) := by omega
  have i1 : (b : Int) < (d.size : Int) := by omega
  obtain ⟨x, hx⟩ : ∃ x, d[b]! = x := ⟨_, rfl⟩
  obtain ⟨y, hy⟩ : ∃ y, d[a]! = y := ⟨_, rfl⟩
  have l1 := K.row.at (i := b) (by omega) hx
  have l2 := K.row.at (i := a) (by omega) hy
  have cc := K.row.cmp hc x y
  clear hx hy
  by_cases hv : cf x y < 0
  · have m1 : wrap64 ((s : Int) + 1) = ((s + 1 : Nat) : Int) := by rw [wrap_6 _ (by omega) (by omega)]; omega
    have m2 : IntKind.i64.wrap ((s : Int) + 1) = ((s + 1 : Nat) : Int) := by rw [wrap_i _ (by omega) (by omega)]; omega
    go_enter Try.func76, Try.ntmps76
    go_wp2_with fail
    refine wp_region_below (by kernel_rfl) (by kernel_rfl) ?_
    repeat (quiet_step ((go_at_call 42; exact cc _)))
    refine wpQuiet_nil ?_
    rintro _ ⟨bw, rfl⟩
    have K2 := K.later bw.hb
    clear l1 l2 cc K
    generalize bw.w = w3 at K2 ⊢
    have c1 := K2.cell
    have f1 := K2.frozen
    have K3 := K2.bump (s + 1)
    clear K2
    go_wp2_with fail
    go_ret2
    exact ⟨b, a, s + 1, rfl, .inr ⟨rfl, rfl⟩, Nat.le_refl _, K3⟩
  · go_enter Try.func76, Try.ntmps76
    go_wp2_with fail
    refine wp_region_below (by kernel_rfl) (by kernel_rfl) ?_
    repeat (quiet_step ((go_at_call 42; exact cc _)))
    refine wpQuiet_nil ?_
    rintro _ ⟨bw, rfl⟩
    have K2 := K.later bw.hb
    clear l1 l2 cc K
    generalize bw.w = w3 at K2 ⊢
    go_wp2_with fail
    go_ret2
    exact ⟨a, b, s, rfl, .inl ⟨rfl, rfl⟩, Nat.le_succ _, K2⟩
theorem med_any {w : World} {d : Array (Fin (n + 1))} {C s : Nat} (K : Cnt w0 B d C s w) {a b e c : Nat} (ha : a < d.size) (hb : b < d.size) (he : e < d.size) (hsz : d.size ≤ 1000) (hs : s ≤ 900) :
    Calls Try.prog 75 #[.slice (some ⟨B, 0, none⟩) d.size c, .int .i64 (a : Nat), .int .i64 (b : Nat), .int .i64 (e : Nat), .pointer (some ⟨C, 0, none⟩), mv rv] w fun r w' => ∃ x t : Nat, r = .returned (.int .i64 (x : Int)) ∧ (x = a ∨ x = b ∨ x = e) ∧ t ≤ s + 3 ∧ Cnt w0 B d C t w' := by
  go_enter Try.func75, Try.ntmps75
  go_wp2_with fail
  refine (ord2_any hc K (c := c) ha hb hsz (by omega)).mono ?_
  rintro r w1 ⟨x1, y1, t1, rfl, h1, g1, K1⟩
  clear K
  have hx1 : x1 < d.size := by omega
  have hy1 : y1 < d.size := by omega
  go_wp2_with fail
  refine (ord2_any hc K1 (c := c) hy1 he hsz (by omega)).mono ?_
  rintro r w2 ⟨x2, y2, t2, rfl, h2, g2, K2⟩
  clear K1
  have hx2 : x2 < d.size := by omega
  go_wp2_with fail
  refine (ord2_any hc K2 (c := c) hx1 hx2 hsz (by omega)).mono ?_
  rintro r w3 ⟨x3, y3, t3, rfl, h3, g3, K3⟩
  clear K2
  go_wp2_with fail
  go_ret
  exact ⟨y3, t3, rfl, by omega, by omega, K3⟩
theorem meda_any {w : World} {d : Array (Fin (n + 1))} {C s : Nat} (K : Cnt w0 B d C s w) {a c : Nat} (ha : 1 ≤ a) (hb : a + 1 < d.size) (hsz : d.size ≤ 1000) (hs : s ≤ 900) :
    Calls Try.prog 74 #[.slice (some ⟨B, 0, none⟩) d.size c, .int .i64 (a : Nat), .pointer (some ⟨C, 0, none⟩), mv rv] w fun r w' => ∃ x t : Nat, r = .returned (.int .i64 (x : Int)) ∧ (a ≤ x + 1 ∧ x ≤ a + 1) ∧ t ≤ s + 3 ∧ Cnt w0 B d C t w' := by
  obtain ⟨p, hp⟩ : ∃ p : Nat, a - 1 = p := ⟨_, rfl⟩
  obtain ⟨q, hq⟩ : ∃ q : Nat, a + 1 = q := ⟨_, rfl⟩
  have m1 : wrap64 ((a : Int) - 1) = (p : Int) := by rw [wrap_6 _ (by omega) (by omega)]; omega
  have m2 : IntKind.i64.wrap ((a : Int) - 1) = (p : Int) := by rw [wrap_i _ (by omega) (by omega)]; omega
  have m3 : wrap64 ((a : Int) + 1) = (q : Int) := by rw [wrap_6 _ (by omega) (by omega)]; omega
  have m4 : IntKind.i64.wrap ((a : Int) + 1) = (q : Int) := by rw [wrap_i _ (by omega) (by omega)]; omega
  have cm := med_any hc K (a := p) (b := a) (e := q) (c := c) (by omega) (by omega) (by omega) hsz hs
  go_enter Try.func74, Try.ntmps74
  go_wp2_with fail
  refine cm.mono ?_
  rintro r w1 ⟨x, t, rfl, h1, g1, K1⟩
  go_wp2_with fail
  go_ret
  exact ⟨x, t, rfl, by omega, g1, K1⟩
end
end Go.Proofs.Ytinmhjgnapbkmaa
