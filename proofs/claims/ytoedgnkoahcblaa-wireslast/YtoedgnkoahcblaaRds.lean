/- Words for what lies in memory: numbers of a list in a block, slices of structs, what a call keeps, rows of values. -/
import Derived.Test.YtoedgnkoahcblaaOctAll
import Derived.Deep.Slices
/-! What it means that numbers lie in a block of the call's own, one behind the other (a struct of ints, boxed), and how that stays so. -/
namespace Go.Proofs.Ytoedgnkoahcblaa
open Go.ChangeShapes Go.WideShapes Go.ChangeAt Go.RowKit O
set_option linter.unusedVariables false
set_option linter.unusedSimpArgs false

theorem below_new (w : World) (o : Obj) : Below w.heap.size w (w.alloc o) := (Below.refl _ _).alloc (Nat.le_refl _) _
/-- the numbers l lie in the block B, which may be written into -/
structure Lies (w : World) (B : Nat) (l : List Int) : Prop where
  lt : B < w.heap.size
  cells : ∀ j x, l[j]? = some x → w.cell? ⟨B, j, none⟩ = some (.int .i64 x)
  fz : ∀ j, w.frozen? ⟨B, j, none⟩ = false
theorem Lies.later {w w' : World} {B : Nat} {l : List Int} (X : Lies w B l) (hb : Below w.heap.size w w') : Lies w' B l :=
  ⟨Nat.lt_of_lt_of_le X.lt hb.size, fun j x hx => (hb.cell (p := ⟨B, j, none⟩) X.lt).trans (X.cells j x hx), fun j => (hb.frozen (p := ⟨B, j, none⟩) X.lt).trans (X.fz j)⟩
theorem Lies.new (w : World) (l : List Int) (e : TypeId) {B : Nat} (hB : w.heap.size = B) : Lies (w.alloc (.cells (l.map (Value.int .i64)).toArray e)) B l := by
  subst hB
  refine ⟨by simp, fun j x hx => ?_, fun j => by unfold World.frozen?; rw [heap_alloc_new]; simp⟩
  have := World.news_of_block (heap_alloc_new w (.cells (l.map (Value.int .i64)).toArray e)) j (.int .i64 x) (by simp [hx])
  rw [Addr.add_lit] at this
  simpa using this
theorem Lies.six {w : World} {B : Nat} {x0 x1 x2 x3 x4 x5 : Int} (X : Lies w B [x0, x1, x2, x3, x4, x5]) :
    w.cell? ⟨B, 0, none⟩ = some (.int .i64 x0) ∧ w.cell? ⟨B, 1, none⟩ = some (.int .i64 x1) ∧ w.cell? ⟨B, 2, none⟩ = some (.int .i64 x2) ∧ w.cell? ⟨B, 3, none⟩ = some (.int .i64 x3) ∧ w.cell? ⟨B, 4, none⟩ = some (.int .i64 x4) ∧ w.cell? ⟨B, 5, none⟩ = some (.int .i64 x5) :=
  ⟨X.cells 0 _ rfl, X.cells 1 _ rfl, X.cells 2 _ rfl, X.cells 3 _ rfl, X.cells 4 _ rfl, X.cells 5 _ rfl⟩
theorem Lies.three {w : World} {B : Nat} {x0 x1 x2 : Int} (X : Lies w B [x0, x1, x2]) :
    w.cell? ⟨B, 0, none⟩ = some (.int .i64 x0) ∧ w.cell? ⟨B, 1, none⟩ = some (.int .i64 x1) ∧ w.cell? ⟨B, 2, none⟩ = some (.int .i64 x2) :=
  ⟨X.cells 0 _ rfl, X.cells 1 _ rfl, X.cells 2 _ rfl⟩
theorem Lies.two {w : World} {B : Nat} {x0 x1 : Int} (X : Lies w B [x0, x1]) :
    w.cell? ⟨B, 0, none⟩ = some (.int .i64 x0) ∧ w.cell? ⟨B, 1, none⟩ = some (.int .i64 x1) :=
  ⟨X.cells 0 _ rfl, X.cells 1 _ rfl⟩
/-- a slice of ints, just made -/
theorem reads_new64 (w : World) (l : List Int) (hl : ∀ z ∈ l, (Lit.int .i64 z).wf = true) (h0 : l.length ≤ 100) {B n : Nat} (hB : w.heap.size = B) (hn : l.length = n) : Reads .i64 (w.alloc (.cells (l.map (Value.int .i64)).toArray 3)) (some ⟨B, 0, none⟩) n l := by
  subst hB hn
  refine ⟨Nat.le_refl _, by unfold maxLen; omega, hl, fun h => (nomatch h), fun _ => ⟨_, _, rfl, by simp, fun i hi => ?_⟩⟩
  have := World.news_of_block (heap_alloc_new w (.cells (l.map (Value.int .i64)).toArray 3)) i (.int .i64 (l.getD i 0)) (by simp [List.getD, hi])
  rw [Addr.add_lit] at this
  exact this
theorem own_new (w : World) (l : List Int) (h0 : l.length ≤ 100) : (w.alloc (.cells (l.map (Value.int .i64)).toArray 3)).ownsRow w.heap.size 3 1 (.slice (some ⟨w.heap.size, 0, none⟩) l.length l.length) l.length (l.map (Value.int .i64)) :=
  ⟨by simp, .inr ⟨w.heap.size, l.length, _, rfl, Nat.le_refl _, heap_alloc_new w _, Nat.le_refl _, by unfold maxLen; omega, by simp, by rw [Nat.mul_one]; exact List.take_of_length_le (by simp)⟩⟩
/-- what a slice that is not empty reads, cell by cell -/
theorem reads_at {k : IntKind} {w : World} {a : Option Addr} {c : Nat} {l : List Int} (R : Reads k w a c l) (h : l ≠ []) : ∃ b o, a = some ⟨b, o, none⟩ ∧ b < w.heap.size ∧ ∀ i x, l[i]? = some x → w.cell? ⟨b, o + i, none⟩ = some (.int k x) := by
  obtain ⟨b, o, e, hlt, hc⟩ := R.cells h
  refine ⟨b, o, e, hlt, fun i x hx => ?_⟩
  obtain ⟨hi, he⟩ := List.getElem?_eq_some_iff.1 hx
  rw [hc i hi, getD_el hi, he]
theorem reads_cut {k : IntKind} {w : World} {b o c : Nat} {l : List Int} (R : Reads k w (some ⟨b, o, none⟩) c l) (j n : Nat) (hj : j < l.length) : Reads k w (some ⟨b, o + j, none⟩) (c - j) ((l.drop j).take n) := by
  have h := (R.drop j (by omega)).take n
  rw [if_neg (by have := R.le; omega)] at h
  simpa [Addr.add_lit] using h
theorem strs_at {w : World} {a : Option Addr} {c n : Nat} {l : List Int} (R : Reads .u8 w a c l) (hn : l.length = n) : ∀ m, (convert 23 9 (.slice a n c)).run Try.prog (w.drewN m) = .ok (.string (strOfNums l)) (w.drewN m) := by
  subst hn
  exact run_strs R
theorem str_at {w : World} {a : Option Addr} {c n : Nat} {l : List Int} (R : Reads .u8 w a c l) (hn : l.length = n) : (convert 23 9 (.slice a n c)).run Try.prog w = .ok (.string (strOfNums l)) w := by
  subst hn
  exact run_str R
end Go.Proofs.Ytoedgnkoahcblaa

/-! What it means that a slice of structs of ints reads as a list, and how that stays so: came in, made by the call itself, appended to. -/
namespace Go.Proofs.Ytoedgnkoahcblaa
open Go.ChangeShapes Go.WideShapes Go.ChangeAt Go.RowKit
set_option linter.unusedVariables false
set_option linter.unusedSimpArgs false

/-- the slice at address a with capacity c, as long as l, reads l, in the world w: f is how an element lies in its sz cells -/
structure Rds {α : Type} (f : α → List Int) (sz : Nat) (w : World) (a : Option Addr) (c : Nat) (l : List α) : Prop where
  le : l.length ≤ c
  max : c ≤ maxLen
  wf : ∀ x ∈ l, ∀ z ∈ f x, (Lit.int .i64 z).wf = true
  nil : a = none → c = 0
  cells : l ≠ [] → ∃ b o, a = some ⟨b, o, none⟩ ∧ b < w.heap.size ∧ ∀ i x, l[i]? = some x → ∀ j y, (f x)[j]? = some y → w.cell? ⟨b, o + i * sz + j, none⟩ = some (.int .i64 y)
section
variable {α : Type} {f : α → List Int} {sz : Nat} {w w' : World} {a : Option Addr} {c : Nat} {l : List α}
theorem Rds.later (h : Rds f sz w a c l) (hb : Below w.heap.size w w') : Rds f sz w' a c l :=
  ⟨h.le, h.max, h.wf, h.nil, fun hl => by
    obtain ⟨b, o, e, hlt, hc⟩ := h.cells hl
    exact ⟨b, o, e, Nat.lt_of_lt_of_le hlt hb.size, fun i x hi j y hy => (hb.cell (p := ⟨b, o + i * sz + j, none⟩) hlt).trans (hc i x hi j y hy)⟩⟩
theorem Rds.none (f : α → List Int) (sz : Nat) (w : World) : Rds f sz w none 0 [] := ⟨by simp, by simp [maxLen], by simp, fun _ => rfl, fun h => absurd rfl h⟩
/-- the cells, one behind the other -/
def flatV (f : α → List Int) (l : List α) : List Value := l.flatMap fun x => (f x).map (Value.int .i64)
theorem flatV_append (f : α → List Int) (l m : List α) : flatV f (l ++ m) = flatV f l ++ flatV f m := by simp [flatV]
theorem flatV_len (hf : ∀ x, (f x).length = sz) (l : List α) : (flatV f l).length = l.length * sz := by
  induction l with
  | nil => simp [flatV]
  | cons x l ih =>
    have e : flatV f (x :: l) = (f x).map (Value.int .i64) ++ flatV f l := rfl
    rw [e, List.length_append, ih, List.length_map, hf, List.length_cons, Nat.succ_mul]
    omega
theorem flatV_get (hf : ∀ x, (f x).length = sz) {l : List α} {i : Nat} {x : α} (hx : l[i]? = some x) {j : Nat} {y : Int} (hy : (f x)[j]? = some y) : (flatV f l)[i * sz + j]? = some (.int .i64 y) := by
  induction l generalizing i with
  | nil => simp at hx
  | cons z l ih =>
    have e : flatV f (z :: l) = (f z).map (Value.int .i64) ++ flatV f l := rfl
    rw [e]
    cases i with
    | zero =>
      obtain rfl : z = x := by simpa using hx
      have hj : j < (f z).length := (List.getElem?_eq_some_iff.1 hy).1
      rw [Nat.zero_mul, Nat.zero_add, List.getElem?_append_left (by simpa using hj), List.getElem?_map, hy]
      rfl
    | succ i =>
      have hj : j < (f x).length := (List.getElem?_eq_some_iff.1 hy).1
      rw [List.getElem?_append_right (by rw [List.length_map, hf, Nat.succ_mul]; omega), List.length_map, hf]
      have : (i + 1) * sz + j - sz = i * sz + j := by rw [Nat.succ_mul]; omega
      rw [this]
      exact ih (by simpa using hx)
theorem flatV_back (hf : ∀ x, (f x).length = sz) {l : List α} {k : Nat} {u : Value} (h : (flatV f l)[k]? = some u) : ∃ i x j y, l[i]? = some x ∧ (f x)[j]? = some y ∧ k = i * sz + j ∧ u = .int .i64 y := by
  induction l generalizing k with
  | nil => simp [flatV] at h
  | cons z l ih =>
    have e : flatV f (z :: l) = (f z).map (Value.int .i64) ++ flatV f l := rfl
    rw [e] at h
    by_cases hk : k < sz
    · rw [List.getElem?_append_left (by rw [List.length_map, hf]; exact hk), List.getElem?_map] at h
      obtain ⟨y, hy, rfl⟩ := Option.map_eq_some_iff.1 h
      exact ⟨0, z, k, y, rfl, hy, by omega, rfl⟩
    · rw [List.getElem?_append_right (by rw [List.length_map, hf]; omega), List.length_map, hf] at h
      obtain ⟨i, x, j, y, h1, h2, h3, h4⟩ := ih h
      exact ⟨i + 1, x, j, y, by simpa using h1, h2, by rw [Nat.succ_mul]; omega, h4⟩
theorem flatV_one (hf : ∀ x, (f x).length = sz) : ∀ u ∈ flatV f l, u.oneCell' = true := by
  intro u hu
  obtain ⟨k, hk⟩ := List.getElem?_of_mem hu
  obtain ⟨_, _, _, y, _, _, _, rfl⟩ := flatV_back hf hk
  rfl
/-- a slice that the call itself made reads what it owns -/
theorem rds_of_owns (hf : ∀ x, (f x).length = sz) {base e n : Nat} {v : Value} (h : w.ownsRow base e sz v n (flatV f l)) (hn : l.length = n) (hw : ∀ x ∈ l, ∀ z ∈ f x, (Lit.int .i64 z).wf = true) : ∃ a c, v = .slice a n c ∧ Rds f sz w a c l := by
  subst hn
  rcases h.2 with ⟨rfl, h0⟩ | ⟨g, cap, cur, rfl, hb, hg, hle, hmx, hsz, htk⟩
  · obtain rfl : l = [] := List.eq_nil_of_length_eq_zero h0
    exact ⟨_, _, rfl, Rds.none f sz w⟩
  · refine ⟨some ⟨g, 0, Option.none⟩, cap, rfl, ⟨hle, hmx, hw, fun h => (nomatch h), fun hne => ⟨g, 0, rfl, (Array.getElem?_eq_some_iff.1 hg).1, fun i x hx j y hy => ?_⟩⟩⟩
    have := h.cells (g := g) rfl (i * sz + j) (.int .i64 y) (flatV_get hf hx hy)
    rw [Addr.add_lit] at this
    rwa [Nat.zero_add] at this ⊢
theorem rds_of_owns2 (hf : ∀ x, (f x).length = sz) {base e n : Nat} {v : Value} (h : w.ownsRow base e sz v n (flatV f l)) (hn : l.length = n) (hw : ∀ x ∈ l, ∀ z ∈ f x, (Lit.int .i64 z).wf = true) : ∃ a c, v = .slice a n c ∧ Rds f sz w a c l ∧ ∀ x, a = some x → base ≤ x.block ∧ x.block < w.heap.size := by
  obtain ⟨a, c, rfl, R⟩ := rds_of_owns hf h hn hw
  refine ⟨a, c, rfl, R, fun x e => ?_⟩
  subst e
  exact h.lt x.block rfl
theorem cells_of_rds (hf : ∀ x, (f x).length = sz) {x : Addr} (h : Rds f sz w (some x) c l) : ∀ j u, (flatV f l)[j]? = some u → w.cell? (x.add j) = some u := by
  intro k u hu
  obtain ⟨i, z, j, y, h1, h2, rfl, rfl⟩ := flatV_back hf hu
  obtain ⟨b, o, e, _, hc⟩ := h.cells (by intro h0; subst h0; simp at h1)
  obtain rfl := Option.some.inj e
  rw [Addr.add_lit, ← Nat.add_assoc]
  exact hc i z h1 j y h2
/-- one element's cells -/
theorem Rds.at (h : Rds f sz w a c l) {i : Nat} {x : α} (hx : l[i]? = some x) : ∃ b o, a = some ⟨b, o, Option.none⟩ ∧ b < w.heap.size ∧ ∀ j y, (f x)[j]? = some y → w.cell? ⟨b, o + i * sz + j, Option.none⟩ = some (.int .i64 y) := by
  obtain ⟨b, o, e, hlt, hc⟩ := h.cells (by intro h0; subst h0; simp at hx)
  exact ⟨b, o, e, hlt, hc i x hx⟩
theorem Rds.take (h : Rds f sz w a c l) (n : Nat) : Rds f sz w a c (l.take n) := by
  refine ⟨by have := h.le; simp; omega, h.max, fun x hx => h.wf x (List.mem_of_mem_take hx), h.nil, fun hne => ?_⟩
  obtain ⟨b, o, e, hb, hc⟩ := h.cells (by intro h0; subst h0; simp at hne)
  refine ⟨b, o, e, hb, fun i x hx => hc i x ?_⟩
  rw [List.getElem?_take] at hx
  split at hx
  · exact hx
  · cases hx
theorem own_laterR {base e n : Nat} {v : Value} {xs : List Value} (h : w.ownsRow base e sz v n xs) (hb : Below w.heap.size w w') : w'.ownsRow base e sz v n xs := by
  refine ⟨h.1, ?_⟩
  rcases h.2 with h0 | ⟨g, cap, cur, hv, hbg, hg, rest⟩
  · exact .inl h0
  · exact .inr ⟨g, cap, cur, hv, hbg, (hb.block g (Array.getElem?_eq_some_iff.1 hg).1).trans hg, rest⟩
theorem below_growR {B : Nat} {w0 w w' : World} {e n : Nat} {v : Value} {xs : List Value} (hb : Below B w0 w) (hown : w.ownsRow B e sz v n xs) (hg : w.grownBy w' v.ownBlock) (hB : B ≤ w.heap.size) : Below B w0 w' :=
  hb.grown hg hB (fun k hk => (hown.lt k hk).1)
/-- what came in as an argument -/
theorem rds_of_trod {H : Type} {enc : TypeId × Value → H} {base : Nat} {spare : Nat → Bool} {t e : TypeId} {fuel : Nat} {a0 : Option Addr} {n0 c0 : Nat} {d : DataW H × List MemPlace} (ht : Try.prog.underlying t = some (.slice e)) (hce : Try.prog.cellsOf e = sz) (hs : ∀ b, spare b = true) (hpos : 0 < sz) (hf : ∀ x, (f x).length = sz)
    (elem : ∀ (n : Nat) (cs : List Value) (y : DataW H × List MemPlace), cs.length = sz → DataW.trod enc Try.prog w base spare true n e cs = some y → ∃ x : α, cs = (f x).map (Value.int .i64) ∧ ∀ z ∈ f x, (Lit.int .i64 z).wf = true)
    (h : DataW.trod enc Try.prog w base spare true fuel t [.slice a0 n0 c0] = some d) : ∃ l : List α, n0 = l.length ∧ Rds f sz w a0 c0 l := by
  rcases Go.Deep.open_slice ht h with ⟨h0, _⟩ | ⟨x, len, cap, m, n, D, Pl, hcs, hb, hl, hmx, hm, _, hx⟩
  · simp only [List.cons.injEq, Value.slice.injEq, and_true] at h0
    obtain ⟨rfl, rfl, rfl⟩ := h0
    exact ⟨[], rfl, Rds.none f sz w⟩
  · simp only [List.cons.injEq, Value.slice.injEq, and_true] at hcs
    obtain ⟨rfl, rfl, rfl⟩ := hcs
    rw [hs] at hm
    have each : ∀ i, i < n0 → ∃ x' : α, (∀ z ∈ f x', (Lit.int .i64 z).wf = true) ∧ ∀ j y, (f x')[j]? = some y → w.cell? (x.add (i * sz + j)) = some (.int .i64 y) := by
      intro i hi
      obtain ⟨cs', h1, h2⟩ := hx i (by simp at hm; omega)
      rw [hce] at h1
      obtain ⟨_, hlen, hcell⟩ := World.cells?_some h1
      obtain ⟨x', rfl, hw⟩ := elem n cs' _ hlen h2
      refine ⟨x', hw, fun j y hy => ?_⟩
      have hj : j < sz := by rw [← hf x']; exact (List.getElem?_eq_some_iff.1 hy).1
      have e0 := hcell j hj
      rw [Go.Deep.add_add] at e0
      rw [e0]
      simp [hy]
    rcases Nat.eq_zero_or_pos n0 with hz | hz
    · subst hz
      exact ⟨[], rfl, ⟨by simp, hmx, by simp, fun h => (nomatch h), fun h => absurd rfl h⟩⟩
    · obtain ⟨q, hq⟩ : ∃ q : Nat → α, ∀ i, i < n0 → (∀ z ∈ f (q i), (Lit.int .i64 z).wf = true) ∧ ∀ j y, (f (q i))[j]? = some y → w.cell? (x.add (i * sz + j)) = some (.int .i64 y) := by
        refine ⟨fun i => if h : i < n0 then (each i h).choose else (each 0 hz).choose, fun i hi => ?_⟩
        simp only [dif_pos hi]
        exact (each i hi).choose_spec
      refine ⟨(List.range n0).map q, by simp, ⟨by simpa using hl, hmx, fun x' hx' => ?_, fun h => (nomatch h), fun _ => ?_⟩⟩
      · obtain ⟨i, hi, rfl⟩ := List.mem_map.1 hx'
        exact (hq i (List.mem_range.1 hi)).1
      · obtain ⟨b, o, s⟩ := x
        obtain ⟨y, hy⟩ : ∃ y, (f (q 0))[0]? = some y := ⟨_, List.getElem?_eq_getElem (by rw [hf]; exact hpos)⟩
        have hc := (hq 0 hz).2 0 y hy
        have hs : s = Option.none := by simpa [Addr.add] using World.cell?_spot hc
        subst hs
        refine ⟨b, o, rfl, ?_, fun i x' hx' j y' hy' => ?_⟩
        · have := World.block_lt_of_cell? w _ hc; simpa [Addr.add] using this
        · have hi : i < n0 := by have := (List.getElem?_eq_some_iff.1 hx').1; simpa using this
          obtain rfl : q i = x' := by simpa [hi] using hx'
          have := (hq i hi).2 j y' hy'
          rw [Addr.add_lit, ← Nat.add_assoc] at this
          exact this
end
section
variable {α : Type} {f : α → List Int} {sz : Nat} {w : World} {ops : Array Oper} {rest : List Oper} {o : Oper} {a : Act} {Q : Exit → Act → World → Prop}
/-- 'append(s, x...)', s the call's own, x whatever reads l -/
theorem wpRds_join (hf : ∀ x, (f x).length = sz) (hpos : 0 < sz) (hgd : o.guard = none) (s x : Operand) (t : TypeId)
    (ho : o.op = .call { callee := .builtin .append, args := #[s, x], argTypes := #[t, t] })
    (B : Nat) (e : TypeId) (bytes : Nat) (z : Value) (ht : Try.prog.underlying t = some (.slice e)) (hinfo : (Try.prog.info? e).map (fun i => (i.zero, i.size, i.bytes)) = some (some z, sz, bytes)) (hz : z.cells.size = sz)
    {v : Value} {n : Nat} {ys : List α} (hs : a.eval s = v) (hown : w.ownsRow B e sz v n (flatV f ys))
    {ad : Option Addr} {m c : Nat} {l : List α} (hx : a.eval x = .slice ad m c) (R : Rds f sz w ad c l) (hm : l.length = m)
    (hb1 : n + m ≤ 1000000) (hb2 : bytes ≤ 1000) (hB : B ≤ w.heap.size)
    (h : ∀ v' w', w'.ownsRow B e sz v' (n + m) (flatV f (ys ++ l)) → w.grownBy w' v.ownBlock → wpList Try.prog ops Q rest (a.put o.dst v') w') : wpList Try.prog ops Q (o :: rest) a w := by
  obtain ⟨i0, hi, hz0, hz1, hz2⟩ := info_parts hinfo
  cases ad with
  | none =>
    have hc := R.nil rfl
    have hl : l = [] := List.eq_nil_of_length_eq_zero (by have := R.le; omega)
    subst hl
    simp at hm
    subst hm; subst hc
    refine wpList_append_own_none hgd s x t ho B e i0 sz ht hi v n _ hs hown hx ?_
    exact h v w (by simpa using hown) (World.grownBy.refl _ _)
  | some ad =>
    refine wpList_append_own _ hgd s x t ho B e i0 z sz bytes ht hi hz0 hz1 hz2 hz hpos v n _ hs hown ad m c (flatV f l) hx (by rw [flatV_len hf, hm]) (cells_of_rds hf R) (flatV_one hf) (by unfold maxLen; omega) ?_ hB ?_
    · have : (n + m) * bytes ≤ 1000000 * 1000 := Nat.mul_le_mul hb1 hb2
      omega
    · intro v' w' h1 h2 _
      rw [← flatV_append] at h1
      exact h v' w' h1 h2
/-- 'append(s, y)', s the call's own: y is laid in a block of its own first -/
theorem wpRds_one (hf : ∀ x, (f x).length = sz) (hpos : 0 < sz) (W : World) (y : α) (e : TypeId) (hW : w = W.alloc (.cells ((f y).map (Value.int .i64)).toArray e)) (hgd : o.guard = none) (s x : Operand) (t : TypeId)
    (ho : o.op = .call { callee := .builtin .append, args := #[s, x], argTypes := #[t, t] })
    (B : Nat) (bytes : Nat) (z : Value) (ht : Try.prog.underlying t = some (.slice e)) (hinfo : (Try.prog.info? e).map (fun i => (i.zero, i.size, i.bytes)) = some (some z, sz, bytes)) (hz : z.cells.size = sz)
    {v : Value} {n : Nat} {ys : List α} (hs : a.eval s = v) (hown : W.ownsRow B e sz v n (flatV f ys))
    (hx : a.eval x = .slice (some ⟨W.heap.size, 0, none⟩) 1 1)
    (hb1 : n + 1 ≤ 1000000) (hb2 : bytes ≤ 1000) (hB : B ≤ W.heap.size)
    (h : ∀ v' w', w'.ownsRow B e sz v' (n + 1) (flatV f (ys ++ [y])) → w.grownBy w' v.ownBlock → wpList Try.prog ops Q rest (a.put o.dst v') w') : wpList Try.prog ops Q (o :: rest) a w := by
  subst hW
  obtain ⟨i0, hi, hz0, hz1, hz2⟩ := info_parts hinfo
  have e1 : flatV f [y] = (f y).map (Value.int .i64) := by simp [flatV]
  refine wpList_append_own _ hgd s x t ho B e i0 z sz bytes ht hi hz0 hz1 hz2 hz hpos v n _ hs (hown.alloc _) _ 1 1 (flatV f [y]) hx (by rw [flatV_len hf]; simp) ?_ (flatV_one hf) (by unfold maxLen; omega) ?_ (by simp; omega) ?_
  · rw [e1]
    intro j u hu
    exact World.news_of_block (heap_alloc_new W (.cells ((f y).map (Value.int .i64)).toArray e)) j u (by simpa using hu)
  · have : (n + 1) * bytes ≤ 1000000 * 1000 := Nat.mul_le_mul hb1 hb2
    omega
  · intro v' w' h1 h2 _
    rw [← flatV_append] at h1
    exact h v' w' h1 h2
/-- the same at one step of a region that draws its order -/
theorem wpOp_join (hf : ∀ x, (f x).length = sz) (hpos : 0 < sz) {K : Act → World → Prop} (s x : Operand) (t : TypeId)
    (ho : o.op = .call { callee := .builtin .append, args := #[s, x], argTypes := #[t, t] })
    (B : Nat) (e : TypeId) (bytes : Nat) (z : Value) (ht : Try.prog.underlying t = some (.slice e)) (hinfo : (Try.prog.info? e).map (fun i => (i.zero, i.size, i.bytes)) = some (some z, sz, bytes)) (hz : z.cells.size = sz)
    {v : Value} {n : Nat} {ys : List α} (hs : a.eval s = v) (hown : w.ownsRow B e sz v n (flatV f ys))
    {ad : Option Addr} {m c : Nat} {l : List α} (hx : a.eval x = .slice ad m c) (R : Rds f sz w ad c l) (hm : l.length = m)
    (hb1 : n + m ≤ 1000000) (hb2 : bytes ≤ 1000) (hB : B ≤ w.heap.size)
    (h : ∀ v' w', w'.ownsRow B e sz v' (n + m) (flatV f (ys ++ l)) → w.grownBy w' v.ownBlock → K (a.put o.dst v') w') : o.wp Try.prog a w K Q := by
  obtain ⟨i0, hi, hz0, hz1, hz2⟩ := info_parts hinfo
  cases ad with
  | none =>
    have hc := R.nil rfl
    have hl : l = [] := List.eq_nil_of_length_eq_zero (by have := R.le; omega)
    subst hl
    simp at hm
    subst hm; subst hc
    have hrun := run_append_owned_none (P := Try.prog) (w := w) B t o.type e i0 sz ht hi v n _ hown
    unfold Oper.wp
    simp [execOp, ho, resolve, invoke, builtin, hs, hx, hrun, Result.andThen]
    exact h v w (by simpa using hown) (World.grownBy.refl _ _)
  | some ad =>
    refine wp_append_own _ s x t ho B e i0 z sz bytes ht hi hz0 hz1 hz2 hz hpos v n _ hs hown ad m c (flatV f l) hx (by rw [flatV_len hf, hm]) (cells_of_rds hf R) (flatV_one hf) (by unfold maxLen; omega) ?_ hB ?_
    · have : (n + m) * bytes ≤ 1000000 * 1000 := Nat.mul_le_mul hb1 hb2
      omega
    · intro v' w' h1 h2 _
      rw [← flatV_append] at h1
      exact h v' w' h1 h2
theorem stepRds_join (hf : ∀ x, (f x).length = sz) (hpos : 0 < sz) {K : Act → World → Prop} {E : Prop} (hgd : o.guard = none) (s x : Operand) (t : TypeId)
    (ho : o.op = .call { callee := .builtin .append, args := #[s, x], argTypes := #[t, t] })
    (B : Nat) (e : TypeId) (bytes : Nat) (z : Value) (ht : Try.prog.underlying t = some (.slice e)) (hinfo : (Try.prog.info? e).map (fun i => (i.zero, i.size, i.bytes)) = some (some z, sz, bytes)) (hz : z.cells.size = sz)
    {v : Value} {n : Nat} {ys : List α} (hs : a.eval s = v) (hown : w.ownsRow B e sz v n (flatV f ys))
    {ad : Option Addr} {m c : Nat} {l : List α} (hx : a.eval x = .slice ad m c) (R : Rds f sz w ad c l) (hm : l.length = m)
    (hb1 : n + m ≤ 1000000) (hb2 : bytes ≤ 1000) (hB : B ≤ w.heap.size)
    (h : ∀ v' w', w'.ownsRow B e sz v' (n + m) (flatV f (ys ++ l)) → w.grownBy w' v.ownBlock → K (a.put o.dst v') w') :
    if Region.wanted o (yielded ops a.tmps) = true then Oper.wp Try.prog o a w K Q else E := by
  have hw : Region.wanted o (yielded ops a.tmps) = true := by simp [Region.wanted, hgd]
  rw [if_pos hw]
  exact wpOp_join hf hpos s x t ho B e bytes z ht hinfo hz hs hown hx R hm hb1 hb2 hB h
/-- a slice of one element, just made -/
theorem rds_new (hf : ∀ x, (f x).length = sz) (W : World) (y : α) (e : TypeId) (hw : ∀ z ∈ f y, (Lit.int .i64 z).wf = true) {B : Nat} (hB : W.heap.size = B) : Rds f sz (W.alloc (.cells ((f y).map (Value.int .i64)).toArray e)) (some ⟨B, 0, none⟩) 1 [y] := by
  subst hB
  refine ⟨Nat.le_refl _, by unfold maxLen; omega, fun x hx => by rw [List.mem_singleton.1 hx]; exact hw, fun h => (nomatch h), fun _ => ⟨_, _, rfl, by simp, fun i x hx j u hu => ?_⟩⟩
  have hi : i = 0 := by have := (List.getElem?_eq_some_iff.1 hx).1; simp at this; exact this
  subst hi
  obtain rfl : y = x := by simpa using hx
  have := World.news_of_block (heap_alloc_new W (.cells ((f y).map (Value.int .i64)).toArray e)) j (.int .i64 u) (by simp [hu])
  rw [Addr.add_lit] at this
  simpa using this
end
end Go.Proofs.Ytoedgnkoahcblaa

/-! What it means that a call changed only what is its own: blocks of a set, and new ones; and how facts of other blocks stay. -/
namespace Go.Proofs.Ytoedgnkoahcblaa
open Go.ChangeShapes Go.WideShapes Go.ChangeAt Go.RowKit
set_option linter.unusedVariables false

/-- of the blocks that were there only those of S may have changed -/
structure Keeps (S : Nat → Prop) (w w' : World) : Prop where
  os : w'.os = w.os
  tape : w'.tape = w.tape
  output : w'.output = w.output
  size : w.heap.size ≤ w'.heap.size
  block : ∀ k, k < w.heap.size → ¬ S k → w'.heap[k]? = w.heap[k]?
/-- what a thing's blocks may be behind a call: those that were, and new ones -/
def Grow (F : Nat → Prop) (w w' : World) (k : Nat) : Prop := F k ∨ (w.heap.size ≤ k ∧ k < w'.heap.size)
section
variable {S S' : Nat → Prop} {w w' w2 : World}
theorem Keeps.of_below (h : Below w.heap.size w w') : Keeps S w w' := ⟨h.os, h.tape, h.output, h.size, fun k hk _ => h.block k hk⟩
theorem Keeps.refl (S : Nat → Prop) (w : World) : Keeps S w w := ⟨rfl, rfl, rfl, Nat.le_refl _, fun _ _ _ => rfl⟩
theorem Keeps.trans (h : Keeps S w w') (h2 : Keeps S' w' w2) (hS : ∀ k, k < w.heap.size → S' k → S k) : Keeps S w w2 :=
  ⟨h2.os.trans h.os, h2.tape.trans h.tape, h2.output.trans h.output, Nat.le_trans h.size h2.size, fun k hk hn => (h2.block k (Nat.lt_of_lt_of_le hk h.size) (fun hs => hn (hS k hk hs))).trans (h.block k hk hn)⟩
theorem Keeps.mono (h : Keeps S w w') (hS : ∀ k, k < w.heap.size → S k → S' k) : Keeps S' w w' := ⟨h.os, h.tape, h.output, h.size, fun k hk hn => h.block k hk fun hs => hn (hS k hk hs)⟩
theorem Keeps.below (h : Keeps S w w') {B : Nat} (hB : B ≤ w.heap.size) (hS : ∀ k, S k → B ≤ k) : Below B w w' :=
  ⟨h.os, h.tape, h.output, h.size, fun k hk => h.block k (Nat.lt_of_lt_of_le hk hB) fun hs => absurd (hS k hs) (by omega)⟩
theorem Keeps.cell (h : Keeps S w w') {p : Addr} (hp : p.block < w.heap.size) (hn : ¬ S p.block) : w'.cell? p = w.cell? p := World.cell?_of_block (w := w) (h.block p.block hp hn)
theorem Keeps.frozen (h : Keeps S w w') {p : Addr} (hp : p.block < w.heap.size) (hn : ¬ S p.block) : w'.frozen? p = w.frozen? p := World.frozen?_of_block (w := w) (h.block p.block hp hn)
theorem Keeps.setCell {p : Addr} (h : Keeps S w w') (hp : p.block < w.heap.size → S p.block) (v : Value) : Keeps S w (w'.setCell p v) :=
  ⟨h.os, h.tape, h.output, by simpa using h.size, fun k hk hn => (Below.heap_setCell w' p v k (fun e => hn (by rw [e]; exact hp (by rw [← e]; exact hk)))).trans (h.block k hk hn)⟩
theorem Rds.kept {α : Type} {f : α → List Int} {sz : Nat} {a : Option Addr} {c : Nat} {l : List α} (h : Rds f sz w a c l) (hk : Keeps S w w') (hS : ∀ x, a = some x → l ≠ [] → ¬ S x.block) : Rds f sz w' a c l :=
  ⟨h.le, h.max, h.wf, h.nil, fun hl => by
    obtain ⟨b, o, e, hlt, hc⟩ := h.cells hl
    exact ⟨b, o, e, Nat.lt_of_lt_of_le hlt hk.size, fun i x hi j y hy => (hk.cell (p := ⟨b, o + i * sz + j, Option.none⟩) hlt (hS ⟨b, o, Option.none⟩ e hl)).trans (hc i x hi j y hy)⟩⟩
end
end Go.Proofs.Ytoedgnkoahcblaa

/-! What it means that a slice of elements of some cells each (ints, slices, ..) reads as a list, and how that stays so: made by the call itself, appended to. As Rdv, but that f gives the cells themselves. -/
namespace Go.Proofs.Ytoedgnkoahcblaa
open Go.ChangeShapes Go.WideShapes Go.ChangeAt Go.RowKit
set_option linter.unusedVariables false
set_option linter.unusedSimpArgs false

/-- the slice at address a with capacity c, as long as l, reads l, in the world w: f is how an element lies in its sz cells -/
structure Rdv {α : Type} (f : α → List Value) (sz : Nat) (w : World) (a : Option Addr) (c : Nat) (l : List α) : Prop where
  le : l.length ≤ c
  max : c ≤ maxLen
  nil : a = none → c = 0
  cells : l ≠ [] → ∃ b o, a = some ⟨b, o, none⟩ ∧ b < w.heap.size ∧ ∀ i x, l[i]? = some x → ∀ j y, (f x)[j]? = some y → w.cell? ⟨b, o + i * sz + j, none⟩ = some y
section
variable {α : Type} {f : α → List Value} {sz : Nat} {w w' : World} {a : Option Addr} {c : Nat} {l : List α}
theorem Rdv.later (h : Rdv f sz w a c l) (hb : Below w.heap.size w w') : Rdv f sz w' a c l :=
  ⟨h.le, h.max, h.nil, fun hl => by
    obtain ⟨b, o, e, hlt, hc⟩ := h.cells hl
    exact ⟨b, o, e, Nat.lt_of_lt_of_le hlt hb.size, fun i x hi j y hy => (hb.cell (p := ⟨b, o + i * sz + j, none⟩) hlt).trans (hc i x hi j y hy)⟩⟩
theorem Rdv.none (f : α → List Value) (sz : Nat) (w : World) : Rdv f sz w none 0 [] := ⟨by simp, by simp [maxLen], fun _ => rfl, fun h => absurd rfl h⟩
/-- the cells, one behind the other -/
def flatW (f : α → List Value) (l : List α) : List Value := l.flatMap fun x => (f x)
theorem flatW_append (f : α → List Value) (l m : List α) : flatW f (l ++ m) = flatW f l ++ flatW f m := by simp [flatW]
theorem flatW_len (hf : ∀ x, (f x).length = sz) (l : List α) : (flatW f l).length = l.length * sz := by
  induction l with
  | nil => simp [flatW]
  | cons x l ih =>
    have e : flatW f (x :: l) = f x ++ flatW f l := rfl
    rw [e, List.length_append, ih, hf, List.length_cons, Nat.succ_mul]
    omega
theorem flatW_get (hf : ∀ x, (f x).length = sz) {l : List α} {i : Nat} {x : α} (hx : l[i]? = some x) {j : Nat} {y : Value} (hy : (f x)[j]? = some y) : (flatW f l)[i * sz + j]? = some y := by
  induction l generalizing i with
  | nil => simp at hx
  | cons z l ih =>
    have e : flatW f (z :: l) = f z ++ flatW f l := rfl
    rw [e]
    cases i with
    | zero =>
      obtain rfl : z = x := by simpa using hx
      have hj : j < (f z).length := (List.getElem?_eq_some_iff.1 hy).1
      rw [Nat.zero_mul, Nat.zero_add, List.getElem?_append_left hj, hy]
    | succ i =>
      have hj : j < (f x).length := (List.getElem?_eq_some_iff.1 hy).1
      rw [List.getElem?_append_right (by rw [hf, Nat.succ_mul]; omega), hf]
      have : (i + 1) * sz + j - sz = i * sz + j := by rw [Nat.succ_mul]; omega
      rw [this]
      exact ih (by simpa using hx)
theorem flatW_back (hf : ∀ x, (f x).length = sz) {l : List α} {k : Nat} {u : Value} (h : (flatW f l)[k]? = some u) : ∃ i x j, l[i]? = some x ∧ (f x)[j]? = some u ∧ k = i * sz + j := by
  induction l generalizing k with
  | nil => simp [flatW] at h
  | cons z l ih =>
    have e : flatW f (z :: l) = f z ++ flatW f l := rfl
    rw [e] at h
    by_cases hk : k < sz
    · rw [List.getElem?_append_left (by rw [hf]; exact hk)] at h
      exact ⟨0, z, k, rfl, h, by omega⟩
    · rw [List.getElem?_append_right (by rw [hf]; omega), hf] at h
      obtain ⟨i, x, j, h1, h2, h3⟩ := ih h
      exact ⟨i + 1, x, j, by simpa using h1, h2, by rw [Nat.succ_mul]; omega⟩
theorem flatW_one (h1 : ∀ x, ∀ z ∈ f x, z.oneCell' = true) : ∀ u ∈ flatW f l, u.oneCell' = true := by
  intro u hu
  obtain ⟨x, _, hx⟩ := List.mem_flatMap.1 hu
  exact h1 x u hx
/-- a slice that the call itself made reads what it owns -/
theorem rdv_of_owns (hf : ∀ x, (f x).length = sz) {base e n : Nat} {v : Value} (h : w.ownsRow base e sz v n (flatW f l)) (hn : l.length = n) : ∃ a c, v = .slice a n c ∧ Rdv f sz w a c l := by
  subst hn
  rcases h.2 with ⟨rfl, h0⟩ | ⟨g, cap, cur, rfl, hb, hg, hle, hmx, hsz, htk⟩
  · obtain rfl : l = [] := List.eq_nil_of_length_eq_zero h0
    exact ⟨_, _, rfl, Rdv.none f sz w⟩
  · refine ⟨some ⟨g, 0, Option.none⟩, cap, rfl, ⟨hle, hmx, fun h => (nomatch h), fun hne => ⟨g, 0, rfl, (Array.getElem?_eq_some_iff.1 hg).1, fun i x hx j y hy => ?_⟩⟩⟩
    have := h.cells (g := g) rfl (i * sz + j) y (flatW_get hf hx hy)
    rw [Addr.add_lit] at this
    rwa [Nat.zero_add] at this ⊢
theorem rdv_of_owns2 (hf : ∀ x, (f x).length = sz) {base e n : Nat} {v : Value} (h : w.ownsRow base e sz v n (flatW f l)) (hn : l.length = n) : ∃ a c, v = .slice a n c ∧ Rdv f sz w a c l ∧ ∀ x, a = some x → base ≤ x.block ∧ x.block < w.heap.size := by
  obtain ⟨a, c, rfl, R⟩ := rdv_of_owns hf h hn
  refine ⟨a, c, rfl, R, fun x e => ?_⟩
  subst e
  exact h.lt x.block rfl
theorem cells_of_rdv (hf : ∀ x, (f x).length = sz) {x : Addr} (h : Rdv f sz w (some x) c l) : ∀ j u, (flatW f l)[j]? = some u → w.cell? (x.add j) = some u := by
  intro k u hu
  obtain ⟨i, z, j, h1, h2, rfl⟩ := flatW_back hf hu
  obtain ⟨b, o, e, _, hc⟩ := h.cells (by intro h0; subst h0; simp at h1)
  obtain rfl := Option.some.inj e
  rw [Addr.add_lit, ← Nat.add_assoc]
  exact hc i z h1 j u h2
/-- one element's cells -/
theorem Rdv.at (h : Rdv f sz w a c l) {i : Nat} {x : α} (hx : l[i]? = some x) : ∃ b o, a = some ⟨b, o, Option.none⟩ ∧ b < w.heap.size ∧ ∀ j y, (f x)[j]? = some y → w.cell? ⟨b, o + i * sz + j, Option.none⟩ = some y := by
  obtain ⟨b, o, e, hlt, hc⟩ := h.cells (by intro h0; subst h0; simp at hx)
  exact ⟨b, o, e, hlt, hc i x hx⟩
theorem Rdv.take (h : Rdv f sz w a c l) (n : Nat) : Rdv f sz w a c (l.take n) := by
  refine ⟨by have := h.le; simp; omega, h.max, h.nil, fun hne => ?_⟩
  obtain ⟨b, o, e, hb, hc⟩ := h.cells (by intro h0; subst h0; simp at hne)
  refine ⟨b, o, e, hb, fun i x hx => hc i x ?_⟩
  rw [List.getElem?_take] at hx
  split at hx
  · exact hx
  · cases hx
/-- a slice from n on: its address as the walk spells it -/
theorem Rdv.drop {x0 : Addr} (h : Rdv f sz w (some x0) c l) (n : Nat) (hn : n ≤ l.length) : Rdv f sz w (if c = n then some x0 else some (x0.add (n * sz))) (c - n) (l.drop n) := by
  have hle := h.le
  refine ⟨by rw [List.length_drop]; omega, Nat.le_trans (Nat.sub_le _ _) h.max, fun e => (by split at e <;> cases e), fun hne => ?_⟩
  have hlt : n < l.length := by
    rcases Nat.lt_or_ge n l.length with h1 | h1
    · exact h1
    · exact absurd (List.drop_eq_nil_of_le h1) hne
  obtain ⟨b, o, e, hb, hc⟩ := h.cells (by intro h0; subst h0; simp at hlt)
  cases e
  rw [if_neg (by omega), Addr.add_lit]
  refine ⟨b, o + n * sz, rfl, hb, fun i x hx j y hy => ?_⟩
  have h1 := hc (n + i) x (by rw [← List.getElem?_drop]; exact hx) j y hy
  rw [Nat.add_mul, ← Nat.add_assoc o] at h1
  exact h1
theorem Rdv.kept {S : Nat → Prop} (h : Rdv f sz w a c l) (hk : Keeps S w w') (hS : ∀ x, a = some x → l ≠ [] → ¬ S x.block) : Rdv f sz w' a c l :=
  ⟨h.le, h.max, h.nil, fun hl => by
    obtain ⟨b, o, e, hlt, hc⟩ := h.cells hl
    exact ⟨b, o, e, Nat.lt_of_lt_of_le hlt hk.size, fun i x hi j y hy => (hk.cell (p := ⟨b, o + i * sz + j, Option.none⟩) hlt (hS ⟨b, o, Option.none⟩ e hl)).trans (hc i x hi j y hy)⟩⟩
theorem own_laterW {base e n : Nat} {v : Value} {xs : List Value} (h : w.ownsRow base e sz v n xs) (hb : Below w.heap.size w w') : w'.ownsRow base e sz v n xs := by
  refine ⟨h.1, ?_⟩
  rcases h.2 with h0 | ⟨g, cap, cur, hv, hbg, hg, rest⟩
  · exact .inl h0
  · exact .inr ⟨g, cap, cur, hv, hbg, (hb.block g (Array.getElem?_eq_some_iff.1 hg).1).trans hg, rest⟩
theorem below_growW {B : Nat} {w0 w w' : World} {e n : Nat} {v : Value} {xs : List Value} (hb : Below B w0 w) (hown : w.ownsRow B e sz v n xs) (hg : w.grownBy w' v.ownBlock) (hB : B ≤ w.heap.size) : Below B w0 w' :=
  hb.grown hg hB (fun k hk => (hown.lt k hk).1)
end
/-- where a grown row lies: where it lay, or in a new block -/
theorem append_place {P : Program} {w : World} (base : Nat) (t ty e : TypeId) (i : TypeInfo) (z : Value) (size bytes : Nat) (ht : P.underlying t = some (.slice e)) (hi : P.info? e = some i) (hz : i.zero = some z)
    (hsize : i.size = size) (hby : i.bytes = bytes) (hzs : z.cells.size = size) (hsz : 0 < size)
    (v : Value) (n : Nat) (xs : List Value) (hown : w.ownsRow base e size v n xs)
    (a : Addr) (m c : Nat) (news : List Value) (hl : news.length = m * size) (hnews : ∀ j u, news[j]? = some u → w.cell? (a.add j) = some u) (h1 : ∀ u ∈ news, u.oneCell' = true)
    (h63 : n + m ≤ maxLen) (hbytes : (n + m) * bytes ≤ 140737488355328) (hbase : base ≤ w.heap.size) {v' : Value} {w' : World}
    (hr : (Builtin.append_ #[t, t] ty #[v, .slice (some a) m c]).run P w = .ok v' w') : ∀ k, v'.ownBlock = some k → v.ownBlock = some k ∨ w.heap.size ≤ k := by
  intro k hk
  have hsmall : n + m ≤ 9223372036854775807 := by simp only [maxLen] at h63; omega
  obtain ⟨v2, w2, hr2, _, _, hiff⟩ := run_append_own (P := P) w base t ty e i z size bytes ht hi hz hsize hby hzs hsz v n xs hown a m c news hl hnews h1 h63 hbytes hbase
  have hv : v' = v2 := by rw [hr] at hr2; injection hr2
  subst hsize
  subst hby
  rcases hown.2 with ⟨rfl, rfl⟩ | ⟨g, cap, cur, rfl, hbg, hg, hnc, hcm, hcs, htake⟩
  · by_cases hm : m = 0
    · rw [hv, hiff.2 ⟨rfl, hm⟩] at hk
      cases hk
    · have h2 := run_append_nil (P := P) w t ty e i z ht hi hz a m c news hl hnews (by omega) (by omega) (by simp only [Nat.zero_add] at hbytes; omega)
      rw [hr] at h2
      injection h2 with h2 _
      subst h2
      cases hk
      exact .inr (Nat.le_refl _)
  · by_cases hroom : n + m ≤ cap
    · have hfit : n * i.size + news.length ≤ cur.size := by rw [hl, hcs, ← Nat.add_mul]; exact Nat.mul_le_mul_right _ hroom
      have h2 := run_append_room (P := P) w t ty e i ht hi g n cap cur hg a m c news hl hnews h1 hroom hfit
      rw [hr] at h2
      injection h2 with h2 _
      subst h2
      exact .inl hk
    · have holds : ∀ j u, xs[j]? = some u → w.cell? ((⟨g, 0, Option.none⟩ : Addr).add j) = some u := hown.cells (g := g) rfl
      have h2 := run_append_grow (P := P) w t ty e i z ht hi hz ⟨g, 0, Option.none⟩ n cap xs hown.1 holds a m c news hl hnews (by omega) (by omega) (growslice_fits (by omega) hbytes)
      rw [hr] at h2
      injection h2 with h2 _
      subst h2
      cases hk
      exact .inr (Nat.le_refl _)
theorem wp_append_place {P : Program} {w : World} {o : Oper} {a : Act} {K : Act → World → Prop} {Q : Exit → Act → World → Prop} (s x : Operand) (t : TypeId)
    (ho : o.op = .call { callee := .builtin .append, args := #[s, x], argTypes := #[t, t] })
    (base : Nat) (e : TypeId) (i : TypeInfo) (z : Value) (size bytes : Nat) (ht : P.underlying t = some (.slice e)) (hi : P.info? e = some i) (hz : i.zero = some z)
    (hsize : i.size = size) (hby : i.bytes = bytes) (hzs : z.cells.size = size) (hsz : 0 < size)
    (v : Value) (n : Nat) (xs : List Value) (hs : a.eval s = v) (hown : w.ownsRow base e size v n xs)
    (ad : Addr) (m c : Nat) (news : List Value) (hx : a.eval x = .slice (some ad) m c) (hl : news.length = m * size) (hnews : ∀ j u, news[j]? = some u → w.cell? (ad.add j) = some u) (h1 : ∀ u ∈ news, u.oneCell' = true)
    (h63 : n + m ≤ maxLen) (hbytes : (n + m) * bytes ≤ 140737488355328) (hbase : base ≤ w.heap.size)
    (h : ∀ v' w', w'.ownsRow base e size v' (n + m) (xs ++ news) → w.grownBy w' v.ownBlock → (∀ k, v'.ownBlock = some k → v.ownBlock = some k ∨ w.heap.size ≤ k) → K (a.put o.dst v') w') : o.wp P a w K Q := by
  obtain ⟨v', w', hr, h2, h3, h4⟩ := run_append_own (P := P) w base t o.type e i z size bytes ht hi hz hsize hby hzs hsz v n xs hown ad m c news hl hnews h1 h63 hbytes hbase
  have hp := append_place (P := P) base t o.type e i z size bytes ht hi hz hsize hby hzs hsz v n xs hown ad m c news hl hnews h1 h63 hbytes hbase hr
  unfold Oper.wp execOp
  simp only [ho, resolve, invoke, builtin, Sem.run_bind, Sem.run_pure, Result.andThen_ok, List.map_toArray, List.map_cons, List.map_nil, hs, hx, hr]
  exact h v' w' h2 h3 hp
theorem wpList_append_place {P : Program} {w : World} {ops : Array Oper} {rest : List Oper} {o : Oper} {a : Act} {Q : Exit → Act → World → Prop} (hgd : o.guard = none) (s x : Operand) (t : TypeId)
    (ho : o.op = .call { callee := .builtin .append, args := #[s, x], argTypes := #[t, t] })
    (base : Nat) (e : TypeId) (i : TypeInfo) (z : Value) (size bytes : Nat) (ht : P.underlying t = some (.slice e)) (hi : P.info? e = some i) (hz : i.zero = some z)
    (hsize : i.size = size) (hby : i.bytes = bytes) (hzs : z.cells.size = size) (hsz : 0 < size)
    (v : Value) (n : Nat) (xs : List Value) (hs : a.eval s = v) (hown : w.ownsRow base e size v n xs)
    (ad : Addr) (m c : Nat) (news : List Value) (hx : a.eval x = .slice (some ad) m c) (hl : news.length = m * size) (hnews : ∀ j u, news[j]? = some u → w.cell? (ad.add j) = some u) (h1 : ∀ u ∈ news, u.oneCell' = true)
    (h63 : n + m ≤ maxLen) (hbytes : (n + m) * bytes ≤ 140737488355328) (hbase : base ≤ w.heap.size)
    (h : ∀ v' w', w'.ownsRow base e size v' (n + m) (xs ++ news) → w.grownBy w' v.ownBlock → (∀ k, v'.ownBlock = some k → v.ownBlock = some k ∨ w.heap.size ≤ k) → wpList P ops Q rest (a.put o.dst v') w') : wpList P ops Q (o :: rest) a w :=
  wpList_plain hgd fun _ hK => wp_append_place s x t ho base e i z size bytes ht hi hz hsize hby hzs hsz v n xs hs hown ad m c news hx hl hnews h1 h63 hbytes hbase fun v' w' h2 h3 h4 => hK _ _ (h v' w' h2 h3 h4)
section
variable {α : Type} {f : α → List Value} {sz : Nat} {w : World} {ops : Array Oper} {rest : List Oper} {o : Oper} {a : Act} {Q : Exit → Act → World → Prop}
/-- 'append(s, x...)', s the call's own, x whatever reads l -/
theorem wpRdv_join (hf : ∀ x, (f x).length = sz) (h1 : ∀ x, ∀ z ∈ f x, z.oneCell' = true) (hpos : 0 < sz) (hgd : o.guard = none) (s x : Operand) (t : TypeId)
    (ho : o.op = .call { callee := .builtin .append, args := #[s, x], argTypes := #[t, t] })
    (B : Nat) (e : TypeId) (bytes : Nat) (z : Value) (ht : Try.prog.underlying t = some (.slice e)) (hinfo : (Try.prog.info? e).map (fun i => (i.zero, i.size, i.bytes)) = some (some z, sz, bytes)) (hz : z.cells.size = sz)
    {v : Value} {n : Nat} {ys : List α} (hs : a.eval s = v) (hown : w.ownsRow B e sz v n (flatW f ys))
    {ad : Option Addr} {m c : Nat} {l : List α} (hx : a.eval x = .slice ad m c) (R : Rdv f sz w ad c l) (hm : l.length = m)
    (hb1 : n + m ≤ 1000000) (hb2 : bytes ≤ 1000) (hB : B ≤ w.heap.size)
    (h : ∀ v' w', w'.ownsRow B e sz v' (n + m) (flatW f (ys ++ l)) → w.grownBy w' v.ownBlock → (∀ k, v'.ownBlock = some k → v.ownBlock = some k ∨ w.heap.size ≤ k) → wpList Try.prog ops Q rest (a.put o.dst v') w') : wpList Try.prog ops Q (o :: rest) a w := by
  obtain ⟨i0, hi, hz0, hz1, hz2⟩ := info_parts hinfo
  cases ad with
  | none =>
    have hc := R.nil rfl
    have hl : l = [] := List.eq_nil_of_length_eq_zero (by have := R.le; omega)
    subst hl
    simp at hm
    subst hm; subst hc
    refine wpList_append_own_none hgd s x t ho B e i0 sz ht hi v n _ hs hown hx ?_
    exact h v w (by simpa using hown) (World.grownBy.refl _ _) (fun k hk => .inl hk)
  | some ad =>
    refine wpList_append_place hgd s x t ho B e i0 z sz bytes ht hi hz0 hz1 hz2 hz hpos v n _ hs hown ad m c (flatW f l) hx (by rw [flatW_len hf, hm]) (cells_of_rdv hf R) (flatW_one h1) (by unfold maxLen; omega) ?_ hB ?_
    · have : (n + m) * bytes ≤ 1000000 * 1000 := Nat.mul_le_mul hb1 hb2
      omega
    · intro v' w' h1 h2 h3
      rw [← flatW_append] at h1
      exact h v' w' h1 h2 h3
/-- 'append(s, y)', s the call's own: y is laid in a block of its own first -/
theorem wpRdv_one (hf : ∀ x, (f x).length = sz) (h1 : ∀ x, ∀ z ∈ f x, z.oneCell' = true) (hpos : 0 < sz) (W : World) (y : α) (e : TypeId) (hW : w = W.alloc (.cells (f y).toArray e)) (hgd : o.guard = none) (s x : Operand) (t : TypeId)
    (ho : o.op = .call { callee := .builtin .append, args := #[s, x], argTypes := #[t, t] })
    (B : Nat) (bytes : Nat) (z : Value) (ht : Try.prog.underlying t = some (.slice e)) (hinfo : (Try.prog.info? e).map (fun i => (i.zero, i.size, i.bytes)) = some (some z, sz, bytes)) (hz : z.cells.size = sz)
    {v : Value} {n : Nat} {ys : List α} (hs : a.eval s = v) (hown : W.ownsRow B e sz v n (flatW f ys))
    (hx : a.eval x = .slice (some ⟨W.heap.size, 0, none⟩) 1 1)
    (hb1 : n + 1 ≤ 1000000) (hb2 : bytes ≤ 1000) (hB : B ≤ W.heap.size)
    (h : ∀ v' w', w'.ownsRow B e sz v' (n + 1) (flatW f (ys ++ [y])) → w.grownBy w' v.ownBlock → (∀ k, v'.ownBlock = some k → v.ownBlock = some k ∨ w.heap.size ≤ k) → wpList Try.prog ops Q rest (a.put o.dst v') w') : wpList Try.prog ops Q (o :: rest) a w := by
  subst hW
  obtain ⟨i0, hi, hz0, hz1, hz2⟩ := info_parts hinfo
  have e1 : flatW f [y] = (f y) := by simp [flatW]
  refine wpList_append_place hgd s x t ho B e i0 z sz bytes ht hi hz0 hz1 hz2 hz hpos v n _ hs (hown.alloc _) _ 1 1 (flatW f [y]) hx (by rw [flatW_len hf]; simp) ?_ (flatW_one h1) (by unfold maxLen; omega) ?_ (by simp; omega) ?_
  · rw [e1]
    intro j u hu
    exact World.news_of_block (heap_alloc_new W (.cells (f y).toArray e)) j u (by simpa using hu)
  · have : (n + 1) * bytes ≤ 1000000 * 1000 := Nat.mul_le_mul hb1 hb2
    omega
  · intro v' w' h1 h2 h3
    rw [← flatW_append] at h1
    exact h v' w' h1 h2 h3
/-- the same at one step of a region that draws its order -/
theorem wpOpv_join (hf : ∀ x, (f x).length = sz) (h1 : ∀ x, ∀ z ∈ f x, z.oneCell' = true) (hpos : 0 < sz) {K : Act → World → Prop} (s x : Operand) (t : TypeId)
    (ho : o.op = .call { callee := .builtin .append, args := #[s, x], argTypes := #[t, t] })
    (B : Nat) (e : TypeId) (bytes : Nat) (z : Value) (ht : Try.prog.underlying t = some (.slice e)) (hinfo : (Try.prog.info? e).map (fun i => (i.zero, i.size, i.bytes)) = some (some z, sz, bytes)) (hz : z.cells.size = sz)
    {v : Value} {n : Nat} {ys : List α} (hs : a.eval s = v) (hown : w.ownsRow B e sz v n (flatW f ys))
    {ad : Option Addr} {m c : Nat} {l : List α} (hx : a.eval x = .slice ad m c) (R : Rdv f sz w ad c l) (hm : l.length = m)
    (hb1 : n + m ≤ 1000000) (hb2 : bytes ≤ 1000) (hB : B ≤ w.heap.size)
    (h : ∀ v' w', w'.ownsRow B e sz v' (n + m) (flatW f (ys ++ l)) → w.grownBy w' v.ownBlock → (∀ k, v'.ownBlock = some k → v.ownBlock = some k ∨ w.heap.size ≤ k) → K (a.put o.dst v') w') : o.wp Try.prog a w K Q := by
  obtain ⟨i0, hi, hz0, hz1, hz2⟩ := info_parts hinfo
  cases ad with
  | none =>
    have hc := R.nil rfl
    have hl : l = [] := List.eq_nil_of_length_eq_zero (by have := R.le; omega)
    subst hl
    simp at hm
    subst hm; subst hc
    have hrun := run_append_owned_none (P := Try.prog) (w := w) B t o.type e i0 sz ht hi v n _ hown
    unfold Oper.wp
    simp [execOp, ho, resolve, invoke, builtin, hs, hx, hrun, Result.andThen]
    exact h v w (by simpa using hown) (World.grownBy.refl _ _) (fun k hk => .inl hk)
  | some ad =>
    refine wp_append_place s x t ho B e i0 z sz bytes ht hi hz0 hz1 hz2 hz hpos v n _ hs hown ad m c (flatW f l) hx (by rw [flatW_len hf, hm]) (cells_of_rdv hf R) (flatW_one h1) (by unfold maxLen; omega) ?_ hB ?_
    · have : (n + m) * bytes ≤ 1000000 * 1000 := Nat.mul_le_mul hb1 hb2
      omega
    · intro v' w' h1 h2 h3
      rw [← flatW_append] at h1
      exact h v' w' h1 h2 h3
theorem stepRdv_join (hf : ∀ x, (f x).length = sz) (h1 : ∀ x, ∀ z ∈ f x, z.oneCell' = true) (hpos : 0 < sz) {K : Act → World → Prop} {E : Prop} (hgd : o.guard = none) (s x : Operand) (t : TypeId)
    (ho : o.op = .call { callee := .builtin .append, args := #[s, x], argTypes := #[t, t] })
    (B : Nat) (e : TypeId) (bytes : Nat) (z : Value) (ht : Try.prog.underlying t = some (.slice e)) (hinfo : (Try.prog.info? e).map (fun i => (i.zero, i.size, i.bytes)) = some (some z, sz, bytes)) (hz : z.cells.size = sz)
    {v : Value} {n : Nat} {ys : List α} (hs : a.eval s = v) (hown : w.ownsRow B e sz v n (flatW f ys))
    {ad : Option Addr} {m c : Nat} {l : List α} (hx : a.eval x = .slice ad m c) (R : Rdv f sz w ad c l) (hm : l.length = m)
    (hb1 : n + m ≤ 1000000) (hb2 : bytes ≤ 1000) (hB : B ≤ w.heap.size)
    (h : ∀ v' w', w'.ownsRow B e sz v' (n + m) (flatW f (ys ++ l)) → w.grownBy w' v.ownBlock → (∀ k, v'.ownBlock = some k → v.ownBlock = some k ∨ w.heap.size ≤ k) → K (a.put o.dst v') w') :
    if Region.wanted o (yielded ops a.tmps) = true then Oper.wp Try.prog o a w K Q else E := by
  have hw : Region.wanted o (yielded ops a.tmps) = true := by simp [Region.wanted, hgd]
  rw [if_pos hw]
  exact wpOpv_join hf h1 hpos s x t ho B e bytes z ht hinfo hz hs hown hx R hm hb1 hb2 hB h
/-- a slice of one element, just made -/
theorem rdv_new (hf : ∀ x, (f x).length = sz) (W : World) (y : α) (e : TypeId) {B : Nat} (hB : W.heap.size = B) : Rdv f sz (W.alloc (.cells (f y).toArray e)) (some ⟨B, 0, none⟩) 1 [y] := by
  subst hB
  refine ⟨Nat.le_refl _, by unfold maxLen; omega, fun h => (nomatch h), fun _ => ⟨_, _, rfl, by simp, fun i x hx j u hu => ?_⟩⟩
  have hi : i = 0 := by have := (List.getElem?_eq_some_iff.1 hx).1; simp at this; exact this
  subst hi
  obtain rfl : y = x := by simpa using hx
  have := World.news_of_block (heap_alloc_new W (.cells (f y).toArray e)) j u (by simpa using hu)
  rw [Addr.add_lit] at this
  simpa using this
end
end Go.Proofs.Ytoedgnkoahcblaa
