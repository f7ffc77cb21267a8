/- What is on its way, in memory: a slice of wires, each a number, a bool and a slice of bytes; how they stay behind a call, how a call's own grow; ones that came in as arguments, opened. -/
import Derived.Test.YtoedgnkoahcblaaWireMath
import Derived.Test.YtoedgnkoahcblaaOctAll
import Derived.Test.YtoedgnkoahcblaaRds
import Derived.Lib.SmallJoins
import Derived.Deep.Strs
import Derived.Laws.OwnMore
namespace Go.Proofs.Ytoedgnkoahcblaa
open Go.ChangeShapes Go.WideShapes Go.ChangeAt Go.RowKit O Wi
set_option linter.unusedVariables false
set_option linter.unusedSimpArgs false

theorem getW {α : Type} {L : List α} {k : Nat} (h : k < L.length) : ∃ l, L[k]? = some l := ⟨L[k], List.getElem?_eq_getElem h⟩
theorem Reads.kept {S : Nat → Prop} {k : IntKind} {W W' : World} {a : Option Addr} {c : Nat} {l : List Int} (h : Reads k W a c l) (hk : Keeps S W W') (hS : ∀ x, a = some x → l ≠ [] → ¬ S x.block) : Reads k W' a c l :=
  ⟨h.le, h.max, h.wf, h.nil, fun hl => by
    obtain ⟨b, o, e, hlt, hc⟩ := h.cells hl
    exact ⟨b, o, e, Nat.lt_of_lt_of_le hlt hk.size, fun i hi => (hk.cell (p := ⟨b, o + i, Option.none⟩) hlt (hS ⟨b, o, Option.none⟩ e hl)).trans (hc i hi)⟩⟩
theorem keeps_of_grown {W W' : World} {g : Option Nat} (h : W.grownBy W' g) : Keeps (fun k => g = some k) W W' := ⟨h.os, h.tape, h.output, h.size, fun k hk hn => h.block k hk (fun e => hn e.symm)⟩
/-- a wire's cells -/
structure Wc where
  sw : Int
  up : Bool
  x : Option Addr
  n : Nat
  c : Nat
  deriving Inhabited
def fW (p : Wc) : List Value := [.int .i64 p.sw, .bool p.up, .slice p.x p.n p.c]
abbrev vW (p : Wc) : Value := .agg #[.int .i64 p.sw, .bool p.up, .slice p.x p.n p.c]
theorem fW_len (p : Wc) : (fW p).length = 3 := rfl
theorem fW_one (p : Wc) : ∀ z ∈ fW p, z.oneCell' = true := by
  intro z hz
  simp only [fW, List.mem_cons, List.not_mem_nil, or_false] at hz
  rcases hz with rfl | rfl | rfl <;> rfl
/-- the cells p stand for the wire v, in the world w; its bytes do not lie in the block g -/
structure WireAt (g : Option Nat) (w : World) (p : Wc) (v : Wr) : Prop where
  sw : p.sw = v.sw
  up : p.up = v.up
  wf : (Lit.int .i64 v.sw).wf = true
  n : p.n = v.b.length
  R : Reads .u8 w p.x p.c v.b
  ne : ∀ y, p.x = some y → v.b ≠ [] → g ≠ some y.block
section
variable {g g' : Option Nat} {w w' : World} {p : Wc} {v : Wr} {ps : List Wc} {L : List Wr} {a : Option Addr} {c B : Nat}
theorem WireAt.later (h : WireAt g w p v) (hb : Below w.heap.size w w') : WireAt g w' p v := ⟨h.sw, h.up, h.wf, h.n, h.R.later hb, h.ne⟩
theorem WireAt.lt (h : WireAt g w p v) {y : Addr} (hy : p.x = some y) (hl : v.b ≠ []) : y.block < w.heap.size := by
  obtain ⟨b, o, e, hlt, -⟩ := h.R.cells hl
  rw [hy] at e
  cases e
  exact hlt
/-- behind a change of the block g alone, seen from another one -/
theorem WireAt.turn (h : WireAt g w p v) (hk : Keeps (fun k => g = some k) w w') (hn : ∀ k, g' = some k → g = some k ∨ w.heap.size ≤ k) : WireAt g' w' p v := by
  refine ⟨h.sw, h.up, h.wf, h.n, h.R.kept hk (fun x hx hl => h.ne x hx hl), fun y hy hl e => ?_⟩
  have hlt := h.lt hy hl
  rcases hn _ e with e2 | e2
  · exact h.ne y hy hl e2
  · omega
theorem WireAt.far {u : Option Nat} (h : WireAt g w p v) (hu : ∀ k, u = some k → w.heap.size ≤ k) : WireAt u w p v :=
  ⟨h.sw, h.up, h.wf, h.n, h.R, fun y hy hl e => by
    have h1 := h.lt hy hl
    have h2 := hu _ e
    omega⟩
theorem WireAt.loose (h : WireAt g w p v) : WireAt none w p v := ⟨h.sw, h.up, h.wf, h.n, h.R, fun _ _ _ e => by cases e⟩
theorem WireAt.eta (h : WireAt g w p v) : p = ⟨v.sw, v.up, p.x, v.b.length, p.c⟩ := by
  obtain ⟨s, u, x, n, c⟩ := p
  have e1 := h.sw
  have e2 := h.up
  have e3 := h.n
  dsimp only at e1 e2 e3
  subst e1; subst e2; subst e3; rfl
/-- the slice at a reads the wires L; none of it lies in the block g -/
def Wires (g : Option Nat) (w : World) (a : Option Addr) (c : Nat) (L : List Wr) : Prop := ∃ ps, Rdv fW 3 w a c ps ∧ (∀ y, a = some y → L ≠ [] → g ≠ some y.block) ∧ All2 (WireAt g w) ps L
theorem Wires.later (h : Wires g w a c L) (hb : Below w.heap.size w w') : Wires g w' a c L := by
  obtain ⟨ps, h1, h2, h3⟩ := h
  exact ⟨ps, h1.later hb, h2, all2_imp h3 fun _ _ hv => hv.later hb⟩
theorem Wires.empty (g : Option Nat) (w : World) : Wires g w none 0 [] := ⟨[], Rdv.none fW 3 w, fun y h _ => (nomatch h), .nil⟩
theorem Wires.le (h : Wires g w a c L) : L.length ≤ c := by
  obtain ⟨ps, h1, h2, h3⟩ := h
  rw [← all2_len h3]; exact h1.le
theorem Wires.max (h : Wires g w a c L) : c ≤ maxLen := by
  obtain ⟨ps, h1, h2, h3⟩ := h
  exact h1.max
theorem Wires.nil (h : Wires g w a c L) (ha : a = none) : c = 0 := by
  obtain ⟨ps, h1, h2, h3⟩ := h
  exact h1.nil ha
theorem Wires.loose (h : Wires g w a c L) : Wires none w a c L := by
  obtain ⟨ps, h1, h2, h3⟩ := h
  exact ⟨ps, h1, fun _ _ _ e => (nomatch e), all2_imp h3 fun _ _ hv => hv.loose⟩
theorem Wires.lt (h : Wires g w a c L) {y : Addr} (hy : a = some y) (hl : L ≠ []) : y.block < w.heap.size := by
  obtain ⟨ps, h1, h2, h3⟩ := h
  obtain ⟨b, o, e, hlt, -⟩ := h1.cells (by intro e; subst e; cases h3; exact hl rfl)
  rw [hy] at e
  cases e
  exact hlt
theorem Wires.far {u : Option Nat} (h : Wires g w a c L) (hu : ∀ k, u = some k → w.heap.size ≤ k) : Wires u w a c L := by
  have hlt := fun y hy hl => h.lt (y := y) hy hl
  obtain ⟨ps, h1, h2, h3⟩ := h
  exact ⟨ps, h1, fun y hy hl e => by have h4 := hlt y hy hl; have h5 := hu _ e; omega, all2_imp h3 fun _ _ hv => hv.far hu⟩
/-- behind a change of the block g alone -/
theorem Wires.kept (h : Wires g w a c L) (hk : Keeps (fun k => g = some k) w w') : Wires g w' a c L := by
  obtain ⟨ps, h1, h2, h3⟩ := h
  refine ⟨ps, h1.kept hk (fun x hx hl e => h2 x hx (by intro e2; subst e2; cases h3; exact hl rfl) e), h2, all2_imp h3 fun _ _ hv => hv.turn hk (fun k e => .inl e)⟩
/-- one wire's cells, and its bytes -/
theorem Wires.at (h : Wires g w a c L) {i : Nat} (hv : L[i]? = some v) : ∃ b o x k, a = some ⟨b, o, Option.none⟩ ∧ b < w.heap.size ∧ w.cell? ⟨b, o + i * 3, Option.none⟩ = some (.int .i64 v.sw) ∧ w.cell? ⟨b, o + i * 3 + 1, Option.none⟩ = some (.bool v.up) ∧ w.cell? ⟨b, o + i * 3 + 2, Option.none⟩ = some (.slice x v.b.length k) ∧ WireAt g w ⟨v.sw, v.up, x, v.b.length, k⟩ v := by
  obtain ⟨ps, h1, h2, h3⟩ := h
  obtain ⟨p, hp, hat⟩ := all2_get h3 hv
  obtain ⟨b, o, e, hlt, hc⟩ := h1.at hp
  have hp2 := hat.eta
  refine ⟨b, o, p.x, p.c, e, hlt, ?_, ?_, ?_, hp2 ▸ hat⟩
  · have := hc 0 _ rfl
    rw [Nat.add_zero] at this
    rw [this, hat.sw]
  · rw [hc 1 _ rfl, hat.up]
  · rw [hc 2 _ rfl, hat.n]
/-- wires of the call's own: a row of them, and what their slices point to, elsewhere -/
def OwnW (B : Nat) (w : World) (u : Value) (L : List Wr) : Prop := ∃ ps, w.ownsRow B 25 3 u L.length (flatW fW ps) ∧ All2 (WireAt u.ownBlock w) ps L
theorem OwnW.empty (B : Nat) (w : World) : OwnW B w (.slice none 0 0) [] := ⟨[], World.ownsRow_nil _ _ _ _, .nil⟩
theorem OwnW.later {u : Value} (h : OwnW B w u L) (hb : Below w.heap.size w w') : OwnW B w' u L := by
  obtain ⟨ps, h1, h2⟩ := h
  exact ⟨ps, own_laterW h1 hb, all2_imp h2 fun _ _ hv => hv.later hb⟩
theorem OwnW.wires {u : Value} (h : OwnW B w u L) : ∃ a c, u = .slice a L.length c ∧ Wires none w a c L ∧ ∀ y, a = some y → B ≤ y.block := by
  obtain ⟨ps, h1, h2⟩ := h
  obtain ⟨a, c, e, R, hlo⟩ := rdv_of_owns2 fW_len h1 (all2_len h2)
  exact ⟨a, c, e, ⟨ps, R, fun _ _ _ e => (nomatch e), all2_imp h2 fun _ _ hv => hv.loose⟩, fun y hy => (hlo y hy).1⟩
/-- one more wire, laid in the row or in a new one -/
theorem OwnW.one {u v' : Value} {W : World} (h2 : All2 (WireAt u.ownBlock W) ps L) (own : w'.ownsRow B 25 3 v' (L.length + 1) (flatW fW (ps ++ [p]))) (hg : W.grownBy w' u.ownBlock) (hp : ∀ k, v'.ownBlock = some k → u.ownBlock = some k ∨ W.heap.size ≤ k) (hv : WireAt u.ownBlock W p v) : OwnW B w' v' (L ++ [v]) :=
  ⟨ps ++ [p], by rw [List.length_append]; exact own, all2_app (all2_imp h2 fun _ _ h => h.turn (keeps_of_grown hg) hp) (.cons (hv.turn (keeps_of_grown hg) hp) .nil)⟩
end
theorem infoW : (Try.prog.info? 25).map (fun i => (i.zero, i.size, i.bytes)) = some (some (.agg #[.int .i64 0, .bool false, .slice none 0 0]), 3, 40) := by kernel_rfl
theorem cInt14 : Try.prog.cellsOf 3 = 1 := by kernel_rfl
theorem cBool14 : Try.prog.cellsOf 4 = 1 := by kernel_rfl
theorem cBs14 : Try.prog.cellsOf 23 = 1 := by kernel_rfl
theorem cWire14 : Try.prog.cellsOf 25 = 3 := by kernel_rfl
section
variable {H : Type} {enc : TypeId × Value → H} {w : World} {base : Nat} {spare : Nat → Bool} {held : Bool}
theorem bytes_of_trod (hs : ∀ b, spare b = true) {fuel : Nat} {c0 : Value} {d : DataW H × List MemPlace} (h : DataW.trod enc Try.prog w base spare held fuel 23 [c0] = some d) : ∃ (x : Option Addr) (c : Nat) (l : List Int), c0 = .slice x l.length c ∧ Reads .u8 w x c l := by
  rcases open_ints Try.underlying23 Try.underlying5 (by kernel_rfl) h with ⟨hcs, _⟩ | ⟨x, n, c, zs, hcs, _, hl, hm, hz, _, hcell, hwz⟩
  · simp only [List.cons.injEq, and_true] at hcs
    exact ⟨none, 0, [], hcs, Reads.none _ _⟩
  · simp only [List.cons.injEq, and_true] at hcs
    have hz2 : List.length zs = c := by rw [hs] at hz; simpa using hz
    refine ⟨some x, c, List.take n zs, ?_, reads_of_ints hl hm hz2 hcell hwz⟩
    rw [hcs, List.length_take, hz2, Nat.min_eq_left hl]
theorem elemW (hs : ∀ b, spare b = true) (n : Nat) (cs : List Value) (y : DataW H × List MemPlace) (hl : cs.length = 3) (h : DataW.trod enc Try.prog w base spare held n 25 cs = some y) : ∃ (p : Wc) (v : Wr), cs = fW p ∧ WireAt none w p v := by
  match cs, hl with
  | [c0, c1, c2], _ =>
    obtain ⟨y0, y1, y2, m, _, _, h0, h1, h2⟩ := Go.Deep.trod_struct3 Try.underlying25 h
    simp only [cInt14, cBool14, cBs14] at h0 h1 h2
    obtain ⟨s, e0, _, ws⟩ := DataW.trod_int Try.underlying3 (show DataW.trod enc Try.prog w base spare held m 3 [c0] = some y0 by simpa using h0)
    obtain ⟨b, e1, _⟩ := DataW.trod_bool Try.underlying4 (show DataW.trod enc Try.prog w base spare held m 4 [c1] = some y1 by simpa using h1)
    obtain ⟨x, c, l, rfl, R⟩ := bytes_of_trod hs (show DataW.trod enc Try.prog w base spare held m 23 [c2] = some y2 by simpa using h2)
    simp only [List.cons.injEq, and_true] at e0 e1
    subst e0; subst e1
    exact ⟨⟨s, b, x, l.length, c⟩, ⟨s, b, l⟩, rfl, rfl, rfl, ws, rfl, R, fun _ _ _ e => by cases e⟩
theorem all2_mapW {α β γ : Type} {P : β → γ → Prop} {f : α → β} {g : α → γ} : ∀ {l : List α}, (∀ x ∈ l, P (f x) (g x)) → All2 P (l.map f) (l.map g)
  | [], _ => .nil
  | x :: l, h => .cons (h x List.mem_cons_self) (all2_mapW fun y hy => h y (List.mem_cons_of_mem _ hy))
theorem wires_of_trod {fuel : Nat} {a0 : Option Addr} {n0 c0 : Nat} {d : DataW H × List MemPlace} (hs : ∀ b, spare b = true)
    (h : DataW.trod enc Try.prog w base spare true fuel 22 [.slice a0 n0 c0] = some d) : ∃ L : List Wr, n0 = L.length ∧ Wires none w a0 c0 L := by
  rcases Go.Deep.open_slice Try.underlying22 h with ⟨h0, _⟩ | ⟨x, len, cap, m, n, D, Pl, hcs, hb, hl, hmx, hm, _, hx⟩
  · simp only [List.cons.injEq, Value.slice.injEq, and_true] at h0
    obtain ⟨rfl, rfl, rfl⟩ := h0
    exact ⟨[], rfl, Wires.empty none w⟩
  · simp only [List.cons.injEq, Value.slice.injEq, and_true] at hcs
    obtain ⟨rfl, rfl, rfl⟩ := hcs
    rw [hs] at hm
    have each : ∀ i, i < n0 → ∃ q : Wc × Wr, WireAt none w q.1 q.2 ∧ ∀ j y, (fW q.1)[j]? = some y → w.cell? (x.add (i * 3 + j)) = some y := by
      intro i hi
      obtain ⟨cs', h1, h2⟩ := hx i (by simp at hm; omega)
      rw [cWire14] at h1
      obtain ⟨_, hlen, hcell⟩ := World.cells?_some h1
      obtain ⟨p, v, rfl, hv⟩ := elemW hs n cs' _ hlen h2
      refine ⟨(p, v), hv, fun j y hy => ?_⟩
      have hj : j < 3 := by rw [← fW_len p]; exact (List.getElem?_eq_some_iff.1 hy).1
      have e0 := hcell j hj
      rw [Go.Deep.add_add] at e0
      rw [e0]
      exact hy
    rcases Nat.eq_zero_or_pos n0 with hz | hz
    · subst hz
      exact ⟨[], rfl, [], ⟨by simp, hmx, fun h => (nomatch h), fun h => absurd rfl h⟩, fun _ _ h => absurd rfl h, .nil⟩
    · obtain ⟨q, hq⟩ : ∃ q : Nat → Wc × Wr, ∀ i, i < n0 → WireAt none w (q i).1 (q i).2 ∧ ∀ j y, (fW (q i).1)[j]? = some y → w.cell? (x.add (i * 3 + j)) = some y := by
        refine ⟨fun i => if h : i < n0 then (each i h).choose else (each 0 hz).choose, fun i hi => ?_⟩
        simp only [dif_pos hi]
        exact (each i hi).choose_spec
      refine ⟨(List.range n0).map fun i => (q i).2, by simp, (List.range n0).map fun i => (q i).1, ⟨by simpa using hl, hmx, fun h => (nomatch h), fun _ => ?_⟩, fun _ _ _ e => (nomatch e), all2_mapW fun i hi => (hq i (List.mem_range.1 hi)).1⟩
      obtain ⟨b, o, s⟩ := x
      have hc := (hq 0 hz).2 0 _ rfl
      have hs : s = Option.none := by simpa [Addr.add] using World.cell?_spot hc
      subst hs
      refine ⟨b, o, rfl, ?_, fun i x' hx' j y' hy' => ?_⟩
      · have := World.block_lt_of_cell? w _ hc; simpa [Addr.add] using this
      · have hi : i < n0 := by have := (List.getElem?_eq_some_iff.1 hx').1; simpa using this
        obtain rfl : (q i).1 = x' := by simpa [hi] using hx'
        have := (hq i hi).2 j y' hy'
        rw [Addr.add_lit, ← Nat.add_assoc] at this
        exact this
theorem array3w {α : Type} {cs : Array α} (h : cs.size = 3) : ∃ c0 c1 c2, cs = #[c0, c1, c2] := by
  obtain ⟨l⟩ := cs
  match l, h with
  | [c0, c1, c2], _ => exact ⟨c0, c1, c2, rfl⟩
set_option maxRecDepth 100000 in
theorem open_wire (hs : ∀ b, spare b = true) {r : Reach} {b0 : Nat} {u : Value} {d : DataW H} {q : List MemPlace} (hv : Value.okWide Try.prog w r b0 25 u) (h : DataW.Trod enc Try.prog w base spare held 25 u d q) :
    ∃ (s : Int) (p : Bool) (x : Option Addr) (c : Nat) (l : List Int), u = .agg #[.int .i64 s, .bool p, .slice x l.length c] ∧ (Lit.int .i64 s).wf = true ∧ Reads .u8 w x c l := by
  obtain ⟨cs, rfl, hsz⟩ := okWide_struct Try.underlying25 hv
  obtain ⟨c0, c1, c2, rfl⟩ := array3w (hsz.trans cWire14)
  obtain ⟨fuel, hf⟩ := h
  obtain ⟨⟨s, p, x, n, c⟩, ⟨s', p', l⟩, e, hat⟩ := elemW hs fuel [c0, c1, c2] _ rfl (by simpa [Value.cells] using hf)
  simp only [fW, List.cons.injEq, and_true] at e
  obtain ⟨rfl, rfl, rfl⟩ := e
  have e1 := hat.sw
  have e2 := hat.up
  have e3 := hat.n
  dsimp only at e1 e2 e3
  subst e1; subst e2; subst e3
  exact ⟨s, p, x, c, l, rfl, hat.wf, hat.R⟩
end
end Go.Proofs.Ytoedgnkoahcblaa
