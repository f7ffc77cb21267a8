/- The code's way down through the nodes that have an address, as a function to range over. -/
import Derived.Test.YtlgldoggnlcbkabTrieRange
namespace Go.Proofs.Ytlgldoggnlcbkab
open Go.ChangeShapes Go.WideShapes Go.ChangeAt Go.RowKit Go.Shelf Tt
set_option linter.unusedVariables false
set_option linter.unusedSimpArgs false
attribute [local go_sem] Oper.semAt_some

/-- the nodes that come, from i on -/
inductive Hav (m : Mm) (addr : Int) : Nat → List Nat → Prop
  | nil : Hav m addr 0 []
  | no {i : Nat} (h0 : i ≠ 0) (h1 : i ≤ 1000) (hn : M.hasB (m.a i) (m.n i) addr = false) : Hav m addr i []
  | go {i : Nat} {L : List Nat} (h0 : i ≠ 0) (h1 : i ≤ 1000) (hy : M.hasB (m.a i) (m.n i) addr = true) (h : Hav m addr (m.kid i (side (addr, 0) (m.n i))) L) : Hav m addr i (i :: L)
theorem Hav.unique {m : Mm} {addr : Int} {i : Nat} {L L' : List Nat} (h : Hav m addr i L) (h' : Hav m addr i L') : L = L' := by
  induction h generalizing L' with
  | nil => cases h' with
    | nil => rfl
    | no h0 => exact absurd rfl h0
    | go h0 => exact absurd rfl h0
  | no h0 h1 hn => cases h' with
    | nil => rfl
    | no => rfl
    | go _ _ hy => rw [hn] at hy; cases hy
  | go h0 h1 hy h ih => cases h' with
    | nil => exact absurd rfl h0
    | no _ _ hn => rw [hn] at hy; cases hy
    | go _ _ _ h2 => rw [ih h2]
open Classical in
noncomputable def leftH (m : Mm) (addr : Int) (v : Value) : Nat := if h : ∃ r : Nat × List Nat, v = .int .i64 (r.1 : Nat) ∧ Hav m addr r.1 r.2 then (Classical.choose h).2.length else 0
theorem left_eq {m : Mm} {addr : Int} {i : Nat} {L : List Nat} (h : Hav m addr i L) : leftH m addr (.int .i64 (i : Nat)) = L.length := by
  have hex : ∃ r : Nat × List Nat, Value.int .i64 (i : Nat) = .int .i64 (r.1 : Nat) ∧ Hav m addr r.1 r.2 := ⟨(i, L), rfl, h⟩
  unfold leftH
  rw [dif_pos hex]
  obtain ⟨e, hl⟩ := Classical.choose_spec hex
  have e2 : (i : Int) = ((Classical.choose hex).1 : Nat) := by simpa using e
  have e' : i = (Classical.choose hex).1 := by omega
  rw [← e'] at hl
  rw [hl.unique h]
/-- all cells, but for one block's, stay -/
def Ka (n₀ : Nat) (X : Nat) (W W' : World) : Prop := Below n₀ W W' ∧ ∀ k cs t z, k ≠ X → W.heap[k]? = some (.cells cs t z) → W'.heap[k]? = some (.cells cs t z)
theorem Ka.trans {n₀ X : Nat} {A B C : World} (h : Ka n₀ X A B) (h2 : Ka n₀ X B C) : Ka n₀ X A C := ⟨h.1.trans h2.1, fun k cs t z hk h0 => h2.2 k cs t z hk (h.2 k cs t z hk h0)⟩
theorem Ka.of_below {n₀ X : Nat} {A B : World} (h : Below A.heap.size A B) (hn : n₀ ≤ A.heap.size) : Ka n₀ X A B := ⟨h.mono hn, fun k cs t z _ h0 => (h.block k (Array.getElem?_eq_some_iff.1 h0).1).trans h0⟩
theorem Ka_b {n₀ X : Nat} {w : World} (hn : n₀ ≤ w.heap.size) (W : World) (l : Nat) (o o' : Obj) (hl : w.heap.size ≤ l) (h : W.heap[l]? = some o) (hc : o.isCells = false) (hw : o.isWalk = false) : Ka n₀ X W (W.putObj l o') :=
  ⟨belowK_b hn W l o o' hl h hc hw, fun k cs t z _ h0 => by
    refine (World.putObj_heap_other (fun e => ?_)).trans h0
    subst e
    rw [h0] at h
    cases h
    cases hc⟩
theorem boxed_ka {n₀ X : Nat} {W W' : World} (h : Ka n₀ X W W') {b t : Nat} {v : Value} (hb : Boxed W b t v) (hX : b ≠ X) : Boxed W' b t v := h.2 b _ _ _ hX hb
theorem boxed_below {W W' : World} {b t : Nat} {v : Value} (hb : Boxed W b t v) (h : Below W.heap.size W W') : Boxed W' b t v := (h.block b hb.lt).trans hb
theorem Has.ka {n₀ X B : Nat} {c : Nat → Value} {W W' : World} (h : Has W B c) (hB : B < n₀) (hk : Ka n₀ X W W') (hn : n₀ ≤ W'.heap.size) : Has W' B c :=
  ⟨Nat.lt_of_lt_of_le hB hn, fun o ho => (hk.1.cell (p := ⟨B, o, none⟩) hB).trans (h.cell o ho), fun o ho => (hk.1.frozen (p := ⟨B, o, none⟩) hB).trans (h.frozen o ho)⟩
set_option maxRecDepth 100000 in
set_option maxHeartbeats 2000000 in
theorem having1_in (n l n₀ B Bt Ba X base : Nat) (m : Mm) (addr : Int) (hBn : B < n₀) (hT : Bt ≠ X) (hA : Ba ≠ X) (J Jx : List Nat → World → Prop) (hJ : AbidesFrom base J) {xs : List Nat} (hxs : Hav m addr m.root xs)
    (hY : ∀ pre x W, J pre W → pre.length < xs.length → YieldAt Fence.wide (n - 1) Try.prog l #[.agg (nodeCells m x)] W fun e W' =>
      (e = .returned (.bool true) ∧ J (pre ++ [x]) W' ∧ Ka n₀ X W W') ∨ (e = .returned (.bool false) ∧ Jx (pre ++ [x]) W'))
    (W : World) (h : Has W B (cellOf m)) (hn : n₀ ≤ W.heap.size) (hX : X < W.heap.size) (hBt : Boxed W Bt 29 (.pointer (some ⟨B, 0, none⟩))) (hBa : Boxed W Ba 3 (.int .i64 addr)) (h0 : J [] W) :
    CallsIn Fence.wide n Try.prog 26 #[.func (.yield l) #[] #[], .pointer (some ⟨Bt, 0, none⟩), .pointer (some ⟨Ba, 0, none⟩)] W fun e W' => (∃ v, e = .returned v) ∧
      ((∃ ys, ys = xs ∧ J ys W') ∨ (∃ pre, pre <+: xs ∧ Jx pre W')) := by
  have ch := fun p0 p1 W => callsIn_wide (n := n - 1) |>.2 (has_any p0 p1 addr W)
  have cb := fun i W => callsIn_wide (n := n - 1) |>.2 (bit_any addr i W)
  obtain ⟨r0, -, -, -⟩ := h.head
  have c0 := hBt.cell
  refine callsIn_of_wp Try.func26 rfl trivial ?_ rfl
  simp only [Try.ntmps26, List.size_toArray, List.length_cons, List.length_nil, Nat.reduceAdd, Nat.reduceSub, Array.replicate_succ, Array.replicate_zero, List.push_toArray, List.append_toArray, List.nil_append, List.cons_append]
  gi_wp2
  gi_loopw [4] (fun p wr => ∃ (pre rest : List Nat) (i : Nat), p = .int .i64 (i : Nat) ∧ xs = pre ++ rest ∧ Hav m addr i rest ∧ J pre wr ∧ Has wr B (cellOf m) ∧ n₀ ≤ wr.heap.size ∧ X < wr.heap.size ∧ Boxed wr Bt 29 (.pointer (some ⟨B, 0, none⟩)) ∧ Boxed wr Ba 3 (.int .i64 addr))
    (fun p wr => leftH m addr p)
  case atStart => exact ⟨[], xs, m.root, rfl, rfl, hxs, h0, h, hn, hX, hBt, hBa⟩
  case round =>
    clear c0 r0 hBt hBa h hn hX h0
    obtain ⟨pre, rest, i, rfl, hx, hh, hj, h, hn, hX, hBt, hBa⟩ := hrel
    have c0 := hBt.cell
    have a0 := hBa.cell
    have hh' := hh
    cases hh with
    | nil =>
      gi_wp2
      go_end0
      exact ⟨⟨_, rfl⟩, .inl ⟨pre, by simp [hx], hj⟩⟩
    | no i0 i1 hno =>
      obtain ⟨d0, d1, d2, d3, d4, d5⟩ := h.node i1
      have hi0 : (0 : Int) ≤ (i : Int) := by omega
      have hi1 : (i : Int) < 1001 := by omega
      have e0 : ((i : Int) != 0) = true := by simpa using i0
      have ch1 := ch (m.a i) (m.n i)
      rw [hno] at ch1
      clear i0
      have a1 := (hBa.alloc (.cells (nodeCells m i) 42)).cell
      dsimp only [nodeCells] at a1
      have hb1 := below_new wr (.cells (nodeCells m i) 42)
      gi_wp2_with (refine ⟨trivial, fun h => (by cases h), ?_⟩; gi_at_call 12; refine (ch1 _).mono ?_; rintro e W2 ⟨rfl, hb2⟩)
      refine ⟨fun _ h => (by cases h), ?_⟩
      gi_wp2
      refine bodyPost_ret (results_none rfl _ _ _) rfl ?_
      exact ⟨⟨_, rfl⟩, .inl ⟨pre, by simp [hx], abides_step hJ hj (below_step hb1 hb2)⟩⟩
    | @go _ rest i0 i1 hyes hrest =>
      obtain ⟨d0, d1, d2, d3, d4, d5⟩ := h.node i1
      have hi0 : (0 : Int) ≤ (i : Int) := by omega
      have hi1 : (i : Int) < 1001 := by omega
      have e0 : ((i : Int) != 0) = true := by simpa using i0
      have ch0 := ch (m.a i) (m.n i)
      rw [hyes] at ch0
      clear i0
      have a1 := (hBa.alloc (.cells (nodeCells m i) 42)).cell
      have hb1 := below_new wr (.cells (nodeCells m i) 42)
      have N1 : (wr.alloc (.cells (nodeCells m i) 42)).heap[wr.heap.size]? = some (.cells (nodeCells m i) 42 (0, 0)) := heap_alloc_new wr _
      have hl : pre.length < xs.length := by rw [hx]; simp
      have ch1 := (ch0 (wr.alloc (.cells (nodeCells m i) 42))).mono (R' := fun e W2 => e = .returned (.bool true) ∧ W2.cell? ⟨wr.heap.size, 0, none⟩ = some (.int .i64 (m.a i)) ∧ W2.cell? ⟨wr.heap.size, 1, none⟩ = some (.int .i64 (m.n i)) ∧ W2.cell? ⟨wr.heap.size, 2, none⟩ = some (.int .i64 (m.v i)) ∧ W2.cell? ⟨wr.heap.size, 3, none⟩ = some (.bool (m.told i)) ∧ W2.cell? ⟨wr.heap.size, 4, none⟩ = some (.int .i64 (m.kid i false : Nat)) ∧ W2.cell? ⟨wr.heap.size, 5, none⟩ = some (.int .i64 (m.kid i true : Nat)) ∧
          YieldAt Fence.wide (n - 1) Try.prog l #[.agg (nodeCells m i)] W2 fun e W3 => (e = .returned (.bool true) ∧ W3.cell? ⟨wr.heap.size, 1, none⟩ = some (.int .i64 (m.n i)) ∧ W3.cell? ⟨wr.heap.size, 4, none⟩ = some (.int .i64 (m.kid i false : Nat)) ∧ W3.cell? ⟨wr.heap.size, 5, none⟩ = some (.int .i64 (m.kid i true : Nat)) ∧ W3.cell? ⟨Ba, 0, none⟩ = some (.int .i64 addr) ∧ J (pre ++ [i]) W3 ∧ Ka n₀ X wr W3) ∨ (e = .returned (.bool false) ∧ Jx (pre ++ [i]) W3)) (by
        rintro e W2 ⟨he, hb2⟩
        have hb3 := below_step hb1 hb2
        have N2 : W2.heap[wr.heap.size]? = some (.cells (nodeCells m i) 42 (0, 0)) := (hb2.block wr.heap.size (by simp)).trans N1
        obtain ⟨z0, z1, z2, z3, z4, z5⟩ := box_node N2
        refine ⟨he, z0, z1, z2, z3, z4, z5, (hY pre i W2 (abides_step hJ hj hb3) hl).mono ?_⟩
        rintro e W3 (⟨he, hj3, hk3⟩ | ⟨he, hx3⟩)
        · obtain ⟨y0, y1, y2, y3, y4, y5⟩ := box_node (hk3.2 _ _ _ _ (by omega) N2)
          exact .inl ⟨he, y1, y4, y5, (boxed_ka hk3 (boxed_below hBa hb3) hA).cell, hj3, (Ka.of_below hb3 hn).trans hk3⟩
        · exact .inr ⟨he, hx3⟩)
      dsimp only [nodeCells] at a1 ch1
      clear ch0 N1 hb1
      cases hsd : side (addr, 0) (m.n i) with
      | true =>
        have cb1 := cb (m.n i)
        rw [show M.bt addr (m.n i) = 1 from by have := side_nat (addr, 0) (m.n i); rw [hsd] at this; exact this] at cb1
        gi_wp2_with (first
          | (refine ⟨trivial, fun h => (by cases h), ?_⟩; gi_at_call 12; refine ch1.mono ?_; clear ch1; rintro e W2 ⟨rfl, z0, z1, z2, z3, z4, z5, fn, tmps, assign, body, hy, hR⟩)
          | ((try refine ⟨fun h => (by cases h), ?_⟩); refine hR.mono ?_; clear hR; rintro e W3 (⟨rfl, y1, y4, y5, ya, hj3, hk3⟩ | ⟨rfl, hx3⟩))
          | (refine ⟨trivial, fun h => (by cases h), ?_⟩; gi_at_call 23; refine (cb1 _).mono ?_; rintro e W4 ⟨rfl, rfl⟩))
        · rw [hsd] at hrest
          have hle := hk3.1.size
          exact ⟨⟨pre ++ [i], rest, _, rfl, by simp [hx], hrest, hj3, h.ka hBn hk3 (Nat.le_trans hn hle), Nat.le_trans hn hle, Nat.lt_of_lt_of_le hX hle, boxed_ka hk3 hBt hT, boxed_ka hk3 hBa hA⟩, by rw [left_eq hrest, left_eq hh']; simp⟩
        · refine bodyPost_ret (results_none rfl _ _ _) rfl ?_
          exact ⟨⟨_, rfl⟩, .inr ⟨pre ++ [i], ⟨rest, by simp [hx]⟩, hx3⟩⟩
      | false =>
        have cb1 := cb (m.n i)
        rw [show M.bt addr (m.n i) = 0 from by have := side_nat (addr, 0) (m.n i); rw [hsd] at this; exact this] at cb1
        gi_wp2_with (first
          | (refine ⟨trivial, fun h => (by cases h), ?_⟩; gi_at_call 12; refine ch1.mono ?_; clear ch1; rintro e W2 ⟨rfl, z0, z1, z2, z3, z4, z5, fn, tmps, assign, body, hy, hR⟩)
          | ((try refine ⟨fun h => (by cases h), ?_⟩); refine hR.mono ?_; clear hR; rintro e W3 (⟨rfl, y1, y4, y5, ya, hj3, hk3⟩ | ⟨rfl, hx3⟩))
          | (refine ⟨trivial, fun h => (by cases h), ?_⟩; gi_at_call 23; refine (cb1 _).mono ?_; rintro e W4 ⟨rfl, rfl⟩))
        · rw [hsd] at hrest
          have hle := hk3.1.size
          exact ⟨⟨pre ++ [i], rest, _, rfl, by simp [hx], hrest, hj3, h.ka hBn hk3 (Nat.le_trans hn hle), Nat.le_trans hn hle, Nat.lt_of_lt_of_le hX hle, boxed_ka hk3 hBt hT, boxed_ka hk3 hBa hA⟩, by rw [left_eq hrest, left_eq hh']; simp⟩
        · refine bodyPost_ret (results_none rfl _ _ _) rfl ?_
          exact ⟨⟨_, rfl⟩, .inr ⟨pre ++ [i], ⟨rest, by simp [hx]⟩, hx3⟩⟩
theorem having_any (B : Nat) (addr : Int) (w : World) :
    Calls Try.prog 18 #[.pointer (some ⟨B, 0, none⟩), .int .i64 addr] w fun e w' => e = .returned (.func (.func 26) #[] #[.pointer (some ⟨w.heap.size, 0, none⟩), .pointer (some ⟨w.heap.size + 1, 0, none⟩)]) ∧ w' = (w.alloc (.cells #[.pointer (some ⟨B, 0, none⟩)] 29)).alloc (.cells #[.int .i64 addr] 3) := by
  go_enter Try.func18, Try.ntmps18
  go_wp2_with fail
  go_ret
  exact ⟨rfl, rfl⟩
theorem having_stops (n n₀ B Bt Ba X : Nat) (m : Mm) (addr : Int) (hBn : B < n₀) (hT : Bt ≠ X) (hA : Ba ≠ X) {xs : List Nat} (hxs : Hav m addr m.root xs) (w : World) (h : Has w B (cellOf m)) (hn : n₀ ≤ w.heap.size) (hX : X < w.heap.size)
    (hBt : Boxed w Bt 29 (.pointer (some ⟨B, 0, none⟩))) (hBa : Boxed w Ba 3 (.int .i64 addr)) :
    SeqStopsK Fence.wide n Try.prog 26 #[.pointer (some ⟨Bt, 0, none⟩), .pointer (some ⟨Ba, 0, none⟩)] (fun x : Nat => #[.agg (nodeCells m x)]) (Ka n₀ X) (fun ys => ys = xs) (fun pre => pre <+: xs) xs.length w := fun l J Jx W hW hJ _ hY h0 =>
  having1_in n l n₀ B Bt Ba X W.heap.size m addr hBn hT hA J Jx hJ hxs hY W (h.later hW) (Nat.le_trans hn hW.size) (Nat.lt_of_lt_of_le hX hW.size) (boxed_below hBt hW) (boxed_below hBa hW) h0
/-! ### Find -/
/-- the last that is told of -/
def lastT (m : Mm) (L : List Nat) : Option Nat := (L.filter (fun i => m.told i)).getLast?
def foundC (m : Mm) : Option Nat → Array Value
  | some x => nodeCells m x
  | none => #[.int .i64 0, .int .i64 0, .int .i64 0, .bool false, .int .i64 0, .int .i64 0]
theorem last_hit (m : Mm) (L : List Nat) {x : Nat} (h : m.told x = true) : lastT m (L ++ [x]) = some x := by simp [lastT, h]
theorem last_miss (m : Mm) (L : List Nat) {x : Nat} (h : m.told x = false) : lastT m (L ++ [x]) = lastT m L := by simp [lastT, h]
theorem set_block {W : World} {b o : Nat} {cs : Array Value} {t : TypeId} {z : Nat × Nat} (h : W.heap[b]? = some (.cells cs t z)) (v : Value) : (W.setCell ⟨b, o, none⟩ v).heap[b]? = some (.cells (cs.setIfInBounds o v) t z) := by
  obtain ⟨hlt, hk⟩ := Array.getElem?_eq_some_iff.1 h
  show (W.heap.modify b _)[b]? = _
  rw [Array.getElem?_eq_getElem (by rw [Array.size_modify]; exact hlt), Array.getElem_modify_self, hk]
  rfl
theorem foundC_six (m : Mm) (o : Option Nat) : ∃ (x0 x1 x2 : Int) (x3 : Bool) (x4 x5 : Int), foundC m o = #[.int .i64 x0, .int .i64 x1, .int .i64 x2, .bool x3, .int .i64 x4, .int .i64 x5] := by cases o <;> exact ⟨_, _, _, _, _, _, rfl⟩
theorem ka_set {n₀ X : Nat} {W W' : World} (h : Ka n₀ X W W') (hX : n₀ ≤ X) (o : Nat) (v : Value) : Ka n₀ X W (W'.setCell ⟨X, o, none⟩ v) :=
  ⟨h.1.setCell (p := ⟨X, o, none⟩) hX v, fun k cs t z hk h0 => (Below.heap_setCell _ _ _ k (fun e => hk e)).trans (h.2 k cs t z hk h0)⟩
theorem box_nodeF {W : World} {k : Nat} {x0 x1 x2 x3 x4 x5 : Value} (h : W.heap[k]? = some (.cells #[x0, x1, x2, x3, x4, x5] 42 (0, 0))) :
    W.frozen? ⟨k, 0, none⟩ = false ∧ W.frozen? ⟨k, 1, none⟩ = false ∧ W.frozen? ⟨k, 2, none⟩ = false ∧ W.frozen? ⟨k, 3, none⟩ = false ∧ W.frozen? ⟨k, 4, none⟩ = false ∧ W.frozen? ⟨k, 5, none⟩ = false := by
  refine ⟨?_, ?_, ?_, ?_, ?_, ?_⟩ <;> simp [World.frozen?, h]
def six6 (W : World) (b : Nat) (y0 y1 y2 y3 y4 y5 : Value) : World := (((((W.setCell ⟨b, 0, none⟩ y0).setCell ⟨b, 1, none⟩ y1).setCell ⟨b, 2, none⟩ y2).setCell ⟨b, 3, none⟩ y3).setCell ⟨b, 4, none⟩ y4).setCell ⟨b, 5, none⟩ y5
theorem six_block {W : World} {b : Nat} {x0 x1 x2 x3 x4 x5 : Value} (y0 y1 y2 y3 y4 y5 : Value) (h : W.heap[b]? = some (.cells #[x0, x1, x2, x3, x4, x5] 42 (0, 0))) : (six6 W b y0 y1 y2 y3 y4 y5).heap[b]? = some (.cells #[y0, y1, y2, y3, y4, y5] 42 (0, 0)) :=
  set_block (set_block (set_block (set_block (set_block (set_block h y0) y1) y2) y3) y4) y5
theorem six_other {W : World} {b k : Nat} (y0 y1 y2 y3 y4 y5 : Value) (hk : k ≠ b) : (six6 W b y0 y1 y2 y3 y4 y5).heap[k]? = W.heap[k]? := by
  unfold six6
  rw [Below.heap_setCell _ _ _ k hk, Below.heap_setCell _ _ _ k hk, Below.heap_setCell _ _ _ k hk, Below.heap_setCell _ _ _ k hk, Below.heap_setCell _ _ _ k hk, Below.heap_setCell _ _ _ k hk]
theorem six_keeps (W : World) (b : Nat) (y0 y1 y2 y3 y4 y5 : Value) : KeepsOthers W (six6 W b y0 y1 y2 y3 y4 y5) :=
  (((((KeepsOthers.setCell _ _ _).trans (KeepsOthers.setCell _ _ _)).trans (KeepsOthers.setCell _ _ _)).trans (KeepsOthers.setCell _ _ _)).trans (KeepsOthers.setCell _ _ _)).trans (KeepsOthers.setCell _ _ _)
theorem six_ka {n₀ X : Nat} {W W' : World} (h : Ka n₀ X W W') (hX : n₀ ≤ X) (y0 y1 y2 y3 y4 y5 : Value) : Ka n₀ X W (six6 W' X y0 y1 y2 y3 y4 y5) := ka_set (ka_set (ka_set (ka_set (ka_set (ka_set h hX _ _) hX _ _) hX _ _) hX _ _) hX _ _) hX _ _
set_option maxRecDepth 100000 in
set_option maxHeartbeats 2000000 in
theorem find_any {w : World} {B : Nat} {m : Mm} (addr : Int) {xs : List Nat} (h : Has w B (cellOf m)) (hxs : Hav m addr m.root xs) :
    Calls Try.prog 11 #[.pointer (some ⟨B, 0, none⟩), .int .i64 addr] w fun e w' => ∃ (x0 x1 x2 : Int) (x3 : Bool) (x4 x5 : Int), foundC m (lastT m xs) = #[.int .i64 x0, .int .i64 x1, .int .i64 x2, .bool x3, .int .i64 x4, .int .i64 x5] ∧ e = .returned (.tuple #[.agg #[.int .i64 x0, .int .i64 x1, .int .i64 x2], .bool x3]) ∧ Below w.heap.size w w' := by
  refine (callsIn_wide (n := 4)).1 ?_
  have hro : Fence.wide.round = none := rfl
  have ca := fun W => callsIn_wide (n := 4 - 1) |>.2 (having_any B addr W)
  refine callsIn_of_wp_marks Try.func11 rfl trivial ?_ hro
  simp only [Try.ntmps11, List.size_toArray, List.length_cons, List.length_nil, Nat.reduceAdd, Nat.reduceSub, Array.replicate_succ, Array.replicate_zero, List.push_toArray, List.append_toArray, List.nil_append, List.cons_append]
  gi_wp2_with (refine ⟨trivial, ?_⟩; gi_at_call 18; refine (ca _).mono ?_; rintro e w' ⟨rfl, rfl⟩)
  have hlt := h.lt
  have hB0 : Below w.heap.size w ((((w.alloc (.cells #[.int .i64 0, .int .i64 0, .int .i64 0] 26)).alloc (.cells #[.int .i64 0, .int .i64 0, .int .i64 0, .bool false, .int .i64 0, .int .i64 0] 42)).alloc (.cells #[.pointer (some ⟨B, 0, none⟩)] 29)).alloc (.cells #[.int .i64 addr] 3)) := (((((Below.refl _ w).alloc (Nat.le_refl _) _).alloc (by simp) _).alloc (by simp; omega) _).alloc (by simp; omega) _)
  have hsz : ((((w.alloc (.cells #[.int .i64 0, .int .i64 0, .int .i64 0] 26)).alloc (.cells #[.int .i64 0, .int .i64 0, .int .i64 0, .bool false, .int .i64 0, .int .i64 0] 42)).alloc (.cells #[.pointer (some ⟨B, 0, none⟩)] 29)).alloc (.cells #[.int .i64 addr] 3)).heap.size = w.heap.size + 4 := by simp
  have bR : ((((w.alloc (.cells #[.int .i64 0, .int .i64 0, .int .i64 0] 26)).alloc (.cells #[.int .i64 0, .int .i64 0, .int .i64 0, .bool false, .int .i64 0, .int .i64 0] 42)).alloc (.cells #[.pointer (some ⟨B, 0, none⟩)] 29)).alloc (.cells #[.int .i64 addr] 3)).heap[w.heap.size]? = some (.cells #[.int .i64 0, .int .i64 0, .int .i64 0] 26 (0, 0)) := ((below_step (below_step (below_new _ _) (below_new _ _)) (below_new _ _)).block w.heap.size (by simp)).trans (heap_alloc_new w _)
  have bF : ((((w.alloc (.cells #[.int .i64 0, .int .i64 0, .int .i64 0] 26)).alloc (.cells #[.int .i64 0, .int .i64 0, .int .i64 0, .bool false, .int .i64 0, .int .i64 0] 42)).alloc (.cells #[.pointer (some ⟨B, 0, none⟩)] 29)).alloc (.cells #[.int .i64 addr] 3)).heap[w.heap.size + 1]? = some (.cells (foundC m (lastT m [])) 42 (0, 0)) := by
    have := heap_alloc_new (w.alloc (.cells #[.int .i64 0, .int .i64 0, .int .i64 0] 26)) (.cells #[.int .i64 0, .int .i64 0, .int .i64 0, .bool false, .int .i64 0, .int .i64 0] 42)
    rw [World.size_alloc] at this
    exact ((below_step (below_new _ _) (below_new _ _)).block (w.heap.size + 1) (by simp)).trans this
  have bT := (Boxed.new ((w.alloc (.cells #[.int .i64 0, .int .i64 0, .int .i64 0] 26)).alloc (.cells #[.int .i64 0, .int .i64 0, .int .i64 0, .bool false, .int .i64 0, .int .i64 0] 42)) 29 (.pointer (some ⟨B, 0, none⟩))).alloc (.cells #[.int .i64 addr] 3)
  have bA := Boxed.new (((w.alloc (.cells #[.int .i64 0, .int .i64 0, .int .i64 0] 26)).alloc (.cells #[.int .i64 0, .int .i64 0, .int .i64 0, .bool false, .int .i64 0, .int .i64 0] 42)).alloc (.cells #[.pointer (some ⟨B, 0, none⟩)] 29)) 3 (.int .i64 addr)
  simp only [World.size_alloc] at bT bA
  have h0 := h.later hB0
  obtain ⟨W0, hW0⟩ : ∃ W0, (((w.alloc (.cells #[.int .i64 0, .int .i64 0, .int .i64 0] 26)).alloc (.cells #[.int .i64 0, .int .i64 0, .int .i64 0, .bool false, .int .i64 0, .int .i64 0] 42)).alloc (.cells #[.pointer (some ⟨B, 0, none⟩)] 29)).alloc (.cells #[.int .i64 addr] 3) = W0 := ⟨_, rfl⟩
  rw [hW0] at bR bF bT bA hB0 hsz h0 ⊢
  clear hW0
  refine wpIn_rangeFunc_ownH hro (by decide) (gf := 26) (lb := #[.pointer (some ⟨w.heap.size + 1 + 1, 0, none⟩), .pointer (some ⟨w.heap.size + 1 + 1 + 1, 0, none⟩)]) rfl trivial (enters_of Try.func26 (by kernel_rfl) rfl)
    (having_stops (4 - 1) w.heap.size B (w.heap.size + 1 + 1) (w.heap.size + 1 + 1 + 1) (w.heap.size + 1) m addr hlt (by omega) (by omega) hxs W0 h0 (by omega) (by omega) bT bA) Ka.trans (Ka_b (by omega)) (Below.refl _ _) (fun _ => rfl)
    (fun pre W => (W.heap[w.heap.size + 1]? = some (.cells (foundC m (lastT m pre)) 42 (0, 0)) ∧ W.heap[w.heap.size]? = some (.cells #[.int .i64 0, .int .i64 0, .int .i64 0] 26 (0, 0))) ∧ Below w.heap.size w W)
    (fun _ _ _ => False)
    (OwnFrom.and (fun s A C row hs hg hr => ⟨block_own hs.1 hg (fun r e => (hr r e).2), block_own hs.2 hg (fun r e => (hr r e).2)⟩) (ownFrom_below (Nat.le_refl _) (by omega)))
    (fun _ _ _ _ _ hs _ _ => hs)
    ⟨⟨bF, bR⟩, hB0⟩
    (fun x a' W => ∃ Bx, w.heap.size + 1 < Bx ∧ W.heap[Bx]? = some (.cells (nodeCells m x) 42 (0, 0)) ∧ a' = { tmps := #[.pointer (some ⟨B, 0, none⟩), .int .i64 addr, undef, undef, .pointer (some ⟨w.heap.size, 0, none⟩), .bool false, .pointer (some ⟨w.heap.size + 1, 0, none⟩), .pointer (some ⟨Bx, 0, none⟩), .pointer (some ⟨B, 0, none⟩), .bool false, undef, .pointer (some ⟨B, 0, none⟩), .int .i64 addr, .func (.func 26) #[] #[.pointer (some ⟨w.heap.size + 1 + 1, 0, none⟩), .pointer (some ⟨w.heap.size + 1 + 1 + 1, 0, none⟩)], .agg (nodeCells m x), undef, undef, undef, undef, undef, undef, undef], defers := [] })
    (fun x a' _ X Y row hs hg hr => by obtain ⟨Bx, h1, h2, h3⟩ := hs; exact ⟨Bx, h1, block_own h2 hg (fun r e => (hr r e).2), h3⟩)
    ?assign ?body ?done ?stop
  case assign =>
    rintro l pre x W K ⟨⟨bF1, bR1⟩, hB⟩ hK
    have hlF := (Array.getElem?_eq_some_iff.1 bF1).1
    have hlR := (Array.getElem?_eq_some_iff.1 bR1).1
    dsimp only [nodeCells] at hK ⊢
    gi_wp2
    exact hK _ _ ((KeepsOthers.alloc _ _).from _) (Ka.of_below (below_new _ _) hB.size) ⟨⟨(Below.heap_alloc W _ _ hlF).trans bF1, (Below.heap_alloc W _ _ hlR).trans bR1⟩, hB.alloc hB.size _⟩ ⟨W.heap.size, hlF, heap_alloc_new W _, rfl⟩
  case body =>
    rintro l pre x a' W hl ⟨r, hr⟩ ⟨⟨bF1, bR1⟩, hB⟩ ⟨Bx, hBx, bX, rfl⟩ hpre
    obtain ⟨b0, b1, b2, b3, b4, b5⟩ := box_node bX
    obtain ⟨x0, x1, x2, x3, x4, x5, hf⟩ := foundC_six m (lastT m pre)
    have bF2 := bF1
    rw [hf] at bF2
    obtain ⟨f0, f1, f2, f3, f4, f5⟩ := box_node bF2
    obtain ⟨g0, g1, g2, g3, g4, g5⟩ := box_nodeF bF2
    dsimp only [nodeCells]
    cases htd : m.told x with
    | true =>
      rw [htd] at b3
      gi_wp2
      have e6 : foundC m (lastT m (pre ++ [x])) = #[.int .i64 (m.a x), .int .i64 (m.n x), .int .i64 (m.v x), .bool true, .int .i64 (m.kid x false : Nat), .int .i64 (m.kid x true : Nat)] := by rw [last_hit m pre htd]; show nodeCells m x = _; unfold nodeCells; rw [htd]
      have k6 : Ka w.heap.size (w.heap.size + 1) W (six6 W (w.heap.size + 1) (.int .i64 (m.a x)) (.int .i64 (m.n x)) (.int .i64 (m.v x)) (.bool true) (.int .i64 (m.kid x false : Nat)) (.int .i64 (m.kid x true : Nat))) := six_ka (Ka.of_below (Below.refl _ _) hB.size) (by omega) _ _ _ _ _ _
      have B6 := six_block (W := W) (.int .i64 (m.a x)) (.int .i64 (m.n x)) (.int .i64 (m.v x)) (.bool true) (.int .i64 (m.kid x false : Nat)) (.int .i64 (m.kid x true : Nat)) bF2
      rw [← e6] at B6
      have R6 := (six_other (W := W) (b := w.heap.size + 1) (k := w.heap.size) (.int .i64 (m.a x)) (.int .i64 (m.n x)) (.int .i64 (m.v x)) (.bool true) (.int .i64 (m.kid x false : Nat)) (.int .i64 (m.kid x true : Nat)) (by omega)).trans bR1
      have o6 := (six_keeps W (w.heap.size + 1) (.int .i64 (m.a x)) (.int .i64 (m.n x)) (.int .i64 (m.v x)) (.bool true) (.int .i64 (m.kid x false : Nat)) (.int .i64 (m.kid x true : Nat))).from W0.heap.size
      exact ⟨o6, k6, ⟨B6, R6⟩, hB.trans k6.1⟩
    | false =>
      rw [htd] at b3
      gi_wp2
      exact ⟨KeepsFrom.refl _ _, Ka.of_below (Below.refl _ _) hB.size, ⟨by rw [last_miss m pre htd]; exact bF1, bR1⟩, hB⟩
  case done =>
    rintro D ys W hD rfl ⟨⟨bF1, bR1⟩, hB⟩ hK
    obtain ⟨x0, x1, x2, x3, x4, x5, hf⟩ := foundC_six m (lastT m ys)
    have HF : Hid (foundC m (lastT m ys) = #[.int .i64 x0, .int .i64 x1, .int .i64 x2, .bool x3, .int .i64 x4, .int .i64 x5]) := hf
    rw [hf] at bF1
    clear hf
    obtain ⟨f0, f1, f2, f3, f4, f5⟩ := box_node bF1
    have r0 : W.cell? ⟨w.heap.size, 0, none⟩ = some (.int .i64 0) := by simp [World.cell?, bR1]
    have r1 : W.cell? ⟨w.heap.size, 1, none⟩ = some (.int .i64 0) := by simp [World.cell?, bR1]
    have r2 : W.cell? ⟨w.heap.size, 2, none⟩ = some (.int .i64 0) := by simp [World.cell?, bR1]
    have q0 : W.frozen? ⟨w.heap.size, 0, none⟩ = false := by simp [World.frozen?, bR1]
    have q1 : W.frozen? ⟨w.heap.size, 1, none⟩ = false := by simp [World.frozen?, bR1]
    have q2 : W.frozen? ⟨w.heap.size, 2, none⟩ = false := by simp [World.frozen?, bR1]
    gi_wp2
    refine wpIn_wide.2 ?_
    go_region
    all_goals gi_wp2
    have B3 : ((((W.setCell ⟨w.heap.size, 0, none⟩ (.int .i64 x0)).setCell ⟨w.heap.size, 1, none⟩ (.int .i64 x1)).setCell ⟨w.heap.size, 2, none⟩ (.int .i64 x2)).drew).heap[w.heap.size]? = some (.cells #[.int .i64 x0, .int .i64 x1, .int .i64 x2] 26 (0, 0)) := set_block (set_block (set_block bR1 (.int .i64 x0)) (.int .i64 x1)) (.int .i64 x2)
    have K3 : ((((W.setCell ⟨w.heap.size, 0, none⟩ (.int .i64 x0)).setCell ⟨w.heap.size, 1, none⟩ (.int .i64 x1)).setCell ⟨w.heap.size, 2, none⟩ (.int .i64 x2)).drew).heap[D]? = some (.deferred (some [])) := by
      have hDn : D ≠ w.heap.size := by omega
      show (((W.setCell ⟨w.heap.size, 0, none⟩ (.int .i64 x0)).setCell ⟨w.heap.size, 1, none⟩ (.int .i64 x1)).setCell ⟨w.heap.size, 2, none⟩ (.int .i64 x2)).heap[D]? = _
      rw [Below.heap_setCell _ _ _ D hDn, Below.heap_setCell _ _ _ D hDn, Below.heap_setCell _ _ _ D hDn]; exact hK
    have hB3 : Below w.heap.size w ((((W.setCell ⟨w.heap.size, 0, none⟩ (.int .i64 x0)).setCell ⟨w.heap.size, 1, none⟩ (.int .i64 x1)).setCell ⟨w.heap.size, 2, none⟩ (.int .i64 x2)).drew) :=
      (((hB.setCell (p := ⟨w.heap.size, 0, none⟩) (Nat.le_refl _) _).setCell (p := ⟨w.heap.size, 1, none⟩) (Nat.le_refl _) _).setCell (p := ⟨w.heap.size, 2, none⟩) (Nat.le_refl _) _).drew
    generalize (((W.setCell ⟨w.heap.size, 0, none⟩ (.int .i64 x0)).setCell ⟨w.heap.size, 1, none⟩ (.int .i64 x1)).setCell ⟨w.heap.size, 2, none⟩ (.int .i64 x2)).drew = W3 at B3 K3 hB3 ⊢
    have B4 : (W3.putObj D (.deferred none)).heap[w.heap.size]? = some (.cells #[.int .i64 x0, .int .i64 x1, .int .i64 x2] 26 (0, 0)) := (World.putObj_heap_other (by omega)).trans B3
    have y0 : (W3.putObj D (.deferred none)).cell? ⟨w.heap.size, 0, none⟩ = some (.int .i64 x0) := by simp [World.cell?, B4]
    have y1 : (W3.putObj D (.deferred none)).cell? ⟨w.heap.size, 1, none⟩ = some (.int .i64 x1) := by simp [World.cell?, B4]
    have y2 : (W3.putObj D (.deferred none)).cell? ⟨w.heap.size, 2, none⟩ = some (.int .i64 x2) := by simp [World.cell?, B4]
    refine ⟨by simp, .inl ⟨_, _, rfl, run_takeDeferred K3, ?_⟩⟩
    exact ⟨.tuple #[.agg #[.int .i64 x0, .int .i64 x1, .int .i64 x2], .bool x3], by simp [results, Try.results11, go_sem, y0, y1, y2], x0, x1, x2, x3, x4, x5, HF.out, rfl, hB3.trans (belowK_b (w := w) (Nat.le_refl _) W3 D _ _ (by omega) K3 rfl rfl)⟩
  case stop =>
    rintro D c pre W _ _ h _
    exact h.elim
theorem find_nil (w : World) : Calls Try.prog 11 #[.pointer none, .int .i64 0] w fun e w' => e = .returned (.tuple #[.agg #[.int .i64 0, .int .i64 0, .int .i64 0], .bool false]) ∧ Below w.heap.size w w' := by
  go_enter Try.func11, Try.ntmps11
  go_wp2_with fail
  have X : Lies (w.alloc (.cells #[.int .i64 0, .int .i64 0, .int .i64 0] 26)) w.heap.size [0, 0, 0] := Lies.new w [0, 0, 0] 26 rfl
  have y0 := X.cells 0 0 rfl
  have y1 := X.cells 1 0 rfl
  have y2 := X.cells 2 0 rfl
  refine bodyPost_ret (v := .tuple #[.agg #[.int .i64 0, .int .i64 0, .int .i64 0], .bool false]) (by simp [results, Try.results11, go_sem, y0, y1, y2]) rfl ?_
  exact ⟨rfl, below_new _ _⟩
end Go.Proofs.Ytlgldoggnlcbkab
