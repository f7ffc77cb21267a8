/- Configurations in memory: a slice of slices of rules; how they stay behind a call, how a call's own grow; one that came in as an argument, opened. -/
import Derived.Test.YtihgpllbgliplaaConfMath
import Derived.Test.YtihgpllbgliplaaRds
import Derived.Lib.SmallJoins
import Derived.Deep.Strs
import Derived.Laws.OwnMore
namespace Go.Proofs.Ytihgpllbgliplaa
open Go.ChangeShapes Go.WideShapes Go.ChangeAt Go.RowKit Pk Cf
set_option linter.unusedVariables false
set_option linter.unusedSimpArgs false

theorem getC {α : Type} {L : List α} {k : Nat} (h : k < L.length) : ∃ l, L[k]? = some l := ⟨L[k], List.getElem?_eq_getElem h⟩
theorem mem_take_succ {α : Type} {L : List α} {k : Nat} {x : α} (hx : L[k]? = some x) {P : α → Prop} (h : ∀ l ∈ L.take k, P l) (hp : P x) : ∀ l ∈ L.take (k + 1), P l := by
  intro l hl
  rw [List.take_add_one, hx, List.mem_append] at hl
  rcases hl with hl | hl
  · exact h l hl
  · have : l = x := by simpa using hl
    rw [this]; exact hp
theorem most_snoc {L : Cnf} {k : Nat} {l : List Rl} (hl : L[k]? = some l) : mostC (L.take (k + 1)) = if mostC (L.take k) < l.length then l.length else mostC (L.take k) := by
  unfold mostC
  rw [List.take_add_one, hl, List.foldl_append]
  rfl
theorem infoR12 : (Try.prog.info? 60).map (fun i => (i.zero, i.size, i.bytes)) = some (some (.agg #[.int .i64 0, .int .i64 0, .int .i64 0, .int .i64 0, .int .i64 0, .int .i64 0]), 6, 48) := by kernel_rfl
def PreR (n : Int) (l : List Rl) (i : Nat) : Prop := (∀ r ∈ l.take i, okRule n r = true) ∧ (l.take i).Pairwise fun a b => alike a b = false
theorem pre_zero (n : Int) (l : List Rl) : PreR n l 0 := ⟨fun r hr => by simp at hr, by simp⟩
theorem pre_succ {n : Int} {l : List Rl} {i : Nat} {r : Rl} (hr : l[i]? = some r) (h : PreR n l i) (hk : okRule n r = true) (ha : ∀ q ∈ l.take i, alike r q = false) : PreR n l (i + 1) := by
  refine ⟨mem_take_succ hr h.1 hk, ?_⟩
  rw [List.take_add_one, hr, List.pairwise_append]
  refine ⟨h.2, by simp, fun q hq y hy => ?_⟩
  have : y = r := by simpa using hy
  rw [this, alike_symm]
  exact ha q hq
theorem pre_all {n : Int} {l : List Rl} (h : PreR n l l.length) (h40 : l.length ≤ 40) : rulesB n l = true := by
  unfold PreR at h
  rw [List.take_length] at h
  exact (rules_iff n l).2 ⟨h40, h.1, h.2⟩
theorem rules_no_ok {n : Int} {l : List Rl} {i : Nat} {r : Rl} (hr : l[i]? = some r) (hk : okRule n r = false) : rulesB n l = false := by
  cases g : rulesB n l
  · rfl
  · have := ((rules_iff n l).1 g).2.1 r (List.mem_of_getElem? hr)
    rw [hk] at this
    cases this
theorem rules_no_apart {n : Int} {l : List Rl} {i j : Nat} {r q : Rl} (hr : l[i]? = some r) (hq : l[j]? = some q) (hj : j < i) (hk : alike r q = true) : rulesB n l = false := by
  cases g : rulesB n l
  · rfl
  · have h := ((rules_iff n l).1 g).2.2
    obtain ⟨hi, rfl⟩ := List.getElem?_eq_some_iff.1 hr
    obtain ⟨hj2, rfl⟩ := List.getElem?_eq_some_iff.1 hq
    have := List.pairwise_iff_getElem.1 h j i hj2 hi hj
    rw [alike_symm] at hk
    rw [hk] at this
    cases this
theorem rules_long {n : Int} {l : List Rl} (h : 40 < l.length) : rulesB n l = false := by
  cases g : rulesB n l
  · rfl
  · have := ((rules_iff n l).1 g).1; omega
theorem same_stepC {A B : Cnf} {k : Nat} {l m : List Pk.Rl} (ha : A[k]? = some l) (hb : B[k]? = some m) (h : (A.take k).map Pk.sortL = (B.take k).map Pk.sortL) (hs : Pk.sortL l = Pk.sortL m) : (A.take (k + 1)).map Pk.sortL = (B.take (k + 1)).map Pk.sortL := by
  rw [List.take_add_one, List.take_add_one, ha, hb, List.map_append, List.map_append, h]
  simp [hs]
theorem same_notC {A B : Cnf} {k : Nat} {l m : List Pk.Rl} (ha : A[k]? = some l) (hb : B[k]? = some m) (hs : ¬ Pk.sortL l = Pk.sortL m) : sameC A B = false := by
  unfold sameC
  rw [decide_eq_false_iff_not]
  intro e
  have h1 := congrArg (fun x => x[k]?) e
  simp only [List.getElem?_map, ha, hb, Option.map_some, Option.some.injEq] at h1
  exact hs h1
theorem mayC_no1 {s n : Int} {l : List Tp.Lk} {L : Cnf} (h : Tp.mayT s n l = false) : mayC s n l L = false := by simp [mayC, h]
theorem mayC_no2 {s n : Int} {l : List Tp.Lk} {L : Cnf} (h : ¬ (L.length : Int) = s) : mayC s n l L = false := by simp [mayC, h]
theorem mayC_no3 {s n : Int} {l : List Tp.Lk} {L : Cnf} {r : List Rl} (hr : r ∈ L) (h : rulesB n r = false) : mayC s n l L = false := by
  cases g : mayC s n l L
  · rfl
  · have := ((may_iff s n l L).1 g).2.2 r hr
    rw [h] at this; cases this
/-- a slice's parts -/
structure Sl where
  x : Option Addr
  n : Nat
  c : Nat
  deriving Inhabited
def fS (p : Sl) : List Value := [.slice p.x p.n p.c]
theorem fS_len (p : Sl) : (fS p).length = 1 := rfl
theorem fS_one (p : Sl) : ∀ z ∈ fS p, z.oneCell' = true := by
  intro z hz
  simp only [fS, List.mem_cons, List.not_mem_nil, or_false] at hz
  rcases hz with rfl
  rfl
/-- the slice p reads the rules l, in the world w; they do not lie in the block g -/
structure RowAt (g : Option Nat) (w : World) (p : Sl) (l : List Rl) : Prop where
  n : p.n = l.length
  R : Rds fR 6 w p.x p.c l
  ne : ∀ y, p.x = some y → l ≠ [] → g ≠ some y.block
section
variable {g g' : Option Nat} {w w' : World} {p : Sl} {l : List Rl} {ps : List Sl} {L : Cnf} {a : Option Addr} {c B : Nat}
theorem RowAt.later (h : RowAt g w p l) (hb : Below w.heap.size w w') : RowAt g w' p l := ⟨h.n, h.R.later hb, h.ne⟩
theorem RowAt.lt (h : RowAt g w p l) {y : Addr} (hy : p.x = some y) (hl : l ≠ []) : y.block < w.heap.size := by
  obtain ⟨b, o, e, hlt, -⟩ := h.R.cells hl
  rw [hy] at e
  cases e
  exact hlt
theorem RowAt.grown (h : RowAt g w p l) (hg : w.grownBy w' g) (hn : ∀ k, g' = some k → g = some k ∨ w.heap.size ≤ k) : RowAt g' w' p l := by
  have hk : Keeps (fun k => g = some k) w w' := ⟨hg.os, hg.tape, hg.output, hg.size, fun k hk hne => hg.block k hk (fun e => hne e.symm)⟩
  refine ⟨h.n, h.R.kept hk (fun x hx hl => h.ne x hx hl), fun y hy hl e => ?_⟩
  have hlt := h.lt hy hl
  rcases hn _ e with e2 | e2
  · exact h.ne y hy hl e2
  · omega
theorem RowAt.far {u : Option Nat} (h : RowAt none w p l) (hb : Below w.heap.size w w') (hu : ∀ k, u = some k → w.heap.size ≤ k) : RowAt u w' p l :=
  ⟨h.n, h.R.later hb, fun y hy hl e => by
    have h1 := h.lt hy hl
    have h2 := hu _ e
    omega⟩
/-- the slice at a reads the configuration L -/
def Lists (w : World) (a : Option Addr) (c : Nat) (L : Cnf) : Prop := ∃ ps, Rdv fS 1 w a c ps ∧ All2 (RowAt none w) ps L
theorem Lists.later (h : Lists w a c L) (hb : Below w.heap.size w w') : Lists w' a c L := by
  obtain ⟨ps, h1, h2⟩ := h
  exact ⟨ps, h1.later hb, all2_imp h2 fun _ _ hv => hv.later hb⟩
theorem Lists.empty (w : World) : Lists w none 0 [] := ⟨[], Rdv.none fS 1 w, .nil⟩
theorem Lists.le (h : Lists w a c L) : L.length ≤ c := by
  obtain ⟨ps, h1, h2⟩ := h
  rw [← all2_len h2]; exact h1.le
theorem Lists.max (h : Lists w a c L) : c ≤ maxLen := by
  obtain ⟨ps, h1, h2⟩ := h
  exact h1.max
theorem Lists.nil (h : Lists w a c L) (ha : a = none) : c = 0 := by
  obtain ⟨ps, h1, h2⟩ := h
  exact h1.nil ha
/-- one list's cell, and its rules -/
theorem Lists.at (h : Lists w a c L) {i : Nat} (hl : L[i]? = some l) : ∃ b o x k, a = some ⟨b, o, Option.none⟩ ∧ b < w.heap.size ∧ w.cell? ⟨b, o + i, Option.none⟩ = some (.slice x l.length k) ∧ Rds fR 6 w x k l := by
  obtain ⟨ps, h1, h2⟩ := h
  obtain ⟨p, hp, hat⟩ := all2_get h2 hl
  obtain ⟨b, o, e, hlt, hc⟩ := h1.at hp
  refine ⟨b, o, p.x, p.c, e, hlt, ?_, hat.R⟩
  have := hc 0 _ rfl
  rw [Nat.mul_one, Nat.add_zero] at this
  rw [this, hat.n]
/-- a configuration of the call's own: a row of it, and what its slices point to, elsewhere -/
def OwnC (B : Nat) (w : World) (v : Value) (L : Cnf) : Prop :=
  ∃ ps, w.ownsRow B 48 1 v L.length (flatW fS ps) ∧ All2 (RowAt v.ownBlock w) ps L
theorem OwnC.empty (B : Nat) (w : World) : OwnC B w (.slice none 0 0) [] := ⟨[], World.ownsRow_nil _ _ _ _, .nil⟩
theorem OwnC.later {u : Value} (h : OwnC B w u L) (hb : Below w.heap.size w w') : OwnC B w' u L := by
  obtain ⟨ps, h1, h2⟩ := h
  exact ⟨ps, own_laterW h1 hb, all2_imp h2 fun _ _ hv => hv.later hb⟩
theorem OwnC.rows {u : Value} (h : OwnC B w u L) : ∃ a c, u = .slice a L.length c ∧ Lists w a c L ∧ ∀ y, a = some y → B ≤ y.block := by
  obtain ⟨ps, h1, h2⟩ := h
  obtain ⟨a, c, e, R, hlo⟩ := rdv_of_owns2 fS_len h1 (all2_len h2)
  exact ⟨a, c, e, ⟨ps, R, all2_imp h2 fun _ _ hv => ⟨hv.n, hv.R, fun y hy hl e => by cases e⟩⟩, fun y hy => (hlo y hy).1⟩
/-- one more list, laid in the row or in a new one -/
theorem OwnC.one {u v' : Value} {W : World} (h2 : All2 (RowAt u.ownBlock W) ps L) (own : w'.ownsRow B 48 1 v' (L.length + 1) (flatW fS (ps ++ [p]))) (hg : W.grownBy w' u.ownBlock) (hp : ∀ k, v'.ownBlock = some k → u.ownBlock = some k ∨ W.heap.size ≤ k) (hv : RowAt u.ownBlock W p l) : OwnC B w' v' (L ++ [l]) :=
  ⟨ps ++ [p], by rw [List.length_append]; exact own, all2_app (all2_imp h2 fun _ _ h => h.grown hg hp) (.cons (hv.grown hg hp) .nil)⟩
theorem flatS (ps : List Sl) : flatW fS ps = ps.map fun p => .slice p.x p.n p.c := by
  induction ps with
  | nil => rfl
  | cons p ps ih => show (fS p) ++ flatW fS ps = _; rw [ih]; rfl
/-- one list in the place of another one -/
theorem OwnC.set {y : Nat} {m : Nat} {i : Nat} {k : Nat} (h : OwnC B w (.slice (some ⟨y, 0, none⟩) m k) L) (hm : m = L.length) {q : Sl} {r : List Rl} (hq : RowAt (some y) w q r) (hi : i < L.length) :
    OwnC B (w.setCell ⟨y, i, none⟩ (.slice q.x q.n q.c)) (.slice (some ⟨y, 0, none⟩) m k) (L.set i r) := by
  subst hm
  obtain ⟨ps, h1, h2⟩ := h
  have hs := h1.stored i (.slice q.x q.n q.c)
  have e : (flatW fS ps).set i (.slice q.x q.n q.c) = flatW fS (ps.set i q) := by
    rw [flatS, flatS, List.map_set]
  rw [e] at hs
  refine ⟨ps.set i q, ?_, all2_set (all2_imp h2 fun _ _ hv => hv.grown (g' := some y) hs.2 (fun k e => .inl e)) (hq.grown hs.2 (fun k e => .inl e)) i⟩
  simpa using hs.1
theorem OwnC.cell {y : Nat} {m k i : Nat} (h : OwnC B w (.slice (some ⟨y, 0, none⟩) m k) L) (hm : m = L.length) (hi : i < L.length) : (∃ u, w.cell? ⟨y, i, none⟩ = some u) ∧ w.frozen? ⟨y, i, none⟩ = false := by
  subst hm
  obtain ⟨ps, h1, h2⟩ := h
  refine ⟨?_, h1.frozenAt i⟩
  have := h1.cellAt i (by omega)
  have hlt : i < (flatW fS ps).length := by rw [flatS, List.length_map, all2_len h2]; exact hi
  exact ⟨_, this.trans (List.getElem?_eq_getElem hlt)⟩
end
theorem cInt12 : Try.prog.cellsOf 3 = 1 := by kernel_rfl
theorem cPrefix12 : Try.prog.cellsOf 58 = 2 := by kernel_rfl
theorem cAction12 : Try.prog.cellsOf 50 = 2 := by kernel_rfl
section
variable {H : Type} {enc : TypeId × Value → H} {w : World} {base : Nat} {spare : Nat → Bool} {held : Bool}
theorem one_int12 {n : Nat} {c : Value} {x : DataW H × List MemPlace} (h : DataW.trod enc Try.prog w base spare held n 3 [c] = some x) : ∃ a : Int, c = .int .i64 a ∧ (Lit.int .i64 a).wf = true := by
  obtain ⟨a, e, _, hw⟩ := DataW.trod_int Try.underlying3 h
  exact ⟨a, by simpa using e, hw⟩
theorem elemR12 (n : Nat) (cs : List Value) (y : DataW H × List MemPlace) (hl : cs.length = 6) (h : DataW.trod enc Try.prog w base spare held n 60 cs = some y) : ∃ x : Rl, cs = (fR x).map (Value.int .i64) ∧ ∀ z ∈ fR x, (Lit.int .i64 z).wf = true := by
  match cs, hl with
  | [c0, c1, c2, c3, c4, c5], _ =>
    obtain ⟨y0, y1, y2, y3, m, _, _, h0, h1, h2, h3⟩ := Go.Joins.trod_struct4 Try.underlying60 h
    simp only [cPrefix12, cAction12, cInt12] at h0 h1 h2 h3
    obtain ⟨z0, z1, m0, _, _, g0, g1⟩ := trod_struct2 Try.underlying58 h0
    obtain ⟨z4, z5, m4, _, _, g4, g5⟩ := trod_struct2 Try.underlying50 h3
    simp only [cInt12] at g0 g1 g4 g5
    obtain ⟨a, rfl, wa⟩ := one_int12 (by simpa using g0)
    obtain ⟨k, rfl, wn⟩ := one_int12 (by simpa using g1)
    obtain ⟨i, rfl, wi⟩ := one_int12 (by simpa using h1)
    obtain ⟨q, rfl, wq⟩ := one_int12 (by simpa using h2)
    obtain ⟨e, rfl, wk⟩ := one_int12 (by simpa using g4)
    obtain ⟨t, rfl, wt⟩ := one_int12 (by simpa using g5)
    refine ⟨⟨a, k, i, q, e, t⟩, rfl, fun z hz => ?_⟩
    simp only [fR, List.mem_cons, List.not_mem_nil, or_false] at hz
    rcases hz with rfl | rfl | rfl | rfl | rfl | rfl <;> assumption
theorem all2_mapR {α β γ : Type} {P : β → γ → Prop} {f : α → β} {g : α → γ} : ∀ {l : List α}, (∀ x ∈ l, P (f x) (g x)) → All2 P (l.map f) (l.map g)
  | [], _ => .nil
  | x :: l, h => .cons (h x List.mem_cons_self) (all2_mapR fun y hy => h y (List.mem_cons_of_mem _ hy))
theorem elemS (hs : ∀ b, spare b = true) (n : Nat) (cs : List Value) (y : DataW H × List MemPlace) (hl : cs.length = 1) (h : DataW.trod enc Try.prog w base spare true n 48 cs = some y) : ∃ (p : Sl) (l : List Rl), cs = fS p ∧ RowAt none w p l := by
  match cs, hl with
  | [c1], _ =>
    have hsl : ∃ x k c, c1 = .slice x k c := by
      rcases Go.Deep.open_slice Try.underlying48 h with ⟨h0, _⟩ | ⟨x, len, cap, m, n, D, Pl, hcs, _⟩
      · simp only [List.cons.injEq, and_true] at h0
        exact ⟨_, _, _, h0⟩
      · simp only [List.cons.injEq, and_true] at hcs
        exact ⟨_, _, _, hcs⟩
    obtain ⟨x, k, c, rfl⟩ := hsl
    obtain ⟨l, rfl, R⟩ := rds_of_trod Try.underlying48 (by kernel_rfl) hs (by decide) fR_len elemR12 h
    exact ⟨⟨x, l.length, c⟩, l, rfl, rfl, R, fun _ _ _ e => by cases e⟩
theorem rows_of_trod {fuel : Nat} {a0 : Option Addr} {n0 c0 : Nat} {d : DataW H × List MemPlace} (hs : ∀ b, spare b = true)
    (h : DataW.trod enc Try.prog w base spare true fuel 26 [.slice a0 n0 c0] = some d) : ∃ L : Cnf, n0 = L.length ∧ Lists w a0 c0 L := by
  have hce : Try.prog.cellsOf 48 = 1 := by kernel_rfl
  rcases Go.Deep.open_slice Try.underlying26 h with ⟨h0, _⟩ | ⟨x, len, cap, m, n, D, Pl, hcs, hb, hl, hmx, hm, _, hx⟩
  · simp only [List.cons.injEq, Value.slice.injEq, and_true] at h0
    obtain ⟨rfl, rfl, rfl⟩ := h0
    exact ⟨[], rfl, Lists.empty w⟩
  · simp only [List.cons.injEq, Value.slice.injEq, and_true] at hcs
    obtain ⟨rfl, rfl, rfl⟩ := hcs
    rw [hs] at hm
    have each : ∀ i, i < n0 → ∃ q : Sl × List Rl, RowAt none w q.1 q.2 ∧ ∀ j y, (fS q.1)[j]? = some y → w.cell? (x.add (i * 1 + j)) = some y := by
      intro i hi
      obtain ⟨cs', h1, h2⟩ := hx i (by simp at hm; omega)
      rw [hce] at h1
      obtain ⟨_, hlen, hcell⟩ := World.cells?_some h1
      obtain ⟨p, v, rfl, hv⟩ := elemS hs n cs' _ hlen h2
      refine ⟨(p, v), hv, fun j y hy => ?_⟩
      have hj : j < 1 := by rw [← fS_len p]; exact (List.getElem?_eq_some_iff.1 hy).1
      have e0 := hcell j hj
      rw [Go.Deep.add_add] at e0
      rw [e0]
      exact hy
    rcases Nat.eq_zero_or_pos n0 with hz | hz
    · subst hz
      exact ⟨[], rfl, [], ⟨by simp, hmx, fun h => (nomatch h), fun h => absurd rfl h⟩, .nil⟩
    · obtain ⟨q, hq⟩ : ∃ q : Nat → Sl × List Rl, ∀ i, i < n0 → RowAt none w (q i).1 (q i).2 ∧ ∀ j y, (fS (q i).1)[j]? = some y → w.cell? (x.add (i * 1 + j)) = some y := by
        refine ⟨fun i => if h : i < n0 then (each i h).choose else (each 0 hz).choose, fun i hi => ?_⟩
        simp only [dif_pos hi]
        exact (each i hi).choose_spec
      refine ⟨(List.range n0).map fun i => (q i).2, by simp, (List.range n0).map fun i => (q i).1, ⟨by simpa using hl, hmx, fun h => (nomatch h), fun _ => ?_⟩, all2_mapR fun i hi => (hq i (List.mem_range.1 hi)).1⟩
      obtain ⟨b, o, s⟩ := x
      have hc := (hq 0 hz).2 0 _ rfl
      have hs : s = Option.none := by simpa [Addr.add] using World.cell?_spot hc
      subst hs
      refine ⟨b, o, rfl, ?_, fun i x' hx' j y' hy' => ?_⟩
      · have := World.block_lt_of_cell? w _ hc; simpa [Addr.add] using this
      · have hi : i < n0 := by have := (List.getElem?_eq_some_iff.1 hx').1; simpa using this
        obtain rfl : (q i).1 = x' := by simpa [hi] using hx'
        have := (hq i hi).2 j y' hy'
        rw [Addr.add_lit, ← Nat.add_assoc] at this
        exact this
end
end Go.Proofs.Ytihgpllbgliplaa
