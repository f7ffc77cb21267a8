/- Tables in memory: a slice of versions, each a tag and a slice of rules; how they stay behind a call, how a call's own grow. -/
import Derived.Test.YtinmhjgnapbkmaaTabMath
import Derived.Test.YtinmhjgnapbkmaaRds
import Derived.Test.YtinmhjgnapbkmaaMaths
namespace Go.Proofs.Ytinmhjgnapbkmaa
open Go.ChangeShapes Go.WideShapes Go.ChangeAt Go.RowKit Pk Tb
set_option linter.unusedVariables false
set_option linter.unusedSimpArgs false

/-- a version's cells: its tag, and its rules' slice -/
structure Vc where
  t : Int
  x : Option Addr
  n : Nat
  c : Nat
  deriving Inhabited
def fV (p : Vc) : List Value := [.int .i64 p.t, .slice p.x p.n p.c]
theorem fV_len (p : Vc) : (fV p).length = 2 := rfl
theorem fV_one (p : Vc) : ∀ z ∈ fV p, z.oneCell' = true := by
  intro z hz
  simp only [fV, List.mem_cons, List.not_mem_nil, or_false] at hz
  rcases hz with rfl | rfl <;> rfl
/-- the cells p stand for the version v, in the world w; what they point to lies from the block B on, and not in the block g -/
structure VerAt (B : Nat) (g : Option Nat) (w : World) (p : Vc) (v : Vr) : Prop where
  t : p.t = v.t
  wf : (Lit.int .i64 v.t).wf = true
  n : p.n = v.l.length
  R : Rds fR 6 w p.x p.c v.l
  lo : ∀ y, p.x = some y → v.l ≠ [] → B ≤ y.block
  lt : ∀ y, p.x = some y → v.l ≠ [] → y.block < w.heap.size
  ne : ∀ y, p.x = some y → v.l ≠ [] → g ≠ some y.block
section
variable {B B' : Nat} {g g' : Option Nat} {w w' : World} {p : Vc} {v : Vr} {ps : List Vc} {l : List Vr} {a : Option Addr} {c : Nat}
theorem VerAt.later (h : VerAt B g w p v) (hb : Below w.heap.size w w') : VerAt B g w' p v := ⟨h.t, h.wf, h.n, h.R.later hb, h.lo, fun y hy hl => Nat.lt_of_lt_of_le (h.lt y hy hl) hb.size, h.ne⟩
theorem VerAt.low (h : VerAt B g w p v) (hB : B' ≤ B) : VerAt B' g w p v := ⟨h.t, h.wf, h.n, h.R, fun y hy hl => Nat.le_trans hB (h.lo y hy hl), h.lt, h.ne⟩
/-- behind the growth of the row g the cells stand for the same -/
theorem VerAt.grown (h : VerAt B g w p v) (hg : w.grownBy w' g) (hn : ∀ k, g' = some k → g = some k ∨ w.heap.size ≤ k) : VerAt B g' w' p v := by
  have hk : Keeps (fun k => g = some k) w w' := ⟨hg.os, hg.tape, hg.output, hg.size, fun k hk hne => hg.block k hk (fun e => hne e.symm)⟩
  refine ⟨h.t, h.wf, h.n, h.R.kept hk (fun x hx hl => h.ne x hx hl), h.lo, fun y hy hl => Nat.lt_of_lt_of_le (h.lt y hy hl) hg.size, fun y hy hl e => ?_⟩
  have hlt := h.lt y hy hl
  rcases hn _ e with e2 | e2
  · exact h.ne y hy hl e2
  · omega
/-- the slice at a reads the table l; all its blocks lie from B on -/
def Vers (B : Nat) (w : World) (a : Option Addr) (c : Nat) (l : List Vr) : Prop :=
  ∃ ps, Rdv fV 2 w a c ps ∧ (∀ y, a = some y → l ≠ [] → B ≤ y.block) ∧ All2 (VerAt B none w) ps l
theorem Vers.later (h : Vers B w a c l) (hb : Below w.heap.size w w') : Vers B w' a c l := by
  obtain ⟨ps, h1, h2, h3⟩ := h
  exact ⟨ps, h1.later hb, h2, all2_imp h3 fun _ _ hv => hv.later hb⟩
theorem Vers.low (h : Vers B w a c l) (hB : B' ≤ B) : Vers B' w a c l := by
  obtain ⟨ps, h1, h2, h3⟩ := h
  exact ⟨ps, h1, fun y hy hl => Nat.le_trans hB (h2 y hy hl), all2_imp h3 fun _ _ hv => hv.low hB⟩
theorem Vers.empty (B : Nat) (w : World) : Vers B w none 0 [] := ⟨[], Rdv.none fV 2 w, fun y h _ => (nomatch h), .nil⟩
theorem Vers.le (h : Vers B w a c l) : l.length ≤ c := by
  obtain ⟨ps, h1, h2, h3⟩ := h
  rw [← all2_len h3]; exact h1.le
theorem Vers.max (h : Vers B w a c l) : c ≤ maxLen := by
  obtain ⟨ps, h1, h2, h3⟩ := h
  exact h1.max
theorem Vers.nil (h : Vers B w a c l) (ha : a = none) : c = 0 := by
  obtain ⟨ps, h1, h2, h3⟩ := h
  exact h1.nil ha
/-- one version's cells, and its rules -/
theorem Vers.at (h : Vers B w a c l) {i : Nat} {v : Vr} (hv : l[i]? = some v) : ∃ b o x k, a = some ⟨b, o, Option.none⟩ ∧ b < w.heap.size ∧ w.cell? ⟨b, o + i * 2, Option.none⟩ = some (.int .i64 v.t) ∧ w.cell? ⟨b, o + i * 2 + 1, Option.none⟩ = some (.slice x v.l.length k) ∧ Rds fR 6 w x k v.l ∧ (∀ y, x = some y → v.l ≠ [] → B ≤ y.block) := by
  obtain ⟨ps, h1, h2, h3⟩ := h
  obtain ⟨p, hp, hat⟩ := all2_get h3 hv
  obtain ⟨b, o, e, hlt, hc⟩ := h1.at hp
  refine ⟨b, o, p.x, p.c, e, hlt, ?_, ?_, hat.R, hat.lo⟩
  · have := hc 0 _ rfl
    rw [Nat.add_zero] at this
    rw [this, hat.t]
  · have := hc 1 _ rfl
    rw [this, hat.n]
theorem Vers.at2 (h : Vers B w a c l) {i : Nat} {v : Vr} (hv : l[i]? = some v) : ∃ b o x k, a = some ⟨b, o, Option.none⟩ ∧ b < w.heap.size ∧ w.cell? ⟨b, o + i * 2, Option.none⟩ = some (.int .i64 v.t) ∧ w.cell? ⟨b, o + i * 2 + 1, Option.none⟩ = some (.slice x v.l.length k) ∧ VerAt B Option.none w ⟨v.t, x, v.l.length, k⟩ v := by
  obtain ⟨ps, h1, h2, h3⟩ := h
  obtain ⟨p, hp, hat⟩ := all2_get h3 hv
  obtain ⟨b, o, e, hlt, hc⟩ := h1.at hp
  have ep : p = ⟨v.t, p.x, v.l.length, p.c⟩ := by
    obtain ⟨pt, px, pn, pc⟩ := p
    have e1 := hat.t
    have e2 := hat.n
    dsimp only at e1 e2
    subst e1; subst e2; rfl
  refine ⟨b, o, p.x, p.c, e, hlt, ?_, ?_, ep ▸ hat⟩
  · have := hc 0 _ rfl
    rw [Nat.add_zero] at this
    rw [this, hat.t]
  · have := hc 1 _ rfl
    rw [this, hat.n]
theorem VerAt.far {u : Option Nat} {W : World} (h : VerAt B Option.none w p v) (hb : Below w.heap.size w W) (hu : ∀ k, u = some k → w.heap.size ≤ k) : VerAt 0 u W p v :=
  ⟨h.t, h.wf, h.n, h.R.later hb, fun _ _ _ => Nat.zero_le _, fun y hy hl => Nat.lt_of_lt_of_le (h.lt y hy hl) hb.size, fun y hy hl e => by
    have h1 := h.lt y hy hl
    have h2 := hu _ e
    omega⟩
/-- a store elsewhere changes nothing of it -/
theorem Vers.kept {k0 : Nat} (h : Vers B w a c l) (hk : Keeps (fun k => k = k0) w w') (hg : k0 < B) : Vers B w' a c l := by
  obtain ⟨ps, h1, h2, h3⟩ := h
  refine ⟨ps, h1.kept hk (fun x hx hne e => ?_), h2, all2_imp h3 fun p v hv => ⟨hv.t, hv.wf, hv.n, hv.R.kept hk (fun x hx hne e => ?_), hv.lo, fun y hy hl => Nat.lt_of_lt_of_le (hv.lt y hy hl) hk.size, hv.ne⟩⟩
  · have := h2 x hx (fun e2 => hne (List.eq_nil_of_length_eq_zero (by rw [all2_len h3, e2]; rfl)))
    have e3 : x.block = k0 := e
    omega
  · have := hv.lo x hx hne
    have e3 : x.block = k0 := e
    omega
/-- its rules may be written to -/
def Loose (w : World) (a : Option Addr) (l : List Vr) : Prop := ∀ (b o i : Nat) (v : Vr) (x : Addr) (k : Nat), a = some ⟨b, o, Option.none⟩ → l[i]? = some v → v.l ≠ [] → w.cell? ⟨b, o + i * 2 + 1, Option.none⟩ = some (.slice (some x) v.l.length k) → ∀ j, w.frozen? ⟨x.block, j, Option.none⟩ = false
/-- its first rule's cell of the priority, if there is one -/
theorem Vers.first (h : Vers B w a c l) (hL : Loose w a l) {v : Vr} (hv : l[0]? = some v) {r : Rl} (hr : v.l[0]? = some r) : ∃ b o bx ox k, a = some ⟨b, o, Option.none⟩ ∧ b < w.heap.size ∧ w.cell? ⟨b, o + 1, Option.none⟩ = some (.slice (some ⟨bx, ox, Option.none⟩) v.l.length k) ∧ B ≤ bx ∧ bx < w.heap.size ∧ (∀ j y, (fR r)[j]? = some y → w.cell? ⟨bx, ox + j, Option.none⟩ = some (.int .i64 y)) ∧ ∀ j, w.frozen? ⟨bx, j, Option.none⟩ = false := by
  obtain ⟨b, o, x, k, e, hb, c0, c1, R, hlo⟩ := h.at hv
  have hne : v.l ≠ [] := by intro e2; rw [e2] at hr; cases hr
  obtain ⟨bx, ox, e2, hlt, hc⟩ := R.at hr
  subst e2
  have c2 := c1
  simp only [Nat.zero_mul, Nat.add_zero] at c2
  refine ⟨b, o, bx, ox, k, e, hb, c2, hlo _ rfl hne, hlt, fun j y hy => ?_, fun j => hL b o 0 v _ k e hv hne c1 j⟩
  have := hc j y hy
  simpa using this
theorem Loose.later (h : Vers B w a c l) (hL : Loose w a l) (hb : Below w.heap.size w w') : Loose w' a l := by
  intro b o i v x k e hv hne hc j
  obtain ⟨b2, o2, x2, k2, e2, hlt, c0, c1, R, hlo⟩ := h.at hv
  rw [e] at e2
  cases e2
  rw [(hb.cell (p := ⟨b, o + i * 2 + 1, Option.none⟩) hlt)] at hc
  obtain ⟨bx, ox, e3, hlt2, -⟩ := R.cells hne
  have hx : x2 = some x := by rw [c1] at hc; cases hc; rfl
  rw [e3] at hx
  cases hx
  rw [hb.frozen (p := ⟨bx, j, Option.none⟩) hlt2]
  exact hL b o i v _ k e hv hne hc j
theorem Loose.kept {k0 : Nat} {p0 : Addr} {u : Value} (h : Vers B w a c l) (hL : Loose w a l) (hp : p0.block = k0) (hg : k0 < B) : Loose (w.setCell p0 u) a l := by
  intro b o i v x k e hv hne hc j
  rw [World.frozen?_setCell]
  obtain ⟨ps, h1, h2, h3⟩ := h
  have hb := h2 _ e (by intro e2; rw [e2] at hv; cases hv)
  rw [World.cell?_setCell_other w p0 _ u (by intro e2; have := congrArg Addr.block e2; simp at this; have hb2 : B ≤ b := hb; omega)] at hc
  exact hL b o i v x k e hv hne hc j
/-- a table of the call's own: a row of it, and what its versions point to, elsewhere -/
def OwnT (B : Nat) (w : World) (v : Value) (l : List Vr) : Prop :=
  ∃ ps, w.ownsRow B 43 2 v l.length (flatW fV ps) ∧ All2 (VerAt 0 v.ownBlock w) ps l
theorem OwnT.empty (B : Nat) (w : World) : OwnT B w (.slice none 0 0) [] := ⟨[], World.ownsRow_nil _ _ _ _, .nil⟩
theorem OwnT.later {u : Value} (h : OwnT B w u l) (hb : Below w.heap.size w w') : OwnT B w' u l := by
  obtain ⟨ps, h1, h2⟩ := h
  exact ⟨ps, own_laterW h1 hb, all2_imp h2 fun _ _ hv => hv.later hb⟩
theorem OwnT.vers {u : Value} (h : OwnT B w u l) : ∃ a c, u = .slice a l.length c ∧ Vers 0 w a c l ∧ ∀ y, a = some y → B ≤ y.block := by
  obtain ⟨ps, h1, h2⟩ := h
  obtain ⟨a, c, e, R, hlo⟩ := rdv_of_owns2 fV_len h1 (all2_len h2)
  exact ⟨a, c, e, ⟨ps, R, fun _ _ _ => Nat.zero_le _, all2_imp h2 fun _ _ hv => ⟨hv.t, hv.wf, hv.n, hv.R, hv.lo, hv.lt, fun y hy hl => (fun e => by cases e)⟩⟩, fun y hy => (hlo y hy).1⟩
/-- one more version, laid in the row or in a new one -/
theorem OwnT.one {u v' : Value} {W : World} {x : Vr} (h2 : All2 (VerAt 0 u.ownBlock W) ps l) (own : w'.ownsRow B 43 2 v' (l.length + 1) (flatW fV (ps ++ [p]))) (hg : W.grownBy w' u.ownBlock) (hp : ∀ k, v'.ownBlock = some k → u.ownBlock = some k ∨ W.heap.size ≤ k) (hv : VerAt 0 u.ownBlock W p x) : OwnT B w' v' (l ++ [x]) :=
  ⟨ps ++ [p], by rw [List.length_append]; exact own, all2_app (all2_imp h2 fun _ _ h => h.grown hg hp) (.cons (hv.grown hg hp) .nil)⟩
end
end Go.Proofs.Ytinmhjgnapbkmaa
