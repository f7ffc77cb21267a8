/- The code of package wires: what its own, copied, joined, without, Send and Fate answer. -/
import Derived.Test.YtoedgnkoahcblaaWireIf
import Derived.Test.YtoedgnkoahcblaaWireRefS
import Derived.ArgAppend
import Derived.Lib.Walk
namespace Go.Proofs.Ytoedgnkoahcblaa
open Go.ChangeShapes Go.WideShapes Go.ChangeAt Go.RowKit O Wi
set_option linter.unusedVariables false
set_option linter.unusedSimpArgs false

/-- bytes, copied -/
theorem cloneB_any (w : World) {a : Option Addr} {c n : Nat} {l : List Int} (R : Reads .u8 w a c l) (hn : l.length = n) (hl : n ≤ 1000) :
    Calls Try.prog 22 #[.slice a n c] w fun e w' => ∃ y k, e = .returned (.slice y n k) ∧ Reads .u8 w' y k l ∧ (∀ x, y = some x → w.heap.size ≤ x.block) ∧ Below w.heap.size w w' := by
  have q22 : ∀ (w : World) (a : Option Addr) (n c n' c' : Nat), (binOp .eql 23 (.slice a n c) (.slice none n' c')).run Try.prog w = .ok (.bool a.isNone) w := fun w a n c n' c' => Lib.run_eql_slice_nil w _ _ a n c n' c' Try.underlying23
  cases a with
  | none =>
    have hc := R.nil rfl
    have h0 : l = [] := List.eq_nil_of_length_eq_zero (by have := R.le; omega)
    subst h0
    obtain rfl : n = 0 := hn.symm
    go_enter Try.func22, Try.ntmps22
    go_wp2
    go_ret
    exact ⟨none, 0, rfl, Reads.none _ _, fun x e => (nomatch e), Below.refl _ _⟩
  | some x =>
    have hb := below_new w (.cells #[] 5)
    have own := World.ownsRow_made (base := w.heap.size) (e := 5) (size := 1) w #[] 0 (Nat.le_refl _) (Nat.zero_le _) rfl
    have R2 := R.later hb
    have HN : Hid (l.length = n) := hn
    have hwf := R.wf
    clear hn R
    go_enter Try.func22, Try.ntmps22
    go_wp2_with (at_builtin; refine wpList_join rfl (.tmp 5) (.tmp 6) 23 rfl w.heap.size 5 1 Try.underlying23 info8 (n := 0) (ys := []) rfl own rfl R2 HN.out (by omega) (by decide) hb.size ?_; intro v4 w4 own4 hg4)
    simp only [Nat.zero_add, List.nil_append] at own4
    go_ret
    obtain ⟨y, k, rfl, RY, -⟩ := reads_of_owns own4 hwf
    rw [HN.out] at own4 ⊢
    exact ⟨y, k, rfl, RY, fun x e => (own4.lt x.block (by rw [e]; rfl)).1, below_grow hb own hg4 hb.size⟩
/-- wires, copied, but not their bytes -/
theorem cloneW_any (w : World) {a : Option Addr} {c n : Nat} {ps : List Wc} (R : Rdv fW 3 w a c ps) (hn : ps.length = n) (hl : n ≤ 1000) :
    Calls Try.prog 21 #[.slice a n c] w fun e w' => ∃ u, e = .returned u ∧ w'.ownsRow w.heap.size 25 3 u n (flatW fW ps) ∧ Below w.heap.size w w' := by
  have q22 : ∀ (w : World) (a : Option Addr) (n c n' c' : Nat), (binOp .eql 22 (.slice a n c) (.slice none n' c')).run Try.prog w = .ok (.bool a.isNone) w := fun w a n c n' c' => Lib.run_eql_slice_nil w _ _ a n c n' c' Try.underlying22
  cases a with
  | none =>
    have hc := R.nil rfl
    have h0 : ps = [] := List.eq_nil_of_length_eq_zero (by have := R.le; omega)
    subst h0
    obtain rfl : n = 0 := hn.symm
    go_enter Try.func21, Try.ntmps21
    go_wp2
    go_ret
    exact ⟨_, rfl, World.ownsRow_nil _ _ _ _, Below.refl _ _⟩
  | some x =>
    have hb := below_new w (.cells #[] 25)
    have own := World.ownsRow_made (base := w.heap.size) (e := 25) (size := 3) w #[] 0 (Nat.le_refl _) (Nat.zero_le _) rfl
    have R2 := R.later hb
    have HN : Hid (ps.length = n) := hn
    clear hn
    go_enter Try.func21, Try.ntmps21
    go_wp2_with (at_builtin; refine wpRdv_join fW_len fW_one (by decide) rfl (.tmp 5) (.tmp 6) 22 rfl w.heap.size 25 40 _ Try.underlying22 infoW rfl (n := 0) (ys := []) rfl own rfl R2 HN.out (by omega) (by decide) hb.size ?_; intro v4 w4 own4 hg4 hp4)
    simp only [Nat.zero_add, List.nil_append] at own4
    go_ret
    exact ⟨_, rfl, own4, below_growW hb own hg4 hb.size⟩
theorem all2_ofW {α β : Type} {P : α → β → Prop} : ∀ {l : List α} {m : List β}, l.length = m.length → (∀ (i : Nat) (x : α) (y : β), l[i]? = some x → m[i]? = some y → P x y) → All2 P l m
  | [], [], _, _ => .nil
  | [], y :: m, e, _ => by cases e
  | x :: l, [], e, _ => by cases e
  | x :: l, y :: m, e, h => .cons (h 0 x y rfl rfl) (all2_ofW (Nat.succ.inj e) fun i a b ha hb => h (i + 1) a b ha hb)
theorem all2_atW {α β : Type} {P : α → β → Prop} {l : List α} {m : List β} (h : All2 P l m) : ∀ {i : Nat} {x : α} {y : β}, l[i]? = some x → m[i]? = some y → P x y := by
  induction h with
  | nil => intro i x y h; simp at h
  | cons h1 _ ih =>
    intro i x y hx hy
    cases i with
    | zero => simp at hx hy; subst hx; subst hy; exact h1
    | succ i => exact ih (by simpa using hx) (by simpa using hy)
theorem all2_takeW {α β : Type} {P : α → β → Prop} {l : List α} {m : List β} (h : All2 P l m) (n : Nat) : All2 P (l.take n) (m.take n) := by
  have hl := all2_len h
  refine all2_ofW (by rw [List.length_take, List.length_take, hl]) fun i x y hx hy => ?_
  rw [List.getElem?_take] at hx hy
  split at hx
  · rename_i hi
    rw [if_pos hi] at hy
    exact all2_atW h hx hy
  · cases hx
theorem all2_dropW {α β : Type} {P : α → β → Prop} {l : List α} {m : List β} (h : All2 P l m) (n : Nat) : All2 P (l.drop n) (m.drop n) := by
  have hl := all2_len h
  refine all2_ofW (by rw [List.length_drop, List.length_drop, hl]) fun i x y hx hy => ?_
  rw [List.getElem?_drop] at hx hy
  exact all2_atW h hx hy
theorem hid_in {p : Prop} (h : p) : Hid p := h
/-- a block of none of those ahead of B -/
abbrev Low (B : Nat) (u : Option Nat) : Prop := ∀ k, u = some k → k < B
set_option maxRecDepth 100000 in
set_option maxHeartbeats 4000000 in
theorem own_any (w : World) {g : Option Nat} {p : Wc} {v : Wr} (hat : WireAt g w p v) (hl : v.b.length ≤ 1000) :
    Calls Try.prog 18 #[vW p] w fun e w' => ∃ y k, e = .returned (vW ⟨v.sw, v.up, y, v.b.length, k⟩) ∧ (∀ x, y = some x → w.heap.size ≤ x.block) ∧ WireAt none w' ⟨v.sw, v.up, y, v.b.length, k⟩ v ∧ Below w.heap.size w w' := by
  obtain ⟨s, u, x, n, c⟩ := p
  obtain ⟨e1, e2, hwf, e3, R, -⟩ := hat
  dsimp only at e1 e2 e3 R
  subst e1; subst e2; subst e3
  have hb0 := below_new w (.cells #[.int .i64 v.sw, .bool v.up, .slice x v.b.length c] 25)
  obtain ⟨z0, z1, z2⟩ := boxW w (.int .i64 v.sw) (.bool v.up) (.slice x v.b.length c) 25
  have zf : ∀ j, (w.alloc (.cells #[.int .i64 v.sw, .bool v.up, .slice x v.b.length c] 25)).frozen? ⟨w.heap.size, j, none⟩ = false := fun j => by unfold World.frozen?; rw [heap_alloc_new]; simp
  have zl : w.heap.size < (w.alloc (.cells #[.int .i64 v.sw, .bool v.up, .slice x v.b.length c] 25)).heap.size := by simp
  have es : (w.alloc (.cells #[.int .i64 v.sw, .bool v.up, .slice x v.b.length c] 25)).heap.size = w.heap.size + 1 := by simp
  have R1 := R.later hb0
  generalize hW : w.alloc (.cells #[.int .i64 v.sw, .bool v.up, .slice x v.b.length c] 25) = W1 at hb0 z0 z1 z2 zf zl es R1
  have hb1 := below_new W1 (.cells #[.int .i64 0, .bool false, .slice none 0 0] 25)
  have y0 := boxW W1 (.int .i64 0) (.bool false) (.slice none 0 0) 25
  have yf : ∀ j, (W1.alloc (.cells #[.int .i64 0, .bool false, .slice none 0 0] 25)).frozen? ⟨W1.heap.size, j, none⟩ = false := fun j => by unfold World.frozen?; rw [heap_alloc_new]; simp
  have yl : W1.heap.size < (W1.alloc (.cells #[.int .i64 0, .bool false, .slice none 0 0] 25)).heap.size := by simp
  rw [es] at y0 yf yl
  have BX : BoxAt (w.heap.size + 1) (W1.alloc (.cells #[.int .i64 0, .bool false, .slice none 0 0] 25)) := ⟨yl, ⟨_, y0.1⟩, ⟨_, y0.2.1⟩, ⟨_, y0.2.2⟩, yf⟩
  have BY : BoxAt w.heap.size (W1.alloc (.cells #[.int .i64 0, .bool false, .slice none 0 0] 25)) := (BoxAt.mk zl ⟨_, z0⟩ ⟨_, z1⟩ ⟨_, z2⟩ zf).later hb1
  have t0 := (hb1.cell (p := ⟨w.heap.size, 0, none⟩) zl).trans z0
  have t1 := (hb1.cell (p := ⟨w.heap.size, 1, none⟩) zl).trans z1
  have t2 := (hb1.cell (p := ⟨w.heap.size, 2, none⟩) zl).trans z2
  have R2 := R1.later hb1
  have hbx := below_step hb0 hb1
  generalize hX : W1.alloc (.cells #[.int .i64 0, .bool false, .slice none 0 0] 25) = W2 at hbx hb1 y0 yf yl BX BY t0 t1 t2 R2
  have cB := cloneB_any W2 R2 rfl hl
  subst hW
  clear R R1 hb0 hb1 y0 yf yl z0 z1 z2 zf zl
  have HES : Hid _ := es
  clear es
  go_enter Try.func18, Try.ntmps18
  go_wp2_with fail
  refine cB.mono ?_
  clear cB
  rintro e w3 ⟨y, k, rfl, RY, hY, hb3⟩
  have u0 := (hb3.cell (p := ⟨w.heap.size, 0, none⟩) BY.lt).trans t0
  have u1 := (hb3.cell (p := ⟨w.heap.size, 1, none⟩) BY.lt).trans t1
  have u2 := (hb3.cell (p := ⟨w.heap.size, 2, none⟩) BY.lt).trans t2
  replace hY : ∀ z, y = some z → w.heap.size + 2 ≤ z.block := fun z e => Nat.le_trans BX.lt (hY z e)
  replace BX := BX.later hb3
  replace BY := BY.later hb3
  replace hY := hid_in hY
  replace hbx := below_step hbx hb3
  clear hb3 t0 t1 t2 hX HES R2 W2
  have yf := BY.fz
  obtain ⟨xl, ⟨a0, x0⟩, ⟨a1, x1⟩, ⟨a2, x2⟩, xf⟩ := BX
  have yl := BY.lt
  clear BY
  go_wp2_with fail
  have ne : ∀ i, (⟨w.heap.size, 2, none⟩ : Addr) ≠ ⟨w.heap.size + 1, i, none⟩ := fun i e => by have := congrArg Addr.block e; simp at this
  obtain ⟨f0, f1, f2⟩ := cells_put3 (w := w3.setCell ⟨w.heap.size, 2, none⟩ (.slice y v.b.length k)) (b := w.heap.size + 1) ((World.cell?_setCell_other _ _ _ _ (ne 0)).trans x0) ((World.cell?_setCell_other _ _ _ _ (ne 1)).trans x1) ((World.cell?_setCell_other _ _ _ _ (ne 2)).trans x2) (.int .i64 v.sw) (.bool v.up) (.slice y v.b.length k)
  have hb5 := below_put3 (hbx.setCell (p := ⟨w.heap.size, 2, none⟩) (Nat.le_refl _) (.slice y v.b.length k)) (b := w.heap.size + 1) (Nat.le_succ _) (.int .i64 v.sw) (.bool v.up) (.slice y v.b.length k)
  have hk : Keeps (fun j => j < w.heap.size + 2) w3 (put3 (w3.setCell ⟨w.heap.size, 2, none⟩ (.slice y v.b.length k)) (w.heap.size + 1) (.int .i64 v.sw) (.bool v.up) (.slice y v.b.length k)) :=
    (((((Keeps.refl (fun j => j < w.heap.size + 2) w3).setCell (p := ⟨w.heap.size, 2, none⟩) (fun _ => by show w.heap.size < _; omega) _).setCell (p := ⟨w.heap.size + 1, 0, none⟩) (fun _ => Nat.lt_succ_self _) _).setCell (p := ⟨w.heap.size + 1, 1, none⟩) (fun _ => Nat.lt_succ_self _) _).setCell (p := ⟨w.heap.size + 1, 2, none⟩) (fun _ => Nat.lt_succ_self _) _)
  have RY2 := RY.kept hk (fun z e _ h => by have h1 := hY.out z e; omega)
  generalize hV : put3 (w3.setCell ⟨w.heap.size, 2, none⟩ (.slice y v.b.length k)) (w.heap.size + 1) (.int .i64 v.sw) (.bool v.up) (.slice y v.b.length k) = V9 at f0 f1 f2 hb5 RY2
  unfold put3 at hV
  rw [hV]
  refine bodyPost_ret (v := vW ⟨v.sw, v.up, y, v.b.length, k⟩) (by simp [results, Try.results18, go_sem, f0, f1, f2]) rfl ?_
  exact ⟨y, k, rfl, fun z e => Nat.le_trans (Nat.le_add_right _ _) (hY.out z e), ⟨rfl, rfl, hwf, rfl, RY2, fun _ _ _ e => (nomatch e)⟩, hb5⟩
section
variable {B : Nat} {w W w' : World} {u : Value} {L : List Wr} {k : Nat}
/-- the row is laid whole; the bytes of its first k wires have been copied -/
def WK (B : Nat) (w : World) (u : Value) (L : List Wr) (k : Nat) : Prop :=
  ∃ qs, w.ownsRow B 25 3 u L.length (flatW fW qs) ∧ All2 (WireAt u.ownBlock w) qs L ∧ ∀ i q x, i < k → qs[i]? = some q → q.x = some x → B ≤ x.block
theorem WK.zero {ps : List Wc} {w0 : World} (own : w.ownsRow w0.heap.size 25 3 u L.length (flatW fW ps)) (ha : All2 (WireAt none w0) ps L) (hb : Below w0.heap.size w0 w) : WK w0.heap.size w u L 0 :=
  ⟨ps, own, all2_imp ha fun _ _ hv => (hv.far fun k e => (own.lt k e).1).later hb, fun i q x h => absurd h (Nat.not_lt_zero _)⟩
theorem WK.later (h : WK B w u L k) (hb : Below w.heap.size w w') : WK B w' u L k := by
  obtain ⟨qs, h1, h2, h3⟩ := h
  exact ⟨qs, own_laterW h1 hb, all2_imp h2 fun _ _ hv => hv.later hb, h3⟩
theorem WK.form (h : WK B w u L k) : ∃ a c, u = .slice a L.length c := by
  obtain ⟨qs, h1, h2, h3⟩ := h
  obtain ⟨a, c, e, -⟩ := rdv_of_owns fW_len h1 (all2_len h2)
  exact ⟨a, c, e⟩
theorem WK.done (h : WK B w u L k) (hk : k = L.length) : ∃ a c, u = .slice a L.length c ∧ ∀ g, Low B g → Wires g w a c L := by
  obtain ⟨qs, h1, h2, h3⟩ := h
  obtain ⟨a, c, e, R, hlo⟩ := rdv_of_owns2 fW_len h1 (all2_len h2)
  refine ⟨a, c, e, fun g hg => ⟨qs, R, fun y hy _ e2 => ?_, all2_ofW (all2_len h2) fun i q v hq hv => ?_⟩⟩
  · have h4 := (hlo y hy).1
    have h5 := hg _ e2
    omega
  · have hat := all2_atW h2 hq hv
    refine ⟨hat.sw, hat.up, hat.wf, hat.n, hat.R, fun y hy _ e2 => ?_⟩
    have h4 := h3 i q y (by rw [hk]; exact (List.getElem?_eq_some_iff.1 hv).1) hq hy
    have h5 := hg _ e2
    omega
/-- a wire's three cells in a row, written anew -/
def put3at (w : World) (g o : Nat) (x0 x1 x2 : Value) : World := ((w.setCell ⟨g, o, none⟩ x0).setCell ⟨g, o + 1, none⟩ x1).setCell ⟨g, o + 2, none⟩ x2
theorem flatW_set3 (ps : List Wc) (k : Nat) (q : Wc) (hk : k < ps.length) : (((flatW fW ps).set (k * 3) (.int .i64 q.sw)).set (k * 3 + 1) (.bool q.up)).set (k * 3 + 2) (.slice q.x q.n q.c) = flatW fW (ps.set k q) := by
  induction ps generalizing k with
  | nil => simp at hk
  | cons s rs ih =>
    have e : flatW fW (s :: rs) = .int .i64 s.sw :: .bool s.up :: .slice s.x s.n s.c :: flatW fW rs := rfl
    cases k with
    | zero => rfl
    | succ k =>
      have h := ih k (Nat.lt_of_succ_lt_succ hk)
      have e1 : (k + 1) * 3 = k * 3 + 1 + 1 + 1 := by omega
      have e2 : k * 3 + 1 + 1 + 1 + 1 = k * 3 + 1 + 1 + 1 + 1 := rfl
      have e3 : k * 3 + 1 + 1 + 1 + 2 = k * 3 + 2 + 1 + 1 + 1 := by omega
      rw [e, e1, e3]
      exact congrArg (fun z => Value.int .i64 s.sw :: Value.bool s.up :: Value.slice s.x s.n s.c :: z) h
theorem grown3 {w w' w2 : World} {row : Option Nat} (h : w.grownBy w' row) (h2 : w'.grownBy w2 row) : w.grownBy w2 row :=
  ⟨h2.os.trans h.os, h2.tape.trans h.tape, h2.output.trans h.output, Nat.le_trans h.size h2.size, fun k hk hn => (h2.block k (Nat.lt_of_lt_of_le hk h.size) hn).trans (h.block k hk hn)⟩
/-- the next wire: its cells, and what the row is when its bytes have been copied -/
theorem WK.next (h : WK B w u L k) {v : Wr} (hv : L[k]? = some v) :
    ∃ (g cap : Nat) (x : Option Addr) (c : Nat), u = .slice (some ⟨g, 0, none⟩) L.length cap ∧ B ≤ g ∧ g < w.heap.size ∧ w.cell? ⟨g, k * 3, none⟩ = some (.int .i64 v.sw) ∧ w.cell? ⟨g, k * 3 + 1, none⟩ = some (.bool v.up) ∧ w.cell? ⟨g, k * 3 + 2, none⟩ = some (.slice x v.b.length c) ∧ (∀ j, w.frozen? ⟨g, j, none⟩ = false) ∧ WireAt none w ⟨v.sw, v.up, x, v.b.length, c⟩ v ∧
    (∀ (W : World) (y : Option Addr) (m : Nat), Below w.heap.size w W → WireAt none W ⟨v.sw, v.up, y, v.b.length, m⟩ v → (∀ z, y = some z → w.heap.size ≤ z.block) →
      WK B (put3at W g (k * 3) (.int .i64 v.sw) (.bool v.up) (.slice y v.b.length m)) u L (k + 1) ∧ W.grownBy (put3at W g (k * 3) (.int .i64 v.sw) (.bool v.up) (.slice y v.b.length m)) (some g)) := by
  obtain ⟨qs, h1, h2, h3⟩ := h
  have hk : k < L.length := (List.getElem?_eq_some_iff.1 hv).1
  have hkq : k < qs.length := by rw [all2_len h2]; exact hk
  obtain ⟨q, hq⟩ : ∃ q, qs[k]? = some q := ⟨qs[k], List.getElem?_eq_getElem hkq⟩
  have hat := all2_atW h2 hq hv
  have hE := hat.eta
  rcases h1.2 with ⟨rfl, h0⟩ | ⟨g, cap, cur, rfl, hbg, hg, hle, hrest⟩
  · omega
  have hgl : g < w.heap.size := (Array.getElem?_eq_some_iff.1 hg).1
  have f0 := flatW_get fW_len hq (j := 0) (y := .int .i64 q.sw) rfl
  have f1 := flatW_get fW_len hq (j := 1) (y := .bool q.up) rfl
  have f2 := flatW_get fW_len hq (j := 2) (y := .slice q.x q.n q.c) rfl
  refine ⟨g, cap, q.x, q.c, rfl, hbg, hgl, ?_, ?_, ?_, fun j => h1.frozenAt j, hE ▸ hat.loose, fun W y m hb hw hy => ?_⟩
  · rw [h1.cellAt _ (by omega), ← hat.sw]; exact f0
  · rw [h1.cellAt _ (by omega), ← hat.up]; exact f1
  · rw [h1.cellAt _ (by omega), ← hat.n]; exact f2
  · have own1 := own_laterW h1 hb
    obtain ⟨o0, g0⟩ := own1.stored (k * 3) (.int .i64 v.sw)
    obtain ⟨o1, g1⟩ := o0.stored (k * 3 + 1) (.bool v.up)
    obtain ⟨o2, g2⟩ := o1.stored (k * 3 + 2) (.slice y v.b.length m)
    have hgr := grown3 (grown3 g0 g1) g2
    rw [flatW_set3 qs k ⟨v.sw, v.up, y, v.b.length, m⟩ hkq] at o2
    refine ⟨⟨qs.set k ⟨v.sw, v.up, y, v.b.length, m⟩, o2, ?_, fun i q2 x hi hq2 hx => ?_⟩, hgr⟩
    · refine all2_ofW (by rw [List.length_set]; exact all2_len h2) fun i q2 v2 hq2 hv2 => ?_
      rw [List.getElem?_set] at hq2
      by_cases hik : k = i
      · subst hik
        rw [if_pos rfl, if_pos hkq] at hq2
        cases hq2
        rw [hv] at hv2
        cases hv2
        have hne : ∀ z, y = some z → z.block ≠ g := fun z e h => by have := hy z e; omega
        refine ⟨rfl, rfl, hw.wf, rfl, hw.R.kept (keeps_of_grown hgr) (fun z e _ h => hne z e (by cases h; rfl)), fun z e _ h => hne z e (by cases h; rfl)⟩
      · rw [if_neg hik] at hq2
        exact ((all2_atW h2 hq2 hv2).later hb).turn (keeps_of_grown hgr) (fun k e => .inl e)
    · rw [List.getElem?_set] at hq2
      by_cases hik : k = i
      · subst hik
        rw [if_pos rfl, if_pos hkq] at hq2
        cases hq2
        have := hy x hx
        omega
      · rw [if_neg hik] at hq2
        exact h3 i q2 x (by omega) hq2 hx
end
set_option maxRecDepth 100000 in
set_option maxHeartbeats 4000000 in
theorem copiedW_any (w : World) {g : Option Nat} {a : Option Addr} {c n : Nat} {L : List Wr} (V : Wires g w a c L) (hn : L.length = n) (hl : Bw 1000 1000 L) :
    Calls Try.prog 16 #[.slice a n c] w fun e w' => ∃ y k, e = .returned (.slice y n k) ∧ (∀ g, Low w.heap.size g → Wires g w' y k L) ∧ Below w.heap.size w w' := by
  subst hn
  have hmx := Nat.le_trans V.le V.max
  unfold maxLen at hmx
  have HL : Hid (Bw 1000 1000 L) := hl
  obtain ⟨ps, Rp, -, hall⟩ := V.loose
  have cV := cloneW_any w Rp (all2_len hall) hl.1
  have HALL : Hid (All2 (WireAt none w) ps L) := hall
  clear V Rp hl hall
  go_enter Try.func16, Try.ntmps16
  go_wp2_with fail
  refine cV.mono ?_
  clear cV
  rintro e w1 ⟨u, rfl, own1, hb1⟩
  have M1 : WK w.heap.size w1 u L 0 := WK.zero own1 HALL.out hb1
  obtain ⟨a1, c1, rfl⟩ := M1.form
  clear own1 HALL
  go_wp2_with fail
  go_loopw [10] (fun vi wr => ∃ k : Nat, vi = .int .i64 (k : Nat) ∧ Hid (k ≤ L.length) ∧ WK w.heap.size wr (.slice a1 L.length c1) L k ∧ Below w.heap.size w wr) (fun vi _ => L.length - (intOf vi).toNat)
  case atStart => exact ⟨0, rfl, Nat.zero_le _, M1, hb1⟩
  case round =>
    obtain ⟨k, rfl, HK, M, hbr⟩ := hrel
    by_cases hlt : k < L.length
    · have hkz : (k : Int) < (L.length : Int) := Int.ofNat_lt.2 hlt
      obtain ⟨v, gk⟩ := getW hlt
      have hvb := HL.out.2 v (List.mem_of_getElem? gk)
      have HLT : Hid (k < L.length) := hlt
      obtain ⟨g, cap, x, c2, e, hbg, hgl, d0, d1, d2, fz, hat, hput⟩ := M.next gk
      injection e with e1 e2 e3
      subst e1
      have hn := below_new wr (.cells #[.int .i64 v.sw, .bool v.up, .slice x v.b.length c2] 25)
      have cR := own_any (wr.alloc (.cells #[.int .i64 v.sw, .bool v.up, .slice x v.b.length c2] 25)) (hat.later hn) hvb
      have HPUT : Hid _ := hput
      clear hlt gk HK M hat hput e3 hvb
      go_wp2_with fail
      refine cR.mono ?_
      clear cR
      rintro e w3 ⟨y, m, rfl, hy, hat3, hb3⟩
      have hb4 := below_step hn hb3
      have t0 := (hb4.cell (p := ⟨g, k * 3, none⟩) hgl).trans d0
      have t1 := (hb4.cell (p := ⟨g, k * 3 + 1, none⟩) hgl).trans d1
      have t2 := (hb4.cell (p := ⟨g, k * 3 + 2, none⟩) hgl).trans d2
      have tf := fun j => (hb4.frozen (p := ⟨g, j, none⟩) hgl).trans (fz j)
      obtain ⟨M2, hg2⟩ := HPUT.out w3 y m hb4 hat3 (fun z e => Nat.le_trans hn.size (hy z e))
      have hb5 := (below_step hbr hb4).grown hg2 (below_step hbr hb4).size (fun k hk => by cases hk; exact hbg)
      clear HPUT hb3 hn d0 d1 d2 fz hb4 hg2 hat3 hy
      unfold put3at at M2 hb5
      go_wp2_with fail
      go_roundw
      case rel => exact ⟨k + 1, by go_num, HLT.out, M2, hb5⟩
      case measure => have h := HLT.out; simp [intOf]; omega
    · have hke : k = L.length := by have h := HK.out; omega
      have hkz : ¬ (k : Int) < (L.length : Int) := by omega
      obtain ⟨a2, c2, e2, hW⟩ := M.done hke
      injection e2 with e2 e3 e4
      subst e2; subst e4
      have HW : Hid _ := hW
      clear HK hke hlt M hW
      go_wp2_with fail
      go_ret
      exact ⟨_, _, rfl, HW.out, hbr⟩
theorem below_noneW {w w' : World} (h : w.grownBy w' none) : Below w.heap.size w w' := ⟨h.os, h.tape, h.output, h.size, fun k hk => h.block k hk (fun e => by cases e)⟩
set_option maxRecDepth 100000 in
set_option maxHeartbeats 4000000 in
theorem joined_any (w : World) {g g' : Option Nat} {a b : Option Addr} {c d n m : Nat} {L M : List Wr} (V : Wires g w a c L) (X : Wires g' w b d M) (hn : L.length = n) (hm : M.length = m) (hl : n + m ≤ 100000) (h : M = [] → (∃ x o, a = some ⟨x, o, none⟩) ∧ ∃ z, b = some z) :
    Calls Try.prog 17 #[.slice a n c, .slice b m d] w fun e w' => ∃ y k, e = .returned (.slice y (n + m) k) ∧ Wires none w' y k (L ++ M) ∧ Below w.heap.size w w' := by
  have hle : n ≤ c := hn ▸ V.le
  have hmx := Nat.le_trans V.le V.max
  rw [hn] at hmx
  unfold maxLen at hmx
  obtain ⟨ps, R, -, hall⟩ := V.loose
  obtain ⟨qs, Q, -, hbll⟩ := X.loose
  have HP : Hid (ps.length = n) := (all2_len hall).trans hn
  have HQ : Hid (qs.length = m) := (all2_len hbll).trans hm
  have HA : Hid (All2 (WireAt none w) (ps ++ qs) (L ++ M)) := all2_app hall hbll
  have HNM : Hid (n + m = (L ++ M).length) := by show _ = _; rw [List.length_append, hn, hm]
  have hnil := R.nil
  obtain ⟨i0, hi, hz0, hz1, hz2⟩ := info_parts infoW
  have bt : ∀ k, k ≤ 100000 → k * 40 ≤ 140737488355328 := fun k hk => by omega
  by_cases hM : M = []
  · obtain ⟨⟨x, o, rfl⟩, ⟨z, rfl⟩⟩ := h hM
    subst hM
    obtain rfl : qs = [] := List.eq_nil_of_length_eq_zero (by have := HQ.out; simpa [← hm] using this)
    obtain rfl : m = 0 := hm.symm
    clear V X hall hbll hn hm h HQ
    go_enter Try.func17, Try.ntmps17
    go_wp2_with (at_builtin; refine wpList_append_arg _ rfl (.tmp 10) (.tmp 11) 22 rfl 25 i0 _ 3 40 Try.underlying22 hi hz0 hz1 hz2 rfl (by decide) x o n n (flatW fW ps) rfl (by rw [flatW_len fW_len, HP.out]) (fun j u hj => by have h9 := cells_of_rdv fW_len R j u hj; rwa [Addr.add_lit] at h9) z 0 d [] rfl rfl (fun j u hj => by simp at hj) (fun u hu => by simp at hu) (fun _ j hj => by simp at hj) (by unfold maxLen; omega) (bt _ (by omega)) (fun _ => ?_) (fun h9 => absurd h9 (by omega)))
    go_ret
    refine ⟨some ⟨x, o, none⟩, n, rfl, ⟨ps ++ [], ⟨?_, ?_, fun e => (nomatch e), ?_⟩, fun _ _ _ e => (nomatch e), HA.out⟩, Below.refl _ _⟩
    · rw [List.append_nil, HP.out]; exact Nat.le_refl _
    · exact Nat.le_trans hle R.max
    · rw [List.append_nil]; exact R.cells
  · obtain ⟨z, rfl⟩ : ∃ z, b = some z := by
      obtain ⟨_, _, e, -⟩ := Q.cells (by intro e; subst e; have := HQ.out; exact hM (List.eq_nil_of_length_eq_zero (by rw [hm, ← this]; rfl)))
      exact ⟨_, e⟩
    have hm0 : 0 < m := by rw [← hm]; exact Nat.pos_of_ne_zero fun e => hM (List.eq_nil_of_length_eq_zero e)
    clear V X hall hbll hn hm h hM
    go_enter Try.func17, Try.ntmps17
    go_wp2_with (at_builtin; refine wpList_append_grows _ rfl (.tmp 10) (.tmp 11) 22 rfl 25 i0 _ 3 40 Try.underlying22 hi hz0 hz1 hz2 rfl (by decide) a n n (flatW fW ps) rfl (fun e => by have := hnil e; omega) (by rw [flatW_len fW_len, HP.out]) (fun b0 e j u hj => by subst e; exact cells_of_rdv fW_len R j u hj) z m d (flatW fW qs) rfl (by rw [flatW_len fW_len, HQ.out]) (cells_of_rdv fW_len Q) (flatW_one fW_one) (by omega) (by unfold maxLen; omega) (bt _ (by omega)) (fun v4 w4 own4 hg4 => ?_))
    rw [← flatW_append] at own4
    go_ret
    obtain ⟨y, k, rfl, RY⟩ := rdv_of_owns fW_len own4 (by rw [List.length_append, HP.out, HQ.out])
    exact ⟨y, k, rfl, ⟨ps ++ qs, RY, fun _ _ _ e => (nomatch e), all2_imp HA.out fun _ _ h => h.later (below_noneW hg4)⟩, below_noneW hg4⟩
set_option maxRecDepth 100000 in
set_option maxHeartbeats 4000000 in
theorem withoutC_any (w : World) {g : Option Nat} {a : Option Addr} {c j : Nat} {L : List Wr} (V : Wires g w a c L) (hj : j < L.length) (hl : L.length ≤ 100000) :
    Calls Try.prog 19 #[.slice a L.length c, .int .i64 (j : Nat)] w fun e w' => ∃ y k, e = .returned (.slice y (L.eraseIdx j).length k) ∧ Wires none w' y k (L.eraseIdx j) ∧ Below w.heap.size w w' := by
  have hle := V.le
  have hmx := Nat.le_trans V.le V.max
  unfold maxLen at hmx
  obtain ⟨v, hv⟩ := getW hj
  obtain ⟨b, o, x, m, rfl, -⟩ := V.at hv
  clear hv
  have cJ : ∀ u, Below w.heap.size w u → Calls Try.prog 17 #[.slice (some ⟨b, o, none⟩) j c, .slice (if c = j + 1 then some ⟨b, o, none⟩ else some (Addr.add ⟨b, o, none⟩ ((j + 1) * 3))) (L.length - (j + 1)) (c - (j + 1))] u fun e w' => ∃ y k, e = .returned (.slice y (L.eraseIdx j).length k) ∧ Wires none w' y k (L.eraseIdx j) ∧ Below u.heap.size u w' := fun u hu => by
    obtain ⟨ps, R, -, hall⟩ := (V.loose).later hu
    have hps := all2_len hall
    have V1 : Wires none u (some ⟨b, o, none⟩) c (L.take j) := ⟨ps.take j, R.take j, fun _ _ _ e => (nomatch e), all2_takeW hall j⟩
    have V2 : Wires none u _ (c - (j + 1)) (L.drop (j + 1)) := ⟨ps.drop (j + 1), R.drop (j + 1) (by omega), fun _ _ _ e => (nomatch e), all2_dropW hall (j + 1)⟩
    have h := joined_any u V1 V2 (n := j) (m := L.length - (j + 1)) (by rw [List.length_take]; omega) (List.length_drop) (by omega) (fun _ => ⟨⟨b, o, rfl⟩, by split <;> exact ⟨_, rfl⟩⟩)
    rw [erase_take hj, List.length_append, List.length_take, List.length_drop, Nat.min_eq_left (Nat.le_of_lt hj)]
    exact h
  have hj1 : IntKind.i64.wrap ((j : Int) + 1) = (j : Int) + 1 := by rw [IntKind.wrap_i64]; omega
  have hjz : (j : Int) + 1 ≤ (L.length : Int) := by omega
  have hj0 : (0 : Int) ≤ (j : Int) := Int.natCast_nonneg _
  have hjc : (j : Int) ≤ (c : Int) := by omega
  have hlc : (L.length : Int) ≤ (c : Int) := by omega
  have hjc2 : j ≤ c := by omega
  have hj2 : j + 1 ≤ L.length := hj
  have hjn : ((j : Int) + 1).toNat = j + 1 := by omega
  obtain ⟨z, hz⟩ : ∃ z : Option Addr, (if c = j + 1 then some ⟨b, o, none⟩ else some ⟨b, o + (j + 1) * 3, none⟩) = z := ⟨_, rfl⟩
  rw [Addr.add_lit, hz] at cJ
  have HC : Hid _ := cJ
  have hj9 : (0 : Int) ≤ (j : Int) + 1 := by omega
  clear cJ V
  go_enter Try.func19, Try.ntmps19
  go_wp2_with fail
  have S0 : Below w.heap.size w w.drew := (Below.refl _ _).drew
  refine wp_region_noPanic ?_
  refine wp_region_held_drew (S := fun w' => Below w.heap.size w w') (by kernel_rfl) S0 (fun hH => ?_)
  clear S0
  refine wpAnyH_take (i := 0) (oi := { dst := some 5, op := _, type := _, pos := _, after := _, guard := _ }) (v := ?_) rfl (by kernel_rfl) (by kernel_rfl) (by kernel_rfl) (fun _ _ _ h => h) (Or.inl ⟨by rfl, ?_⟩) hH ?_
  rotate_left
  · intro wz hSw
    (try dsimp only at hSw)
    first | (go_simp; done) | (go_simp; with_reducible rfl)
  try simp only [Act.put, List.setIfInBounds_toArray, List.set_cons_zero, List.set_cons_succ]
  refine wpAnyH_take (i := 1) (oi := { dst := some 6, op := _, type := _, pos := _, after := _, guard := _ }) (v := ?_) rfl (by kernel_rfl) (by kernel_rfl) (by kernel_rfl) (fun _ _ _ h => h) (Or.inl ⟨by rfl, ?_⟩) hH ?_
  rotate_left
  · intro wz hSw
    (try dsimp only at hSw)
    first | (go_simp; done) | (go_simp; with_reducible rfl)
  try simp only [Act.put, List.setIfInBounds_toArray, List.set_cons_zero, List.set_cons_succ]
  refine wpAnyH_take (i := 2) (oi := { dst := some 7, op := _, type := _, pos := _, after := _, guard := _ }) (v := ?_) rfl (by kernel_rfl) (by kernel_rfl) (by kernel_rfl) (fun _ _ _ h => h) (Or.inl ⟨by rfl, ?_⟩) hH ?_
  rotate_left
  · intro wz hSw
    (try dsimp only at hSw)
    first | (go_simp; done) | (go_simp; with_reducible rfl)
  try simp only [Act.put, List.setIfInBounds_toArray, List.set_cons_zero, List.set_cons_succ]
  refine wpAnyH_take (i := 3) (oi := { dst := some 8, op := _, type := _, pos := _, after := _, guard := _ }) (v := ?_) rfl (by kernel_rfl) (by kernel_rfl) (by kernel_rfl) (fun _ _ _ h => h) (Or.inl ⟨by rfl, ?_⟩) hH ?_
  rotate_left
  · intro wz hSw
    (try dsimp only at hSw)
    first | (go_simp; done) | (go_simp; with_reducible rfl)
  try simp only [Act.put, List.setIfInBounds_toArray, List.set_cons_zero, List.set_cons_succ]
  refine wpAnyH_take (i := 4) (oi := { dst := some 9, op := _, type := _, pos := _, after := _, guard := _ }) (v := ?_) rfl (by kernel_rfl) (by kernel_rfl) (by kernel_rfl) (fun _ _ _ h => h) (Or.inl ⟨by rfl, ?_⟩) hH ?_
  rotate_left
  · intro wz hSw
    (try dsimp only at hSw)
    first | (go_simp; done) | (go_simp; with_reducible rfl)
  try simp only [Act.put, List.setIfInBounds_toArray, List.set_cons_zero, List.set_cons_succ]
  refine wpAnyH_take (i := 5) (oi := { dst := some 10, op := _, type := _, pos := _, after := _, guard := _ }) (v := ?_) rfl (by kernel_rfl) (by kernel_rfl) (by kernel_rfl) (fun _ _ _ h => h) (Or.inl ⟨by rfl, ?_⟩) hH ?_
  rotate_left
  · intro wz hSw
    (try dsimp only at hSw)
    first | (go_simp; done) | (go_simp; with_reducible rfl)
  try simp only [Act.put, List.setIfInBounds_toArray, List.set_cons_zero, List.set_cons_succ]
  refine wpAnyH_take (i := 6) (oi := { dst := some 11, op := _, type := _, pos := _, after := _, guard := _ }) (v := .slice z (L.length - (j + 1)) (c - (j + 1))) rfl (by kernel_rfl) (by kernel_rfl) (by kernel_rfl) (fun _ _ _ h => h) (Or.inl ⟨by rfl, ?_⟩) hH ?_
  · intro wz hSw
    (try dsimp only at hSw)
    first | (go_simp; done) | (go_simp; with_reducible rfl)
  try simp only [Act.put, List.setIfInBounds_toArray, List.set_cons_zero, List.set_cons_succ]
  clear hz hj9 hjc hlc hjc2 hj2 hjn hj1 hjz
  refine wpAnyH_ready (rs := [7]) (by kernel_rfl) (by simp) ?_
  refine AllReadyH.cons (o := { dst := some 12, op := _, type := _, pos := _, after := _, guard := _ }) rfl (fun K hK => ?_) AllReadyH.nil
  go_simp
  refine (HC.out _ hH).mono ?_
  rintro e wq7 ⟨y, k, rfl, V, hbq⟩
  go_wp2_with fail
  refine hK.out _ _ (below_step hH hbq) (fun hH2 => ?_)
  clear hK K hH hbq
  have hH := hH2
  clear hH2
  try simp only [Act.put, List.setIfInBounds_toArray, List.set_cons_zero, List.set_cons_succ]
  refine wpAnyH_take (i := 8) (oi := { dst := some 4, op := _, type := _, pos := _, after := _, guard := _ }) (v := ?_) rfl (by kernel_rfl) (by kernel_rfl) (by kernel_rfl) (fun _ _ _ h => h) (Or.inl ⟨by rfl, ?_⟩) hH ?_
  rotate_left
  · intro wz hSw
    (try dsimp only at hSw)
    first | (go_simp; done) | (go_simp; with_reducible rfl)
  try simp only [Act.put, List.setIfInBounds_toArray, List.set_cons_zero, List.set_cons_succ]
  refine wpAnyH_done (by kernel_rfl) ?_ _
  refine NoPanic.normal ?_
  go_wp2_with fail
  go_ret
  exact ⟨y, k, rfl, V, hH⟩
/-! Send and Fate. -/
set_option maxRecDepth 100000 in
set_option maxHeartbeats 4000000 in
theorem sendC_full (w : World) {u : Option Nat} {a : Option Addr} {c : Nat} {L : List Wr} {p : Wc} (V : Wires u w a c L) (hL : Bw 100 300 L) (hu : ∀ k, u = some k → k < w.heap.size) (h : ¬ L.length < 60) :
    Calls Try.prog 10 #[.slice a L.length c, vW p] w fun e w' => ∃ y k, e = .returned (.tuple #[.slice y L.length k, .bool false]) ∧ Wires u w' y k L ∧ Below w.heap.size w w' := by
  have hmx := Nat.le_trans V.le V.max
  unfold maxLen at hmx
  have hz : (60 : Int) ≤ (L.length : Int) := by omega
  have hb0 := below_new w (.cells #[.int .i64 p.sw, .bool p.up, .slice p.x p.n p.c] 25)
  have cC := copiedW_any _ (V.later hb0) rfl ⟨Nat.le_trans hL.1 (by decide), fun x hx => Nat.le_trans (hL.2 x hx) (by decide)⟩
  have HU : Hid _ := hu
  clear V hL hu h
  go_enter Try.func10, Try.ntmps10
  go_wp2_with fail
  refine cC.mono ?_
  clear cC
  rintro e w1 ⟨y, k, rfl, hW, hb⟩
  have HW : Hid _ := hW
  clear hW
  go_wp2_with fail
  go_ret2
  exact ⟨y, k, rfl, HW.out u (fun k e => Nat.lt_of_lt_of_le (HU.out k e) hb0.size), below_step hb0 hb⟩
set_option maxRecDepth 100000 in
set_option maxHeartbeats 4000000 in
theorem sendC_room (w : World) {u g' : Option Nat} {a : Option Addr} {c : Nat} {L : List Wr} {p : Wc} {v : Wr} (V : Wires u w a c L) (hat : WireAt g' w p v) (hL : Bw 100 300 L) (hv : v.b.length ≤ 300) (hu : ∀ k, u = some k → k < w.heap.size) (h : L.length < 60) :
    Calls Try.prog 10 #[.slice a L.length c, vW p] w fun e w' => ∃ y k, e = .returned (.tuple #[.slice y (L ++ [v]).length k, .bool true]) ∧ Wires u w' y k (L ++ [v]) ∧ Below w.heap.size w w' := by
  have hmx := Nat.le_trans V.le V.max
  unfold maxLen at hmx
  have hz : (L.length : Int) < 60 := by omega
  have hb0 := below_new w (.cells #[.int .i64 p.sw, .bool p.up, .slice p.x p.n p.c] 25)
  obtain ⟨z0, z1, z2⟩ := boxW w (.int .i64 p.sw) (.bool p.up) (.slice p.x p.n p.c) 25
  have V0 := V.loose.later hb0
  have hat0 := hat.loose.later hb0
  generalize hW : w.alloc (.cells #[.int .i64 p.sw, .bool p.up, .slice p.x p.n p.c] 25) = W at hb0 z0 z1 z2 V0 hat0
  have hb1 := below_new W (.cells #[.int .i64 p.sw, .bool p.up, .slice p.x p.n p.c] 25)
  have X : Wires none (W.alloc (.cells #[.int .i64 p.sw, .bool p.up, .slice p.x p.n p.c] 25)) (some ⟨W.heap.size, 0, none⟩) 1 [v] :=
    ⟨[p], rdv_new (f := fW) fW_len W p 25 rfl, fun _ _ _ e => (nomatch e), .cons (hat0.later hb1) .nil⟩
  have cJ := joined_any _ (V0.later hb1) X (n := L.length) (m := 1) rfl rfl (by have := hL.1; omega) (fun e => (nomatch e))
  have hb2 := below_step hb0 hb1
  generalize hY : W.alloc (.cells #[.int .i64 p.sw, .bool p.up, .slice p.x p.n p.c] 25) = W2 at hb2 cJ
  have HU : Hid _ := hu
  have HB : Hid (Bw 1000 1000 (L ++ [v])) := ⟨by rw [List.length_append]; have := hL.1; simp; omega, fun x hx => by
    rcases List.mem_append.1 hx with h1 | h1
    · exact Nat.le_trans (hL.2 x h1) (by decide)
    · rw [List.mem_singleton.1 h1]; omega⟩
  have HN : Hid ((L ++ [v]).length = L.length + 1) := by show _ = _; simp
  clear V V0 X hat hat0 hL hv hu h hb0 hb1
  go_enter Try.func10, Try.ntmps10
  go_wp2_with fail
  refine cJ.mono ?_
  clear cJ hW hY z0 z1 z2
  rintro e w1 ⟨y, k, rfl, V1, hb⟩
  replace hb2 := below_step hb2 hb
  have cC := copiedW_any _ V1 HN.out HB.out
  clear V1 hb
  go_wp2_with fail
  refine cC.mono ?_
  clear cC
  rintro e w3 ⟨y3, k3, rfl, hV3, hb3⟩
  have HV : Hid _ := hV3
  clear hV3
  go_wp2_with fail
  go_ret2
  rw [HN.out]
  exact ⟨y3, k3, rfl, HV.out u (fun k e => Nat.lt_of_lt_of_le (HU.out k e) hb2.size), below_step hb2 hb3⟩
set_option maxRecDepth 100000 in
set_option maxHeartbeats 4000000 in
theorem fateC_out (w : World) {a : Option Addr} {c : Nat} {L : List Wr} (V : Wires none w a c L) (hL : Bw 200 300 L) (at_ f : Int) (h : at_ < 0 ∨ ¬ at_ < 0 ∧ (L.length : Int) ≤ at_) :
    Calls Try.prog 13 #[.slice a L.length c, .int .i64 at_, .int .i64 f] w fun e w' => ∃ y k q, e = .returned (.tuple #[.slice y L.length k, vW q, .bool false]) ∧ Wires none w' y k L ∧ WireAt none w' q noW ∧ Below w.heap.size w w' := by
  have hmx := Nat.le_trans V.le V.max
  unfold maxLen at hmx
  have hb0 := below_new w (.cells #[.int .i64 0, .bool false, .slice none 0 0] 25)
  have y0 := boxW w (.int .i64 0) (.bool false) (.slice none 0 0) 25
  have yf : ∀ j, (w.alloc (.cells #[.int .i64 0, .bool false, .slice none 0 0] 25)).frozen? ⟨w.heap.size, j, none⟩ = false := fun j => by unfold World.frozen?; rw [heap_alloc_new]; simp
  have yl : w.heap.size < (w.alloc (.cells #[.int .i64 0, .bool false, .slice none 0 0] 25)).heap.size := by simp
  have BY : BoxAt w.heap.size (w.alloc (.cells #[.int .i64 0, .bool false, .slice none 0 0] 25)) := ⟨yl, ⟨_, y0.1⟩, ⟨_, y0.2.1⟩, ⟨_, y0.2.2⟩, yf⟩
  have es : (w.alloc (.cells #[.int .i64 0, .bool false, .slice none 0 0] 25)).heap.size = w.heap.size + 1 := by simp
  clear y0 yf yl
  have cC := copiedW_any _ (V.later hb0) rfl ⟨Nat.le_trans hL.1 (by decide), fun x hx => Nat.le_trans (hL.2 x hx) (by decide)⟩
  clear V hL es
  rcases h with h | ⟨h, h2⟩
  · go_enter Try.func13, Try.ntmps13
    go_wp2_with fail
    refine cC.mono ?_
    clear cC
    rintro e w1 ⟨y, k, rfl, hW, hb⟩
    have HW : Hid _ := hW
    obtain ⟨xl, ⟨a0, x0⟩, ⟨a1, x1⟩, ⟨a2, x2⟩, xf⟩ := BY.later hb
    have hb1 := below_step hb0 hb
    have hlt : w.heap.size < (w.alloc (.cells #[.int .i64 0, .bool false, .slice none 0 0] 25)).heap.size := BY.lt
    clear hW BY hb0 hb
    go_wp2_with fail
    obtain ⟨f0, f1, f2⟩ := cells_put3 x0 x1 x2 (.int .i64 0) (.bool false) (.slice none 0 0)
    have hb5 := below_put3 hb1 (Nat.le_refl _) (.int .i64 0) (.bool false) (.slice none 0 0)
    have V5 := ((HW.out (some w.heap.size) (fun k e => by cases e; exact hlt)).kept (keeps_put3 w1 w.heap.size (.int .i64 0) (.bool false) (.slice none 0 0))).loose
    generalize hV : put3 w1 w.heap.size (.int .i64 0) (.bool false) (.slice none 0 0) = V9 at f0 f1 f2 hb5 V5
    unfold put3 at hV
    rw [hV]
    refine bodyPost_ret (v := .tuple #[.slice y L.length k, vW noC, .bool false]) (by simp [results, Try.results13, go_sem, f0, f1, f2, noC]) rfl ?_
    exact ⟨y, k, noC, rfl, V5, wireAt_no _, hb5⟩
  · go_enter Try.func13, Try.ntmps13
    go_wp2_with fail
    refine cC.mono ?_
    clear cC
    rintro e w1 ⟨y, k, rfl, hW, hb⟩
    have HW : Hid _ := hW
    obtain ⟨xl, ⟨a0, x0⟩, ⟨a1, x1⟩, ⟨a2, x2⟩, xf⟩ := BY.later hb
    have hb1 := below_step hb0 hb
    have hlt : w.heap.size < (w.alloc (.cells #[.int .i64 0, .bool false, .slice none 0 0] 25)).heap.size := BY.lt
    clear hW BY hb0 hb
    go_wp2_with fail
    obtain ⟨f0, f1, f2⟩ := cells_put3 x0 x1 x2 (.int .i64 0) (.bool false) (.slice none 0 0)
    have hb5 := below_put3 hb1 (Nat.le_refl _) (.int .i64 0) (.bool false) (.slice none 0 0)
    have V5 := ((HW.out (some w.heap.size) (fun k e => by cases e; exact hlt)).kept (keeps_put3 w1 w.heap.size (.int .i64 0) (.bool false) (.slice none 0 0))).loose
    generalize hV : put3 w1 w.heap.size (.int .i64 0) (.bool false) (.slice none 0 0) = V9 at f0 f1 f2 hb5 V5
    unfold put3 at hV
    rw [hV]
    refine bodyPost_ret (v := .tuple #[.slice y L.length k, vW noC, .bool false]) (by simp [results, Try.results13, go_sem, f0, f1, f2, noC]) rfl ?_
    exact ⟨y, k, noC, rfl, V5, wireAt_no _, hb5⟩
/-- what the last region keeps: all below, and the box of what comes -/
def SF (w w' : World) (b : Nat) (x0 x1 x2 : Value) : Prop := Below w.heap.size w w' ∧ b < w'.heap.size ∧ w'.cell? ⟨b, 0, none⟩ = some x0 ∧ w'.cell? ⟨b, 1, none⟩ = some x1 ∧ w'.cell? ⟨b, 2, none⟩ = some x2
theorem SF.later {w w' w2 : World} {b : Nat} {x0 x1 x2 : Value} (h : SF w w' b x0 x1 x2) (hb : Below w'.heap.size w' w2) : SF w w2 b x0 x1 x2 := by
  obtain ⟨h0, h1, c0, c1, c2⟩ := h
  exact ⟨below_step h0 hb, Nat.lt_of_lt_of_le h1 hb.size, (hb.cell (p := ⟨b, 0, none⟩) h1).trans c0, (hb.cell (p := ⟨b, 1, none⟩) h1).trans c1, (hb.cell (p := ⟨b, 2, none⟩) h1).trans c2⟩
theorem SF.put {w w' : World} {b : Nat} {x0 x1 x2 : Value} (h : SF w w' b x0 x1 x2) (hb : w.heap.size < b) (y0 y1 y2 : Value) : SF w (put3 w' w.heap.size y0 y1 y2) b x0 x1 x2 := by
  obtain ⟨h0, h1, c0, c1, c2⟩ := h
  have ne : ∀ i j, (⟨w.heap.size, i, none⟩ : Addr) ≠ ⟨b, j, none⟩ := fun i j e => by have := congrArg Addr.block e; simp at this; omega
  have hc : ∀ j, (put3 w' w.heap.size y0 y1 y2).cell? ⟨b, j, none⟩ = w'.cell? ⟨b, j, none⟩ := fun j => (World.cell?_setCell_other _ _ _ _ (ne 2 j)).trans ((World.cell?_setCell_other _ _ _ _ (ne 1 j)).trans (World.cell?_setCell_other _ _ _ _ (ne 0 j)))
  have hk := keeps_put3 w' w.heap.size y0 y1 y2
  exact ⟨below_put3 h0 (Nat.le_refl _) _ _ _, Nat.lt_of_lt_of_le h1 hk.size, (hc 0).trans c0, (hc 1).trans c1, (hc 2).trans c2⟩
set_option maxRecDepth 100000 in
set_option maxHeartbeats 4000000 in
theorem fateC_none (w : World) {a : Option Addr} {c : Nat} {L : List Wr} (V : Wires none w a c L) (hL : Bw 200 300 L) {j : Nat} (hj : j < L.length) (f : Int) (f0 : ¬ f = 0) (f1 : ¬ f = 1) (f2 : ¬ f = 2) :
    Calls Try.prog 13 #[.slice a L.length c, .int .i64 (j : Nat), .int .i64 f] w fun e w' => ∃ y k q, e = .returned (.tuple #[.slice y L.length k, vW q, .bool false]) ∧ Wires none w' y k L ∧ WireAt none w' q noW ∧ Below w.heap.size w w' := by
  have hmx := Nat.le_trans V.le V.max
  unfold maxLen at hmx
  have hb0 := below_new w (.cells #[.int .i64 0, .bool false, .slice none 0 0] 25)
  have y0 := boxW w (.int .i64 0) (.bool false) (.slice none 0 0) 25
  have yf : ∀ j, (w.alloc (.cells #[.int .i64 0, .bool false, .slice none 0 0] 25)).frozen? ⟨w.heap.size, j, none⟩ = false := fun j => by unfold World.frozen?; rw [heap_alloc_new]; simp
  have yl : w.heap.size < (w.alloc (.cells #[.int .i64 0, .bool false, .slice none 0 0] 25)).heap.size := by simp
  have BY : BoxAt w.heap.size (w.alloc (.cells #[.int .i64 0, .bool false, .slice none 0 0] 25)) := ⟨yl, ⟨_, y0.1⟩, ⟨_, y0.2.1⟩, ⟨_, y0.2.2⟩, yf⟩
  have es : (w.alloc (.cells #[.int .i64 0, .bool false, .slice none 0 0] 25)).heap.size = w.heap.size + 1 := by simp
  clear y0 yf yl
  have hb1 := below_new (w.alloc (.cells #[.int .i64 0, .bool false, .slice none 0 0] 25)) (.cells #[.int .i64 0, .bool false, .slice none 0 0] 25)
  have x0 := boxW (w.alloc (.cells #[.int .i64 0, .bool false, .slice none 0 0] 25)) (.int .i64 0) (.bool false) (.slice none 0 0) 25
  have xf : ∀ j, ((w.alloc (.cells #[.int .i64 0, .bool false, .slice none 0 0] 25)).alloc (.cells #[.int .i64 0, .bool false, .slice none 0 0] 25)).frozen? ⟨(w.alloc (.cells #[.int .i64 0, .bool false, .slice none 0 0] 25)).heap.size, j, none⟩ = false := fun j => by unfold World.frozen?; rw [heap_alloc_new]; simp
  have xl : (w.alloc (.cells #[.int .i64 0, .bool false, .slice none 0 0] 25)).heap.size < ((w.alloc (.cells #[.int .i64 0, .bool false, .slice none 0 0] 25)).alloc (.cells #[.int .i64 0, .bool false, .slice none 0 0] 25)).heap.size := by simp
  rw [es] at x0 xf xl
  replace BY := BY.later hb1
  replace hb0 := below_step hb0 hb1
  clear hb1
  have hjz : (j : Int) < (L.length : Int) := by omega
  have hS : SF w ((w.alloc (.cells #[.int .i64 0, .bool false, .slice none 0 0] 25)).alloc (.cells #[.int .i64 0, .bool false, .slice none 0 0] 25)) (w.heap.size + 1) (.int .i64 0) (.bool false) (.slice none 0 0) := ⟨hb0, xl, x0⟩
  have V1 := V.later hb0
  have HL : Hid (Bw 1000 1000 L) := ⟨Nat.le_trans hL.1 (by decide), fun x hx => Nat.le_trans (hL.2 x hx) (by decide)⟩
  clear V hL xl xf x0 es
  go_enter Try.func13, Try.ntmps13
  go_wp2_with fail
  generalize (w.alloc (.cells #[.int .i64 0, .bool false, .slice none 0 0] 25)).alloc (.cells #[.int .i64 0, .bool false, .slice none 0 0] 25) = W at hb0 hS V1 BY ⊢
  have S0 : SF w W.drew (w.heap.size + 1) (.int .i64 0) (.bool false) (.slice none 0 0) := hS.later (Below.refl _ _).drew
  have V0 := V1.later (Below.refl W.heap.size W).drew
  have BY0 := BY.later (Below.refl W.heap.size W).drew
  clear hS BY V1
  refine wp_region_noPanic ?_
  refine wp_region_held_drew (S := fun w' => SF w w' (w.heap.size + 1) (.int .i64 0) (.bool false) (.slice none 0 0)) (by kernel_rfl) S0 (fun hH => ?_)
  clear S0
  generalize W.drew = Wd at hH V0 BY0 ⊢
  refine wpAnyH_take (i := 0) (oi := { dst := some 45, op := _, type := _, pos := _, after := _, guard := _ }) (v := ?_) rfl (by kernel_rfl) (by kernel_rfl) (by kernel_rfl) (fun _ _ _ h => h) (Or.inl ⟨by rfl, ?_⟩) hH ?_
  rotate_left
  · intro wz hSw
    (try dsimp only at hSw)
    first | (go_simp; done) | (go_simp; with_reducible rfl)
  try simp only [Act.put, List.setIfInBounds_toArray, List.set_cons_zero, List.set_cons_succ]
  refine wpAnyH_take (i := 2) (oi := { dst := some 47, op := _, type := _, pos := _, after := _, guard := _ }) (v := ?_) rfl (by kernel_rfl) (by kernel_rfl) (by kernel_rfl) (fun _ _ _ h => h) (Or.inl ⟨by rfl, ?_⟩) hH ?_
  rotate_left
  · intro wz hSw
    (try dsimp only at hSw)
    obtain ⟨-, -, z0, z1, z2⟩ := hSw
    first | (go_simp; done) | (go_simp; with_reducible rfl)
  try simp only [Act.put, List.setIfInBounds_toArray, List.set_cons_zero, List.set_cons_succ]
  refine wpAnyH_take (i := 3) (oi := { dst := some 48, op := _, type := _, pos := _, after := _, guard := _ }) (v := ?_) rfl (by kernel_rfl) (by kernel_rfl) (by kernel_rfl) (fun _ _ _ h => h) (Or.inl ⟨by rfl, ?_⟩) hH ?_
  rotate_left
  · intro wz hSw
    (try dsimp only at hSw)
    first | (go_simp; done) | (go_simp; with_reducible rfl)
  try simp only [Act.put, List.setIfInBounds_toArray, List.set_cons_zero, List.set_cons_succ]
  refine wpAnyH_ready (rs := [1]) (by kernel_rfl) (by simp) ?_
  refine AllReadyH.cons (o := { dst := some 46, op := _, type := _, pos := _, after := _, guard := _ }) rfl (fun K hK => ?_) AllReadyH.nil
  go_simp
  refine (copiedW_any _ V0 rfl HL.out).mono ?_
  rintro e W2 ⟨y3, k3, rfl, hV3, hb3⟩
  have V3 := hV3 (some w.heap.size) (fun k e => by cases e; exact BY0.lt)
  clear hV3 V0
  replace BY0 := BY0.later hb3
  have hS3 := SF.later hH hb3
  go_wp2_with fail
  refine hK.out _ _ hS3 (fun hH2 => ?_)
  clear hK K hH hS3 hb3
  have hH := hH2
  clear hH2
  try simp only [Act.put, List.setIfInBounds_toArray, List.set_cons_zero, List.set_cons_succ]
  refine wpAnyH_take (i := 4) (oi := { dst := some 6, op := _, type := _, pos := _, after := _, guard := _ }) (v := ?_) rfl (by kernel_rfl) (by kernel_rfl) (by kernel_rfl) (fun _ _ _ h => h) (Or.inl ⟨by rfl, ?_⟩) hH ?_
  rotate_left
  · intro wz hSw
    (try dsimp only at hSw)
    first | (go_simp; done) | (go_simp; with_reducible rfl)
  try simp only [Act.put, List.setIfInBounds_toArray, List.set_cons_zero, List.set_cons_succ]
  refine wpAnyH_ready (rs := [5]) (by kernel_rfl) (by simp) ?_
  refine AllReadyH.cons (o := { dst := none, op := _, type := _, pos := _, after := _, guard := _ }) rfl (fun K hK => ?_) AllReadyH.nil
  obtain ⟨bl, ⟨u0, z0⟩, ⟨u1, z1⟩, ⟨u2, z2⟩, fz⟩ := BY0
  go_simp
  have hy := cells_put3 z0 z1 z2 ((.int .i64 0)) ((.bool false)) ((.slice none 0 0))
  have hk3 := keeps_put3 W2 w.heap.size ((.int .i64 0)) ((.bool false)) ((.slice none 0 0))
  have V5 := (V3.kept hk3).loose
  have hS5 := SF.put hH (Nat.lt_succ_self _) ((.int .i64 0)) ((.bool false)) ((.slice none 0 0))
  clear hk3 V3 z0 z1 z2 fz bl
  generalize hV : put3 W2 w.heap.size ((.int .i64 0)) ((.bool false)) ((.slice none 0 0)) = W5 at hy hS5 V5
  unfold put3 at hV
  rw [hV]
  clear hV
  refine hK.out _ _ hS5 (fun hH2 => ?_)
  clear hK K hH hS5
  have hH := hH2
  clear hH2
  try simp only [Act.put, List.setIfInBounds_toArray, List.set_cons_zero, List.set_cons_succ]
  refine wpAnyH_take (i := 6) (oi := { dst := some 8, op := _, type := _, pos := _, after := _, guard := _ }) (v := ?_) rfl (by kernel_rfl) (by kernel_rfl) (by kernel_rfl) (fun _ _ _ h => h) (Or.inl ⟨by rfl, ?_⟩) hH ?_
  rotate_left
  · intro wz hSw
    (try dsimp only at hSw)
    first | (go_simp; done) | (go_simp; with_reducible rfl)
  try simp only [Act.put, List.setIfInBounds_toArray, List.set_cons_zero, List.set_cons_succ]
  refine wpAnyH_done (by kernel_rfl) ?_ _
  refine NoPanic.normal ?_
  obtain ⟨f0, f1, f2⟩ := hy
  go_wp2_with fail
  refine bodyPost_ret (v := .tuple #[.slice y3 L.length k3, vW noC, .bool false]) (by simp [results, Try.results13, go_sem, f0, f1, f2, noC]) rfl ?_
  exact ⟨y3, k3, noC, rfl, V5, wireAt_no _, hH.1⟩
set_option maxRecDepth 100000 in
set_option maxHeartbeats 4000000 in
theorem fateC_lose (w : World) {a : Option Addr} {c : Nat} {L : List Wr} (V : Wires none w a c L) (hL : Bw 200 300 L) {j : Nat} (hj : j < L.length) :
    Calls Try.prog 13 #[.slice a L.length c, .int .i64 (j : Nat), .int .i64 1] w fun e w' => ∃ y k q, e = .returned (.tuple #[.slice y (L.eraseIdx j).length k, vW q, .bool false]) ∧ Wires none w' y k (L.eraseIdx j) ∧ WireAt none w' q noW ∧ Below w.heap.size w w' := by
  have hmx := Nat.le_trans V.le V.max
  unfold maxLen at hmx
  have hb0 := below_new w (.cells #[.int .i64 0, .bool false, .slice none 0 0] 25)
  have y0 := boxW w (.int .i64 0) (.bool false) (.slice none 0 0) 25
  have yf : ∀ j, (w.alloc (.cells #[.int .i64 0, .bool false, .slice none 0 0] 25)).frozen? ⟨w.heap.size, j, none⟩ = false := fun j => by unfold World.frozen?; rw [heap_alloc_new]; simp
  have yl : w.heap.size < (w.alloc (.cells #[.int .i64 0, .bool false, .slice none 0 0] 25)).heap.size := by simp
  have BY : BoxAt w.heap.size (w.alloc (.cells #[.int .i64 0, .bool false, .slice none 0 0] 25)) := ⟨yl, ⟨_, y0.1⟩, ⟨_, y0.2.1⟩, ⟨_, y0.2.2⟩, yf⟩
  have es : (w.alloc (.cells #[.int .i64 0, .bool false, .slice none 0 0] 25)).heap.size = w.heap.size + 1 := by simp
  clear y0 yf yl
  have hb1 := below_new (w.alloc (.cells #[.int .i64 0, .bool false, .slice none 0 0] 25)) (.cells #[.int .i64 0, .bool false, .slice none 0 0] 25)
  have x0 := boxW (w.alloc (.cells #[.int .i64 0, .bool false, .slice none 0 0] 25)) (.int .i64 0) (.bool false) (.slice none 0 0) 25
  have xf : ∀ j, ((w.alloc (.cells #[.int .i64 0, .bool false, .slice none 0 0] 25)).alloc (.cells #[.int .i64 0, .bool false, .slice none 0 0] 25)).frozen? ⟨(w.alloc (.cells #[.int .i64 0, .bool false, .slice none 0 0] 25)).heap.size, j, none⟩ = false := fun j => by unfold World.frozen?; rw [heap_alloc_new]; simp
  have xl : (w.alloc (.cells #[.int .i64 0, .bool false, .slice none 0 0] 25)).heap.size < ((w.alloc (.cells #[.int .i64 0, .bool false, .slice none 0 0] 25)).alloc (.cells #[.int .i64 0, .bool false, .slice none 0 0] 25)).heap.size := by simp
  rw [es] at x0 xf xl
  replace BY := BY.later hb1
  replace hb0 := below_step hb0 hb1
  clear hb1
  have hjz : (j : Int) < (L.length : Int) := by omega
  have hS : SF w ((w.alloc (.cells #[.int .i64 0, .bool false, .slice none 0 0] 25)).alloc (.cells #[.int .i64 0, .bool false, .slice none 0 0] 25)) (w.heap.size + 1) (.int .i64 0) (.bool false) (.slice none 0 0) := ⟨hb0, xl, x0⟩
  have HL : Hid (Bw 1000 1000 (L.eraseIdx j)) := ⟨Nat.le_trans (List.length_eraseIdx_le L _) (Nat.le_trans hL.1 (by decide)), fun x hx => Nat.le_trans (hL.2 x (List.mem_of_mem_eraseIdx hx)) (by decide)⟩
  have cW := withoutC_any _ (V.later hb0) hj (by have := hL.1; omega)
  clear V hL xl xf x0 es
  go_enter Try.func13, Try.ntmps13
  go_wp2_with fail
  generalize (w.alloc (.cells #[.int .i64 0, .bool false, .slice none 0 0] 25)).alloc (.cells #[.int .i64 0, .bool false, .slice none 0 0] 25) = W0 at hb0 hS BY cW ⊢
  refine cW.mono ?_
  clear cW
  rintro e W ⟨y, k, rfl, V1, hb1⟩
  replace hS := hS.later hb1
  replace BY := BY.later hb1
  replace hb0 := below_step hb0 hb1
  clear hb1
  go_wp2_with fail
  have S0 : SF w W.drew (w.heap.size + 1) (.int .i64 0) (.bool false) (.slice none 0 0) := hS.later (Below.refl _ _).drew
  have V0 := V1.later (Below.refl W.heap.size W).drew
  have BY0 := BY.later (Below.refl W.heap.size W).drew
  clear hS BY V1
  refine wp_region_noPanic ?_
  refine wp_region_held_drew (S := fun w' => SF w w' (w.heap.size + 1) (.int .i64 0) (.bool false) (.slice none 0 0)) (by kernel_rfl) S0 (fun hH => ?_)
  clear S0
  generalize W.drew = Wd at hH V0 BY0 ⊢
  refine wpAnyH_take (i := 0) (oi := { dst := some 45, op := _, type := _, pos := _, after := _, guard := _ }) (v := ?_) rfl (by kernel_rfl) (by kernel_rfl) (by kernel_rfl) (fun _ _ _ h => h) (Or.inl ⟨by rfl, ?_⟩) hH ?_
  rotate_left
  · intro wz hSw
    (try dsimp only at hSw)
    first | (go_simp; done) | (go_simp; with_reducible rfl)
  try simp only [Act.put, List.setIfInBounds_toArray, List.set_cons_zero, List.set_cons_succ]
  refine wpAnyH_take (i := 2) (oi := { dst := some 47, op := _, type := _, pos := _, after := _, guard := _ }) (v := ?_) rfl (by kernel_rfl) (by kernel_rfl) (by kernel_rfl) (fun _ _ _ h => h) (Or.inl ⟨by rfl, ?_⟩) hH ?_
  rotate_left
  · intro wz hSw
    (try dsimp only at hSw)
    obtain ⟨-, -, z0, z1, z2⟩ := hSw
    first | (go_simp; done) | (go_simp; with_reducible rfl)
  try simp only [Act.put, List.setIfInBounds_toArray, List.set_cons_zero, List.set_cons_succ]
  refine wpAnyH_take (i := 3) (oi := { dst := some 48, op := _, type := _, pos := _, after := _, guard := _ }) (v := ?_) rfl (by kernel_rfl) (by kernel_rfl) (by kernel_rfl) (fun _ _ _ h => h) (Or.inl ⟨by rfl, ?_⟩) hH ?_
  rotate_left
  · intro wz hSw
    (try dsimp only at hSw)
    first | (go_simp; done) | (go_simp; with_reducible rfl)
  try simp only [Act.put, List.setIfInBounds_toArray, List.set_cons_zero, List.set_cons_succ]
  refine wpAnyH_ready (rs := [1]) (by kernel_rfl) (by simp) ?_
  refine AllReadyH.cons (o := { dst := some 46, op := _, type := _, pos := _, after := _, guard := _ }) rfl (fun K hK => ?_) AllReadyH.nil
  go_simp
  refine (copiedW_any _ V0 rfl HL.out).mono ?_
  rintro e W2 ⟨y3, k3, rfl, hV3, hb3⟩
  have V3 := hV3 (some w.heap.size) (fun k e => by cases e; exact BY0.lt)
  clear hV3 V0
  replace BY0 := BY0.later hb3
  have hS3 := SF.later hH hb3
  go_wp2_with fail
  refine hK.out _ _ hS3 (fun hH2 => ?_)
  clear hK K hH hS3 hb3
  have hH := hH2
  clear hH2
  try simp only [Act.put, List.setIfInBounds_toArray, List.set_cons_zero, List.set_cons_succ]
  refine wpAnyH_take (i := 4) (oi := { dst := some 6, op := _, type := _, pos := _, after := _, guard := _ }) (v := ?_) rfl (by kernel_rfl) (by kernel_rfl) (by kernel_rfl) (fun _ _ _ h => h) (Or.inl ⟨by rfl, ?_⟩) hH ?_
  rotate_left
  · intro wz hSw
    (try dsimp only at hSw)
    first | (go_simp; done) | (go_simp; with_reducible rfl)
  try simp only [Act.put, List.setIfInBounds_toArray, List.set_cons_zero, List.set_cons_succ]
  refine wpAnyH_ready (rs := [5]) (by kernel_rfl) (by simp) ?_
  refine AllReadyH.cons (o := { dst := none, op := _, type := _, pos := _, after := _, guard := _ }) rfl (fun K hK => ?_) AllReadyH.nil
  obtain ⟨bl, ⟨u0, z0⟩, ⟨u1, z1⟩, ⟨u2, z2⟩, fz⟩ := BY0
  go_simp
  have hy := cells_put3 z0 z1 z2 ((.int .i64 0)) ((.bool false)) ((.slice none 0 0))
  have hk3 := keeps_put3 W2 w.heap.size ((.int .i64 0)) ((.bool false)) ((.slice none 0 0))
  have V5 := (V3.kept hk3).loose
  have hS5 := SF.put hH (Nat.lt_succ_self _) ((.int .i64 0)) ((.bool false)) ((.slice none 0 0))
  clear hk3 V3 z0 z1 z2 fz bl
  generalize hV : put3 W2 w.heap.size ((.int .i64 0)) ((.bool false)) ((.slice none 0 0)) = W5 at hy hS5 V5
  unfold put3 at hV
  rw [hV]
  clear hV
  refine hK.out _ _ hS5 (fun hH2 => ?_)
  clear hK K hH hS5
  have hH := hH2
  clear hH2
  try simp only [Act.put, List.setIfInBounds_toArray, List.set_cons_zero, List.set_cons_succ]
  refine wpAnyH_take (i := 6) (oi := { dst := some 8, op := _, type := _, pos := _, after := _, guard := _ }) (v := ?_) rfl (by kernel_rfl) (by kernel_rfl) (by kernel_rfl) (fun _ _ _ h => h) (Or.inl ⟨by rfl, ?_⟩) hH ?_
  rotate_left
  · intro wz hSw
    (try dsimp only at hSw)
    first | (go_simp; done) | (go_simp; with_reducible rfl)
  try simp only [Act.put, List.setIfInBounds_toArray, List.set_cons_zero, List.set_cons_succ]
  refine wpAnyH_done (by kernel_rfl) ?_ _
  refine NoPanic.normal ?_
  obtain ⟨f0, f1, f2⟩ := hy
  go_wp2_with fail
  refine bodyPost_ret (v := .tuple #[.slice y3 (L.eraseIdx j).length k3, vW noC, .bool false]) (by simp [results, Try.results13, go_sem, f0, f1, f2, noC]) rfl ?_
  exact ⟨y3, k3, noC, rfl, V5, wireAt_no _, hH.1⟩
theorem BoxAt.kept {b b' : Nat} {w w' : World} (h : BoxAt b w) (hk : Keeps (fun k => some b' = some k) w w') (hne : b' ≠ b) : BoxAt b w' := by
  obtain ⟨hl, ⟨u0, h0⟩, ⟨u1, h1⟩, ⟨u2, h2⟩, hf⟩ := h
  have hn : ¬ (some b' = some b) := fun e => hne (Option.some.inj e)
  refine ⟨Nat.lt_of_lt_of_le hl hk.size, ⟨u0, (hk.cell (p := ⟨b, 0, none⟩) hl hn).trans h0⟩, ⟨u1, (hk.cell (p := ⟨b, 1, none⟩) hl hn).trans h1⟩, ⟨u2, (hk.cell (p := ⟨b, 2, none⟩) hl hn).trans h2⟩, fun j => ?_⟩
  have := hf j
  unfold World.frozen? at this ⊢
  rw [hk.block b hl hn]
  exact this
theorem wireAt_far {w : World} {q : Wc} {v : Wr} {b : Nat} (hat : WireAt none w q v) (hy : ∀ x, q.x = some x → b < x.block) : WireAt (some b) w q v :=
  ⟨hat.sw, hat.up, hat.wf, hat.n, hat.R, fun y h _ e => by have h1 := hy y h; cases e; exact Nat.lt_irrefl _ h1⟩
set_option maxRecDepth 100000 in
set_option maxHeartbeats 4000000 in
theorem fateC_twice (w : World) {a : Option Addr} {c : Nat} {L : List Wr} (V : Wires none w a c L) (hL : Bw 200 300 L) {j : Nat} (hj : j < L.length) :
    Calls Try.prog 13 #[.slice a L.length c, .int .i64 (j : Nat), .int .i64 2] w fun e w' => ∃ y k q, e = .returned (.tuple #[.slice y L.length k, vW q, .bool true]) ∧ Wires none w' y k L ∧ WireAt none w' q (L.getD j noW) ∧ Below w.heap.size w w' := by
  have hmx := Nat.le_trans V.le V.max
  unfold maxLen at hmx
  have hb0 := below_new w (.cells #[.int .i64 0, .bool false, .slice none 0 0] 25)
  have y0 := boxW w (.int .i64 0) (.bool false) (.slice none 0 0) 25
  have yf : ∀ j, (w.alloc (.cells #[.int .i64 0, .bool false, .slice none 0 0] 25)).frozen? ⟨w.heap.size, j, none⟩ = false := fun j => by unfold World.frozen?; rw [heap_alloc_new]; simp
  have yl : w.heap.size < (w.alloc (.cells #[.int .i64 0, .bool false, .slice none 0 0] 25)).heap.size := by simp
  have BY : BoxAt w.heap.size (w.alloc (.cells #[.int .i64 0, .bool false, .slice none 0 0] 25)) := ⟨yl, ⟨_, y0.1⟩, ⟨_, y0.2.1⟩, ⟨_, y0.2.2⟩, yf⟩
  have es : (w.alloc (.cells #[.int .i64 0, .bool false, .slice none 0 0] 25)).heap.size = w.heap.size + 1 := by simp
  clear y0 yf yl
  have hb1 := below_new (w.alloc (.cells #[.int .i64 0, .bool false, .slice none 0 0] 25)) (.cells #[.int .i64 0, .bool false, .slice none 0 0] 25)
  have x0 := boxW (w.alloc (.cells #[.int .i64 0, .bool false, .slice none 0 0] 25)) (.int .i64 0) (.bool false) (.slice none 0 0) 25
  have xf : ∀ j, ((w.alloc (.cells #[.int .i64 0, .bool false, .slice none 0 0] 25)).alloc (.cells #[.int .i64 0, .bool false, .slice none 0 0] 25)).frozen? ⟨(w.alloc (.cells #[.int .i64 0, .bool false, .slice none 0 0] 25)).heap.size, j, none⟩ = false := fun j => by unfold World.frozen?; rw [heap_alloc_new]; simp
  have xl : (w.alloc (.cells #[.int .i64 0, .bool false, .slice none 0 0] 25)).heap.size < ((w.alloc (.cells #[.int .i64 0, .bool false, .slice none 0 0] 25)).alloc (.cells #[.int .i64 0, .bool false, .slice none 0 0] 25)).heap.size := by simp
  rw [es] at x0 xf xl
  replace BY := BY.later hb1
  replace hb0 := below_step hb0 hb1
  clear hb1
  have HL : Hid (Bw 1000 1000 L) := ⟨Nat.le_trans hL.1 (by decide), fun x hx => Nat.le_trans (hL.2 x hx) (by decide)⟩
  have hjz : (j : Int) < (L.length : Int) := by omega
  have BX : BoxAt (w.heap.size + 1) ((w.alloc (.cells #[.int .i64 0, .bool false, .slice none 0 0] 25)).alloc (.cells #[.int .i64 0, .bool false, .slice none 0 0] 25)) := ⟨xl, ⟨_, x0.1⟩, ⟨_, x0.2.1⟩, ⟨_, x0.2.2⟩, xf⟩
  obtain ⟨v, hv⟩ := getW hj
  have hgv := getD_of hv
  have hvb := hL.2 v (List.mem_of_getElem? hv)
  have V1 := (V.far (u := some (w.heap.size + 1)) (fun k e => by cases e; exact Nat.le_succ _)).later hb0
  obtain ⟨b, o, x, mm, rfl, hbb, c0, c1, c2, hat⟩ := V1.at hv
  rw [hgv]
  have cO := own_any ((w.alloc (.cells #[.int .i64 0, .bool false, .slice none 0 0] 25)).alloc (.cells #[.int .i64 0, .bool false, .slice none 0 0] 25)) hat (by omega)
  clear V hv hgv hvb hat xl xf x0 es
  go_enter Try.func13, Try.ntmps13
  go_wp2_with fail
  generalize (w.alloc (.cells #[.int .i64 0, .bool false, .slice none 0 0] 25)).alloc (.cells #[.int .i64 0, .bool false, .slice none 0 0] 25) = W0 at hb0 BX BY V1 cO ⊢
  refine cO.mono ?_
  clear cO c0 c1 c2 hbb
  rintro e W1 ⟨y, m, rfl, hy, hat, hb1⟩
  replace hy : ∀ z, y = some z → w.heap.size + 1 < z.block := fun z e => Nat.lt_of_lt_of_le BX.lt (hy z e)
  have HY : Hid _ := hy
  replace BX := BX.later hb1
  replace BY := BY.later hb1
  replace V1 := V1.later hb1
  replace hb0 := below_step hb0 hb1
  clear hb1 hy
  have xl := BX.lt
  obtain ⟨-, ⟨a0, x0⟩, ⟨a1, x1⟩, ⟨a2, x2⟩, xf⟩ := BX
  go_wp2_with fail
  have hk := keeps_put3 W1 (w.heap.size + 1) (.int .i64 v.sw) (.bool v.up) (.slice y v.b.length m)
  have hS : SF w (put3 W1 (w.heap.size + 1) (.int .i64 v.sw) (.bool v.up) (.slice y v.b.length m)) (w.heap.size + 1) (.int .i64 v.sw) (.bool v.up) (.slice y v.b.length m) := ⟨below_put3 hb0 (Nat.le_succ _) _ _ _, Nat.lt_of_lt_of_le xl hk.size, cells_put3 x0 x1 x2 _ _ _⟩
  replace BY := BY.kept hk (Nat.succ_ne_self _)
  replace V1 := (V1.kept hk).loose
  have hat1 : WireAt (some w.heap.size) (put3 W1 (w.heap.size + 1) (.int .i64 v.sw) (.bool v.up) (.slice y v.b.length m)) ⟨v.sw, v.up, y, v.b.length, m⟩ v :=
    wireAt_far ((wireAt_far hat HY.out).turn (g' := some (w.heap.size + 1)) hk (fun k e => .inl e)).loose (fun z e => Nat.lt_trans (Nat.lt_succ_self _) (HY.out z e))
  have hb2 := hS.1
  generalize hV : put3 W1 (w.heap.size + 1) (.int .i64 v.sw) (.bool v.up) (.slice y v.b.length m) = W at hS BY V1 hat1 hb2
  unfold put3 at hV
  rw [hV]
  clear hV hk x0 x1 x2 xf xl hat HY hb0
  have S0 : SF w W.drew (w.heap.size + 1) (.int .i64 v.sw) (.bool v.up) (.slice y v.b.length m) := hS.later (Below.refl _ _).drew
  have V0 := V1.later (Below.refl W.heap.size W).drew
  have BY0 := BY.later (Below.refl W.heap.size W).drew
  have hat0 := hat1.later (Below.refl W.heap.size W).drew
  clear hS BY V1 hat1
  refine wp_region_noPanic ?_
  refine wp_region_held_drew (S := fun w' => SF w w' (w.heap.size + 1) (.int .i64 v.sw) (.bool v.up) (.slice y v.b.length m)) (by kernel_rfl) S0 (fun hH => ?_)
  clear S0
  generalize W.drew = Wd at hH V0 BY0 hat0 ⊢
  refine wpAnyH_take (i := 0) (oi := { dst := some 45, op := _, type := _, pos := _, after := _, guard := _ }) (v := ?_) rfl (by kernel_rfl) (by kernel_rfl) (by kernel_rfl) (fun _ _ _ h => h) (Or.inl ⟨by rfl, ?_⟩) hH ?_
  rotate_left
  · intro wz hSw
    (try dsimp only at hSw)
    first | (go_simp; done) | (go_simp; with_reducible rfl)
  try simp only [Act.put, List.setIfInBounds_toArray, List.set_cons_zero, List.set_cons_succ]
  refine wpAnyH_take (i := 2) (oi := { dst := some 47, op := _, type := _, pos := _, after := _, guard := _ }) (v := ?_) rfl (by kernel_rfl) (by kernel_rfl) (by kernel_rfl) (fun _ _ _ h => h) (Or.inl ⟨by rfl, ?_⟩) hH ?_
  rotate_left
  · intro wz hSw
    (try dsimp only at hSw)
    obtain ⟨-, -, z0, z1, z2⟩ := hSw
    first | (go_simp; done) | (go_simp; with_reducible rfl)
  try simp only [Act.put, List.setIfInBounds_toArray, List.set_cons_zero, List.set_cons_succ]
  refine wpAnyH_take (i := 3) (oi := { dst := some 48, op := _, type := _, pos := _, after := _, guard := _ }) (v := ?_) rfl (by kernel_rfl) (by kernel_rfl) (by kernel_rfl) (fun _ _ _ h => h) (Or.inl ⟨by rfl, ?_⟩) hH ?_
  rotate_left
  · intro wz hSw
    (try dsimp only at hSw)
    first | (go_simp; done) | (go_simp; with_reducible rfl)
  try simp only [Act.put, List.setIfInBounds_toArray, List.set_cons_zero, List.set_cons_succ]
  refine wpAnyH_ready (rs := [1]) (by kernel_rfl) (by simp) ?_
  refine AllReadyH.cons (o := { dst := some 46, op := _, type := _, pos := _, after := _, guard := _ }) rfl (fun K hK => ?_) AllReadyH.nil
  go_simp
  refine (copiedW_any _ V0 rfl HL.out).mono ?_
  rintro e W2 ⟨y3, k3, rfl, hV3, hb3⟩
  have V3 := hV3 (some w.heap.size) (fun k e => by cases e; exact BY0.lt)
  clear hV3 V0
  replace BY0 := BY0.later hb3
  replace hat0 := hat0.later hb3
  have hS3 := SF.later hH hb3
  go_wp2_with fail
  refine hK.out _ _ hS3 (fun hH2 => ?_)
  clear hK K hH hS3 hb3
  have hH := hH2
  clear hH2
  try simp only [Act.put, List.setIfInBounds_toArray, List.set_cons_zero, List.set_cons_succ]
  refine wpAnyH_take (i := 4) (oi := { dst := some 6, op := _, type := _, pos := _, after := _, guard := _ }) (v := ?_) rfl (by kernel_rfl) (by kernel_rfl) (by kernel_rfl) (fun _ _ _ h => h) (Or.inl ⟨by rfl, ?_⟩) hH ?_
  rotate_left
  · intro wz hSw
    (try dsimp only at hSw)
    first | (go_simp; done) | (go_simp; with_reducible rfl)
  try simp only [Act.put, List.setIfInBounds_toArray, List.set_cons_zero, List.set_cons_succ]
  refine wpAnyH_ready (rs := [5]) (by kernel_rfl) (by simp) ?_
  refine AllReadyH.cons (o := { dst := none, op := _, type := _, pos := _, after := _, guard := _ }) rfl (fun K hK => ?_) AllReadyH.nil
  obtain ⟨bl, ⟨u0, z0⟩, ⟨u1, z1⟩, ⟨u2, z2⟩, fz⟩ := BY0
  go_simp
  have hy := cells_put3 z0 z1 z2 ((.int .i64 v.sw)) ((.bool v.up)) ((.slice y v.b.length m))
  have hk3 := keeps_put3 W2 w.heap.size ((.int .i64 v.sw)) ((.bool v.up)) ((.slice y v.b.length m))
  have V5 := (V3.kept hk3).loose
  have hat5 := (hat0.turn (g' := some w.heap.size) hk3 (fun k e => .inl e)).loose
  have hS5 := SF.put hH (Nat.lt_succ_self _) ((.int .i64 v.sw)) ((.bool v.up)) ((.slice y v.b.length m))
  clear hk3 V3 z0 z1 z2 fz bl hat0
  generalize hV : put3 W2 w.heap.size ((.int .i64 v.sw)) ((.bool v.up)) ((.slice y v.b.length m)) = W5 at hy hS5 V5 hat5
  unfold put3 at hV
  rw [hV]
  clear hV
  refine hK.out _ _ hS5 (fun hH2 => ?_)
  clear hK K hH hS5
  have hH := hH2
  clear hH2
  try simp only [Act.put, List.setIfInBounds_toArray, List.set_cons_zero, List.set_cons_succ]
  refine wpAnyH_take (i := 6) (oi := { dst := some 8, op := _, type := _, pos := _, after := _, guard := _ }) (v := ?_) rfl (by kernel_rfl) (by kernel_rfl) (by kernel_rfl) (fun _ _ _ h => h) (Or.inl ⟨by rfl, ?_⟩) hH ?_
  rotate_left
  · intro wz hSw
    (try dsimp only at hSw)
    first | (go_simp; done) | (go_simp; with_reducible rfl)
  try simp only [Act.put, List.setIfInBounds_toArray, List.set_cons_zero, List.set_cons_succ]
  refine wpAnyH_done (by kernel_rfl) ?_ _
  refine NoPanic.normal ?_
  obtain ⟨f0, f1, f2⟩ := hy
  go_wp2_with fail
  refine bodyPost_ret (v := .tuple #[.slice y3 L.length k3, vW ⟨v.sw, v.up, y, v.b.length, m⟩, .bool true]) (by simp [results, Try.results13, go_sem, f0, f1, f2, noC]) rfl ?_
  exact ⟨y3, k3, ⟨v.sw, v.up, y, v.b.length, m⟩, rfl, V5, hat5, hH.1⟩
set_option maxRecDepth 100000 in
set_option maxHeartbeats 4000000 in
theorem fateC_deliver (w : World) {a : Option Addr} {c : Nat} {L : List Wr} (V : Wires none w a c L) (hL : Bw 200 300 L) {j : Nat} (hj : j < L.length) :
    Calls Try.prog 13 #[.slice a L.length c, .int .i64 (j : Nat), .int .i64 0] w fun e w' => ∃ y k q, e = .returned (.tuple #[.slice y (L.eraseIdx j).length k, vW q, .bool true]) ∧ Wires none w' y k (L.eraseIdx j) ∧ WireAt none w' q (L.getD j noW) ∧ Below w.heap.size w w' := by
  have hmx := Nat.le_trans V.le V.max
  unfold maxLen at hmx
  have hb0 := below_new w (.cells #[.int .i64 0, .bool false, .slice none 0 0] 25)
  have y0 := boxW w (.int .i64 0) (.bool false) (.slice none 0 0) 25
  have yf : ∀ j, (w.alloc (.cells #[.int .i64 0, .bool false, .slice none 0 0] 25)).frozen? ⟨w.heap.size, j, none⟩ = false := fun j => by unfold World.frozen?; rw [heap_alloc_new]; simp
  have yl : w.heap.size < (w.alloc (.cells #[.int .i64 0, .bool false, .slice none 0 0] 25)).heap.size := by simp
  have BY : BoxAt w.heap.size (w.alloc (.cells #[.int .i64 0, .bool false, .slice none 0 0] 25)) := ⟨yl, ⟨_, y0.1⟩, ⟨_, y0.2.1⟩, ⟨_, y0.2.2⟩, yf⟩
  have es : (w.alloc (.cells #[.int .i64 0, .bool false, .slice none 0 0] 25)).heap.size = w.heap.size + 1 := by simp
  clear y0 yf yl
  have hb1 := below_new (w.alloc (.cells #[.int .i64 0, .bool false, .slice none 0 0] 25)) (.cells #[.int .i64 0, .bool false, .slice none 0 0] 25)
  have x0 := boxW (w.alloc (.cells #[.int .i64 0, .bool false, .slice none 0 0] 25)) (.int .i64 0) (.bool false) (.slice none 0 0) 25
  have xf : ∀ j, ((w.alloc (.cells #[.int .i64 0, .bool false, .slice none 0 0] 25)).alloc (.cells #[.int .i64 0, .bool false, .slice none 0 0] 25)).frozen? ⟨(w.alloc (.cells #[.int .i64 0, .bool false, .slice none 0 0] 25)).heap.size, j, none⟩ = false := fun j => by unfold World.frozen?; rw [heap_alloc_new]; simp
  have xl : (w.alloc (.cells #[.int .i64 0, .bool false, .slice none 0 0] 25)).heap.size < ((w.alloc (.cells #[.int .i64 0, .bool false, .slice none 0 0] 25)).alloc (.cells #[.int .i64 0, .bool false, .slice none 0 0] 25)).heap.size := by simp
  rw [es] at x0 xf xl
  replace BY := BY.later hb1
  replace hb0 := below_step hb0 hb1
  clear hb1
  have HL : Hid (Bw 1000 1000 (L.eraseIdx j)) := ⟨Nat.le_trans (List.length_eraseIdx_le L _) (Nat.le_trans hL.1 (by decide)), fun x hx => Nat.le_trans (hL.2 x (List.mem_of_mem_eraseIdx hx)) (by decide)⟩
  have HLL : Hid (L.length ≤ 100000) := Nat.le_trans hL.1 (by decide)
  have hjz : (j : Int) < (L.length : Int) := by omega
  have BX : BoxAt (w.heap.size + 1) ((w.alloc (.cells #[.int .i64 0, .bool false, .slice none 0 0] 25)).alloc (.cells #[.int .i64 0, .bool false, .slice none 0 0] 25)) := ⟨xl, ⟨_, x0.1⟩, ⟨_, x0.2.1⟩, ⟨_, x0.2.2⟩, xf⟩
  obtain ⟨v, hv⟩ := getW hj
  have hgv := getD_of hv
  have hvb := hL.2 v (List.mem_of_getElem? hv)
  have V1 := (V.far (u := some (w.heap.size + 1)) (fun k e => by cases e; exact Nat.le_succ _)).later hb0
  obtain ⟨b, o, x, mm, rfl, hbb, c0, c1, c2, hat⟩ := V1.at hv
  rw [hgv]
  have cO := own_any ((w.alloc (.cells #[.int .i64 0, .bool false, .slice none 0 0] 25)).alloc (.cells #[.int .i64 0, .bool false, .slice none 0 0] 25)) hat (by omega)
  clear V hv hgv hvb hat xl xf x0 es
  go_enter Try.func13, Try.ntmps13
  go_wp2_with fail
  generalize (w.alloc (.cells #[.int .i64 0, .bool false, .slice none 0 0] 25)).alloc (.cells #[.int .i64 0, .bool false, .slice none 0 0] 25) = W0 at hb0 BX BY V1 cO ⊢
  refine cO.mono ?_
  clear cO c0 c1 c2 hbb
  rintro e W1 ⟨y, m, rfl, hy, hat, hb1⟩
  replace hy : ∀ z, y = some z → w.heap.size + 1 < z.block := fun z e => Nat.lt_of_lt_of_le BX.lt (hy z e)
  have HY : Hid _ := hy
  replace BX := BX.later hb1
  replace BY := BY.later hb1
  replace V1 := V1.later hb1
  replace hb0 := below_step hb0 hb1
  clear hb1 hy
  have xl := BX.lt
  obtain ⟨-, ⟨a0, x0⟩, ⟨a1, x1⟩, ⟨a2, x2⟩, xf⟩ := BX
  go_wp2_with fail
  have hk := keeps_put3 W1 (w.heap.size + 1) (.int .i64 v.sw) (.bool v.up) (.slice y v.b.length m)
  have hS : SF w (put3 W1 (w.heap.size + 1) (.int .i64 v.sw) (.bool v.up) (.slice y v.b.length m)) (w.heap.size + 1) (.int .i64 v.sw) (.bool v.up) (.slice y v.b.length m) := ⟨below_put3 hb0 (Nat.le_succ _) _ _ _, Nat.lt_of_lt_of_le xl hk.size, cells_put3 x0 x1 x2 _ _ _⟩
  replace BY := BY.kept hk (Nat.succ_ne_self _)
  replace V1 := (V1.kept hk).loose
  have hat1 : WireAt (some w.heap.size) (put3 W1 (w.heap.size + 1) (.int .i64 v.sw) (.bool v.up) (.slice y v.b.length m)) ⟨v.sw, v.up, y, v.b.length, m⟩ v :=
    wireAt_far ((wireAt_far hat HY.out).turn (g' := some (w.heap.size + 1)) hk (fun k e => .inl e)).loose (fun z e => Nat.lt_trans (Nat.lt_succ_self _) (HY.out z e))
  have hb2 := hS.1
  generalize hV : put3 W1 (w.heap.size + 1) (.int .i64 v.sw) (.bool v.up) (.slice y v.b.length m) = W at hS BY V1 hat1 hb2
  unfold put3 at hV
  rw [hV]
  clear hV hk x0 x1 x2 xf xl hat HY hb0
  have cW := withoutC_any _ V1 hj HLL.out
  clear V1
  go_wp2_with fail
  refine cW.mono ?_
  clear cW
  rintro e W3 ⟨y2, k2, rfl, V1, hb1⟩
  replace hS := hS.later hb1
  replace BY := BY.later hb1
  replace hat1 := hat1.later hb1
  clear hb1 hb2 W
  go_wp2_with fail
  generalize W3 = W at hS BY V1 hat1 ⊢
  have S0 : SF w W.drew (w.heap.size + 1) (.int .i64 v.sw) (.bool v.up) (.slice y v.b.length m) := hS.later (Below.refl _ _).drew
  have V0 := V1.later (Below.refl W.heap.size W).drew
  have BY0 := BY.later (Below.refl W.heap.size W).drew
  have hat0 := hat1.later (Below.refl W.heap.size W).drew
  clear hS BY V1 hat1
  refine wp_region_noPanic ?_
  refine wp_region_held_drew (S := fun w' => SF w w' (w.heap.size + 1) (.int .i64 v.sw) (.bool v.up) (.slice y v.b.length m)) (by kernel_rfl) S0 (fun hH => ?_)
  clear S0
  generalize W.drew = Wd at hH V0 BY0 hat0 ⊢
  refine wpAnyH_take (i := 0) (oi := { dst := some 45, op := _, type := _, pos := _, after := _, guard := _ }) (v := ?_) rfl (by kernel_rfl) (by kernel_rfl) (by kernel_rfl) (fun _ _ _ h => h) (Or.inl ⟨by rfl, ?_⟩) hH ?_
  rotate_left
  · intro wz hSw
    (try dsimp only at hSw)
    first | (go_simp; done) | (go_simp; with_reducible rfl)
  try simp only [Act.put, List.setIfInBounds_toArray, List.set_cons_zero, List.set_cons_succ]
  refine wpAnyH_take (i := 2) (oi := { dst := some 47, op := _, type := _, pos := _, after := _, guard := _ }) (v := ?_) rfl (by kernel_rfl) (by kernel_rfl) (by kernel_rfl) (fun _ _ _ h => h) (Or.inl ⟨by rfl, ?_⟩) hH ?_
  rotate_left
  · intro wz hSw
    (try dsimp only at hSw)
    obtain ⟨-, -, z0, z1, z2⟩ := hSw
    first | (go_simp; done) | (go_simp; with_reducible rfl)
  try simp only [Act.put, List.setIfInBounds_toArray, List.set_cons_zero, List.set_cons_succ]
  refine wpAnyH_take (i := 3) (oi := { dst := some 48, op := _, type := _, pos := _, after := _, guard := _ }) (v := ?_) rfl (by kernel_rfl) (by kernel_rfl) (by kernel_rfl) (fun _ _ _ h => h) (Or.inl ⟨by rfl, ?_⟩) hH ?_
  rotate_left
  · intro wz hSw
    (try dsimp only at hSw)
    first | (go_simp; done) | (go_simp; with_reducible rfl)
  try simp only [Act.put, List.setIfInBounds_toArray, List.set_cons_zero, List.set_cons_succ]
  refine wpAnyH_ready (rs := [1]) (by kernel_rfl) (by simp) ?_
  refine AllReadyH.cons (o := { dst := some 46, op := _, type := _, pos := _, after := _, guard := _ }) rfl (fun K hK => ?_) AllReadyH.nil
  go_simp
  refine (copiedW_any _ V0 rfl HL.out).mono ?_
  rintro e W2 ⟨y3, k3, rfl, hV3, hb3⟩
  have V3 := hV3 (some w.heap.size) (fun k e => by cases e; exact BY0.lt)
  clear hV3 V0
  replace BY0 := BY0.later hb3
  replace hat0 := hat0.later hb3
  have hS3 := SF.later hH hb3
  go_wp2_with fail
  refine hK.out _ _ hS3 (fun hH2 => ?_)
  clear hK K hH hS3 hb3
  have hH := hH2
  clear hH2
  try simp only [Act.put, List.setIfInBounds_toArray, List.set_cons_zero, List.set_cons_succ]
  refine wpAnyH_take (i := 4) (oi := { dst := some 6, op := _, type := _, pos := _, after := _, guard := _ }) (v := ?_) rfl (by kernel_rfl) (by kernel_rfl) (by kernel_rfl) (fun _ _ _ h => h) (Or.inl ⟨by rfl, ?_⟩) hH ?_
  rotate_left
  · intro wz hSw
    (try dsimp only at hSw)
    first | (go_simp; done) | (go_simp; with_reducible rfl)
  try simp only [Act.put, List.setIfInBounds_toArray, List.set_cons_zero, List.set_cons_succ]
  refine wpAnyH_ready (rs := [5]) (by kernel_rfl) (by simp) ?_
  refine AllReadyH.cons (o := { dst := none, op := _, type := _, pos := _, after := _, guard := _ }) rfl (fun K hK => ?_) AllReadyH.nil
  obtain ⟨bl, ⟨u0, z0⟩, ⟨u1, z1⟩, ⟨u2, z2⟩, fz⟩ := BY0
  go_simp
  have hy := cells_put3 z0 z1 z2 ((.int .i64 v.sw)) ((.bool v.up)) ((.slice y v.b.length m))
  have hk3 := keeps_put3 W2 w.heap.size ((.int .i64 v.sw)) ((.bool v.up)) ((.slice y v.b.length m))
  have V5 := (V3.kept hk3).loose
  have hat5 := (hat0.turn (g' := some w.heap.size) hk3 (fun k e => .inl e)).loose
  have hS5 := SF.put hH (Nat.lt_succ_self _) ((.int .i64 v.sw)) ((.bool v.up)) ((.slice y v.b.length m))
  clear hk3 V3 z0 z1 z2 fz bl hat0
  generalize hV : put3 W2 w.heap.size ((.int .i64 v.sw)) ((.bool v.up)) ((.slice y v.b.length m)) = W5 at hy hS5 V5 hat5
  unfold put3 at hV
  rw [hV]
  clear hV
  refine hK.out _ _ hS5 (fun hH2 => ?_)
  clear hK K hH hS5
  have hH := hH2
  clear hH2
  try simp only [Act.put, List.setIfInBounds_toArray, List.set_cons_zero, List.set_cons_succ]
  refine wpAnyH_take (i := 6) (oi := { dst := some 8, op := _, type := _, pos := _, after := _, guard := _ }) (v := ?_) rfl (by kernel_rfl) (by kernel_rfl) (by kernel_rfl) (fun _ _ _ h => h) (Or.inl ⟨by rfl, ?_⟩) hH ?_
  rotate_left
  · intro wz hSw
    (try dsimp only at hSw)
    first | (go_simp; done) | (go_simp; with_reducible rfl)
  try simp only [Act.put, List.setIfInBounds_toArray, List.set_cons_zero, List.set_cons_succ]
  refine wpAnyH_done (by kernel_rfl) ?_ _
  refine NoPanic.normal ?_
  obtain ⟨f0, f1, f2⟩ := hy
  go_wp2_with fail
  refine bodyPost_ret (v := .tuple #[.slice y3 (L.eraseIdx j).length k3, vW ⟨v.sw, v.up, y, v.b.length, m⟩, .bool true]) (by simp [results, Try.results13, go_sem, f0, f1, f2, noC]) rfl ?_
  exact ⟨y3, k3, ⟨v.sw, v.up, y, v.b.length, m⟩, rfl, V5, hat5, hH.1⟩
theorem wcode : WCode where
  send := by
    intro w u g' a c L p v V hat hL hv hu
    by_cases h : L.length < 60
    · obtain ⟨e1, e2⟩ := send_room (x := v) h
      rw [e1, e2]
      exact sendC_room w V hat hL hv hu h
    · obtain ⟨e1, e2⟩ := send_full (x := v) h
      rw [e1, e2]
      exact sendC_full w V hL hu h
  fate := by
    intro w a c L V hL at_ f
    by_cases h0 : at_ < 0
    · obtain ⟨e1, e2, e3⟩ := fate_out (f := f) (in_no (l := L) (.inl h0))
      rw [e1, e2, e3]
      exact fateC_out w V hL at_ f (.inl h0)
    by_cases h1 : (L.length : Int) ≤ at_
    · obtain ⟨e1, e2, e3⟩ := fate_out (f := f) (in_no (l := L) (.inr h1))
      rw [e1, e2, e3]
      exact fateC_out w V hL at_ f (.inr ⟨h0, h1⟩)
    obtain ⟨j, rfl⟩ : ∃ j : Nat, at_ = (j : Int) := ⟨at_.toNat, by omega⟩
    have hj : j < L.length := by omega
    by_cases f0 : f = 0
    · subst f0
      obtain ⟨e1, e2, e3⟩ := fate_deliver hj
      rw [e1, e2, e3]
      exact fateC_deliver w V hL hj
    by_cases f1 : f = 1
    · subst f1
      obtain ⟨e1, e2, e3⟩ := fate_lose hj
      rw [e1, e2, e3]
      exact fateC_lose w V hL hj
    by_cases f2 : f = 2
    · subst f2
      obtain ⟨e1, e2, e3⟩ := fate_twice hj
      rw [e1, e2, e3]
      exact fateC_twice w V hL hj
    obtain ⟨e1, e2, e3⟩ := fate_none (l := L) (at_ := (j : Int)) f0 f1 f2
    rw [e1, e2, e3]
    exact fateC_none w V hL hj f f0 f1 f2
end Go.Proofs.Ytoedgnkoahcblaa
