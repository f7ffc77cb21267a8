/- Tables that are the call's own: a row of versions, and each version's rules in a row of their own, each row in a block of its own. -/
import Derived.Test.YtlfnciiomfcjpaaTabPut
namespace Go.Proofs.Ytlfnciiomfcjpaa
open Go.ChangeShapes Go.WideShapes Go.ChangeAt Go.RowKit Pk Tb
set_option linter.unusedVariables false
set_option linter.unusedSimpArgs false

/-- the block that a version's rules lie in -/
def blkOf (p : Vc) : Option Nat := p.x.map Addr.block
theorem blk_own (p : Vc) : (Value.slice p.x p.n p.c).ownBlock = blkOf p := by
  obtain ⟨t, x, n, c⟩ := p
  cases x <;> rfl
/-- two versions' rules lie in other blocks -/
def Diff (p q : Vc) : Prop := ∀ k, blkOf p = some k → blkOf q ≠ some k
theorem Diff.symm {p q : Vc} (h : Diff p q) : Diff q p := fun k h1 h2 => h k h2 h1
/-- the cells p stand for the version v; its rules are the call's own, from the block B on -/
structure RowAt (B : Nat) (w : World) (p : Vc) (v : Vr) : Prop where
  t : p.t = v.t
  wf : (Lit.int .i64 v.t).wf = true
  n : p.n = v.l.length
  own : w.ownsRow B 28 6 (.slice p.x p.n p.c) v.l.length (flatV fR v.l)
  wfs : ∀ y ∈ v.l, ∀ z ∈ fR y, (Lit.int .i64 z).wf = true
theorem own_base {w : World} {B B' e sz n : Nat} {v : Value} {xs : List Value} (h : w.ownsRow B e sz v n xs) (hB : B' ≤ B) : w.ownsRow B' e sz v n xs := by
  refine ⟨h.1, ?_⟩
  rcases h.2 with h0 | ⟨g, cap, cur, hv, hbg, rest⟩
  · exact .inl h0
  · exact .inr ⟨g, cap, cur, hv, Nat.le_trans hB hbg, rest⟩
section
variable {B B' : Nat} {w w' : World} {p : Vc} {v : Vr}
theorem RowAt.later (h : RowAt B w p v) (hb : Below w.heap.size w w') : RowAt B w' p v := ⟨h.t, h.wf, h.n, own_laterR h.own hb, h.wfs⟩
theorem RowAt.low (h : RowAt B w p v) (hB : B' ≤ B) : RowAt B' w p v := ⟨h.t, h.wf, h.n, own_base h.own hB, h.wfs⟩
theorem RowAt.kept {row : Option Nat} (h : RowAt B w p v) (hg : w.grownBy w' row) (hne : ∀ k, blkOf p = some k → row ≠ some k) : RowAt B w' p v := by
  refine ⟨h.t, h.wf, h.n, h.own.kept hg ?_, h.wfs⟩
  rw [blk_own]
  cases e : blkOf p with
  | none => exact .inl rfl
  | some k => exact .inr fun e2 => hne k e e2.symm
theorem RowAt.lt (h : RowAt B w p v) {k : Nat} (hk : blkOf p = some k) : B ≤ k ∧ k < w.heap.size := h.own.lt k (by rw [blk_own]; exact hk)
theorem RowAt.rds (h : RowAt B w p v) : Rds fR 6 w p.x p.c v.l := by
  obtain ⟨a, c, e, R⟩ := rds_of_owns fR_len h.own rfl h.wfs
  injection e with e1 e2 e3
  rw [e1, e3]
  exact R
theorem RowAt.ver (h : RowAt B w p v) : VerAt B none w p v :=
  ⟨h.t, h.wf, h.n, h.rds, fun y hy _ => (h.lt (k := y.block) (by rw [blkOf, hy]; rfl)).1, fun y hy _ => (h.lt (k := y.block) (by rw [blkOf, hy]; rfl)).2, fun y hy _ e => by cases e⟩
end
theorem all2_of {α β : Type} {P : α → β → Prop} : ∀ {l : List α} {m : List β}, l.length = m.length → (∀ (i : Nat) (x : α) (y : β), l[i]? = some x → m[i]? = some y → P x y) → All2 P l m
  | [], [], _, _ => .nil
  | [], y :: m, e, _ => by cases e
  | x :: l, [], e, _ => by cases e
  | x :: l, y :: m, e, h => .cons (h 0 x y rfl rfl) (all2_of (Nat.succ.inj e) fun i a b ha hb => h (i + 1) a b ha hb)
theorem all2_at {α β : Type} {P : α → β → Prop} {l : List α} {m : List β} (h : All2 P l m) : ∀ {i : Nat} {x : α} {y : β}, l[i]? = some x → m[i]? = some y → P x y := by
  induction h with
  | nil => intro i x y h; simp at h
  | cons h1 _ ih =>
    intro i x y hx hy
    cases i with
    | zero => simp at hx hy; subst hx; subst hy; exact h1
    | succ i => exact ih (by simpa using hx) (by simpa using hy)
theorem all2_mem {α β : Type} {P : α → β → Prop} {l : List α} {m : List β} (h : All2 P l m) : ∀ {x : α}, x ∈ l → ∃ y ∈ m, P x y := by
  induction h with
  | nil => intro x h; cases h
  | cons h1 _ ih =>
    intro x hx
    rcases List.mem_cons.1 hx with rfl | hx
    · exact ⟨_, List.mem_cons_self, h1⟩
    · obtain ⟨y, hy, hp⟩ := ih hx
      exact ⟨y, List.mem_cons_of_mem _ hy, hp⟩
theorem all2_drop {α β : Type} {P : α → β → Prop} {l : List α} {m : List β} (h : All2 P l m) : ∀ i, All2 P (l.drop i) (m.drop i) := by
  induction h with
  | nil => intro i; rw [List.drop_nil, List.drop_nil]; exact .nil
  | cons h1 h2 ih =>
    intro i
    cases i with
    | zero => exact .cons h1 h2
    | succ i => exact ih i
theorem all2_erase {α β : Type} {P : α → β → Prop} {l : List α} {m : List β} (h : All2 P l m) : ∀ i, All2 P (l.eraseIdx i) (m.eraseIdx i) := by
  induction h with
  | nil => intro i; exact .nil
  | cons h1 h2 ih =>
    intro i
    cases i with
    | zero => exact h2
    | succ i => exact .cons h1 (ih i)
/-- the table l at the slice v is the call's own, from the block B on -/
def Mine (B : Nat) (w : World) (v : Value) (l : List Vr) : Prop :=
  ∃ ps, w.ownsRow B 47 2 v l.length (flatW fV ps) ∧ All2 (RowAt B w) ps l ∧ (∀ p ∈ ps, ∀ k, blkOf p = some k → v.ownBlock ≠ some k) ∧ ps.Pairwise Diff
section
variable {B B' : Nat} {w w' w1 : World} {v u : Value} {l : List Vr}
theorem Mine.later (h : Mine B w v l) (hb : Below w.heap.size w w') : Mine B w' v l := by
  obtain ⟨ps, h1, h2, h3, h4⟩ := h
  exact ⟨ps, own_laterW h1 hb, all2_imp h2 fun _ _ h => h.later hb, h3, h4⟩
theorem Mine.low (h : Mine B w v l) (hB : B' ≤ B) : Mine B' w v l := by
  obtain ⟨ps, h1, h2, h3, h4⟩ := h
  exact ⟨ps, own_base h1 hB, all2_imp h2 fun _ _ h => h.low hB, h3, h4⟩
theorem Mine.empty (B : Nat) (w : World) : Mine B w (.slice none 0 0) [] := ⟨[], World.ownsRow_nil _ _ _ _, .nil, fun p hp => (by cases hp), .nil⟩
theorem Mine.vers (h : Mine B w v l) : ∃ a c, v = .slice a l.length c ∧ Vers B w a c l ∧ Loose w a l := by
  obtain ⟨ps, h1, h2, h3, h4⟩ := h
  obtain ⟨a, c, e, R, hlo⟩ := rdv_of_owns2 fV_len h1 (all2_len h2)
  refine ⟨a, c, e, ⟨ps, R, fun y hy _ => (hlo y hy).1, all2_imp h2 fun _ _ h => h.ver⟩, ?_⟩
  intro b o i v x k ha hv hne hc j
  obtain ⟨p, hp, hat⟩ := all2_get h2 hv
  obtain ⟨b2, o2, e2, hlt, hcs⟩ := R.at hp
  rw [ha] at e2
  cases e2
  have h5 := hcs 1 _ rfl
  rw [h5] at hc
  have own := hat.own
  rcases own.2 with ⟨e3, h0⟩ | ⟨g, cap, cur, e3, rest⟩
  · exact absurd (List.eq_nil_of_length_eq_zero h0) hne
  · rw [e3] at own
    simp only [Option.some.injEq, Value.slice.injEq] at hc e3
    have e4 := hc.1.symm.trans e3.1
    cases e4
    exact own.frozenAt j
/-- a table of two cells an element: one cell set -/
theorem flat_get (ps : List Vc) {i : Nat} {p : Vc} (hp : ps[i]? = some p) : (flatW fV ps)[i * 2]? = some (.int .i64 p.t) ∧ (flatW fV ps)[i * 2 + 1]? = some (.slice p.x p.n p.c) := by
  have h0 := flatW_get fV_len hp (j := 0) rfl
  have h1 := flatW_get fV_len hp (j := 1) rfl
  exact ⟨h0, h1⟩
theorem pair_at {ps : List Vc} (h : ps.Pairwise Diff) {i j : Nat} {p q : Vc} (hp : ps[i]? = some p) (hq : ps[j]? = some q) (hij : i ≠ j) : Diff p q := by
  obtain ⟨hi, rfl⟩ := List.getElem?_eq_some_iff.1 hp
  obtain ⟨hj, rfl⟩ := List.getElem?_eq_some_iff.1 hq
  rcases Nat.lt_or_gt_of_ne hij with h1 | h1
  · exact List.pairwise_iff_getElem.1 h i j hi hj h1
  · exact (List.pairwise_iff_getElem.1 h j i hj hi h1).symm
theorem pair_of {ps : List Vc} (h : ∀ (i j : Nat) (p q : Vc), i < j → ps[i]? = some p → ps[j]? = some q → Diff p q) : ps.Pairwise Diff :=
  List.pairwise_iff_getElem.2 fun i j hi hj hij => h i j _ _ hij (List.getElem?_eq_getElem hi) (List.getElem?_eq_getElem hj)
/-- one version of the table: its cells, its rules; and what becomes of the table when its rules are turned where they lie, or other ones are laid -/
theorem Mine.split (h : Mine B w v l) {i : Nat} {vi : Vr} (hv : l[i]? = some vi) : ∃ (g cap : Nat) (p : Vc), v = .slice (some ⟨g, 0, none⟩) l.length cap ∧ l.length ≤ cap ∧ B ≤ g ∧ g < w.heap.size ∧
    w.cell? ⟨g, i * 2, none⟩ = some (.int .i64 vi.t) ∧ w.cell? ⟨g, i * 2 + 1, none⟩ = some (.slice p.x vi.l.length p.c) ∧ RowAt B w p vi ∧ (∀ j, w.frozen? ⟨g, j, none⟩ = false) ∧
    (∀ (W : World) (b : Nat) (rs : List Rl), blkOf p = some b → w.grownBy W (some b) → RowAt B W p ⟨vi.t, rs⟩ → Mine B W v (l.set i ⟨vi.t, rs⟩)) ∧
    (∀ (W : World) (x : Option Addr) (c : Nat) (rs : List Rl), Below w.heap.size w W → W.ownsRow w.heap.size 28 6 (.slice x rs.length c) rs.length (flatV fR rs) → (∀ y ∈ rs, ∀ z ∈ fR y, (Lit.int .i64 z).wf = true) →
      Mine B (W.setCell ⟨g, i * 2 + 1, none⟩ (.slice x rs.length c)) v (l.set i ⟨vi.t, rs⟩)) := by
  obtain ⟨ps, h1, h2, h3, h4⟩ := h
  obtain ⟨p, hp, hat⟩ := all2_get h2 hv
  have hi : i < l.length := (List.getElem?_eq_some_iff.1 hv).1
  have hip : i < ps.length := (List.getElem?_eq_some_iff.1 hp).1
  have hgetD : ps.getD i default = p := by rw [List.getD_eq_getElem?_getD, hp]; rfl
  obtain ⟨f0, f1⟩ := flat_get ps hp
  rcases h1.2 with ⟨rfl, h0⟩ | ⟨g, cap, cur, rfl, hbg, hg, hle, hrest⟩
  · omega
  have hgl : g < w.heap.size := (Array.getElem?_eq_some_iff.1 hg).1
  have hn := hat.n
  refine ⟨g, cap, p, rfl, hle, hbg, hgl, ?_, ?_, hat, fun j => h1.frozenAt j, fun W b rs hb hgr hR => ?_, fun W x c rs hb own hw => ?_⟩
  · rw [h1.cellAt _ (by omega), f0, hat.t]
  · rw [h1.cellAt _ (by omega), f1, hn]
  · have hgb : g ≠ b := fun e => h3 p (List.mem_of_getElem? hp) b hb (by rw [← e]; rfl)
    refine ⟨ps, ?_, ?_, h3, h4⟩
    · rw [List.length_set]
      exact h1.kept hgr (.inr fun e => hgb (by cases e; rfl))
    · refine all2_of (by rw [List.length_set]; exact all2_len h2) fun j x y hx hy => ?_
      by_cases e : i = j
      · subst e
        rw [List.getElem?_set_self hi] at hy
        cases hy
        rw [hp] at hx; cases hx
        exact hR
      · rw [List.getElem?_set_ne e] at hy
        exact (all2_at h2 hx hy).kept hgr fun k hk e2 => by
          cases e2
          exact pair_at h4 hp hx e _ hb hk
  · have own1 := own_laterW h1 hb
    obtain ⟨own2, hg2⟩ := own1.stored (i * 2 + 1) (.slice x rs.length c)
    rw [fV_set ps i x rs.length c hip, hgetD] at own2
    have hnew : ∀ k, blkOf ⟨p.t, x, rs.length, c⟩ = some k → w.heap.size ≤ k := fun k hk => (own.lt k (by rw [← hk]; exact blk_own ⟨p.t, x, rs.length, c⟩)).1
    have hold : ∀ {j : Nat} {q : Vc}, ps[j]? = some q → ∀ k, blkOf q = some k → k < w.heap.size := fun {j q} hq k hk => by
      obtain ⟨y, -, hy⟩ := all2_mem h2 (List.mem_of_getElem? hq)
      exact (hy.lt hk).2
    refine ⟨_, by rw [List.length_set]; exact own2, all2_of (by rw [List.length_set, List.length_set]; exact all2_len h2) fun j a b ha hb2 => ?_, fun q hq k hk e => ?_, pair_of fun j j2 q q2 hjj hq hq2 => ?_⟩
    · by_cases e : i = j
      · subst e
        rw [List.getElem?_set_self hi] at hb2
        rw [List.getElem?_set_self hip] at ha
        cases hb2; cases ha
        refine ⟨hat.t, hat.wf, rfl, own_base (own.kept hg2 ?_) (Nat.le_trans hbg (Nat.le_of_lt hgl)), hw⟩
        have e1 := blk_own ⟨p.t, x, rs.length, c⟩
        dsimp only at e1
        rw [e1]
        cases e3 : blkOf ⟨p.t, x, rs.length, c⟩ with
        | none => exact .inl rfl
        | some k =>
          refine .inr fun e2 => ?_
          cases e2
          have := hnew _ e3
          omega
      · rw [List.getElem?_set_ne e] at hb2 ha
        refine ((all2_at h2 ha hb2).later hb).kept hg2 fun k hk e2 => ?_
        exact h3 a (List.mem_of_getElem? ha) k hk e2
    · rcases List.mem_or_eq_of_mem_set hq with h5 | h5
      · exact h3 q h5 k hk e
      · rw [h5] at hk
        have := hnew _ hk
        have e5 : g = k := Option.some.inj e
        omega
    · by_cases e : i = j
      · subst e
        rw [List.getElem?_set_self hip] at hq
        cases hq
        rw [List.getElem?_set_ne (by omega)] at hq2
        intro k h5 h6
        have := hnew _ h5
        have := hold hq2 _ h6
        omega
      · rw [List.getElem?_set_ne e] at hq
        by_cases e2 : i = j2
        · subst e2
          rw [List.getElem?_set_self hip] at hq2
          cases hq2
          intro k h5 h6
          have := hnew _ h6
          have := hold hq _ h5
          omega
        · rw [List.getElem?_set_ne e2] at hq2
          exact pair_at h4 hq hq2 (by omega)
/-- one more version, in a new row -/
theorem mine_ins {ps : List Vc} (h2 : All2 (RowAt B w) ps l) (h4 : ps.Pairwise Diff) {y : Vc} {vy : Vr} (hy : RowAt B w y vy) (hyd : ∀ p ∈ ps, Diff p y) {k : Nat} (hb : Below w.heap.size w w1) (hB : B ≤ w.heap.size)
    (own : w1.ownsRow w.heap.size 47 2 u (l.length + 1) (flatW fV (ps.take k ++ y :: ps.drop k))) : Mine B w1 u (l.take k ++ vy :: l.drop k) := by
  have hmem : ∀ q, q ∈ ps.take k ++ y :: ps.drop k → q = y ∨ q ∈ ps := fun q hq => by
    rcases List.mem_append.1 hq with h | h
    · exact .inr (List.mem_of_mem_take h)
    · rcases List.mem_cons.1 h with h | h
      · exact .inl h
      · exact .inr (List.mem_of_mem_drop h)
  have hlen : (l.take k ++ vy :: l.drop k).length = l.length + 1 := by
    rw [List.length_append, List.length_cons, List.length_take, List.length_drop]; omega
  refine ⟨_, by rw [hlen]; exact own_base own hB, all2_app (all2_take (all2_imp h2 fun _ _ h => h.later hb) k) (.cons (hy.later hb) (all2_drop (all2_imp h2 fun _ _ h => h.later hb) k)), fun q hq j hj e => ?_, ?_⟩
  · have hlt : j < w.heap.size := by
      rcases hmem q hq with rfl | h
      · exact (hy.lt hj).2
      · obtain ⟨z, -, hz⟩ := all2_mem h2 h
        exact (hz.lt hj).2
    have := (own.lt j e).1
    omega
  · have h5 : (ps.take k ++ ps.drop k).Pairwise Diff := by rw [List.take_append_drop]; exact h4
    obtain ⟨h6, h7, h8⟩ := List.pairwise_append.1 h5
    refine List.pairwise_append.2 ⟨h6, List.pairwise_cons.2 ⟨fun q hq => (hyd q (List.mem_of_mem_drop hq)).symm, h7⟩, fun a ha b hb => ?_⟩
    rcases List.mem_cons.1 hb with rfl | hb
    · exact hyd a (List.mem_of_mem_take ha)
    · exact h8 a ha b hb
/-- one version fewer, in the same row -/
theorem mine_del {ps : List Vc} {g n cap i : Nat} (h2 : All2 (RowAt B w) ps l) (h3 : ∀ p ∈ ps, ∀ k, blkOf p = some k → g ≠ k) (h4 : ps.Pairwise Diff) (hg : w.grownBy w1 (some g)) (hn : (l.eraseIdx i).length = n)
    (own : w1.ownsRow B 47 2 (.slice (some ⟨g, 0, none⟩) n cap) n (flatW fV (ps.eraseIdx i))) : Mine B w1 (.slice (some ⟨g, 0, none⟩) n cap) (l.eraseIdx i) := by
  subst hn
  have hsub := List.eraseIdx_sublist (l := ps) (k := i)
  refine ⟨_, own, ?_, fun p hp k hk e => ?_, h4.sublist hsub⟩
  · refine all2_erase (all2_of (all2_len h2) fun j x y hx hy => (all2_at h2 hx hy).kept hg fun k hk e => ?_) i
    exact h3 x (List.mem_of_getElem? hx) k hk (by cases e; rfl)
  · exact h3 p (hsub.subset hp) k hk (by cases e; rfl)
/-- the row is laid whole; of its first k versions the rules have been copied, the others' cells are those of ps -/
def MineK (B : Nat) (w : World) (v : Value) (l : List Vr) (ps : List Vc) (k : Nat) : Prop :=
  ∃ qs, qs.length = k ∧ w.ownsRow B 47 2 v l.length (flatW fV (qs ++ ps.drop k)) ∧ All2 (RowAt B w) qs (l.take k) ∧ (∀ p ∈ qs, ∀ k, blkOf p = some k → v.ownBlock ≠ some k) ∧ qs.Pairwise Diff
theorem MineK.zero {ps : List Vc} (h : w.ownsRow B 47 2 v l.length (flatW fV ps)) : MineK B w v l ps 0 :=
  ⟨[], rfl, h, by rw [List.take_zero]; exact .nil, fun p hp => (by cases hp), .nil⟩
theorem MineK.done {ps : List Vc} {k : Nat} (h : MineK B w v l ps k) (hk : k = l.length) (hl : ps.length = l.length) : Mine B w v l := by
  obtain ⟨qs, hq, h1, h2, h3, h4⟩ := h
  rw [hk, List.take_length] at h2
  rw [hk, List.drop_eq_nil_of_le (by omega), List.append_nil] at h1
  exact ⟨qs, h1, h2, h3, h4⟩
/-- the next one's cells, and what the row is when its rules have been copied -/
theorem MineK.next {ps : List Vc} {k : Nat} {p : Vc} {vk : Vr} (h : MineK B w v l ps k) (hl : ps.length = l.length) (hp : ps[k]? = some p) (hv : l[k]? = some vk) (ht : p.t = vk.t) (hwf : (Lit.int .i64 vk.t).wf = true) (hw : ∀ y ∈ vk.l, ∀ z ∈ fR y, (Lit.int .i64 z).wf = true) :
    ∃ (g cap : Nat), v = .slice (some ⟨g, 0, none⟩) l.length cap ∧ B ≤ g ∧ g < w.heap.size ∧ w.cell? ⟨g, k * 2, none⟩ = some (.int .i64 p.t) ∧ w.cell? ⟨g, k * 2 + 1, none⟩ = some (.slice p.x p.n p.c) ∧ (∀ j, w.frozen? ⟨g, j, none⟩ = false) ∧
    (∀ (W : World) (x : Option Addr) (c : Nat), Below w.heap.size w W → W.ownsRow w.heap.size 28 6 (.slice x vk.l.length c) vk.l.length (flatV fR vk.l) →
      MineK B (W.setCell ⟨g, k * 2 + 1, none⟩ (.slice x vk.l.length c)) v l ps (k + 1)) := by
  obtain ⟨qs, hq, h1, h2, h3, h4⟩ := h
  have hk : k < l.length := (List.getElem?_eq_some_iff.1 hv).1
  have hkp : k < ps.length := by omega
  have hd : qs ++ ps.drop k = qs ++ p :: ps.drop (k + 1) := by
    rw [List.drop_eq_getElem_cons hkp]
    have := (List.getElem?_eq_some_iff.1 hp).2
    rw [this]
  have hget : (qs ++ ps.drop k)[k]? = some p := by
    rw [hd, List.getElem?_append_right (by omega), hq, Nat.sub_self]; rfl
  obtain ⟨f0, f1⟩ := flat_get _ hget
  rcases h1.2 with ⟨rfl, h0⟩ | ⟨g, cap, cur, rfl, hbg, hg, hle, hrest⟩
  · omega
  have hgl : g < w.heap.size := (Array.getElem?_eq_some_iff.1 hg).1
  refine ⟨g, cap, rfl, hbg, hgl, ?_, ?_, fun j => h1.frozenAt j, fun W x c hb own => ?_⟩
  · rw [h1.cellAt _ (by omega), f0]
  · rw [h1.cellAt _ (by omega), f1]
  · have own1 := own_laterW h1 hb
    obtain ⟨own2, hg2⟩ := own1.stored (k * 2 + 1) (.slice x vk.l.length c)
    have hlq : k < (qs ++ ps.drop k).length := (List.getElem?_eq_some_iff.1 hget).1
    have hgetD : (qs ++ ps.drop k).getD k default = p := by rw [List.getD_eq_getElem?_getD, hget]; rfl
    rw [fV_set _ k x vk.l.length c hlq, hgetD, hd, List.set_append_right _ _ (by omega), hq, Nat.sub_self, List.set_cons_zero] at own2
    have hnew : ∀ j, blkOf ⟨p.t, x, vk.l.length, c⟩ = some j → w.heap.size ≤ j := fun j hj => (own.lt j (by rw [← hj]; exact blk_own ⟨p.t, x, vk.l.length, c⟩)).1
    have hold : ∀ {q : Vc}, q ∈ qs → ∀ j, blkOf q = some j → j < w.heap.size := fun {q} hq j hj => by
      obtain ⟨y, -, hy⟩ := all2_mem h2 hq
      exact (hy.lt hj).2
    have e1 := blk_own ⟨p.t, x, vk.l.length, c⟩
    dsimp only at e1
    have htk : l.take (k + 1) = l.take k ++ [vk] := by rw [List.take_add_one, hv]; rfl
    refine ⟨qs ++ [⟨p.t, x, vk.l.length, c⟩], by rw [List.length_append, hq]; rfl, by rw [List.append_assoc]; exact own2, ?_, fun q hq j hj e => ?_, ?_⟩
    · rw [htk]
      refine all2_app ?_ (.cons ⟨ht, hwf, rfl, own_base (own.kept hg2 ?_) (Nat.le_trans hbg (Nat.le_of_lt hgl)), hw⟩ .nil)
      · refine all2_of (all2_len h2) fun j a b ha hb2 => ((all2_at h2 ha hb2).later hb).kept hg2 fun k hk e2 => ?_
        exact h3 a (List.mem_of_getElem? ha) k hk e2
      · rw [e1]
        cases e3 : blkOf ⟨p.t, x, vk.l.length, c⟩ with
        | none => exact .inl rfl
        | some k =>
          refine .inr fun e2 => ?_
          cases e2
          have := hnew _ e3
          omega
    · rcases List.mem_append.1 hq with h5 | h5
      · exact h3 q h5 j hj e
      · rw [List.mem_singleton.1 h5] at hj
        have := hnew _ hj
        have e5 : g = j := Option.some.inj e
        omega
    · refine List.pairwise_append.2 ⟨h4, List.pairwise_singleton _ _, fun a ha b hb2 => ?_⟩
      rw [List.mem_singleton.1 hb2]
      intro j h5 h6
      have := hnew _ h6
      have := hold ha _ h5
      omega
theorem MineK.later {ps : List Vc} {k : Nat} (h : MineK B w v l ps k) (hb : Below w.heap.size w w') : MineK B w' v l ps k := by
  obtain ⟨qs, hq, h1, h2, h3, h4⟩ := h
  exact ⟨qs, hq, own_laterW h1 hb, all2_imp h2 fun _ _ h => h.later hb, h3, h4⟩
end
end Go.Proofs.Ytlfnciiomfcjpaa
