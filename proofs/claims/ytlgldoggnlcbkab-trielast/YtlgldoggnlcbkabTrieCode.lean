/- What the statements on package trie ask of its functions holds of the code that landed. -/
import Derived.Test.YtlgldoggnlcbkabTrieSees
import Derived.Test.YtlgldoggnlcbkabTrieHave
namespace Go.Proofs.Ytlgldoggnlcbkab
open Go.ChangeShapes Go.WideShapes Go.ChangeAt Go.RowKit Tt
set_option linter.unusedVariables false
set_option linter.unusedSimpArgs false

/-- a trie of that room that tells of l lies at the block B -/
def AtC (F : Nat → Prop) (w : World) (B : Nat) (room : Int) (l : List T3) : Prop := F = only B ∧ ∃ m t ids fl, Has w B (cellOf m) ∧ Lay m t ids fl ∧ Rep t l ∧ ((m.room : Nat) : Int) = room ∧ ∀ e ∈ l, (Lit.int .i64 e.2).wf = true
section
variable {F : Nat → Prop} {w w' : World} {B : Nat} {room : Int} {l : List T3}
theorem AtC.kept {S : Nat → Prop} (h : AtC F w B room l) (hk : Keeps S w w') (hn : ∀ k, F k → ¬ S k) : AtC F w' B room l := by
  obtain ⟨rfl, m, t, ids, fl, h1, h2⟩ := h
  exact ⟨rfl, m, t, ids, fl, h1.kept hk (hn B rfl), h2⟩
theorem AtC.later (h : AtC F w B room l) (hb : Below w.heap.size w w') : AtC F w' B room l := h.kept (S := fun _ => False) (Keeps.of_below hb) (fun _ _ h => h)
theorem count_rep {m : Mm} {t : Tr} {ids fl : List Nat} (L : Lay m t ids fl) (R : Rep t l) : count l = (m.used : Nat) := by
  unfold count
  rw [R.count, ← L.tree.len, L.used]
theorem AtC.rep (h : AtC F w B room l) : (∃ t, Rep t l) ∧ count l ≤ room ∧ 0 ≤ room ∧ room ≤ 1000 := by
  obtain ⟨rfl, m, t, ids, fl, h1, L, R, rfl, _⟩ := h
  have := L.all
  have := L.room
  exact ⟨⟨t, R⟩, by rw [count_rep L R]; omega, by omega, by omega⟩
theorem code_new (n : Int) (w : World) : Calls Try.prog 6 #[.int .i64 n] w fun e w' => ∃ B F, e = .returned (.pointer (some ⟨B, 0, none⟩)) ∧ AtC F w' B (roomOf n) [] ∧ (∀ k, F k → w.heap.size ≤ k) ∧ Below w.heap.size w w' := by
  obtain ⟨r, hr, h1, hc⟩ := new_any n w
  obtain ⟨L, hroom⟩ := lay_new r h1
  refine hc.mono ?_
  rintro e w' ⟨rfl, hh, hb⟩
  exact ⟨_, only w.heap.size, rfl, ⟨rfl, _, _, _, _, hh, L, Rep.nil, by rw [hroom]; exact hr, fun e he => by cases he⟩, fun k hk => Nat.le_of_eq hk.symm, hb⟩
theorem code_put (p0 p1 v : Int) (hw : ∀ z ∈ [p0, p1, v], (Lit.int .i64 z).wf = true) (h : AtC F w B room l) :
    Calls Try.prog 7 #[.pointer (some ⟨B, 0, none⟩), .agg #[.int .i64 p0, .int .i64 p1], .int .i64 v] w fun e w' => e = .returned (.int .i64 (putErr room l ((p0, p1), v))) ∧ (∃ F', AtC F' w' B room (putTo room l ((p0, p1), v)) ∧ ∀ k, F' k → Grow F w w' k) ∧ Keeps F w w' := by
  have hA := h
  obtain ⟨rfl, m, t, ids, fl, hh, L, R, rfl, wl⟩ := h
  cases hp : M.mayB p0 p1 with
  | false =>
    have hn : ¬ may ((p0, p1) : P2) = true := by show ¬ M.mayB p0 p1 = true; rw [hp]; decide
    have e1 : putErr ((m.room : Nat) : Int) l ((p0, p1), v) = 1 := if_neg hn
    have e2 : putTo ((m.room : Nat) : Int) l ((p0, p1), v) = l := by unfold putTo; rw [e1]; rfl
    rw [e1, e2]
    exact (put_bad w _ p0 p1 v hp).mono fun e w' ⟨he, hb⟩ => ⟨he, ⟨_, hA.later hb, fun k hk => .inl hk⟩, Keeps.of_below hb⟩
  | true =>
    have hq : may ((p0, p1) : P2) = true := hp
    have R2 := R.put (e := ((p0, p1), v)) hq
    obtain ⟨f, A, P, hs, hP, hL, hn, hrun⟩ := put_tree L R.ok hq v
    have hcount : count (withGo ((p0, p1), v) false l) = ((m.used + (lackM m (p0, p1) P).length : Nat) : Int) := by
      unfold count
      rw [R2.count, hn]
    have hu : m.used ≤ 1000 := by have := L.all; have := L.room; omega
    by_cases hr : m.used + (lackM m (p0, p1) P).length ≤ m.room
    · obtain ⟨m', f', A', P', h1, h2, h3, h4, ids', fl', L', hroom⟩ := hrun hr
      have e1 : putErr ((m.room : Nat) : Int) l ((p0, p1), v) = 0 := by unfold putErr; rw [if_pos hq, if_pos (by rw [hcount]; omega)]
      have e2 : putTo ((m.room : Nat) : Int) l ((p0, p1), v) = withGo ((p0, p1), v) false l := by unfold putTo; rw [e1]; rfl
      rw [e1, e2]
      refine (put_run p0 p1 v hp hh L.ok hs hP hu L.room hL hr h1 h2 h3 h4).mono ?_
      rintro e w' ⟨he, hh', hk⟩
      refine ⟨he, ⟨only B, ⟨rfl, _, _, _, _, hh', L', R2, by show ((m'.room : Nat) : Int) = _; rw [hroom], fun e he => ?_⟩, fun k hk => .inl hk⟩, hk⟩
      rcases with_mem _ _ _ _ he with rfl | he
      · exact hw v (by simp)
      · exact wl e he
    · have e1 : putErr ((m.room : Nat) : Int) l ((p0, p1), v) = 7 := by unfold putErr; rw [if_pos hq, if_neg (by rw [hcount]; omega)]
      have e2 : putTo ((m.room : Nat) : Int) l ((p0, p1), v) = l := by unfold putTo; rw [e1]; rfl
      rw [e1, e2]
      exact (put_full p0 p1 v hp hh L.ok hs hP hu L.room hL (by omega)).mono fun e w' ⟨he, hb⟩ => ⟨he, ⟨_, hA.later hb, fun k hk => .inl hk⟩, Keeps.of_below hb⟩
theorem last_in (m : Mm) (L : List Nat) {x : Nat} (h : lastT m L = some x) : x ∈ L ∧ m.told x = true := by
  unfold lastT at h
  have := List.mem_of_getLast? h
  rw [List.mem_filter] at this
  exact this
theorem code_find (addr : Int) {g0 g1 g2 : Int} (h : AtC F w B room l) (hg : bestE (findR l addr none) = [g0, g1, g2]) :
    Calls Try.prog 11 #[.pointer (some ⟨B, 0, none⟩), .int .i64 addr] w fun e w' => e = .returned (.tuple #[.agg #[.int .i64 g0, .int .i64 g1, .int .i64 g2], .bool (findR l addr none).isSome]) ∧ Below w.heap.size w w' := by
  obtain ⟨rfl, m, t, ids, fl, hh, L, R, rfl, wl⟩ := h
  obtain ⟨xs, hx, hin, hf⟩ := sees addr L.tree R.ok
  have e1 := R.find addr
  rw [hf none] at e1
  refine (find_any addr hh hx).mono ?_
  rintro e w' ⟨x0, x1, x2, x3, x4, x5, hc, rfl, hb⟩
  refine ⟨?_, hb⟩
  cases hl : lastT m xs with
  | none =>
    rw [hl] at e1 hc
    have e2 : findR l addr none = none := by simpa using e1
    rw [e2] at hg ⊢
    simp only [bestE, List.cons.injEq, and_true] at hg
    obtain ⟨rfl, rfl, rfl⟩ := hg
    simp [foundC] at hc
    obtain ⟨rfl, rfl, rfl, rfl, _⟩ := hc
    rfl
  | some x =>
    rw [hl] at e1 hc
    obtain ⟨y, hy, he⟩ : ∃ y, findR l addr none = some y ∧ mE y = mE (m.ent x) := by simpa using e1
    obtain ⟨hxm, htold⟩ := last_in m xs hl
    have hyl : y ∈ l := by
      rcases find_in addr l none y hy with h | h
      · cases h
      · exact h.1
    have hye : y = m.ent x := mE_inj (R.may y hyl) (hin x hxm).2 he
    rw [hy, hye] at hg
    rw [hy]
    have hc2 : nodeCells m x = #[.int .i64 x0, .int .i64 x1, .int .i64 x2, .bool x3, .int .i64 x4, .int .i64 x5] := hc
    simp [nodeCells, htold] at hc2
    simp only [bestE, Mm.ent, Mm.pre, List.cons.injEq, and_true] at hg
    obtain ⟨rfl, rfl, rfl⟩ := hg
    obtain ⟨rfl, rfl, rfl, rfl, _⟩ := hc2
    rfl
theorem told_rep {m : Mm} {t : Tr} {ids fl : List Nat} (L : Lay m t ids fl) (R : Rep t l) : toldOf m ids = l := by
  obtain ⟨h1, h2⟩ := L.tree.walk
  exact maps_inj h2 R.may (h1.trans R.is)
theorem code_walk (h : AtC F w B room l) :
    Calls Try.prog 8 #[.pointer (some ⟨B, 0, none⟩)] w fun e w' => ∃ x c, e = .returned (.slice x l.length c) ∧ (Rds fE 3 w' x c l ∧ ∀ y, x = some y → w.heap.size ≤ y.block) ∧ Below w.heap.size w w' := by
  obtain ⟨rfl, m, t, ids, fl, hh, L, R, rfl, wl⟩ := h
  have e := told_rep L R
  have hlen : ids.length ≤ 1000 := by have := L.used; have := L.all; have := L.room; omega
  have := walk_any hh L.tree hlen (by
    rw [e]
    intro x hx z hz
    obtain ⟨w0, w1⟩ := may_wf (R.may x hx)
    simp only [fE, List.mem_cons, List.not_mem_nil, or_false] at hz
    rcases hz with rfl | rfl | rfl
    · exact w0
    · exact w1
    · exact wl x hx)
  rw [e] at this
  exact this
end
/-- the code that landed -/
def code : Code where
  At := AtC
  kept := fun h hk hn => h.kept hk hn
  lt := fun h k hk => by obtain ⟨rfl, m, t, ids, fl, h1, _⟩ := h; rw [show k = _ from hk]; exact h1.lt
  rep := fun h => h.rep
  new := code_new
  put := fun p0 p1 v hw h _ => code_put p0 p1 v hw h
  find := fun addr _ _ _ _ h _ hg => code_find addr h hg
  walk := fun h _ => code_walk h
  nodes := fun h _ => by
    obtain ⟨rfl, m, t, ids, fl, hh, L, R, rfl, wl⟩ := h
    rw [count_rep L R]
    exact nodes_any hh
  putNil := fun w => put_nil w 0 0 1 (by decide +kernel)
  findNil := find_nil
  walkNil := walk_nil
  nodesNil := nodes_nil
end Go.Proofs.Ytlgldoggnlcbkab
