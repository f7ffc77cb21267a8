/- Where a configuration sends a packet, as plain data; and what follows. No memory and no program. -/
import Derived.Test.YtihgpllbgliplaaConfMath
import Derived.Test.YtihgpllbgliplaaPickTurn
namespace Go.Proofs.Ytihgpllbgliplaa.Pa
open Go Pk Cf
set_option linter.unusedVariables false
set_option linter.unusedSimpArgs false

/-- a packet at a switch's port -/
structure Fl where
  id : Int
  src : Int
  dst : Int
  ttl : Int
  tag : Int
  sw : Int
  i : Int
  deriving DecidableEq, Inhabited
/-- what became of one -/
structure Hp where
  tick : Int
  id : Int
  sw : Int
  i : Int
  tag : Int
  what : Int
  out : Int
  deriving DecidableEq, Inhabited
def fF (f : Fl) : List Int := [f.id, f.src, f.dst, f.ttl, f.tag, f.sw, f.i]
theorem fF_len (f : Fl) : (fF f).length = 7 := rfl
def fH (h : Hp) : List Int := [h.tick, h.id, h.sw, h.i, h.tag, h.what, h.out]
theorem fH_len (h : Hp) : (fH h).length = 7 := rfl
def noFl : Fl := ⟨0, 0, 0, 0, 0, 0, 0⟩
def hop (f : Fl) (what out : Int) : Hp := ⟨0, f.id, f.sw, f.i, f.tag, what, out⟩
/-- the rule that counts -/
def ruleP (C : Cnf) (f : Fl) : Option Rl := if firstL f.i f.dst (atC C f.sw) < 0 then none else some ((atC C f.sw).getD (firstL f.i f.dst (atC C f.sw)).toNat default)
/-- what a rule does to a packet that has time left -/
def doP (s n : Int) (l : List Tp.Lk) (f : Fl) : Option Rl → Hp × Fl
  | none => (hop f 3 0, noFl)
  | some r => if r.k = 1 then
      match Tp.far s n l (f.sw, r.t) with
      | none => (hop f 1 r.t, noFl)
      | some e => (hop f 0 r.t, { f with ttl := f.ttl - 1, sw := e.1, i := e.2 })
    else (hop f 2 0, noFl)
def stepP (s n : Int) (l : List Tp.Lk) (C : Cnf) (f : Fl) : Hp × Fl := if f.ttl < 1 then (hop f 5 0, noFl) else doP s n l f (ruleP C f)
def walkF (s n : Int) (l : List Tp.Lk) (C : Cnf) : Nat → Fl → List Hp
  | 0, _ => []
  | k + 1, f => (stepP s n l C f).1 :: (if (stepP s n l C f).1.what = 0 then walkF s n l C k (stepP s n l C f).2 else [])
def cap (f : Fl) : Fl := { f with ttl := min f.ttl 16 }
def walkP (s n : Int) (l : List Tp.Lk) (C : Cnf) (f : Fl) : List Hp := walkF s n l C 17 (cap f)
section
variable {s n : Int} {l : List Tp.Lk} {C : Cnf} {f : Fl}
/-- a step ends, or goes on with less time -/
theorem step_ways (s n : Int) (l : List Tp.Lk) (C : Cnf) (f : Fl) : ((stepP s n l C f).1.what ≠ 0 ∧ (stepP s n l C f).2 = noFl) ∨
    ((stepP s n l C f).1.what = 0 ∧ 1 ≤ f.ttl ∧ ∃ x y, (stepP s n l C f).2 = { f with ttl := f.ttl - 1, sw := x, i := y }) := by
  unfold stepP
  split
  · exact .inl ⟨by simp [hop], rfl⟩
  · cases ruleP C f with
    | none => exact .inl ⟨by simp [doP, hop], rfl⟩
    | some r =>
      unfold doP
      by_cases hk : r.k = 1
      · simp only [hk, if_true]
        cases Tp.far s n l (f.sw, r.t) with
        | none => exact .inl ⟨by simp [hop], rfl⟩
        | some e => exact .inr ⟨rfl, by omega, e.1, e.2, rfl⟩
      · simp only [if_neg hk]
        exact .inl ⟨by simp [hop], by first | rfl | trivial⟩
theorem step_head (s n : Int) (l : List Tp.Lk) (C : Cnf) (f : Fl) : (stepP s n l C f).1.id = f.id ∧ (stepP s n l C f).1.tag = f.tag ∧ (stepP s n l C f).1.tick = 0 ∧ (stepP s n l C f).1.sw = f.sw ∧ (stepP s n l C f).1.i = f.i := by
  unfold stepP
  split
  · exact ⟨rfl, rfl, rfl, rfl, rfl⟩
  · cases ruleP C f with
    | none => exact ⟨rfl, rfl, rfl, rfl, rfl⟩
    | some r =>
      unfold doP
      by_cases hk : r.k = 1
      · simp only [hk, if_true]
        cases Tp.far s n l (f.sw, r.t) <;> exact ⟨rfl, rfl, rfl, rfl, rfl⟩
      · simp only [if_neg hk]
        exact ⟨rfl, rfl, rfl, rfl, rfl⟩
theorem walk_succ (k : Nat) (f : Fl) : walkF s n l C (k + 1) f = (stepP s n l C f).1 :: (if (stepP s n l C f).1.what = 0 then walkF s n l C k (stepP s n l C f).2 else []) := rfl
/-- more fuel than time changes nothing -/
theorem walk_more : ∀ (k : Nat) (f : Fl), 1 ≤ k → f.ttl < (k : Int) → ∀ j, walkF s n l C (k + j) f = walkF s n l C k f := by
  intro k
  induction k with
  | zero => intro f h; omega
  | succ k ih =>
    intro f hk ht j
    rw [show k + 1 + j = (k + j) + 1 by omega, walk_succ, walk_succ]
    rcases step_ways s n l C f with ⟨h, _⟩ | ⟨h, h1, x, y, e⟩
    · rw [if_neg h, if_neg h]
    · rw [if_pos h, if_pos h, ih _ (by omega) (by rw [e]; show f.ttl - 1 < _; omega) j]
theorem walk_pos (k : Nat) (f : Fl) : walkF s n l C (k + 1) f ≠ [] := by rw [walk_succ]; exact List.cons_ne_nil _ _
/-- how many hops there are at most -/
theorem walk_len : ∀ (k : Nat) (f : Fl), (walkF s n l C k f).length ≤ k ∧ (1 ≤ f.ttl → ((walkF s n l C k f).length : Int) ≤ f.ttl + 1) ∧ (f.ttl < 1 → (walkF s n l C k f).length ≤ 1) := by
  intro k
  induction k with
  | zero => intro f; exact ⟨Nat.le_refl _, fun h => by show ((0 : Nat) : Int) ≤ _; omega, fun _ => Nat.zero_le _⟩
  | succ k ih =>
    intro f
    rw [walk_succ]
    rcases step_ways s n l C f with ⟨h, _⟩ | ⟨h, h1, x, y, e⟩
    · rw [if_neg h]
      exact ⟨by simp, fun h => by simp; omega, fun _ => by simp⟩
    · rw [if_pos h]
      obtain ⟨g1, g2, g3⟩ := ih (stepP s n l C f).2
      rw [e] at g1 g2 g3 ⊢
      simp only at g2 g3
      refine ⟨by simp only [List.length_cons]; omega, fun _ => ?_, fun h2 => by omega⟩
      simp only [List.length_cons]
      by_cases h2 : 1 ≤ f.ttl - 1
      · have := g2 h2; omega
      · have := g3 (by omega); omega
/-- all hops but the last one went on; the packet's number and tag are the same -/
theorem walk_each : ∀ (k : Nat) (f : Fl), f.ttl < (k : Int) → ∀ i h, (walkF s n l C k f)[i]? = some h → (h.what = 0 ↔ i + 1 < (walkF s n l C k f).length) ∧ h.id = f.id ∧ h.tag = f.tag := by
  intro k
  induction k with
  | zero => intro f _ i h hi; simp [walkF] at hi
  | succ k ih =>
    intro f ht i h hi
    obtain ⟨q1, q2, _⟩ := step_head s n l C f
    rw [walk_succ] at hi ⊢
    rcases step_ways s n l C f with ⟨hw, _⟩ | ⟨hw, h1, x, y, e⟩
    · rw [if_neg hw] at hi ⊢
      cases i with
      | zero =>
        obtain rfl : (stepP s n l C f).1 = h := by simpa using hi
        exact ⟨⟨fun g => absurd g hw, fun g => by simp at g⟩, q1, q2⟩
      | succ i => simp at hi
    · rw [if_pos hw] at hi ⊢
      have hk : 1 ≤ k := by omega
      obtain ⟨k, rfl⟩ : ∃ m, k = m + 1 := ⟨k - 1, by omega⟩
      cases i with
      | zero =>
        obtain rfl : (stepP s n l C f).1 = h := by simpa using hi
        exact ⟨⟨fun _ => by rw [walk_succ]; simp, fun _ => hw⟩, q1, q2⟩
      | succ i =>
        rw [List.getElem?_cons_succ] at hi
        obtain ⟨r1, r2, r3⟩ := ih (stepP s n l C f).2 (by rw [e]; show f.ttl - 1 < _; omega) i h hi
        rw [e] at r2 r3
        exact ⟨by rw [r1, List.length_cons]; omega, r2, r3⟩
/-- what a packet's number, where it comes from, and its tag change -/
def setF (id tag src : Int) (f : Fl) : Fl := { f with id := id, tag := tag, src := src }
def setH (id tag : Int) (h : Hp) : Hp := { h with id := id, tag := tag }
theorem rule_set (id tag src : Int) : ruleP C (setF id tag src f) = ruleP C f := rfl
theorem step_set (id tag src : Int) : (stepP s n l C (setF id tag src f)).1 = setH id tag (stepP s n l C f).1 ∧ ((stepP s n l C f).1.what = 0 → (stepP s n l C (setF id tag src f)).2 = setF id tag src (stepP s n l C f).2) := by
  unfold stepP
  rw [rule_set]
  by_cases ht : f.ttl < 1
  · rw [if_pos ht, if_pos (show (setF id tag src f).ttl < 1 from ht)]
    exact ⟨rfl, fun h => by simp [hop] at h⟩
  · rw [if_neg ht, if_neg (show ¬ (setF id tag src f).ttl < 1 from ht)]
    cases ruleP C f with
    | none => exact ⟨rfl, fun h => by simp [doP, hop] at h⟩
    | some r =>
      unfold doP
      by_cases hk : r.k = 1
      · simp only [hk, if_true]
        rw [show (setF id tag src f).sw = f.sw from rfl]
        cases Tp.far s n l (f.sw, r.t) with
        | none => exact ⟨rfl, fun h => by simp [hop] at h⟩
        | some e => exact ⟨rfl, fun _ => rfl⟩
      · simp only [if_neg hk]
        exact ⟨rfl, fun h => by simp [hop] at h⟩
theorem walkF_set (id tag src : Int) : ∀ (k : Nat) (f : Fl), walkF s n l C k (setF id tag src f) = (walkF s n l C k f).map (setH id tag) := by
  intro k
  induction k with
  | zero => intro f; rfl
  | succ k ih =>
    intro f
    obtain ⟨e1, e2⟩ := step_set (s := s) (n := n) (l := l) (C := C) (f := f) id tag src
    rw [walk_succ, walk_succ, e1, List.map_cons, show (setH id tag (stepP s n l C f).1).what = (stepP s n l C f).1.what from rfl]
    by_cases hw : (stepP s n l C f).1.what = 0
    · rw [if_pos hw, if_pos hw, e2 hw, ih]
    · rw [if_neg hw, if_neg hw]; rfl
theorem walk_set (id tag src : Int) (f : Fl) : walkP s n l C (setF id tag src f) = (walkP s n l C f).map (setH id tag) := walkF_set id tag src 17 (cap f)
/-- set back, all is as it was -/
theorem walk_back (id tag src : Int) (f : Fl) : (walkP s n l C (setF id tag src f)).map (setH f.id f.tag) = walkP s n l C f := by
  rw [walk_set, List.map_map]
  refine (List.map_congr_left fun h hh => ?_).trans (List.map_id _)
  obtain ⟨i, hi⟩ := List.mem_iff_getElem?.1 hh
  obtain ⟨_, q1, q2⟩ := walk_each 17 (cap f) (by show min f.ttl 16 < _; omega) i h hi
  obtain ⟨a, b, c, d, e, g, j⟩ := h
  simp only at q1 q2
  subst q1; subst q2
  rfl
/-- a greater time -/
def lastNo (a : List Hp) : Bool := match a.getLast? with | some h => decide (h.what = 5) | none => false
theorem long_is : ∀ (k : Nat) (f : Fl) (m : Int), 0 ≤ m → f.ttl < (k : Int) → ∀ j, k ≤ j → f.ttl + m < (j : Int) → 1 ≤ k →
    ∃ u, u ≤ (walkF s n l C j { f with ttl := f.ttl + m }).length ∧ u = (if lastNo (walkF s n l C k f) then (walkF s n l C k f).length - 1 else (walkF s n l C k f).length) ∧ (walkF s n l C k f).take u = (walkF s n l C j { f with ttl := f.ttl + m }).take u := by
  intro k
  induction k with
  | zero => intro f m _ _ j _ _ h; omega
  | succ k ih =>
    intro f m hm ht j hj htj _
    obtain ⟨j, rfl⟩ : ∃ i, j = i + 1 := ⟨j - 1, by omega⟩
    by_cases h1 : f.ttl < 1
    · have e : walkF s n l C (k + 1) f = [hop f 5 0] := by
        rw [walk_succ]; unfold stepP; rw [if_pos h1]; rfl
      rw [e]
      exact ⟨0, Nat.zero_le _, rfl, rfl⟩
    · have hs : stepP s n l C { f with ttl := f.ttl + m } = ((stepP s n l C f).1, if (stepP s n l C f).1.what = 0 then { (stepP s n l C f).2 with ttl := (stepP s n l C f).2.ttl + m } else (stepP s n l C f).2) := by
        unfold stepP
        rw [if_neg h1, if_neg (show ¬ f.ttl + m < 1 by omega), show ruleP C { f with ttl := f.ttl + m } = ruleP C f from rfl]
        cases ruleP C f with
        | none => rfl
        | some r =>
          unfold doP
          by_cases hk : r.k = 1
          · simp only [hk, if_true]
            cases Tp.far s n l (f.sw, r.t) with
            | none => rfl
            | some e => simp only [hop, if_true, Prod.mk.injEq, Fl.mk.injEq, true_and, and_true]; omega
          · simp only [if_neg hk]; rfl
      have hn5 : (stepP s n l C f).1.what ≠ 5 := by
        unfold stepP
        rw [if_neg h1]
        cases ruleP C f with
        | none => simp [doP, hop]
        | some r =>
          unfold doP
          by_cases hk : r.k = 1
          · simp only [hk, if_true]
            cases Tp.far s n l (f.sw, r.t) <;> simp [hop]
          · simp only [if_neg hk]; simp [hop]
      rw [walk_succ, walk_succ, hs]
      rcases step_ways s n l C f with ⟨hw, _⟩ | ⟨hw, h2, x, y, e⟩
      · simp only [if_neg hw]
        refine ⟨1, by simp, ?_, by first | rfl | trivial⟩
        simp [lastNo, hn5]
      · simp only [if_pos hw]
        have hk : 1 ≤ k := by omega
        obtain ⟨u, hu, hue, hut⟩ := ih (stepP s n l C f).2 m hm (by rw [e]; show f.ttl - 1 < _; omega) j (by omega) (by rw [e]; show f.ttl - 1 + m < _; omega) hk
        obtain ⟨k, rfl⟩ : ∃ i, k = i + 1 := ⟨k - 1, by omega⟩
        have hne := walk_pos (s := s) (n := n) (l := l) (C := C) k (stepP s n l C f).2
        generalize walkF s n l C (k + 1) (stepP s n l C f).2 = W at hue hut hne
        have hl : lastNo ((stepP s n l C f).1 :: W) = lastNo W := by
          unfold lastNo
          rw [List.getLast?_cons, List.getLast?_eq_some_getLast hne]
          rfl
        refine ⟨u + 1, by simp only [List.length_cons]; omega, ?_, by rw [List.take_succ_cons, List.take_succ_cons, hut]⟩
        rw [hl, hue]
        have hpos : 1 ≤ W.length := by
          cases W with
          | nil => exact absurd rfl hne
          | cons a b => simp
        split
        · simp only [List.length_cons]; omega
        · simp only [List.length_cons]
/-- what is behind the first hop is the walk of where that goes -/
theorem walk_goes (f : Fl) (h16 : f.ttl ≤ 16) : walkP s n l C f = (stepP s n l C f).1 :: (if (stepP s n l C f).1.what = 0 then walkP s n l C (stepP s n l C f).2 else []) := by
  have hc : cap f = f := by
    obtain ⟨a, b, c, t, d, e, g⟩ := f
    simp only at h16
    simp only [cap, Fl.mk.injEq, true_and, and_true]
    omega
  unfold walkP
  rw [hc, walk_succ]
  rcases step_ways s n l C f with ⟨hw, _⟩ | ⟨hw, h2, x, y, e⟩
  · rw [if_neg hw, if_neg hw]
  · rw [if_pos hw, if_pos hw]
    have hc2 : cap (stepP s n l C f).2 = (stepP s n l C f).2 := by
      rw [e]
      simp only [cap, Fl.mk.injEq, true_and, and_true]
      omega
    rw [hc2, walk_more 16 _ (by omega) (by rw [e]; show f.ttl - 1 < 16; omega) 1]
end
/-- the same rule counts in configurations that say the same -/
theorem at_sort {A B : Cnf} (h : sameC A B = true) (sw : Int) : sortL (atC A sw) = sortL (atC B sw) := by
  unfold sameC at h
  rw [decide_eq_true_eq] at h
  unfold atC
  split
  · have e := congrArg (fun x => x[sw.toNat]?) h
    simp only [List.getElem?_map] at e
    rw [List.getD_eq_getElem?_getD, List.getD_eq_getElem?_getD]
    cases ha : A[sw.toNat]? <;> cases hb : B[sw.toNat]? <;> simp_all
  · rfl
theorem at_apart {s n : Int} {l : List Tp.Lk} {A : Cnf} (h : mayC s n l A = true) (sw : Int) : ∀ i, i < (atC A sw).length → ∀ k, k < i → Pk.alike ((atC A sw).getD i default) ((atC A sw).getD k default) = false := by
  intro i hi k hk
  have hr : rulesB n (atC A sw) = true ∨ atC A sw = [] := by
    unfold atC
    split
    · rw [List.getD_eq_getElem?_getD]
      cases g : A[sw.toNat]? with
      | none => exact .inr rfl
      | some r => exact .inl (((may_iff s n l A).1 h).2.2 r (List.mem_of_getElem? g))
    · exact .inr rfl
  rcases hr with hr | hr
  · have hp := ((rules_iff n _).1 hr).2.2
    have := List.pairwise_iff_getElem.1 hp k i (by omega) hi hk
    rw [List.getD_eq_getElem?_getD, List.getD_eq_getElem?_getD, List.getElem?_eq_getElem hi, List.getElem?_eq_getElem (by omega : k < (atC A sw).length), alike_symm]
    exact this
  · rw [hr] at hi; simp at hi
theorem rule_same {s n : Int} {l : List Tp.Lk} {A B : Cnf} (hA : mayC s n l A = true) (h : sameC A B = true) (f : Fl) : ruleP A f = ruleP B f := by
  have hp : (atC B f.sw).Perm (atC A f.sw) := (sort_perm _).symm.trans ((List.Perm.of_eq (at_sort h f.sw).symm).trans (sort_perm _))
  unfold ruleP
  rcases first_perm (x := f.i) (d := f.dst) hp (at_apart hA f.sw) with ⟨e1, e2⟩ | ⟨q, p, hq, hpl, e1, e2, e⟩
  · rw [e1, e2]; rfl
  · rw [e1, e2, if_neg (by omega), if_neg (by omega), Int.toNat_natCast, Int.toNat_natCast, e]
theorem step_same {s n : Int} {l : List Tp.Lk} {A B : Cnf} (hA : mayC s n l A = true) (h : sameC A B = true) (f : Fl) : stepP s n l A f = stepP s n l B f := by
  unfold stepP
  rw [rule_same hA h]
theorem walkF_same {s n : Int} {l : List Tp.Lk} {A B : Cnf} (hA : mayC s n l A = true) (h : sameC A B = true) : ∀ (k : Nat) (f : Fl), walkF s n l A k f = walkF s n l B k f := by
  intro k
  induction k with
  | zero => intro f; rfl
  | succ k ih => intro f; rw [walk_succ, walk_succ, step_same hA h, ih]
theorem walk_same {s n : Int} {l : List Tp.Lk} {A B : Cnf} (hA : mayC s n l A = true) (h : sameC A B = true) (f : Fl) : walkP s n l A f = walkP s n l B f := walkF_same hA h 17 (cap f)
end Go.Proofs.Ytihgpllbgliplaa.Pa
