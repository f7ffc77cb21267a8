/- Topologies as plain data: ends of links, who is far from an end, when a topology may be. No memory and no program. -/
import Derived.RowKit
namespace Go.Proofs.Ytihgpllbgliplaa.Tp
set_option linter.unusedVariables false
set_option linter.unusedSimpArgs false

/-- a link -/
structure Lk where
  a : Int
  p : Int
  b : Int
  q : Int
abbrev En := Int × Int
def fK (x : Lk) : List Int := [x.a, x.p, x.b, x.q]
theorem fK_len (x : Lk) : (fK x).length = 4 := rfl
def fQ (e : En) : List Int := [e.1, e.2]
theorem fQ_len (e : En) : (fQ e).length = 2 := rfl
/-- a link's two ends, each with the other one -/
def two (x : Lk) : List (En × En) := [((x.a, x.p), (x.b, x.q)), ((x.b, x.q), (x.a, x.p))]
def ends (l : List Lk) : List (En × En) := l.flatMap two
theorem ends_cons (x : Lk) (l : List Lk) : ends (x :: l) = ((x.a, x.p), (x.b, x.q)) :: ((x.b, x.q), (x.a, x.p)) :: ends l := rfl
theorem ends_append (l m : List Lk) : ends (l ++ m) = ends l ++ ends m := by simp [ends]
theorem ends_len (l : List Lk) : (ends l).length = 2 * l.length := by
  induction l with
  | nil => rfl
  | cons x l ih => rw [ends_cons, List.length_cons, List.length_cons, ih, List.length_cons]; omega
/-- what stands at a key first -/
def getE : List (En × En) → En → Option En
  | [], _ => none
  | p :: m, e => if p.1 = e then some p.2 else getE m e
def ins (m : List (En × En)) (k v : En) : List (En × En) := if (getE m k).isSome then m else m ++ [(k, v)]
def insAll (m ps : List (En × En)) : List (En × En) := ps.foldl (fun m p => ins m p.1 p.2) m
def mapL (l : List Lk) : List (En × En) := insAll [] (ends l)
def keys (m : List (En × En)) : List En := m.map (·.1)
def isP (s n : Int) (e : En) : Bool := decide (0 ≤ e.1) && decide (e.1 < s) && decide (0 ≤ e.2) && decide (e.2 < n)
def far (s n : Int) (l : List Lk) (e : En) : Option En := if isP s n e then getE (ends l) e else none
def edge (s n : Int) (l : List Lk) (e : En) : Bool := isP s n e && !(getE (ends l) e).isSome
def okB (s n : Int) (l : List Lk) : Bool := decide (1 ≤ s) && decide (s ≤ 6) && decide (1 ≤ n) && decide (n ≤ 8) && decide (l.length ≤ 12)
def mayT (s n : Int) (l : List Lk) : Bool := okB s n l && (mapL l).all (fun p => isP s n p.1) && ((mapL l).length == 2 * l.length)
/-- the ports of a switch, from the first j on -/
def row (i n : Nat) : List En := (List.range n).map fun (j : Nat) => (Int.ofNat i, Int.ofNat j)
def grid (s n : Nat) : List En := (List.range s).flatMap fun (i : Nat) => row i n
def open' (l : List Lk) (e : En) : Bool := !(getE (ends l) e).isSome
def edges (s n : Int) (l : List Lk) : List En := if 100 < s ∨ 100 < n then [] else (grid s.toNat n.toNat).filter (open' l)

theorem get_append (m m' : List (En × En)) (e : En) : getE (m ++ m') e = (getE m e).or (getE m' e) := by
  induction m with
  | nil => rfl
  | cons p m ih =>
    rw [List.cons_append, getE, getE]
    split
    · rfl
    · exact ih
theorem get_some (m : List (En × En)) (e : En) : (getE m e).isSome = true ↔ e ∈ keys m := by
  induction m with
  | nil => simp [getE, keys]
  | cons p m ih =>
    unfold getE keys
    rw [List.map_cons, List.mem_cons]
    split
    · rename_i h; simp [h]
    · rename_i h; rw [ih]; exact ⟨fun x => .inr x, fun x => x.resolve_left fun g => h g.symm⟩
theorem get_none (m : List (En × En)) (e : En) : getE m e = none ↔ e ∉ keys m := by
  rw [← get_some]; cases getE m e <;> simp
theorem get_mem {m : List (En × En)} {e o : En} (h : getE m e = some o) : (e, o) ∈ m := by
  induction m with
  | nil => simp [getE] at h
  | cons p m ih =>
    unfold getE at h
    split at h
    · rename_i g; cases h; subst g; exact List.mem_cons_self
    · exact List.mem_cons_of_mem _ (ih h)
theorem get_of_mem {m : List (En × En)} (hn : (keys m).Nodup) {e o : En} (h : (e, o) ∈ m) : getE m e = some o := by
  induction m with
  | nil => simp at h
  | cons p m ih =>
    unfold keys at hn
    rw [List.map_cons, List.nodup_cons] at hn
    rcases List.mem_cons.1 h with g | g
    · subst g; simp [getE]
    · unfold getE
      rw [if_neg, ih hn.2 g]
      intro g2
      exact hn.1 (g2 ▸ List.mem_map.2 ⟨_, g, rfl⟩)
theorem get_ins (m : List (En × En)) (k v e : En) : getE (ins m k v) e = (getE m e).or (if k = e then some v else none) := by
  unfold ins
  split
  · rename_i h
    by_cases hk : k = e
    · subst hk
      obtain ⟨x, hx⟩ := Option.isSome_iff_exists.1 h
      simp [hx]
    · simp [hk]
  · rw [get_append]; rfl
theorem get_insAll (m ps : List (En × En)) (e : En) : getE (insAll m ps) e = (getE m e).or (getE ps e) := by
  unfold insAll
  induction ps generalizing m with
  | nil => simp [getE]
  | cons p ps ih =>
    rw [List.foldl_cons, ih, get_ins, Option.or_assoc]
    congr 1
    conv => rhs; unfold getE
    split <;> simp
theorem get_mapL (l : List Lk) (e : En) : getE (mapL l) e = getE (ends l) e := by
  unfold mapL; rw [get_insAll]; simp [getE]
theorem mem_mapL (l : List Lk) (e : En) : e ∈ keys (mapL l) ↔ e ∈ keys (ends l) := by
  rw [← get_some, ← get_some, get_mapL]
theorem ins_len (m : List (En × En)) (k v : En) : (ins m k v).length = if (getE m k).isSome then m.length else m.length + 1 := by
  unfold ins; split <;> simp
theorem insAll_le (m ps : List (En × En)) : (insAll m ps).length ≤ m.length + ps.length := by
  unfold insAll
  induction ps generalizing m with
  | nil => simp
  | cons p ps ih =>
    have h := ih (ins m p.1 p.2)
    have h2 := ins_len m p.1 p.2
    rw [List.foldl_cons, List.length_cons]
    split at h2 <;> omega
theorem insAll_eq (m ps : List (En × En)) : (insAll m ps).length = m.length + ps.length ↔ (keys ps).Nodup ∧ ∀ k ∈ keys ps, k ∉ keys m := by
  unfold insAll
  induction ps generalizing m with
  | nil => simp [keys]
  | cons p ps ih =>
    have h := ih (ins m p.1 p.2)
    have h1 := insAll_le (ins m p.1 p.2) ps
    unfold insAll at h1
    have h2 := ins_len m p.1 p.2
    rw [List.foldl_cons, List.length_cons]
    have hk : keys (p :: ps) = p.1 :: keys ps := rfl
    rw [hk, List.nodup_cons]
    by_cases hg : (getE m p.1).isSome = true
    · rw [if_pos hg] at h2
      constructor
      · intro g; omega
      · intro g
        exact absurd ((get_some m p.1).1 hg) (g.2 _ List.mem_cons_self)
    · rw [if_neg hg] at h2
      have hins : keys (ins m p.1 p.2) = keys m ++ [p.1] := by unfold ins; rw [if_neg hg]; simp [keys]
      have hgm : p.1 ∉ keys m := fun x => hg ((get_some m p.1).2 x)
      rw [show m.length + (ps.length + 1) = (ins m p.1 p.2).length + ps.length by omega, h, hins]
      constructor
      · rintro ⟨g1, g2⟩
        refine ⟨⟨fun x => g2 _ x (by simp), g1⟩, fun k hk => ?_⟩
        rcases List.mem_cons.1 hk with rfl | hk
        · exact hgm
        · exact fun x => g2 k hk (by simp [x])
      · rintro ⟨⟨g1, g2⟩, g3⟩
        refine ⟨g2, fun k hk hx => ?_⟩
        rcases List.mem_append.1 hx with hx | hx
        · exact g3 k (List.mem_cons_of_mem _ hk) hx
        · rw [List.mem_singleton.1 hx] at hk
          exact g1 hk
theorem mapL_le (l : List Lk) : (mapL l).length ≤ 2 * l.length := by
  have := insAll_le [] (ends l)
  rw [ends_len] at this
  simpa [mapL] using this
theorem mapL_eq (l : List Lk) : (mapL l).length = 2 * l.length ↔ (keys (ends l)).Nodup := by
  have := insAll_eq [] (ends l)
  rw [ends_len] at this
  simpa [mapL, keys] using this
/-- when a topology may be -/
theorem mayT_iff (s n : Int) (l : List Lk) : mayT s n l = true ↔ okB s n l = true ∧ (∀ e ∈ keys (ends l), isP s n e = true) ∧ (keys (ends l)).Nodup := by
  unfold mayT
  rw [Bool.and_eq_true, Bool.and_eq_true, beq_iff_eq, mapL_eq, and_assoc]
  have : (mapL l).all (fun p => isP s n p.1) = true ↔ ∀ e ∈ keys (ends l), isP s n e = true := by
    rw [List.all_eq_true]
    constructor
    · intro h e he
      obtain ⟨p, hp, rfl⟩ := List.mem_map.1 ((mem_mapL l e).2 he)
      exact h p hp
    · intro h p hp
      exact h p.1 ((mem_mapL l p.1).1 (List.mem_map.2 ⟨p, hp, rfl⟩))
  rw [this]

/-! ### the document's words -/
def cnt (l : List Lk) (e : En) : Nat := (keys (ends l)).count e
def mayR (s n : Int) (l : List Lk) : Bool := okB s n l && l.all fun x => isP s n (x.a, x.p) && isP s n (x.b, x.q) && (cnt l (x.a, x.p) == 1) && (cnt l (x.b, x.q) == 1)
theorem nodup_iff {α : Type} [BEq α] [LawfulBEq α] (l : List α) : l.Nodup ↔ ∀ e ∈ l, l.count e = 1 := by
  induction l with
  | nil => simp
  | cons x l ih =>
    rw [List.nodup_cons]
    constructor
    · rintro ⟨h1, h2⟩ e he
      rw [List.count_cons]
      rcases List.mem_cons.1 he with rfl | he
      · rw [List.count_eq_zero.2 h1]; simp
      · rw [ih.1 h2 e he, if_neg]
        intro g
        exact h1 ((beq_iff_eq.1 g) ▸ he)
    · intro h
      have hx := h x List.mem_cons_self
      rw [List.count_cons] at hx
      have h0 : l.count x = 0 := by simpa using hx
      have h1 := List.count_eq_zero.1 h0
      refine ⟨h1, ih.2 fun e he => ?_⟩
      have := h e (List.mem_cons_of_mem _ he)
      rw [List.count_cons, if_neg] at this
      · simpa using this
      · intro g
        exact h1 ((beq_iff_eq.1 g) ▸ he)
theorem mem_ends (l : List Lk) (e : En) : e ∈ keys (ends l) ↔ ∃ x ∈ l, e = (x.a, x.p) ∨ e = (x.b, x.q) := by
  induction l with
  | nil => simp [ends, keys]
  | cons x l ih =>
    have : keys (ends (x :: l)) = (x.a, x.p) :: (x.b, x.q) :: keys (ends l) := rfl
    rw [this, List.mem_cons, List.mem_cons, ih]
    simp only [List.mem_cons, exists_eq_or_imp]
    constructor
    · rintro (h | h | h)
      · exact .inl (.inl h)
      · exact .inl (.inr h)
      · exact .inr h
    · rintro ((h | h) | h)
      · exact .inl h
      · exact .inr (.inl h)
      · exact .inr (.inr h)
theorem mayR_is (s n : Int) (l : List Lk) : mayR s n l = mayT s n l := by
  rw [Bool.eq_iff_iff, mayT_iff]
  unfold mayR
  rw [Bool.and_eq_true, List.all_eq_true, nodup_iff]
  refine and_congr_right fun _ => ?_
  constructor
  · intro h
    refine ⟨fun e he => ?_, fun e he => ?_⟩
    · obtain ⟨x, hx, g⟩ := (mem_ends l e).1 he
      have := h x hx
      simp only [Bool.and_eq_true, beq_iff_eq] at this
      rcases g with rfl | rfl
      · exact this.1.1.1
      · exact this.1.1.2
    · obtain ⟨x, hx, g⟩ := (mem_ends l e).1 he
      have := h x hx
      simp only [Bool.and_eq_true, beq_iff_eq] at this
      rcases g with rfl | rfl
      · exact this.1.2
      · exact this.2
  · rintro ⟨h1, h2⟩ x hx
    have ga := (mem_ends l (x.a, x.p)).2 ⟨x, hx, .inl rfl⟩
    have gb := (mem_ends l (x.b, x.q)).2 ⟨x, hx, .inr rfl⟩
    simp only [Bool.and_eq_true, beq_iff_eq]
    exact ⟨⟨⟨h1 _ ga, h1 _ gb⟩, h2 _ ga⟩, h2 _ gb⟩
theorem mem_grid (s n : Nat) (e : En) : e ∈ grid s n ↔ isP s n e = true := by
  obtain ⟨x, y⟩ := e
  unfold grid row isP
  simp only [List.mem_flatMap, List.mem_map, List.mem_range, Bool.and_eq_true, decide_eq_true_eq, Prod.mk.injEq]
  constructor
  · rintro ⟨i, hi, j, hj, rfl, rfl⟩
    simp only [Int.ofNat_eq_natCast]
    omega
  · rintro ⟨⟨⟨h0, h1⟩, h2⟩, h3⟩
    exact ⟨x.toNat, by omega, y.toNat, by omega, by simp only [Int.ofNat_eq_natCast]; omega, by simp only [Int.ofNat_eq_natCast]; omega⟩
theorem isP_toNat (s n : Int) (e : En) : isP (s.toNat : Int) (n.toNat : Int) e = isP s n e := by
  unfold isP
  rw [Bool.eq_iff_iff]
  simp only [Bool.and_eq_true, decide_eq_true_eq]
  omega
/-- the document's list: by Edge, port by port -/
theorem edges_is (s n : Int) (l : List Lk) : (grid s.toNat n.toNat).filter (edge s n l) = (grid s.toNat n.toNat).filter (open' l) := by
  apply List.filter_congr
  intro e he
  have := (mem_grid s.toNat n.toNat e).1 he
  rw [isP_toNat] at this
  simp [edge, open', this]
theorem far_none {s n : Int} {l : List Lk} {e : En} (h : isP s n e = false) : far s n l e = none := by simp [far, h]
theorem far_port {s n : Int} {l : List Lk} {e : En} (h : isP s n e = true) : far s n l e = getE (ends l) e := by simp [far, h]
theorem edge_far (s n : Int) (l : List Lk) (e : En) : edge s n l e = (!(far s n l e).isSome && isP s n e) := by
  unfold edge far
  cases isP s n e <;> simp

/-! ### what follows -/
theorem ends_swap {l : List Lk} {e o : En} (h : (e, o) ∈ ends l) : (o, e) ∈ ends l := by
  obtain ⟨x, hx, g⟩ := List.mem_flatMap.1 h
  refine List.mem_flatMap.2 ⟨x, hx, ?_⟩
  simp only [two, List.mem_cons, Prod.mk.injEq, List.not_mem_nil, or_false] at g ⊢
  rcases g with ⟨rfl, rfl⟩ | ⟨rfl, rfl⟩
  · exact .inr ⟨rfl, rfl⟩
  · exact .inl ⟨rfl, rfl⟩
theorem ends_ne {l : List Lk} (hn : (keys (ends l)).Nodup) {e o : En} (h : (e, o) ∈ ends l) : e ≠ o := by
  induction l with
  | nil => simp [ends] at h
  | cons x l ih =>
    have hk : keys (ends (x :: l)) = (x.a, x.p) :: (x.b, x.q) :: keys (ends l) := rfl
    rw [hk, List.nodup_cons, List.nodup_cons] at hn
    have h12 : (x.a, x.p) ≠ (x.b, x.q) := fun g => hn.1 (g ▸ List.mem_cons_self)
    rw [ends_cons, List.mem_cons, List.mem_cons] at h
    rcases h with h | h | h
    · obtain ⟨rfl, rfl⟩ := Prod.mk.inj h; exact h12
    · obtain ⟨rfl, rfl⟩ := Prod.mk.inj h; exact h12.symm
    · exact ih hn.2.2 h
theorem far_back {s n : Int} {l : List Lk} (h : mayT s n l = true) {e o : En} (hf : far s n l e = some o) : isP s n e = true ∧ far s n l o = some e ∧ o ≠ e ∧ edge s n l e = false := by
  obtain ⟨_, hp, hn⟩ := (mayT_iff s n l).1 h
  have h1 : isP s n e = true := by
    cases g : isP s n e
    · rw [far_none g] at hf; cases hf
    · rfl
  have hg := hf
  rw [far_port h1] at hg
  have hm := get_mem hg
  have hm2 := ends_swap hm
  have h2 : isP s n o = true := hp o (List.mem_map.2 ⟨_, hm2, rfl⟩)
  refine ⟨h1, by rw [far_port h2]; exact get_of_mem hn hm2, (ends_ne hn hm).symm, ?_⟩
  simp [edge, hg]
theorem nodup_grid (s n : Nat) : (grid s n).Nodup := by
  unfold grid
  unfold List.Nodup
  rw [List.flatMap_def, List.pairwise_flatten]
  refine ⟨?_, ?_⟩
  · intro r hr
    obtain ⟨i, hi, rfl⟩ := List.mem_map.1 hr
    unfold row
    rw [List.pairwise_map]
    exact List.nodup_range.imp fun h g => h (Int.ofNat.inj (Prod.mk.inj g).2)
  · rw [List.pairwise_map]
    refine List.nodup_range.imp fun {i j} h => ?_
    intro x hx y hy g
    subst g
    unfold row at hx hy
    obtain ⟨u, _, rfl⟩ := List.mem_map.1 hx
    obtain ⟨v, _, g⟩ := List.mem_map.1 hy
    exact h (Int.ofNat.inj (Prod.mk.inj g).1.symm)
theorem grid_len (s n : Nat) : (grid s n).length = s * n := by
  unfold grid row
  simp [List.length_flatMap, List.map_const', List.sum_replicate_nat]
theorem filter_len {α : Type} (f : α → Bool) (l : List α) : l.length = (l.filter f).length + (l.filter fun e => !f e).length := by
  induction l with
  | nil => rfl
  | cons x l ih =>
    cases h : f x <;> simp [h] <;> omega
theorem edges_len {s n : Int} {l : List Lk} (h : mayT s n l = true) : ((edges s n l).length : Int) = s * n - 2 * l.length := by
  obtain ⟨h0, hp, hn⟩ := (mayT_iff s n l).1 h
  unfold okB at h0
  simp only [Bool.and_eq_true, decide_eq_true_eq] at h0
  unfold edges
  rw [if_neg (by omega)]
  have hs : ((s.toNat : Nat) : Int) = s := by omega
  have hnn : ((n.toNat : Nat) : Int) = n := by omega
  have hin : ((grid s.toNat n.toNat).filter (fun e => !open' l e)).Perm (keys (ends l)) := by
    rw [List.perm_ext_iff_of_nodup ((nodup_grid _ _).filter _) hn]
    intro e
    rw [List.mem_filter, mem_grid, isP_toNat]
    unfold open'
    rw [Bool.not_not, get_some]
    exact ⟨fun x => x.2, fun x => ⟨hp e x, x⟩⟩
  have hlen := hin.length_eq
  have hk : (keys (ends l)).length = 2 * l.length := by unfold keys; rw [List.length_map, ends_len]
  have hsum := filter_len (open' l) (grid s.toNat n.toNat)
  rw [grid_len] at hsum
  rw [hk] at hlen
  have hm : ((s.toNat * n.toNat : Nat) : Int) = s * n := by rw [Int.natCast_mul, hs, hnn]
  rw [hlen] at hsum
  rw [← hm]
  omega
theorem okB_mono {s n : Int} {l m : List Lk} (h : okB s n l = true) (hl : m.length ≤ l.length) : okB s n m = true := by
  unfold okB at h ⊢
  simp only [Bool.and_eq_true, decide_eq_true_eq] at h ⊢
  omega
theorem split_at {l : List Lk} {i : Nat} {x : Lk} (hx : l[i]? = some x) : l = l.take i ++ x :: l.drop (i + 1) := by
  obtain ⟨hi, rfl⟩ := List.getElem?_eq_some_iff.1 hx
  rw [← List.drop_eq_getElem_cons hi, List.take_append_drop]
theorem less_is {s n : Int} {l : List Lk} {i : Nat} {x : Lk} (h : mayT s n l = true) (hx : l[i]? = some x) :
    mayT s n (l.take i ++ l.drop (i + 1)) = true ∧ ∀ e, edge s n (l.take i ++ l.drop (i + 1)) e = (edge s n l e || (decide (e = (x.a, x.p)) || decide (e = (x.b, x.q)))) := by
  have hl := split_at hx
  generalize l.take i = u at hl ⊢
  generalize l.drop (i + 1) = v at hl ⊢
  subst hl
  obtain ⟨h0, hp, hn⟩ := (mayT_iff _ _ _).1 h
  have hk : ∀ a b : List Lk, keys (ends (a ++ b)) = keys (ends a) ++ keys (ends b) := fun a b => by rw [ends_append]; simp [keys]
  have hc : keys (ends (x :: v)) = (x.a, x.p) :: (x.b, x.q) :: keys (ends v) := rfl
  have hsub : (keys (ends u) ++ keys (ends v)).Sublist (keys (ends u) ++ keys (ends (x :: v))) := by
    rw [hc]
    exact List.Sublist.append (List.Sublist.refl _) (.cons _ (.cons _ (List.Sublist.refl _)))
  rw [hk] at hn hp
  refine ⟨(mayT_iff _ _ _).2 ⟨okB_mono h0 (by simp), ?_, ?_⟩, fun e => ?_⟩
  · rw [hk]; exact fun e he => hp e (hsub.subset he)
  · rw [hk]; exact hsub.nodup hn
  · have hE : ∀ m : List Lk, (getE (ends m) e).isSome = decide (e ∈ keys (ends m)) := fun m => by
      rw [Bool.eq_iff_iff, get_some]; simp
    unfold edge
    rw [hE, hE, hk, hk, hc]
    rw [hc] at hn hp
    by_cases h1 : e = (x.a, x.p)
    · subst h1
      have q1 := hp (x.a, x.p) (by simp)
      have q2 : (x.a, x.p) ∉ keys (ends u) ++ keys (ends v) := by
        intro g
        have := (List.nodup_append.1 hn)
        rcases List.mem_append.1 g with g | g
        · exact this.2.2 _ g _ (by simp) rfl
        · exact (List.nodup_cons.1 this.2.1).1 (List.mem_cons_of_mem _ g)
      simp only [q1, Bool.true_and]
      rw [decide_eq_false q2]
      simp
    · by_cases h2 : e = (x.b, x.q)
      · subst h2
        have q1 := hp (x.b, x.q) (by simp)
        have q2 : (x.b, x.q) ∉ keys (ends u) ++ keys (ends v) := by
          intro g
          have := (List.nodup_append.1 hn)
          rcases List.mem_append.1 g with g | g
          · exact this.2.2 _ g _ (by simp) rfl
          · exact (List.nodup_cons.1 (List.nodup_cons.1 this.2.1).2).1 g
        simp only [q1, Bool.true_and]
        rw [decide_eq_false q2]
        simp
      · have : decide (e ∈ keys (ends u) ++ (x.a, x.p) :: (x.b, x.q) :: keys (ends v)) = decide (e ∈ keys (ends u) ++ keys (ends v)) := by
          rw [Bool.eq_iff_iff]
          simp [h1, h2]
        rw [this, decide_eq_false h1, decide_eq_false h2]
        simp
/-- a link from its other end -/
def flip (x : Lk) : Lk := ⟨x.b, x.q, x.a, x.p⟩
theorem ends_perm {l m : List Lk} (h : l.Perm m) : (ends l).Perm (ends m) := h.flatMap_right _
theorem ends_flip (l : List Lk) : (ends (l.map flip)).Perm (ends l) := by
  induction l with
  | nil => exact .refl _
  | cons x l ih =>
    rw [List.map_cons, ends_cons, ends_cons]
    exact (List.Perm.swap _ _ _).trans ((ih.cons _).cons _)
theorem turned_ends (l : List Lk) : (ends (l.reverse.map flip)).Perm (ends l) := (ends_flip l.reverse).trans (ends_perm (List.reverse_perm l))
theorem perm_is {s n : Int} {l m : List Lk} (hp : (ends m).Perm (ends l)) (hl : m.length = l.length) (h : mayT s n l = true) :
    mayT s n m = true ∧ (∀ e, far s n m e = far s n l e) ∧ ∀ e, edge s n m e = edge s n l e := by
  obtain ⟨h0, h1, hn⟩ := (mayT_iff _ _ _).1 h
  have hk : (keys (ends m)).Perm (keys (ends l)) := hp.map _
  have hn2 : (keys (ends m)).Nodup := hk.nodup_iff.2 hn
  have hg : ∀ e, getE (ends m) e = getE (ends l) e := fun e => by
    cases g : getE (ends l) e with
    | some o => exact get_of_mem hn2 (hp.mem_iff.2 (get_mem g))
    | none => rw [get_none] at g ⊢; exact fun x => g (hk.mem_iff.1 x)
  refine ⟨(mayT_iff _ _ _).2 ⟨okB_mono h0 (by omega), fun e he => h1 e (hk.mem_iff.1 he), hn2⟩, fun e => ?_, fun e => ?_⟩
  · unfold far; rw [hg]
  · unfold edge; rw [hg]
theorem turned_is {s n : Int} {l : List Lk} (h : mayT s n l = true) :
    mayT s n (l.reverse.map flip) = true ∧ (∀ e, far s n (l.reverse.map flip) e = far s n l e) ∧ ∀ e, edge s n (l.reverse.map flip) e = edge s n l e :=
  perm_is (turned_ends l) (by simp) h
theorem may_none {s n : Int} {l : List Lk} (h : mayT s n l = true) : mayT s n [] = true := by
  obtain ⟨h0, _, _⟩ := (mayT_iff _ _ _).1 h
  exact (mayT_iff _ _ _).2 ⟨okB_mono h0 (by simp), fun e he => by simp [ends, keys] at he, by simp [ends, keys]⟩
theorem may_twice (s n : Int) (l : List Lk) {x : Lk} (hx : x ∈ l) : mayT s n (l ++ [x]) = false := by
  cases g : mayT s n (l ++ [x])
  · rfl
  · obtain ⟨_, _, hn⟩ := (mayT_iff _ _ _).1 g
    rw [ends_append] at hn
    unfold keys at hn
    rw [List.map_append, List.nodup_append] at hn
    exact absurd rfl (hn.2.2 (x.a, x.p) ((mem_ends l _).2 ⟨x, hx, .inl rfl⟩) (x.a, x.p) (by simp [ends, two]))
end Go.Proofs.Ytihgpllbgliplaa.Tp
