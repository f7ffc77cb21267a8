/- A way down a tree of prefixes, and what stands at its end: one more and one less there; no program in sight. -/
import Derived.Test.YtlgldoggnlcbkaaTrieMath
namespace Go.Proofs.Ytlgldoggnlcbkaa.Tt
set_option linter.unusedVariables false
set_option linter.unusedSimpArgs false

/-- a node that is passed, at which side, and what stands at the other -/
structure Fr where
  k : K
  v : Option Int
  b : Bool
  o : Tr
def Fr.fill (f : Fr) (s : Tr) : Tr := match f.b with
  | true => .node f.k f.v f.o s
  | false => .node f.k f.v s f.o
def zip : List Fr → Tr → Tr
  | [], s => s
  | f :: fs, s => f.fill (zip fs s)
theorem zip_end (fs : List Fr) (f : Fr) (s : Tr) : zip (fs ++ [f]) s = zip fs (f.fill s) := by
  induction fs with
  | nil => rfl
  | cons g fs ih => show g.fill (zip (fs ++ [f]) s) = g.fill (zip fs (f.fill s)); rw [ih]
/-- each that is passed is what q begins with, and q goes on at that side -/
def Dir (fs : List Fr) (q : K) : Prop := ∀ f ∈ fs, f.k ++ [f.b] <+: q
def Stop : Tr → K → Prop
  | .nil, _ => True
  | .node k v l r, q => k = q ∨ ¬ k <+: q
theorem way (t : Tr) (q : K) : ∃ fs s, t = zip fs s ∧ Dir fs q ∧ Stop s q := by
  induction t with
  | nil => exact ⟨[], .nil, rfl, fun f h => (by cases h), trivial⟩
  | node k v l r ihl ihr =>
    by_cases h : k = q ∨ ¬ k <+: q
    · exact ⟨[], .node k v l r, rfl, fun f h => (by cases h), h⟩
    · have h1 : k ≠ q := fun e => h (.inl e)
      have h2 : k <+: q := Classical.byContradiction fun e => h (.inr e)
      obtain ⟨z, hz⟩ := h2
      cases z with
      | nil => exact absurd (by simpa using hz) h1
      | cons b z =>
        have hd : k ++ [b] <+: q := ⟨z, by simpa using hz⟩
        cases b with
        | true =>
          obtain ⟨fs, s, e, d, st⟩ := ihr
          refine ⟨⟨k, v, true, l⟩ :: fs, s, by rw [e]; rfl, fun f hf => ?_, st⟩
          rcases List.mem_cons.1 hf with rfl | hf
          · exact hd
          · exact d f hf
        | false =>
          obtain ⟨fs, s, e, d, st⟩ := ihl
          refine ⟨⟨k, v, false, r⟩ :: fs, s, by rw [e]; rfl, fun f hf => ?_, st⟩
          rcases List.mem_cons.1 hf with rfl | hf
          · exact hd
          · exact d f hf
theorem Dir.tail {f : Fr} {fs : List Fr} {q : K} (h : Dir (f :: fs) q) : Dir fs q := fun g hg => h g (by simp [hg])
theorem Dir.head {f : Fr} {fs : List Fr} {q : K} (h : Dir (f :: fs) q) : f.k ++ [f.b] <+: q := h f (by simp)
theorem ins_zip {fs : List Fr} {q : K} (h : Dir fs q) (s : Tr) (x : Int) : ins (zip fs s) q x = zip fs (ins s q x) := by
  induction fs with
  | nil => rfl
  | cons f fs ih =>
    obtain ⟨k, v, b, o⟩ := f
    have hd := h ⟨k, v, b, o⟩ (by simp)
    have hi := ih h.tail
    cases b with
    | true => show ins (.node k v o (zip fs s)) q x = .node k v o (zip fs (ins s q x)); rw [ins_right _ _ _ _ _ hd, hi]
    | false => show ins (.node k v (zip fs s) o) q x = .node k v (zip fs (ins s q x)) o; rw [ins_left _ _ _ _ _ hd, hi]
theorem zip_ok {fs : List Fr} {s : Tr} (h : Ok (zip fs s)) : Ok s ∧ (∀ f ∈ fs, ∀ x ∈ nodes s, f.k ++ [f.b] <+: x) ∧ (∀ f ∈ fs, f.v = none → f.o ≠ .nil) := by
  induction fs with
  | nil => exact ⟨h, fun f hf => (by cases hf), fun f hf => by cases hf⟩
  | cons f fs ih =>
    obtain ⟨k, v, b, o⟩ := f
    have sub : ∀ {fs : List Fr} {s : Tr} {x : K}, x ∈ nodes s → x ∈ nodes (zip fs s) := by
      intro fs
      induction fs with
      | nil => exact fun h => h
      | cons g fs ih =>
        obtain ⟨k, v, b, o⟩ := g
        intro s x hx
        have := ih hx
        cases b with
        | true => show x ∈ nodes (.node k v o (zip fs s)); simp [nodes, this]
        | false => show x ∈ nodes (.node k v (zip fs s) o); simp [nodes, this]
    cases b with
    | true =>
      obtain ⟨hv, hl, hr, ol, or⟩ := h
      obtain ⟨i1, i2, i3⟩ := ih or
      refine ⟨i1, fun f hf x hx => ?_, fun f hf hn => ?_⟩
      · rcases List.mem_cons.1 hf with rfl | hf
        · exact hr x (sub hx)
        · exact i2 f hf x hx
      · rcases List.mem_cons.1 hf with rfl | hf
        · exact (hv hn).1
        · exact i3 f hf hn
    | false =>
      obtain ⟨hv, hl, hr, ol, or⟩ := h
      obtain ⟨i1, i2, i3⟩ := ih ol
      refine ⟨i1, fun f hf x hx => ?_, fun f hf hn => ?_⟩
      · rcases List.mem_cons.1 hf with rfl | hf
        · exact hl x (sub hx)
        · exact i2 f hf x hx
      · rcases List.mem_cons.1 hf with rfl | hf
        · exact (hv hn).2
        · exact i3 f hf hn
/-! ### one less -/
/-- a node that nothing needs is taken away -/
def tidy : Tr → Tr
  | .nil => .nil
  | .node k v l r => join k v l r
theorem tidy_ok {t : Tr} (h : Ok t) : tidy t = t := by
  cases t with
  | nil => rfl
  | node k v l r =>
    cases v with
    | some x => rfl
    | none =>
      obtain ⟨hl, hr⟩ := h.1 rfl
      cases l with
      | nil => exact absurd rfl hl
      | node => cases r with
        | nil => exact absurd rfl hr
        | node => rfl
theorem del_fill (f : Fr) {q : K} (h : f.k ++ [f.b] <+: q) (s : Tr) : del (f.fill s) q = tidy (f.fill (del s q)) := by
  obtain ⟨k, v, b, o⟩ := f
  have hb := bit_is h
  cases b with
  | true =>
    show del (.node k v o s) q = join k v o (del s q)
    simp only [del]
    rw [if_neg (pre_ne h), if_pos (pre_of h), if_pos hb]
  | false =>
    show del (.node k v s o) q = join k v (del s q) o
    simp only [del]
    rw [if_neg (pre_ne h), if_pos (pre_of h), if_neg (by rw [hb]; exact Bool.false_ne_true)]
theorem tidy_fill (f : Fr) (hf : f.v = none → f.o ≠ .nil) {s : Tr} (hs : s ≠ .nil) : tidy (f.fill s) = f.fill s := by
  obtain ⟨k, v, b, o⟩ := f
  cases v with
  | some x => cases b <;> rfl
  | none =>
    have ho := hf rfl
    cases o with
    | nil => exact absurd rfl ho
    | node => cases s with
      | nil => exact absurd rfl hs
      | node => cases b <;> rfl
theorem tidy_ne (f : Fr) (hf : f.v = none → f.o ≠ .nil) (s : Tr) : tidy (f.fill s) ≠ .nil := by
  obtain ⟨k, v, b, o⟩ := f
  cases v with
  | some x => cases b <;> exact fun h => by cases h
  | none =>
    have ho := hf rfl
    cases o with
    | nil => exact absurd rfl ho
    | node => cases s <;> cases b <;> exact fun h => by cases h
theorem fill_ne (f : Fr) (s : Tr) : f.fill s ≠ .nil := by
  obtain ⟨k, v, b, o⟩ := f
  cases b <;> exact fun h => by cases h
theorem del_zip {fs : List Fr} {q : K} (h : Dir fs q) (hf : ∀ f ∈ fs, f.v = none → f.o ≠ .nil) {s : Tr} (hs : del s q ≠ .nil) : del (zip fs s) q = zip fs (del s q) := by
  induction fs with
  | nil => rfl
  | cons f fs ih =>
    have hi := ih h.tail (fun g hg => hf g (by simp [hg]))
    show del (f.fill (zip fs s)) q = f.fill (zip fs (del s q))
    rw [del_fill f (h f (by simp)), hi]
    apply tidy_fill f (hf f (by simp))
    cases fs with
    | nil => exact hs
    | cons g fs => exact fill_ne g _
/-- one less, at the end of a way: what is above the last that is passed stays -/
theorem del_end {fs : List Fr} {f : Fr} {q : K} (h : Dir (fs ++ [f]) q) (hf : ∀ g ∈ fs ++ [f], g.v = none → g.o ≠ .nil) (s : Tr) : del (zip (fs ++ [f]) s) q = zip fs (tidy (f.fill (del s q))) := by
  rw [zip_end, ← del_fill f (h f (by simp))]
  apply del_zip (fun g hg => h g (by simp [hg])) (fun g hg => hf g (by simp [hg]))
  rw [del_fill f (h f (by simp))]
  exact tidy_ne f (hf f (by simp)) _
theorem del_root (k : K) (v : Option Int) (l r : Tr) : del (.node k v l r) k = join k none l r := by simp [del]
/-! ### one more -/
/-- a node above what stands there -/
def up (q : K) : Tr → Tr
  | .nil => .node q none .nil .nil
  | .node k v l r => if bitAt k q.length = true then .node q none .nil (.node k v l r) else .node q none (.node k v l r) .nil
/-- what stands there, if any, is within q, and not q -/
def Over (q : K) : Tr → Prop
  | .nil => True
  | .node k v l r => ∃ b, q ++ [b] <+: k
/-- a root that is told of -/
def tell (x : Int) : Tr → Tr
  | .nil => .nil
  | .node k v l r => .node k (some x) l r
theorem ins_up {q : K} {s : Tr} (h : Over q s) (x : Int) : ins s q x = tell x (up q s) := by
  cases s with
  | nil => rfl
  | node k v l r =>
    obtain ⟨b, hb⟩ := h
    have hbit := bit_is hb
    cases b with
    | true => rw [ins_above_r _ _ _ _ _ hb]; simp only [up]; rw [if_pos hbit]; rfl
    | false => rw [ins_above_l _ _ _ _ _ hb]; simp only [up]; rw [if_neg (by rw [hbit]; decide)]; rfl
theorem up_root (q : K) (s : Tr) : ∃ v l r, up q s = .node q v l r := by
  cases s with
  | nil => exact ⟨_, _, _, rfl⟩
  | node k v l r =>
    simp only [up]
    split
    · exact ⟨_, _, _, rfl⟩
    · exact ⟨_, _, _, rfl⟩
theorem over_stop {q : K} {s : Tr} (h : Over q s) : Stop s q := by
  cases s with
  | nil => trivial
  | node k v l r => obtain ⟨b, hb⟩ := h; exact .inr (pre_not hb)
/-- a node that joins two: the way to the new one -/
theorem ins_beside {q k : K} {v : Option Int} {l r : Tr} {b : Bool} (h : lcp q k ++ [b] <+: q) (h2 : lcp q k ++ [!b] <+: k) (x : Int) :
    ∃ f : Fr, f.k = lcp q k ∧ f.b = b ∧ up (lcp q k) (.node k v l r) = f.fill .nil ∧ ins (.node k v l r) q x = f.fill (tell x (up q .nil)) := by
  have hbit := bit_is h2
  cases b with
  | true =>
    refine ⟨⟨lcp q k, none, true, .node k v l r⟩, rfl, rfl, ?_, ?_⟩
    · simp only [up]; rw [if_neg (by rw [hbit]; decide)]; rfl
    · rw [ins_beside_r _ _ _ _ _ h h2]; rfl
  | false =>
    refine ⟨⟨lcp q k, none, false, .node k v l r⟩, rfl, rfl, ?_, ?_⟩
    · simp only [up]; rw [if_pos (by rw [hbit]; rfl)]; rfl
    · rw [ins_beside_l _ _ _ _ _ h h2]; rfl
theorem pre_lcp {c p k : K} (h1 : c <+: p) (h2 : c <+: k) : c <+: lcp p k := by
  induction c generalizing p k with
  | nil => exact List.nil_prefix
  | cons x c ih =>
    cases p with
    | nil => simp at h1
    | cons y p =>
      cases k with
      | nil => simp at h2
      | cons z k =>
        rw [List.cons_prefix_cons] at h1 h2
        obtain ⟨rfl, h1⟩ := h1
        obtain ⟨rfl, h2⟩ := h2
        simp only [lcp, if_true]
        exact List.cons_prefix_cons.2 ⟨rfl, ih h1 h2⟩
end Go.Proofs.Ytlgldoggnlcbkaa.Tt
