/- Prefixes as lists of bits, and trees of them, in which no node is idle: what is told of, in order, and how many nodes there are; no program in sight. -/
import Derived.Test.YtlgldoggnlcbkaaBitsMath
namespace Go.Proofs.Ytlgldoggnlcbkaa.Tt
set_option linter.unusedVariables false
set_option linter.unusedSimpArgs false

abbrev K := List Bool
/-! ### what two begin with -/
def lcp : K → K → K
  | x :: p, y :: q => if x = y then x :: lcp p q else []
  | _, _ => []
theorem lcp_left (p q : K) : lcp p q <+: p := by
  induction p generalizing q with
  | nil => cases q <;> exact List.nil_prefix
  | cons x p ih =>
    cases q with
    | nil => exact List.nil_prefix
    | cons y q =>
      unfold lcp
      split
      · exact List.cons_prefix_cons.2 ⟨rfl, ih q⟩
      · exact List.nil_prefix
theorem lcp_comm (p q : K) : lcp p q = lcp q p := by
  induction p generalizing q with
  | nil => cases q <;> rfl
  | cons x p ih =>
    cases q with
    | nil => rfl
    | cons y q =>
      unfold lcp
      by_cases h : x = y
      · rw [if_pos h, if_pos h.symm, ih q, h]
      · rw [if_neg h, if_neg (fun e => h e.symm)]
theorem lcp_right (p q : K) : lcp p q <+: q := by rw [lcp_comm]; exact lcp_left q p
theorem lcp_of (k : K) {a b : Bool} (hab : a ≠ b) (p q : K) : lcp (k ++ a :: p) (k ++ b :: q) = k := by
  induction k with
  | nil => simp [lcp, hab]
  | cons x k ih => simp [lcp, ih]
theorem pre_form {k x : K} {b : Bool} (h : k ++ [b] <+: x) : ∃ p, x = k ++ b :: p := by
  obtain ⟨p, rfl⟩ := h
  exact ⟨p, by simp⟩
theorem pre_of {k x : K} {b : Bool} (h : k ++ [b] <+: x) : k <+: x := (List.prefix_append k [b]).trans h
theorem pre_ne {k x : K} {b : Bool} (h : k ++ [b] <+: x) : x ≠ k := by
  rintro rfl
  have := h.length_le
  simp at this
  omega
theorem apart {k p q : K} (hp : k ++ [false] <+: p) (hq : k ++ [true] <+: q) : lcp p q = k ∧ ¬ p <+: q ∧ ¬ q <+: p := by
  obtain ⟨p, rfl⟩ := pre_form hp
  obtain ⟨q, rfl⟩ := pre_form hq
  refine ⟨lcp_of k (by decide) p q, ?_, ?_⟩
  · intro h; rw [List.prefix_append_right_inj, List.cons_prefix_cons] at h; exact absurd h.1 (by decide)
  · intro h; rw [List.prefix_append_right_inj, List.cons_prefix_cons] at h; exact absurd h.1 (by decide)
/-- how two stand to each other -/
theorem four (p k : K) : p = k ∨ (∃ b, k ++ [b] <+: p) ∨ (∃ b, p ++ [b] <+: k) ∨ ∃ b, lcp p k ++ [b] <+: p ∧ lcp p k ++ [!b] <+: k := by
  induction p generalizing k with
  | nil =>
    cases k with
    | nil => exact .inl rfl
    | cons y k => exact .inr (.inr (.inl ⟨y, by simp⟩))
  | cons x p ih =>
    cases k with
    | nil => exact .inr (.inl ⟨x, by simp⟩)
    | cons y k =>
      by_cases h : x = y
      · subst h
        rcases ih k with rfl | ⟨b, hb⟩ | ⟨b, hb⟩ | ⟨b, hb, hc⟩
        · exact .inl rfl
        · exact .inr (.inl ⟨b, by simpa using hb⟩)
        · exact .inr (.inr (.inl ⟨b, by simpa using hb⟩))
        · exact .inr (.inr (.inr ⟨b, by simpa [lcp] using hb, by simpa [lcp] using hc⟩))
      · refine .inr (.inr (.inr ⟨x, ?_, ?_⟩))
        · simp [lcp, h]
        · have : (!x) = y := by cases x <;> cases y <;> simp_all
          simp [lcp, h, this]
/-! ### the order: by rising addresses, of the same address the shorter one first -/
def lt : K → K → Bool
  | _, [] => false
  | [], _ :: _ => true
  | x :: p, y :: q => if x = y then lt p q else y
theorem lt_irrefl (p : K) : lt p p = false := by induction p with | nil => rfl | cons x p ih => simp [lt, ih]
theorem lt_longer (k : K) (b : Bool) (p : K) : lt k (k ++ b :: p) = true := by induction k with | nil => rfl | cons x k ih => simpa [lt] using ih
theorem lt_apart (k p q : K) : lt (k ++ false :: p) (k ++ true :: q) = true := by induction k with | nil => rfl | cons x k ih => simpa [lt] using ih
theorem lt_trans {p q r : K} (h : lt p q = true) (h2 : lt q r = true) : lt p r = true := by
  induction p generalizing q r with
  | nil =>
    cases q with
    | nil => cases h
    | cons y q => cases r with | nil => cases h2 | cons z r => rfl
  | cons x p ih =>
    cases q with
    | nil => cases h
    | cons y q =>
      cases r with
      | nil => cases h2
      | cons z r =>
        unfold lt at h h2 ⊢
        by_cases hxy : x = y
        · subst hxy
          rw [if_pos rfl] at h
          by_cases hxz : x = z
          · rw [if_pos hxz] at h2 ⊢; exact ih h h2
          · rw [if_neg hxz] at h2 ⊢; exact h2
        · rw [if_neg hxy] at h
          subst h
          by_cases hyz : true = z
          · subst hyz; rw [if_neg hxy]
          · rw [if_neg hyz] at h2; exact absurd h2.symm hyz
theorem lt_asymm {p q : K} (h : lt p q = true) : lt q p = false := by
  cases h2 : lt q p
  · rfl
  · have := lt_trans h h2; rw [lt_irrefl] at this; cases this
theorem lt_ne {p q : K} (h : lt p q = true) : p ≠ q := by rintro rfl; rw [lt_irrefl] at h; cases h
theorem lt_three (p q : K) : lt p q = true ∨ p = q ∨ lt q p = true := by
  induction p generalizing q with
  | nil => cases q with | nil => exact .inr (.inl rfl) | cons y q => exact .inl rfl
  | cons x p ih =>
    cases q with
    | nil => exact .inr (.inr rfl)
    | cons y q =>
      by_cases h : x = y
      · subst h
        rcases ih q with h | h | h
        · exact .inl (by simpa [lt] using h)
        · exact .inr (.inl (by rw [h]))
        · exact .inr (.inr (by simpa [lt] using h))
      · cases x <;> cases y <;> simp_all [lt]
theorem lt_in {k p : K} {b : Bool} (h : k ++ [b] <+: p) : lt k p = true := by obtain ⟨p, rfl⟩ := pre_form h; exact lt_longer k b p
theorem lt_two {k p q : K} (hp : k ++ [false] <+: p) (hq : k ++ [true] <+: q) : lt p q = true := by
  obtain ⟨p, rfl⟩ := pre_form hp
  obtain ⟨q, rfl⟩ := pre_form hq
  exact lt_apart k p q
/-! ### trees -/
inductive Tr where
  | nil : Tr
  | node (k : K) (v : Option Int) (l r : Tr) : Tr
abbrev E := K × Int
def own (k : K) : Option Int → List E
  | some x => [(k, x)]
  | none => []
theorem own_some (k : K) (x : Int) : own k (some x) = [(k, x)] := rfl
theorem own_none (k : K) : own k none = [] := rfl
def walk : Tr → List E
  | .nil => []
  | .node k v l r => own k v ++ (walk l ++ walk r)
def nodes : Tr → List K
  | .nil => []
  | .node k v l r => k :: (nodes l ++ nodes r)
/-- no node is idle, each has what is within it, the noughts at the left -/
def Ok : Tr → Prop
  | .nil => True
  | .node k v l r => (v = none → l ≠ .nil ∧ r ≠ .nil) ∧ (∀ x ∈ nodes l, k ++ [false] <+: x) ∧ (∀ x ∈ nodes r, k ++ [true] <+: x) ∧ Ok l ∧ Ok r
theorem walk_nodes {t : Tr} {e : E} (h : e ∈ walk t) : e.1 ∈ nodes t := by
  induction t with
  | nil => cases h
  | node k v l r ihl ihr =>
    simp only [walk, List.mem_append] at h
    simp only [nodes, List.mem_cons, List.mem_append]
    rcases h with h | h | h
    · left
      cases v with
      | none => cases h
      | some x => simp only [own, List.mem_singleton] at h; rw [h]
    · exact .inr (.inl (ihl h))
    · exact .inr (.inr (ihr h))
theorem own_at {k : K} {v : Option Int} {e : E} (h : e ∈ own k v) : e.1 = k := by
  cases v with
  | none => cases h
  | some x => simp only [own, List.mem_singleton] at h; rw [h]
theorem root_pre {k : K} {v : Option Int} {l r : Tr} (h : Ok (.node k v l r)) {x : K} (hx : x ∈ nodes (.node k v l r)) : k <+: x := by
  obtain ⟨_, hl, hr, _⟩ := h
  simp only [nodes, List.mem_cons, List.mem_append] at hx
  rcases hx with rfl | hx | hx
  · exact List.prefix_rfl
  · exact pre_of (hl x hx)
  · exact pre_of (hr x hx)
def keys (t : Tr) : List K := (walk t).map (·.1)
theorem keys_nodes {t : Tr} {k : K} (h : k ∈ keys t) : k ∈ nodes t := by
  obtain ⟨e, he, rfl⟩ := List.mem_map.1 h
  exact walk_nodes he
theorem keys_node (k : K) (v : Option Int) (l r : Tr) : keys (.node k v l r) = (own k v).map (·.1) ++ (keys l ++ keys r) := by simp [keys, walk]
theorem own_keys (k : K) (v : Option Int) : (own k v).map (·.1) = if v.isSome then [k] else [] := by cases v <;> rfl
/-- where there is a node there is something told of -/
theorem some_key {t : Tr} (h : Ok t) (hn : t ≠ .nil) : ∃ k, k ∈ keys t := by
  induction t with
  | nil => exact absurd rfl hn
  | node k v l r ihl ihr =>
    cases v with
    | some x => exact ⟨k, by simp [keys, walk, own]⟩
    | none =>
      obtain ⟨x, hx⟩ := ihl h.2.2.2.1 (h.1 rfl).1
      exact ⟨x, by rw [keys_node]; simp [hx]⟩
/-! ### all that are told of stand in order -/
theorem sorted {t : Tr} (h : Ok t) : (walk t).Pairwise (fun a b => lt a.1 b.1 = true) := by
  induction t with
  | nil => exact .nil
  | node k v l r ihl ihr =>
    obtain ⟨_, hl, hr, ol, or⟩ := h
    unfold walk
    rw [List.pairwise_append]
    refine ⟨?_, ?_, ?_⟩
    · cases v with
      | none => exact .nil
      | some x => exact List.pairwise_singleton _ _
    · rw [List.pairwise_append]
      exact ⟨ihl ol, ihr or, fun a ha b hb => lt_two (hl _ (walk_nodes ha)) (hr _ (walk_nodes hb))⟩
    · intro a ha b hb
      rw [own_at ha]
      rcases List.mem_append.1 hb with hb | hb
      · exact lt_in (hl _ (walk_nodes hb))
      · exact lt_in (hr _ (walk_nodes hb))
theorem nodes_nodup {t : Tr} (h : Ok t) : (nodes t).Nodup := by
  induction t with
  | nil => exact List.nodup_nil
  | node k v l r ihl ihr =>
    obtain ⟨_, hl, hr, ol, or⟩ := h
    unfold nodes
    rw [List.nodup_cons, List.nodup_append]
    refine ⟨?_, ihl ol, ihr or, ?_⟩
    · intro hk
      rcases List.mem_append.1 hk with hk | hk
      · exact pre_ne (hl _ hk) rfl
      · exact pre_ne (hr _ hk) rfl
    · intro a ha b hb e
      subst e
      exact (apart (hl a ha) (hr a hb)).2.1 List.prefix_rfl
/-! ### the nodes of prefixes -/
def inN (l : List K) (c : K) : Prop := c ∈ l ∨ ∃ p ∈ l, ∃ q ∈ l, ¬ p <+: q ∧ ¬ q <+: p ∧ lcp p q = c
theorem inN_mono {l m : List K} (h : ∀ x ∈ l, x ∈ m) {c : K} (hc : inN l c) : inN m c := by
  rcases hc with hc | ⟨p, hp, q, hq, h1, h2, h3⟩
  · exact .inl (h c hc)
  · exact .inr ⟨p, h p hp, q, h q hq, h1, h2, h3⟩
theorem nodes_iff {t : Tr} (h : Ok t) (c : K) : c ∈ nodes t ↔ inN (keys t) c := by
  induction t with
  | nil =>
    constructor
    · intro h; cases h
    · rintro (h | ⟨p, hp, _⟩)
      · cases h
      · cases hp
  | node k v l r ihl ihr =>
    have hroot := h
    obtain ⟨hv, hl, hr, ol, or⟩ := h
    have kl : ∀ x ∈ keys l, x ∈ keys (.node k v l r) := fun x hx => by rw [keys_node]; simp [hx]
    have kr : ∀ x ∈ keys r, x ∈ keys (.node k v l r) := fun x hx => by rw [keys_node]; simp [hx]
    constructor
    · intro hc
      simp only [nodes, List.mem_cons, List.mem_append] at hc
      rcases hc with rfl | hc | hc
      · cases v with
        | some x => exact .inl (by rw [keys_node]; simp [own])
        | none =>
          obtain ⟨nl, nr⟩ := hv rfl
          obtain ⟨p, hp⟩ := some_key ol nl
          obtain ⟨q, hq⟩ := some_key or nr
          obtain ⟨h1, h2, h3⟩ := apart (hl p (keys_nodes hp)) (hr q (keys_nodes hq))
          exact .inr ⟨p, kl p hp, q, kr q hq, h2, h3, h1⟩
      · exact inN_mono kl ((ihl ol).1 hc)
      · exact inN_mono kr ((ihr or).1 hc)
    · have hk : ∀ x, x ∈ keys (.node k v l r) → x = k ∨ x ∈ keys l ∨ x ∈ keys r := by
        intro x hx
        rw [keys_node, List.mem_append, List.mem_append] at hx
        rcases hx with hx | hx | hx
        · rw [own_keys] at hx
          split at hx
          · exact .inl (List.mem_singleton.1 hx)
          · cases hx
        · exact .inr (.inl hx)
        · exact .inr (.inr hx)
      have hpre : ∀ x, x ∈ keys (.node k v l r) → k <+: x := fun x hx => root_pre hroot (keys_nodes hx)
      rintro (hc | ⟨p, hp, q, hq, h1, h2, rfl⟩)
      · exact keys_nodes hc
      · simp only [nodes, List.mem_cons, List.mem_append]
        rcases hk p hp with rfl | hp' | hp'
        · exact absurd (hpre q hq) h1
        · rcases hk q hq with rfl | hq' | hq'
          · exact absurd (hpre p hp) h2
          · exact .inr (.inl ((ihl ol).2 (.inr ⟨p, hp', q, hq', h1, h2, rfl⟩)))
          · exact .inl (apart (hl p (keys_nodes hp')) (hr q (keys_nodes hq'))).1
        · rcases hk q hq with rfl | hq' | hq'
          · exact absurd (hpre p hp) h2
          · exact .inl (by rw [lcp_comm]; exact (apart (hl q (keys_nodes hq')) (hr p (keys_nodes hp'))).1)
          · exact .inr (.inr ((ihr or).2 (.inr ⟨p, hp', q, hq', h1, h2, rfl⟩)))
theorem len_le {α : Type} [DecidableEq α] {l m : List α} (hl : l.Nodup) (h : ∀ x ∈ l, x ∈ m) : l.length ≤ m.length := by
  induction l generalizing m with
  | nil => exact Nat.zero_le _
  | cons a l ih =>
    rw [List.nodup_cons] at hl
    have ha := h a (by simp)
    have := ih (m := m.erase a) hl.2 (fun x hx => (List.mem_erase_of_ne (fun e => hl.1 (by rw [← e]; exact hx))).2 (h x (by simp [hx])))
    rw [List.length_erase_of_mem ha] at this
    have hp := List.length_pos_of_mem ha
    simp only [List.length_cons]
    omega
theorem len_eq {α : Type} [DecidableEq α] {l m : List α} (hl : l.Nodup) (hm : m.Nodup) (h : ∀ x, x ∈ l ↔ x ∈ m) : l.length = m.length :=
  Nat.le_antisymm (len_le hl fun x hx => (h x).1 hx) (len_le hm fun x hx => (h x).2 hx)
/-! ### as many nodes as prefixes, and fewer than twice as many -/
theorem small {t : Tr} (h : Ok t) : (walk t).length ≤ (nodes t).length ∧ (t ≠ .nil → (nodes t).length < 2 * (walk t).length) := by
  induction t with
  | nil => exact ⟨Nat.le_refl _, fun h => absurd rfl h⟩
  | node k v l r ihl ihr =>
    obtain ⟨hv, hl, hr, ol, or⟩ := h
    obtain ⟨l1, l2⟩ := ihl ol
    obtain ⟨r1, r2⟩ := ihr or
    have e1 : (nodes (.node k v l r)).length = (nodes l).length + (nodes r).length + 1 := by simp [nodes]
    have e2 : (walk (.node k v l r)).length = (own k v).length + (walk l).length + (walk r).length := by simp [walk]; omega
    rw [e1, e2]
    have bl : (nodes l).length ≤ 2 * (walk l).length := by
      cases l with
      | nil => exact Nat.zero_le _
      | node => exact Nat.le_of_lt (l2 (by simp))
    have br : (nodes r).length ≤ 2 * (walk r).length := by
      cases r with
      | nil => exact Nat.zero_le _
      | node => exact Nat.le_of_lt (r2 (by simp))
    cases v with
    | some x =>
      simp only [own, List.length_singleton]
      exact ⟨by omega, fun _ => by omega⟩
    | none =>
      obtain ⟨nl, nr⟩ := hv rfl
      have := l2 nl
      have := r2 nr
      simp only [own, List.length_nil]
      exact ⟨by omega, fun _ => by omega⟩
/-! ### one more -/
def bitAt (p : K) (j : Nat) : Bool := p.getD j false
theorem bit_is {k p : K} {b : Bool} (h : k ++ [b] <+: p) : bitAt p k.length = b := by
  obtain ⟨p, rfl⟩ := pre_form h
  simp [bitAt, List.getD]
def ins : Tr → K → Int → Tr
  | .nil, p, x => .node p (some x) .nil .nil
  | .node k v l r, p, x =>
    if p = k then .node k (some x) l r
    else if k <+: p then (if bitAt p k.length = true then .node k v l (ins r p x) else .node k v (ins l p x) r)
    else if p <+: k then (if bitAt k p.length = true then .node p (some x) .nil (.node k v l r) else .node p (some x) (.node k v l r) .nil)
    else if bitAt p (lcp p k).length = true then .node (lcp p k) none (.node k v l r) (.node p (some x) .nil .nil)
    else .node (lcp p k) none (.node p (some x) .nil .nil) (.node k v l r)
theorem pre_not {p k : K} {b : Bool} (h : p ++ [b] <+: k) : ¬ k <+: p := fun h2 => by
  have h1 := h.length_le
  have h3 := h2.length_le
  simp at h1
  omega
section
variable (k : K) (v : Option Int) (l r : Tr) (p : K) (x : Int)
theorem ins_same : ins (.node k v l r) k x = .node k (some x) l r := by simp [ins]
theorem ins_right {p : K} (h : k ++ [true] <+: p) : ins (.node k v l r) p x = .node k v l (ins r p x) := by
  simp only [ins]
  rw [if_neg (pre_ne h), if_pos (pre_of h), if_pos (bit_is h)]
theorem ins_left {p : K} (h : k ++ [false] <+: p) : ins (.node k v l r) p x = .node k v (ins l p x) r := by
  simp only [ins]
  rw [if_neg (pre_ne h), if_pos (pre_of h), if_neg (by rw [bit_is h]; decide)]
theorem ins_above_r {p : K} (h : p ++ [true] <+: k) : ins (.node k v l r) p x = .node p (some x) .nil (.node k v l r) := by
  simp only [ins]
  rw [if_neg (fun e => pre_ne h e.symm), if_neg (pre_not h), if_pos (pre_of h), if_pos (bit_is h)]
theorem ins_above_l {p : K} (h : p ++ [false] <+: k) : ins (.node k v l r) p x = .node p (some x) (.node k v l r) .nil := by
  simp only [ins]
  rw [if_neg (fun e => pre_ne h e.symm), if_neg (pre_not h), if_pos (pre_of h), if_neg (by rw [bit_is h]; decide)]
theorem ins_beside_r {p : K} (h : lcp p k ++ [true] <+: p) (h2 : lcp p k ++ [false] <+: k) : ins (.node k v l r) p x = .node (lcp p k) none (.node k v l r) (.node p (some x) .nil .nil) := by
  obtain ⟨_, h3, h4⟩ := apart h2 h
  simp only [ins]
  rw [if_neg (by rintro rfl; exact h3 List.prefix_rfl), if_neg h3, if_neg h4, if_pos (bit_is h)]
theorem ins_beside_l {p : K} (h : lcp p k ++ [false] <+: p) (h2 : lcp p k ++ [true] <+: k) : ins (.node k v l r) p x = .node (lcp p k) none (.node p (some x) .nil .nil) (.node k v l r) := by
  obtain ⟨_, h3, h4⟩ := apart h h2
  simp only [ins]
  rw [if_neg (by rintro rfl; exact h3 List.prefix_rfl), if_neg h4, if_neg h3, if_neg (by rw [bit_is h]; decide)]
end
theorem ins_ne (t : Tr) (p : K) (x : Int) : ins t p x ≠ .nil := by
  cases t with
  | nil => simp [ins]
  | node k v l r =>
    simp only [ins]
    repeat (first | split | simp)
theorem ok_one (p : K) (x : Int) : Ok (.node p (some x) .nil .nil) := ⟨fun h => (by cases h), fun _ h => (by cases h), fun _ h => (by cases h), trivial, trivial⟩
theorem nodes_one (p : K) (v : Option Int) {y : K} (h : y ∈ nodes (.node p v .nil .nil)) : y = p := by simpa [nodes] using h
/-- what comes of it: no node is idle; its nodes are within what all of them and the new one are within -/
theorem ins_ok {t : Tr} (h : Ok t) (p : K) (x : Int) : Ok (ins t p x) ∧ ∀ c, (∀ y ∈ nodes t, c <+: y) → c <+: p → ∀ y ∈ nodes (ins t p x), c <+: y := by
  induction t with
  | nil =>
    refine ⟨ok_one p x, fun c _ hc y hy => ?_⟩
    rw [nodes_one p _ hy]
    exact hc
  | node k v l r ihl ihr =>
    have hroot := h
    obtain ⟨hv, hl, hr, ol, or⟩ := h
    rcases four p k with rfl | ⟨b, hb⟩ | ⟨b, hb⟩ | ⟨b, hb, hc⟩
    · rw [ins_same]
      exact ⟨⟨fun h => (by cases h), hl, hr, ol, or⟩, fun c h1 h2 y hy => h1 y (by simpa [nodes] using hy)⟩
    · cases b
      · rw [ins_left k v l r x hb]
        obtain ⟨i1, i2⟩ := ihl ol
        refine ⟨⟨fun e => ⟨ins_ne _ _ _, (hv e).2⟩, i2 _ hl hb, hr, i1, or⟩, fun c h1 h2 y hy => ?_⟩
        simp only [nodes, List.mem_cons, List.mem_append] at hy h1
        rcases hy with rfl | hy | hy
        · exact h1 y (.inl rfl)
        · exact i2 c (fun z hz => h1 z (.inr (.inl hz))) h2 y hy
        · exact h1 y (.inr (.inr hy))
      · rw [ins_right k v l r x hb]
        obtain ⟨i1, i2⟩ := ihr or
        refine ⟨⟨fun e => ⟨(hv e).1, ins_ne _ _ _⟩, hl, i2 _ hr hb, ol, i1⟩, fun c h1 h2 y hy => ?_⟩
        simp only [nodes, List.mem_cons, List.mem_append] at hy h1
        rcases hy with rfl | hy | hy
        · exact h1 y (.inl rfl)
        · exact h1 y (.inr (.inl hy))
        · exact i2 c (fun z hz => h1 z (.inr (.inr hz))) h2 y hy
    · have hin : ∀ y ∈ nodes (.node k v l r), p ++ [b] <+: y := fun y hy => hb.trans (root_pre hroot hy)
      cases b
      · rw [ins_above_l k v l r x hb]
        refine ⟨⟨fun h => (by cases h), hin, fun _ h => (by cases h), hroot, trivial⟩, fun c h1 h2 y hy => ?_⟩
        rw [nodes, List.mem_cons, List.mem_append] at hy
        rcases hy with rfl | hy | hy
        · exact h2
        · exact h1 y hy
        · cases hy
      · rw [ins_above_r k v l r x hb]
        refine ⟨⟨fun h => (by cases h), fun _ h => (by cases h), hin, trivial, hroot⟩, fun c h1 h2 y hy => ?_⟩
        rw [nodes, List.mem_cons, List.mem_append] at hy
        rcases hy with rfl | hy | hy
        · exact h2
        · cases hy
        · exact h1 y hy
    · have hk : k ∈ nodes (.node k v l r) := by simp [nodes]
      have hcc : ∀ c, c <+: p → c <+: k → c <+: lcp p k := by
        intro c h1 h2
        by_cases hlen : c.length ≤ (lcp p k).length
        · exact List.prefix_of_prefix_length_le h1 (lcp_left p k) hlen
        · exfalso
          have e1 : lcp p k ++ [b] <+: c := List.prefix_of_prefix_length_le hb h1 (by simp; omega)
          have e2 : lcp p k ++ [!b] <+: c := List.prefix_of_prefix_length_le hc h2 (by simp; omega)
          have f1 := bit_is e1
          have f2 := bit_is e2
          rw [f1] at f2
          cases b <;> cases f2
      cases b
      · rw [ins_beside_l k v l r x hb hc]
        refine ⟨⟨fun _ => ⟨by simp, by simp⟩, fun y hy => by rw [nodes_one p _ hy]; exact hb, fun y hy => hc.trans (root_pre hroot hy), ok_one p x, hroot⟩, fun c h1 h2 y hy => ?_⟩
        rw [nodes, List.mem_cons, List.mem_append] at hy
        rcases hy with rfl | hy | hy
        · exact hcc c h2 (h1 k hk)
        · rw [nodes_one p _ hy]; exact h2
        · exact h1 y hy
      · rw [ins_beside_r k v l r x hb hc]
        refine ⟨⟨fun _ => ⟨by simp, by simp⟩, fun y hy => hc.trans (root_pre hroot hy), fun y hy => by rw [nodes_one p _ hy]; exact hb, hroot, ok_one p x⟩, fun c h1 h2 y hy => ?_⟩
        rw [nodes, List.mem_cons, List.mem_append] at hy
        rcases hy with rfl | hy | hy
        · exact hcc c h2 (h1 k hk)
        · exact h1 y hy
        · rw [nodes_one p _ hy]; exact h2
/-- the entries ahead of a prefix, the new one, and those behind -/
def withL (l : List E) (p : K) (x : Int) : List E := l.filter (fun e => lt e.1 p) ++ (p, x) :: l.filter (fun e => lt p e.1)
theorem all_ahead {l : List E} {p : K} (h : ∀ e ∈ l, lt e.1 p = true) : l.filter (fun e => lt e.1 p) = l ∧ l.filter (fun e => lt p e.1) = [] :=
  ⟨List.filter_eq_self.2 h, List.filter_eq_nil_iff.2 fun e he => by rw [lt_asymm (h e he)]; decide⟩
theorem all_behind {l : List E} {p : K} (h : ∀ e ∈ l, lt p e.1 = true) : l.filter (fun e => lt e.1 p) = [] ∧ l.filter (fun e => lt p e.1) = l :=
  ⟨List.filter_eq_nil_iff.2 fun e he => by rw [lt_asymm (h e he)]; decide, List.filter_eq_self.2 h⟩
theorem own_here (k : K) (v : Option Int) : (own k v).filter (fun e => lt e.1 k) = [] ∧ (own k v).filter (fun e => lt k e.1) = [] :=
  ⟨List.filter_eq_nil_iff.2 fun e he => by rw [own_at he, lt_irrefl]; decide, List.filter_eq_nil_iff.2 fun e he => by rw [own_at he, lt_irrefl]; decide⟩
theorem ins_walk {t : Tr} (h : Ok t) (p : K) (x : Int) : walk (ins t p x) = withL (walk t) p x := by
  induction t with
  | nil => rfl
  | node k v l r ihl ihr =>
    have hroot := h
    obtain ⟨hv, hl, hr, ol, or⟩ := h
    have wl : ∀ e ∈ walk l, k ++ [false] <+: e.1 := fun e he => hl _ (walk_nodes he)
    have wr : ∀ e ∈ walk r, k ++ [true] <+: e.1 := fun e he => hr _ (walk_nodes he)
    have wk : ∀ e ∈ walk (.node k v l r), k <+: e.1 := fun e he => root_pre hroot (walk_nodes he)
    rcases four p k with rfl | ⟨b, hb⟩ | ⟨b, hb⟩ | ⟨b, hb, hc⟩
    · rw [ins_same]
      have l2 := all_behind (fun e he => lt_in (wl e he))
      have r2 := all_behind (fun e he => lt_in (wr e he))
      obtain ⟨o1, o2⟩ := own_here p v
      simp only [withL, walk, own_some, List.filter_append, l2.1, l2.2, r2.1, r2.2, o1, o2, List.nil_append, List.singleton_append]
    · have ow : ∀ e ∈ own k v, lt e.1 p = true := fun e he => by rw [own_at he]; exact lt_in hb
      obtain ⟨o1, o2⟩ := all_ahead ow
      cases b
      · rw [ins_left k v l r x hb]
        obtain ⟨r1, r2⟩ := all_behind (fun e he => lt_two hb (wr e he))
        have hi := ihl ol
        simp only [withL] at hi
        simp only [withL, walk, List.filter_append, o1, o2, r1, r2, hi, List.nil_append, List.append_nil, List.append_assoc, List.cons_append]
      · rw [ins_right k v l r x hb]
        obtain ⟨l1, l2⟩ := all_ahead (fun e he => lt_two (wl e he) hb)
        have hi := ihr or
        simp only [withL] at hi
        simp only [withL, walk, List.filter_append, o1, o2, l1, l2, hi, List.nil_append, List.append_nil, List.append_assoc, List.cons_append]
    · obtain ⟨a1, a2⟩ := all_behind (fun e he => lt_in (hb.trans (wk e he)))
      unfold withL
      rw [a1, a2]
      cases b
      · rw [ins_above_l k v l r x hb]
        simp only [walk, own, List.append_nil, List.nil_append, List.cons_append]
      · rw [ins_above_r k v l r x hb]
        simp only [walk, own, List.append_nil, List.nil_append, List.cons_append]
    · cases b
      · obtain ⟨a1, a2⟩ := all_behind (fun e he => lt_two hb (hc.trans (wk e he)))
        unfold withL
        rw [a1, a2, ins_beside_l k v l r x hb hc]
        simp only [walk, own, List.append_nil, List.nil_append, List.cons_append]
      · obtain ⟨a1, a2⟩ := all_ahead (fun e he => lt_two (hc.trans (wk e he)) hb)
        unfold withL
        rw [a1, a2, ins_beside_r k v l r x hb hc]
        simp only [walk, own, List.append_nil, List.nil_append, List.cons_append]
/-! ### one less -/
def join (k : K) : Option Int → Tr → Tr → Tr
  | none, .nil, r => r
  | none, l, .nil => l
  | v, l, r => .node k v l r
def del : Tr → K → Tr
  | .nil, _ => .nil
  | .node k v l r, p =>
    if p = k then join k none l r
    else if k <+: p then (if bitAt p k.length = true then join k v l (del r p) else join k v (del l p) r)
    else .node k v l r
theorem join_walk (k : K) (v : Option Int) (l r : Tr) : walk (join k v l r) = own k v ++ (walk l ++ walk r) := by
  cases v with
  | some x => rfl
  | none =>
    cases l with
    | nil => cases r <;> rfl
    | node => cases r <;> simp [join, walk, own]
theorem join_nodes {k : K} {v : Option Int} {l r : Tr} {y : K} (h : y ∈ nodes (join k v l r)) : y ∈ nodes (.node k v l r) := by
  cases v with
  | some x => exact h
  | none =>
    cases l with
    | nil => simp only [join] at h; simp [nodes, h]
    | node =>
      cases r with
      | nil => simp only [join] at h; simp only [nodes, List.mem_cons, List.mem_append] at h ⊢; exact .inr (.inl h)
      | node => exact h
theorem join_ok {k : K} {v : Option Int} {l r : Tr} (hl : ∀ x ∈ nodes l, k ++ [false] <+: x) (hr : ∀ x ∈ nodes r, k ++ [true] <+: x) (ol : Ok l) (or : Ok r) : Ok (join k v l r) := by
  cases v with
  | some x => exact ⟨fun h => (by cases h), hl, hr, ol, or⟩
  | none =>
    cases l with
    | nil => exact or
    | node =>
      cases r with
      | nil => exact ol
      | node => exact ⟨fun _ => ⟨by simp, by simp⟩, hl, hr, ol, or⟩
theorem del_nodes {t : Tr} {p y : K} (h : y ∈ nodes (del t p)) : y ∈ nodes t := by
  induction t with
  | nil => exact h
  | node k v l r ihl ihr =>
    simp only [del] at h
    split at h
    · have := join_nodes h; simpa [nodes] using this
    · split at h
      · split at h
        · have := join_nodes h
          simp only [nodes, List.mem_cons, List.mem_append] at this ⊢
          rcases this with h | h | h
          · exact .inl h
          · exact .inr (.inl h)
          · exact .inr (.inr (ihr h))
        · have := join_nodes h
          simp only [nodes, List.mem_cons, List.mem_append] at this ⊢
          rcases this with h | h | h
          · exact .inl h
          · exact .inr (.inl (ihl h))
          · exact .inr (.inr h)
      · exact h
theorem del_ok {t : Tr} (h : Ok t) (p : K) : Ok (del t p) := by
  induction t with
  | nil => exact h
  | node k v l r ihl ihr =>
    obtain ⟨hv, hl, hr, ol, or⟩ := h
    simp only [del]
    split
    · exact join_ok hl hr ol or
    · split
      · split
        · exact join_ok hl (fun x hx => hr x (del_nodes hx)) ol (ihr or)
        · exact join_ok (fun x hx => hl x (del_nodes hx)) hr (ihl ol) or
      · exact ⟨hv, hl, hr, ol, or⟩
theorem keep_all {l : List E} {p : K} (h : ∀ e ∈ l, e.1 ≠ p) : l.filter (fun e => decide (e.1 ≠ p)) = l := List.filter_eq_self.2 fun e he => decide_eq_true (h e he)
theorem del_walk {t : Tr} (h : Ok t) (p : K) : walk (del t p) = (walk t).filter (fun e => decide (e.1 ≠ p)) := by
  induction t with
  | nil => rfl
  | node k v l r ihl ihr =>
    have hroot := h
    obtain ⟨hv, hl, hr, ol, or⟩ := h
    have wl : ∀ e ∈ walk l, k ++ [false] <+: e.1 := fun e he => hl _ (walk_nodes he)
    have wr : ∀ e ∈ walk r, k ++ [true] <+: e.1 := fun e he => hr _ (walk_nodes he)
    have wk : ∀ e ∈ walk (.node k v l r), k <+: e.1 := fun e he => root_pre hroot (walk_nodes he)
    have down : k <+: p → p ≠ k → k ++ [bitAt p k.length] <+: p := by
      rintro ⟨q, rfl⟩ hq
      cases q with
      | nil => simp at hq
      | cons b q => exact ⟨q, by simp [bitAt, List.getD]⟩
    simp only [del]
    by_cases e1 : p = k
    · subst e1
      rw [if_pos rfl, join_walk]
      have h1 := keep_all (p := p) (fun e he => pre_ne (wl e he))
      have h2 := keep_all (p := p) (fun e he => pre_ne (wr e he))
      have h3 : (own p v).filter (fun e => decide (e.1 ≠ p)) = [] := List.filter_eq_nil_iff.2 fun e he => by rw [own_at he]; simp
      simp only [walk, List.filter_append, h1, h2, h3, own_none, List.nil_append]
    · rw [if_neg e1]
      have h3 : (own k v).filter (fun e => decide (e.1 ≠ p)) = own k v := keep_all fun e he => by rw [own_at he]; exact fun e => e1 e.symm
      by_cases e2 : k <+: p
      · rw [if_pos e2]
        have hd := down e2 e1
        cases hb : bitAt p k.length
        · rw [hb] at hd
          have h2 := keep_all (p := p) (fun e he => fun ee => (apart hd (wr e he)).2.1 (by rw [ee]; exact List.prefix_rfl))
          rw [if_neg (by decide), join_walk, ihl ol]
          simp only [walk, List.filter_append, h2, h3]
        · rw [hb] at hd
          have h2 := keep_all (p := p) (fun e he => fun ee => (apart (wl e he) hd).2.1 (by rw [ee]; exact List.prefix_rfl))
          rw [if_pos rfl, join_walk, ihr or]
          simp only [walk, List.filter_append, h2, h3]
      · rw [if_neg e2]
        exact (keep_all fun e he => fun ee => e2 (by rw [← ee]; exact wk e he)).symm
/-! ### the longest that has an address -/
def better (x : K) (best : Option E) (e : E) : Option E := if e.1 <+: x ∧ (∀ b, best = some b → b.1.length < e.1.length) then some e else best
def findL (l : List E) (x : K) (best : Option E) : Option E := l.foldl (better x) best
def findT : Tr → K → Option E → Option E
  | .nil, _, best => best
  | .node k v l r, x, best =>
    if k <+: x then (if k.length < x.length then (if bitAt x k.length = true then findT r x ((own k v).head?.or best) else findT l x ((own k v).head?.or best)) else (own k v).head?.or best)
    else best
theorem better_no {x : K} {best : Option E} {e : E} (h : ¬ e.1 <+: x) : better x best e = best := by unfold better; rw [if_neg (fun hh => h hh.1)]
theorem findL_no {l : List E} {x : K} (best : Option E) (h : ∀ e ∈ l, ¬ e.1 <+: x) : findL l x best = best := by
  induction l generalizing best with
  | nil => rfl
  | cons e l ih =>
    unfold findL
    rw [List.foldl_cons, better_no (h e (by simp))]
    exact ih best fun e he => h e (by simp [he])
theorem find_is {t : Tr} (h : Ok t) (x : K) (best : Option E) (hb : ∀ b, best = some b → ∀ y ∈ nodes t, b.1.length < y.length) : findL (walk t) x best = findT t x best := by
  induction t generalizing best with
  | nil => rfl
  | node k v l r ihl ihr =>
    have hroot := h
    obtain ⟨hv, hl, hr, ol, or⟩ := h
    by_cases hk : k <+: x
    case neg =>
      rw [findL_no best (fun e he => fun hh => hk ((root_pre hroot (walk_nodes he)).trans hh))]
      simp only [findT]
      rw [if_neg hk]
    have e1 : findL (own k v) x best = (own k v).head?.or best := by
      cases v with
      | none => rfl
      | some z =>
        show better x best (k, z) = some (k, z)
        unfold better
        rw [if_pos ⟨hk, fun b e => hb b e k (by simp [nodes])⟩]
    have hbest : ∀ b, (own k v).head?.or best = some b → b.1.length ≤ k.length := by
      intro b e
      cases v with
      | none => exact Nat.le_of_lt (hb b e k (by simp [nodes]))
      | some z =>
        have : b = (k, z) := by simpa [own] using e.symm
        rw [this]
        exact Nat.le_refl _
    have down : ∀ {c : Bool} {y : K}, k ++ [c] <+: y → k.length < y.length := by
      intro c y hy
      have := hy.length_le
      simp at this
      omega
    have split : findL (walk (.node k v l r)) x best = findL (walk r) x (findL (walk l) x ((own k v).head?.or best)) := by
      rw [← e1]
      simp only [findL, walk, List.foldl_append]
    rw [split]
    simp only [findT]
    rw [if_pos hk]
    by_cases hlen : k.length < x.length
    · rw [if_pos hlen]
      have hd : k ++ [bitAt x k.length] <+: x := by
        obtain ⟨q, rfl⟩ := hk
        cases q with
        | nil => simp at hlen
        | cons b q => exact ⟨q, by simp [bitAt, List.getD]⟩
      cases hbit : bitAt x k.length
      · rw [hbit] at hd
        rw [if_neg (by decide), findL_no (l := walk r) _ (fun e he => fun hh => (apart hd (hr _ (walk_nodes he))).2.2 hh)]
        exact ihl ol _ (fun b e y hy => Nat.lt_of_le_of_lt (hbest b e) (down (hl y hy)))
      · rw [hbit] at hd
        rw [if_pos rfl, findL_no (l := walk l) _ (fun e he => fun hh => (apart (hl _ (walk_nodes he)) hd).2.1 hh)]
        exact ihr or _ (fun b e y hy => Nat.lt_of_le_of_lt (hbest b e) (down (hr y hy)))
    · rw [if_neg hlen, findL_no (l := walk l) _ (fun e he hh => ?_), findL_no (l := walk r) _ (fun e he hh => ?_)]
      · have := hh.length_le; have := down (hr _ (walk_nodes he)); omega
      · have := hh.length_le; have := down (hl _ (walk_nodes he)); omega
end Go.Proofs.Ytlgldoggnlcbkaa.Tt
