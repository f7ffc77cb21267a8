/- That the order in which different prefixes are told of does not matter, nor what is told of between and no more; no program in sight. -/
import Derived.Test.YtlgldoggnlcbkaaTrieHave
namespace Go.Proofs.Ytlgldoggnlcbkaa
open Go.ChangeShapes Go.WideShapes Go.ChangeAt Go.RowKit Tt
set_option linter.unusedVariables false
set_option linter.unusedSimpArgs false

theorem with_mem2 (e : T3) : ∀ (d : Bool) (l : List T3) (x : T3), x ∈ withGo e d l → x = e ∨ (x ∈ l ∧ x.1 ≠ e.1)
  | d, [], x, hx => by
    simp only [withGo] at hx
    split at hx
    · cases hx
    · exact .inl (List.mem_singleton.1 hx)
  | d, y :: l, x, hx => by
    simp only [withGo, List.mem_append] at hx
    rcases hx with h | h | h
    · split at h
      · exact .inl (List.mem_singleton.1 h)
      · cases h
    · split at h
      · rename_i hne
        rw [List.mem_singleton.1 h]
        exact .inr ⟨by simp, hne⟩
      · cases h
    · rcases with_mem2 e _ l x h with h | ⟨h, h2⟩
      · exact .inl h
      · exact .inr ⟨by simp [h], h2⟩
theorem with_stay (e : T3) : ∀ (d : Bool) (l : List T3) (x : T3), x ∈ l → x.1 ≠ e.1 → x ∈ withGo e d l
  | d, [], x, hx, _ => by cases hx
  | d, y :: l, x, hx, hne => by
    simp only [withGo, List.mem_append]
    rcases List.mem_cons.1 hx with rfl | hx
    · exact .inr (.inl (by rw [if_pos hne]; simp))
    · exact .inr (.inr (with_stay e _ l x hx hne))
theorem putTo_iff {l : List T3} (h : ∃ t, Rep t l) (hl : l.length ≤ 99) (e x : T3) : x ∈ putTo 1000 l e ↔ (may e.1 = true ∧ x = e) ∨ (x ∈ l ∧ (may e.1 = true → x.1 ≠ e.1)) := by
  by_cases he : may e.1 = true
  · rw [(put_room h hl he).2]
    obtain ⟨t, r⟩ := h
    constructor
    · intro hx
      rcases with_mem2 e false l x hx with h1 | ⟨h1, h2⟩
      · exact .inl ⟨he, h1⟩
      · exact .inr ⟨h1, fun _ => h2⟩
    · rintro (⟨_, rfl⟩ | ⟨h1, h2⟩)
      · exact with_in r.may r.srt he
      · exact with_stay e false l x h1 (h2 he)
  · rw [(put_not he).2]
    constructor
    · exact fun hx => .inr ⟨hx, fun h => absurd h he⟩
    · rintro (⟨h1, _⟩ | ⟨h1, _⟩)
      · exact absurd h1 he
      · exact h1
/-- different prefixes, told of one behind the other -/
theorem fold_iff (s : List T3) (hd : s.Pairwise (fun a b => a.1 ≠ b.1)) : ∀ (acc : List T3), (∃ t, Rep t acc) → acc.length + s.length ≤ 99 → ∀ x, x ∈ s.foldl (putTo 1000) acc ↔ (x ∈ s ∧ may x.1 = true) ∨ (x ∈ acc ∧ ∀ y ∈ s, may y.1 = true → y.1 ≠ x.1) := by
  induction s with
  | nil => intro acc _ _ x; simp
  | cons e s ih =>
    intro acc hr hl x
    rw [List.pairwise_cons] at hd
    have hpl := put_len 1000 acc e
    simp only [List.length_cons] at hl
    rw [List.foldl_cons, ih hd.2 (putTo 1000 acc e) (rep_putTo hr 1000 e) (by omega) x, putTo_iff hr (by omega)]
    constructor
    · rintro (⟨h1, h2⟩ | ⟨⟨h1, rfl⟩ | ⟨h1, h2⟩, h3⟩)
      · exact .inl ⟨by simp [h1], h2⟩
      · exact .inl ⟨by simp, h1⟩
      · refine .inr ⟨h1, fun y hy hm => ?_⟩
        rcases List.mem_cons.1 hy with rfl | hy
        · exact fun e => h2 hm e.symm
        · exact h3 y hy hm
    · rintro (⟨h1, h2⟩ | ⟨h1, h2⟩)
      · rcases List.mem_cons.1 h1 with rfl | h1
        · exact .inr ⟨.inl ⟨h2, rfl⟩, fun y hy _ e => hd.1 y hy e.symm⟩
        · exact .inl ⟨h1, h2⟩
      · exact .inr ⟨.inr ⟨h1, fun hm e' => h2 e (by simp) hm e'.symm⟩, fun y hy hm => h2 y (by simp [hy]) hm⟩
theorem cutTo_iff (l : List T3) (p : P2) (x : T3) : x ∈ cutTo l p ↔ x ∈ l ∧ (may p = true → x.1 ≠ p) := by
  unfold cutTo cutR
  by_cases hp : may p = true
  · rw [if_pos hp, List.mem_filter]
    constructor
    · exact fun h => ⟨h.1, fun _ => by simpa using h.2⟩
    · exact fun h => ⟨h.1, by simpa using h.2 hp⟩
  · rw [if_neg hp]
    exact ⟨fun h => ⟨h, fun h2 => absurd h2 hp⟩, fun h => h.1⟩
theorem cuts_iff (ps : List P2) (l : List T3) (x : T3) : x ∈ ps.foldl cutTo l ↔ x ∈ l ∧ ∀ p ∈ ps, may p = true → x.1 ≠ p := by
  induction ps generalizing l with
  | nil => simp
  | cons p ps ih =>
    rw [List.foldl_cons, ih, cutTo_iff]
    constructor
    · rintro ⟨⟨h1, h2⟩, h3⟩
      refine ⟨h1, fun q hq => ?_⟩
      rcases List.mem_cons.1 hq with rfl | hq
      · exact h2
      · exact h3 q hq
    · rintro ⟨h1, h2⟩
      exact ⟨⟨h1, h2 p (by simp)⟩, fun q hq => h2 q (by simp [hq])⟩
theorem rep_cutTo {l : List T3} (h : ∃ t, Rep t l) (p : P2) : ∃ t, Rep t (cutTo l p) := by
  unfold cutTo
  obtain ⟨t, r⟩ := h
  split
  · rename_i hp
    exact ⟨_, r.cut hp⟩
  · exact ⟨t, r⟩
theorem rep_cuts (ps : List P2) {l : List T3} (h : ∃ t, Rep t l) : ∃ t, Rep t (ps.foldl cutTo l) := by
  induction ps generalizing l with
  | nil => exact h
  | cons p ps ih => exact ih (rep_cutTo h p)
/-- lists in order that have the same are the same -/
theorem srt_ext : ∀ {l m : List E}, l.Pairwise (fun a b => lt a.1 b.1 = true) → m.Pairwise (fun a b => lt a.1 b.1 = true) → (∀ x, x ∈ l ↔ x ∈ m) → l = m
  | [], [], _, _, _ => rfl
  | [], b :: m, _, _, h => by have := (h b).2 (by simp); cases this
  | a :: l, [], _, _, h => by have := (h a).1 (by simp); cases this
  | a :: l, b :: m, hl, hm, h => by
    rw [List.pairwise_cons] at hl hm
    have hab : a = b := by
      rcases List.mem_cons.1 ((h a).1 (by simp)) with e | e
      · exact e
      · rcases List.mem_cons.1 ((h b).2 (by simp)) with e2 | e2
        · exact e2.symm
        · have h1 := hm.1 a e
          have h2 := hl.1 b e2
          rw [lt_asymm h1] at h2
          cases h2
    subst hab
    rw [srt_ext hl.2 hm.2 (fun x => ?_)]
    constructor
    · intro hx
      rcases List.mem_cons.1 ((h x).1 (by simp [hx])) with rfl | h1
      · have := hl.1 x hx; rw [lt_irrefl] at this; cases this
      · exact h1
    · intro hx
      rcases List.mem_cons.1 ((h x).2 (by simp [hx])) with rfl | h1
      · have := hm.1 x hx; rw [lt_irrefl] at this; cases this
      · exact h1
theorem rep_ext {l m : List T3} (hl : ∃ t, Rep t l) (hm : ∃ t, Rep t m) (h : ∀ x, x ∈ l ↔ x ∈ m) : l = m := by
  obtain ⟨t, r⟩ := hl
  obtain ⟨u, q⟩ := hm
  refine maps_inj r.may q.may (srt_ext r.srt q.srt fun x => ?_)
  constructor
  · intro hx
    obtain ⟨y, hy, rfl⟩ := List.mem_map.1 hx
    exact List.mem_map_of_mem ((h y).1 hy)
  · intro hx
    obtain ⟨y, hy, rfl⟩ := List.mem_map.1 hx
    exact List.mem_map_of_mem ((h y).2 hy)
theorem rep_fold (s : List T3) (acc : List T3) (h : ∃ t, Rep t acc) : ∃ t, Rep t (s.foldl (putTo 1000) acc) := by
  induction s generalizing acc with
  | nil => exact h
  | cons a s ih => exact ih _ (rep_putTo h 1000 a)
theorem fold_sub (s : List T3) (acc : List T3) (x : T3) (h : x ∈ s.foldl (putTo 1000) acc) : x ∈ acc ∨ x ∈ s := by
  induction s generalizing acc with
  | nil => exact .inl h
  | cons a s ih =>
    rcases ih _ h with h | h
    · rcases putTo_mem h with h | h
      · exact .inr (by simp [h])
      · exact .inl h
    · exact .inr (by simp [h])
/-- in whatever order, and whatever is told of between -/
theorem turned {s : List T3} {os : List P2} (hd : s.Pairwise (fun a b => a.1 ≠ b.1)) (ho : ∀ x ∈ s, ∀ p ∈ os, x.1 ≠ p) (hs : s.length ≤ 30) (hos : os.length ≤ 30) :
    os.foldl cutTo (s.reverse.foldl (putTo 1000) ((os.map (fun p => (p, (1 : Int)))).foldl (putTo 1000) [])) = s.foldl (putTo 1000) [] := by
  have hr0 : ∃ t, Rep t ([] : List T3) := ⟨_, Rep.nil⟩
  have hr1 := rep_fold (os.map (fun p => (p, (1 : Int)))) [] hr0
  have hl1 := puts_fold_len 1000 (os.map (fun p => (p, (1 : Int)))) []
  simp only [List.length_nil, List.length_map] at hl1
  have hd2 : s.reverse.Pairwise (fun a b => a.1 ≠ b.1) := List.pairwise_reverse.2 (hd.imp fun h => fun e => h e.symm)
  refine rep_ext (rep_cuts os (rep_fold s.reverse _ hr1)) (rep_fold s [] hr0) fun x => ?_
  rw [cuts_iff, fold_iff s.reverse hd2 _ hr1 (by simp only [List.length_reverse]; omega), fold_iff s hd [] hr0 (by simp; omega)]
  constructor
  · rintro ⟨⟨h1, h2⟩ | ⟨h1, h2⟩, h3⟩
    · exact .inl ⟨by simpa using h1, h2⟩
    · exfalso
      have hm : may x.1 = true := by obtain ⟨t, r⟩ := hr1; exact r.may x h1
      rcases fold_sub _ _ x h1 with h | h
      · cases h
      · obtain ⟨p, hp, rfl⟩ := List.mem_map.1 h
        exact h3 p hp hm rfl
  · rintro (⟨h1, h2⟩ | ⟨h1, _⟩)
    · exact ⟨.inl ⟨by simpa using h1, h2⟩, fun p hp _ => ho x h1 p hp⟩
    · cases h1
end Go.Proofs.Ytlgldoggnlcbkaa
