/- The document's own lists of prefixes, as plain lists, and that a tree in which no node is idle answers as they do; no program in sight. -/
import Derived.Test.YtlgldoggnlcbkabTrieBits
namespace Go.Proofs.Ytlgldoggnlcbkab.Tt
open M
set_option linter.unusedVariables false
set_option linter.unusedSimpArgs false

abbrev P2 := Int × Int
abbrev T3 := P2 × Int
def may (p : P2) : Bool := mayB p.1 p.2
def kq (p : P2) : K := kp p.1 p.2
def less (p q : P2) : Bool := lessI p.1 p.2 q.1 q.2
def mE (e : T3) : E := (kq e.1, e.2)
theorem less_lt {p q : P2} (h : may p = true) (h2 : may q = true) : less p q = lt (kq p) (kq q) := less_is h h2
theorem kq_inj {p q : P2} (h : may p = true) (h2 : may q = true) (e : kq p = kq q) : p = q := by
  obtain ⟨e1, e2⟩ := kp_inj h h2 e
  exact Prod.ext e1 e2
theorem mE_inj {d e : T3} (h : may d.1 = true) (h2 : may e.1 = true) (he : mE d = mE e) : d = e := by
  have h1 := congrArg Prod.fst he
  have h3 := congrArg Prod.snd he
  exact Prod.ext (kq_inj h h2 h1) h3
def AllMay (l : List T3) : Prop := ∀ e ∈ l, may e.1 = true
theorem maps_inj {l m : List T3} (hl : AllMay l) (hm : AllMay m) (h : l.map mE = m.map mE) : l = m := by
  induction l generalizing m with
  | nil => cases m with | nil => rfl | cons => cases h
  | cons a l ih =>
    cases m with
    | nil => cases h
    | cons b m =>
      rw [List.map_cons, List.map_cons, List.cons.injEq] at h
      rw [mE_inj (hl a (by simp)) (hm b (by simp)) h.1, ih (fun e he => hl e (by simp [he])) (fun e he => hm e (by simp [he])) h.2]
/-! ### with one more -/
def here (e x : T3) : Bool := less e.1 x.1 || decide (x.1 = e.1)
def withGo (e : T3) : Bool → List T3 → List T3
  | d, [] => if d = true then [] else [e]
  | d, x :: l => (if (!d && here e x) = true then [e] else []) ++ ((if x.1 ≠ e.1 then [x] else []) ++ withGo e (d || here e x) l)
def Srt (l : List T3) : Prop := (l.map mE).Pairwise (fun a b => lt a.1 b.1 = true)
theorem srt_cons {x : T3} {l : List T3} (h : Srt (x :: l)) : (∀ y ∈ l, lt (kq x.1) (kq y.1) = true) ∧ Srt l := by
  unfold Srt at h
  rw [List.map_cons, List.pairwise_cons] at h
  exact ⟨fun y hy => h.1 (mE y) (List.mem_map_of_mem hy), h.2⟩
theorem with_done {e : T3} {l : List T3} (he : may e.1 = true) (hl : AllMay l) (h : ∀ y ∈ l, lt (kq e.1) (kq y.1) = true) : withGo e true l = l := by
  induction l with
  | nil => rfl
  | cons x l ih =>
    have hx := h x (by simp)
    have hne : x.1 ≠ e.1 := fun hh => lt_ne hx (by rw [hh])
    simp only [withGo]
    rw [if_neg (by simp), if_pos hne, Bool.true_or, ih (fun y hy => hl y (by simp [hy])) (fun y hy => h y (by simp [hy]))]
    rfl
theorem with_is {e : T3} {l : List T3} (he : may e.1 = true) (hl : AllMay l) (hs : Srt l) : (withGo e false l).map mE = withL (l.map mE) (kq e.1) e.2 := by
  induction l with
  | nil => rfl
  | cons x l ih =>
    obtain ⟨hx, hs'⟩ := srt_cons hs
    have hmx := hl x (by simp)
    have hl' : AllMay l := fun y hy => hl y (by simp [hy])
    have behind : ∀ y : T3, lt (kq e.1) (kq y.1) = true → lt (mE y).1 (kq e.1) = false ∧ lt (kq e.1) (mE y).1 = true := fun y hy => ⟨lt_asymm hy, hy⟩
    rcases lt_three (kq e.1) (kq x.1) with h | h | h
    · have h1 : here e x = true := by unfold here; rw [less_lt he hmx, h, Bool.true_or]
      have hne : x.1 ≠ e.1 := fun hh => lt_ne h (by rw [hh])
      have hb : ∀ y ∈ l, lt (kq e.1) (kq y.1) = true := fun y hy => lt_trans h (hx y hy)
      simp only [withGo]
      rw [h1, Bool.false_or, if_pos (by simp), if_pos hne, with_done he hl' hb]
      have hall : ∀ d ∈ (x :: l).map mE, lt (kq e.1) d.1 = true := by
        intro d hd
        obtain ⟨y, hy, rfl⟩ := List.mem_map.1 hd
        rcases List.mem_cons.1 hy with rfl | hy
        · exact h
        · exact hb y hy
      obtain ⟨a1, a2⟩ := all_behind hall
      unfold withL
      rw [a1, a2]
      rfl
    · have hex := kq_inj he hmx h
      have h1 : here e x = true := by unfold here; rw [decide_eq_true hex.symm, Bool.or_true]
      have hb : ∀ y ∈ l, lt (kq e.1) (kq y.1) = true := fun y hy => by rw [h]; exact hx y hy
      simp only [withGo]
      rw [h1, Bool.false_or, if_pos (by simp), if_neg (by simpa using hex.symm), with_done he hl' hb]
      have hall : ∀ d ∈ l.map mE, lt (kq e.1) d.1 = true := by
        intro d hd
        obtain ⟨y, hy, rfl⟩ := List.mem_map.1 hd
        exact hb y hy
      obtain ⟨a1, a2⟩ := all_behind hall
      have f1 : lt (mE x).1 (kq e.1) = false := by show lt (kq x.1) _ = _; rw [← h, lt_irrefl]
      have f2 : lt (kq e.1) (mE x).1 = false := by show lt _ (kq x.1) = _; rw [← h, lt_irrefl]
      unfold withL
      rw [List.map_cons, List.filter_cons_of_neg (by rw [f1]; decide), List.filter_cons_of_neg (by rw [f2]; decide), a1, a2]
      rfl
    · have hne : x.1 ≠ e.1 := fun hh => lt_ne h (by rw [hh])
      have h1 : here e x = false := by unfold here; rw [less_lt he hmx, lt_asymm h, Bool.false_or]; exact decide_eq_false hne
      simp only [withGo]
      rw [h1, Bool.false_or, if_neg (by simp), if_pos hne]
      have f1 : lt (mE x).1 (kq e.1) = true := h
      have f2 : lt (kq e.1) (mE x).1 = false := lt_asymm h
      have hi := ih hl' hs'
      unfold withL at hi ⊢
      rw [List.map_cons, List.filter_cons_of_pos (by rw [f1]), List.filter_cons_of_neg (by rw [f2]; decide)]
      simp only [List.nil_append, List.singleton_append, List.map_cons, List.cons_append]
      rw [hi]
theorem with_may {e : T3} (he : may e.1 = true) : ∀ (d : Bool) (l : List T3), AllMay l → AllMay (withGo e d l)
  | d, [], _ => by
    simp only [withGo]
    split
    · intro y hy; cases hy
    · intro y hy; rw [List.mem_singleton.1 hy]; exact he
  | d, x :: l, hl => by
    have ih := with_may he (d || here e x) l (fun y hy => hl y (by simp [hy]))
    intro y hy
    simp only [withGo, List.mem_append] at hy
    rcases hy with hy | hy | hy
    · split at hy
      · rw [List.mem_singleton.1 hy]; exact he
      · cases hy
    · split at hy
      · rw [List.mem_singleton.1 hy]; exact hl x (by simp)
      · cases hy
    · exact ih y hy
/-! ### without one -/
def cutR (l : List T3) (p : P2) : List T3 := l.filter (fun x => decide (x.1 ≠ p))
theorem cut_may {l : List T3} (hl : AllMay l) (p : P2) : AllMay (cutR l p) := fun e he => hl e (List.mem_filter.1 he).1
theorem cut_is {l : List T3} {p : P2} (hp : may p = true) (hl : AllMay l) : (cutR l p).map mE = (l.map mE).filter (fun e => decide (e.1 ≠ kq p)) := by
  induction l with
  | nil => rfl
  | cons x l ih =>
    have hi := ih fun y hy => hl y (by simp [hy])
    have hx := hl x (by simp)
    unfold cutR at hi ⊢
    rw [List.map_cons]
    by_cases h : x.1 = p
    · have h2 : (mE x).1 = kq p := by show kq x.1 = _; rw [h]
      rw [List.filter_cons_of_neg (by simpa using h), List.filter_cons_of_neg (by simpa using h2), hi]
    · have h2 : (mE x).1 ≠ kq p := fun hh => h (kq_inj hx hp hh)
      rw [List.filter_cons_of_pos (by simpa using h), List.filter_cons_of_pos (by simpa using h2), List.map_cons, hi]
/-! ### the longest -/
def betterR (addr : Int) (best : Option T3) (x : T3) : Option T3 := if hasB x.1.1 x.1.2 addr = true ∧ (∀ b, best = some b → b.1.2 < x.1.2) then some x else best
def findR (l : List T3) (addr : Int) (best : Option T3) : Option T3 := l.foldl (betterR addr) best
theorem find_ref {l : List T3} (hl : AllMay l) (addr : Int) (best : Option T3) (hb : ∀ b, best = some b → may b.1 = true) : (findR l addr best).map mE = findL (l.map mE) (bl addr 32) (best.map mE) := by
  induction l generalizing best with
  | nil => rfl
  | cons x l ih =>
    have hx := hl x (by simp)
    have e1 : (betterR addr best x).map mE = better (bl addr 32) (best.map mE) (mE x) := by
      unfold betterR better
      have k1 : (hasB x.1.1 x.1.2 addr = true ∧ ∀ b, best = some b → b.1.2 < x.1.2) ↔ ((mE x).1 <+: bl addr 32 ∧ ∀ b, best.map mE = some b → b.1.length < (mE x).1.length) := by
        refine and_congr (has_iff addr hx) ?_
        have lx := kp_len (a := x.1.1) (n := x.1.2) hx
        cases best with
        | none => simp
        | some b =>
          have lb := kp_len (a := b.1.1) (n := b.1.2) (hb b rfl)
          constructor
          · intro h d hd
            have := h b rfl
            obtain rfl : mE b = d := by simpa using hd
            show (kp b.1.1 b.1.2).length < (kp x.1.1 x.1.2).length
            omega
          · intro h d hd
            have hlt := h (mE b) rfl
            obtain rfl : b = d := by simpa using hd
            have hlt2 : (kp b.1.1 b.1.2).length < (kp x.1.1 x.1.2).length := hlt
            omega
      by_cases h : (hasB x.1.1 x.1.2 addr = true ∧ ∀ b, best = some b → b.1.2 < x.1.2)
      · rw [if_pos h, if_pos (k1.1 h)]; rfl
      · rw [if_neg h, if_neg (fun hh => h (k1.2 hh))]
    have hb2 : ∀ b, betterR addr best x = some b → may b.1 = true := by
      intro b hbb
      unfold betterR at hbb
      split at hbb
      · obtain rfl := Option.some.inj hbb; exact hx
      · exact hb b hbb
    show (findR l addr (betterR addr best x)).map mE = findL (l.map mE) (bl addr 32) (better (bl addr 32) (best.map mE) (mE x))
    rw [ih (fun y hy => hl y (by simp [hy])) _ hb2, e1]
/-! ### how many nodes -/
def addP (all : List P2) (p : P2) : List P2 := if p ∈ all then all else all ++ [p]
def comP (p q : P2) : P2 := (ct p.1 (comN p.1 p.2 q.1 q.2), (comN p.1 p.2 q.1 q.2 : Int))
def apartP (p q : P2) : Bool := !inB p.1 p.2 q.1 q.2 && !inB q.1 q.2 p.1 p.2
def innerP (p : P2) (done : List P2) (all : List P2) : List P2 := done.foldl (fun a q => if apartP p q = true then addP a (comP p q) else a) all
def nodesGo : List P2 → List P2 → List P2 → List P2
  | all, _, [] => all
  | all, done, p :: l => nodesGo (innerP p done (addP all p)) (done ++ [p]) l
def nodesR (l : List P2) : List P2 := nodesGo [] [] l
theorem add_mem (all : List P2) (p c : P2) : c ∈ addP all p ↔ c ∈ all ∨ c = p := by
  unfold addP
  split
  · rename_i h
    constructor
    · exact .inl
    · rintro (h2 | rfl)
      · exact h2
      · exact h
  · simp
theorem add_nodup {all : List P2} (h : all.Nodup) (p : P2) : (addP all p).Nodup := by
  unfold addP
  split
  · exact h
  · rename_i hp
    rw [List.nodup_append]
    refine ⟨h, by simp, ?_⟩
    intro a ha b hb e
    rw [List.mem_singleton.1 hb] at e
    exact hp (e ▸ ha)
theorem inner_is (p : P2) (done all : List P2) (h : all.Nodup) : (innerP p done all).Nodup ∧ ∀ c, c ∈ innerP p done all ↔ c ∈ all ∨ ∃ q ∈ done, apartP p q = true ∧ comP p q = c := by
  induction done generalizing all with
  | nil => exact ⟨h, fun c => by simp [innerP]⟩
  | cons q done ih =>
    have e : innerP p (q :: done) all = innerP p done (if apartP p q = true then addP all (comP p q) else all) := rfl
    rw [e]
    split
    · rename_i ha
      obtain ⟨i1, i2⟩ := ih _ (add_nodup h (comP p q))
      refine ⟨i1, fun c => ?_⟩
      rw [i2, add_mem]
      constructor
      · rintro ((h1 | h1) | ⟨q', hq, h2⟩)
        · exact .inl h1
        · exact .inr ⟨q, by simp, ha, h1.symm⟩
        · exact .inr ⟨q', by simp [hq], h2⟩
      · rintro (h1 | ⟨q', hq, h2, h3⟩)
        · exact .inl (.inl h1)
        · rcases List.mem_cons.1 hq with rfl | hq
          · exact .inl (.inr h3.symm)
          · exact .inr ⟨q', hq, h2, h3⟩
    · rename_i ha
      obtain ⟨i1, i2⟩ := ih all h
      refine ⟨i1, fun c => ?_⟩
      rw [i2]
      constructor
      · rintro (h1 | ⟨q', hq, h2⟩)
        · exact .inl h1
        · exact .inr ⟨q', by simp [hq], h2⟩
      · rintro (h1 | ⟨q', hq, h2, h3⟩)
        · exact .inl h1
        · rcases List.mem_cons.1 hq with rfl | hq
          · exact absurd h2 ha
          · exact .inr ⟨q', hq, h2, h3⟩
def inP (l : List P2) (c : P2) : Prop := c ∈ l ∨ ∃ p ∈ l, ∃ q ∈ l, apartP p q = true ∧ comP p q = c
theorem apart_comm (p q : P2) : apartP p q = apartP q p := by unfold apartP; rw [Bool.and_comm]
theorem apart_iff {p q : P2} (h : may p = true) (h2 : may q = true) : apartP p q = true ↔ ¬ kq p <+: kq q ∧ ¬ kq q <+: kq p := by
  unfold apartP
  rw [Bool.and_eq_true, Bool.not_eq_true', Bool.not_eq_true', Bool.eq_false_iff, Bool.eq_false_iff, ne_eq, ne_eq, in_iff h h2, in_iff h2 h]
  rfl
theorem com_kq (p q : P2) (h : may p = true) (h2 : may q = true) : kq (comP p q) = lcp (kq p) (kq q) ∧ may (comP p q) = true := by
  have b1 := may_bd h
  have b2 := may_bd h2
  refine ⟨?_, com_may _ _ _ _⟩
  show kp (ct p.1 (comN p.1 p.2 q.1 q.2)) (comN p.1 p.2 q.1 q.2) = lcp (kp p.1 p.2) (kp q.1 q.2)
  rw [com_kp, lcp_bl _ _ _ _ (by omega) (by omega)]
theorem com_comm {p q : P2} (h : may p = true) (h2 : may q = true) : comP p q = comP q p := by
  obtain ⟨e1, m1⟩ := com_kq p q h h2
  obtain ⟨e2, m2⟩ := com_kq q p h2 h
  exact kq_inj m1 m2 (by rw [e1, e2, lcp_comm])
theorem go_is (l done all : List P2) (hd : ∀ p ∈ done, may p = true) (hl : ∀ p ∈ l, may p = true) (hn : all.Nodup) (hm : ∀ c, c ∈ all ↔ inP done c) : (nodesGo all done l).Nodup ∧ ∀ c, c ∈ nodesGo all done l ↔ inP (done ++ l) c := by
  induction l generalizing all done with
  | nil => rw [List.append_nil]; exact ⟨hn, hm⟩
  | cons p l ih =>
    obtain ⟨i1, i2⟩ := inner_is p done (addP all p) (add_nodup hn p)
    have hp := hl p (by simp)
    have key := ih (done ++ [p]) (innerP p done (addP all p)) (fun q hq => by
      rcases List.mem_append.1 hq with hq | hq
      · exact hd q hq
      · rw [List.mem_singleton.1 hq]; exact hp) (fun q hq => hl q (by simp [hq])) i1 (fun c => by
      rw [i2, add_mem, hm]
      constructor
      · rintro ((h1 | rfl) | ⟨q, hq, h1, h2⟩)
        · rcases h1 with h1 | ⟨a, ha, b, hb, h1⟩
          · exact .inl (by simp [h1])
          · exact .inr ⟨a, by simp [ha], b, by simp [hb], h1⟩
        · exact .inl (by simp)
        · exact .inr ⟨p, by simp, q, by simp [hq], h1, h2⟩
      · rintro (h1 | ⟨a, ha, b, hb, h1, h2⟩)
        · rcases List.mem_append.1 h1 with h1 | h1
          · exact .inl (.inl (.inl h1))
          · exact .inl (.inr (List.mem_singleton.1 h1))
        · rcases List.mem_append.1 ha with ha1 | ha1
          · rcases List.mem_append.1 hb with hb1 | hb1
            · exact .inl (.inl (.inr ⟨a, ha1, b, hb1, h1, h2⟩))
            · have e := List.mem_singleton.1 hb1
              rw [e] at h1 h2
              exact .inr ⟨a, ha1, by rw [apart_comm]; exact h1, by rw [com_comm hp (hd a ha1)]; exact h2⟩
          · have e := List.mem_singleton.1 ha1
            rw [e] at h1 h2
            rcases List.mem_append.1 hb with hb1 | hb1
            · exact .inr ⟨b, hb1, h1, h2⟩
            · rw [List.mem_singleton.1 hb1] at h1
              have := (apart_iff hp hp).1 h1
              exact absurd List.prefix_rfl this.1)
    rw [show done ++ p :: l = done ++ [p] ++ l by simp]
    exact key
theorem nodes_ref {l : List T3} {t : Tr} (hl : AllMay l) (ht : Ok t) (hw : walk t = l.map mE) : (nodesR (l.map (·.1))).length = (nodes t).length := by
  have hm : ∀ p ∈ l.map (·.1), may p = true := fun p hp => by
    obtain ⟨e, he, rfl⟩ := List.mem_map.1 hp
    exact hl e he
  obtain ⟨n1, n2⟩ := go_is (l.map (·.1)) [] [] (fun p hp => by cases hp) hm List.nodup_nil (fun c => ⟨fun h => (by cases h), by
    rintro (h | ⟨p, hp, _⟩)
    · cases h
    · cases hp⟩)
  have hk : keys t = (l.map (·.1)).map kq := by unfold keys; rw [hw]; simp [mE]
  have may_in : ∀ c ∈ nodesR (l.map (·.1)), may c = true := by
    intro c hc
    rcases (n2 c).1 hc with h | ⟨p, hp, q, hq, _, rfl⟩
    · exact hm c h
    · exact (com_kq p q (hm p hp) (hm q hq)).2
  have inj : ∀ {m : List P2}, m.Nodup → (∀ c ∈ m, may c = true) → (m.map kq).Nodup := by
    intro m
    induction m with
    | nil => intro _ _; exact List.nodup_nil
    | cons a m ih =>
      intro h1 h2
      rw [List.nodup_cons] at h1
      rw [List.map_cons, List.nodup_cons]
      refine ⟨fun hh => ?_, ih h1.2 fun c hc => h2 c (by simp [hc])⟩
      obtain ⟨b, hb, e⟩ := List.mem_map.1 hh
      exact h1.1 (by rw [← kq_inj (h2 b (by simp [hb])) (h2 a (by simp)) e]; exact hb)
  have := len_eq (inj n1 may_in) (nodes_nodup ht) (fun c => by
    rw [nodes_iff ht, hk]
    constructor
    · intro hc
      obtain ⟨d, hd, rfl⟩ := List.mem_map.1 hc
      rcases (n2 d).1 hd with h | ⟨p, hp, q, hq, h1, rfl⟩
      · exact .inl (List.mem_map_of_mem h)
      · obtain ⟨a1, a2⟩ := (apart_iff (hm p hp) (hm q hq)).1 h1
        exact .inr ⟨kq p, List.mem_map_of_mem hp, kq q, List.mem_map_of_mem hq, a1, a2, (com_kq p q (hm p hp) (hm q hq)).1.symm⟩
    · rintro (h | ⟨x, hx, y, hy, a1, a2, rfl⟩)
      · obtain ⟨d, hd, rfl⟩ := List.mem_map.1 h
        exact List.mem_map_of_mem ((n2 d).2 (.inl hd))
      · obtain ⟨p, hp, rfl⟩ := List.mem_map.1 hx
        obtain ⟨q, hq, rfl⟩ := List.mem_map.1 hy
        rw [← (com_kq p q (hm p hp) (hm q hq)).1]
        exact List.mem_map_of_mem ((n2 _).2 (.inr ⟨p, hp, q, hq, (apart_iff (hm p hp) (hm q hq)).2 ⟨a1, a2⟩, rfl⟩)))
  rwa [List.length_map] at this
/-! ### a tree that stands for a list -/
structure Rep (t : Tr) (l : List T3) : Prop where
  ok : Ok t
  is : walk t = l.map mE
  may : AllMay l
theorem Rep.srt {t : Tr} {l : List T3} (h : Rep t l) : Srt l := by unfold Srt; rw [← h.is]; exact sorted h.ok
theorem Rep.nil : Rep .nil [] := ⟨trivial, rfl, fun _ h => by cases h⟩
theorem Rep.put {t : Tr} {l : List T3} (h : Rep t l) {e : T3} (he : Tt.may e.1 = true) : Rep (ins t (kq e.1) e.2) (withGo e false l) :=
  ⟨(ins_ok h.ok _ _).1, by rw [ins_walk h.ok, h.is, with_is he h.may h.srt], with_may he _ _ h.may⟩
theorem Rep.cut {t : Tr} {l : List T3} (h : Rep t l) {p : P2} (hp : Tt.may p = true) : Rep (del t (kq p)) (cutR l p) :=
  ⟨del_ok h.ok _, by rw [del_walk h.ok, h.is, cut_is hp h.may], cut_may h.may p⟩
theorem Rep.find {t : Tr} {l : List T3} (h : Rep t l) (addr : Int) : (findR l addr none).map mE = findT t (bl addr 32) none := by
  rw [find_ref h.may addr none (fun _ hb => by cases hb), ← h.is]
  exact find_is h.ok _ none (fun _ hb => by cases hb)
theorem Rep.count {t : Tr} {l : List T3} (h : Rep t l) : (nodesR (l.map (·.1))).length = (nodes t).length := nodes_ref h.may h.ok h.is
end Go.Proofs.Ytlgldoggnlcbkab.Tt
