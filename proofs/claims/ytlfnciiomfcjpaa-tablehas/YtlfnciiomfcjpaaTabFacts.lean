/- What follows for tables of what is put, dropped, looked up: plain. -/
import Derived.Test.YtlfnciiomfcjpaaTabMath
namespace Go.Proofs.Ytlfnciiomfcjpaa.Tb
open Go Pk R
set_option linter.unusedVariables false
set_option linter.unusedSimpArgs false

theorem of_set_other {t o : Int} (h : ¬ o = t) (rs : List Rl) : ∀ l : List Vr, ofT (setT l t rs) o = ofT l o
  | [] => rfl
  | v :: l => by
    by_cases e : v.t = t
    · have e2 : ¬ v.t = o := fun e3 => h (e3.symm.trans e)
      rw [setT, if_pos e, ofT, if_neg e2, ofT, if_neg e2]
    · rw [setT, if_neg e, ofT, ofT, of_set_other h rs l]
theorem of_ins_other {t o : Int} (h : ¬ o = t) (r : Rl) : ∀ l : List Vr, ofT (insT l t r) o = ofT l o
  | [] => by show (if t = o then some [r] else none) = none; rw [if_neg (fun e => h e.symm)]
  | v :: l => by
    by_cases e : t < v.t
    · rw [insT, if_pos e, ofT, if_neg (fun e => h e.symm)]
    · rw [insT, if_neg e, ofT, ofT, of_ins_other h r l]
theorem of_drop_other {t o : Int} (h : ¬ o = t) : ∀ l : List Vr, ofT (dropT l t) o = ofT l o
  | [] => rfl
  | v :: l => by
    by_cases e : v.t = t
    · have e2 : ¬ v.t = o := fun e3 => h (e3.symm.trans e)
      rw [dropT, if_pos e, ofT, if_neg e2]
    · rw [dropT, if_neg e, ofT, ofT, of_drop_other h l]
theorem of_put_other {t o : Int} (h : ¬ o = t) (r : Rl) (m : Int) (l : List Vr) : ofT (putT l t r m).1 o = ofT l o := by
  unfold putT
  split
  · rfl
  · split
    · split
      · exact of_set_other h _ l
      · split
        · rfl
        · exact of_set_other h _ l
    · split
      · rfl
      · exact of_ins_other h r l
theorem look_of {l l2 : List Vr} {o x d : Int} (h : ofT l2 o = ofT l o) : lookT l2 o x d = lookT l o x d := by unfold lookT; rw [h]
/-- at most n versions of at most k rules -/
def Bd (n k : Nat) (l : List Vr) : Prop := l.length ≤ n ∧ ∀ v ∈ l, v.l.length ≤ k
theorem sm_bd {n k : Nat} {l : List Vr} (h : Bd n k l) (hn : n ≤ 100) (hk : k ≤ 100) : Sm l := ⟨Nat.le_trans h.1 hn, fun v hv => Nat.le_trans (h.2 v hv) hk⟩
theorem putR_len : ∀ {l : List Rl} {r : Rl} {q : List Rl}, putR l r = some q → q.length = l.length
  | [], r, q, h => by cases h
  | s :: l, r, q, h => by
    by_cases e : alike s r = true
    · rw [putR, if_pos e] at h; cases h; rfl
    · rw [putR, if_neg e] at h
      obtain ⟨p, hp, rfl⟩ := Option.map_eq_some_iff.1 h
      rw [List.length_cons, List.length_cons, putR_len hp]
theorem of_bd {n k : Nat} {l : List Vr} (h : Bd n k l) {t : Int} {rs : List Rl} (ho : ofT l t = some rs) : rs.length ≤ k := by
  rw [of_where] at ho
  obtain ⟨i, hi, rfl⟩ := Option.map_eq_some_iff.1 ho
  have hl := (where_lt hi).1
  refine h.2 _ ?_
  rw [List.getD_eq_getElem?_getD, List.getElem?_eq_getElem hl]
  exact List.getElem_mem hl
theorem set_bd {n k : Nat} {t : Int} {rs : List Rl} (hr : rs.length ≤ k) : ∀ {l : List Vr}, Bd n k l → Bd n k (setT l t rs)
  | [], h => h
  | v :: l, h => by
    have hl : (setT (v :: l) t rs).length = (v :: l).length := by
      clear h
      induction l generalizing v with
      | nil => rw [setT]; split <;> rfl
      | cons u l ih =>
        rw [setT]
        split
        · rfl
        · rw [List.length_cons, ih u]; rfl
    refine ⟨by rw [hl]; exact h.1, ?_⟩
    have key : ∀ (l : List Vr), (∀ u ∈ l, u.l.length ≤ k) → ∀ u ∈ setT l t rs, u.l.length ≤ k := by
      intro l
      induction l with
      | nil => intro _ u hu; cases hu
      | cons v l ih =>
        intro hl u hu
        rw [setT] at hu
        split at hu
        · rcases List.mem_cons.1 hu with rfl | hu
          · exact hr
          · exact hl u (List.mem_cons_of_mem _ hu)
        · rcases List.mem_cons.1 hu with rfl | hu
          · exact hl _ List.mem_cons_self
          · exact ih (fun y hy => hl y (List.mem_cons_of_mem _ hy)) u hu
    exact key _ h.2
theorem ins_bd {n k : Nat} {t : Int} {r : Rl} {l : List Vr} (h : Bd n k l) (hk : 1 ≤ k) : Bd (n + 1) k (insT l t r) := by
  have key : ∀ l : List Vr, (insT l t r).length = l.length + 1 ∧ ∀ u ∈ insT l t r, u ∈ l ∨ u = ⟨t, [r]⟩ := by
    intro l
    induction l with
    | nil => exact ⟨rfl, fun u hu => .inr (List.mem_singleton.1 hu)⟩
    | cons v l ih =>
      rw [insT]
      split
      · refine ⟨rfl, fun u hu => ?_⟩
        rcases List.mem_cons.1 hu with rfl | hu
        · exact .inr rfl
        · exact .inl hu
      · refine ⟨by rw [List.length_cons, ih.1]; rfl, fun u hu => ?_⟩
        rcases List.mem_cons.1 hu with rfl | hu
        · exact .inl List.mem_cons_self
        · rcases ih.2 u hu with h | h
          · exact .inl (List.mem_cons_of_mem _ h)
          · exact .inr h
  refine ⟨by rw [(key l).1]; exact Nat.succ_le_succ h.1, fun u hu => ?_⟩
  rcases (key l).2 u hu with h2 | rfl
  · exact h.2 u h2
  · exact hk
theorem drop_bd {n k : Nat} {t : Int} {l : List Vr} (h : Bd n k l) : Bd n k (dropT l t) := by
  have key : ∀ l : List Vr, (dropT l t).length ≤ l.length ∧ ∀ u ∈ dropT l t, u ∈ l := by
    intro l
    induction l with
    | nil => exact ⟨Nat.le_refl _, fun u hu => hu⟩
    | cons v l ih =>
      rw [dropT]
      split
      · exact ⟨Nat.le_succ _, fun u hu => List.mem_cons_of_mem _ hu⟩
      · refine ⟨by rw [List.length_cons, List.length_cons]; exact Nat.succ_le_succ ih.1, fun u hu => ?_⟩
        rcases List.mem_cons.1 hu with rfl | hu
        · exact List.mem_cons_self
        · exact List.mem_cons_of_mem _ (ih.2 u hu)
  exact ⟨Nat.le_trans (key l).1 h.1, fun u hu => h.2 u ((key l).2 u hu)⟩
theorem put_bd {n k : Nat} {t m : Int} {r : Rl} {l : List Vr} (h : Bd n k l) : Bd (n + 1) (k + 1) (putT l t r m).1 := by
  have h1 : Bd (n + 1) (k + 1) l := ⟨Nat.le_succ_of_le h.1, fun v hv => Nat.le_succ_of_le (h.2 v hv)⟩
  have h2 : Bd n (k + 1) l := ⟨h.1, fun v hv => Nat.le_succ_of_le (h.2 v hv)⟩
  unfold putT
  split
  · exact h1
  · split
    · rename_i rs ho
      have hb := of_bd h ho
      split
      · rename_i q hq
        exact set_bd (by rw [putR_len hq]; omega) h1
      · split
        · exact h1
        · exact set_bd (by rw [List.length_append, List.length_singleton]; omega) h1
    · split
      · exact h1
      · exact ins_bd h2 (by omega)
/-- no tag twice -/
def Once (l : List Vr) : Prop := ∀ i, i < l.length → ∀ k, k < i → ¬ (l.getD i default).t = (l.getD k default).t
theorem of_none {l : List Vr} {t : Int} (h : ∀ v ∈ l, ¬ v.t = t) : ofT l t = none := by
  induction l with
  | nil => rfl
  | cons v l ih => rw [ofT, if_neg (h v List.mem_cons_self), ih fun u hu => h u (List.mem_cons_of_mem _ hu)]
theorem once_tail {v : Vr} {l : List Vr} (h : Once (v :: l)) : Once l ∧ ∀ u ∈ l, ¬ u.t = v.t := by
  refine ⟨fun i hi k hk => h (i + 1) (Nat.succ_lt_succ hi) (k + 1) (Nat.succ_lt_succ hk), fun u hu => ?_⟩
  obtain ⟨i, hi, rfl⟩ := List.mem_iff_getElem.1 hu
  have := h (i + 1) (Nat.succ_lt_succ hi) 0 (Nat.succ_pos _)
  rw [List.getD_eq_getElem?_getD, List.getElem?_eq_getElem (Nat.succ_lt_succ hi)] at this
  exact this
/-- what is dropped is not there -/
theorem drop_gone : ∀ {l : List Vr} {t : Int}, Once l → ∀ v ∈ dropT l t, ¬ v.t = t
  | [], t, _, v, hv => by cases hv
  | u :: l, t, h, v, hv => by
    obtain ⟨h1, h2⟩ := once_tail h
    by_cases e : u.t = t
    · rw [dropT, if_pos e] at hv
      rw [← e]; exact h2 v hv
    · rw [dropT, if_neg e] at hv
      rcases List.mem_cons.1 hv with rfl | hv
      · exact e
      · exact drop_gone h1 v hv
theorem drop_not : ∀ {l : List Vr} {t : Int}, (∀ v ∈ l, ¬ v.t = t) → dropT l t = l
  | [], t, _ => rfl
  | v :: l, t, h => by rw [dropT, if_neg (h v List.mem_cons_self), drop_not fun u hu => h u (List.mem_cons_of_mem _ hu)]
theorem drop_twice {l : List Vr} {t : Int} (h : Once l) : dropT (dropT l t) t = dropT l t := drop_not (drop_gone h)
theorem of_set_same {t : Int} {rs q : List Rl} : ∀ {l : List Vr}, ofT l t = some rs → ofT (setT l t q) t = some q ∧ (∀ p, setT (setT l t q) t p = setT l t p)
  | [], h => by cases h
  | v :: l, h => by
    by_cases e : v.t = t
    · rw [setT, if_pos e]
      refine ⟨by rw [ofT, if_pos e], fun p => ?_⟩
      rw [setT, if_pos e, setT, if_pos e]
    · rw [ofT, if_neg e] at h
      obtain ⟨h1, h2⟩ := of_set_same (q := q) h
      rw [setT, if_neg e]
      refine ⟨by rw [ofT, if_neg e, h1], fun p => ?_⟩
      rw [setT, if_neg e, h2, setT, if_neg e]
theorem set_self {t : Int} {rs : List Rl} : ∀ {l : List Vr}, ofT l t = some rs → setT l t rs = l
  | [], h => by cases h
  | v :: l, h => by
    by_cases e : v.t = t
    · rw [ofT, if_pos e] at h
      cases h
      rw [setT, if_pos e]
    · rw [ofT, if_neg e] at h
      rw [setT, if_neg e, set_self h]
theorem alike_self (r : Rl) : alike r r = true := by unfold alike likeB; simp
theorem putR_again : ∀ {l : List Rl} {r : Rl} {q : List Rl}, putR l r = some q → putR q r = some q
  | [], r, q, h => by cases h
  | s :: l, r, q, h => by
    by_cases e : alike s r = true
    · rw [putR, if_pos e] at h; cases h
      rw [putR, if_pos (alike_self r)]
    · rw [putR, if_neg e] at h
      obtain ⟨p, hp, rfl⟩ := Option.map_eq_some_iff.1 h
      rw [putR, if_neg e, putR_again hp]; rfl
theorem putR_end : ∀ {l : List Rl} {r : Rl}, putR l r = none → putR (l ++ [r]) r = some (l ++ [r])
  | [], r, _ => by show (if alike r r = true then _ else _) = _; rw [if_pos (alike_self r)]; rfl
  | s :: l, r, h => by
    by_cases e : alike s r = true
    · rw [putR, if_pos e] at h; cases h
    · rw [putR, if_neg e] at h
      show (if alike s r = true then _ else _) = _
      rw [if_neg e, show l.append [r] = l ++ [r] from rfl, putR_end (Option.map_eq_none_iff.1 h)]; rfl
theorem of_ins_same {t : Int} {r : Rl} : ∀ {l : List Vr}, ofT l t = none → ofT (insT l t r) t = some [r]
  | [], _ => by rw [insT, ofT, if_pos rfl]
  | v :: l, h => by
    by_cases e : v.t = t
    · rw [ofT, if_pos e] at h; cases h
    · rw [ofT, if_neg e] at h
      rw [insT]
      split
      · rw [ofT, if_pos rfl]
      · rw [ofT, if_neg e, of_ins_same h]
/-- to put a rule twice is to put it once -/
theorem put_twice {l : List Vr} {t m : Int} {r : Rl} (hm : (sizeT l : Int) < m) : putT (putT l t r m).1 t r m = putT l t r m := by
  by_cases h : mayR r = false ∨ t < 1 ∨ 4095 < t
  · have h1 := putT_arg (l := l) (m := m) h
    rw [h1]; exact h1
  · have hng : ¬ m ≤ (sizeT l : Int) := by omega
    rw [putT_ok (l := l) h]
    cases ho : ofT l t with
    | some rs =>
      dsimp only
      cases hp : putR rs r with
      | some q =>
        dsimp only
        obtain ⟨h1, h2⟩ := of_set_same (q := q) ho
        rw [putT_ok h, h1]
        dsimp only
        rw [putR_again hp]
        dsimp only
        rw [h2]
      | none =>
        dsimp only
        rw [if_neg hng]
        dsimp only
        obtain ⟨h1, h2⟩ := of_set_same (q := rs ++ [r]) ho
        rw [putT_ok h, h1]
        dsimp only
        rw [putR_end hp]
        dsimp only
        rw [h2]
    | none =>
      dsimp only
      rw [if_neg hng]
      dsimp only
      have h1 := of_ins_same (r := r) ho
      have h2 : putR [r] r = some [r] := by show (if alike r r = true then _ else _) = _; rw [if_pos (alike_self r)]
      rw [putT_ok h, h1]
      dsimp only
      rw [h2]
      dsimp only
      rw [set_self h1]
theorem set_size {t : Int} {rs q : List Rl} : ∀ {l : List Vr}, ofT l t = some rs → sizeT (setT l t q) + rs.length = sizeT l + q.length
  | [], h => by cases h
  | v :: l, h => by
    by_cases e : v.t = t
    · rw [ofT, if_pos e] at h
      cases h
      rw [setT, if_pos e]
      show q.length + sizeT l + v.l.length = v.l.length + sizeT l + q.length
      omega
    · rw [ofT, if_neg e] at h
      have := set_size (q := q) h
      rw [setT, if_neg e, sizeT, sizeT]; omega
theorem ins_size (t : Int) (r : Rl) : ∀ l : List Vr, sizeT (insT l t r) = sizeT l + 1
  | [] => rfl
  | v :: l => by
    rw [insT]
    split
    · show 1 + (v.l.length + sizeT l) = v.l.length + sizeT l + 1
      omega
    · rw [sizeT, sizeT, ins_size t r l]; omega
theorem putR_mem : ∀ {l : List Rl} {r : Rl} {q : List Rl}, putR l r = some q → r ∈ q
  | [], r, q, h => by cases h
  | s :: l, r, q, h => by
    by_cases e : alike s r = true
    · rw [putR, if_pos e] at h; cases h; exact List.mem_cons_self
    · rw [putR, if_neg e] at h
      obtain ⟨p, hp, rfl⟩ := Option.map_eq_some_iff.1 h
      exact List.mem_cons_of_mem _ (putR_mem hp)
/-- what Put answers: not at all, no room, or the rule is there, and there is one more or as many as there were -/
theorem put_is (l : List Vr) (t : Int) (r : Rl) (m : Int) : putT l t r m = (l, 1) ∨ (putT l t r m = (l, 7) ∧ m ≤ (sizeT l : Int)) ∨
    (mayR r = true ∧ ∃ L rs, putT l t r m = (L, 0) ∧ ofT L t = some rs ∧ r ∈ rs ∧ (sizeT L = sizeT l ∨ (sizeT L = sizeT l + 1 ∧ (sizeT l : Int) < m))) := by
  by_cases h : mayR r = false ∨ t < 1 ∨ 4095 < t
  · exact .inl (putT_arg h)
  · have hmay : mayR r = true := by
      cases e : mayR r with
      | true => rfl
      | false => exact absurd (.inl e) h
    rw [putT_ok h]
    cases ho : ofT l t with
    | some rs =>
      dsimp only
      cases hp : putR rs r with
      | some q =>
        dsimp only
        have h1 := set_size (q := q) ho
        have h2 := putR_len hp
        exact .inr (.inr ⟨hmay, _, q, rfl, (of_set_same ho).1, putR_mem hp, .inl (by omega)⟩)
      | none =>
        dsimp only
        by_cases hm : m ≤ (sizeT l : Int)
        · rw [if_pos hm]; exact .inr (.inl ⟨rfl, hm⟩)
        · rw [if_neg hm]
          have h1 := set_size (q := rs ++ [r]) ho
          rw [List.length_append, List.length_singleton] at h1
          exact .inr (.inr ⟨hmay, _, rs ++ [r], rfl, (of_set_same ho).1, List.mem_append_right _ List.mem_cons_self, .inr ⟨by omega, by omega⟩⟩)
    | none =>
      dsimp only
      by_cases hm : m ≤ (sizeT l : Int)
      · rw [if_pos hm]; exact .inr (.inl ⟨rfl, hm⟩)
      · rw [if_neg hm]
        exact .inr (.inr ⟨hmay, _, [r], rfl, of_ins_same ho, List.mem_cons_self, .inr ⟨ins_size t r l, by omega⟩⟩)
/-- rising tags, and no version without a rule -/
def Good (l : List Vr) : Prop := l.Pairwise (fun u v => u.t < v.t) ∧ ∀ v ∈ l, v.l ≠ []
theorem good_nil : Good [] := ⟨List.Pairwise.nil, fun v hv => by cases hv⟩
theorem set_tags (t : Int) (q : List Rl) : ∀ l : List Vr, (setT l t q).map (·.t) = l.map (·.t)
  | [] => rfl
  | v :: l => by
    rw [setT]
    split
    · rfl
    · rw [List.map_cons, List.map_cons, set_tags t q l]
theorem set_mem {t : Int} {q : List Rl} : ∀ {l : List Vr}, ∀ v ∈ setT l t q, v ∈ l ∨ v.l = q
  | [], v, hv => by cases hv
  | u :: l, v, hv => by
    rw [setT] at hv
    split at hv
    · rcases List.mem_cons.1 hv with rfl | hv
      · exact .inr rfl
      · exact .inl (List.mem_cons_of_mem _ hv)
    · rcases List.mem_cons.1 hv with rfl | hv
      · exact .inl List.mem_cons_self
      · rcases set_mem v hv with h | h
        · exact .inl (List.mem_cons_of_mem _ h)
        · exact .inr h
theorem rise_map {l : List Vr} : l.Pairwise (fun u v => u.t < v.t) ↔ (l.map (·.t)).Pairwise (· < ·) := by rw [List.pairwise_map]
theorem set_good {t : Int} {q : List Rl} {l : List Vr} (h : Good l) (hq : q ≠ []) : Good (setT l t q) := by
  refine ⟨by rw [rise_map, set_tags, ← rise_map]; exact h.1, fun v hv => ?_⟩
  rcases set_mem v hv with h2 | h2
  · exact h.2 v h2
  · rw [h2]; exact hq
theorem ins_mem {t : Int} {r : Rl} : ∀ {l : List Vr}, ∀ v ∈ insT l t r, v ∈ l ∨ v = ⟨t, [r]⟩
  | [], v, hv => .inr (List.mem_singleton.1 hv)
  | u :: l, v, hv => by
    rw [insT] at hv
    split at hv
    · rcases List.mem_cons.1 hv with rfl | hv
      · exact .inr rfl
      · exact .inl hv
    · rcases List.mem_cons.1 hv with rfl | hv
      · exact .inl List.mem_cons_self
      · rcases ins_mem v hv with h | h
        · exact .inl (List.mem_cons_of_mem _ h)
        · exact .inr h
theorem ins_rise {t : Int} {r : Rl} : ∀ {l : List Vr}, l.Pairwise (fun u v => u.t < v.t) → ofT l t = none → (insT l t r).Pairwise (fun u v => u.t < v.t)
  | [], _, _ => List.pairwise_singleton _ _
  | v :: l, h, ho => by
    obtain ⟨h1, h2⟩ := List.pairwise_cons.1 h
    by_cases e0 : v.t = t
    · rw [ofT, if_pos e0] at ho; cases ho
    · rw [ofT, if_neg e0] at ho
      rw [insT]
      split
      · rename_i hlt
        refine List.pairwise_cons.2 ⟨fun u hu => ?_, h⟩
        rcases List.mem_cons.1 hu with rfl | hu
        · exact hlt
        · exact Int.lt_trans hlt (h1 u hu)
      · rename_i hlt
        refine List.pairwise_cons.2 ⟨fun u hu => ?_, ins_rise h2 ho⟩
        rcases ins_mem u hu with h3 | rfl
        · exact h1 u h3
        · show v.t < t
          omega
theorem drop_good {t : Int} {l : List Vr} (h : Good l) : Good (dropT l t) := by
  have hs : (dropT l t).Sublist l := by
    rw [drop_erase]; exact List.eraseIdx_sublist _ _
  exact ⟨h.1.sublist hs, fun v hv => h.2 v (hs.subset hv)⟩
theorem put_good {t m : Int} {r : Rl} {l : List Vr} (h : Good l) : Good (putT l t r m).1 := by
  unfold putT
  split
  · exact h
  · split
    · rename_i rs ho
      have hne : rs ≠ [] := by
        rw [of_where] at ho
        obtain ⟨i, hi, rfl⟩ := Option.map_eq_some_iff.1 ho
        have hl := (where_lt hi).1
        refine h.2 _ ?_
        rw [List.getD_eq_getElem?_getD, List.getElem?_eq_getElem hl]
        exact List.getElem_mem hl
      split
      · rename_i q hq
        refine set_good h (fun e => hne ?_)
        have := putR_len hq
        rw [e] at this
        exact List.eq_nil_of_length_eq_zero this.symm
      · split
        · exact h
        · exact set_good h (by simp)
    · rename_i ho
      split
      · exact h
      · exact ⟨ins_rise h.1 ho, fun v hv => by
          rcases ins_mem v hv with h2 | rfl
          · exact h.2 v h2
          · simp⟩
theorem put_len {t m : Int} {r : Rl} {l : List Vr} : l.length ≤ (putT l t r m).1.length := by
  have hset : ∀ q, (setT l t q).length = l.length := fun q => by
    have := congrArg List.length (set_tags t q l)
    simpa using this
  have hins : ∀ l : List Vr, l.length ≤ (insT l t r).length := by
    intro l
    induction l with
    | nil => exact Nat.zero_le _
    | cons v l ih =>
      rw [insT]
      split
      · exact Nat.le_succ _
      · rw [List.length_cons, List.length_cons]; exact Nat.succ_le_succ ih
  unfold putT
  split
  · exact Nat.le_refl _
  · split
    · split
      · exact Nat.le_of_eq (hset _).symm
      · split
        · exact Nat.le_refl _
        · exact Nat.le_of_eq (hset _).symm
    · split
      · exact Nat.le_refl _
      · exact hins l
theorem good_at {l : List Vr} (h : Good l) {k : Nat} (hk : k < l.length) : (l.getD k default).l ≠ [] ∧ (0 < k → (l.getD (k - 1) default).t < (l.getD k default).t) := by
  have e : ∀ {j : Nat} (hj : j < l.length), l.getD j default = l[j] := fun hj => by rw [List.getD_eq_getElem?_getD, List.getElem?_eq_getElem hj]; rfl
  refine ⟨by rw [e hk]; exact h.2 _ (List.getElem_mem hk), fun h0 => ?_⟩
  rw [e hk, e (show k - 1 < l.length by omega)]
  exact (List.pairwise_iff_getElem.1 h.1) (k - 1) k (by omega) hk (by omega)
end Go.Proofs.Ytlfnciiomfcjpaa.Tb
