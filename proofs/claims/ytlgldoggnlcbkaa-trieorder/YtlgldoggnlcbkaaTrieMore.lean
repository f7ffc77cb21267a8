/- More of telling of entries: what they are, that they have room, and that cutting takes back; no program in sight. -/
import Derived.Test.YtlgldoggnlcbkaaTriePuts
namespace Go.Proofs.Ytlgldoggnlcbkaa
open Go.ChangeShapes Go.WideShapes Go.ChangeAt Go.RowKit Tt
set_option linter.unusedVariables false
set_option linter.unusedSimpArgs false

theorem with_mem (e : T3) : ∀ (d : Bool) (l : List T3) (x : T3), x ∈ withGo e d l → x = e ∨ x ∈ l
  | d, [], x, hx => by
    simp only [withGo] at hx
    split at hx
    · cases hx
    · exact .inl (List.mem_singleton.1 hx)
  | d, y :: l, x, hx => by
    simp only [withGo, List.mem_append] at hx
    rcases hx with h | h | h
    · split at h
      · exact .inl (List.mem_singleton.1 h)
      · cases h
    · split at h
      · exact .inr (by rw [List.mem_singleton.1 h]; simp)
      · cases h
    · rcases with_mem e _ l x h with h | h
      · exact .inl h
      · exact .inr (by simp [h])
theorem putTo_mem {room : Int} {l : List T3} {e x : T3} (h : x ∈ putTo room l e) : x = e ∨ x ∈ l := by
  unfold putTo at h
  split at h
  · exact with_mem e false l x h
  · exact .inr h
theorem puts_mem {room : Int} {s : List T3} {k : Nat} (x : T3) (h : x ∈ puts room s k) : x ∈ s.take k := by
  unfold puts at h
  have key : ∀ (m : List T3) (acc : List T3), x ∈ m.foldl (putTo room) acc → x ∈ acc ∨ x ∈ m := by
    intro m
    induction m with
    | nil => exact fun acc h => .inl h
    | cons a m ih =>
      intro acc h
      rcases ih _ h with h | h
      · rcases putTo_mem h with h | h
        · exact .inr (by simp [h])
        · exact .inl h
      · exact .inr (by simp [h])
  rcases key _ _ h with h | h
  · cases h
  · exact h
/-- how many nodes at most -/
theorem count_le {l : List T3} (h : ∃ t, Rep t l) : count l ≤ 2 * l.length ∧ (l.length : Int) ≤ count l ∧ (0 < l.length → count l < 2 * l.length) := by
  obtain ⟨t, r⟩ := h
  unfold count
  rw [r.count]
  obtain ⟨h1, h2⟩ := small r.ok
  have hl : (walk t).length = l.length := by rw [r.is, List.length_map]
  rw [hl] at h1 h2
  cases t with
  | nil =>
    have : l.length = 0 := by rw [← hl]; rfl
    simp only [nodes, List.length_nil] at h1 ⊢
    omega
  | node k v a b =>
    have := h2 (by simp)
    omega
theorem rep_put {l : List T3} (h : ∃ t, Rep t l) {e : T3} (he : may e.1 = true) : ∃ t, Rep t (withGo e false l) := by
  obtain ⟨t, r⟩ := h
  exact ⟨_, r.put he⟩
theorem rep_putTo {l : List T3} (h : ∃ t, Rep t l) (room : Int) (e : T3) : ∃ t, Rep t (putTo room l e) := by
  unfold putTo
  split
  · rename_i h0
    refine rep_put h ?_
    by_cases he : may e.1 = true
    · exact he
    · unfold putErr at h0; rw [if_neg he] at h0; cases h0
  · exact h
theorem rep_puts (room : Int) (s : List T3) (k : Nat) : ∃ t, Rep t (puts room s k) := by
  unfold puts
  have key : ∀ (m acc : List T3), (∃ t, Rep t acc) → ∃ t, Rep t (m.foldl (putTo room) acc) := by
    intro m
    induction m with
    | nil => exact fun acc h => h
    | cons a m ih => exact fun acc h => ih _ (rep_putTo h room a)
  exact key _ _ ⟨_, Rep.nil⟩
/-- there is room -/
theorem put_room {l : List T3} (h : ∃ t, Rep t l) (hl : l.length ≤ 99) {e : T3} (he : may e.1 = true) : putErr 1000 l e = 0 ∧ putTo 1000 l e = withGo e false l := by
  have h1 := (count_le (rep_put h he)).1
  have h2 := with_len e false l
  simp at h2
  have h3 : putErr 1000 l e = 0 := by unfold putErr; rw [if_pos he, if_pos (by omega)]
  exact ⟨h3, by unfold putTo; rw [h3]; rfl⟩
theorem put_not {room : Int} {l : List T3} {e : T3} (he : ¬ may e.1 = true) : putErr room l e = 1 ∧ putTo room l e = l := by
  have h3 : putErr room l e = 1 := by unfold putErr; rw [if_neg he]
  exact ⟨h3, by unfold putTo; rw [h3]; rfl⟩
/-- what was not told of ahead, told of and no more -/
theorem cut_with {e : T3} : ∀ (d : Bool) (l : List T3), (∀ x ∈ l, x.1 ≠ e.1) → cutR (withGo e d l) e.1 = l
  | d, [], _ => by
    simp only [withGo, cutR]
    split <;> simp
  | d, x :: l, h => by
    have ih := cut_with (d || here e x) l (fun y hy => h y (by simp [hy]))
    have hx := h x (by simp)
    unfold cutR at ih ⊢
    simp only [withGo, List.filter_append, ih, if_pos hx]
    have h1 : (if (!d && here e x) = true then [e] else []).filter (fun y : T3 => decide (y.1 ≠ e.1)) = [] := by split <;> simp
    rw [h1]
    simp [hx]
theorem with_in {e : T3} {l : List T3} (hl : AllMay l) (hs : Srt l) (he : may e.1 = true) : e ∈ withGo e false l := by
  have h := with_is he hl hs
  have h2 : mE e ∈ (withGo e false l).map mE := by rw [h]; unfold withL; simp [mE]
  obtain ⟨x, hx, hxe⟩ := List.mem_map.1 h2
  have e1 := mE_inj (with_may he _ _ hl x hx) he hxe
  rw [e1] at hx
  exact hx
theorem cut_there {l : List T3} {x : T3} (h : x ∈ l) (hm : may x.1 = true) : cutErr l x.1 = 0 := by
  unfold cutErr
  rw [if_pos hm, if_neg]
  intro hh
  have := cut_all hh
  have hx : x ∈ cutR l x.1 := by rw [this]; exact h
  unfold cutR at hx
  simp at hx
theorem cut_gone {l : List T3} {p : P2} (h : ∀ x ∈ l, x.1 ≠ p) : cutErr l p ≠ 0 ∧ cutTo l p = l := by
  have hc : cutR l p = l := List.filter_eq_self.2 fun x hx => decide_eq_true (h x hx)
  constructor
  · unfold cutErr
    rw [hc]
    split <;> simp
  · unfold cutTo
    rw [hc]
    split <;> rfl
/-- told of, and no more: the errors are the same, and all is as it was -/
theorem put_cut {l : List T3} (h : ∃ t, Rep t l) (hl : l.length ≤ 99) {e : T3} (hn : ∀ x ∈ l, x.1 ≠ e.1) : putErr 1000 l e = cutErr (putTo 1000 l e) e.1 ∧ cutTo (putTo 1000 l e) e.1 = l := by
  by_cases he : may e.1 = true
  · obtain ⟨h1, h2⟩ := put_room h hl he
    obtain ⟨t, r⟩ := h
    rw [h1, h2]
    refine ⟨(cut_there (with_in r.may r.srt he) he).symm, ?_⟩
    unfold cutTo
    rw [if_pos he, cut_with false l hn]
  · obtain ⟨h1, h2⟩ := put_not (room := 1000) (l := l) he
    rw [h1, h2]
    refine ⟨?_, (cut_gone hn).2⟩
    unfold cutErr
    rw [if_neg he]
/-! ### told of once more -/
theorem withL_again (l : List E) (p : K) (x : Int) : withL (withL l p x) p x = withL l p x := by
  have h1 : (l.filter (fun e => lt e.1 p)).filter (fun e => lt e.1 p) = l.filter (fun e => lt e.1 p) := List.filter_eq_self.2 fun e he => (List.mem_filter.1 he).2
  have h2 : (l.filter (fun e => lt p e.1)).filter (fun e => lt p e.1) = l.filter (fun e => lt p e.1) := List.filter_eq_self.2 fun e he => (List.mem_filter.1 he).2
  have h3 : (l.filter (fun e => lt p e.1)).filter (fun e => lt e.1 p) = [] := List.filter_eq_nil_iff.2 fun e he => by rw [lt_asymm (List.mem_filter.1 he).2]; decide
  have h4 : (l.filter (fun e => lt e.1 p)).filter (fun e => lt p e.1) = [] := List.filter_eq_nil_iff.2 fun e he => by rw [lt_asymm (List.mem_filter.1 he).2]; decide
  have h5 : lt p p = false := lt_irrefl p
  simp only [withL, List.filter_append, List.filter_cons, h1, h2, h3, h4, h5]
  simp
theorem with_again {e : T3} {l : List T3} (h : ∃ t, Rep t l) (he : may e.1 = true) : withGo e false (withGo e false l) = withGo e false l := by
  obtain ⟨t, r⟩ := h
  have r2 := r.put he
  refine maps_inj (with_may he _ _ r2.may) r2.may ?_
  rw [with_is he r2.may r2.srt, with_is he r.may r.srt, withL_again]
theorem put_again {l : List T3} (h : ∃ t, Rep t l) (hl : l.length ≤ 90) {e : T3} (he : may e.1 = true) : putErr 1000 (putTo 1000 l e) e = 0 ∧ putTo 1000 (putTo 1000 l e) e = putTo 1000 l e ∧ e ∈ putTo 1000 l e := by
  have h1 := (put_room h (by omega) he).2
  have h2 := with_len e false l
  simp at h2
  have h3 := put_room (rep_put h he) (by omega : (withGo e false l).length ≤ 99) he
  rw [with_again h he] at h3
  rw [h1]
  obtain ⟨t, r⟩ := h
  exact ⟨h3.1, h3.2, with_in r.may r.srt he⟩
def inE (x : T3) (l : List T3) (k : Nat) : Bool := (l.take k).any (fun e => decide (e = x))
theorem inE_next (x : T3) {l : List T3} {k : Nat} (h : k < l.length) : inE x l (k + 1) = (inE x l k || decide (l[k] = x)) := by
  unfold inE
  rw [List.take_succ_eq_append_getElem h, List.any_append]
  simp
theorem inE_all {x : T3} {l : List T3} (h : x ∈ l) : inE x l l.length = true := by
  unfold inE
  rw [List.take_length, List.any_eq_true]
  exact ⟨x, h, by simp⟩
/-! ### what a walk handed out stays as it is -/
theorem Rds.blk {α : Type} {f : α → List Int} {sz : Nat} {w : World} {x : Option Addr} {c : Nat} {l : List α} (R : Rds f sz w x c l) : ∀ y, x = some y → l ≠ [] → y.block < w.heap.size := by
  intro y e hl
  obtain ⟨b, o, e2, hb, _⟩ := R.cells hl
  rw [e2] at e
  cases e
  exact hb
theorem out_new {α : Type} {x : Option Addr} {l : List α} {F : Nat → Prop} {b : Nat} (h : ∀ y, x = some y → b ≤ y.block) (hF : ∀ k, F k → k < b) : ∀ y, x = some y → l ≠ [] → ¬ F y.block := by
  intro y e _ hf
  have := h y e
  have := hF _ hf
  omega
theorem out_grow {α : Type} {f : α → List Int} {sz : Nat} {w w' : World} {x : Option Addr} {c : Nat} {l : List α} {F F' : Nat → Prop} (R : Rds f sz w x c l) (h : ∀ y, x = some y → l ≠ [] → ¬ F y.block) (g : ∀ k, F' k → Grow F w w' k) : ∀ y, x = some y → l ≠ [] → ¬ F' y.block := by
  intro y e hl hf
  rcases g _ hf with h1 | ⟨h1, _⟩
  · exact h y e hl h1
  · have := R.blk y e hl
    omega
end Go.Proofs.Ytlgldoggnlcbkaa
