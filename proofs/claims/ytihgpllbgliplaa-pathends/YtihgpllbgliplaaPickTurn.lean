/- What rules in order say of the one that counts, and of rules turned: plain. -/
import Derived.Test.YtihgpllbgliplaaPickPlain
import Derived.Test.YtihgpllbgliplaaMaths
namespace Go.Proofs.Ytihgpllbgliplaa
open Go Pk R
set_option linter.unusedVariables false
set_option linter.unusedSimpArgs false

theorem sort_len (l : List Rl) : (sortL l).length = l.length := (sort_perm l).length_eq
theorem sort_sort (l : List Rl) : sortL (sortL l) = sortL l := (sort_is (List.Perm.refl _) (sort_ord l)).symm
theorem turn_perm (l : List Rl) (k : Nat) : (l.drop k ++ l.take k).Perm l := List.perm_append_comm.trans (List.Perm.of_eq (List.take_append_drop k l))
theorem sort_turn (l : List Rl) (k : Nat) : sortL (l.drop k ++ l.take k) = sortL l := sort_is ((sort_perm _).trans (turn_perm l k)) (sort_ord _)
/-- how often a rule stands in a list -/
def cntL (r : Rl) (l : List Rl) : Nat := (l.filter (fun s => decide (s = r))).length
theorem take_next {l : List Rl} {k : Nat} (hk : k < l.length) : l.take (k + 1) = l.take k ++ [l.getD k default] := by
  rw [List.take_add_one, getD_at hk]; rfl
theorem cntL_yes {r : Rl} {l : List Rl} {k : Nat} (hk : k < l.length) (h : l.getD k default = r) : cntL r (l.take (k + 1)) = cntL r (l.take k) + 1 := by
  unfold cntL
  rw [take_next hk, List.filter_append, List.length_append, h]
  simp
theorem cntL_no {r : Rl} {l : List Rl} {k : Nat} (hk : k < l.length) (h : ¬ l.getD k default = r) : cntL r (l.take (k + 1)) = cntL r (l.take k) := by
  unfold cntL
  rw [take_next hk, List.filter_append, List.length_append]
  generalize l.getD k default = s at h
  simp [h]
theorem cntL_le (r : Rl) (l : List Rl) (k : Nat) : cntL r (l.take k) ≤ k := by
  unfold cntL
  have h1 := List.length_filter_le (fun s => decide (s = r)) (l.take k)
  have h2 : (l.take k).length ≤ k := by rw [List.length_take]; omega
  omega
theorem cntL_perm {r : Rl} {l m : List Rl} (h : l.Perm m) : cntL r l = cntL r m := (h.filter _).length_eq
theorem mem_at {S l : List Rl} (hp : S.Perm l) {k : Nat} (hk : k < S.length) : ∃ i, i < l.length ∧ l.getD i default = S.getD k default := by
  have hm : S.getD k default ∈ l := hp.mem_iff.1 (by rw [List.getD_eq_getElem?_getD, List.getElem?_eq_getElem hk]; exact List.getElem_mem hk)
  obtain ⟨i, hi, e⟩ := List.mem_iff_getElem.1 hm
  exact ⟨i, hi, by rw [List.getD_eq_getElem?_getD, List.getElem?_eq_getElem hi]; exact e⟩
theorem ahead_bef {r s : Rl} (h : Pk.ahead r s = true) : bef r s := by
  rw [ahead_iff] at h; unfold bef; omega
/-- of rules in order the first that fits is one that counts -/
theorem first_of {x d : Int} {S l : List Rl} (hp : S.Perm l) (ho : Pk.Ord S) {k : Nat} (hk : k < S.length) (hf : fits x d (S.getD k default) = true) (hno : ∀ i, i < k → fits x d (S.getD i default) = false) :
    ∃ q : Nat, q < l.length ∧ firstL x d l = (q : Int) ∧ Pk.ahead (l.getD q default) (S.getD k default) = false ∧ Pk.ahead (S.getD k default) (l.getD q default) = false := by
  obtain ⟨i, hi, ei⟩ := mem_at hp hk
  rcases firstL_is x d l with ⟨e, hn⟩ | ⟨q, hq, e, hqf, hn⟩
  · have := hn i hi; rw [ei, hf] at this; cases this
  · refine ⟨q, hq, e, ?_, ?_⟩
    · obtain ⟨j, hj, ej⟩ := mem_at hp.symm hq
      rcases Nat.lt_trichotomy j k with h | h | h
      · have := hno j h; rw [ej, hqf] at this; cases this
      · subst h; rw [ej]; exact ahead_self _
      · rw [← ej]
        cases ha : Pk.ahead (S.getD j default) (S.getD k default) with
        | false => rfl
        | true =>
          have hb := ahead_bef ha
          have := (List.pairwise_iff_getElem.1 ho) k j hk hj h
          rw [List.getD_eq_getElem?_getD, List.getElem?_eq_getElem hj, List.getD_eq_getElem?_getD, List.getElem?_eq_getElem hk] at hb
          exact absurd hb this
    · have := hn i hi (by rw [ei]; exact hf)
      rw [ei] at this; exact this
theorem first_not {x d : Int} {S l : List Rl} (hp : S.Perm l) (hno : ∀ i, i < S.length → fits x d (S.getD i default) = false) : firstL x d l = -1 := by
  rcases firstL_is x d l with ⟨e, hn⟩ | ⟨q, hq, e, hqf, hn⟩
  · exact e
  · obtain ⟨j, hj, ej⟩ := mem_at hp.symm hq
    have := hno j hj; rw [ej, hqf] at this; cases this
theorem fits_alike {x d : Int} {r s : Rl} (h1 : fits x d r = true) (h2 : fits x d s = true) (h3 : Pk.ahead r s = false) (h4 : Pk.ahead s r = false) : Pk.alike r s = true := by
  rw [ahead_not] at h3 h4
  unfold fits fitB at h1 h2
  rw [Bool.and_eq_true] at h1 h2
  have a1 := (M.hasB_iff.1 h1.1).2
  have a2 := (M.hasB_iff.1 h2.1).2
  have e : r.n = s.n := by omega
  rw [e, a2] at a1
  unfold Pk.alike likeB
  exact decide_eq_true ⟨a1.symm, e, by omega, by omega⟩
/-- of rules no two of which are alike the same one counts, wherever they stand -/
theorem first_perm {x d : Int} {M l : List Rl} (hp : M.Perm l) (hna : ∀ i, i < l.length → ∀ k, k < i → Pk.alike (l.getD i default) (l.getD k default) = false) :
    (firstL x d l = -1 ∧ firstL x d M = -1) ∨ (∃ q p : Nat, q < l.length ∧ p < M.length ∧ firstL x d l = (q : Int) ∧ firstL x d M = (p : Int) ∧ M.getD p default = l.getD q default) := by
  rcases firstL_is x d l with ⟨e, hn⟩ | ⟨q, hq, e, hqf, hn⟩
  · refine .inl ⟨e, first_not hp.symm hn⟩
  · obtain ⟨i, hi, ei⟩ := mem_at hp.symm hq
    rcases firstL_is x d M with ⟨e2, hn2⟩ | ⟨p, hpl, e2, hpf, hn2⟩
    · have := hn2 i hi; rw [ei, hqf] at this; cases this
    · obtain ⟨j, hj, ej⟩ := mem_at hp hpl
      refine .inr ⟨q, p, hq, hpl, e, e2, ?_⟩
      have a1 := hn j hj (by rw [ej]; exact hpf)
      have a2 := hn2 i hi (by rw [ei]; exact hqf)
      rw [← ej] at hpf a2 ⊢
      rw [ei] at a2
      rcases Nat.lt_trichotomy j q with h | h | h
      · have h9 := fits_alike hqf hpf a2 a1
        rw [hna q hq j h] at h9; cases h9
      · rw [h]
      · have h9 := fits_alike hpf hqf a1 a2
        rw [hna j hj q h] at h9; cases h9
end Go.Proofs.Ytihgpllbgliplaa
