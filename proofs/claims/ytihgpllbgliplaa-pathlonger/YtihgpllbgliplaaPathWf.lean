/- The numbers of a walk are numbers of the language's int. -/
import Derived.Test.YtihgpllbgliplaaPathMath
import Derived.Test.YtihgpllbgliplaaTopMay
import Derived.Test.YtihgpllbgliplaaConfMem
namespace Go.Proofs.Ytihgpllbgliplaa.Pa
open Go Go.ChangeShapes Go.WideShapes Go.ChangeAt Go.RowKit Pk Cf
set_option linter.unusedVariables false
set_option linter.unusedSimpArgs false

abbrev W64 (z : Int) : Prop := (Lit.int .i64 z).wf = true
def WfF (f : Fl) : Prop := ∀ z ∈ fF f, W64 z
def WfH (h : Hp) : Prop := ∀ z ∈ fH h, W64 z
def WfC (C : Cnf) : Prop := ∀ r ∈ C, ∀ x ∈ r, ∀ z ∈ fR x, W64 z
def WfL (l : List Tp.Lk) : Prop := ∀ k ∈ l, ∀ z ∈ Tp.fK k, W64 z
theorem w64_iff {z : Int} : W64 z ↔ -9223372036854775808 ≤ z ∧ z ≤ 9223372036854775807 := by
  simp [W64, Lit.wf, IntKind.min, IntKind.max, IntKind.signed, IntKind.bits]
theorem wfF_of {f : Fl} (h0 : W64 f.id) (h1 : W64 f.src) (h2 : W64 f.dst) (h3 : W64 f.ttl) (h4 : W64 f.tag) (h5 : W64 f.sw) (h6 : W64 f.i) : WfF f := by
  intro z hz
  simp only [fF, List.mem_cons, List.not_mem_nil, or_false] at hz
  rcases hz with rfl | rfl | rfl | rfl | rfl | rfl | rfl <;> assumption
theorem wfH_of {h : Hp} (h0 : W64 h.tick) (h1 : W64 h.id) (h2 : W64 h.sw) (h3 : W64 h.i) (h4 : W64 h.tag) (h5 : W64 h.what) (h6 : W64 h.out) : WfH h := by
  intro z hz
  simp only [fH, List.mem_cons, List.not_mem_nil, or_false] at hz
  rcases hz with rfl | rfl | rfl | rfl | rfl | rfl | rfl <;> assumption
theorem wf_no : WfF noFl := wfF_of (by decide) (by decide) (by decide) (by decide) (by decide) (by decide) (by decide)
theorem getE_mem : ∀ (m : List (Tp.En × Tp.En)) (e o : Tp.En), Tp.getE m e = some o → (e, o) ∈ m := by
  intro m
  induction m with
  | nil => intro e o h; cases h
  | cons p m ih =>
    intro e o h
    unfold Tp.getE at h
    split at h
    · rename_i he
      cases h
      obtain ⟨a, b⟩ := p
      simp only at he
      subst he
      exact List.mem_cons_self
    · exact List.mem_cons_of_mem _ (ih e o h)
theorem far_wf {s n : Int} {l : List Tp.Lk} (hl : WfL l) {e o : Tp.En} (h : Tp.far s n l e = some o) : W64 o.1 ∧ W64 o.2 := by
  unfold Tp.far at h
  split at h
  · have hm := getE_mem _ _ _ h
    obtain ⟨k, hk, hko⟩ : ∃ k ∈ l, (e, o) = ((k.a, k.p), (k.b, k.q)) ∨ (e, o) = ((k.b, k.q), (k.a, k.p)) := by
      unfold Tp.ends at hm
      simpa [List.mem_flatMap, Tp.two] using hm
    have hw := hl k hk
    rcases hko with g | g <;> · simp only [Prod.mk.injEq] at g; obtain ⟨-, rfl⟩ := g; exact ⟨hw _ (by simp [Tp.fK]), hw _ (by simp [Tp.fK])⟩
  · cases h
section
variable {s n : Int} {l : List Tp.Lk} {C : Cnf}
theorem at_wf (hC : WfC C) (sw : Int) : ∀ x ∈ atC C sw, ∀ z ∈ fR x, W64 z := by
  intro x hx
  unfold atC at hx
  split at hx
  · rw [List.getD_eq_getElem?_getD] at hx
    cases g : C[sw.toNat]? with
    | none => rw [g] at hx; simp at hx
    | some r =>
      rw [g] at hx
      exact hC r (List.mem_of_getElem? g) x hx
  · simp at hx
theorem hop_wf {f : Fl} (hf : WfF f) {a b : Int} (ha : W64 a) (hb : W64 b) : WfH (hop f a b) :=
  wfH_of (show W64 0 by decide) (show W64 f.id from hf _ (by simp [fF])) (show W64 f.sw from hf _ (by simp [fF])) (show W64 f.i from hf _ (by simp [fF])) (show W64 f.tag from hf _ (by simp [fF])) ha hb
theorem step_wf (hl : WfL l) (hC : WfC C) {f : Fl} (hf : WfF f) : WfH (stepP s n l C f).1 ∧ WfF (stepP s n l C f).2 := by
  unfold stepP
  split
  · exact ⟨hop_wf hf (by decide) (by decide), wf_no⟩
  · rename_i ht
    cases hr : ruleP C f with
    | none => exact ⟨hop_wf hf (by decide) (by decide), wf_no⟩
    | some r =>
      have hw : ∀ z ∈ fR r, W64 z := by
        unfold ruleP at hr
        split at hr
        · cases hr
        · cases hr
          rw [List.getD_eq_getElem?_getD]
          cases g : (atC C f.sw)[(firstL f.i f.dst (atC C f.sw)).toNat]? with
          | none => show ∀ z ∈ fR (default : Rl), W64 z; decide
          | some x => exact at_wf hC f.sw x (List.mem_of_getElem? g)
      have hwt : W64 r.t := hw _ (by simp [fR])
      unfold doP
      by_cases hk : r.k = 1
      · simp only [hk, if_true]
        cases hfar : Tp.far s n l (f.sw, r.t) with
        | none => exact ⟨hop_wf hf (by decide) hwt, wf_no⟩
        | some e =>
          obtain ⟨e1, e2⟩ := far_wf hl hfar
          refine ⟨hop_wf hf (by decide) hwt, wfF_of (show W64 f.id from hf _ (by simp [fF])) (show W64 f.src from hf _ (by simp [fF])) (show W64 f.dst from hf _ (by simp [fF])) ?_ (show W64 f.tag from hf _ (by simp [fF])) e1 e2⟩
          have := w64_iff.1 (hf f.ttl (by simp [fF]))
          exact w64_iff.2 (by show _ ≤ f.ttl - 1 ∧ f.ttl - 1 ≤ _; omega)
      · simp only [if_neg hk]
        exact ⟨hop_wf hf (by decide) (by decide), wf_no⟩
theorem walkF_wf (hl : WfL l) (hC : WfC C) : ∀ (k : Nat) (f : Fl), WfF f → ∀ h ∈ walkF s n l C k f, WfH h := by
  intro k
  induction k with
  | zero => intro f _ h hh; simp [walkF] at hh
  | succ k ih =>
    intro f hf h hh
    obtain ⟨h1, h2⟩ := step_wf (s := s) (n := n) hl hC hf
    rw [walk_succ, List.mem_cons] at hh
    rcases hh with rfl | hh
    · exact h1
    · split at hh
      · exact ih _ h2 h hh
      · simp at hh
theorem cap_wf {f : Fl} (hf : WfF f) : WfF (cap f) := by
  refine wfF_of (show W64 f.id from hf _ (by simp [fF])) (show W64 f.src from hf _ (by simp [fF])) (show W64 f.dst from hf _ (by simp [fF])) ?_ (show W64 f.tag from hf _ (by simp [fF])) (show W64 f.sw from hf _ (by simp [fF])) (show W64 f.i from hf _ (by simp [fF]))
  have := w64_iff.1 (hf f.ttl (by simp [fF]))
  exact w64_iff.2 (by show _ ≤ min f.ttl 16 ∧ min f.ttl 16 ≤ _; omega)
theorem walk_wf (hl : WfL l) (hC : WfC C) {f : Fl} (hf : WfF f) : ∀ h ∈ walkP s n l C f, ∀ z ∈ fH h, (Lit.int .i64 z).wf = true := walkF_wf hl hC 17 (cap f) (cap_wf hf)
end
theorem lists_wf {w : World} {a : Option Addr} {c : Nat} {C : Cnf} (V : Lists w a c C) : WfC C := by
  intro r hr
  obtain ⟨i, hi⟩ := List.mem_iff_getElem?.1 hr
  obtain ⟨b, o, x, k, _, _, _, R⟩ := V.at hi
  exact fun y hy => R.wf y hy
end Go.Proofs.Ytihgpllbgliplaa.Pa
