/- That the chapter's example holds, which each statement asks first; and what a digest is told by without rules. -/
import Derived.Test.YtinmhjgnapbkmaaDigOf
namespace Go.Proofs.Ytinmhjgnapbkmaa
open Go.ChangeShapes Go.WideShapes Go.ChangeAt Go.RowKit O Dg Pk Tb R
set_option linter.unusedVariables false
set_option linter.unusedSimpArgs false

theorem sort_nil : sortL [] = [] := (sort_perm []).eq_nil
theorem ofN_nil (t : Int) (h0 : 1 ≤ t) (h1 : t ≤ 4095) : ofN t [] = 65535 - t := by
  unfold ofN ofL
  rw [sort_nil, rusB_nil, List.append_nil, word_is]
  have e : tot [t % 65536 / 256, t % 256] 2 = t := by
    simp [tot]
    omega
  unfold sumN
  rw [show ([t % 65536 / 256, t % 256] : List Int).length = 2 from rfl, e, fo_small (by omega) (by omega)]
theorem allN_nil : allN [] = 65535 := by decide +kernel
theorem of_none (t : Int) (h0 : 1 ≤ t) (h1 : t ≤ 4095) (w : World) :
    Calls Try.prog 11 #[.int .i64 t, .slice none 0 0] w fun e w' => e = .returned (.int .i64 (65535 - t)) ∧ Below w.heap.size w w' := by
  have h := of_any t w (Rds.none fR 6 w) (by decide)
  rw [ofN_nil t h0 h1] at h
  exact h
theorem all_none (w : World) :
    Calls Try.prog 13 #[.slice none 0 0] w fun e w' => e = .returned (.int .i64 65535) ∧ Below w.heap.size w w' := by
  have h := all_of_any w (Vers.empty 0 w) (by decide) (fun v hv => nomatch hv)
  rw [allN_nil] at h
  exact h
theorem dawake_any (w : World) : Calls Try.prog 9 #[] w fun e w' => e = .returned (.bool true) ∧ Below w.heap.size w w' := by
  have c1 : ∀ w, Calls Try.prog 11 #[.int .i64 1, .slice none 0 0] w fun e w' => e = .returned (.int .i64 65534) ∧ Below w.heap.size w w' := fun w => of_none 1 (by decide) (by decide) w
  have c2 := all_none
  go_enter Try.func9, Try.ntmps9
  go_wp2_with fail
  refine (c1 _).mono ?_
  rintro e w1 ⟨rfl, hb1⟩
  go_wp2_with fail
  refine (c2 _).mono ?_
  rintro e w2 ⟨rfl, hb2⟩
  go_wp2_with fail
  go_ret
  exact ⟨rfl, below_step hb1 hb2⟩
/-- rules just laid in a block of their own -/
theorem rds_newl (W : World) (l : List Rl) (e : TypeId) (hw : ∀ x ∈ l, ∀ z ∈ fR x, (Lit.int .i64 z).wf = true) {B : Nat} (hB : W.heap.size = B) (h60 : l.length ≤ 100 := by simp) : Rds fR 6 (W.alloc (.cells (flatV fR l).toArray e)) (some ⟨B, 0, none⟩) l.length l := by
  subst hB
  refine ⟨Nat.le_refl _, by unfold maxLen; omega, hw, fun h => (nomatch h), fun _ => ⟨_, _, rfl, by simp, fun i x hx j u hu => ?_⟩⟩
  have := World.news_of_block (heap_alloc_new W (.cells (flatV fR l).toArray e)) (i * 6 + j) (.int .i64 u) (by simpa using flatV_get fR_len hx hu)
  rw [Addr.add_lit] at this
  simpa using this
theorem of_at (t : Int) (w : World) {a : Option Addr} {c n : Nat} {l : List Rl} (R : Rds fR 6 w a c l) (hn : l.length = n) (hl : l.length ≤ 100) :
    Calls Try.prog 11 #[.int .i64 t, .slice a n c] w fun e w' => e = .returned (.int .i64 (ofN t l)) ∧ Below w.heap.size w w' := by
  subst hn
  exact of_any t w R hl
theorem wf6 {a n i p k t : Int} (h0 : (Lit.int .i64 a).wf = true) (h1 : (Lit.int .i64 n).wf = true) (h2 : (Lit.int .i64 i).wf = true) (h3 : (Lit.int .i64 p).wf = true) (h4 : (Lit.int .i64 k).wf = true) (h5 : (Lit.int .i64 t).wf = true) : ∀ z ∈ fR ⟨a, n, i, p, k, t⟩, (Lit.int .i64 z).wf = true := by
  intro z hz
  simp only [fR, List.mem_cons, List.not_mem_nil, or_false] at hz
  rcases hz with rfl | rfl | rfl | rfl | rfl | rfl <;> assumption
theorem may_wf {a n i p k t : Int} (h : okR a n i p k t = true) : ∀ z ∈ fR ⟨a, n, i, p, k, t⟩, (Lit.int .i64 z).wf = true := by
  have hb := okR_bd h
  exact wf6 (wf_i64_mk (by omega) (by omega)) (wf_i64_mk (by omega) (by omega)) (wf_i64_mk (by omega) (by omega)) (wf_i64_mk (by omega) (by omega)) (wf_i64_mk (by omega) (by omega)) (wf_i64_mk (by omega) (by omega))
/-- two boxed rules are where they are -/
theorem kept_two {w w' w2 : World} {B C : Nat} {l m : List Int} (h : Below w.heap.size w w' ∧ Lies w' B l ∧ Lies w' C m) (hb : Below w'.heap.size w' w2) : Below w.heap.size w w2 ∧ Lies w2 B l ∧ Lies w2 C m :=
  ⟨below_step h.1 hb, h.2.1.later hb, h.2.2.later hb⟩
theorem kept_three {w w' w2 : World} {B C D : Nat} {l m k : List Int} (h : Below w.heap.size w w' ∧ Lies w' B l ∧ Lies w' C m ∧ Lies w' D k) (hb : Below w'.heap.size w' w2) : Below w.heap.size w w2 ∧ Lies w2 B l ∧ Lies w2 C m ∧ Lies w2 D k :=
  ⟨below_step h.1 hb, h.2.1.later hb, h.2.2.1.later hb, h.2.2.2.later hb⟩
end Go.Proofs.Ytinmhjgnapbkmaa
