/- Proved: for all entries l the call TrieWalks(l) returns true and leaves l as it was (of more than 60 nothing is asked). -/
import Derived.Test.YtlgldoggnlcbkaaTrieWalksOf
import Derived.Test.YtlgldoggnlcbkaaTrieCode
import Derived.Lib.SmallJoins
namespace Go.Proofs.Ytlgldoggnlcbkaa.trieWalks
open Go.ChangeShapes Go.WideShapes Go.ChangeAt Go.RowKit Tt
set_option linter.unusedVariables false


set_option maxRecDepth 100000 in
theorem walk_long (x : Option Addr) (c : Nat) (s : List T3)  (w : World) (R : Rds fE 3 w x c s) (hl : 60 < s.length) :
    Calls Try.prog 8 #[.slice x s.length c] w fun e w' => e = .returned (.bool true) ∧ Below w.heap.size w w' := by
  have hmx := Nat.le_trans R.le R.max
  unfold maxLen at hmx
  go_enter Try.func8, Try.ntmps8
  go_wp2_with fail
  refine (awake7_of code _).mono ?_
  rintro e w1 ⟨rfl, hb1⟩
  go_wp2_with fail
  go_ret
  exact ⟨rfl, hb1⟩
theorem walk (x : Option Addr) (c : Nat) (s : List T3)  (w : World) (R : Rds fE 3 w x c s) :
    Calls Try.prog 8 #[.slice x s.length c] w fun e w' => e = .returned (.bool true) ∧ Below w.heap.size w w' := by
  by_cases hl : 60 < s.length
  · exact walk_long x c s w R hl
  · exact walk_of code x c s w R (by omega)

theorem own : ownKnob Try.prog.godebug = none := by kernel_rfl
theorem laidOut : laidOutB Try.prog = true := by kernel_rfl
set_option maxRecDepth 100000 in
theorem lifted (os : Os) (started : os.Started) (H : Type) (enc : TypeId × Value → H) :
    ReturnsInHanded {} Try.checked os 8 .any (Rows.trieWalksSpec.pre6 enc Try.prog Try.f8 Rows.trieWalksRow.domain false) (Rows.trieWalksSpec.post enc Try.prog Try.f8 false true false false) := by
  refine returnsInHanded_of_change (C := Try.checked) own started (by kernel_rfl) Try.func8
    (ChangeSpec.witness6 (enc := enc) (C := Try.checked) false ⟨#[], #[.slice none 0 0], []⟩ 8 (by kernel_rfl) (by kernel_rfl) (by kernel_rfl) (by kernel_rfl)) ?_
  intro W base args ds gs before hval0 hW hcnd _
  have hval : ∀ (j : Nat) t v, Try.f8.params[j]? = some t → args[j]? = some v → Value.okWide Try.prog W .any base t v := hval0
  have hW' := hW
  obtain ⟨p, q, hA0, hV, rfl, hfz, hnd⟩ := hW
  have hA : DataW.TrodAll enc Try.prog W 0 (fun _ => true) true Try.f8.params.toList args.toList ds p := hA0
  rw [Try.params8] at hA hval
  obtain ⟨v0, vs0, d0, ds0, p0, q0, hargs, rfl, rfl, h0, r0⟩ := trodAll_cons hA
  obtain ⟨rfl, rfl, rfl⟩ := trodAll_nil r0
  obtain rfl : args = #[v0] := by cases args; simp_all
  obtain ⟨rfl, rfl⟩ := trodVars_none hV
  obtain ⟨a0, n0, c0, rfl⟩ := okWide_slice Try.underlying40 (hval 0 40 v0 rfl rfl)
  have k0 := h0
  have lt0 : ∀ x ∈ p0, x.block < W.heap.size := by obtain ⟨m, hm⟩ := k0; exact DataW.trod_lt m _ _ _ hm
  obtain ⟨l0, el0, R0⟩ : ∃ l : List Tt.T3, n0 = List.length l ∧ Rds fE 3 W a0 c0 l := by
    obtain ⟨fuel, hf⟩ := h0
    exact rds_of_trod Try.underlying40 (by kernel_rfl) (fun _ => rfl) (by decide) fE_len elemE (by simpa [Value.cells] using hf)
  subst el0
  clear hA0 hval0
  refine (walk a0 c0 l0  W R0).mono fun e W' ⟨he, bel⟩ => ?_
  subst he
  exact ⟨_, rfl, _, _, _, [], _, [], hW', trodAll_mk1 (shut_bool Try.underlying4 _), (trodAll_cons_mk (Below.trod laidOut (by kernel_rfl) (of_decide_eq_true (by kernel_rfl)) k0 bel lt0) trodAll_mk0), rfl, bel.frame _, fun h => by cases h⟩

theorem over : Rows.trieWalksRow.holds Try.pinned (OpenSpec.ofChange Rows.trieWalksSpec) :=
  OpenClaim.holds_of_wide 8 Try.f8 rfl rfl rfl rfl rfl rfl rfl ⟨rfl, rfl, rfl, rfl, rfl⟩ rfl rfl rfl rfl rfl (by kernel_rfl) Try.func8 (by kernel_rfl)
    (of_decide_eq_true (by kernel_rfl)) (by unfold Func.isWrapper; first | (rw [if_pos (by decide +kernel)]; kernel_rfl) | (rw [if_neg (by decide +kernel)]; exact ⟨rfl, rfl⟩))
    (fun os started H enc _ => lifted os started H enc)
end Go.Proofs.Ytlgldoggnlcbkaa.trieWalks
namespace Go.Proofs.Ytlgldoggnlcbkaa
theorem trieWalks_holds : Rows.TrieWalksSaid := trieWalks.over
#print axioms trieWalks_holds
end Go.Proofs.Ytlgldoggnlcbkaa
