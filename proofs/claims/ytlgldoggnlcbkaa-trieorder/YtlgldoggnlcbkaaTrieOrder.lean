/- Proved: for all entries l and all prefixes others the call TrieOrder(l, others) returns true and leaves both as they were (of more than 30 nothing is asked, nor where one stands twice). -/
import Derived.Test.YtlgldoggnlcbkaaTrieOrderOf
import Derived.Test.YtlgldoggnlcbkaaTrieCode
import Derived.Lib.SmallJoins
namespace Go.Proofs.Ytlgldoggnlcbkaa.trieOrder
open Go.ChangeShapes Go.WideShapes Go.ChangeAt Go.RowKit Tt
set_option linter.unusedVariables false

set_option maxRecDepth 100000 in
theorem walk_long (x : Option Addr) (c : Nat) (s : List T3) (xo : Option Addr) (co : Nat) (os : List P2) (w : World) (R : Rds fE 3 w x c s) (Q : Rds fP 2 w xo co os) (hl : 30 < s.length) :
    Calls Try.prog 5 #[.slice x s.length c, .slice xo os.length co] w fun e w' => e = .returned (.bool true) ∧ Below w.heap.size w w' := by
  have hmx := Nat.le_trans R.le R.max
  unfold maxLen at hmx
  go_enter Try.func5, Try.ntmps5
  go_wp2_with fail
  refine (awake7_of code _).mono ?_
  rintro e w1 ⟨rfl, hb1⟩
  go_wp2_with fail
  go_ret
  exact ⟨rfl, hb1⟩
set_option maxRecDepth 100000 in
theorem walk_long2 (x : Option Addr) (c : Nat) (s : List T3) (xo : Option Addr) (co : Nat) (os : List P2) (w : World) (R : Rds fE 3 w x c s) (Q : Rds fP 2 w xo co os) (hl : s.length ≤ 30) (hlo : 30 < os.length) :
    Calls Try.prog 5 #[.slice x s.length c, .slice xo os.length co] w fun e w' => e = .returned (.bool true) ∧ Below w.heap.size w w' := by
  have hmx := Nat.le_trans Q.le Q.max
  unfold maxLen at hmx
  go_enter Try.func5, Try.ntmps5
  go_wp2_with fail
  refine (awake7_of code _).mono ?_
  rintro e w1 ⟨rfl, hb1⟩
  go_wp2_with fail
  go_ret
  exact ⟨rfl, hb1⟩
theorem walk (x : Option Addr) (c : Nat) (s : List T3) (xo : Option Addr) (co : Nat) (os : List P2) (w : World) (R : Rds fE 3 w x c s) (Q : Rds fP 2 w xo co os) :
    Calls Try.prog 5 #[.slice x s.length c, .slice xo os.length co] w fun e w' => e = .returned (.bool true) ∧ Below w.heap.size w w' := by
  by_cases hl : 30 < s.length
  · exact walk_long x c s xo co os w R Q hl
  · by_cases hlo : 30 < os.length
    · exact walk_long2 x c s xo co os w R Q (by omega) hlo
    · exact walk_of code x c s xo co os w R Q (by omega) (by omega)

theorem own : ownKnob Try.prog.godebug = none := by kernel_rfl
theorem laidOut : laidOutB Try.prog = true := by kernel_rfl
set_option maxRecDepth 100000 in
theorem lifted (os : Os) (started : os.Started) (H : Type) (enc : TypeId × Value → H) :
    ReturnsInHanded {} Try.checked os 5 .any (Rows.trieOrderSpec.pre6 enc Try.prog Try.f5 Rows.trieOrderRow.domain false) (Rows.trieOrderSpec.post enc Try.prog Try.f5 false true false false) := by
  refine returnsInHanded_of_change (C := Try.checked) own started (by kernel_rfl) Try.func5
    (ChangeSpec.witness6 (enc := enc) (C := Try.checked) false ⟨#[], #[.slice none 0 0, .slice none 0 0], []⟩ 8 (by kernel_rfl) (by kernel_rfl) (by kernel_rfl) (by kernel_rfl)) ?_
  intro W base args ds gs before hval0 hW hcnd _
  have hval : ∀ (j : Nat) t v, Try.f5.params[j]? = some t → args[j]? = some v → Value.okWide Try.prog W .any base t v := hval0
  have hW' := hW
  obtain ⟨p, q, hA0, hV, rfl, hfz, hnd⟩ := hW
  have hA : DataW.TrodAll enc Try.prog W 0 (fun _ => true) true Try.f5.params.toList args.toList ds p := hA0
  rw [Try.params5] at hA hval
  obtain ⟨v0, vs0, d0, ds0, p0, q0, hargs, rfl, rfl, h0, r0⟩ := trodAll_cons hA
  obtain ⟨v1, vs1, d1, ds1, p1, q1, rfl, rfl, rfl, h1, r1⟩ := trodAll_cons r0
  obtain ⟨rfl, rfl, rfl⟩ := trodAll_nil r1
  obtain rfl : args = #[v0, v1] := by cases args; simp_all
  obtain ⟨rfl, rfl⟩ := trodVars_none hV
  obtain ⟨a0, n0, c0, rfl⟩ := okWide_slice Try.underlying40 (hval 0 40 v0 rfl rfl)
  have k0 := h0
  have lt0 : ∀ x ∈ p0, x.block < W.heap.size := by obtain ⟨m, hm⟩ := k0; exact DataW.trod_lt m _ _ _ hm
  obtain ⟨a1, n1, c1, rfl⟩ := okWide_slice Try.underlying48 (hval 1 48 v1 rfl rfl)
  have k1 := h1
  have lt1 : ∀ x ∈ p1, x.block < W.heap.size := by obtain ⟨m, hm⟩ := k1; exact DataW.trod_lt m _ _ _ hm
  obtain ⟨l0, el0, R0⟩ : ∃ l : List Tt.T3, n0 = List.length l ∧ Rds fE 3 W a0 c0 l := by
    obtain ⟨fuel, hf⟩ := h0
    exact rds_of_trod Try.underlying40 (by kernel_rfl) (fun _ => rfl) (by decide) fE_len elemE (by simpa [Value.cells] using hf)
  subst el0
  obtain ⟨l1, el1, R1⟩ : ∃ l : List Tt.P2, n1 = List.length l ∧ Rds fP 2 W a1 c1 l := by
    obtain ⟨fuel, hf⟩ := h1
    exact rds_of_trod Try.underlying48 (by kernel_rfl) (fun _ => rfl) (by decide) fP_len elemP (by simpa [Value.cells] using hf)
  subst el1
  clear hA0 hval0
  refine (walk a0 c0 l0 a1 c1 l1  W R0 R1).mono fun e W' ⟨he, bel⟩ => ?_
  subst he
  exact ⟨_, rfl, _, _, _, [], _, [], hW', trodAll_mk1 (shut_bool Try.underlying4 _), (trodAll_cons_mk (Below.trod laidOut (by kernel_rfl) (of_decide_eq_true (by kernel_rfl)) k0 bel lt0) (trodAll_cons_mk (Below.trod laidOut (by kernel_rfl) (of_decide_eq_true (by kernel_rfl)) k1 bel lt1) trodAll_mk0)), rfl, bel.frame _, fun h => by cases h⟩

theorem over : Rows.trieOrderRow.holds Try.pinned (OpenSpec.ofChange Rows.trieOrderSpec) :=
  OpenClaim.holds_of_wide 5 Try.f5 rfl rfl rfl rfl rfl rfl rfl ⟨rfl, rfl, rfl, rfl, rfl⟩ rfl rfl rfl rfl rfl (by kernel_rfl) Try.func5 (by kernel_rfl)
    (of_decide_eq_true (by kernel_rfl)) (by unfold Func.isWrapper; first | (rw [if_pos (by decide +kernel)]; kernel_rfl) | (rw [if_neg (by decide +kernel)]; exact ⟨rfl, rfl⟩))
    (fun os started H enc _ => lifted os started H enc)
end Go.Proofs.Ytlgldoggnlcbkaa.trieOrder
namespace Go.Proofs.Ytlgldoggnlcbkaa
theorem trieOrder_holds : Rows.TrieOrderSaid := trieOrder.over
#print axioms trieOrder_holds
end Go.Proofs.Ytlgldoggnlcbkaa
