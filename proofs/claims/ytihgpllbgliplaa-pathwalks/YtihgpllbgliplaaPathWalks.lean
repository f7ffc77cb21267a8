/- Proved: for every topology of at most 60 links, every configuration of at most 10 lists of at most 60 rules, and every packet at any port the call PathWalks(t, c, f) returns true (else nothing is asked). -/
import Derived.Test.YtihgpllbgliplaaPathCode
import Derived.Test.YtihgpllbgliplaaPathOpen
import Derived.Test.YtihgpllbgliplaaTopOpen
import Derived.Test.YtihgpllbgliplaaPathWalksOf
import Derived.Lib.SmallJoins
namespace Go.Proofs.Ytihgpllbgliplaa.pathWalks
open Go.ChangeShapes Go.WideShapes Go.ChangeAt Go.RowKit Go.Maps Pk Cf Pa
set_option linter.unusedVariables false
set_option linter.unusedSimpArgs false

theorem walk (s n : Int) (x : Option Addr) (c : Nat) (l : List Tp.Lk) (a : Option Addr) (k : Nat) (A : Cnf) (fi fs fd ft fg fw fp : Int) (w0a : (Lit.int .i64 s).wf = true) (w0b : (Lit.int .i64 n).wf = true) (v0 : (Lit.int .i64 fi).wf = true) (v1 : (Lit.int .i64 fs).wf = true) (v2 : (Lit.int .i64 fd).wf = true) (v3 : (Lit.int .i64 ft).wf = true) (v4 : (Lit.int .i64 fg).wf = true) (v5 : (Lit.int .i64 fw).wf = true) (v6 : (Lit.int .i64 fp).wf = true) (w : World) (RT : Rds Tp.fK 4 w x c l) (V : Lists w a k A) :
    Calls Try.prog 4 #[.agg #[.int .i64 s, .int .i64 n, .slice x l.length c], .slice a A.length k, .agg #[.int .i64 fi, .int .i64 fs, .int .i64 fd, .int .i64 ft, .int .i64 fg, .int .i64 fw, .int .i64 fp]] w fun e w' => e = .returned (.bool true) ∧ Below w.heap.size w w' := pathWalks_of pcode s n x c l a k A fi fs fd ft fg fw fp w RT V (wfF_of v0 v1 v2 v3 v4 v5 v6)
theorem own : ownKnob Try.prog.godebug = none := by kernel_rfl
theorem laidOut : laidOutB Try.prog = true := by kernel_rfl
set_option maxRecDepth 100000 in
theorem lifted (os : Os) (started : os.Started) (H : Type) (enc : TypeId × Value → H) :
    ReturnsInHanded {} Try.checked os 4 .any (Rows.pathWalksSpec.pre6 enc Try.prog Try.f4 Rows.pathWalksRow.domain false) (Rows.pathWalksSpec.post enc Try.prog Try.f4 false true false false) := by
  refine returnsInHanded_of_change (C := Try.checked) own started (by kernel_rfl) Try.func4
    (ChangeSpec.witness6 (enc := enc) (C := Try.checked) false ⟨#[], #[.agg #[.int .i64 0, .int .i64 0, .slice none 0 0], .slice none 0 0, .agg #[.int .i64 0, .int .i64 0, .int .i64 0, .int .i64 0, .int .i64 0, .int .i64 0, .int .i64 0]], []⟩ 8 (by kernel_rfl) (by kernel_rfl) (by kernel_rfl) (by kernel_rfl)) ?_
  intro W base args ds gs before hval0 hW hcnd _
  have hval : ∀ (j : Nat) t v, Try.f4.params[j]? = some t → args[j]? = some v → Value.okWide Try.prog W .any base t v := hval0
  have hW' := hW
  obtain ⟨p, q, hA0, hV, rfl, hfz, hnd⟩ := hW
  have hA : DataW.TrodAll enc Try.prog W 0 (fun _ => true) true Try.f4.params.toList args.toList ds p := hA0
  rw [Try.params4] at hA hval
  obtain ⟨v0, vs0, d0, ds0, p0, q0, hargs, rfl, rfl, h0, r0⟩ := trodAll_cons hA
  obtain ⟨v1, vs1, d1, ds1, p1, q1, rfl, rfl, rfl, h1, r1⟩ := trodAll_cons r0
  obtain ⟨v2, vs2, d2, ds2, p2, q2, rfl, rfl, rfl, h2, r2⟩ := trodAll_cons r1
  obtain ⟨rfl, rfl, rfl⟩ := trodAll_nil r2
  obtain rfl : args = #[v0, v1, v2] := by cases args; simp_all
  obtain ⟨rfl, rfl⟩ := trodVars_none hV
  have k0 := h0
  have lt0 : ∀ x ∈ p0, x.block < W.heap.size := by obtain ⟨m, hm⟩ := k0; exact DataW.trod_lt m _ _ _ hm
  obtain ⟨a1, n1, c1, rfl⟩ := okWide_slice Try.underlying26 (hval 1 26 v1 rfl rfl)
  have k1 := h1
  have lt1 : ∀ x ∈ p1, x.block < W.heap.size := by obtain ⟨m, hm⟩ := k1; exact DataW.trod_lt m _ _ _ hm
  have k2 := h2
  have lt2 : ∀ x ∈ p2, x.block < W.heap.size := by obtain ⟨m, hm⟩ := k2; exact DataW.trod_lt m _ _ _ hm
  obtain ⟨a0, b0, x0, c0, l0, rfl, w0a, w0b, R0⟩ := open_topo (fun _ => rfl) (hval 0 24 v0 rfl rfl) h0
  obtain ⟨l1, el1, R1⟩ : ∃ l : Cf.Cnf, n1 = List.length l ∧ Lists W a1 c1 l := by
    obtain ⟨fuel, hf⟩ := h1
    exact rows_of_trod (fun _ => rfl) (by simpa [Value.cells] using hf)
  subst el1
  obtain ⟨A2, B2, C2, D2, E2, F2, G2, rfl, w2A, w2B, w2C, w2D, w2E, w2F, w2G⟩ := open_fly (hval 2 30 v2 rfl rfl) h2
  clear hA0 hval0
  refine (walk a0 b0 x0 c0 l0 a1 c1 l1 A2 B2 C2 D2 E2 F2 G2 w0a w0b w2A w2B w2C w2D w2E w2F w2G W R0 R1).mono fun e W' ⟨he, bel⟩ => ?_
  subst he
  exact ⟨_, rfl, _, _, _, [], _, [], hW', trodAll_mk1 (shut_bool Try.underlying4 _), (trodAll_cons_mk (Below.trod laidOut (by kernel_rfl) (of_decide_eq_true (by kernel_rfl)) k0 bel lt0) (trodAll_cons_mk (Below.trod laidOut (by kernel_rfl) (of_decide_eq_true (by kernel_rfl)) k1 bel lt1) (trodAll_cons_mk (Below.trod laidOut (by kernel_rfl) (of_decide_eq_true (by kernel_rfl)) k2 bel lt2) trodAll_mk0))), rfl, bel.frame _, fun h => by cases h⟩

theorem over : Rows.pathWalksRow.holds Try.pinned (OpenSpec.ofChange Rows.pathWalksSpec) :=
  OpenClaim.holds_of_wide 4 Try.f4 rfl rfl rfl rfl rfl rfl rfl ⟨rfl, rfl, rfl, rfl, rfl⟩ rfl rfl rfl rfl rfl (by kernel_rfl) Try.func4 (by kernel_rfl)
    (of_decide_eq_true (by kernel_rfl)) (by unfold Func.isWrapper; first | (rw [if_pos (by decide +kernel)]; kernel_rfl) | (rw [if_neg (by decide +kernel)]; exact ⟨rfl, rfl⟩))
    (fun os started H enc _ => lifted os started H enc)
end Go.Proofs.Ytihgpllbgliplaa.pathWalks
namespace Go.Proofs.Ytihgpllbgliplaa
theorem pathWalks_holds : Rows.PathWalksSaid := pathWalks.over
#print axioms pathWalks_holds
end Go.Proofs.Ytihgpllbgliplaa
