/- Slices of entries, of prefixes and of what is to be done, and an entry, that came in as arguments, opened. -/
import Derived.Test.YtlgldoggnlcbkaaTrieRefs
import Derived.Lib.SmallJoins
import Derived.Deep.Strs
namespace Go.Proofs.Ytlgldoggnlcbkaa
open Go.ChangeShapes Go.WideShapes Go.ChangeAt Go.RowKit Tt
set_option linter.unusedVariables false
set_option linter.unusedSimpArgs false

theorem cInt7 : Try.prog.cellsOf 3 = 1 := by kernel_rfl
theorem cPrefix7 : Try.prog.cellsOf 29 = 2 := by kernel_rfl
theorem cEntry7 : Try.prog.cellsOf 36 = 3 := by kernel_rfl
section
variable {H : Type} {enc : TypeId × Value → H} {w : World} {base : Nat} {spare : Nat → Bool} {held : Bool}
theorem one_int7 {n : Nat} {c : Value} {x : DataW H × List MemPlace} (h : DataW.trod enc Try.prog w base spare held n 3 [c] = some x) : ∃ a : Int, c = .int .i64 a ∧ (Lit.int .i64 a).wf = true := by
  obtain ⟨a, e, _, hw⟩ := DataW.trod_int Try.underlying3 h
  exact ⟨a, by simpa using e, hw⟩
theorem elemP (n : Nat) (cs : List Value) (y : DataW H × List MemPlace) (hl : cs.length = 2) (h : DataW.trod enc Try.prog w base spare held n 29 cs = some y) : ∃ x : P2, cs = (fP x).map (Value.int .i64) ∧ ∀ z ∈ fP x, (Lit.int .i64 z).wf = true := by
  match cs, hl with
  | [c0, c1], _ =>
    obtain ⟨z0, z1, m0, _, _, g0, g1⟩ := trod_struct2 Try.underlying29 h
    simp only [cInt7] at g0 g1
    obtain ⟨a, rfl, wa⟩ := one_int7 (by simpa using g0)
    obtain ⟨b, rfl, wb⟩ := one_int7 (by simpa using g1)
    refine ⟨(a, b), rfl, fun z hz => ?_⟩
    simp only [fP, List.mem_cons, List.not_mem_nil, or_false] at hz
    rcases hz with rfl | rfl <;> assumption
theorem elemE (n : Nat) (cs : List Value) (y : DataW H × List MemPlace) (hl : cs.length = 3) (h : DataW.trod enc Try.prog w base spare held n 36 cs = some y) : ∃ x : T3, cs = (fE x).map (Value.int .i64) ∧ ∀ z ∈ fE x, (Lit.int .i64 z).wf = true := by
  match cs, hl with
  | [c0, c1, c2], _ =>
    obtain ⟨z0, z1, m0, _, _, g0, g1⟩ := trod_struct2 Try.underlying36 h
    simp only [cInt7, cPrefix7] at g0 g1
    obtain ⟨⟨a, b⟩, e, wp⟩ := elemP m0 [c0, c1] _ rfl (by simpa using g0)
    obtain ⟨v, rfl, wv⟩ := one_int7 (by simpa using g1)
    simp only [fP, List.map_cons, List.map_nil, List.cons.injEq, and_true] at e
    obtain ⟨rfl, rfl⟩ := e
    refine ⟨((a, b), v), rfl, fun z hz => ?_⟩
    simp only [fE, List.mem_cons, List.not_mem_nil, or_false] at hz
    rcases hz with rfl | rfl | rfl
    · exact wp _ (by simp [fP])
    · exact wp _ (by simp [fP])
    · exact wv
theorem array3 {α : Type} {cs : Array α} (h : cs.size = 3) : ∃ c0 c1 c2, cs = #[c0, c1, c2] := by
  obtain ⟨l⟩ := cs
  match l, h with
  | [c0, c1, c2], _ => exact ⟨c0, c1, c2, rfl⟩
theorem open_entry {r : Reach} {b0 : Nat} {u : Value} {d : DataW H} {q : List MemPlace} (hv : Value.okWide Try.prog w r b0 36 u) (h : DataW.Trod enc Try.prog w base spare held 36 u d q) :
    ∃ a n v : Int, u = .agg #[.int .i64 a, .int .i64 n, .int .i64 v] ∧ (Lit.int .i64 a).wf = true ∧ (Lit.int .i64 n).wf = true ∧ (Lit.int .i64 v).wf = true := by
  obtain ⟨cs, rfl, hsz⟩ := okWide_struct Try.underlying36 hv
  obtain ⟨c0, c1, c2, rfl⟩ := array3 (hsz.trans cEntry7)
  obtain ⟨fuel, hf⟩ := h
  obtain ⟨⟨⟨a, n⟩, v⟩, e, hw⟩ := elemE fuel [c0, c1, c2] _ rfl (by simpa [Value.cells] using hf)
  simp only [fE, List.map_cons, List.map_nil, List.cons.injEq, and_true] at e
  obtain ⟨rfl, rfl, rfl⟩ := e
  exact ⟨a, n, v, rfl, hw _ (by simp [fE]), hw _ (by simp [fE]), hw _ (by simp [fE])⟩
/-- what is to be done: a kind, a value, a prefix -/
structure Op7 where
  kind : Int
  value : Int
  p : P2
def fO (o : Op7) : List Int := [o.kind, o.value, o.p.1, o.p.2]
theorem fO_len (o : Op7) : (fO o).length = 4 := rfl
theorem elemO (n : Nat) (cs : List Value) (y : DataW H × List MemPlace) (hl : cs.length = 4) (h : DataW.trod enc Try.prog w base spare held n 31 cs = some y) : ∃ x : Op7, cs = (fO x).map (Value.int .i64) ∧ ∀ z ∈ fO x, (Lit.int .i64 z).wf = true := by
  match cs, hl with
  | [c0, c1, c2, c3], _ =>
    obtain ⟨z0, z1, z2, m0, _, _, g0, g1, g2⟩ := Go.Deep.trod_struct3 Try.underlying31 h
    simp only [cInt7, cPrefix7] at g0 g1 g2
    obtain ⟨k, rfl, wk⟩ := one_int7 (by simpa using g0)
    obtain ⟨v, rfl, wv⟩ := one_int7 (by simpa using g1)
    obtain ⟨⟨a, b⟩, e, wp⟩ := elemP m0 [c2, c3] _ rfl (by simpa using g2)
    simp only [fP, List.map_cons, List.map_nil, List.cons.injEq, and_true] at e
    obtain ⟨rfl, rfl⟩ := e
    refine ⟨⟨k, v, (a, b)⟩, rfl, fun z hz => ?_⟩
    simp only [fO, List.mem_cons, List.not_mem_nil, or_false] at hz
    rcases hz with rfl | rfl | rfl | rfl
    · exact wk
    · exact wv
    · exact wp _ (by simp [fP])
    · exact wp _ (by simp [fP])
end
end Go.Proofs.Ytlgldoggnlcbkaa
