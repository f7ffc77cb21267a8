/- A set of places (a map whose keys are structs of ints, its elements structs of nothing): made, looked up in, stored into. -/
import Derived.Test.YtihgpllbgliplaaConfMath
import Derived.Test.YtihgpllbgliplaaRds
import Derived.Maps.RangeWalk
import Derived.DeepKeys4
namespace Go.Proofs.Ytihgpllbgliplaa
open Go.ChangeShapes Go.WideShapes Go.ChangeAt Go.RowKit Go.Maps Pk Cf R
set_option linter.unusedVariables false
set_option linter.unusedSimpArgs false

/-- what two rules that are alike have in common -/
structure Place where
  a : Int
  n : Int
  i : Int
  p : Int
  deriving DecidableEq
def placeOf (r : Rl) : Place := ⟨r.a, r.n, r.i, r.p⟩
theorem alike_place (r q : Rl) : alike r q = decide (placeOf r = placeOf q) := by
  rw [Bool.eq_iff_iff]
  simp only [alike, likeB, placeOf, Place.mk.injEq, Bool.and_eq_true, decide_eq_true_eq, beq_iff_eq]
  try omega
def Wpl (e : Place) : Prop := (Lit.int .i64 e.a).wf = true ∧ (Lit.int .i64 e.n).wf = true ∧ (Lit.int .i64 e.i).wf = true ∧ (Lit.int .i64 e.p).wf = true
abbrev valP (e : Place) : Value := .agg #[.int .i64 e.a, .int .i64 e.n, .int .i64 e.i, .int .i64 e.p]
def klP (e : Place) : Lit := .string (keyBytes [.int .i64 e.a, .int .i64 e.n, .int .i64 e.i, .int .i64 e.p])
theorem laidOut12 : laidOutB Try.prog = true := by kernel_rfl
theorem lawPl : Keyed Try.prog 89 := Keyed.of_law (deep_law_laid laidOut12 (m := 4) (by omega) (of_decide_eq_true (by kernel_rfl)) (by kernel_rfl) (by rw [Try.underlying89]))
theorem cI : Try.prog.cellsOf 3 = 1 := by kernel_rfl
theorem cPf : Try.prog.cellsOf 58 = 2 := by kernel_rfl
theorem cPl : Try.prog.cellsOf 89 = 4 := by kernel_rfl
theorem keyL_int (d : Nat) {n : Int} (h : (Lit.int .i64 n).wf = true) : Try.prog.keyLits (d + 1) 3 [.int .i64 n] = some [.int .i64 n] := by
  unfold Program.keyLits
  rw [Try.underlying3]
  simp [h]
theorem keyL_prefix (d : Nat) {a n : Int} (ha : (Lit.int .i64 a).wf = true) (hn : (Lit.int .i64 n).wf = true) : Try.prog.keyLits (d + 2) 58 [.int .i64 a, .int .i64 n] = some [.int .i64 a, .int .i64 n] := by
  unfold Program.keyLits
  rw [Try.underlying58]
  simp [cI, cPf, keyL_int _ ha, keyL_int _ hn]
theorem keyL_place (d : Nat) {e : Place} (h : Wpl e) : Try.prog.keyLits (d + 3) 89 [.int .i64 e.a, .int .i64 e.n, .int .i64 e.i, .int .i64 e.p] = some [.int .i64 e.a, .int .i64 e.n, .int .i64 e.i, .int .i64 e.p] := by
  unfold Program.keyLits
  rw [Try.underlying89]
  simp [cI, cPf, cPl, keyL_prefix _ h.1 h.2.1, keyL_int _ h.2.2.1, keyL_int _ h.2.2.2]
theorem keyTypePl : Try.prog.keyType 89 = true := by kernel_rfl
theorem types_size3 : ∃ d, Try.prog.types.size + 1 = d + 3 := ⟨Try.prog.types.size - 2, by have : (3 : Nat) ≤ Try.prog.types.size := of_decide_eq_true (by kernel_rfl); omega⟩
set_option maxRecDepth 100000 in
theorem keyP_mk {e : Place} (h : Wpl e) : keyOf Try.prog 89 (valP e) = some (klP e) := by
  unfold keyOf
  rw [Try.underlying89]
  have hf : (valP e).formed Try.prog 89 = true := by simp [Value.formed, Try.underlying89, cPl]
  obtain ⟨d, hd⟩ := types_size3
  simp only [keyTypePl, hf, Bool.and_self, if_true]
  rw [hd, show (valP e).cells.toList = [.int .i64 e.a, .int .i64 e.n, .int .i64 e.i, .int .i64 e.p] from rfl, keyL_place _ h]
  rfl
theorem klP_inj {e o : Place} (he : Wpl e) (ho : Wpl o) (h : klP e = klP o) : e = o := by
  have h1 := keyP_mk he
  rw [h] at h1
  have h2 := lawPl.inj h1 (keyP_mk ho)
  simp only [valP, Value.agg.injEq, Array.mk.injEq, List.cons.injEq, Value.int.injEq, true_and, and_true] at h2
  obtain ⟨a, n, i, p⟩ := e
  obtain ⟨b, m, j, q⟩ := o
  simp only at h2
  rw [Place.mk.injEq]
  exact h2
/-- how an element reads: a struct of nothing -/
def unitR : Value → Option (DataW Unit × List MemPlace)
  | .agg cs => if cs.size = 0 then some (.agg [], []) else none
  | _ => none
theorem unitR_mk : unitR (.agg #[]) = some (.agg [], []) := rfl
theorem unitR_inv {v : Value} {z : DataW Unit × List MemPlace} (h : unitR v = some z) : v = .agg #[] := by
  unfold unitR at h
  split at h
  · rename_i cs
    split at h
    · rename_i hc
      rw [Array.eq_empty_of_size_eq_zero hc]
    · cases h
  · cases h
/-- block b of w is a map whose keys are the places S -/
def Seen (w : World) (b : Nat) (S : List Place) : Prop := ∃ D : DataW Unit, w.ownsMap Try.prog 89 unitR b S.length D ∧ Tidy D ∧ ∀ e, Wpl e → Maps.has D (klP e) = decide (e ∈ S)
section
variable {w w' : World} {b : Nat} {S : List Place}
theorem Seen.made (w : World) : Seen (w.alloc (.map #[] 0)) w.heap.size [] := ⟨_, World.ownsMap_made w Try.prog 89 _, tidy_empty, fun _ _ => by simp [Maps.has]⟩
theorem Seen.lt (h : Seen w b S) : b < w.heap.size := by obtain ⟨D, h, _⟩ := h; exact h.lt
theorem Seen.later (h : Seen w b S) (hb : Below w.heap.size w w') : Seen w' b S := by
  obtain ⟨D, ⟨es, clock, hbk, r⟩, hr⟩ := h
  exact ⟨D, ⟨es, clock, (hb.block b (Array.getElem?_eq_some_iff.1 hbk).1).trans hbk, r⟩, hr⟩
theorem zeroUnit (w : World) : (zeroValue 90).run Try.prog w = .ok (.agg #[]) w := by kernel_rfl
set_option maxRecDepth 100000 in
/-- '_, is := m[k]' -/
theorem Seen.look_ok (h : Seen w b S) {e : Place} (he : Wpl e) : (Instr.lookup 87 (.map (some b)) (valP e) true).run Try.prog w = .ok (.tuple #[.agg #[], .bool (decide (e ∈ S))]) w := by
  obtain ⟨D, ho, ht, hh⟩ := h
  obtain ⟨v, ps, hrun, hv⟩ := ho.look_ok lawPl Try.underlying87 (zeroUnit w) unitR_mk (keyP_mk he)
  rw [hrun, hh e he, unitR_inv hv]
theorem Seen.store (h : Seen w b S) {e : Place} (he : Wpl e) (hl : S.length < maxLen) :
    ∃ w', (Instr.mapUpdate 87 (.map (some b)) (valP e) (.agg #[])).run Try.prog w = .ok () w' ∧ Seen w' b (S ++ [e]) ∧ w.grownBy w' (some b) := by
  obtain ⟨D, ho, ht, hh⟩ := h
  obtain ⟨w', hrun, h1, h2⟩ := ho.update lawPl Try.underlying87 hl (keyP_mk he) unitR_mk
  have hk : WideAt.IsKeyLit (klP e) := trivial
  refine ⟨w', hrun, ⟨_, by rw [List.length_append]; exact h1, ht.put hk _, fun o ho => ?_⟩, h2⟩
  by_cases e1 : o = e
  · subst e1; rw [has_put_same ht.isMap hk]; simp
  · rw [has_put_other (fun g => e1 (klP_inj ho he g)), hh o ho]; simp [e1]
end
theorem wpList_store_seen {w : World} {ops : Array Oper} {rest : List Oper} {o : Oper} {a : Act} {Q : Exit → Act → World → Prop} (hg : o.guard = none) (mm x v : Operand) (hop : o.op = Op.mapUpdate 87 mm x v) {b : Nat} {S : List Place} (hm : a.eval mm = .map (some b)) (h : Seen w b S)
    {k0 k1 k2 k3 : Int} (hx : a.eval x = .agg #[.int .i64 k0, .int .i64 k1, .int .i64 k2, .int .i64 k3]) (hv : a.eval v = .agg #[]) (hk : Wpl ⟨k0, k1, k2, k3⟩) (hl : S.length < maxLen)
    (hK : ∀ w', Seen w' b (S ++ [⟨k0, k1, k2, k3⟩]) → w.grownBy w' (some b) → wpList Try.prog ops Q rest (a.put o.dst undef) w') :
    wpList Try.prog ops Q (o :: rest) a w := by
  refine wpList_plain hg fun K' hK' => ?_
  obtain ⟨w', hrun, r1, r2⟩ := h.store (e := ⟨k0, k1, k2, k3⟩) hk hl
  unfold Oper.wp
  simp [execOp, hop, hm, hx, hv, hrun, Result.andThen]
  exact hK' _ _ (hK w' r1 r2)
end Go.Proofs.Ytihgpllbgliplaa
