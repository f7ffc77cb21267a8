/- Tables, slices of rules, and a rule, that came in as arguments, opened. -/
import Derived.Test.YtinmhjgnapbkmaaTabMem
import Derived.Lib.SmallJoins
import Derived.Deep.Strs
namespace Go.Proofs.Ytinmhjgnapbkmaa
open Go.ChangeShapes Go.WideShapes Go.ChangeAt Go.RowKit Pk Tb
set_option linter.unusedVariables false
set_option linter.unusedSimpArgs false

theorem cInt8 : Try.prog.cellsOf 3 = 1 := by kernel_rfl
theorem cPrefix8 : Try.prog.cellsOf 31 = 2 := by kernel_rfl
theorem cAction8 : Try.prog.cellsOf 33 = 2 := by kernel_rfl
theorem cRule8 : Try.prog.cellsOf 35 = 6 := by kernel_rfl
section
variable {H : Type} {enc : TypeId × Value → H} {w : World} {base : Nat} {spare : Nat → Bool} {held : Bool}
theorem one_int8 {n : Nat} {c : Value} {x : DataW H × List MemPlace} (h : DataW.trod enc Try.prog w base spare held n 3 [c] = some x) : ∃ a : Int, c = .int .i64 a ∧ (Lit.int .i64 a).wf = true := by
  obtain ⟨a, e, _, hw⟩ := DataW.trod_int Try.underlying3 h
  exact ⟨a, by simpa using e, hw⟩
theorem elemR (n : Nat) (cs : List Value) (y : DataW H × List MemPlace) (hl : cs.length = 6) (h : DataW.trod enc Try.prog w base spare held n 35 cs = some y) : ∃ x : Rl, cs = (fR x).map (Value.int .i64) ∧ ∀ z ∈ fR x, (Lit.int .i64 z).wf = true := by
  match cs, hl with
  | [c0, c1, c2, c3, c4, c5], _ =>
    obtain ⟨y0, y1, y2, y3, m, _, _, h0, h1, h2, h3⟩ := Go.Joins.trod_struct4 Try.underlying35 h
    simp only [cPrefix8, cAction8, cInt8] at h0 h1 h2 h3
    obtain ⟨z0, z1, m0, _, _, g0, g1⟩ := trod_struct2 Try.underlying31 h0
    obtain ⟨z4, z5, m4, _, _, g4, g5⟩ := trod_struct2 Try.underlying33 h3
    simp only [cInt8] at g0 g1 g4 g5
    obtain ⟨a, rfl, wa⟩ := one_int8 (by simpa using g0)
    obtain ⟨k, rfl, wn⟩ := one_int8 (by simpa using g1)
    obtain ⟨i, rfl, wi⟩ := one_int8 (by simpa using h1)
    obtain ⟨q, rfl, wq⟩ := one_int8 (by simpa using h2)
    obtain ⟨e, rfl, wk⟩ := one_int8 (by simpa using g4)
    obtain ⟨t, rfl, wt⟩ := one_int8 (by simpa using g5)
    refine ⟨⟨a, k, i, q, e, t⟩, rfl, fun z hz => ?_⟩
    simp only [fR, List.mem_cons, List.not_mem_nil, or_false] at hz
    rcases hz with rfl | rfl | rfl | rfl | rfl | rfl <;> assumption
theorem array6 {α : Type} {cs : Array α} (h : cs.size = 6) : ∃ c0 c1 c2 c3 c4 c5, cs = #[c0, c1, c2, c3, c4, c5] := by
  obtain ⟨l⟩ := cs
  match l, h with
  | [c0, c1, c2, c3, c4, c5], _ => exact ⟨c0, c1, c2, c3, c4, c5, rfl⟩
theorem open_rule {r : Reach} {b0 : Nat} {u : Value} {d : DataW H} {q : List MemPlace} (hv : Value.okWide Try.prog w r b0 35 u) (h : DataW.Trod enc Try.prog w base spare held 35 u d q) :
    ∃ a n i q k t : Int, u = .agg #[.int .i64 a, .int .i64 n, .int .i64 i, .int .i64 q, .int .i64 k, .int .i64 t] ∧ (Lit.int .i64 a).wf = true ∧ (Lit.int .i64 n).wf = true ∧ (Lit.int .i64 i).wf = true ∧ (Lit.int .i64 q).wf = true ∧ (Lit.int .i64 k).wf = true ∧ (Lit.int .i64 t).wf = true := by
  obtain ⟨cs, rfl, hsz⟩ := okWide_struct Try.underlying35 hv
  obtain ⟨c0, c1, c2, c3, c4, c5, rfl⟩ := array6 (hsz.trans cRule8)
  obtain ⟨fuel, hf⟩ := h
  obtain ⟨⟨a, n, i, q, k, t⟩, e, hw⟩ := elemR fuel [c0, c1, c2, c3, c4, c5] _ rfl (by simpa [Value.cells] using hf)
  simp only [fR, List.map_cons, List.map_nil, List.cons.injEq, and_true] at e
  obtain ⟨rfl, rfl, rfl, rfl, rfl, rfl⟩ := e
  exact ⟨a, n, i, q, k, t, rfl, hw _ (by simp [fR]), hw _ (by simp [fR]), hw _ (by simp [fR]), hw _ (by simp [fR]), hw _ (by simp [fR]), hw _ (by simp [fR])⟩
theorem all2_map {α β γ : Type} {P : β → γ → Prop} {f : α → β} {g : α → γ} : ∀ {l : List α}, (∀ x ∈ l, P (f x) (g x)) → All2 P (l.map f) (l.map g)
  | [], _ => .nil
  | x :: l, h => .cons (h x List.mem_cons_self) (all2_map fun y hy => h y (List.mem_cons_of_mem _ hy))
theorem elemV (hs : ∀ b, spare b = true) (n : Nat) (cs : List Value) (y : DataW H × List MemPlace) (hl : cs.length = 2) (h : DataW.trod enc Try.prog w base spare true n 43 cs = some y) : ∃ (p : Vc) (v : Vr), cs = fV p ∧ VerAt 0 none w p v := by
  match cs, hl with
  | [c0, c1], _ =>
    obtain ⟨z0, z1, m0, _, _, g0, g1⟩ := trod_struct2 Try.underlying43 h
    have cSl : Try.prog.cellsOf 22 = 1 := by kernel_rfl
    simp only [cInt8, cSl] at g0 g1
    obtain ⟨t, rfl, wt⟩ := one_int8 (by simpa using g0)
    have g2 : DataW.trod enc Try.prog w base spare true m0 22 [c1] = some z1 := by simpa using g1
    have hsl : ∃ x k c, c1 = .slice x k c := by
      rcases Go.Deep.open_slice Try.underlying22 g2 with ⟨h0, _⟩ | ⟨x, len, cap, m, n, D, Pl, hcs, _⟩
      · simp only [List.cons.injEq, and_true] at h0
        exact ⟨_, _, _, h0⟩
      · simp only [List.cons.injEq, and_true] at hcs
        exact ⟨_, _, _, hcs⟩
    obtain ⟨x, k, c, rfl⟩ := hsl
    obtain ⟨l, rfl, R⟩ := rds_of_trod Try.underlying22 (by kernel_rfl) hs (by decide) fR_len elemR g2
    refine ⟨⟨t, x, l.length, c⟩, ⟨t, l⟩, rfl, rfl, wt, rfl, R, fun _ _ _ => Nat.zero_le _, fun y hy hne => ?_, fun _ _ _ e => by cases e⟩
    obtain ⟨b, o, e, hlt, -⟩ := R.cells hne
    rw [show x = some y from hy] at e
    cases e
    exact hlt
theorem vers_of_trod {fuel : Nat} {a0 : Option Addr} {n0 c0 : Nat} {d : DataW H × List MemPlace} (hs : ∀ b, spare b = true)
    (h : DataW.trod enc Try.prog w base spare true fuel 23 [.slice a0 n0 c0] = some d) : ∃ l : List Vr, n0 = l.length ∧ Vers 0 w a0 c0 l := by
  have hce : Try.prog.cellsOf 43 = 2 := by kernel_rfl
  rcases Go.Deep.open_slice Try.underlying23 h with ⟨h0, _⟩ | ⟨x, len, cap, m, n, D, Pl, hcs, hb, hl, hmx, hm, _, hx⟩
  · simp only [List.cons.injEq, Value.slice.injEq, and_true] at h0
    obtain ⟨rfl, rfl, rfl⟩ := h0
    exact ⟨[], rfl, Vers.empty 0 w⟩
  · simp only [List.cons.injEq, Value.slice.injEq, and_true] at hcs
    obtain ⟨rfl, rfl, rfl⟩ := hcs
    rw [hs] at hm
    have each : ∀ i, i < n0 → ∃ q : Vc × Vr, VerAt 0 none w q.1 q.2 ∧ ∀ j y, (fV q.1)[j]? = some y → w.cell? (x.add (i * 2 + j)) = some y := by
      intro i hi
      obtain ⟨cs', h1, h2⟩ := hx i (by simp at hm; omega)
      rw [hce] at h1
      obtain ⟨_, hlen, hcell⟩ := World.cells?_some h1
      obtain ⟨p, v, rfl, hv⟩ := elemV hs n cs' _ hlen h2
      refine ⟨(p, v), hv, fun j y hy => ?_⟩
      have hj : j < 2 := by rw [← fV_len p]; exact (List.getElem?_eq_some_iff.1 hy).1
      have e0 := hcell j hj
      rw [Go.Deep.add_add] at e0
      rw [e0]
      exact hy
    rcases Nat.eq_zero_or_pos n0 with hz | hz
    · subst hz
      exact ⟨[], rfl, [], ⟨by simp, hmx, fun h => (nomatch h), fun h => absurd rfl h⟩, fun _ _ _ => Nat.zero_le _, .nil⟩
    · obtain ⟨q, hq⟩ : ∃ q : Nat → Vc × Vr, ∀ i, i < n0 → VerAt 0 none w (q i).1 (q i).2 ∧ ∀ j y, (fV (q i).1)[j]? = some y → w.cell? (x.add (i * 2 + j)) = some y := by
        refine ⟨fun i => if h : i < n0 then (each i h).choose else (each 0 hz).choose, fun i hi => ?_⟩
        simp only [dif_pos hi]
        exact (each i hi).choose_spec
      refine ⟨(List.range n0).map fun i => (q i).2, by simp, (List.range n0).map fun i => (q i).1, ⟨by simpa using hl, hmx, fun h => (nomatch h), fun _ => ?_⟩, fun _ _ _ => Nat.zero_le _, all2_map fun i hi => (hq i (List.mem_range.1 hi)).1⟩
      obtain ⟨b, o, s⟩ := x
      have hc := (hq 0 hz).2 0 _ rfl
      have hs : s = Option.none := by simpa [Addr.add] using World.cell?_spot hc
      subst hs
      refine ⟨b, o, rfl, ?_, fun i x' hx' j y' hy' => ?_⟩
      · have := World.block_lt_of_cell? w _ hc; simpa [Addr.add] using this
      · have hi : i < n0 := by have := (List.getElem?_eq_some_iff.1 hx').1; simpa using this
        obtain rfl : (q i).1 = x' := by simpa [hi] using hx'
        have := (hq i hi).2 j y' hy'
        rw [Addr.add_lit, ← Nat.add_assoc] at this
        exact this
end
end Go.Proofs.Ytinmhjgnapbkmaa
