/- What the statements on package wires ask of its functions, as one structure: whatever the code is, it is to be shown of it. And that the chapter's example holds. -/
import Derived.Test.YtoedgnkoahcblaaWireRefs
namespace Go.Proofs.Ytoedgnkoahcblaa
open Go.ChangeShapes Go.WideShapes Go.ChangeAt Go.RowKit O Wi
set_option linter.unusedVariables false
set_option linter.unusedSimpArgs false

/-- u: a block that what came in does not lie in: what is answered does not, either -/
structure WCode : Prop where
  send : ∀ (w : World) {u g' : Option Nat} {a : Option Addr} {c : Nat} {L : List Wr} {p : Wc} {v : Wr}, Wires u w a c L → WireAt g' w p v → Bw 100 300 L → v.b.length ≤ 300 → (∀ k, u = some k → k < w.heap.size) →
    Calls Try.prog 10 #[.slice a L.length c, vW p] w fun e w' => ∃ y k, e = .returned (.tuple #[.slice y (sendL L v).length k, .bool (sendB L)]) ∧ Wires u w' y k (sendL L v) ∧ Below w.heap.size w w'
  fate : ∀ (w : World) {a : Option Addr} {c : Nat} {L : List Wr}, Wires none w a c L → Bw 200 300 L → ∀ at_ f : Int,
    Calls Try.prog 13 #[.slice a L.length c, .int .i64 at_, .int .i64 f] w fun e w' => ∃ y k q, e = .returned (.tuple #[.slice y (fateL L at_ f).length k, vW q, .bool (fateB L at_ f)]) ∧ Wires none w' y k (fateL L at_ f) ∧ WireAt none w' q (fateW L at_ f) ∧ Below w.heap.size w w'
/-- a box of three cells, with what lies in it -/
structure C3 (b : Nat) (x0 x1 x2 : Value) (w : World) : Prop where
  lt : b < w.heap.size
  c0 : w.cell? ⟨b, 0, none⟩ = some x0
  c1 : w.cell? ⟨b, 1, none⟩ = some x1
  c2 : w.cell? ⟨b, 2, none⟩ = some x2
theorem C3.later {b : Nat} {x0 x1 x2 : Value} {w w' : World} (h : C3 b x0 x1 x2 w) (hb : Below w.heap.size w w') : C3 b x0 x1 x2 w' :=
  ⟨Nat.lt_of_lt_of_le h.lt hb.size, (hb.cell (p := ⟨b, 0, none⟩) h.lt).trans h.c0, (hb.cell (p := ⟨b, 1, none⟩) h.lt).trans h.c1, (hb.cell (p := ⟨b, 2, none⟩) h.lt).trans h.c2⟩
theorem C3.new (w : World) (x0 x1 x2 : Value) (t : TypeId) {b : Nat} (hb : w.heap.size = b) : C3 b x0 x1 x2 (w.alloc (.cells #[x0, x1, x2] t)) := by
  subst hb
  obtain ⟨z0, z1, z2⟩ := boxW w x0 x1 x2 t
  exact ⟨by simp, z0, z1, z2⟩
def exV1 : Wr := ⟨1, false, []⟩
def exV2 : Wr := ⟨2, false, []⟩
theorem exS1 : sendL [] exV1 = [exV1] := by decide +kernel
theorem exS2 : sendL [exV1] exV2 = [exV1, exV2] := by decide +kernel
theorem exB1 : sendB [] = true := by decide +kernel
theorem exB2 : sendB [exV1] = true := by decide +kernel
theorem exF : fateL [exV1, exV2] 1 0 = [exV1] := by decide +kernel
theorem exW : fateW [exV1, exV2] 1 0 = exV2 := by decide +kernel
theorem exB : fateB [exV1, exV2] 1 0 = true := by decide +kernel
theorem ex_at (w : World) (s : Int) (hs : (Lit.int .i64 s).wf = true) : WireAt none w ⟨s, false, none, 0, 0⟩ ⟨s, false, []⟩ := ⟨rfl, rfl, hs, rfl, Reads.none _ _, fun _ _ _ e => (nomatch e)⟩
set_option maxRecDepth 100000 in
set_option maxHeartbeats 4000000 in
theorem wawake_any (C : WCode) (w : World) : Calls Try.prog 8 #[] w fun e w' => e = .returned (.bool true) ∧ Below w.heap.size w w' := by
  have c1 : ∀ u, Calls Try.prog 10 #[.slice none 0 0, .agg #[.int .i64 1, .bool false, .slice none 0 0]] u fun e w' => ∃ y k, e = .returned (.tuple #[.slice y 1 k, .bool true]) ∧ Wires none w' y k [exV1] ∧ Below u.heap.size u w' := fun u => by
    have h := C.send u (v := exV1) (Wires.empty none u) (ex_at u 1 (by decide)) ⟨by decide, fun x h => by cases h⟩ (by decide) (fun k e => (nomatch e))
    rw [exS1, exB1] at h
    exact h
  have c2 : ∀ u {y k}, Wires none u y k [exV1] → Calls Try.prog 10 #[.slice y 1 k, .agg #[.int .i64 2, .bool false, .slice none 0 0]] u fun e w' => ∃ y k, e = .returned (.tuple #[.slice y 2 k, .bool true]) ∧ Wires none w' y k [exV1, exV2] ∧ Below u.heap.size u w' := fun u _ _ V => by
    have h := C.send u (v := exV2) V (ex_at u 2 (by decide)) ⟨by decide, fun x h => by rw [List.mem_singleton.1 h]; decide⟩ (by decide) (fun k e => (nomatch e))
    rw [exS2, exB2] at h
    exact h
  have c3 : ∀ u {y k}, Wires none u y k [exV1, exV2] → Calls Try.prog 13 #[.slice y 2 k, .int .i64 1, .int .i64 0] u fun e w' => ∃ y k q, e = .returned (.tuple #[.slice y 1 k, vW q, .bool true]) ∧ Wires none w' y k [exV1] ∧ WireAt none w' q exV2 ∧ Below u.heap.size u w' := fun u _ _ V => by
    have h := C.fate u V ⟨by decide, fun x h => by rcases List.mem_cons.1 h with h | h <;> first | (rw [h]; decide) | (rw [List.mem_singleton.1 h]; decide)⟩ 1 0
    rw [exF, exW, exB] at h
    exact h
  go_enter Try.func8, Try.ntmps8
  go_wp2_with fail
  refine (c1 _).mono ?_
  clear c1
  rintro e w1 ⟨y1, k1, rfl, V1, hB⟩
  go_wp2_with fail
  refine (c2 _ V1).mono ?_
  clear c2 V1
  rintro e w2 ⟨y2, k2, rfl, V2, hb⟩
  replace hB := below_step hB hb
  clear hb
  go_wp2_with fail
  refine (c3 _ V2).mono ?_
  clear c3 V2
  rintro e w3 ⟨y3, k3, ⟨qs, qu, qx, qn, qc⟩, rfl, V3, hat, hb⟩
  obtain rfl : qs = 2 := hat.sw
  clear hat
  replace hB := below_step hB hb
  clear hb
  have K : C3 w3.heap.size (.int .i64 2) (.bool qu) (.slice qx qn qc) (w3.alloc (.cells #[.int .i64 2, .bool qu, .slice qx qn qc] 25)) := C3.new w3 _ _ _ _ rfl
  have hb := below_new w3 (.cells #[.int .i64 2, .bool qu, .slice qx qn qc] 25)
  obtain ⟨b, o, x, m, rfl, hbb, d0, d1, d2, -⟩ := (V3.later hb).at (i := 0) rfl
  replace hB := below_step hB hb
  obtain ⟨-, z0, z1, z2⟩ := K
  simp only [Nat.zero_mul, Nat.add_zero, exV1] at d0 d1 d2
  clear V3 hb hbb
  go_wp2_with fail
  go_ret
  exact ⟨rfl, hB⟩
end Go.Proofs.Ytoedgnkoahcblaa
