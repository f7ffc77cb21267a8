/- What the code's drop and take do to a trie's memory. -/
import Derived.Test.YtlgldoggnlcbkaaTrieMem
namespace Go.Proofs.Ytlgldoggnlcbkaa
open Go.ChangeShapes Go.WideShapes Go.ChangeAt Go.RowKit Tt
set_option linter.unusedVariables false
set_option linter.unusedSimpArgs false

def Mm.drop (m : Mm) (i : Nat) : Mm := { m.setNode i 0 0 0 false m.free 0 with free := i }
set_option maxRecDepth 100000 in
set_option maxHeartbeats 1000000 in
theorem drop_any {w : World} {B : Nat} {m : Mm} {i : Nat} (h : Has w B (cellOf m)) (hi : i ≤ 1000) :
    Calls Try.prog 23 #[.pointer (some ⟨B, 0, none⟩), .int .i64 (i : Nat)] w fun e w' => e = .returned (.tuple #[]) ∧ Has w' B (cellOf (m.drop i)) ∧ Keeps (only B) w w' := by
  obtain ⟨c0, c1, c2, c3, c4, c5⟩ := h.node hi
  obtain ⟨f0, f1, f2, f3, f4, f5⟩ := h.nodeF hi
  obtain ⟨r0, r1, r2, r3⟩ := h.head
  obtain ⟨g0, g1, g2, g3⟩ := h.headF
  have hi0 : (0 : Int) ≤ (i : Int) := by omega
  have hi1 : (i : Int) < 1001 := by omega
  go_enter Try.func23, Try.ntmps23
  go_wp2_with fail
  go_region
  all_goals go_wp2_with fail
  go_end0
  exact ⟨rfl, ((h.setNode hi 0 0 0 false m.free 0).setFree i).drew, (((((((Keeps.refl _ _).put _ _).put _ _).put _ _).put _ _).put _ _).put _ _).put _ _ |>.drew⟩
def Mm.take (m : Mm) (p : P2) : Mm := { m.setNode m.free p.1 p.2 0 false 0 0 with free := m.kid m.free false }
set_option maxRecDepth 100000 in
set_option maxHeartbeats 1000000 in
theorem take_any {w : World} {B : Nat} {m : Mm} (p0 p1 : Int) (h : Has w B (cellOf m)) (hi : m.free ≤ 1000) :
    Calls Try.prog 40 #[.pointer (some ⟨B, 0, none⟩), .agg #[.int .i64 p0, .int .i64 p1]] w fun e w' => e = .returned (.int .i64 (m.free : Nat)) ∧ Has w' B (cellOf (m.take (p0, p1))) ∧ Keeps (only B) w w' := by
  have hn := below_new w (.cells #[.int .i64 p0, .int .i64 p1] 29)
  have X := Lies.new w [p0, p1] 29 rfl
  have h1 := h.later hn
  have hlt := h.lt
  obtain ⟨c0, c1, c2, c3, c4, c5⟩ := h1.node hi
  obtain ⟨r0, r1, r2, r3⟩ := h1.head
  obtain ⟨g0, g1, g2, g3⟩ := h1.headF
  obtain ⟨x0, x1⟩ := X.two
  have hi0 : (0 : Int) ≤ (m.free : Int) := by omega
  have hi1 : (m.free : Int) < 1001 := by omega
  have h2 := h.setFree (m.kid m.free false)
  have X2 := Lies.new (w.setCell ⟨B, 6007, none⟩ (.int .i64 (m.kid m.free false : Nat))) [p0, p1] 29 (B := w.heap.size) (by simp)
  obtain ⟨y0, y1⟩ := X2.two
  obtain ⟨d0, d1, d2, d3, d4, d5⟩ := h2.node hi
  obtain ⟨f0, f1, f2, f3, f4, f5⟩ := h2.nodeF hi
  go_enter Try.func40, Try.ntmps40
  go_wp2_with fail
  go_region
  all_goals go_wp2_with fail
  go_ret
  exact ⟨rfl, ((h2.setNode (i := m.free) hi p0 p1 0 false 0 0).later (below_new _ _)).drew, (Keeps.after ((((((((Keeps.refl _ _).put _ _).put _ _).put _ _).put _ _).put _ _).put _ _).put _ _) (below_new _ _)).drew⟩
end Go.Proofs.Ytlgldoggnlcbkaa
