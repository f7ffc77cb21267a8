/- The chapter's example holds: what the statements on package packet begin with. -/
import Derived.Test.YtgpopdincipnaaaDoorPktPut
namespace Go.Proofs.YtgpopdincipnaaaDoor
open Go.ChangeShapes Go.WideShapes Go.ChangeAt Go.RowKit O
set_option linter.unusedVariables false

theorem w5_mk {i s d t g : Int} (h0 : (Lit.int .i64 i).wf = true) (h1 : (Lit.int .i64 s).wf = true) (h2 : (Lit.int .i64 d).wf = true) (h3 : (Lit.int .i64 t).wf = true) (h4 : (Lit.int .i64 g).wf = true) : W5 i s d t g := by
  intro z hz
  simp only [List.mem_cons, List.not_mem_nil, or_false] at hz
  rcases hz with rfl | rfl | rfl | rfl | rfl <;> assumption
theorem w12345 : W5 1 2 3 4 5 := by unfold W5; decide
set_option maxHeartbeats 1000000 in
theorem awake_any (w : World) (T : Tab w) :
    Calls Tryd.prog 9 #[] w fun e w' => e = .returned (.bool true) ∧ Below w.heap.size w w' := by
  have hL : pputL 1 2 3 4 5 = [0, 0, 0, 1, 0, 0, 0, 2, 0, 0, 0, 3, 0, 4, 0, 5, 255, 240] := by decide +kernel
  have hE : pputE 1 2 3 4 5 = 0 := by decide +kernel
  have c := pput_any 1 2 3 4 5 w12345 w T
  rw [hL, hE] at c
  clear hL hE
  go_enter Tryd.func9, Tryd.ntmps9
  go_wp2_with fail
  refine c.mono ?_
  rintro e w1 ⟨a, k, rfl, R, hb⟩
  obtain ⟨b, o, rfl, _, hc⟩ := R.cells (by simp)
  have h13 : w1.cell? ⟨b, o + 13, none⟩ = some (.int .u8 4) := hc 13 (by simp)
  have h16 : w1.cell? ⟨b, o + 16, none⟩ = some (.int .u8 255) := hc 16 (by simp)
  have h17 : w1.cell? ⟨b, o + 17, none⟩ = some (.int .u8 240) := hc 17 (by simp)
  clear hc R
  go_wp2_with fail
  go_ret
  exact ⟨rfl, hb⟩
end Go.Proofs.YtgpopdincipnaaaDoor
