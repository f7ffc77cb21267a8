/-
  NARROWER THAN 'FOR EVERY INPUT', by the rows' own cells (each row's printed sentence says how): MsgTells: laid · MsgGets: laid · MsgBack: laid · MsgShort: laid · MsgKinds: laid · MsgOther: laid.
  DERIVED. THE GIVEN ROWS OF THIS SEAT. 6 by the template 'for every input the law returns true; each argument reads behind the call as it read before'; 0 by the template 'total and deterministic' (their statements: YtejaeidmamlkbaaDoorTotals.lean).
  GIVEN WITH THE SEED: the statements are not yours to turn. If you find one false, say at which input.
  Laid BY PROGRAM, IN A SANDBOX (cutbox-rows.mjs): the forced cells as the released guide's own fill.sh prints them over the translation 0bb2ecaf5ff18ab4… (all of the seat's roots in one cut). By AI agents, Wed Nov 11 2026. No macro, syntax, notation, axiom, sorry.
-/
import Derived.Test.YtejaeidmamlkbaaDoorChecked
import GoSem.Claim
import GoSem.ClaimJoined
import GoSem.ClaimMapViews
import Derived.JoinedTies
import Derived.KernelRfl
namespace Go.Proofs.YtejaeidmamlkbaaDoor
/- THE CELL 'sum', in the pinned program and in every row, IS THE sha256 OF THE DUMP (.gsa) THAT YtejaeidmamlkbaaDoorProg.lean LOADS. Nothing in Lean hashes anything: it is a label: what it is worth is what the hold of that sum in a sandbox is worth. -/
noncomputable def Tryd.pinned : Pinned := { name := "ytejaeidmamlkbaadoor", sum := "0bb2ecaf5ff18ab466c8a79be234f723d9684d270f6c910bdc5c05c85ba4ff01", checked := Tryd.checked }
namespace Rows
def none {H : Type} : Left H := { results := [], args := [] }

/- WHAT THE LISTED PACKAGE-LEVEL VARIABLES READ AS WHEN THE CALL BEGINS. Each datum BY PROGRAM (the guide's laid-datum.mjs) off the statement by which the dump's own 'gosem.cut.vars' lays the variable. In a bare row this is a premise. The card (YtejaeidmamlkbaaDoorCards.lean) ties it to the program's text. -/
def laid_wayfinder_msg_rows {H : Type} : DataW H := .agg [.agg [.agg [.lit (.int .i64 1), .lit (.int .i64 1048576)], .agg [.lit (.int .i64 0), .lit (.int .i64 0)], .agg [.lit (.int .i64 0), .lit (.int .i64 0)], .lit (.bool false)], .agg [.agg [.lit (.int .i64 1), .lit (.int .i64 1048576)], .agg [.lit (.int .i64 0), .lit (.int .i64 1048576)], .agg [.lit (.int .i64 0), .lit (.int .i64 4095)], .lit (.bool false)], .agg [.agg [.lit (.int .i64 1), .lit (.int .i64 1048576)], .agg [.lit (.int .i64 1), .lit (.int .i64 1048576)], .agg [.lit (.int .i64 1), .lit (.int .i64 4095)], .lit (.bool true)], .agg [.agg [.lit (.int .i64 1), .lit (.int .i64 1048576)], .agg [.lit (.int .i64 1), .lit (.int .i64 1048576)], .agg [.lit (.int .i64 1), .lit (.int .i64 4095)], .lit (.bool false)], .agg [.agg [.lit (.int .i64 1), .lit (.int .i64 1048576)], .agg [.lit (.int .i64 1), .lit (.int .i64 1048576)], .agg [.lit (.int .i64 1), .lit (.int .i64 4095)], .lit (.bool false)], .agg [.agg [.lit (.int .i64 1), .lit (.int .i64 1048576)], .agg [.lit (.int .i64 1), .lit (.int .i64 1048576)], .agg [.lit (.int .i64 0), .lit (.int .i64 0)], .lit (.bool false)]]

/-- 'wayfinderlaw05.MsgTells': WHATEVER THE INPUT: true; the input reads as it did. -/
def msgTellsSpec : ChangeSpec := { name := "msgTells", fn := fun _ => fun
  | [d] => { results := [.lit (.bool true)], args := [d] }
  | _ => none }
def msgTellsRow : OpenClaim := { program := "ytejaeidmamlkbaadoor", sum := "0bb2ecaf5ff18ab466c8a79be234f723d9684d270f6c910bdc5c05c85ba4ff01", func := "wayfinder/wayfinderlaw05.MsgTells", spec := "msgTells", named := ["wayfinder/msg.rows"], apart := false, laid := [("wayfinder/msg.rows", laid_wayfinder_msg_rows)] }
def MsgTellsSaid : Prop := msgTellsRow.holds Tryd.pinned (OpenSpec.ofChange msgTellsSpec)

/-- ITS FALSE NEIGHBOUR: 'it returns false'. Refute it at one input. -/
def msgTellsWrong : ChangeSpec := { name := "msgTells", fn := fun _ => fun
  | [d] => { results := [.lit (.bool false)], args := [d] }
  | _ => none }
def MsgTellsWrongFalsely : Prop := msgTellsRow.holds Tryd.pinned (OpenSpec.ofChange msgTellsWrong)

/-- 'wayfinderlaw05.MsgGets': WHATEVER THE INPUT: true; the input reads as it did. -/
def msgGetsSpec : ChangeSpec := { name := "msgGets", fn := fun _ => fun
  | [d] => { results := [.lit (.bool true)], args := [d] }
  | _ => none }
def msgGetsRow : OpenClaim := { program := "ytejaeidmamlkbaadoor", sum := "0bb2ecaf5ff18ab466c8a79be234f723d9684d270f6c910bdc5c05c85ba4ff01", func := "wayfinder/wayfinderlaw05.MsgGets", spec := "msgGets", named := ["wayfinder/msg.rows"], apart := false, laid := [("wayfinder/msg.rows", laid_wayfinder_msg_rows)] }
def MsgGetsSaid : Prop := msgGetsRow.holds Tryd.pinned (OpenSpec.ofChange msgGetsSpec)

/-- ITS FALSE NEIGHBOUR: 'it returns false'. Refute it at one input. -/
def msgGetsWrong : ChangeSpec := { name := "msgGets", fn := fun _ => fun
  | [d] => { results := [.lit (.bool false)], args := [d] }
  | _ => none }
def MsgGetsWrongFalsely : Prop := msgGetsRow.holds Tryd.pinned (OpenSpec.ofChange msgGetsWrong)

/-- 'wayfinderlaw05.MsgBack': WHATEVER THE INPUT: true; the input reads as it did. -/
def msgBackSpec : ChangeSpec := { name := "msgBack", fn := fun _ => fun
  | [d1, d2] => { results := [.lit (.bool true)], args := [d1, d2] }
  | _ => none }
def msgBackRow : OpenClaim := { program := "ytejaeidmamlkbaadoor", sum := "0bb2ecaf5ff18ab466c8a79be234f723d9684d270f6c910bdc5c05c85ba4ff01", func := "wayfinder/wayfinderlaw05.MsgBack", spec := "msgBack", named := ["wayfinder/msg.rows"], apart := false, laid := [("wayfinder/msg.rows", laid_wayfinder_msg_rows)] }
def MsgBackSaid : Prop := msgBackRow.holds Tryd.pinned (OpenSpec.ofChange msgBackSpec)

/-- ITS FALSE NEIGHBOUR: 'it returns false'. Refute it at one input. -/
def msgBackWrong : ChangeSpec := { name := "msgBack", fn := fun _ => fun
  | [d1, d2] => { results := [.lit (.bool false)], args := [d1, d2] }
  | _ => none }
def MsgBackWrongFalsely : Prop := msgBackRow.holds Tryd.pinned (OpenSpec.ofChange msgBackWrong)

/-- 'wayfinderlaw05.MsgShort': WHATEVER THE INPUT: true; the input reads as it did. -/
def msgShortSpec : ChangeSpec := { name := "msgShort", fn := fun _ => fun
  | [d1, d2, d3] => { results := [.lit (.bool true)], args := [d1, d2, d3] }
  | _ => none }
def msgShortRow : OpenClaim := { program := "ytejaeidmamlkbaadoor", sum := "0bb2ecaf5ff18ab466c8a79be234f723d9684d270f6c910bdc5c05c85ba4ff01", func := "wayfinder/wayfinderlaw05.MsgShort", spec := "msgShort", named := ["wayfinder/msg.rows"], apart := false, laid := [("wayfinder/msg.rows", laid_wayfinder_msg_rows)] }
def MsgShortSaid : Prop := msgShortRow.holds Tryd.pinned (OpenSpec.ofChange msgShortSpec)

/-- ITS FALSE NEIGHBOUR: 'it returns false'. Refute it at one input. -/
def msgShortWrong : ChangeSpec := { name := "msgShort", fn := fun _ => fun
  | [d1, d2, d3] => { results := [.lit (.bool false)], args := [d1, d2, d3] }
  | _ => none }
def MsgShortWrongFalsely : Prop := msgShortRow.holds Tryd.pinned (OpenSpec.ofChange msgShortWrong)

/-- 'wayfinderlaw05.MsgKinds': WHATEVER THE INPUT: true; the input reads as it did. -/
def msgKindsSpec : ChangeSpec := { name := "msgKinds", fn := fun _ => fun
  | [d1, d2] => { results := [.lit (.bool true)], args := [d1, d2] }
  | _ => none }
def msgKindsRow : OpenClaim := { program := "ytejaeidmamlkbaadoor", sum := "0bb2ecaf5ff18ab466c8a79be234f723d9684d270f6c910bdc5c05c85ba4ff01", func := "wayfinder/wayfinderlaw05.MsgKinds", spec := "msgKinds", named := ["wayfinder/msg.rows"], apart := false, laid := [("wayfinder/msg.rows", laid_wayfinder_msg_rows)] }
def MsgKindsSaid : Prop := msgKindsRow.holds Tryd.pinned (OpenSpec.ofChange msgKindsSpec)

/-- ITS FALSE NEIGHBOUR: 'it returns false'. Refute it at one input. -/
def msgKindsWrong : ChangeSpec := { name := "msgKinds", fn := fun _ => fun
  | [d1, d2] => { results := [.lit (.bool false)], args := [d1, d2] }
  | _ => none }
def MsgKindsWrongFalsely : Prop := msgKindsRow.holds Tryd.pinned (OpenSpec.ofChange msgKindsWrong)

/-- 'wayfinderlaw05.MsgOther': WHATEVER THE INPUT: true; the input reads as it did. -/
def msgOtherSpec : ChangeSpec := { name := "msgOther", fn := fun _ => fun
  | [d1, d2] => { results := [.lit (.bool true)], args := [d1, d2] }
  | _ => none }
def msgOtherRow : OpenClaim := { program := "ytejaeidmamlkbaadoor", sum := "0bb2ecaf5ff18ab466c8a79be234f723d9684d270f6c910bdc5c05c85ba4ff01", func := "wayfinder/wayfinderlaw05.MsgOther", spec := "msgOther", named := ["wayfinder/msg.rows"], apart := false, laid := [("wayfinder/msg.rows", laid_wayfinder_msg_rows)] }
def MsgOtherSaid : Prop := msgOtherRow.holds Tryd.pinned (OpenSpec.ofChange msgOtherSpec)

/-- ITS FALSE NEIGHBOUR: 'it returns false'. Refute it at one input. -/
def msgOtherWrong : ChangeSpec := { name := "msgOther", fn := fun _ => fun
  | [d1, d2] => { results := [.lit (.bool false)], args := [d1, d2] }
  | _ => none }
def MsgOtherWrongFalsely : Prop := msgOtherRow.holds Tryd.pinned (OpenSpec.ofChange msgOtherWrong)

/- THE SECOND FORM. 'bulk': how many values and letters a reading holds, each counted each time it is reached (what is shared counts as often as it is met; a slice's spare places count too). A statement '..UptoSaid' is the law's where the arguments, and the package variables that the reading takes, are together of bulk at most 1048576: NARROWER than '..Said'. Prove '..Said' where nothing that the law and all that it calls make is longer than what came in: it says more and counts as full. Else prove '..UptoSaid'. A law counts once. -/
mutual
def uptoBulk {H : Type} : DataW H → Nat
  | .lit (.string bytes) => bytes.length + 1
  | .lit _ => 1
  | .nil => 1
  | .ptr d => uptoBulk d + 1
  | .slice elems spare => uptoBulkAll elems + uptoBulkAll spare + 1
  | .agg parts => uptoBulkAll parts + 1
  | .iface _ d => uptoBulk d + 1
  | .map entries => uptoBulkEntries entries + 1
  | .held _ => 1
def uptoBulkAll {H : Type} : List (DataW H) → Nat
  | [] => 0
  | d :: r => uptoBulk d + uptoBulkAll r
def uptoBulkEntries {H : Type} : List (Lit × DataW H) → Nat
  | [] => 0
  | x :: r => uptoBulkEntry x + uptoBulkEntries r
def uptoBulkEntry {H : Type} : Lit × DataW H → Nat
  | (.string bytes, d) => bytes.length + uptoBulk d + 1
  | (_, d) => uptoBulk d + 1
 end
def uptoSmall : (H : Type) → List (DataW H) → Bool := fun _ ds => decide (uptoBulkAll ds ≤ 1048576)
def OpenSpec.upto (s : _root_.Go.ChangeSpec) : _root_.Go.OpenSpec := { _root_.Go.OpenSpec.ofChange s with cond := some uptoSmall }

/-- 'wayfinderlaw05.MsgTells', WHERE WHAT IT READS IS OF BULK AT MOST 1048576: true; the input reads as it did. -/
def msgTellsUptoRow : OpenClaim := { program := "ytejaeidmamlkbaadoor", sum := "0bb2ecaf5ff18ab466c8a79be234f723d9684d270f6c910bdc5c05c85ba4ff01", func := "wayfinder/wayfinderlaw05.MsgTells", spec := "msgTells", named := ["wayfinder/msg.rows"], apart := false, laid := [("wayfinder/msg.rows", laid_wayfinder_msg_rows)], narrowed := true }
def MsgTellsUptoSaid : Prop := msgTellsUptoRow.holds Tryd.pinned (OpenSpec.upto msgTellsSpec)

/-- 'wayfinderlaw05.MsgGets', WHERE WHAT IT READS IS OF BULK AT MOST 1048576: true; the input reads as it did. -/
def msgGetsUptoRow : OpenClaim := { program := "ytejaeidmamlkbaadoor", sum := "0bb2ecaf5ff18ab466c8a79be234f723d9684d270f6c910bdc5c05c85ba4ff01", func := "wayfinder/wayfinderlaw05.MsgGets", spec := "msgGets", named := ["wayfinder/msg.rows"], apart := false, laid := [("wayfinder/msg.rows", laid_wayfinder_msg_rows)], narrowed := true }
def MsgGetsUptoSaid : Prop := msgGetsUptoRow.holds Tryd.pinned (OpenSpec.upto msgGetsSpec)

/-- 'wayfinderlaw05.MsgBack', WHERE WHAT IT READS IS OF BULK AT MOST 1048576: true; the input reads as it did. -/
def msgBackUptoRow : OpenClaim := { program := "ytejaeidmamlkbaadoor", sum := "0bb2ecaf5ff18ab466c8a79be234f723d9684d270f6c910bdc5c05c85ba4ff01", func := "wayfinder/wayfinderlaw05.MsgBack", spec := "msgBack", named := ["wayfinder/msg.rows"], apart := false, laid := [("wayfinder/msg.rows", laid_wayfinder_msg_rows)], narrowed := true }
def MsgBackUptoSaid : Prop := msgBackUptoRow.holds Tryd.pinned (OpenSpec.upto msgBackSpec)

/-- 'wayfinderlaw05.MsgShort', WHERE WHAT IT READS IS OF BULK AT MOST 1048576: true; the input reads as it did. -/
def msgShortUptoRow : OpenClaim := { program := "ytejaeidmamlkbaadoor", sum := "0bb2ecaf5ff18ab466c8a79be234f723d9684d270f6c910bdc5c05c85ba4ff01", func := "wayfinder/wayfinderlaw05.MsgShort", spec := "msgShort", named := ["wayfinder/msg.rows"], apart := false, laid := [("wayfinder/msg.rows", laid_wayfinder_msg_rows)], narrowed := true }
def MsgShortUptoSaid : Prop := msgShortUptoRow.holds Tryd.pinned (OpenSpec.upto msgShortSpec)

/-- 'wayfinderlaw05.MsgKinds', WHERE WHAT IT READS IS OF BULK AT MOST 1048576: true; the input reads as it did. -/
def msgKindsUptoRow : OpenClaim := { program := "ytejaeidmamlkbaadoor", sum := "0bb2ecaf5ff18ab466c8a79be234f723d9684d270f6c910bdc5c05c85ba4ff01", func := "wayfinder/wayfinderlaw05.MsgKinds", spec := "msgKinds", named := ["wayfinder/msg.rows"], apart := false, laid := [("wayfinder/msg.rows", laid_wayfinder_msg_rows)], narrowed := true }
def MsgKindsUptoSaid : Prop := msgKindsUptoRow.holds Tryd.pinned (OpenSpec.upto msgKindsSpec)

/-- 'wayfinderlaw05.MsgOther', WHERE WHAT IT READS IS OF BULK AT MOST 1048576: true; the input reads as it did. -/
def msgOtherUptoRow : OpenClaim := { program := "ytejaeidmamlkbaadoor", sum := "0bb2ecaf5ff18ab466c8a79be234f723d9684d270f6c910bdc5c05c85ba4ff01", func := "wayfinder/wayfinderlaw05.MsgOther", spec := "msgOther", named := ["wayfinder/msg.rows"], apart := false, laid := [("wayfinder/msg.rows", laid_wayfinder_msg_rows)], narrowed := true }
def MsgOtherUptoSaid : Prop := msgOtherUptoRow.holds Tryd.pinned (OpenSpec.upto msgOtherSpec)

end Rows
end Go.Proofs.YtejaeidmamlkbaaDoor
