/-
  DERIVED. GIVEN WITH THE SEED: THE CARDS: each row of YtklcchmpmilcaaaDoorRows.lean that lists a variable, with what it lists TIED to the program's text (the seventh form; the later family's looks); each row that meets fmt, with fmt's text TOLD by the authors' own Lean function (tested against real Go, not proved from fmt's source: count such statements apart). THE CARD IS WHAT COUNTS. Prove the row's statement (the work); the ties are given (YtklcchmpmilcaaaDoorTie.lean); close each card by the builder's one call (the guide's Derived/Test/ToyasCard.lean, 'card_holds'). Laid BY PROGRAM, IN A SANDBOX (cutbox-door.mjs). By AI agents, Wed Nov 11 2026. No macro, syntax, notation, axiom, sorry.
-/
import Derived.Test.YtklcchmpmilcaaaDoorRows
import GoSem.ClaimSeven
namespace Go.Proofs.YtklcchmpmilcaaaDoor
namespace Rows

/-- THE TIED CARD OF 'wayfinderlaw06.FrameTells'. -/
def frameTellsCard : Claim7 := { stood := { row := frameTellsRow, standIns := [], harness := (true, "89fca54d1b1c7bea9430d3263157b11312abdc1532666bb1f924839e8ae9f569"), looks := false }, kinds := [], alts := [], laidByText := true, laidKinds := [.data], laidTests := true, laidLooks := .later }
def FrameTellsCardSaid : Prop := Claim7.holds Tryd.pinned (.plain (OpenSpec.ofChange frameTellsSpec)) frameTellsCard

/-- THE TIED CARD OF 'wayfinderlaw06.FrameBack'. -/
def frameBackCard : Claim7 := { stood := { row := frameBackRow, standIns := [], harness := (true, "89fca54d1b1c7bea9430d3263157b11312abdc1532666bb1f924839e8ae9f569"), looks := false }, kinds := [], alts := [], laidByText := true, laidKinds := [.data], laidTests := true, laidLooks := .later }
def FrameBackCardSaid : Prop := Claim7.holds Tryd.pinned (.plain (OpenSpec.ofChange frameBackSpec)) frameBackCard

/-- THE TIED CARD OF 'wayfinderlaw06.FrameSpoilt'. -/
def frameSpoiltCard : Claim7 := { stood := { row := frameSpoiltRow, standIns := [], harness := (true, "89fca54d1b1c7bea9430d3263157b11312abdc1532666bb1f924839e8ae9f569"), looks := false }, kinds := [], alts := [], laidByText := true, laidKinds := [.data], laidTests := true, laidLooks := .later }
def FrameSpoiltCardSaid : Prop := Claim7.holds Tryd.pinned (.plain (OpenSpec.ofChange frameSpoiltSpec)) frameSpoiltCard

/-- THE TIED CARD OF 'wayfinderlaw06.FrameSame'. -/
def frameSameCard : Claim7 := { stood := { row := frameSameRow, standIns := [], harness := (true, "89fca54d1b1c7bea9430d3263157b11312abdc1532666bb1f924839e8ae9f569"), looks := false }, kinds := [], alts := [], laidByText := true, laidKinds := [.data], laidTests := true, laidLooks := .later }
def FrameSameCardSaid : Prop := Claim7.holds Tryd.pinned (.plain (OpenSpec.ofChange frameSameSpec)) frameSameCard

/-- THE TIED CARD OF 'wayfinderlaw06.FrameMark'. -/
def frameMarkCard : Claim7 := { stood := { row := frameMarkRow, standIns := [], harness := (true, "89fca54d1b1c7bea9430d3263157b11312abdc1532666bb1f924839e8ae9f569"), looks := false }, kinds := [], alts := [], laidByText := true, laidKinds := [.data], laidTests := true, laidLooks := .later }
def FrameMarkCardSaid : Prop := Claim7.holds Tryd.pinned (.plain (OpenSpec.ofChange frameMarkSpec)) frameMarkCard

/-- THE TIED CARD OF 'wayfinderlaw06.FrameOther'. -/
def frameOtherCard : Claim7 := { stood := { row := frameOtherRow, standIns := [], harness := (true, "89fca54d1b1c7bea9430d3263157b11312abdc1532666bb1f924839e8ae9f569"), looks := false }, kinds := [], alts := [], laidByText := true, laidKinds := [.data], laidTests := true, laidLooks := .later }
def FrameOtherCardSaid : Prop := Claim7.holds Tryd.pinned (.plain (OpenSpec.ofChange frameOtherSpec)) frameOtherCard

/-- THE SECOND FORM's CARD OF 'wayfinderlaw06.FrameTells'. -/
def frameTellsUptoCard : Claim7 := { stood := { row := frameTellsUptoRow, standIns := [], harness := (true, "89fca54d1b1c7bea9430d3263157b11312abdc1532666bb1f924839e8ae9f569"), looks := false }, kinds := [], alts := [], laidByText := true, laidKinds := [.data], laidTests := true, laidLooks := .later }
def FrameTellsUptoCardSaid : Prop := Claim7.holds Tryd.pinned (.plain (OpenSpec.upto frameTellsSpec)) frameTellsUptoCard

/-- THE SECOND FORM's CARD OF 'wayfinderlaw06.FrameBack'. -/
def frameBackUptoCard : Claim7 := { stood := { row := frameBackUptoRow, standIns := [], harness := (true, "89fca54d1b1c7bea9430d3263157b11312abdc1532666bb1f924839e8ae9f569"), looks := false }, kinds := [], alts := [], laidByText := true, laidKinds := [.data], laidTests := true, laidLooks := .later }
def FrameBackUptoCardSaid : Prop := Claim7.holds Tryd.pinned (.plain (OpenSpec.upto frameBackSpec)) frameBackUptoCard

/-- THE SECOND FORM's CARD OF 'wayfinderlaw06.FrameSpoilt'. -/
def frameSpoiltUptoCard : Claim7 := { stood := { row := frameSpoiltUptoRow, standIns := [], harness := (true, "89fca54d1b1c7bea9430d3263157b11312abdc1532666bb1f924839e8ae9f569"), looks := false }, kinds := [], alts := [], laidByText := true, laidKinds := [.data], laidTests := true, laidLooks := .later }
def FrameSpoiltUptoCardSaid : Prop := Claim7.holds Tryd.pinned (.plain (OpenSpec.upto frameSpoiltSpec)) frameSpoiltUptoCard

/-- THE SECOND FORM's CARD OF 'wayfinderlaw06.FrameSame'. -/
def frameSameUptoCard : Claim7 := { stood := { row := frameSameUptoRow, standIns := [], harness := (true, "89fca54d1b1c7bea9430d3263157b11312abdc1532666bb1f924839e8ae9f569"), looks := false }, kinds := [], alts := [], laidByText := true, laidKinds := [.data], laidTests := true, laidLooks := .later }
def FrameSameUptoCardSaid : Prop := Claim7.holds Tryd.pinned (.plain (OpenSpec.upto frameSameSpec)) frameSameUptoCard

/-- THE SECOND FORM's CARD OF 'wayfinderlaw06.FrameMark'. -/
def frameMarkUptoCard : Claim7 := { stood := { row := frameMarkUptoRow, standIns := [], harness := (true, "89fca54d1b1c7bea9430d3263157b11312abdc1532666bb1f924839e8ae9f569"), looks := false }, kinds := [], alts := [], laidByText := true, laidKinds := [.data], laidTests := true, laidLooks := .later }
def FrameMarkUptoCardSaid : Prop := Claim7.holds Tryd.pinned (.plain (OpenSpec.upto frameMarkSpec)) frameMarkUptoCard

/-- THE SECOND FORM's CARD OF 'wayfinderlaw06.FrameOther'. -/
def frameOtherUptoCard : Claim7 := { stood := { row := frameOtherUptoRow, standIns := [], harness := (true, "89fca54d1b1c7bea9430d3263157b11312abdc1532666bb1f924839e8ae9f569"), looks := false }, kinds := [], alts := [], laidByText := true, laidKinds := [.data], laidTests := true, laidLooks := .later }
def FrameOtherUptoCardSaid : Prop := Claim7.holds Tryd.pinned (.plain (OpenSpec.upto frameOtherSpec)) frameOtherUptoCard
end Rows
end Go.Proofs.YtklcchmpmilcaaaDoor
