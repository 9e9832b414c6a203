/-
  DERIVED. GIVEN WITH THE SEED: THE CARDS: each row of YthcaeofgegfncaaDoorRows.lean that lists a variable, with what it lists TIED to the program's text (the seventh form; the later family's looks); each row that meets fmt, with fmt's text TOLD by the authors' own Lean function (tested against real Go, not proved from fmt's source: count such statements apart). THE CARD IS WHAT COUNTS. Prove the row's statement (the work); the ties are given (YthcaeofgegfncaaDoorTie.lean); close each card by the builder's one call (the guide's Derived/Test/ToyasCard.lean, 'card_holds'). Laid BY PROGRAM, IN A SANDBOX (cutbox-door.mjs). By AI agents, Wed Nov 11 2026. No macro, syntax, notation, axiom, sorry.
-/
import Derived.Test.YthcaeofgegfncaaDoorRows
import GoSem.ClaimSeven
namespace Go.Proofs.YthcaeofgegfncaaDoor
namespace Rows

/-- THE TIED CARD OF 'classroomlaw5.TreecodecEncode'. -/
def treecodecEncodeCard : Claim7 := { stood := { row := treecodecEncodeRow, standIns := [], harness := (true, "2b11d1bf2dab619d2ffdec0569408c96887238bbb8779ed23468987df058c886"), looks := false }, kinds := [], alts := [], laidByText := true, laidKinds := [.data, .pinned], laidTests := true, laidLooks := .later }
def TreecodecEncodeCardSaid : Prop := Claim7.holds Tryd.pinned (.plain (OpenSpec.ofChange treecodecEncodeSpec)) treecodecEncodeCard

/-- THE TIED CARD OF 'classroomlaw5.TreecodecDecode'. -/
def treecodecDecodeCard : Claim7 := { stood := { row := treecodecDecodeRow, standIns := [], harness := (true, "2b11d1bf2dab619d2ffdec0569408c96887238bbb8779ed23468987df058c886"), looks := false }, kinds := [], alts := [], laidByText := true, laidKinds := [.data, .pinned], laidTests := true, laidLooks := .later }
def TreecodecDecodeCardSaid : Prop := Claim7.holds Tryd.pinned (.plain (OpenSpec.ofChange treecodecDecodeSpec)) treecodecDecodeCard

/-- THE TIED CARD OF 'classroomlaw5.TreecodecBack'. -/
def treecodecBackCard : Claim7 := { stood := { row := treecodecBackRow, standIns := [], harness := (true, "2b11d1bf2dab619d2ffdec0569408c96887238bbb8779ed23468987df058c886"), looks := false }, kinds := [], alts := [], laidByText := true, laidKinds := [.data, .pinned], laidTests := true, laidLooks := .later }
def TreecodecBackCardSaid : Prop := Claim7.holds Tryd.pinned (.plain (OpenSpec.ofChange treecodecBackSpec)) treecodecBackCard

/-- THE TIED CARD OF 'classroomlaw5.TreecodecLong'. -/
def treecodecLongCard : Claim7 := { stood := { row := treecodecLongRow, standIns := [], harness := (true, "2b11d1bf2dab619d2ffdec0569408c96887238bbb8779ed23468987df058c886"), looks := false }, kinds := [], alts := [], laidByText := true, laidKinds := [.data, .pinned], laidTests := true, laidLooks := .later }
def TreecodecLongCardSaid : Prop := Claim7.holds Tryd.pinned (.plain (OpenSpec.ofChange treecodecLongSpec)) treecodecLongCard

/-- THE TIED CARD OF 'classroomlaw5.TreecodecSplit'. -/
def treecodecSplitCard : Claim7 := { stood := { row := treecodecSplitRow, standIns := [], harness := (true, "2b11d1bf2dab619d2ffdec0569408c96887238bbb8779ed23468987df058c886"), looks := false }, kinds := [], alts := [], laidByText := true, laidKinds := [.data, .pinned], laidTests := true, laidLooks := .later }
def TreecodecSplitCardSaid : Prop := Claim7.holds Tryd.pinned (.plain (OpenSpec.ofChange treecodecSplitSpec)) treecodecSplitCard

/-- THE SECOND FORM's CARD OF 'classroomlaw5.TreecodecEncode'. -/
def treecodecEncodeUptoCard : Claim7 := { stood := { row := treecodecEncodeUptoRow, standIns := [], harness := (true, "2b11d1bf2dab619d2ffdec0569408c96887238bbb8779ed23468987df058c886"), looks := false }, kinds := [], alts := [], laidByText := true, laidKinds := [.data, .pinned], laidTests := true, laidLooks := .later }
def TreecodecEncodeUptoCardSaid : Prop := Claim7.holds Tryd.pinned (.plain (OpenSpec.upto treecodecEncodeSpec)) treecodecEncodeUptoCard

/-- THE SECOND FORM's CARD OF 'classroomlaw5.TreecodecDecode'. -/
def treecodecDecodeUptoCard : Claim7 := { stood := { row := treecodecDecodeUptoRow, standIns := [], harness := (true, "2b11d1bf2dab619d2ffdec0569408c96887238bbb8779ed23468987df058c886"), looks := false }, kinds := [], alts := [], laidByText := true, laidKinds := [.data, .pinned], laidTests := true, laidLooks := .later }
def TreecodecDecodeUptoCardSaid : Prop := Claim7.holds Tryd.pinned (.plain (OpenSpec.upto treecodecDecodeSpec)) treecodecDecodeUptoCard

/-- THE SECOND FORM's CARD OF 'classroomlaw5.TreecodecBack'. -/
def treecodecBackUptoCard : Claim7 := { stood := { row := treecodecBackUptoRow, standIns := [], harness := (true, "2b11d1bf2dab619d2ffdec0569408c96887238bbb8779ed23468987df058c886"), looks := false }, kinds := [], alts := [], laidByText := true, laidKinds := [.data, .pinned], laidTests := true, laidLooks := .later }
def TreecodecBackUptoCardSaid : Prop := Claim7.holds Tryd.pinned (.plain (OpenSpec.upto treecodecBackSpec)) treecodecBackUptoCard

/-- THE SECOND FORM's CARD OF 'classroomlaw5.TreecodecLong'. -/
def treecodecLongUptoCard : Claim7 := { stood := { row := treecodecLongUptoRow, standIns := [], harness := (true, "2b11d1bf2dab619d2ffdec0569408c96887238bbb8779ed23468987df058c886"), looks := false }, kinds := [], alts := [], laidByText := true, laidKinds := [.data, .pinned], laidTests := true, laidLooks := .later }
def TreecodecLongUptoCardSaid : Prop := Claim7.holds Tryd.pinned (.plain (OpenSpec.upto treecodecLongSpec)) treecodecLongUptoCard

/-- THE SECOND FORM's CARD OF 'classroomlaw5.TreecodecSplit'. -/
def treecodecSplitUptoCard : Claim7 := { stood := { row := treecodecSplitUptoRow, standIns := [], harness := (true, "2b11d1bf2dab619d2ffdec0569408c96887238bbb8779ed23468987df058c886"), looks := false }, kinds := [], alts := [], laidByText := true, laidKinds := [.data, .pinned], laidTests := true, laidLooks := .later }
def TreecodecSplitUptoCardSaid : Prop := Claim7.holds Tryd.pinned (.plain (OpenSpec.upto treecodecSplitSpec)) treecodecSplitUptoCard
end Rows
end Go.Proofs.YthcaeofgegfncaaDoor
