/-
  DERIVED. GIVEN WITH THE SEED: THE CARDS: each row of YtjgpojglgfddiaaDoorRows.lean that lists a variable, with what it lists TIED to the program's text (the seventh form; the later family's looks); each row that meets fmt, with fmt's text TOLD by the authors' own Lean function (tested against real Go, not proved from fmt's source: count such statements apart). THE CARD IS WHAT COUNTS. Prove the row's statement (the work); the ties are given (YtjgpojglgfddiaaDoorTie.lean); close each card by the builder's one call (the guide's Derived/Test/ToyasCard.lean, 'card_holds'). Laid BY PROGRAM, IN A SANDBOX (cutbox-door.mjs). By AI agents, Wed Nov 11 2026. No macro, syntax, notation, axiom, sorry.
-/
import Derived.Test.YtjgpojglgfddiaaDoorRows
import GoSem.ClaimSeven
namespace Go.Proofs.YtjgpojglgfddiaaDoor
namespace Rows

/-- THE TIED CARD OF 'classroomlaw4.TreeCheck'. -/
def treeCheckCard : Claim7 := { stood := { row := treeCheckRow, standIns := [], harness := (true, "8fee1945bd4adb616f4655d6f03659a1b133c7e57693815aad0cccbfa7a1f75e"), looks := false }, kinds := [], alts := [], laidByText := true, laidKinds := [.data, .pinned], laidTests := true, laidLooks := .later }
def TreeCheckCardSaid : Prop := Claim7.holds Tryd.pinned (.plain (OpenSpec.ofChange treeCheckSpec)) treeCheckCard

/-- THE TIED CARD OF 'classroomlaw4.TreeBuild'. -/
def treeBuildCard : Claim7 := { stood := { row := treeBuildRow, standIns := [], harness := (true, "8fee1945bd4adb616f4655d6f03659a1b133c7e57693815aad0cccbfa7a1f75e"), looks := false }, kinds := [], alts := [], laidByText := true, laidKinds := [.data, .pinned], laidTests := true, laidLooks := .later }
def TreeBuildCardSaid : Prop := Claim7.holds Tryd.pinned (.plain (OpenSpec.ofChange treeBuildSpec)) treeBuildCard

/-- THE TIED CARD OF 'classroomlaw4.TreeMany'. -/
def treeManyCard : Claim7 := { stood := { row := treeManyRow, standIns := [], harness := (true, "8fee1945bd4adb616f4655d6f03659a1b133c7e57693815aad0cccbfa7a1f75e"), looks := false }, kinds := [], alts := [], laidByText := true, laidKinds := [.data, .pinned], laidTests := true, laidLooks := .later }
def TreeManyCardSaid : Prop := Claim7.holds Tryd.pinned (.plain (OpenSpec.ofChange treeManySpec)) treeManyCard

/-- THE TIED CARD OF 'classroomlaw4.TreeParts'. -/
def treePartsCard : Claim7 := { stood := { row := treePartsRow, standIns := [], harness := (true, "8fee1945bd4adb616f4655d6f03659a1b133c7e57693815aad0cccbfa7a1f75e"), looks := false }, kinds := [], alts := [], laidByText := true, laidKinds := [.data, .pinned], laidTests := true, laidLooks := .later }
def TreePartsCardSaid : Prop := Claim7.holds Tryd.pinned (.plain (OpenSpec.ofChange treePartsSpec)) treePartsCard

/-- THE TIED CARD OF 'classroomlaw4.TreeOverlay'. -/
def treeOverlayCard : Claim7 := { stood := { row := treeOverlayRow, standIns := [], harness := (true, "8fee1945bd4adb616f4655d6f03659a1b133c7e57693815aad0cccbfa7a1f75e"), looks := false }, kinds := [], alts := [], laidByText := true, laidKinds := [.data, .pinned], laidTests := true, laidLooks := .later }
def TreeOverlayCardSaid : Prop := Claim7.holds Tryd.pinned (.plain (OpenSpec.ofChange treeOverlaySpec)) treeOverlayCard

/-- THE TIED CARD OF 'classroomlaw4.TreeDiff'. -/
def treeDiffCard : Claim7 := { stood := { row := treeDiffRow, standIns := [], harness := (true, "8fee1945bd4adb616f4655d6f03659a1b133c7e57693815aad0cccbfa7a1f75e"), looks := false }, kinds := [], alts := [], laidByText := true, laidKinds := [.data, .pinned], laidTests := true, laidLooks := .later }
def TreeDiffCardSaid : Prop := Claim7.holds Tryd.pinned (.plain (OpenSpec.ofChange treeDiffSpec)) treeDiffCard

/-- THE TIED CARD OF 'classroomlaw4.TreePatch'. -/
def treePatchCard : Claim7 := { stood := { row := treePatchRow, standIns := [], harness := (true, "8fee1945bd4adb616f4655d6f03659a1b133c7e57693815aad0cccbfa7a1f75e"), looks := false }, kinds := [], alts := [], laidByText := true, laidKinds := [.data, .pinned], laidTests := true, laidLooks := .later }
def TreePatchCardSaid : Prop := Claim7.holds Tryd.pinned (.plain (OpenSpec.ofChange treePatchSpec)) treePatchCard

/-- THE TIED CARD OF 'classroomlaw4.TreeLayers'. -/
def treeLayersCard : Claim7 := { stood := { row := treeLayersRow, standIns := [], harness := (true, "8fee1945bd4adb616f4655d6f03659a1b133c7e57693815aad0cccbfa7a1f75e"), looks := false }, kinds := [], alts := [], laidByText := true, laidKinds := [.data, .pinned], laidTests := true, laidLooks := .later }
def TreeLayersCardSaid : Prop := Claim7.holds Tryd.pinned (.plain (OpenSpec.ofChange treeLayersSpec)) treeLayersCard

/-- THE SECOND FORM's CARD OF 'classroomlaw4.TreeCheck'. -/
def treeCheckUptoCard : Claim7 := { stood := { row := treeCheckUptoRow, standIns := [], harness := (true, "8fee1945bd4adb616f4655d6f03659a1b133c7e57693815aad0cccbfa7a1f75e"), looks := false }, kinds := [], alts := [], laidByText := true, laidKinds := [.data, .pinned], laidTests := true, laidLooks := .later }
def TreeCheckUptoCardSaid : Prop := Claim7.holds Tryd.pinned (.plain (OpenSpec.upto treeCheckSpec)) treeCheckUptoCard

/-- THE SECOND FORM's CARD OF 'classroomlaw4.TreeBuild'. -/
def treeBuildUptoCard : Claim7 := { stood := { row := treeBuildUptoRow, standIns := [], harness := (true, "8fee1945bd4adb616f4655d6f03659a1b133c7e57693815aad0cccbfa7a1f75e"), looks := false }, kinds := [], alts := [], laidByText := true, laidKinds := [.data, .pinned], laidTests := true, laidLooks := .later }
def TreeBuildUptoCardSaid : Prop := Claim7.holds Tryd.pinned (.plain (OpenSpec.upto treeBuildSpec)) treeBuildUptoCard

/-- THE SECOND FORM's CARD OF 'classroomlaw4.TreeMany'. -/
def treeManyUptoCard : Claim7 := { stood := { row := treeManyUptoRow, standIns := [], harness := (true, "8fee1945bd4adb616f4655d6f03659a1b133c7e57693815aad0cccbfa7a1f75e"), looks := false }, kinds := [], alts := [], laidByText := true, laidKinds := [.data, .pinned], laidTests := true, laidLooks := .later }
def TreeManyUptoCardSaid : Prop := Claim7.holds Tryd.pinned (.plain (OpenSpec.upto treeManySpec)) treeManyUptoCard

/-- THE SECOND FORM's CARD OF 'classroomlaw4.TreeParts'. -/
def treePartsUptoCard : Claim7 := { stood := { row := treePartsUptoRow, standIns := [], harness := (true, "8fee1945bd4adb616f4655d6f03659a1b133c7e57693815aad0cccbfa7a1f75e"), looks := false }, kinds := [], alts := [], laidByText := true, laidKinds := [.data, .pinned], laidTests := true, laidLooks := .later }
def TreePartsUptoCardSaid : Prop := Claim7.holds Tryd.pinned (.plain (OpenSpec.upto treePartsSpec)) treePartsUptoCard

/-- THE SECOND FORM's CARD OF 'classroomlaw4.TreeOverlay'. -/
def treeOverlayUptoCard : Claim7 := { stood := { row := treeOverlayUptoRow, standIns := [], harness := (true, "8fee1945bd4adb616f4655d6f03659a1b133c7e57693815aad0cccbfa7a1f75e"), looks := false }, kinds := [], alts := [], laidByText := true, laidKinds := [.data, .pinned], laidTests := true, laidLooks := .later }
def TreeOverlayUptoCardSaid : Prop := Claim7.holds Tryd.pinned (.plain (OpenSpec.upto treeOverlaySpec)) treeOverlayUptoCard

/-- THE SECOND FORM's CARD OF 'classroomlaw4.TreeDiff'. -/
def treeDiffUptoCard : Claim7 := { stood := { row := treeDiffUptoRow, standIns := [], harness := (true, "8fee1945bd4adb616f4655d6f03659a1b133c7e57693815aad0cccbfa7a1f75e"), looks := false }, kinds := [], alts := [], laidByText := true, laidKinds := [.data, .pinned], laidTests := true, laidLooks := .later }
def TreeDiffUptoCardSaid : Prop := Claim7.holds Tryd.pinned (.plain (OpenSpec.upto treeDiffSpec)) treeDiffUptoCard

/-- THE SECOND FORM's CARD OF 'classroomlaw4.TreePatch'. -/
def treePatchUptoCard : Claim7 := { stood := { row := treePatchUptoRow, standIns := [], harness := (true, "8fee1945bd4adb616f4655d6f03659a1b133c7e57693815aad0cccbfa7a1f75e"), looks := false }, kinds := [], alts := [], laidByText := true, laidKinds := [.data, .pinned], laidTests := true, laidLooks := .later }
def TreePatchUptoCardSaid : Prop := Claim7.holds Tryd.pinned (.plain (OpenSpec.upto treePatchSpec)) treePatchUptoCard

/-- THE SECOND FORM's CARD OF 'classroomlaw4.TreeLayers'. -/
def treeLayersUptoCard : Claim7 := { stood := { row := treeLayersUptoRow, standIns := [], harness := (true, "8fee1945bd4adb616f4655d6f03659a1b133c7e57693815aad0cccbfa7a1f75e"), looks := false }, kinds := [], alts := [], laidByText := true, laidKinds := [.data, .pinned], laidTests := true, laidLooks := .later }
def TreeLayersUptoCardSaid : Prop := Claim7.holds Tryd.pinned (.plain (OpenSpec.upto treeLayersSpec)) treeLayersUptoCard
end Rows
end Go.Proofs.YtjgpojglgfddiaaDoor
