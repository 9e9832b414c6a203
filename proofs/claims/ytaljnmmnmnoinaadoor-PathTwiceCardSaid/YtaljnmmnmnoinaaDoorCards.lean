/-
  DERIVED. GIVEN WITH THE SEED: THE CARDS: each row of YtaljnmmnmnoinaaDoorRows.lean that lists a variable, with what it lists TIED to the program's text (the seventh form; the later family's looks); each row that meets fmt, with fmt's text TOLD by the authors' own Lean function (tested against real Go, not proved from fmt's source: count such statements apart). THE CARD IS WHAT COUNTS. Prove the row's statement (the work); the ties are given (YtaljnmmnmnoinaaDoorTie.lean); close each card by the builder's one call (the guide's Derived/Test/ToyasCard.lean, 'card_holds'). Laid BY PROGRAM, IN A SANDBOX (cutbox-door.mjs). By AI agents, Wed Nov 11 2026. No macro, syntax, notation, axiom, sorry.
-/
import Derived.Test.YtaljnmmnmnoinaaDoorRows
import GoSem.ClaimSeven
namespace Go.Proofs.YtaljnmmnmnoinaaDoor
namespace Rows

/-- THE TIED CARD OF 'classroomlaw3.PathNormalize'. -/
def pathNormalizeCard : Claim7 := { stood := { row := pathNormalizeRow, standIns := [], harness := (true, "3d2791fed959d35b2bc69ca3673604f1206769008226fc04e57f35eb374377f0"), looks := false }, kinds := [], alts := [], laidByText := true, laidKinds := [.data, .pinned], laidTests := true, laidLooks := .later }
def PathNormalizeCardSaid : Prop := Claim7.holds Tryd.pinned (.plain (OpenSpec.ofChange pathNormalizeSpec)) pathNormalizeCard

/-- THE TIED CARD OF 'classroomlaw3.PathLimits'. -/
def pathLimitsCard : Claim7 := { stood := { row := pathLimitsRow, standIns := [], harness := (true, "3d2791fed959d35b2bc69ca3673604f1206769008226fc04e57f35eb374377f0"), looks := false }, kinds := [], alts := [], laidByText := true, laidKinds := [.data, .pinned], laidTests := true, laidLooks := .later }
def PathLimitsCardSaid : Prop := Claim7.holds Tryd.pinned (.plain (OpenSpec.ofChange pathLimitsSpec)) pathLimitsCard

/-- THE TIED CARD OF 'classroomlaw3.PathParts'. -/
def pathPartsCard : Claim7 := { stood := { row := pathPartsRow, standIns := [], harness := (true, "3d2791fed959d35b2bc69ca3673604f1206769008226fc04e57f35eb374377f0"), looks := false }, kinds := [], alts := [], laidByText := true, laidKinds := [.data, .pinned], laidTests := true, laidLooks := .later }
def PathPartsCardSaid : Prop := Claim7.holds Tryd.pinned (.plain (OpenSpec.ofChange pathPartsSpec)) pathPartsCard

/-- THE TIED CARD OF 'classroomlaw3.PathTwice'. -/
def pathTwiceCard : Claim7 := { stood := { row := pathTwiceRow, standIns := [], harness := (true, "3d2791fed959d35b2bc69ca3673604f1206769008226fc04e57f35eb374377f0"), looks := false }, kinds := [], alts := [], laidByText := true, laidKinds := [.data, .pinned], laidTests := true, laidLooks := .later }
def PathTwiceCardSaid : Prop := Claim7.holds Tryd.pinned (.plain (OpenSpec.ofChange pathTwiceSpec)) pathTwiceCard

/-- THE TIED CARD OF 'classroomlaw3.PathUnder'. -/
def pathUnderCard : Claim7 := { stood := { row := pathUnderRow, standIns := [], harness := (true, "3d2791fed959d35b2bc69ca3673604f1206769008226fc04e57f35eb374377f0"), looks := false }, kinds := [], alts := [], laidByText := true, laidKinds := [.data, .pinned], laidTests := true, laidLooks := .later }
def PathUnderCardSaid : Prop := Claim7.holds Tryd.pinned (.plain (OpenSpec.ofChange pathUnderSpec)) pathUnderCard

/-- THE SECOND FORM's CARD OF 'classroomlaw3.PathNormalize'. -/
def pathNormalizeUptoCard : Claim7 := { stood := { row := pathNormalizeUptoRow, standIns := [], harness := (true, "3d2791fed959d35b2bc69ca3673604f1206769008226fc04e57f35eb374377f0"), looks := false }, kinds := [], alts := [], laidByText := true, laidKinds := [.data, .pinned], laidTests := true, laidLooks := .later }
def PathNormalizeUptoCardSaid : Prop := Claim7.holds Tryd.pinned (.plain (OpenSpec.upto pathNormalizeSpec)) pathNormalizeUptoCard

/-- THE SECOND FORM's CARD OF 'classroomlaw3.PathLimits'. -/
def pathLimitsUptoCard : Claim7 := { stood := { row := pathLimitsUptoRow, standIns := [], harness := (true, "3d2791fed959d35b2bc69ca3673604f1206769008226fc04e57f35eb374377f0"), looks := false }, kinds := [], alts := [], laidByText := true, laidKinds := [.data, .pinned], laidTests := true, laidLooks := .later }
def PathLimitsUptoCardSaid : Prop := Claim7.holds Tryd.pinned (.plain (OpenSpec.upto pathLimitsSpec)) pathLimitsUptoCard

/-- THE SECOND FORM's CARD OF 'classroomlaw3.PathParts'. -/
def pathPartsUptoCard : Claim7 := { stood := { row := pathPartsUptoRow, standIns := [], harness := (true, "3d2791fed959d35b2bc69ca3673604f1206769008226fc04e57f35eb374377f0"), looks := false }, kinds := [], alts := [], laidByText := true, laidKinds := [.data, .pinned], laidTests := true, laidLooks := .later }
def PathPartsUptoCardSaid : Prop := Claim7.holds Tryd.pinned (.plain (OpenSpec.upto pathPartsSpec)) pathPartsUptoCard

/-- THE SECOND FORM's CARD OF 'classroomlaw3.PathTwice'. -/
def pathTwiceUptoCard : Claim7 := { stood := { row := pathTwiceUptoRow, standIns := [], harness := (true, "3d2791fed959d35b2bc69ca3673604f1206769008226fc04e57f35eb374377f0"), looks := false }, kinds := [], alts := [], laidByText := true, laidKinds := [.data, .pinned], laidTests := true, laidLooks := .later }
def PathTwiceUptoCardSaid : Prop := Claim7.holds Tryd.pinned (.plain (OpenSpec.upto pathTwiceSpec)) pathTwiceUptoCard

/-- THE SECOND FORM's CARD OF 'classroomlaw3.PathUnder'. -/
def pathUnderUptoCard : Claim7 := { stood := { row := pathUnderUptoRow, standIns := [], harness := (true, "3d2791fed959d35b2bc69ca3673604f1206769008226fc04e57f35eb374377f0"), looks := false }, kinds := [], alts := [], laidByText := true, laidKinds := [.data, .pinned], laidTests := true, laidLooks := .later }
def PathUnderUptoCardSaid : Prop := Claim7.holds Tryd.pinned (.plain (OpenSpec.upto pathUnderSpec)) pathUnderUptoCard
end Rows
end Go.Proofs.YtaljnmmnmnoinaaDoor
