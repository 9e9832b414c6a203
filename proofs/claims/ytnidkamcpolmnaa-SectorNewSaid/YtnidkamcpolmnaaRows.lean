/-
  No cell of these rows narrows 'for every input' (looked for: loops, veiled, ifaces, maps, wideKeys, modest, calm, conditions, laid).
  DERIVED. THE GIVEN ROWS OF THIS SEAT. 5 by the template 'for every input the law returns true; each argument reads behind the call as it read before'; 0 by the template 'total and deterministic' (their statements: YtnidkamcpolmnaaTotals.lean).
  GIVEN WITH THE SEED: the statements are not yours to turn. If you find one false, say at which input.
  Laid BY PROGRAM, IN A SANDBOX (cutbox-rows.mjs): the forced cells as the released guide's own fill.sh prints them over the translation 0052ab1cf69e55ce… (all of the seat's roots in one cut). By AI agents, Wed Nov 11 2026. No macro, syntax, notation, axiom, sorry.
-/
import Derived.Test.YtnidkamcpolmnaaChecked
import GoSem.Claim
import GoSem.ClaimJoined
import GoSem.ClaimMapViews
import Derived.JoinedTies
import Derived.KernelRfl
namespace Go.Proofs.Ytnidkamcpolmnaa
/- THE CELL 'sum', in the pinned program and in every row, IS THE sha256 OF THE DUMP (.gsa) THAT YtnidkamcpolmnaaProg.lean LOADS. Nothing in Lean hashes anything: it is a label: what it is worth is what the hold of that sum in a sandbox is worth. -/
noncomputable def Try.pinned : Pinned := { name := "ytnidkamcpolmnaa", sum := "0052ab1cf69e55cebbd0e3c5da2f496d2ee6b9a6f8b10bf7c518ce258cbd8385", checked := Try.checked }
namespace Rows
def none {H : Type} : Left H := { results := [], args := [] }

/-- 'classroomlaw1.SectorPlays': WHATEVER THE INPUT: true; the input reads as it did. -/
def sectorPlaysSpec : ChangeSpec := { name := "sectorPlays", fn := fun _ => fun
  | [d1, d2, d3, d4, d5] => { results := [.lit (.bool true)], args := [d1, d2, d3, d4, d5] }
  | _ => none }
def sectorPlaysRow : OpenClaim := { program := "ytnidkamcpolmnaa", sum := "0052ab1cf69e55cebbd0e3c5da2f496d2ee6b9a6f8b10bf7c518ce258cbd8385", func := "classroom/classroomlaw1.SectorPlays", spec := "sectorPlays", apart := false }
def SectorPlaysSaid : Prop := sectorPlaysRow.holds Try.pinned (OpenSpec.ofChange sectorPlaysSpec)

/-- ITS FALSE NEIGHBOUR: 'it returns false'. Refute it at one input. -/
def sectorPlaysWrong : ChangeSpec := { name := "sectorPlays", fn := fun _ => fun
  | [d1, d2, d3, d4, d5] => { results := [.lit (.bool false)], args := [d1, d2, d3, d4, d5] }
  | _ => none }
def SectorPlaysWrongFalsely : Prop := sectorPlaysRow.holds Try.pinned (OpenSpec.ofChange sectorPlaysWrong)

/-- 'classroomlaw1.SectorNew': WHATEVER THE INPUT: true; the input reads as it did. -/
def sectorNewSpec : ChangeSpec := { name := "sectorNew", fn := fun _ => fun
  | [d1, d2, d3, d4] => { results := [.lit (.bool true)], args := [d1, d2, d3, d4] }
  | _ => none }
def sectorNewRow : OpenClaim := { program := "ytnidkamcpolmnaa", sum := "0052ab1cf69e55cebbd0e3c5da2f496d2ee6b9a6f8b10bf7c518ce258cbd8385", func := "classroom/classroomlaw1.SectorNew", spec := "sectorNew", apart := false }
def SectorNewSaid : Prop := sectorNewRow.holds Try.pinned (OpenSpec.ofChange sectorNewSpec)

/-- ITS FALSE NEIGHBOUR: 'it returns false'. Refute it at one input. -/
def sectorNewWrong : ChangeSpec := { name := "sectorNew", fn := fun _ => fun
  | [d1, d2, d3, d4] => { results := [.lit (.bool false)], args := [d1, d2, d3, d4] }
  | _ => none }
def SectorNewWrongFalsely : Prop := sectorNewRow.holds Try.pinned (OpenSpec.ofChange sectorNewWrong)

/-- 'classroomlaw1.SectorKept': WHATEVER THE INPUT: true; the input reads as it did. -/
def sectorKeptSpec : ChangeSpec := { name := "sectorKept", fn := fun _ => fun
  | [d1, d2, d3] => { results := [.lit (.bool true)], args := [d1, d2, d3] }
  | _ => none }
def sectorKeptRow : OpenClaim := { program := "ytnidkamcpolmnaa", sum := "0052ab1cf69e55cebbd0e3c5da2f496d2ee6b9a6f8b10bf7c518ce258cbd8385", func := "classroom/classroomlaw1.SectorKept", spec := "sectorKept", apart := false }
def SectorKeptSaid : Prop := sectorKeptRow.holds Try.pinned (OpenSpec.ofChange sectorKeptSpec)

/-- ITS FALSE NEIGHBOUR: 'it returns false'. Refute it at one input. -/
def sectorKeptWrong : ChangeSpec := { name := "sectorKept", fn := fun _ => fun
  | [d1, d2, d3] => { results := [.lit (.bool false)], args := [d1, d2, d3] }
  | _ => none }
def SectorKeptWrongFalsely : Prop := sectorKeptRow.holds Try.pinned (OpenSpec.ofChange sectorKeptWrong)

/-- 'classroomlaw1.SectorQuiet': WHATEVER THE INPUT: true; the input reads as it did. -/
def sectorQuietSpec : ChangeSpec := { name := "sectorQuiet", fn := fun _ => fun
  | [d1, d2] => { results := [.lit (.bool true)], args := [d1, d2] }
  | _ => none }
def sectorQuietRow : OpenClaim := { program := "ytnidkamcpolmnaa", sum := "0052ab1cf69e55cebbd0e3c5da2f496d2ee6b9a6f8b10bf7c518ce258cbd8385", func := "classroom/classroomlaw1.SectorQuiet", spec := "sectorQuiet", apart := false }
def SectorQuietSaid : Prop := sectorQuietRow.holds Try.pinned (OpenSpec.ofChange sectorQuietSpec)

/-- ITS FALSE NEIGHBOUR: 'it returns false'. Refute it at one input. -/
def sectorQuietWrong : ChangeSpec := { name := "sectorQuiet", fn := fun _ => fun
  | [d1, d2] => { results := [.lit (.bool false)], args := [d1, d2] }
  | _ => none }
def SectorQuietWrongFalsely : Prop := sectorQuietRow.holds Try.pinned (OpenSpec.ofChange sectorQuietWrong)

/-- 'classroomlaw1.SectorOwn': WHATEVER THE INPUT: true; the input reads as it did. -/
def sectorOwnSpec : ChangeSpec := { name := "sectorOwn", fn := fun _ => fun
  | [d1, d2, d3] => { results := [.lit (.bool true)], args := [d1, d2, d3] }
  | _ => none }
def sectorOwnRow : OpenClaim := { program := "ytnidkamcpolmnaa", sum := "0052ab1cf69e55cebbd0e3c5da2f496d2ee6b9a6f8b10bf7c518ce258cbd8385", func := "classroom/classroomlaw1.SectorOwn", spec := "sectorOwn", apart := false }
def SectorOwnSaid : Prop := sectorOwnRow.holds Try.pinned (OpenSpec.ofChange sectorOwnSpec)

/-- ITS FALSE NEIGHBOUR: 'it returns false'. Refute it at one input. -/
def sectorOwnWrong : ChangeSpec := { name := "sectorOwn", fn := fun _ => fun
  | [d1, d2, d3] => { results := [.lit (.bool false)], args := [d1, d2, d3] }
  | _ => none }
def SectorOwnWrongFalsely : Prop := sectorOwnRow.holds Try.pinned (OpenSpec.ofChange sectorOwnWrong)

/- THE SECOND FORM. 'bulk': how many values and letters a reading holds, each counted each time it is reached (what is shared counts as often as it is met; a slice's spare places count too). A statement '..UptoSaid' is the law's where the arguments, and the package variables that the reading takes, are together of bulk at most 1048576: NARROWER than '..Said'. Prove '..Said' where nothing that the law and all that it calls make is longer than what came in: it says more and counts as full. Else prove '..UptoSaid'. A law counts once. -/
mutual
def uptoBulk {H : Type} : DataW H → Nat
  | .lit (.string bytes) => bytes.length + 1
  | .lit _ => 1
  | .nil => 1
  | .ptr d => uptoBulk d + 1
  | .slice elems spare => uptoBulkAll elems + uptoBulkAll spare + 1
  | .agg parts => uptoBulkAll parts + 1
  | .iface _ d => uptoBulk d + 1
  | .map entries => uptoBulkEntries entries + 1
  | .held _ => 1
def uptoBulkAll {H : Type} : List (DataW H) → Nat
  | [] => 0
  | d :: r => uptoBulk d + uptoBulkAll r
def uptoBulkEntries {H : Type} : List (Lit × DataW H) → Nat
  | [] => 0
  | x :: r => uptoBulkEntry x + uptoBulkEntries r
def uptoBulkEntry {H : Type} : Lit × DataW H → Nat
  | (.string bytes, d) => bytes.length + uptoBulk d + 1
  | (_, d) => uptoBulk d + 1
 end
def uptoSmall : (H : Type) → List (DataW H) → Bool := fun _ ds => decide (uptoBulkAll ds ≤ 1048576)
def OpenSpec.upto (s : _root_.Go.ChangeSpec) : _root_.Go.OpenSpec := { _root_.Go.OpenSpec.ofChange s with cond := some uptoSmall }

/-- 'classroomlaw1.SectorPlays', WHERE WHAT IT READS IS OF BULK AT MOST 1048576: true; the input reads as it did. -/
def sectorPlaysUptoRow : OpenClaim := { program := "ytnidkamcpolmnaa", sum := "0052ab1cf69e55cebbd0e3c5da2f496d2ee6b9a6f8b10bf7c518ce258cbd8385", func := "classroom/classroomlaw1.SectorPlays", spec := "sectorPlays", apart := false, narrowed := true }
def SectorPlaysUptoSaid : Prop := sectorPlaysUptoRow.holds Try.pinned (OpenSpec.upto sectorPlaysSpec)

/-- 'classroomlaw1.SectorNew', WHERE WHAT IT READS IS OF BULK AT MOST 1048576: true; the input reads as it did. -/
def sectorNewUptoRow : OpenClaim := { program := "ytnidkamcpolmnaa", sum := "0052ab1cf69e55cebbd0e3c5da2f496d2ee6b9a6f8b10bf7c518ce258cbd8385", func := "classroom/classroomlaw1.SectorNew", spec := "sectorNew", apart := false, narrowed := true }
def SectorNewUptoSaid : Prop := sectorNewUptoRow.holds Try.pinned (OpenSpec.upto sectorNewSpec)

/-- 'classroomlaw1.SectorKept', WHERE WHAT IT READS IS OF BULK AT MOST 1048576: true; the input reads as it did. -/
def sectorKeptUptoRow : OpenClaim := { program := "ytnidkamcpolmnaa", sum := "0052ab1cf69e55cebbd0e3c5da2f496d2ee6b9a6f8b10bf7c518ce258cbd8385", func := "classroom/classroomlaw1.SectorKept", spec := "sectorKept", apart := false, narrowed := true }
def SectorKeptUptoSaid : Prop := sectorKeptUptoRow.holds Try.pinned (OpenSpec.upto sectorKeptSpec)

/-- 'classroomlaw1.SectorQuiet', WHERE WHAT IT READS IS OF BULK AT MOST 1048576: true; the input reads as it did. -/
def sectorQuietUptoRow : OpenClaim := { program := "ytnidkamcpolmnaa", sum := "0052ab1cf69e55cebbd0e3c5da2f496d2ee6b9a6f8b10bf7c518ce258cbd8385", func := "classroom/classroomlaw1.SectorQuiet", spec := "sectorQuiet", apart := false, narrowed := true }
def SectorQuietUptoSaid : Prop := sectorQuietUptoRow.holds Try.pinned (OpenSpec.upto sectorQuietSpec)

/-- 'classroomlaw1.SectorOwn', WHERE WHAT IT READS IS OF BULK AT MOST 1048576: true; the input reads as it did. -/
def sectorOwnUptoRow : OpenClaim := { program := "ytnidkamcpolmnaa", sum := "0052ab1cf69e55cebbd0e3c5da2f496d2ee6b9a6f8b10bf7c518ce258cbd8385", func := "classroom/classroomlaw1.SectorOwn", spec := "sectorOwn", apart := false, narrowed := true }
def SectorOwnUptoSaid : Prop := sectorOwnUptoRow.holds Try.pinned (OpenSpec.upto sectorOwnSpec)

end Rows
end Go.Proofs.Ytnidkamcpolmnaa
