/-
  No cell of these rows narrows 'for every input' (looked for: loops, veiled, ifaces, maps, wideKeys, modest, calm, conditions, laid).
  DERIVED. THE GIVEN ROWS OF THIS SEAT. 6 by the template 'for every input the law returns true; each argument reads behind the call as it read before'; 0 by the template 'total and deterministic' (their statements: YtcmbhebgpboepaaTotals.lean).
  GIVEN WITH THE SEED: the statements are not yours to turn. If you find one false, say at which input.
  Laid BY PROGRAM, IN A SANDBOX (cutbox-rows.mjs): the forced cells as the released guide's own fill.sh prints them over the translation 2931237ca5d4246f… (all of the seat's roots in one cut). By AI agents, Wed Nov 11 2026. No macro, syntax, notation, axiom, sorry.
-/
import Derived.Test.YtcmbhebgpboepaaChecked
import GoSem.Claim
import GoSem.ClaimJoined
import GoSem.ClaimMapViews
import Derived.JoinedTies
import Derived.KernelRfl
namespace Go.Proofs.Ytcmbhebgpboepaa
/- THE CELL 'sum', in the pinned program and in every row, IS THE sha256 OF THE DUMP (.gsa) THAT YtcmbhebgpboepaaProg.lean LOADS. Nothing in Lean hashes anything: it is a label: what it is worth is what the hold of that sum in a sandbox is worth. -/
noncomputable def Try.pinned : Pinned := { name := "ytcmbhebgpboepaa", sum := "2931237ca5d4246f6145fff02e16248c89b69c5fe193caa191a2ae9f734021b9", checked := Try.checked }
namespace Rows
def none {H : Type} : Left H := { results := [], args := [] }

/-- 'classroomlaw22.BuildcachePlays': WHATEVER THE INPUT: true; the input reads as it did. -/
def buildcachePlaysSpec : ChangeSpec := { name := "buildcachePlays", fn := fun _ => fun
  | [d1, d2, d3] => { results := [.lit (.bool true)], args := [d1, d2, d3] }
  | _ => none }
def buildcachePlaysRow : OpenClaim := { program := "ytcmbhebgpboepaa", sum := "2931237ca5d4246f6145fff02e16248c89b69c5fe193caa191a2ae9f734021b9", func := "classroom/classroomlaw22.BuildcachePlays", spec := "buildcachePlays", apart := false }
def BuildcachePlaysSaid : Prop := buildcachePlaysRow.holds Try.pinned (OpenSpec.ofChange buildcachePlaysSpec)

/-- ITS FALSE NEIGHBOUR: 'it returns false'. Refute it at one input. -/
def buildcachePlaysWrong : ChangeSpec := { name := "buildcachePlays", fn := fun _ => fun
  | [d1, d2, d3] => { results := [.lit (.bool false)], args := [d1, d2, d3] }
  | _ => none }
def BuildcachePlaysWrongFalsely : Prop := buildcachePlaysRow.holds Try.pinned (OpenSpec.ofChange buildcachePlaysWrong)

/-- 'classroomlaw22.BuildcacheNew': WHATEVER THE INPUT: true; the input reads as it did. -/
def buildcacheNewSpec : ChangeSpec := { name := "buildcacheNew", fn := fun _ => fun
  | [d1, d2, d3, d4] => { results := [.lit (.bool true)], args := [d1, d2, d3, d4] }
  | _ => none }
def buildcacheNewRow : OpenClaim := { program := "ytcmbhebgpboepaa", sum := "2931237ca5d4246f6145fff02e16248c89b69c5fe193caa191a2ae9f734021b9", func := "classroom/classroomlaw22.BuildcacheNew", spec := "buildcacheNew", apart := false }
def BuildcacheNewSaid : Prop := buildcacheNewRow.holds Try.pinned (OpenSpec.ofChange buildcacheNewSpec)

/-- ITS FALSE NEIGHBOUR: 'it returns false'. Refute it at one input. -/
def buildcacheNewWrong : ChangeSpec := { name := "buildcacheNew", fn := fun _ => fun
  | [d1, d2, d3, d4] => { results := [.lit (.bool false)], args := [d1, d2, d3, d4] }
  | _ => none }
def BuildcacheNewWrongFalsely : Prop := buildcacheNewRow.holds Try.pinned (OpenSpec.ofChange buildcacheNewWrong)

/-- 'classroomlaw22.BuildcacheMeans': WHATEVER THE INPUT: true; the input reads as it did. -/
def buildcacheMeansSpec : ChangeSpec := { name := "buildcacheMeans", fn := fun _ => fun
  | [d1, d2, d3] => { results := [.lit (.bool true)], args := [d1, d2, d3] }
  | _ => none }
def buildcacheMeansRow : OpenClaim := { program := "ytcmbhebgpboepaa", sum := "2931237ca5d4246f6145fff02e16248c89b69c5fe193caa191a2ae9f734021b9", func := "classroom/classroomlaw22.BuildcacheMeans", spec := "buildcacheMeans", apart := false }
def BuildcacheMeansSaid : Prop := buildcacheMeansRow.holds Try.pinned (OpenSpec.ofChange buildcacheMeansSpec)

/-- ITS FALSE NEIGHBOUR: 'it returns false'. Refute it at one input. -/
def buildcacheMeansWrong : ChangeSpec := { name := "buildcacheMeans", fn := fun _ => fun
  | [d1, d2, d3] => { results := [.lit (.bool false)], args := [d1, d2, d3] }
  | _ => none }
def BuildcacheMeansWrongFalsely : Prop := buildcacheMeansRow.holds Try.pinned (OpenSpec.ofChange buildcacheMeansWrong)

/-- 'classroomlaw22.BuildcacheFork': WHATEVER THE INPUT: true; the input reads as it did. -/
def buildcacheForkSpec : ChangeSpec := { name := "buildcacheFork", fn := fun _ => fun
  | [d1, d2, d3, d4, d5] => { results := [.lit (.bool true)], args := [d1, d2, d3, d4, d5] }
  | _ => none }
def buildcacheForkRow : OpenClaim := { program := "ytcmbhebgpboepaa", sum := "2931237ca5d4246f6145fff02e16248c89b69c5fe193caa191a2ae9f734021b9", func := "classroom/classroomlaw22.BuildcacheFork", spec := "buildcacheFork", apart := false }
def BuildcacheForkSaid : Prop := buildcacheForkRow.holds Try.pinned (OpenSpec.ofChange buildcacheForkSpec)

/-- ITS FALSE NEIGHBOUR: 'it returns false'. Refute it at one input. -/
def buildcacheForkWrong : ChangeSpec := { name := "buildcacheFork", fn := fun _ => fun
  | [d1, d2, d3, d4, d5] => { results := [.lit (.bool false)], args := [d1, d2, d3, d4, d5] }
  | _ => none }
def BuildcacheForkWrongFalsely : Prop := buildcacheForkRow.holds Try.pinned (OpenSpec.ofChange buildcacheForkWrong)

/-- 'classroomlaw22.BuildcacheSame': WHATEVER THE INPUT: true; the input reads as it did. -/
def buildcacheSameSpec : ChangeSpec := { name := "buildcacheSame", fn := fun _ => fun
  | [d1, d2, d3, d4] => { results := [.lit (.bool true)], args := [d1, d2, d3, d4] }
  | _ => none }
def buildcacheSameRow : OpenClaim := { program := "ytcmbhebgpboepaa", sum := "2931237ca5d4246f6145fff02e16248c89b69c5fe193caa191a2ae9f734021b9", func := "classroom/classroomlaw22.BuildcacheSame", spec := "buildcacheSame", unfollowed := true, recurses := true, apart := false }
def BuildcacheSameSaid : Prop := buildcacheSameRow.holds Try.pinned (OpenSpec.ofChange buildcacheSameSpec)

/-- ITS FALSE NEIGHBOUR: 'it returns false'. Refute it at one input. -/
def buildcacheSameWrong : ChangeSpec := { name := "buildcacheSame", fn := fun _ => fun
  | [d1, d2, d3, d4] => { results := [.lit (.bool false)], args := [d1, d2, d3, d4] }
  | _ => none }
def BuildcacheSameWrongFalsely : Prop := buildcacheSameRow.holds Try.pinned (OpenSpec.ofChange buildcacheSameWrong)

/-- 'classroomlaw22.BuildcacheOwn': WHATEVER THE INPUT: true; the input reads as it did. -/
def buildcacheOwnSpec : ChangeSpec := { name := "buildcacheOwn", fn := fun _ => fun
  | [d1, d2] => { results := [.lit (.bool true)], args := [d1, d2] }
  | _ => none }
def buildcacheOwnRow : OpenClaim := { program := "ytcmbhebgpboepaa", sum := "2931237ca5d4246f6145fff02e16248c89b69c5fe193caa191a2ae9f734021b9", func := "classroom/classroomlaw22.BuildcacheOwn", spec := "buildcacheOwn", apart := false }
def BuildcacheOwnSaid : Prop := buildcacheOwnRow.holds Try.pinned (OpenSpec.ofChange buildcacheOwnSpec)

/-- ITS FALSE NEIGHBOUR: 'it returns false'. Refute it at one input. -/
def buildcacheOwnWrong : ChangeSpec := { name := "buildcacheOwn", fn := fun _ => fun
  | [d1, d2] => { results := [.lit (.bool false)], args := [d1, d2] }
  | _ => none }
def BuildcacheOwnWrongFalsely : Prop := buildcacheOwnRow.holds Try.pinned (OpenSpec.ofChange buildcacheOwnWrong)

/- THE SECOND FORM. 'bulk': how many values and letters a reading holds, each counted each time it is reached (what is shared counts as often as it is met; a slice's spare places count too). A statement '..UptoSaid' is the law's where the arguments, and the package variables that the reading takes, are together of bulk at most 1048576: NARROWER than '..Said'. Prove '..Said' where nothing that the law and all that it calls make is longer than what came in: it says more and counts as full. Else prove '..UptoSaid'. A law counts once. -/
mutual
def uptoBulk {H : Type} : DataW H → Nat
  | .lit (.string bytes) => bytes.length + 1
  | .lit _ => 1
  | .nil => 1
  | .ptr d => uptoBulk d + 1
  | .slice elems spare => uptoBulkAll elems + uptoBulkAll spare + 1
  | .agg parts => uptoBulkAll parts + 1
  | .iface _ d => uptoBulk d + 1
  | .map entries => uptoBulkEntries entries + 1
  | .held _ => 1
def uptoBulkAll {H : Type} : List (DataW H) → Nat
  | [] => 0
  | d :: r => uptoBulk d + uptoBulkAll r
def uptoBulkEntries {H : Type} : List (Lit × DataW H) → Nat
  | [] => 0
  | x :: r => uptoBulkEntry x + uptoBulkEntries r
def uptoBulkEntry {H : Type} : Lit × DataW H → Nat
  | (.string bytes, d) => bytes.length + uptoBulk d + 1
  | (_, d) => uptoBulk d + 1
 end
def uptoSmall : (H : Type) → List (DataW H) → Bool := fun _ ds => decide (uptoBulkAll ds ≤ 1048576)
def OpenSpec.upto (s : _root_.Go.ChangeSpec) : _root_.Go.OpenSpec := { _root_.Go.OpenSpec.ofChange s with cond := some uptoSmall }

/-- 'classroomlaw22.BuildcachePlays', WHERE WHAT IT READS IS OF BULK AT MOST 1048576: true; the input reads as it did. -/
def buildcachePlaysUptoRow : OpenClaim := { program := "ytcmbhebgpboepaa", sum := "2931237ca5d4246f6145fff02e16248c89b69c5fe193caa191a2ae9f734021b9", func := "classroom/classroomlaw22.BuildcachePlays", spec := "buildcachePlays", apart := false, narrowed := true }
def BuildcachePlaysUptoSaid : Prop := buildcachePlaysUptoRow.holds Try.pinned (OpenSpec.upto buildcachePlaysSpec)

/-- 'classroomlaw22.BuildcacheNew', WHERE WHAT IT READS IS OF BULK AT MOST 1048576: true; the input reads as it did. -/
def buildcacheNewUptoRow : OpenClaim := { program := "ytcmbhebgpboepaa", sum := "2931237ca5d4246f6145fff02e16248c89b69c5fe193caa191a2ae9f734021b9", func := "classroom/classroomlaw22.BuildcacheNew", spec := "buildcacheNew", apart := false, narrowed := true }
def BuildcacheNewUptoSaid : Prop := buildcacheNewUptoRow.holds Try.pinned (OpenSpec.upto buildcacheNewSpec)

/-- 'classroomlaw22.BuildcacheMeans', WHERE WHAT IT READS IS OF BULK AT MOST 1048576: true; the input reads as it did. -/
def buildcacheMeansUptoRow : OpenClaim := { program := "ytcmbhebgpboepaa", sum := "2931237ca5d4246f6145fff02e16248c89b69c5fe193caa191a2ae9f734021b9", func := "classroom/classroomlaw22.BuildcacheMeans", spec := "buildcacheMeans", apart := false, narrowed := true }
def BuildcacheMeansUptoSaid : Prop := buildcacheMeansUptoRow.holds Try.pinned (OpenSpec.upto buildcacheMeansSpec)

/-- 'classroomlaw22.BuildcacheFork', WHERE WHAT IT READS IS OF BULK AT MOST 1048576: true; the input reads as it did. -/
def buildcacheForkUptoRow : OpenClaim := { program := "ytcmbhebgpboepaa", sum := "2931237ca5d4246f6145fff02e16248c89b69c5fe193caa191a2ae9f734021b9", func := "classroom/classroomlaw22.BuildcacheFork", spec := "buildcacheFork", apart := false, narrowed := true }
def BuildcacheForkUptoSaid : Prop := buildcacheForkUptoRow.holds Try.pinned (OpenSpec.upto buildcacheForkSpec)

/-- 'classroomlaw22.BuildcacheSame', WHERE WHAT IT READS IS OF BULK AT MOST 1048576: true; the input reads as it did. -/
def buildcacheSameUptoRow : OpenClaim := { program := "ytcmbhebgpboepaa", sum := "2931237ca5d4246f6145fff02e16248c89b69c5fe193caa191a2ae9f734021b9", func := "classroom/classroomlaw22.BuildcacheSame", spec := "buildcacheSame", unfollowed := true, recurses := true, apart := false, narrowed := true }
def BuildcacheSameUptoSaid : Prop := buildcacheSameUptoRow.holds Try.pinned (OpenSpec.upto buildcacheSameSpec)

/-- 'classroomlaw22.BuildcacheOwn', WHERE WHAT IT READS IS OF BULK AT MOST 1048576: true; the input reads as it did. -/
def buildcacheOwnUptoRow : OpenClaim := { program := "ytcmbhebgpboepaa", sum := "2931237ca5d4246f6145fff02e16248c89b69c5fe193caa191a2ae9f734021b9", func := "classroom/classroomlaw22.BuildcacheOwn", spec := "buildcacheOwn", apart := false, narrowed := true }
def BuildcacheOwnUptoSaid : Prop := buildcacheOwnUptoRow.holds Try.pinned (OpenSpec.upto buildcacheOwnSpec)

end Rows
end Go.Proofs.Ytcmbhebgpboepaa
