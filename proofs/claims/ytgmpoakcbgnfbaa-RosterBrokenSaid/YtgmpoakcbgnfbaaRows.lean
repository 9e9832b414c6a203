/-
  No cell of these rows narrows 'for every input' (looked for: loops, veiled, ifaces, maps, wideKeys, modest, calm, conditions, laid).
  DERIVED. THE GIVEN ROWS OF THIS SEAT. 5 by the template 'for every input the law returns true; each argument reads behind the call as it read before'; 0 by the template 'total and deterministic' (their statements: YtgmpoakcbgnfbaaTotals.lean).
  GIVEN WITH THE SEED: the statements are not yours to turn. If you find one false, say at which input.
  Laid BY PROGRAM, IN A SANDBOX (cutbox-rows.mjs): the forced cells as the released guide's own fill.sh prints them over the translation 5b52399c794e7842… (all of the seat's roots in one cut). By AI agents, Wed Nov 11 2026. No macro, syntax, notation, axiom, sorry.
-/
import Derived.Test.YtgmpoakcbgnfbaaChecked
import GoSem.Claim
import GoSem.ClaimJoined
import GoSem.ClaimMapViews
import Derived.JoinedTies
import Derived.KernelRfl
namespace Go.Proofs.Ytgmpoakcbgnfbaa
/- THE CELL 'sum', in the pinned program and in every row, IS THE sha256 OF THE DUMP (.gsa) THAT YtgmpoakcbgnfbaaProg.lean LOADS. Nothing in Lean hashes anything: it is a label: what it is worth is what the hold of that sum in a sandbox is worth. -/
noncomputable def Try.pinned : Pinned := { name := "ytgmpoakcbgnfbaa", sum := "5b52399c794e7842660b8bfd4924cbf654db251683cc40a32207b874145af6bc", checked := Try.checked }
namespace Rows
def none {H : Type} : Left H := { results := [], args := [] }

/-- 'classroomlaw26.RosterRaw': WHATEVER THE INPUT: true; the input reads as it did. -/
def rosterRawSpec : ChangeSpec := { name := "rosterRaw", fn := fun _ => fun
  | [d1, d2, d3] => { results := [.lit (.bool true)], args := [d1, d2, d3] }
  | _ => none }
def rosterRawRow : OpenClaim := { program := "ytgmpoakcbgnfbaa", sum := "5b52399c794e7842660b8bfd4924cbf654db251683cc40a32207b874145af6bc", func := "classroom/classroomlaw26.RosterRaw", spec := "rosterRaw", inPlace := ["slices.overlaps[classroom/api.User]"], apart := false }
def RosterRawSaid : Prop := rosterRawRow.holds Try.pinned (OpenSpec.ofChange rosterRawSpec)

/-- ITS FALSE NEIGHBOUR: 'it returns false'. Refute it at one input. -/
def rosterRawWrong : ChangeSpec := { name := "rosterRaw", fn := fun _ => fun
  | [d1, d2, d3] => { results := [.lit (.bool false)], args := [d1, d2, d3] }
  | _ => none }
def RosterRawWrongFalsely : Prop := rosterRawRow.holds Try.pinned (OpenSpec.ofChange rosterRawWrong)

/-- 'classroomlaw26.RosterAdds': WHATEVER THE INPUT: true; the input reads as it did. -/
def rosterAddsSpec : ChangeSpec := { name := "rosterAdds", fn := fun _ => fun
  | [d] => { results := [.lit (.bool true)], args := [d] }
  | _ => none }
def rosterAddsRow : OpenClaim := { program := "ytgmpoakcbgnfbaa", sum := "5b52399c794e7842660b8bfd4924cbf654db251683cc40a32207b874145af6bc", func := "classroom/classroomlaw26.RosterAdds", spec := "rosterAdds", inPlace := ["slices.overlaps[classroom/api.User]"], apart := false }
def RosterAddsSaid : Prop := rosterAddsRow.holds Try.pinned (OpenSpec.ofChange rosterAddsSpec)

/-- ITS FALSE NEIGHBOUR: 'it returns false'. Refute it at one input. -/
def rosterAddsWrong : ChangeSpec := { name := "rosterAdds", fn := fun _ => fun
  | [d] => { results := [.lit (.bool false)], args := [d] }
  | _ => none }
def RosterAddsWrongFalsely : Prop := rosterAddsRow.holds Try.pinned (OpenSpec.ofChange rosterAddsWrong)

/-- 'classroomlaw26.RosterBroken': WHATEVER THE INPUT: true; the input reads as it did. -/
def rosterBrokenSpec : ChangeSpec := { name := "rosterBroken", fn := fun _ => fun
  | [d1, d2, d3, d4, d5] => { results := [.lit (.bool true)], args := [d1, d2, d3, d4, d5] }
  | _ => none }
def rosterBrokenRow : OpenClaim := { program := "ytgmpoakcbgnfbaa", sum := "5b52399c794e7842660b8bfd4924cbf654db251683cc40a32207b874145af6bc", func := "classroom/classroomlaw26.RosterBroken", spec := "rosterBroken", inPlace := ["slices.overlaps[classroom/api.User]"], apart := false }
def RosterBrokenSaid : Prop := rosterBrokenRow.holds Try.pinned (OpenSpec.ofChange rosterBrokenSpec)

/-- ITS FALSE NEIGHBOUR: 'it returns false'. Refute it at one input. -/
def rosterBrokenWrong : ChangeSpec := { name := "rosterBroken", fn := fun _ => fun
  | [d1, d2, d3, d4, d5] => { results := [.lit (.bool false)], args := [d1, d2, d3, d4, d5] }
  | _ => none }
def RosterBrokenWrongFalsely : Prop := rosterBrokenRow.holds Try.pinned (OpenSpec.ofChange rosterBrokenWrong)

/-- 'classroomlaw26.RosterMany': WHATEVER THE INPUT: true; the input reads as it did. -/
def rosterManySpec : ChangeSpec := { name := "rosterMany", fn := fun _ => fun
  | [d] => { results := [.lit (.bool true)], args := [d] }
  | _ => none }
def rosterManyRow : OpenClaim := { program := "ytgmpoakcbgnfbaa", sum := "5b52399c794e7842660b8bfd4924cbf654db251683cc40a32207b874145af6bc", func := "classroom/classroomlaw26.RosterMany", spec := "rosterMany", inPlace := ["slices.overlaps[classroom/api.User]"], apart := false }
def RosterManySaid : Prop := rosterManyRow.holds Try.pinned (OpenSpec.ofChange rosterManySpec)

/-- ITS FALSE NEIGHBOUR: 'it returns false'. Refute it at one input. -/
def rosterManyWrong : ChangeSpec := { name := "rosterMany", fn := fun _ => fun
  | [d] => { results := [.lit (.bool false)], args := [d] }
  | _ => none }
def RosterManyWrongFalsely : Prop := rosterManyRow.holds Try.pinned (OpenSpec.ofChange rosterManyWrong)

/-- 'classroomlaw26.RosterOrder': WHATEVER THE INPUT: true; the input reads as it did. -/
def rosterOrderSpec : ChangeSpec := { name := "rosterOrder", fn := fun _ => fun
  | [d1, d2] => { results := [.lit (.bool true)], args := [d1, d2] }
  | _ => none }
def rosterOrderRow : OpenClaim := { program := "ytgmpoakcbgnfbaa", sum := "5b52399c794e7842660b8bfd4924cbf654db251683cc40a32207b874145af6bc", func := "classroom/classroomlaw26.RosterOrder", spec := "rosterOrder", inPlace := ["slices.overlaps[classroom/api.User]"], apart := false }
def RosterOrderSaid : Prop := rosterOrderRow.holds Try.pinned (OpenSpec.ofChange rosterOrderSpec)

/-- ITS FALSE NEIGHBOUR: 'it returns false'. Refute it at one input. -/
def rosterOrderWrong : ChangeSpec := { name := "rosterOrder", fn := fun _ => fun
  | [d1, d2] => { results := [.lit (.bool false)], args := [d1, d2] }
  | _ => none }
def RosterOrderWrongFalsely : Prop := rosterOrderRow.holds Try.pinned (OpenSpec.ofChange rosterOrderWrong)

/- THE SECOND FORM. 'bulk': how many values and letters a reading holds, each counted each time it is reached (what is shared counts as often as it is met; a slice's spare places count too). A statement '..UptoSaid' is the law's where the arguments, and the package variables that the reading takes, are together of bulk at most 1048576: NARROWER than '..Said'. Prove '..Said' where nothing that the law and all that it calls make is longer than what came in: it says more and counts as full. Else prove '..UptoSaid'. A law counts once. -/
mutual
def uptoBulk {H : Type} : DataW H → Nat
  | .lit (.string bytes) => bytes.length + 1
  | .lit _ => 1
  | .nil => 1
  | .ptr d => uptoBulk d + 1
  | .slice elems spare => uptoBulkAll elems + uptoBulkAll spare + 1
  | .agg parts => uptoBulkAll parts + 1
  | .iface _ d => uptoBulk d + 1
  | .map entries => uptoBulkEntries entries + 1
  | .held _ => 1
def uptoBulkAll {H : Type} : List (DataW H) → Nat
  | [] => 0
  | d :: r => uptoBulk d + uptoBulkAll r
def uptoBulkEntries {H : Type} : List (Lit × DataW H) → Nat
  | [] => 0
  | x :: r => uptoBulkEntry x + uptoBulkEntries r
def uptoBulkEntry {H : Type} : Lit × DataW H → Nat
  | (.string bytes, d) => bytes.length + uptoBulk d + 1
  | (_, d) => uptoBulk d + 1
 end
def uptoSmall : (H : Type) → List (DataW H) → Bool := fun _ ds => decide (uptoBulkAll ds ≤ 1048576)
def OpenSpec.upto (s : _root_.Go.ChangeSpec) : _root_.Go.OpenSpec := { _root_.Go.OpenSpec.ofChange s with cond := some uptoSmall }

/-- 'classroomlaw26.RosterRaw', WHERE WHAT IT READS IS OF BULK AT MOST 1048576: true; the input reads as it did. -/
def rosterRawUptoRow : OpenClaim := { program := "ytgmpoakcbgnfbaa", sum := "5b52399c794e7842660b8bfd4924cbf654db251683cc40a32207b874145af6bc", func := "classroom/classroomlaw26.RosterRaw", spec := "rosterRaw", inPlace := ["slices.overlaps[classroom/api.User]"], apart := false, narrowed := true }
def RosterRawUptoSaid : Prop := rosterRawUptoRow.holds Try.pinned (OpenSpec.upto rosterRawSpec)

/-- 'classroomlaw26.RosterAdds', WHERE WHAT IT READS IS OF BULK AT MOST 1048576: true; the input reads as it did. -/
def rosterAddsUptoRow : OpenClaim := { program := "ytgmpoakcbgnfbaa", sum := "5b52399c794e7842660b8bfd4924cbf654db251683cc40a32207b874145af6bc", func := "classroom/classroomlaw26.RosterAdds", spec := "rosterAdds", inPlace := ["slices.overlaps[classroom/api.User]"], apart := false, narrowed := true }
def RosterAddsUptoSaid : Prop := rosterAddsUptoRow.holds Try.pinned (OpenSpec.upto rosterAddsSpec)

/-- 'classroomlaw26.RosterBroken', WHERE WHAT IT READS IS OF BULK AT MOST 1048576: true; the input reads as it did. -/
def rosterBrokenUptoRow : OpenClaim := { program := "ytgmpoakcbgnfbaa", sum := "5b52399c794e7842660b8bfd4924cbf654db251683cc40a32207b874145af6bc", func := "classroom/classroomlaw26.RosterBroken", spec := "rosterBroken", inPlace := ["slices.overlaps[classroom/api.User]"], apart := false, narrowed := true }
def RosterBrokenUptoSaid : Prop := rosterBrokenUptoRow.holds Try.pinned (OpenSpec.upto rosterBrokenSpec)

/-- 'classroomlaw26.RosterMany', WHERE WHAT IT READS IS OF BULK AT MOST 1048576: true; the input reads as it did. -/
def rosterManyUptoRow : OpenClaim := { program := "ytgmpoakcbgnfbaa", sum := "5b52399c794e7842660b8bfd4924cbf654db251683cc40a32207b874145af6bc", func := "classroom/classroomlaw26.RosterMany", spec := "rosterMany", inPlace := ["slices.overlaps[classroom/api.User]"], apart := false, narrowed := true }
def RosterManyUptoSaid : Prop := rosterManyUptoRow.holds Try.pinned (OpenSpec.upto rosterManySpec)

/-- 'classroomlaw26.RosterOrder', WHERE WHAT IT READS IS OF BULK AT MOST 1048576: true; the input reads as it did. -/
def rosterOrderUptoRow : OpenClaim := { program := "ytgmpoakcbgnfbaa", sum := "5b52399c794e7842660b8bfd4924cbf654db251683cc40a32207b874145af6bc", func := "classroom/classroomlaw26.RosterOrder", spec := "rosterOrder", inPlace := ["slices.overlaps[classroom/api.User]"], apart := false, narrowed := true }
def RosterOrderUptoSaid : Prop := rosterOrderUptoRow.holds Try.pinned (OpenSpec.upto rosterOrderSpec)

end Rows
end Go.Proofs.Ytgmpoakcbgnfbaa
