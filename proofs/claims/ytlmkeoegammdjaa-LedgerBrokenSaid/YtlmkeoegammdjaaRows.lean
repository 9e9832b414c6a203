/-
  No cell of these rows narrows 'for every input' (looked for: loops, veiled, ifaces, maps, wideKeys, modest, calm, conditions, laid).
  DERIVED. THE GIVEN ROWS OF THIS SEAT. 5 by the template 'for every input the law returns true; each argument reads behind the call as it read before'; 0 by the template 'total and deterministic' (their statements: YtlmkeoegammdjaaTotals.lean).
  GIVEN WITH THE SEED: the statements are not yours to turn. If you find one false, say at which input.
  Laid BY PROGRAM, IN A SANDBOX (cutbox-rows.mjs): the forced cells as the released guide's own fill.sh prints them over the translation d2b874f323493ec2… (all of the seat's roots in one cut). By AI agents, Wed Nov 11 2026. No macro, syntax, notation, axiom, sorry.
-/
import Derived.Test.YtlmkeoegammdjaaChecked
import GoSem.Claim
import GoSem.ClaimJoined
import GoSem.ClaimMapViews
import Derived.JoinedTies
import Derived.KernelRfl
namespace Go.Proofs.Ytlmkeoegammdjaa
/- THE CELL 'sum', in the pinned program and in every row, IS THE sha256 OF THE DUMP (.gsa) THAT YtlmkeoegammdjaaProg.lean LOADS. Nothing in Lean hashes anything: it is a label: what it is worth is what the hold of that sum in a sandbox is worth. -/
noncomputable def Try.pinned : Pinned := { name := "ytlmkeoegammdjaa", sum := "d2b874f323493ec2e0cf8f553cdad6986c5038a7660031dd822b21016d962549", checked := Try.checked }
namespace Rows
def none {H : Type} : Left H := { results := [], args := [] }

/-- 'classroomlaw28.LedgerPlays': WHATEVER THE INPUT: true; the input reads as it did. -/
def ledgerPlaysSpec : ChangeSpec := { name := "ledgerPlays", fn := fun _ => fun
  | [d] => { results := [.lit (.bool true)], args := [d] }
  | _ => none }
def ledgerPlaysRow : OpenClaim := { program := "ytlmkeoegammdjaa", sum := "d2b874f323493ec2e0cf8f553cdad6986c5038a7660031dd822b21016d962549", func := "classroom/classroomlaw28.LedgerPlays", spec := "ledgerPlays", inPlace := ["slices.overlaps[classroom/api.Mark]"], unfollowed := true, recurses := true, apart := false }
def LedgerPlaysSaid : Prop := ledgerPlaysRow.holds Try.pinned (OpenSpec.ofChange ledgerPlaysSpec)

/-- ITS FALSE NEIGHBOUR: 'it returns false'. Refute it at one input. -/
def ledgerPlaysWrong : ChangeSpec := { name := "ledgerPlays", fn := fun _ => fun
  | [d] => { results := [.lit (.bool false)], args := [d] }
  | _ => none }
def LedgerPlaysWrongFalsely : Prop := ledgerPlaysRow.holds Try.pinned (OpenSpec.ofChange ledgerPlaysWrong)

/-- 'classroomlaw28.LedgerRaw': WHATEVER THE INPUT: true; the input reads as it did. -/
def ledgerRawSpec : ChangeSpec := { name := "ledgerRaw", fn := fun _ => fun
  | [d1, d2, d3, d4] => { results := [.lit (.bool true)], args := [d1, d2, d3, d4] }
  | _ => none }
def ledgerRawRow : OpenClaim := { program := "ytlmkeoegammdjaa", sum := "d2b874f323493ec2e0cf8f553cdad6986c5038a7660031dd822b21016d962549", func := "classroom/classroomlaw28.LedgerRaw", spec := "ledgerRaw", inPlace := ["slices.overlaps[classroom/api.Mark]"], unfollowed := true, recurses := true, apart := false }
def LedgerRawSaid : Prop := ledgerRawRow.holds Try.pinned (OpenSpec.ofChange ledgerRawSpec)

/-- ITS FALSE NEIGHBOUR: 'it returns false'. Refute it at one input. -/
def ledgerRawWrong : ChangeSpec := { name := "ledgerRaw", fn := fun _ => fun
  | [d1, d2, d3, d4] => { results := [.lit (.bool false)], args := [d1, d2, d3, d4] }
  | _ => none }
def LedgerRawWrongFalsely : Prop := ledgerRawRow.holds Try.pinned (OpenSpec.ofChange ledgerRawWrong)

/-- 'classroomlaw28.LedgerBroken': WHATEVER THE INPUT: true; the input reads as it did. -/
def ledgerBrokenSpec : ChangeSpec := { name := "ledgerBroken", fn := fun _ => fun
  | [d1, d2, d3, d4] => { results := [.lit (.bool true)], args := [d1, d2, d3, d4] }
  | _ => none }
def ledgerBrokenRow : OpenClaim := { program := "ytlmkeoegammdjaa", sum := "d2b874f323493ec2e0cf8f553cdad6986c5038a7660031dd822b21016d962549", func := "classroom/classroomlaw28.LedgerBroken", spec := "ledgerBroken", inPlace := ["slices.overlaps[classroom/api.Mark]"], unfollowed := true, recurses := true, apart := false }
def LedgerBrokenSaid : Prop := ledgerBrokenRow.holds Try.pinned (OpenSpec.ofChange ledgerBrokenSpec)

/-- ITS FALSE NEIGHBOUR: 'it returns false'. Refute it at one input. -/
def ledgerBrokenWrong : ChangeSpec := { name := "ledgerBroken", fn := fun _ => fun
  | [d1, d2, d3, d4] => { results := [.lit (.bool false)], args := [d1, d2, d3, d4] }
  | _ => none }
def LedgerBrokenWrongFalsely : Prop := ledgerBrokenRow.holds Try.pinned (OpenSpec.ofChange ledgerBrokenWrong)

/-- 'classroomlaw28.LedgerOthers': WHATEVER THE INPUT: true; the input reads as it did. -/
def ledgerOthersSpec : ChangeSpec := { name := "ledgerOthers", fn := fun _ => fun
  | [d1, d2] => { results := [.lit (.bool true)], args := [d1, d2] }
  | _ => none }
def ledgerOthersRow : OpenClaim := { program := "ytlmkeoegammdjaa", sum := "d2b874f323493ec2e0cf8f553cdad6986c5038a7660031dd822b21016d962549", func := "classroom/classroomlaw28.LedgerOthers", spec := "ledgerOthers", inPlace := ["slices.overlaps[classroom/api.Mark]"], unfollowed := true, recurses := true, apart := false }
def LedgerOthersSaid : Prop := ledgerOthersRow.holds Try.pinned (OpenSpec.ofChange ledgerOthersSpec)

/-- ITS FALSE NEIGHBOUR: 'it returns false'. Refute it at one input. -/
def ledgerOthersWrong : ChangeSpec := { name := "ledgerOthers", fn := fun _ => fun
  | [d1, d2] => { results := [.lit (.bool false)], args := [d1, d2] }
  | _ => none }
def LedgerOthersWrongFalsely : Prop := ledgerOthersRow.holds Try.pinned (OpenSpec.ofChange ledgerOthersWrong)

/-- 'classroomlaw28.LedgerVersions': WHATEVER THE INPUT: true; the input reads as it did. -/
def ledgerVersionsSpec : ChangeSpec := { name := "ledgerVersions", fn := fun _ => fun
  | [d] => { results := [.lit (.bool true)], args := [d] }
  | _ => none }
def ledgerVersionsRow : OpenClaim := { program := "ytlmkeoegammdjaa", sum := "d2b874f323493ec2e0cf8f553cdad6986c5038a7660031dd822b21016d962549", func := "classroom/classroomlaw28.LedgerVersions", spec := "ledgerVersions", inPlace := ["slices.overlaps[classroom/api.Mark]"], unfollowed := true, recurses := true, apart := false }
def LedgerVersionsSaid : Prop := ledgerVersionsRow.holds Try.pinned (OpenSpec.ofChange ledgerVersionsSpec)

/-- ITS FALSE NEIGHBOUR: 'it returns false'. Refute it at one input. -/
def ledgerVersionsWrong : ChangeSpec := { name := "ledgerVersions", fn := fun _ => fun
  | [d] => { results := [.lit (.bool false)], args := [d] }
  | _ => none }
def LedgerVersionsWrongFalsely : Prop := ledgerVersionsRow.holds Try.pinned (OpenSpec.ofChange ledgerVersionsWrong)

/- THE SECOND FORM. 'bulk': how many values and letters a reading holds, each counted each time it is reached (what is shared counts as often as it is met; a slice's spare places count too). A statement '..UptoSaid' is the law's where the arguments, and the package variables that the reading takes, are together of bulk at most 1048576: NARROWER than '..Said'. Prove '..Said' where nothing that the law and all that it calls make is longer than what came in: it says more and counts as full. Else prove '..UptoSaid'. A law counts once. -/
mutual
def uptoBulk {H : Type} : DataW H → Nat
  | .lit (.string bytes) => bytes.length + 1
  | .lit _ => 1
  | .nil => 1
  | .ptr d => uptoBulk d + 1
  | .slice elems spare => uptoBulkAll elems + uptoBulkAll spare + 1
  | .agg parts => uptoBulkAll parts + 1
  | .iface _ d => uptoBulk d + 1
  | .map entries => uptoBulkEntries entries + 1
  | .held _ => 1
def uptoBulkAll {H : Type} : List (DataW H) → Nat
  | [] => 0
  | d :: r => uptoBulk d + uptoBulkAll r
def uptoBulkEntries {H : Type} : List (Lit × DataW H) → Nat
  | [] => 0
  | x :: r => uptoBulkEntry x + uptoBulkEntries r
def uptoBulkEntry {H : Type} : Lit × DataW H → Nat
  | (.string bytes, d) => bytes.length + uptoBulk d + 1
  | (_, d) => uptoBulk d + 1
 end
def uptoSmall : (H : Type) → List (DataW H) → Bool := fun _ ds => decide (uptoBulkAll ds ≤ 1048576)
def OpenSpec.upto (s : _root_.Go.ChangeSpec) : _root_.Go.OpenSpec := { _root_.Go.OpenSpec.ofChange s with cond := some uptoSmall }

/-- 'classroomlaw28.LedgerPlays', WHERE WHAT IT READS IS OF BULK AT MOST 1048576: true; the input reads as it did. -/
def ledgerPlaysUptoRow : OpenClaim := { program := "ytlmkeoegammdjaa", sum := "d2b874f323493ec2e0cf8f553cdad6986c5038a7660031dd822b21016d962549", func := "classroom/classroomlaw28.LedgerPlays", spec := "ledgerPlays", inPlace := ["slices.overlaps[classroom/api.Mark]"], unfollowed := true, recurses := true, apart := false, narrowed := true }
def LedgerPlaysUptoSaid : Prop := ledgerPlaysUptoRow.holds Try.pinned (OpenSpec.upto ledgerPlaysSpec)

/-- 'classroomlaw28.LedgerRaw', WHERE WHAT IT READS IS OF BULK AT MOST 1048576: true; the input reads as it did. -/
def ledgerRawUptoRow : OpenClaim := { program := "ytlmkeoegammdjaa", sum := "d2b874f323493ec2e0cf8f553cdad6986c5038a7660031dd822b21016d962549", func := "classroom/classroomlaw28.LedgerRaw", spec := "ledgerRaw", inPlace := ["slices.overlaps[classroom/api.Mark]"], unfollowed := true, recurses := true, apart := false, narrowed := true }
def LedgerRawUptoSaid : Prop := ledgerRawUptoRow.holds Try.pinned (OpenSpec.upto ledgerRawSpec)

/-- 'classroomlaw28.LedgerBroken', WHERE WHAT IT READS IS OF BULK AT MOST 1048576: true; the input reads as it did. -/
def ledgerBrokenUptoRow : OpenClaim := { program := "ytlmkeoegammdjaa", sum := "d2b874f323493ec2e0cf8f553cdad6986c5038a7660031dd822b21016d962549", func := "classroom/classroomlaw28.LedgerBroken", spec := "ledgerBroken", inPlace := ["slices.overlaps[classroom/api.Mark]"], unfollowed := true, recurses := true, apart := false, narrowed := true }
def LedgerBrokenUptoSaid : Prop := ledgerBrokenUptoRow.holds Try.pinned (OpenSpec.upto ledgerBrokenSpec)

/-- 'classroomlaw28.LedgerOthers', WHERE WHAT IT READS IS OF BULK AT MOST 1048576: true; the input reads as it did. -/
def ledgerOthersUptoRow : OpenClaim := { program := "ytlmkeoegammdjaa", sum := "d2b874f323493ec2e0cf8f553cdad6986c5038a7660031dd822b21016d962549", func := "classroom/classroomlaw28.LedgerOthers", spec := "ledgerOthers", inPlace := ["slices.overlaps[classroom/api.Mark]"], unfollowed := true, recurses := true, apart := false, narrowed := true }
def LedgerOthersUptoSaid : Prop := ledgerOthersUptoRow.holds Try.pinned (OpenSpec.upto ledgerOthersSpec)

/-- 'classroomlaw28.LedgerVersions', WHERE WHAT IT READS IS OF BULK AT MOST 1048576: true; the input reads as it did. -/
def ledgerVersionsUptoRow : OpenClaim := { program := "ytlmkeoegammdjaa", sum := "d2b874f323493ec2e0cf8f553cdad6986c5038a7660031dd822b21016d962549", func := "classroom/classroomlaw28.LedgerVersions", spec := "ledgerVersions", inPlace := ["slices.overlaps[classroom/api.Mark]"], unfollowed := true, recurses := true, apart := false, narrowed := true }
def LedgerVersionsUptoSaid : Prop := ledgerVersionsUptoRow.holds Try.pinned (OpenSpec.upto ledgerVersionsSpec)

end Rows
end Go.Proofs.Ytlmkeoegammdjaa
