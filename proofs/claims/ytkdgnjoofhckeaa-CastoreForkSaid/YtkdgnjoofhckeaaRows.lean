/-
  No cell of these rows narrows 'for every input' (looked for: loops, veiled, ifaces, maps, wideKeys, modest, calm, conditions, laid).
  DERIVED. THE GIVEN ROWS OF THIS SEAT. 5 by the template 'for every input the law returns true; each argument reads behind the call as it read before'; 0 by the template 'total and deterministic' (their statements: YtkdgnjoofhckeaaTotals.lean).
  GIVEN WITH THE SEED: the statements are not yours to turn. If you find one false, say at which input.
  Laid BY PROGRAM, IN A SANDBOX (cutbox-rows.mjs): the forced cells as the released guide's own fill.sh prints them over the translation e2aae2b50caae1c1… (all of the seat's roots in one cut). By AI agents, Wed Nov 11 2026. No macro, syntax, notation, axiom, sorry.
-/
import Derived.Test.YtkdgnjoofhckeaaChecked
import GoSem.Claim
import GoSem.ClaimJoined
import GoSem.ClaimMapViews
import Derived.JoinedTies
import Derived.KernelRfl
namespace Go.Proofs.Ytkdgnjoofhckeaa
/- THE CELL 'sum', in the pinned program and in every row, IS THE sha256 OF THE DUMP (.gsa) THAT YtkdgnjoofhckeaaProg.lean LOADS. Nothing in Lean hashes anything: it is a label: what it is worth is what the hold of that sum in a sandbox is worth. -/
noncomputable def Try.pinned : Pinned := { name := "ytkdgnjoofhckeaa", sum := "e2aae2b50caae1c14adde02d95cbd4107d3c2c49abf0d12dcb090d3b6fabb555", checked := Try.checked }
namespace Rows
def none {H : Type} : Left H := { results := [], args := [] }

/-- 'classroomlaw7.CastorePlays': WHATEVER THE INPUT: true; the input reads as it did. -/
def castorePlaysSpec : ChangeSpec := { name := "castorePlays", fn := fun _ => fun
  | [d1, d2, d3] => { results := [.lit (.bool true)], args := [d1, d2, d3] }
  | _ => none }
def castorePlaysRow : OpenClaim := { program := "ytkdgnjoofhckeaa", sum := "e2aae2b50caae1c14adde02d95cbd4107d3c2c49abf0d12dcb090d3b6fabb555", func := "classroom/classroomlaw7.CastorePlays", spec := "castorePlays", unfollowed := true, recurses := true, apart := false }
def CastorePlaysSaid : Prop := castorePlaysRow.holds Try.pinned (OpenSpec.ofChange castorePlaysSpec)

/-- ITS FALSE NEIGHBOUR: 'it returns false'. Refute it at one input. -/
def castorePlaysWrong : ChangeSpec := { name := "castorePlays", fn := fun _ => fun
  | [d1, d2, d3] => { results := [.lit (.bool false)], args := [d1, d2, d3] }
  | _ => none }
def CastorePlaysWrongFalsely : Prop := castorePlaysRow.holds Try.pinned (OpenSpec.ofChange castorePlaysWrong)

/-- 'classroomlaw7.CastoreNew': WHATEVER THE INPUT: true; the input reads as it did. -/
def castoreNewSpec : ChangeSpec := { name := "castoreNew", fn := fun _ => fun
  | [d1, d2, d3, d4, d5] => { results := [.lit (.bool true)], args := [d1, d2, d3, d4, d5] }
  | _ => none }
def castoreNewRow : OpenClaim := { program := "ytkdgnjoofhckeaa", sum := "e2aae2b50caae1c14adde02d95cbd4107d3c2c49abf0d12dcb090d3b6fabb555", func := "classroom/classroomlaw7.CastoreNew", spec := "castoreNew", inPlace := ["maps.clone"], unfollowed := true, recurses := true, apart := false }
def CastoreNewSaid : Prop := castoreNewRow.holds Try.pinned (OpenSpec.ofChange castoreNewSpec)

/-- ITS FALSE NEIGHBOUR: 'it returns false'. Refute it at one input. -/
def castoreNewWrong : ChangeSpec := { name := "castoreNew", fn := fun _ => fun
  | [d1, d2, d3, d4, d5] => { results := [.lit (.bool false)], args := [d1, d2, d3, d4, d5] }
  | _ => none }
def CastoreNewWrongFalsely : Prop := castoreNewRow.holds Try.pinned (OpenSpec.ofChange castoreNewWrong)

/-- 'classroomlaw7.CastoreMeans': WHATEVER THE INPUT: true; the input reads as it did. -/
def castoreMeansSpec : ChangeSpec := { name := "castoreMeans", fn := fun _ => fun
  | [d1, d2, d3] => { results := [.lit (.bool true)], args := [d1, d2, d3] }
  | _ => none }
def castoreMeansRow : OpenClaim := { program := "ytkdgnjoofhckeaa", sum := "e2aae2b50caae1c14adde02d95cbd4107d3c2c49abf0d12dcb090d3b6fabb555", func := "classroom/classroomlaw7.CastoreMeans", spec := "castoreMeans", unfollowed := true, recurses := true, apart := false }
def CastoreMeansSaid : Prop := castoreMeansRow.holds Try.pinned (OpenSpec.ofChange castoreMeansSpec)

/-- ITS FALSE NEIGHBOUR: 'it returns false'. Refute it at one input. -/
def castoreMeansWrong : ChangeSpec := { name := "castoreMeans", fn := fun _ => fun
  | [d1, d2, d3] => { results := [.lit (.bool false)], args := [d1, d2, d3] }
  | _ => none }
def CastoreMeansWrongFalsely : Prop := castoreMeansRow.holds Try.pinned (OpenSpec.ofChange castoreMeansWrong)

/-- 'classroomlaw7.CastoreFork': WHATEVER THE INPUT: true; the input reads as it did. -/
def castoreForkSpec : ChangeSpec := { name := "castoreFork", fn := fun _ => fun
  | [d1, d2, d3, d4, d5] => { results := [.lit (.bool true)], args := [d1, d2, d3, d4, d5] }
  | _ => none }
def castoreForkRow : OpenClaim := { program := "ytkdgnjoofhckeaa", sum := "e2aae2b50caae1c14adde02d95cbd4107d3c2c49abf0d12dcb090d3b6fabb555", func := "classroom/classroomlaw7.CastoreFork", spec := "castoreFork", inPlace := ["maps.clone"], unfollowed := true, recurses := true, apart := false }
def CastoreForkSaid : Prop := castoreForkRow.holds Try.pinned (OpenSpec.ofChange castoreForkSpec)

/-- ITS FALSE NEIGHBOUR: 'it returns false'. Refute it at one input. -/
def castoreForkWrong : ChangeSpec := { name := "castoreFork", fn := fun _ => fun
  | [d1, d2, d3, d4, d5] => { results := [.lit (.bool false)], args := [d1, d2, d3, d4, d5] }
  | _ => none }
def CastoreForkWrongFalsely : Prop := castoreForkRow.holds Try.pinned (OpenSpec.ofChange castoreForkWrong)

/-- 'classroomlaw7.CastoreOwn': WHATEVER THE INPUT: true; the input reads as it did. -/
def castoreOwnSpec : ChangeSpec := { name := "castoreOwn", fn := fun _ => fun
  | [d1, d2, d3] => { results := [.lit (.bool true)], args := [d1, d2, d3] }
  | _ => none }
def castoreOwnRow : OpenClaim := { program := "ytkdgnjoofhckeaa", sum := "e2aae2b50caae1c14adde02d95cbd4107d3c2c49abf0d12dcb090d3b6fabb555", func := "classroom/classroomlaw7.CastoreOwn", spec := "castoreOwn", unfollowed := true, recurses := true, apart := false }
def CastoreOwnSaid : Prop := castoreOwnRow.holds Try.pinned (OpenSpec.ofChange castoreOwnSpec)

/-- ITS FALSE NEIGHBOUR: 'it returns false'. Refute it at one input. -/
def castoreOwnWrong : ChangeSpec := { name := "castoreOwn", fn := fun _ => fun
  | [d1, d2, d3] => { results := [.lit (.bool false)], args := [d1, d2, d3] }
  | _ => none }
def CastoreOwnWrongFalsely : Prop := castoreOwnRow.holds Try.pinned (OpenSpec.ofChange castoreOwnWrong)

/- THE SECOND FORM. 'bulk': how many values and letters a reading holds, each counted each time it is reached (what is shared counts as often as it is met; a slice's spare places count too). A statement '..UptoSaid' is the law's where the arguments, and the package variables that the reading takes, are together of bulk at most 1048576: NARROWER than '..Said'. Prove '..Said' where nothing that the law and all that it calls make is longer than what came in: it says more and counts as full. Else prove '..UptoSaid'. A law counts once. -/
mutual
def uptoBulk {H : Type} : DataW H → Nat
  | .lit (.string bytes) => bytes.length + 1
  | .lit _ => 1
  | .nil => 1
  | .ptr d => uptoBulk d + 1
  | .slice elems spare => uptoBulkAll elems + uptoBulkAll spare + 1
  | .agg parts => uptoBulkAll parts + 1
  | .iface _ d => uptoBulk d + 1
  | .map entries => uptoBulkEntries entries + 1
  | .held _ => 1
def uptoBulkAll {H : Type} : List (DataW H) → Nat
  | [] => 0
  | d :: r => uptoBulk d + uptoBulkAll r
def uptoBulkEntries {H : Type} : List (Lit × DataW H) → Nat
  | [] => 0
  | x :: r => uptoBulkEntry x + uptoBulkEntries r
def uptoBulkEntry {H : Type} : Lit × DataW H → Nat
  | (.string bytes, d) => bytes.length + uptoBulk d + 1
  | (_, d) => uptoBulk d + 1
 end
def uptoSmall : (H : Type) → List (DataW H) → Bool := fun _ ds => decide (uptoBulkAll ds ≤ 1048576)
def OpenSpec.upto (s : _root_.Go.ChangeSpec) : _root_.Go.OpenSpec := { _root_.Go.OpenSpec.ofChange s with cond := some uptoSmall }

/-- 'classroomlaw7.CastorePlays', WHERE WHAT IT READS IS OF BULK AT MOST 1048576: true; the input reads as it did. -/
def castorePlaysUptoRow : OpenClaim := { program := "ytkdgnjoofhckeaa", sum := "e2aae2b50caae1c14adde02d95cbd4107d3c2c49abf0d12dcb090d3b6fabb555", func := "classroom/classroomlaw7.CastorePlays", spec := "castorePlays", unfollowed := true, recurses := true, apart := false, narrowed := true }
def CastorePlaysUptoSaid : Prop := castorePlaysUptoRow.holds Try.pinned (OpenSpec.upto castorePlaysSpec)

/-- 'classroomlaw7.CastoreNew', WHERE WHAT IT READS IS OF BULK AT MOST 1048576: true; the input reads as it did. -/
def castoreNewUptoRow : OpenClaim := { program := "ytkdgnjoofhckeaa", sum := "e2aae2b50caae1c14adde02d95cbd4107d3c2c49abf0d12dcb090d3b6fabb555", func := "classroom/classroomlaw7.CastoreNew", spec := "castoreNew", inPlace := ["maps.clone"], unfollowed := true, recurses := true, apart := false, narrowed := true }
def CastoreNewUptoSaid : Prop := castoreNewUptoRow.holds Try.pinned (OpenSpec.upto castoreNewSpec)

/-- 'classroomlaw7.CastoreMeans', WHERE WHAT IT READS IS OF BULK AT MOST 1048576: true; the input reads as it did. -/
def castoreMeansUptoRow : OpenClaim := { program := "ytkdgnjoofhckeaa", sum := "e2aae2b50caae1c14adde02d95cbd4107d3c2c49abf0d12dcb090d3b6fabb555", func := "classroom/classroomlaw7.CastoreMeans", spec := "castoreMeans", unfollowed := true, recurses := true, apart := false, narrowed := true }
def CastoreMeansUptoSaid : Prop := castoreMeansUptoRow.holds Try.pinned (OpenSpec.upto castoreMeansSpec)

/-- 'classroomlaw7.CastoreFork', WHERE WHAT IT READS IS OF BULK AT MOST 1048576: true; the input reads as it did. -/
def castoreForkUptoRow : OpenClaim := { program := "ytkdgnjoofhckeaa", sum := "e2aae2b50caae1c14adde02d95cbd4107d3c2c49abf0d12dcb090d3b6fabb555", func := "classroom/classroomlaw7.CastoreFork", spec := "castoreFork", inPlace := ["maps.clone"], unfollowed := true, recurses := true, apart := false, narrowed := true }
def CastoreForkUptoSaid : Prop := castoreForkUptoRow.holds Try.pinned (OpenSpec.upto castoreForkSpec)

/-- 'classroomlaw7.CastoreOwn', WHERE WHAT IT READS IS OF BULK AT MOST 1048576: true; the input reads as it did. -/
def castoreOwnUptoRow : OpenClaim := { program := "ytkdgnjoofhckeaa", sum := "e2aae2b50caae1c14adde02d95cbd4107d3c2c49abf0d12dcb090d3b6fabb555", func := "classroom/classroomlaw7.CastoreOwn", spec := "castoreOwn", unfollowed := true, recurses := true, apart := false, narrowed := true }
def CastoreOwnUptoSaid : Prop := castoreOwnUptoRow.holds Try.pinned (OpenSpec.upto castoreOwnSpec)

end Rows
end Go.Proofs.Ytkdgnjoofhckeaa
