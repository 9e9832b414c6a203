/-
  NARROWER THAN 'FOR EVERY INPUT', by the rows' own cells (each row's printed sentence says how): TreecodecEncode: laid · TreecodecDecode: laid · TreecodecBack: laid · TreecodecLong: laid · TreecodecSplit: laid.
  DERIVED. THE GIVEN ROWS OF THIS SEAT. 5 by the template 'for every input the law returns true; each argument reads behind the call as it read before'; 0 by the template 'total and deterministic' (their statements: YthcaeofgegfncaaDoorTotals.lean).
  GIVEN WITH THE SEED: the statements are not yours to turn. If you find one false, say at which input.
  Laid BY PROGRAM, IN A SANDBOX (cutbox-rows.mjs): the forced cells as the released guide's own fill.sh prints them over the translation c8e47a6ac85a6c7c… (all of the seat's roots in one cut). By AI agents, Wed Nov 11 2026. No macro, syntax, notation, axiom, sorry.
-/
import Derived.Test.YthcaeofgegfncaaDoorChecked
import GoSem.PinnedTables
import GoSem.Claim
import GoSem.ClaimJoined
import GoSem.ClaimMapViews
import Derived.JoinedTies
import Derived.KernelRfl
namespace Go.Proofs.YthcaeofgegfncaaDoor
/- THE CELL 'sum', in the pinned program and in every row, IS THE sha256 OF THE DUMP (.gsa) THAT YthcaeofgegfncaaDoorProg.lean LOADS. Nothing in Lean hashes anything: it is a label: what it is worth is what the hold of that sum in a sandbox is worth. -/
noncomputable def Tryd.pinned : Pinned := { name := "ythcaeofgegfncaadoor", sum := "c8e47a6ac85a6c7c43103442d9803bbfee9306b72364141dd9d799f47cf66f77", checked := Tryd.checked }
namespace Rows
def none {H : Type} : Left H := { results := [], args := [] }

/- WHAT THE LISTED PACKAGE-LEVEL VARIABLES READ AS WHEN THE CALL BEGINS. Each datum BY PROGRAM (the guide's laid-datum.mjs) off the statement by which the dump's own 'gosem.cut.vars' lays the variable. In a bare row this is a premise. The card (YthcaeofgegfncaaDoorCards.lean) ties it to the program's text. -/
def laid_unicode_utf8_acceptRanges {H : Type} : DataW H := .agg [.agg [.lit (.int .u8 128), .lit (.int .u8 191)], .agg [.lit (.int .u8 160), .lit (.int .u8 191)], .agg [.lit (.int .u8 128), .lit (.int .u8 159)], .agg [.lit (.int .u8 144), .lit (.int .u8 191)], .agg [.lit (.int .u8 128), .lit (.int .u8 143)], .agg [.lit (.int .u8 0), .lit (.int .u8 0)], .agg [.lit (.int .u8 0), .lit (.int .u8 0)], .agg [.lit (.int .u8 0), .lit (.int .u8 0)], .agg [.lit (.int .u8 0), .lit (.int .u8 0)], .agg [.lit (.int .u8 0), .lit (.int .u8 0)], .agg [.lit (.int .u8 0), .lit (.int .u8 0)], .agg [.lit (.int .u8 0), .lit (.int .u8 0)], .agg [.lit (.int .u8 0), .lit (.int .u8 0)], .agg [.lit (.int .u8 0), .lit (.int .u8 0)], .agg [.lit (.int .u8 0), .lit (.int .u8 0)], .agg [.lit (.int .u8 0), .lit (.int .u8 0)]]
/-- One of Go's own tables, pinned by name: the form's constant. -/
def laid_unicode_utf8_first : DataW Unit := Go.Pinned.utf8First

/-- 'classroomlaw5.TreecodecEncode': WHATEVER THE INPUT: true; the input reads as it did. -/
def treecodecEncodeSpec : ChangeSpec := { name := "treecodecEncode", fn := fun _ => fun
  | [d1, d2] => { results := [.lit (.bool true)], args := [d1, d2] }
  | _ => none }
def treecodecEncodeRow : OpenClaim := { program := "ythcaeofgegfncaadoor", sum := "c8e47a6ac85a6c7c43103442d9803bbfee9306b72364141dd9d799f47cf66f77", func := "classroom/classroomlaw5.TreecodecEncode", spec := "treecodecEncode", inPlace := ["internal/bytealg.CountString", "internal/bytealg.IndexByteString", "internal/bytealg.IndexString", "internal/abi.NoEscape", "internal/bytealg.MakeNoZero"], named := ["unicode/utf8.first", "unicode/utf8.acceptRanges", "internal/bytealg.MaxLen"], apart := false, laid := [("unicode/utf8.acceptRanges", laid_unicode_utf8_acceptRanges), ("unicode/utf8.first", laid_unicode_utf8_first)] }
def TreecodecEncodeSaid : Prop := treecodecEncodeRow.holds Tryd.pinned (OpenSpec.ofChange treecodecEncodeSpec)

/-- ITS FALSE NEIGHBOUR: 'it returns false'. Refute it at one input. -/
def treecodecEncodeWrong : ChangeSpec := { name := "treecodecEncode", fn := fun _ => fun
  | [d1, d2] => { results := [.lit (.bool false)], args := [d1, d2] }
  | _ => none }
def TreecodecEncodeWrongFalsely : Prop := treecodecEncodeRow.holds Tryd.pinned (OpenSpec.ofChange treecodecEncodeWrong)

/-- 'classroomlaw5.TreecodecDecode': WHATEVER THE INPUT: true; the input reads as it did. -/
def treecodecDecodeSpec : ChangeSpec := { name := "treecodecDecode", fn := fun _ => fun
  | [d1, d2, d3, d4, d5] => { results := [.lit (.bool true)], args := [d1, d2, d3, d4, d5] }
  | _ => none }
def treecodecDecodeRow : OpenClaim := { program := "ythcaeofgegfncaadoor", sum := "c8e47a6ac85a6c7c43103442d9803bbfee9306b72364141dd9d799f47cf66f77", func := "classroom/classroomlaw5.TreecodecDecode", spec := "treecodecDecode", inPlace := ["internal/bytealg.CountString", "internal/bytealg.IndexByteString", "internal/bytealg.IndexString", "internal/abi.NoEscape", "internal/bytealg.MakeNoZero"], named := ["unicode/utf8.first", "unicode/utf8.acceptRanges", "internal/bytealg.MaxLen"], apart := false, laid := [("unicode/utf8.acceptRanges", laid_unicode_utf8_acceptRanges), ("unicode/utf8.first", laid_unicode_utf8_first)] }
def TreecodecDecodeSaid : Prop := treecodecDecodeRow.holds Tryd.pinned (OpenSpec.ofChange treecodecDecodeSpec)

/-- ITS FALSE NEIGHBOUR: 'it returns false'. Refute it at one input. -/
def treecodecDecodeWrong : ChangeSpec := { name := "treecodecDecode", fn := fun _ => fun
  | [d1, d2, d3, d4, d5] => { results := [.lit (.bool false)], args := [d1, d2, d3, d4, d5] }
  | _ => none }
def TreecodecDecodeWrongFalsely : Prop := treecodecDecodeRow.holds Tryd.pinned (OpenSpec.ofChange treecodecDecodeWrong)

/-- 'classroomlaw5.TreecodecBack': WHATEVER THE INPUT: true; the input reads as it did. -/
def treecodecBackSpec : ChangeSpec := { name := "treecodecBack", fn := fun _ => fun
  | [d1, d2] => { results := [.lit (.bool true)], args := [d1, d2] }
  | _ => none }
def treecodecBackRow : OpenClaim := { program := "ythcaeofgegfncaadoor", sum := "c8e47a6ac85a6c7c43103442d9803bbfee9306b72364141dd9d799f47cf66f77", func := "classroom/classroomlaw5.TreecodecBack", spec := "treecodecBack", inPlace := ["internal/bytealg.CountString", "internal/bytealg.IndexByteString", "internal/bytealg.IndexString", "internal/abi.NoEscape", "internal/bytealg.MakeNoZero"], named := ["unicode/utf8.first", "unicode/utf8.acceptRanges", "internal/bytealg.MaxLen"], apart := false, laid := [("unicode/utf8.acceptRanges", laid_unicode_utf8_acceptRanges), ("unicode/utf8.first", laid_unicode_utf8_first)] }
def TreecodecBackSaid : Prop := treecodecBackRow.holds Tryd.pinned (OpenSpec.ofChange treecodecBackSpec)

/-- ITS FALSE NEIGHBOUR: 'it returns false'. Refute it at one input. -/
def treecodecBackWrong : ChangeSpec := { name := "treecodecBack", fn := fun _ => fun
  | [d1, d2] => { results := [.lit (.bool false)], args := [d1, d2] }
  | _ => none }
def TreecodecBackWrongFalsely : Prop := treecodecBackRow.holds Tryd.pinned (OpenSpec.ofChange treecodecBackWrong)

/-- 'classroomlaw5.TreecodecLong': WHATEVER THE INPUT: true; the input reads as it did. -/
def treecodecLongSpec : ChangeSpec := { name := "treecodecLong", fn := fun _ => fun
  | [d] => { results := [.lit (.bool true)], args := [d] }
  | _ => none }
def treecodecLongRow : OpenClaim := { program := "ythcaeofgegfncaadoor", sum := "c8e47a6ac85a6c7c43103442d9803bbfee9306b72364141dd9d799f47cf66f77", func := "classroom/classroomlaw5.TreecodecLong", spec := "treecodecLong", inPlace := ["internal/bytealg.CountString", "internal/bytealg.IndexByteString", "internal/bytealg.IndexString", "internal/abi.NoEscape", "internal/bytealg.MakeNoZero"], named := ["unicode/utf8.first", "unicode/utf8.acceptRanges", "internal/bytealg.MaxLen"], apart := false, laid := [("unicode/utf8.acceptRanges", laid_unicode_utf8_acceptRanges), ("unicode/utf8.first", laid_unicode_utf8_first)] }
def TreecodecLongSaid : Prop := treecodecLongRow.holds Tryd.pinned (OpenSpec.ofChange treecodecLongSpec)

/-- ITS FALSE NEIGHBOUR: 'it returns false'. Refute it at one input. -/
def treecodecLongWrong : ChangeSpec := { name := "treecodecLong", fn := fun _ => fun
  | [d] => { results := [.lit (.bool false)], args := [d] }
  | _ => none }
def TreecodecLongWrongFalsely : Prop := treecodecLongRow.holds Tryd.pinned (OpenSpec.ofChange treecodecLongWrong)

/-- 'classroomlaw5.TreecodecSplit': WHATEVER THE INPUT: true; the input reads as it did. -/
def treecodecSplitSpec : ChangeSpec := { name := "treecodecSplit", fn := fun _ => fun
  | [d1, d2] => { results := [.lit (.bool true)], args := [d1, d2] }
  | _ => none }
def treecodecSplitRow : OpenClaim := { program := "ythcaeofgegfncaadoor", sum := "c8e47a6ac85a6c7c43103442d9803bbfee9306b72364141dd9d799f47cf66f77", func := "classroom/classroomlaw5.TreecodecSplit", spec := "treecodecSplit", inPlace := ["internal/bytealg.CountString", "internal/bytealg.IndexByteString", "internal/bytealg.IndexString", "internal/abi.NoEscape", "internal/bytealg.MakeNoZero"], named := ["unicode/utf8.first", "unicode/utf8.acceptRanges", "internal/bytealg.MaxLen"], apart := false, laid := [("unicode/utf8.acceptRanges", laid_unicode_utf8_acceptRanges), ("unicode/utf8.first", laid_unicode_utf8_first)] }
def TreecodecSplitSaid : Prop := treecodecSplitRow.holds Tryd.pinned (OpenSpec.ofChange treecodecSplitSpec)

/-- ITS FALSE NEIGHBOUR: 'it returns false'. Refute it at one input. -/
def treecodecSplitWrong : ChangeSpec := { name := "treecodecSplit", fn := fun _ => fun
  | [d1, d2] => { results := [.lit (.bool false)], args := [d1, d2] }
  | _ => none }
def TreecodecSplitWrongFalsely : Prop := treecodecSplitRow.holds Tryd.pinned (OpenSpec.ofChange treecodecSplitWrong)

/- THE SECOND FORM. 'bulk': how many values and letters a reading holds, each counted each time it is reached (what is shared counts as often as it is met; a slice's spare places count too). A statement '..UptoSaid' is the law's where the arguments, and the package variables that the reading takes, are together of bulk at most 1048576: NARROWER than '..Said'. Prove '..Said' where nothing that the law and all that it calls make is longer than what came in: it says more and counts as full. Else prove '..UptoSaid'. A law counts once. -/
mutual
def uptoBulk {H : Type} : DataW H → Nat
  | .lit (.string bytes) => bytes.length + 1
  | .lit _ => 1
  | .nil => 1
  | .ptr d => uptoBulk d + 1
  | .slice elems spare => uptoBulkAll elems + uptoBulkAll spare + 1
  | .agg parts => uptoBulkAll parts + 1
  | .iface _ d => uptoBulk d + 1
  | .map entries => uptoBulkEntries entries + 1
  | .held _ => 1
def uptoBulkAll {H : Type} : List (DataW H) → Nat
  | [] => 0
  | d :: r => uptoBulk d + uptoBulkAll r
def uptoBulkEntries {H : Type} : List (Lit × DataW H) → Nat
  | [] => 0
  | x :: r => uptoBulkEntry x + uptoBulkEntries r
def uptoBulkEntry {H : Type} : Lit × DataW H → Nat
  | (.string bytes, d) => bytes.length + uptoBulk d + 1
  | (_, d) => uptoBulk d + 1
 end
def uptoSmall : (H : Type) → List (DataW H) → Bool := fun _ ds => decide (uptoBulkAll ds ≤ 1048576)
def OpenSpec.upto (s : _root_.Go.ChangeSpec) : _root_.Go.OpenSpec := { _root_.Go.OpenSpec.ofChange s with cond := some uptoSmall }

/-- 'classroomlaw5.TreecodecEncode', WHERE WHAT IT READS IS OF BULK AT MOST 1048576: true; the input reads as it did. -/
def treecodecEncodeUptoRow : OpenClaim := { program := "ythcaeofgegfncaadoor", sum := "c8e47a6ac85a6c7c43103442d9803bbfee9306b72364141dd9d799f47cf66f77", func := "classroom/classroomlaw5.TreecodecEncode", spec := "treecodecEncode", inPlace := ["internal/bytealg.CountString", "internal/bytealg.IndexByteString", "internal/bytealg.IndexString", "internal/abi.NoEscape", "internal/bytealg.MakeNoZero"], named := ["unicode/utf8.first", "unicode/utf8.acceptRanges", "internal/bytealg.MaxLen"], apart := false, laid := [("unicode/utf8.acceptRanges", laid_unicode_utf8_acceptRanges), ("unicode/utf8.first", laid_unicode_utf8_first)], narrowed := true }
def TreecodecEncodeUptoSaid : Prop := treecodecEncodeUptoRow.holds Tryd.pinned (OpenSpec.upto treecodecEncodeSpec)

/-- 'classroomlaw5.TreecodecDecode', WHERE WHAT IT READS IS OF BULK AT MOST 1048576: true; the input reads as it did. -/
def treecodecDecodeUptoRow : OpenClaim := { program := "ythcaeofgegfncaadoor", sum := "c8e47a6ac85a6c7c43103442d9803bbfee9306b72364141dd9d799f47cf66f77", func := "classroom/classroomlaw5.TreecodecDecode", spec := "treecodecDecode", inPlace := ["internal/bytealg.CountString", "internal/bytealg.IndexByteString", "internal/bytealg.IndexString", "internal/abi.NoEscape", "internal/bytealg.MakeNoZero"], named := ["unicode/utf8.first", "unicode/utf8.acceptRanges", "internal/bytealg.MaxLen"], apart := false, laid := [("unicode/utf8.acceptRanges", laid_unicode_utf8_acceptRanges), ("unicode/utf8.first", laid_unicode_utf8_first)], narrowed := true }
def TreecodecDecodeUptoSaid : Prop := treecodecDecodeUptoRow.holds Tryd.pinned (OpenSpec.upto treecodecDecodeSpec)

/-- 'classroomlaw5.TreecodecBack', WHERE WHAT IT READS IS OF BULK AT MOST 1048576: true; the input reads as it did. -/
def treecodecBackUptoRow : OpenClaim := { program := "ythcaeofgegfncaadoor", sum := "c8e47a6ac85a6c7c43103442d9803bbfee9306b72364141dd9d799f47cf66f77", func := "classroom/classroomlaw5.TreecodecBack", spec := "treecodecBack", inPlace := ["internal/bytealg.CountString", "internal/bytealg.IndexByteString", "internal/bytealg.IndexString", "internal/abi.NoEscape", "internal/bytealg.MakeNoZero"], named := ["unicode/utf8.first", "unicode/utf8.acceptRanges", "internal/bytealg.MaxLen"], apart := false, laid := [("unicode/utf8.acceptRanges", laid_unicode_utf8_acceptRanges), ("unicode/utf8.first", laid_unicode_utf8_first)], narrowed := true }
def TreecodecBackUptoSaid : Prop := treecodecBackUptoRow.holds Tryd.pinned (OpenSpec.upto treecodecBackSpec)

/-- 'classroomlaw5.TreecodecLong', WHERE WHAT IT READS IS OF BULK AT MOST 1048576: true; the input reads as it did. -/
def treecodecLongUptoRow : OpenClaim := { program := "ythcaeofgegfncaadoor", sum := "c8e47a6ac85a6c7c43103442d9803bbfee9306b72364141dd9d799f47cf66f77", func := "classroom/classroomlaw5.TreecodecLong", spec := "treecodecLong", inPlace := ["internal/bytealg.CountString", "internal/bytealg.IndexByteString", "internal/bytealg.IndexString", "internal/abi.NoEscape", "internal/bytealg.MakeNoZero"], named := ["unicode/utf8.first", "unicode/utf8.acceptRanges", "internal/bytealg.MaxLen"], apart := false, laid := [("unicode/utf8.acceptRanges", laid_unicode_utf8_acceptRanges), ("unicode/utf8.first", laid_unicode_utf8_first)], narrowed := true }
def TreecodecLongUptoSaid : Prop := treecodecLongUptoRow.holds Tryd.pinned (OpenSpec.upto treecodecLongSpec)

/-- 'classroomlaw5.TreecodecSplit', WHERE WHAT IT READS IS OF BULK AT MOST 1048576: true; the input reads as it did. -/
def treecodecSplitUptoRow : OpenClaim := { program := "ythcaeofgegfncaadoor", sum := "c8e47a6ac85a6c7c43103442d9803bbfee9306b72364141dd9d799f47cf66f77", func := "classroom/classroomlaw5.TreecodecSplit", spec := "treecodecSplit", inPlace := ["internal/bytealg.CountString", "internal/bytealg.IndexByteString", "internal/bytealg.IndexString", "internal/abi.NoEscape", "internal/bytealg.MakeNoZero"], named := ["unicode/utf8.first", "unicode/utf8.acceptRanges", "internal/bytealg.MaxLen"], apart := false, laid := [("unicode/utf8.acceptRanges", laid_unicode_utf8_acceptRanges), ("unicode/utf8.first", laid_unicode_utf8_first)], narrowed := true }
def TreecodecSplitUptoSaid : Prop := treecodecSplitUptoRow.holds Tryd.pinned (OpenSpec.upto treecodecSplitSpec)

end Rows
end Go.Proofs.YthcaeofgegfncaaDoor
