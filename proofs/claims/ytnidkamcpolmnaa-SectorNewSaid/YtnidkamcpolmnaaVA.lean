/-
  The sanity check of layer 1, reckoned out.
-/
import Derived.Test.YtnidkamcpolmnaaVu
import Derived.Test.YtnidkamcpolmnaaProg
namespace Go.Proofs.Ytnidkamcpolmnaa
open Go Go.RowKit V
set_option linter.unusedSimpArgs false
set_option linter.unusedVariables false
set_option maxRecDepth 100000 in
theorem awake_v : CallsV Try.prog 14 [] [] (fun av H' => av = .bool true ∧ H' = []) := callsV_ev (noX_ok _) 400 (by kernel_rfl)
end Go.Proofs.Ytnidkamcpolmnaa
