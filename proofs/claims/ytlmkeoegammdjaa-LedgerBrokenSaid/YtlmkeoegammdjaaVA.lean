/-
  The sanity check of layer 28, reckoned out.
-/
import Derived.Test.YtlmkeoegammdjaaVu
import Derived.Test.YtlmkeoegammdjaaProg
namespace Go.Proofs.Ytlmkeoegammdjaa
open Go Go.RowKit V
set_option maxRecDepth 100000 in
theorem awake_v : CallsV Try.prog 16 [] [] (fun av H' => av = .bool true ∧ H' = []) := callsV_ev (noX_ok _) 400 (by kernel_rfl)
end Go.Proofs.Ytlmkeoegammdjaa
