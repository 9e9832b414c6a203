/-
  classroomref26.Add with its result as an own row.
-/
import Derived.Test.YtgmpoakcbgnfbaaVq
import Derived.Test.YtgmpoakcbgnfbaaVS
namespace Go.Proofs.Ytgmpoakcbgnfbaa
open Go Go.RowKit V
set_option linter.unusedSimpArgs false
set_option linter.unusedVariables false

theorem refAddO_v (l : List U) (s : ByteArray) (r : Int) (hl : l.length ≤ 100000000) (hS : SmallU l) (hs : s.size ≤ maxLen) :
    CallsV Try.prog 10 [usersV l, .str s, .int .i64 r] [] (fun av H' => av = .tuple [.sl 0 0 (addL l s r).length 2, .int .i64 (addE l s r)] ∧ H' = [.row 41 (flatA encUA (addL l s r))]) := by
  intro p w vals hH hv
  obtain ⟨x, y, z, rfl, hx, hy, hz⟩ := repl3 hv
  obtain ⟨a, cap, rfl, hR, hcm⟩ := row_of_rep pairU encU_ok hx (by omega)
  obtain rfl := rep_str hy
  obtain rfl := rep_int hz
  refine (refAdd_any a _ cap l s r w hR hcm hS hs).mono ?_
  rintro e w' ⟨v, rfl, ho, hB⟩
  obtain ⟨p', h1, h2, h3⟩ := own_of_row pairU encU_ok hH hB ho
  exact ⟨_, .tuple [.sl 0 0 (addL l s r).length 2, .int .i64 (addE l s r)], _, p', rfl, ⟨rfl, rfl⟩, h1, ⟨_, rfl, RepL.cons h3 (RepL.cons (RepF.int _ _) RepL.nil)⟩, h2⟩
end Go.Proofs.Ytgmpoakcbgnfbaa
