/-
  A call that leaves an own row of opaque cells.
-/
import Derived.Test.YtcmbhebgpboepaaVnq
namespace Go.Proofs.Ytcmbhebgpboepaa.V
open Go Go.RowKit
set_option linter.unusedSimpArgs false
set_option linter.unusedVariables false
theorem map_ren0 {f : Nat → Option Nat} {xs : List AV} (h : ∀ x ∈ xs, plain0 x = true) : xs.map (ren0 f) = xs := by
  induction xs with
  | nil => rfl
  | cons x r ih =>
    rw [List.map_cons, ih fun y hy => h y (List.mem_cons_of_mem _ hy)]
    have hx := h x (List.mem_cons_self ..)
    rw [ren0_noid (by cases x <;> first | exact hx | (simp [plain0] at hx)) (by rintro a b c rfl; simp [plain0] at hx)]
section
variable {P : Program} {s s' : St} {Q : Exit → St → Prop} {c : Code} {ops : Array Oper} {l l' : List Nat}
theorem n_callo (f : FuncId) (as' : List AV) (x : AV) (t : TypeId) (xs : List AV) {i : Nat} (s' : St) (hc : (decide (i < ops.size) && (callable P f && (match calls (opAt ops i) with | some g => g == f | none => false))) = true) (ha : (callArgs (opAt ops i)).map s.ev = as') (hn : as'.all noid1 = true) (hp : ∀ y ∈ xs, plain0 y = true)
    (hs : St.put ⟨s.t, s.H ++ [.row t xs]⟩ (opAt ops i).dst (ren (shf s.H.length) x) = s') (h : CallsV P f as' [] fun a b => a = x ∧ b = [.row t xs]) (k : RunN P ops Q l s') : RunN P ops Q (i :: l) s := by
  subst hs
  refine n_callb f as' x [.row t xs] _ hc ha hn ?_ h k
  simp only [List.map_cons, List.map_nil, shiftB, map_ren0 hp]
end
end Go.Proofs.Ytcmbhebgpboepaa.V
