/-
  A slice of bytes, given, as a value.
-/
import Derived.Test.YtlmkeoegammdjaaVG
import Derived.Test.YtlmkeoegammdjaaOpen
namespace Go.Proofs.Ytlmkeoegammdjaa
open Go Go.RowKit V
set_option linter.unusedSimpArgs false
set_option linter.unusedVariables false

def encB1V (z : Int) : List Value := [.int .u8 z]
theorem pairB1 : PairE encB1V encB1 := fun _ => rfl
theorem encB1_ok : Enc encB1V 1 := ⟨fun _ => rfl, fun x u hu => by simp [encB1V] at hu; subst hu; rfl, by omega⟩
theorem arg_bytes {w : World} {v : Value} (h : Arg Try.prog w 55 v) : ∃ l : List Int, Rep pl0 w v (bytesV l) ∧ (∀ z ∈ l, 0 ≤ z ∧ z ≤ 255) ∧ l.length ≤ 9223372036854775807 := by
  obtain ⟨a, len, cap, rfl, h1, h2, h3, vs, h4, h5, h6⟩ := Arg.slice Try.underlying55 (ts := [5]) (by kernel_rfl) (by kernel_rfl) (by decide) h
  have h4' : vs.length = len * 1 := h4
  obtain ⟨l, g1, rfl, g3⟩ := rows_of (enc := encB1V) (size := 1) (fun z => 0 ≤ z ∧ z ≤ 255) len vs h4' (fun i hi => by
    have a0 := h6 i hi 0 (by simp) (by simp only [List.length_cons, List.length_nil]; omega)
    unfold Good at a0
    simp only [List.getElem_cons_zero, Try.underlying5] at a0
    obtain ⟨y, e0, hy⟩ := a0
    refine ⟨y, ?_, wf_u8 hy⟩
    simp only [List.length_cons, List.length_nil, Nat.zero_add] at e0
    rw [List.drop_eq_getElem_cons (by omega), List.take_succ_cons, List.take_zero]
    exact congrArg (fun x => [x]) e0)
  refine ⟨l, ?_, g3, by unfold maxLen at h2; omega⟩
  have := rep_of_rowV (p := pl0) pairB1 encB1_ok g1 h1 h3 h5 h2 (fun x _ => pl0_M _)
  rw [← g1] at this ⊢
  exact this
end Go.Proofs.Ytlmkeoegammdjaa
