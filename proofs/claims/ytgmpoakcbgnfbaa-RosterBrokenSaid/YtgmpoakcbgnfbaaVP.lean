/-
  The arguments of the laws of layer 26, as values.
-/
import Derived.Test.YtgmpoakcbgnfbaaVN
namespace Go.Proofs.Ytgmpoakcbgnfbaa
open Go Go.RowKit V
set_option linter.unusedSimpArgs false
set_option linter.unusedVariables false

def encB2V (p : Int × Int) : List Value := [.int .u8 p.1, .int .u8 p.2]
theorem pairB2 : PairE encB2V encB2 := fun _ => rfl
theorem encB2_ok : Enc encB2V 2 := ⟨fun _ => rfl, fun x u hu => by simp [encB2V] at hu; rcases hu with rfl | rfl <;> rfl, by omega⟩
theorem arg_steps {w : World} {v : Value} (h : Arg Try.prog w 35 v) : ∃ l : List (Int × Int), Rep pl0 w v (stepsV l) ∧ ∀ p ∈ l, 0 ≤ p.1 ∧ p.1 ≤ 255 ∧ 0 ≤ p.2 ∧ p.2 ≤ 255 := by
  obtain ⟨a, len, cap, rfl, h1, h2, h3, vs, h4, h5, h6⟩ := Arg.slice Try.underlying35 (ts := [5, 5]) (by kernel_rfl) (by kernel_rfl) (by decide) h
  have h4' : vs.length = len * 2 := h4
  obtain ⟨l, g1, rfl, g3⟩ := rows_of (enc := encB2V) (size := 2) (fun p => 0 ≤ p.1 ∧ p.1 ≤ 255 ∧ 0 ≤ p.2 ∧ p.2 ≤ 255) len vs h4' (fun i hi => by
    have a0 := h6 i hi 0 (by simp) (by simp only [List.length_cons, List.length_nil]; omega)
    have a1 := h6 i hi 1 (by simp) (by simp only [List.length_cons, List.length_nil]; omega)
    unfold Good at a0 a1
    simp only [List.getElem_cons_zero, List.getElem_cons_succ, Try.underlying5] at a0 a1
    obtain ⟨y, e0, hy⟩ := a0
    obtain ⟨z, e1, hz⟩ := a1
    have hy := wf_u8 hy
    have hz := wf_u8 hz
    refine ⟨(y, z), ?_, hy.1, hy.2, hz.1, hz.2⟩
    simp only [List.length_cons, List.length_nil, Nat.zero_add] at e0 e1
    rw [List.drop_eq_getElem_cons (by omega), List.drop_eq_getElem_cons (by omega), List.take_succ_cons, List.take_succ_cons, List.take_zero]
    exact congr (congrArg _ e0) (congrArg (fun x => [x]) e1))
  refine ⟨l, ?_, g3⟩
  have := rep_of_rowV (p := pl0) pairB2 encB2_ok g1 h1 h3 h5 h2 (fun x _ => pl0_M _)
  rw [← g1] at this ⊢
  exact this
end Go.Proofs.Ytgmpoakcbgnfbaa
