/-
  An array of sixteen bytes, given, as a value.
-/
import Derived.Test.YtnidkamcpolmnaaVB
import Derived.Test.YtnidkamcpolmnaaOpen
namespace Go.Proofs.Ytnidkamcpolmnaa
open Go Go.RowKit V
set_option linter.unusedSimpArgs false
set_option linter.unusedVariables false
theorem len16 : ∀ (l : List Int), l.length = 16 → ∃ x0 x1 x2 x3 x4 x5 x6 x7 x8 x9 x10 x11 x12 x13 x14 x15, l = [x0, x1, x2, x3, x4, x5, x6, x7, x8, x9, x10, x11, x12, x13, x14, x15]
  | [x0, x1, x2, x3, x4, x5, x6, x7, x8, x9, x10, x11, x12, x13, x14, x15], _ => ⟨_, _, _, _, _, _, _, _, _, _, _, _, _, _, _, _, rfl⟩
theorem repInts {p : V.Pl} {w : World} (k : IntKind) : ∀ (l : List Int), V.RepL (V.RepC p w) (l.map (Value.int k)) (l.map (AV.int k))
  | [] => V.RepL.nil
  | x :: r => V.RepL.cons ⟨rfl, V.RepF.rep0 (.int k x)⟩ (repInts k r)
theorem arg_arr16 {w : World} {v : Value} (h : Arg Try.prog w 55 v) : ∃ l : List Int, l.length = 16 ∧ V.Rep ⟨0, fun _ => none, fun _ => False⟩ w v (.agg (l.map (AV.int .u8))) := by
  unfold Arg at h
  rw [show Try.prog.underlying 55 = some (.array 16 5) from by kernel_rfl] at h
  obtain ⟨cs, rfl, hc⟩ := h
  obtain ⟨h1, h2⟩ := hc (List.replicate 16 5) (by kernel_rfl)
  rw [List.length_replicate] at h1
  obtain ⟨zs, rfl, hz⟩ := ints_of (k := .u8) cs (fun u hu => by
    obtain ⟨i, hi, rfl⟩ := List.mem_iff_getElem.1 hu
    have := h2 i (by simpa using (show i < 16 by omega)) hi
    simp only [List.getElem_replicate] at this
    unfold Good at this
    rw [show Try.prog.underlying 5 = some (.int .u8) from by kernel_rfl] at this
    exact this)
  exact ⟨zs, by simpa using h1, ⟨_, rfl, by simpa using repInts .u8 zs⟩⟩
end Go.Proofs.Ytnidkamcpolmnaa
