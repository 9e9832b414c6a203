/-
  A contract on worlds whose result is a fresh row, as one on values that returns an own row.
-/
import Derived.Test.YtgmpoakcbgnfbaaVp
namespace Go.Proofs.Ytgmpoakcbgnfbaa.V
open Go Go.RowKit
set_option linter.unusedSimpArgs false
set_option linter.unusedVariables false

section
variable {α : Type} {enc : α → List Value} {encA : α → List AV} {size : Nat}
/-- a fresh row among places of which none was the run's own -/
theorem own_of_row (hE : PairE enc encA) (E : Enc enc size) {t : TypeId} {p : Pl} {w w' : World} {v : Value} {l : List α} (hH : RH p [] w) (hB : Below w.heap.size w w') (h : OwnE enc t size w' w.heap.size v l) :
    ∃ p', RH p' [.row t (flatA encA l)] w' ∧ Step p w p' w' ∧ Rep1 p' w' v (.sl 0 0 l.length size) := by
  have hn : p.n = 0 := hH.n
  obtain ⟨h1, ⟨rfl, h2⟩ | ⟨g, cap, cur, rfl, hb, hg, hnc, hcm, hsz, htk⟩⟩ := h
  · obtain rfl := List.eq_nil_of_length_eq_zero h2
    refine ⟨⟨1, fun id => if id = 0 then some none else none, p.x⟩, ⟨rfl, fun id hid => ?_, fun i j g hi hj => ?_, fun id hid => ?_, fun g hg => ⟨Nat.lt_of_lt_of_le (hH.xs g hg).1 hB.size, ?_⟩⟩, ⟨hB.os, hB.tape, hB.output, hB.size, by rw [hn]; exact Nat.zero_le _, fun id q hid _ => by rw [hn] at hid; omega, fun g hg ho => ?_, fun g hg _ => hB.block g hg, rfl⟩, ?_⟩
    · simp only at hid ⊢
      rw [if_neg (by omega)]
    · simp only at hi
      split at hi <;> cases hi
    · obtain rfl : id = 0 := by simpa using hid
      exact Or.inl ⟨rfl, rfl⟩
    · rintro ⟨id, hid⟩
      simp only at hid
      split at hid <;> cases hid
    · obtain ⟨id, hid⟩ := ho
      simp only at hid
      split at hid <;> cases hid
    · refine ⟨Nat.one_pos, fun q hq => ⟨none, 0, rfl, Nat.le_refl _, by unfold maxLen; omega, E.pos, fun _ => rfl, Or.inl rfl⟩⟩
  · have hgn : ∀ q : Nat, (fun id => if id = 0 then some (some g) else (none : Option (Option Nat))) q = some (some g) → q = 0 := fun q hq => by
      simp only at hq
      split at hq
      · assumption
      · cases hq
    refine ⟨⟨1, fun id => if id = 0 then some (some g) else none, p.x⟩, ⟨rfl, fun id hid => ?_, fun i j g' hi hj => ?_, fun id hid => ?_, fun g' hg' => ⟨Nat.lt_of_lt_of_le (hH.xs g' hg').1 hB.size, ?_⟩⟩, ⟨hB.os, hB.tape, hB.output, hB.size, by rw [hn]; exact Nat.zero_le _, fun id q hid _ => by rw [hn] at hid; omega, fun g' hg' ho => ?_, fun g' hg' _ => hB.block g' hg', rfl⟩, ?_⟩
    · simp only at hid ⊢
      rw [if_neg (by omega)]
    · simp only at hi hj
      split at hi
      · split at hj
        · omega
        · cases hj
      · cases hi
    · obtain rfl : id = 0 := by simpa using hid
      refine Or.inr ⟨g, cur, rfl, hg, by rw [flat_len hE, h1, hsz]; exact Nat.mul_le_mul_right _ hnc, fun i hi => ?_⟩
      have hi' : i < (flatE enc l).length := by rw [← flat_len hE]; exact hi
      have hp := flat_at hE l i hi'
      rw [getD_get _ _ hi] at hp
      refine ⟨(flatE enc l)[i], ?_, flatE_oneCell E l _ (List.getElem_mem hi'), (plain_mk hp).rep0⟩
      have := congrArg (fun z => z[i]?) htk
      simp only [List.getElem?_eq_getElem hi'] at this
      rw [← this, List.getElem?_take, if_pos (by rw [← h1]; exact hi')]
      simp
    · rintro ⟨id, hid⟩
      simp only at hid
      split at hid
      · cases hid
        have := (hH.xs _ hg').1
        omega
      · cases hid
    · obtain ⟨id, hid⟩ := ho
      simp only at hid
      split at hid
      · cases hid; omega
      · cases hid
    · refine ⟨Nat.one_pos, fun q hq => ?_⟩
      simp only [if_pos] at hq
      cases hq
      refine ⟨some ⟨g, 0, none⟩, cap, rfl, hnc, hcm, E.pos, (fun h => by cases h), Or.inr ⟨g, rfl, rfl, ?_⟩⟩
      unfold rowSize
      rw [hg]
      simp only
      omega
end
end Go.Proofs.Ytgmpoakcbgnfbaa.V
