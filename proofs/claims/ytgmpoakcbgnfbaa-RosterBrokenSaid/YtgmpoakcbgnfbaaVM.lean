/-
  Adding keeps a list of users in order; the names of the laws.
-/
import Derived.Test.YtgmpoakcbgnfbaaVL
namespace Go.Proofs.Ytgmpoakcbgnfbaa
open Go Go.RowKit V
set_option linter.unusedSimpArgs false
set_option linter.unusedVariables false

theorem bl_asymm : ∀ (x y : List UInt8), Op.bytesLess x y = true → Op.bytesLess y x = false ∧ (y == x) = false
  | _, [], h => by cases ‹List UInt8› <;> simp [Op.bytesLess] at h
  | [], b :: y, _ => by simp [Op.bytesLess]
  | a :: x, b :: y, h => by
    simp only [Op.bytesLess, Bool.or_eq_true, Bool.and_eq_true, decide_eq_true_eq, beq_iff_eq, Bool.or_eq_false_iff, Bool.and_eq_false_iff, decide_eq_false_iff_not, beq_eq_false_iff_ne, ne_eq] at h ⊢
    rcases h with h | ⟨rfl, h⟩
    · exact ⟨⟨UInt8.lt_asymm h, Or.inl fun e => UInt8.lt_irrefl _ (e ▸ h)⟩, by rw [List.cons.injEq]; exact fun e => UInt8.lt_irrefl _ (e.1 ▸ h)⟩
    · have ih := bl_asymm x y h
      exact ⟨⟨UInt8.lt_irrefl _, Or.inr ih.1⟩, by rw [List.cons.injEq]; exact fun e => by have := ih.2; simp [e.2] at this⟩
theorem leS_of_lt {a b : ByteArray} (h : ltS a b = true) : leS b a = false := by
  have := bl_asymm _ _ h
  unfold leS
  rw [this.1, this.2]; rfl
def okFrom : Option ByteArray → List U → Prop
  | _, [] => True
  | prev, u :: r => chk u.1 u.2 = 0 ∧ (∀ p, prev = some p → leS u.1 p = false) ∧ okFrom (some u.1) r
def prevAt (l : List U) : Nat → Option ByteArray
  | 0 => none
  | k + 1 => (l[k]?).map (·.1)
theorem firstE_zero (f : Nat → Int) : ∀ (n k : Nat), firstE f n k = 0 ↔ ∀ i, i < n → f (k + i) = 0
  | 0, k => by simp [firstE]
  | n + 1, k => by
    unfold firstE
    split
    · rename_i h
      exact ⟨fun h' => absurd h' h, fun h' => absurd (h' 0 (by omega)) (by simpa using h)⟩
    · rename_i h
      rw [firstE_zero f n (k + 1)]
      constructor
      · intro h' i hi
        cases i with
        | zero => simpa using h
        | succ i => have := h' i (by omega); rwa [show k + 1 + i = k + (i + 1) by omega] at this
      · intro h' i hi
        have := h' (i + 1) (by omega); rwa [show k + (i + 1) = k + 1 + i by omega] at this
theorem chkAt_zero_iff {l : List U} {k : Nat} (h : k < l.length) : chkAt l k = 0 ↔ chk l[k].1 l[k].2 = 0 ∧ ∀ p, prevAt l k = some p → leS l[k].1 p = false := by
  unfold chkAt
  rw [List.getElem?_eq_getElem h]
  simp only
  by_cases hc : chk l[k].1 l[k].2 = 0
  · rw [if_neg (by simp [hc])]
    cases k with
    | zero => simp [prevAt, hc]
    | succ j =>
      simp only [prevAt, List.getElem?_eq_getElem (show j < l.length by omega), Option.map_some, Option.some.injEq]
      cases hl : leS l[j + 1].1 l[j].1 <;> simp [hc, hl]
  · rw [if_pos hc]; simp [hc]
theorem okFrom_iff (l : List U) : ∀ (n k : Nat), k + n = l.length → (okFrom (prevAt l k) (l.drop k) ↔ ∀ i, i < n → chkAt l (k + i) = 0)
  | 0, k, h => by rw [List.drop_eq_nil_of_le (by omega)]; simp [okFrom]
  | n + 1, k, h => by
    have hk : k < l.length := by omega
    have ih := okFrom_iff l n (k + 1) (by omega)
    rw [List.drop_eq_getElem_cons hk, okFrom]
    have hp : prevAt l (k + 1) = some l[k].1 := by simp [prevAt, hk]
    rw [← hp, ih]
    have h0 := chkAt_zero_iff hk
    constructor
    · rintro ⟨h1, h2, h3⟩ i hi
      cases i with
      | zero => exact h0.2 ⟨h1, h2⟩
      | succ i => have := h3 i (by omega); rwa [show k + 1 + i = k + (i + 1) by omega] at this
    · intro h'
      have h1 := h0.1 (h' 0 (by omega))
      exact ⟨h1.1, h1.2, fun i hi => by have := h' (i + 1) (by omega); rwa [show k + (i + 1) = k + 1 + i by omega] at this⟩
theorem chkL_iff (l : List U) : chkL l = 0 ↔ l.length ≤ 32 ∧ okFrom none l := by
  have h1 := okFrom_iff l l.length 0 (by omega)
  have h2 := firstE_zero (chkAt l) l.length 0
  rw [List.drop_zero] at h1
  unfold chkL
  split
  · constructor
    · intro h; cases h
    · intro h; omega
  · rw [h2, ← h1]
    exact ⟨fun h => ⟨by omega, h⟩, fun h => h.2⟩
theorem okFrom_insert {s : ByteArray} {r : Int} (hc : chk s r = 0) : ∀ (l : List U) (prev : Option ByteArray), okFrom prev l → (∀ p, prev = some p → leS s p = false) → (roleL s l).2 = false → okFrom prev (l.take (posL s l) ++ (s, r) :: l.drop (posL s l))
  | [], prev, _, hp, _ => ⟨hc, hp, trivial⟩
  | u :: t, prev, ⟨h1, h2, h3⟩, hp, hr => by
    have hne : (u.1.toList == s.toList) = false := by
      cases he : u.1.toList == s.toList
      · rfl
      · simp [roleL, he] at hr
    have hr' : (roleL s t).2 = false := by simpa [roleL, hne] using hr
    unfold posL
    split
    · rename_i hlt
      rw [List.take_succ_cons, List.drop_succ_cons, List.cons_append]
      exact ⟨h1, h2, okFrom_insert hc t (some u.1) h3 (fun p hp => by cases hp; exact leS_of_lt hlt) hr'⟩
    · rename_i hlt
      have hlt' : Op.bytesLess u.1.toList s.toList = false := by simpa [ltS] using hlt
      exact ⟨hc, hp, h1, fun p hp => by cases hp; unfold leS; rw [hlt', hne]; rfl, h3⟩
theorem add_keeps {l : List U} {s : ByteArray} {r : Int} (h : addE l s r = 0) : chkL (addL l s r) = 0 := by
  have hL : addL l s r = l.take (posL s l) ++ (s, r) :: l.drop (posL s l) := by unfold addL; rw [if_pos h]
  unfold addE at h
  split at h
  · rename_i h1; exact absurd h h1
  rename_i h1
  split at h
  · rename_i h2; exact absurd h h2
  rename_i h2
  split at h
  · cases h
  rename_i h3
  split at h
  · cases h
  rename_i h4
  have hl := (chkL_iff l).1 (by simpa using h1)
  rw [hL]
  refine (chkL_iff _).2 ⟨?_, okFrom_insert (by simpa using h2) l none hl.2 (fun p hp => by cases hp) (by simpa using h3)⟩
  rw [len_insU _ _ _ (posL_le s l)]
  omega
theorem smallU_add {l : List U} {s : ByteArray} {r : Int} (hS : SmallU l) (hs : s.size ≤ maxLen) : SmallU (addL l s r) := by
  unfold addL
  split
  · intro u hu
    rcases List.mem_append.1 hu with hu | hu
    · exact hS u (List.mem_of_mem_take hu)
    · rcases List.mem_cons.1 hu with rfl | hu
      · exact hs
      · exact hS u (List.mem_of_mem_drop hu)
  · intro u hu; cases hu
end Go.Proofs.Ytgmpoakcbgnfbaa
