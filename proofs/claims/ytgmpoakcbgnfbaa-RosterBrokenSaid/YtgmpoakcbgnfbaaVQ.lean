/-
  The order in which users are added does not matter.
-/
import Derived.Test.YtgmpoakcbgnfbaaVP
namespace Go.Proofs.Ytgmpoakcbgnfbaa
open Go Go.RowKit V
set_option linter.unusedSimpArgs false
set_option linter.unusedVariables false

theorem bl_trans : ∀ (x y z : List UInt8), Op.bytesLess x y = true → Op.bytesLess y z = true → Op.bytesLess x z = true
  | _, [], _, h, _ => by cases ‹List UInt8› <;> simp [Op.bytesLess] at h
  | _, _ :: _, [], _, h => by simp [Op.bytesLess] at h
  | [], b :: y, c :: z, _, _ => by simp [Op.bytesLess]
  | a :: x, b :: y, c :: z, h, k => by
    simp only [Op.bytesLess, Bool.or_eq_true, Bool.and_eq_true, decide_eq_true_eq, beq_iff_eq] at h k ⊢
    rcases h with h | ⟨rfl, h⟩
    · rcases k with k | ⟨rfl, k⟩
      · exact Or.inl (UInt8.lt_trans h k)
      · exact Or.inl h
    · rcases k with k | ⟨rfl, k⟩
      · exact Or.inl k
      · exact Or.inr ⟨rfl, bl_trans x y z h k⟩
theorem bl_tri : ∀ (x y : List UInt8), Op.bytesLess x y = false → (x == y) = false → Op.bytesLess y x = true
  | [], [], _, h => by simp at h
  | a :: x, [], _, _ => by simp [Op.bytesLess]
  | [], b :: y, h, _ => by simp [Op.bytesLess] at h
  | a :: x, b :: y, h, k => by
    simp only [Op.bytesLess, Bool.or_eq_false_iff, Bool.and_eq_false_iff, decide_eq_false_iff_not, beq_eq_false_iff_ne, ne_eq, Bool.or_eq_true, Bool.and_eq_true, decide_eq_true_eq, beq_iff_eq] at h k ⊢
    rcases UInt8.lt_or_lt_of_ne (a := b) (b := a) with hh
    by_cases hab : b = a
    · subst hab
      refine Or.inr ⟨rfl, bl_tri x y ?_ ?_⟩
      · rcases h.2 with h2 | h2
        · exact absurd rfl h2
        · exact h2
      · rw [beq_eq_false_iff_ne]
        intro e
        exact k (by rw [e])
    · rcases UInt8.lt_or_lt_of_ne hab with h1 | h1
      · exact Or.inl h1
      · exact absurd h1 h.1
theorem lt_of_leS {a b : ByteArray} (h : leS a b = false) : ltS b a = true := by
  unfold leS at h
  rw [Bool.or_eq_false_iff] at h
  exact bl_tri _ _ h.1 h.2
/-- every later name is greater -/
theorem okFrom_gt : ∀ (l : List U) (p : ByteArray), okFrom (some p) l → ∀ u ∈ l, ltS p u.1 = true
  | [], _, _, u, hu => by cases hu
  | x :: r, p, ⟨_, h2, h3⟩, u, hu => by
    have hx := lt_of_leS (h2 p rfl)
    rcases List.mem_cons.1 hu with rfl | hu
    · exact hx
    · exact bl_trans _ _ _ hx (okFrom_gt r x.1 h3 u hu)
theorem lt_irr (a : ByteArray) : ltS a a = false := by
  cases h : ltS a a with
  | false => rfl
  | true => have := bl_asymm _ _ h; simp at this
theorem okFrom_ext : ∀ (l m : List U) (p q : Option ByteArray), okFrom p l → okFrom q m → (∀ u, u ∈ l ↔ u ∈ m) → l = m
  | [], [], _, _, _, _, _ => rfl
  | [], y :: m, _, _, _, _, h => by have := (h y).2 (List.mem_cons_self ..); cases this
  | x :: l, [], _, _, _, _, h => by have := (h x).1 (List.mem_cons_self ..); cases this
  | x :: l, y :: m, p, q, ⟨h1, h2, h3⟩, ⟨k1, k2, k3⟩, h => by
    have hl := okFrom_gt l x.1 h3
    have hm := okFrom_gt m y.1 k3
    have hxy : x = y := by
      rcases List.mem_cons.1 ((h x).1 (List.mem_cons_self ..)) with e | e
      · exact e
      · rcases List.mem_cons.1 ((h y).2 (List.mem_cons_self ..)) with e' | e'
        · exact e'.symm
        · have a := hm x e
          have b := hl y e'
          have := (bl_asymm _ _ a).1
          rw [show Op.bytesLess x.1.toList y.1.toList = ltS x.1 y.1 from rfl, b] at this
          cases this
    subst hxy
    rw [okFrom_ext l m _ _ h3 k3 fun u => ?_]
    have hu := h u
    simp only [List.mem_cons] at hu
    constructor
    · intro e
      rcases hu.1 (Or.inr e) with rfl | e2
      · have := hl _ e; rw [lt_irr] at this; cases this
      · exact e2
    · intro e
      rcases hu.2 (Or.inr e) with rfl | e2
      · have := hm _ e; rw [lt_irr] at this; cases this
      · exact e2
theorem roleL_mem {s : ByteArray} : ∀ {l : List U}, (roleL s l).2 = true → ∃ u ∈ l, u.1 = s
  | [], h => by simp [roleL] at h
  | u :: r, h => by
    unfold roleL at h
    split at h
    · rename_i he
      rw [bytes_beq, decide_eq_true_iff] at he
      exact ⟨u, List.mem_cons_self .., he⟩
    · obtain ⟨v, hv, e⟩ := roleL_mem h
      exact ⟨v, List.mem_cons_of_mem _ hv, e⟩
/-- the list after i of the names -/
def Inv (nm : Nat → ByteArray) (i : Nat) (l : List U) : Prop := chkL l = 0 ∧ l.length ≤ i ∧ ∀ u, u ∈ l ↔ ∃ j, j < i ∧ u = (nm j, 1) ∧ chk (nm j) 1 = 0
theorem Inv.nil (nm : Nat → ByteArray) : Inv nm 0 [] := ⟨by decide, by simp, fun u => by simp⟩
theorem Inv.small {nm : Nat → ByteArray} {i : Nat} {l : List U} (h : Inv nm i l) (hs : ∀ j, (nm j).size ≤ maxLen) : SmallU l := fun u hu => by
  obtain ⟨j, _, rfl, _⟩ := (h.2.2 u).1 hu
  exact hs j
theorem mem_ins {l : List U} {x u : U} (i : Nat) : u ∈ l.take i ++ x :: l.drop i ↔ u = x ∨ u ∈ l := by
  have : u ∈ l ↔ u ∈ l.take i ∨ u ∈ l.drop i := by rw [← List.mem_append, List.take_append_drop]
  rw [List.mem_append, List.mem_cons, this]
  constructor
  · rintro (h | h | h)
    · exact Or.inr (Or.inl h)
    · exact Or.inl h
    · exact Or.inr (Or.inr h)
  · rintro (h | h | h)
    · exact Or.inr (Or.inl h)
    · exact Or.inl h
    · exact Or.inr (Or.inr h)
theorem Inv.add {nm : Nat → ByteArray} {i : Nat} {l : List U} (h : Inv nm i l) (ha : addE l (nm i) 1 = 0) : Inv nm (i + 1) (addL l (nm i) 1) := by
  have hc : chk (nm i) 1 = 0 := by
    unfold addE at ha
    rw [if_neg (by simp [h.1])] at ha
    split at ha
    · rename_i h1; exact absurd ha h1
    · rename_i h1; simpa using h1
  refine ⟨add_keeps ha, ?_, fun u => ?_⟩
  · unfold addL
    rw [if_pos ha, len_insU _ _ _ (posL_le _ l)]
    have := h.2.1; omega
  · unfold addL
    rw [if_pos ha, mem_ins, h.2.2 u]
    constructor
    · rintro (rfl | ⟨j, hj, e, c⟩)
      · exact ⟨i, by omega, rfl, hc⟩
      · exact ⟨j, by omega, e, c⟩
    · rintro ⟨j, hj, e, c⟩
      rcases Nat.lt_or_ge j i with hji | hji
      · exact Or.inr ⟨j, hji, e, c⟩
      · obtain rfl : j = i := by omega
        exact Or.inl e
theorem Inv.skip {nm : Nat → ByteArray} {i : Nat} {l : List U} (h : Inv nm i l) (hi : i < 32) (ha : addE l (nm i) 1 ≠ 0) : Inv nm (i + 1) l := by
  have hl := h.2.1
  refine ⟨h.1, by omega, fun u => ?_⟩
  rw [h.2.2 u]
  constructor
  · rintro ⟨j, hj, e, c⟩
    exact ⟨j, by omega, e, c⟩
  · rintro ⟨j, hj, e, c⟩
    rcases Nat.lt_or_ge j i with hji | hji
    · exact ⟨j, hji, e, c⟩
    · obtain rfl : j = i := by omega
      unfold addE at ha
      rw [if_neg (by simp [h.1]), if_neg (by simp [c])] at ha
      split at ha
      · rename_i hr
        obtain ⟨v, hv, e2⟩ := roleL_mem hr
        obtain ⟨j', hj', e3, c3⟩ := (h.2.2 v).1 hv
        refine ⟨j', hj', ?_, c3⟩
        rw [e, ← e2, e3]
      · rw [if_neg (by omega)] at ha
        exact absurd rfl ha
theorem Inv.same {nm nm' : Nat → ByteArray} {n : Nat} {l m : List U} (h : Inv nm n l) (k : Inv nm' n m) (h1 : ∀ j, j < n → ∃ j', j' < n ∧ nm' j' = nm j) (h2 : ∀ j, j < n → ∃ j', j' < n ∧ nm j' = nm' j) : l = m := by
  refine okFrom_ext l m none none ((chkL_iff l).1 h.1).2 ((chkL_iff m).1 k.1).2 fun u => ?_
  rw [h.2.2 u, k.2.2 u]
  constructor
  · rintro ⟨j, hj, e, c⟩
    obtain ⟨j', hj', e'⟩ := h1 j hj
    exact ⟨j', hj', by rw [e', e], by rw [e', c]⟩
  · rintro ⟨j, hj, e, c⟩
    obtain ⟨j', hj', e'⟩ := h2 j hj
    exact ⟨j', hj', by rw [e', e], by rw [e', c]⟩
/-- the place of the other order -/
def sig (n k j : Nat) : Nat := (n - 1 - j + k) % n
theorem sig_lt {n k j : Nat} (hj : j < n) : sig n k j < n := Nat.mod_lt _ (by omega)
theorem sig_onto {n k j : Nat} (hj : j < n) : ∃ j', j' < n ∧ sig n k j' = j := by
  refine ⟨(n - 1 - j + k) % n, Nat.mod_lt _ (by omega), ?_⟩
  have h0 := Nat.div_add_mod (n - 1 - j + k) n
  have h1 := Nat.mod_lt (n - 1 - j + k) (show 0 < n by omega)
  unfold sig
  generalize (n - 1 - j + k) % n = r at *
  generalize (n - 1 - j + k) / n = q at *
  have : n - 1 - r + k = n * q + j := by omega
  rw [this, Nat.mul_add_mod, Nat.mod_eq_of_lt hj]
end Go.Proofs.Ytgmpoakcbgnfbaa
