/-
  Rows of elements of one form: reading, writing, appending, cutting. Over any program.
-/
import Derived.Test.YtcmbhebgpboepaaVgb
namespace Go.Proofs.Ytcmbhebgpboepaa.V
open Go Go.RowKit
set_option linter.unusedSimpArgs false
set_option linter.unusedVariables false
section
variable {α : Type} {enc : α → List AV} {n : Nat}
theorem flatA_noid (enc : α → List AV) (h : ∀ a, ∀ x ∈ enc a, noid0 x = true) (l : List α) : ∀ x ∈ flatA enc l, noid0 x = true := by
  induction l with
  | nil => intro x hx; cases hx
  | cons e l ih =>
    intro x hx
    rcases List.mem_append.1 (show x ∈ enc e ++ flatA enc l from hx) with h' | h'
    · exact h e x h'
    · exact ih x h'
theorem flatA_all_take (h : ∀ x, (enc x).length = n) (l : List α) : (flatA enc l).take (l.length * n) = flatA enc l := List.take_of_length_le (Nat.le_of_eq (flatA_length h l))
theorem flatA_snoc (h : ∀ x, (enc x).length = n) (l : List α) (x : α) : (flatA enc l).take (l.length * n) ++ enc x = flatA enc (l ++ [x]) := by
  rw [flatA_all_take h, flatA_append]; simp [flatA]
theorem flatA_set (h : ∀ x, (enc x).length = n) : ∀ (l : List α) (k : Nat) (_ : k < l.length) (x : α), flatA enc (l.set k x) = (flatA enc l).take (k * n) ++ enc x ++ (flatA enc l).drop (k * n + n)
  | [], k, hk, _ => absurd hk (by simp)
  | a :: l, 0, _, x => by
    rw [List.set_cons_zero, flatA_cons, flatA_cons, Nat.zero_mul, List.take_zero, List.nil_append, Nat.zero_add, ← h a, List.drop_left]
  | a :: l, k + 1, hk, x => by
    have ih := flatA_set h l k (by simpa using hk) x
    rw [List.set_cons_succ, flatA_cons, flatA_cons, ih]
    have e1 : (k + 1) * n = (enc a).length + k * n := by rw [h a, Nat.succ_mul]; omega
    have e2 : (k + 1) * n + n = (enc a).length + (k * n + n) := by rw [e1]; omega
    rw [e2, e1, List.take_length_add_append, List.drop_length_add_append]
    simp only [List.append_assoc]
theorem flatA_set0 (h : ∀ x, (enc x).length = n) (l : List α) (k : Nat) (hk : k < l.length) (x : α) : (flatA enc l).take (0 + (k : Int).toNat * n) ++ enc x ++ (flatA enc l).drop (0 + (k : Int).toNat * n + n) = flatA enc (l.set k x) := by
  rw [Int.toNat_natCast, Nat.zero_add]; exact (flatA_set h l k hk x).symm
/-- one cell of an element written -/
theorem flatA_put (h : ∀ x, (enc x).length = n) (l : List α) (k : Nat) (hk : k < l.length) (d x : α) (o : Nat) (ho : o < n) (v : AV) (hx : enc x = (enc (l.getD k d)).set o v) : (flatA enc l).take (0 + (k : Int).toNat * n + o) ++ [v] ++ (flatA enc l).drop (0 + (k : Int).toNat * n + o + 1) = flatA enc (l.set k x) := by
  rw [flatA_set h l k hk x, hx, Int.toNat_natCast, Nat.zero_add]
  have hc : (flatA enc l).drop (k * n) = enc (l.getD k d) ++ flatA enc (l.drop (k + 1)) := by
    have := flatA_at h l d k hk
    rwa [Int.toNat_natCast] at this
  have hl := h (l.getD k d)
  generalize enc (l.getD k d) = c at hc hl
  have e : flatA enc l = (flatA enc l).take (k * n) ++ (c ++ flatA enc (l.drop (k + 1))) := by rw [← hc, List.take_append_drop]
  have e0 : ((flatA enc l).take (k * n)).length = k * n := by
    rw [List.length_take, flatA_length h]
    have : k * n ≤ l.length * n := Nat.mul_le_mul_right _ (Nat.le_of_lt hk)
    omega
  generalize (flatA enc l).take (k * n) = A at e e0
  rw [e, ← e0, Nat.add_assoc, List.take_length_add_append, List.drop_length_add_append, List.drop_length_add_append, List.take_append_of_le_length (by omega), List.drop_append_of_le_length (by omega), List.set_eq_take_append_cons_drop]
  rw [if_pos (by omega), List.drop_append_of_le_length (by omega)]
  rw [List.drop_eq_nil_of_le (show c.length ≤ n by omega)]
  simp only [List.append_assoc, List.cons_append, List.nil_append]
/-- a part of a row, copied -/
theorem flatA_cut (h : ∀ x, (enc x).length = n) (l : List α) (i j : Nat) : ((flatA enc l).drop (i * n)).take ((j - i) * n) = flatA enc ((l.drop i).take (j - i)) := by
  rw [flatA_drop h, flatA_take h]
theorem getD_mem' {l : List α} {k : Nat} (hk : k < l.length) (d : α) : l.getD k d ∈ l := by
  rw [List.getD_eq_getElem?_getD, List.getElem?_eq_getElem hk]; exact List.getElem_mem hk
theorem getD_snoc_last (l : List α) (x d : α) : (l ++ [x]).getD l.length d = x := by
  simp [List.getD_eq_getElem?_getD]
theorem getD_snoc_lt (l : List α) (x d : α) (k : Nat) (hk : k < l.length) : (l ++ [x]).getD k d = l.getD k d := by
  simp [List.getD_eq_getElem?_getD, List.getElem?_append_left hk]
theorem snoc_length (l : List α) (x : α) : (l ++ [x]).length = l.length + 1 := by simp
end
end Go.Proofs.Ytcmbhebgpboepaa.V
