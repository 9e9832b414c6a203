/-
  An argument of a plain type, decoded. Over any program.
-/
import Derived.Test.YtcmbhebgpboepaaVgood
import Derived.Test.YtcmbhebgpboepaaVrow
namespace Go.Proofs.Ytcmbhebgpboepaa.V
open Go Go.RowKit
set_option linter.unusedSimpArgs false
set_option linter.unusedVariables false
theorem sh_int {P : Program} {n : Nat} {t : TypeId} {x : AV} {k : IntKind} (ht : P.underlying t = some (.int k)) (h : Sh P (n + 1) t x) : ∃ z, x = .int k z ∧ (Lit.int k z).wf = true := by
  unfold Sh at h; rw [ht] at h; exact h
theorem sh_str {P : Program} {n : Nat} {t : TypeId} {x : AV} (ht : P.underlying t = some .string) (h : Sh P (n + 1) t x) : ∃ s : ByteArray, x = .str s ∧ s.size ≤ 9223372036854775807 := by
  unfold Sh at h; rw [ht] at h; exact h
theorem sh_bool {P : Program} {n : Nat} {t : TypeId} {x : AV} (ht : P.underlying t = some .bool) (h : Sh P (n + 1) t x) : ∃ b, x = .bool b := by
  unfold Sh at h; rw [ht] at h; exact h
theorem cells_rows {α : Type} {enc : α → List AV} {n : Nat} {good : α → Prop} : ∀ (len : Nat) (cells : List AV), cells.length = len * n → (∀ i, i < len → ∃ a, (cells.drop (i * n)).take n = enc a ∧ good a) → ∃ l : List α, l.length = len ∧ cells = flatA enc l ∧ ∀ a ∈ l, good a
  | 0, cells, h, _ => ⟨[], rfl, by simpa [flatA] using h, fun a ha => absurd ha (by simp)⟩
  | len + 1, cells, h, hd => by
    obtain ⟨a, e1, g1⟩ := hd 0 (by omega)
    rw [Nat.zero_mul, List.drop_zero] at e1
    obtain ⟨l, h1, h2, h3⟩ := cells_rows (n := n) (enc := enc) (good := good) len (cells.drop n) (by rw [List.length_drop, h, Nat.succ_mul]; omega) (fun i hi => by
      obtain ⟨b, e2, g2⟩ := hd (i + 1) (by omega)
      refine ⟨b, ?_, g2⟩
      rw [List.drop_drop, show n + i * n = (i + 1) * n by rw [Nat.succ_mul]; omega]
      exact e2)
    refine ⟨a :: l, by simp [h1], ?_, fun b hb => ?_⟩
    · rw [flatA_cons, ← h2, ← e1, List.take_append_drop]
    · rcases List.mem_cons.1 hb with rfl | hb
      · exact g1
      · exact h3 b hb
theorem sh_slice {P : Program} {n : Nat} {t e : TypeId} {ts : List TypeId} {x : AV} {α : Type} (enc : α → List AV) (good : α → Prop) (ht : P.underlying t = some (.slice e)) (hl : leafs P 8 e = some ts)
    (hd : ∀ c : List AV, c.length = ts.length → (∀ j (hj : j < ts.length), Sh P n ts[j] (c.getD j .junk)) → ∃ a, c = enc a ∧ good a) (h : Sh P (n + 1) t x) :
    ∃ l : List α, x = .slv l.length ts.length (flatA enc l) ∧ l.length ≤ 9223372036854775807 ∧ ∀ a ∈ l, good a := by
  unfold Sh at h
  rw [ht] at h
  obtain ⟨ts', h1, len, cells, rfl, h2, h3, h4⟩ := h
  rw [hl] at h1
  cases h1
  obtain ⟨l, rfl, rfl, g⟩ := cells_rows (enc := enc) (good := good) len cells h2 (fun i hi => by
    have hlen : i * ts.length + ts.length ≤ cells.length := by
      rw [h2]
      have : (i + 1) * ts.length ≤ len * ts.length := Nat.mul_le_mul_right _ hi
      rw [Nat.succ_mul] at this
      exact this
    refine hd _ (by rw [List.length_take, List.length_drop]; omega) fun j hj => ?_
    have := h4 i hi j hj
    rw [List.getD_eq_getElem?_getD, List.getElem?_take_of_lt hj, List.getElem?_drop, ← List.getD_eq_getElem?_getD]
    exact this)
  exact ⟨l, rfl, h3, g⟩
theorem flatA_one {α : Type} (f : α → AV) (l : List α) : flatA (fun z => [f z]) l = l.map f := by
  induction l with
  | nil => rfl
  | cons a l ih => rw [flatA_cons, ih]; rfl
/-- rows of one cell -/
theorem sh_ints {P : Program} {n : Nat} {t e : TypeId} {x : AV} {k : IntKind} (ht : P.underlying t = some (.slice e)) (hl : leafs P 8 e = some [e]) (he : P.underlying e = some (.int k)) (h : Sh P (n + 2) t x) :
    ∃ l : List Int, x = .slv l.length 1 (l.map (AV.int k)) ∧ l.length ≤ 9223372036854775807 ∧ ∀ z ∈ l, (Lit.int k z).wf = true := by
  obtain ⟨l, h1, h2, h3⟩ := sh_slice (n := n + 1) (fun z : Int => [AV.int k z]) (fun z => (Lit.int k z).wf = true) ht hl (fun c hc hs => by
    match c, hc with
    | [a], _ =>
      obtain ⟨z, hz, hw⟩ := sh_int he (hs 0 (by simp))
      exact ⟨z, by rw [← hz]; rfl, hw⟩) h
  exact ⟨l, by rw [h1]; exact congrArg _ (flatA_one _ l), h2, h3⟩
theorem sh_strs {P : Program} {n : Nat} {t e : TypeId} {x : AV} (ht : P.underlying t = some (.slice e)) (hl : leafs P 8 e = some [e]) (he : P.underlying e = some .string) (h : Sh P (n + 2) t x) :
    ∃ l : List ByteArray, x = .slv l.length 1 (l.map AV.str) ∧ l.length ≤ 9223372036854775807 ∧ ∀ z ∈ l, z.size ≤ 9223372036854775807 := by
  obtain ⟨l, h1, h2, h3⟩ := sh_slice (n := n + 1) (fun z : ByteArray => [AV.str z]) (fun z => z.size ≤ 9223372036854775807) ht hl (fun c hc hs => by
    match c, hc with
    | [a], _ =>
      obtain ⟨z, hz, hw⟩ := sh_str he (hs 0 (by simp))
      exact ⟨z, by rw [← hz]; rfl, hw⟩) h
  exact ⟨l, by rw [h1]; exact congrArg _ (flatA_one _ l), h2, h3⟩
end Go.Proofs.Ytcmbhebgpboepaa.V
