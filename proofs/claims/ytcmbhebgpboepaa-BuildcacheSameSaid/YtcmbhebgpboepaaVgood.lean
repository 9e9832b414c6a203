/-
  An argument of any plain type (numbers, strings, bools, slices and structs of them), as a value.
-/
import Derived.Test.YtcmbhebgpboepaaVn
import Derived.Test.YtcmbhebgpboepaaOpen
namespace Go.Proofs.Ytcmbhebgpboepaa.V
open Go Go.RowKit
set_option linter.unusedSimpArgs false
set_option linter.unusedVariables false

/-- what is known of a plain value -/
def Sh (P : Program) : Nat → TypeId → AV → Prop
  | 0, _, _ => False
  | n + 1, t, x => match P.underlying t with
    | some (.int k) => ∃ z, x = .int k z ∧ (Lit.int k z).wf = true
    | some .string => ∃ s : ByteArray, x = .str s ∧ s.size ≤ maxLen
    | some .bool => ∃ b, x = .bool b
    | some (.slice e) => ∃ ts, leafs P 8 e = some ts ∧ ∃ len cells, x = .slv len ts.length cells ∧ cells.length = len * ts.length ∧ len ≤ maxLen ∧
        ∀ i, i < len → ∀ j (hj : j < ts.length), Sh P n ts[j] (cells.getD (i * ts.length + j) .junk)
    | _ => False
def plainT (P : Program) : Nat → TypeId → Bool
  | 0, _ => false
  | n + 1, t => match P.underlying t with
    | some (.int _) | some .string | some .bool => true
    | some (.slice e) => match leafs P 8 e with
      | some ts => (P.cellsOf e).beq ts.length && (Nat.blt 0 ts.length && ts.all (plainT P n))
      | none => false
    | _ => false
theorem good_rep {P : Program} {w : World} {M : Nat → Prop} (hM : ∀ g, ¬ M g) : ∀ (n : Nat) (t : TypeId) (v : Value), plainT P n t = true → Good P w n t v → ∃ x, RepF M w v x ∧ Sh P n t x ∧ v.oneCell' = true
  | 0, t, v, h, _ => by simp [plainT] at h
  | n + 1, t, v, h, hg => by
    unfold plainT at h
    unfold Good at hg
    unfold Sh
    split at h
    · rename_i k ht
      simp only [ht] at hg ⊢
      obtain ⟨z, rfl, hz⟩ := hg
      exact ⟨.int k z, .int k z, ⟨z, rfl, hz⟩, rfl⟩
    · rename_i ht
      simp only [ht] at hg ⊢
      obtain ⟨s, rfl, hs⟩ := hg
      exact ⟨.str s, .str s, ⟨s, rfl, hs⟩, rfl⟩
    · rename_i ht
      simp only [ht] at hg ⊢
      obtain ⟨b, rfl⟩ := hg
      exact ⟨.bool b, .bool b, ⟨b, rfl⟩, rfl⟩
    · rename_i e ht
      split at h
      · rename_i ts hts
        simp only [Bool.and_eq_true, Nat.blt_eq, List.all_eq_true] at h
        obtain ⟨h1, h2, h3⟩ := h
        have h1 := Nat.eq_of_beq_eq_true h1
        simp only [ht] at hg ⊢
        obtain ⟨a, len, cap, rfl, hlc, hcm, hno, hall⟩ := hg
        obtain ⟨vs, hvl, hrow, hcell⟩ := hall ts hts h1 h2
        have hk : ∀ k, k < vs.length → k / ts.length < len ∧ k % ts.length < ts.length ∧ k / ts.length * ts.length + k % ts.length = k := fun k hk => by
          refine ⟨?_, Nat.mod_lt _ h2, by rw [Nat.mul_comm]; exact Nat.div_add_mod _ _⟩
          rw [hvl] at hk
          exact (Nat.div_lt_iff_lt_mul h2).2 hk
        obtain ⟨cells, hcl, hcs⟩ := exists_list (Pr := fun k x => ∀ (hkl : k < vs.length), RepF M w vs[k] x ∧ Sh P n (ts[k % ts.length]'(Nat.mod_lt _ h2)) x ∧ (vs[k]).oneCell' = true) vs.length (fun k hkl => by
          obtain ⟨a1, a2, a3⟩ := hk k hkl
          have hg := hcell (k / ts.length) a1 (k % ts.length) a2 (by omega)
          simp only [a3] at hg
          obtain ⟨x, b1, b2, b3⟩ := good_rep hM n _ _ (h3 _ (List.getElem_mem a2)) hg
          exact ⟨x, fun _ => ⟨b1, b2, b3⟩⟩)
        refine ⟨.slv len ts.length cells, ?_, ⟨ts, hts, len, cells, rfl, by rw [hcl, hvl], by omega, fun i hi j hj => ?_⟩, rfl⟩
        · have hget : ∀ i (hi : i < vs.length), vs.getD i undef = vs[i] := fun i hi => by simp [List.getD_eq_getElem?_getD, hi]
          rcases hrow with h0 | ⟨b, off, rfl, hb, hc⟩
          · have hl0 : len = 0 := by
              rcases Nat.eq_zero_or_pos len with h | h
              · exact h
              · have := Nat.mul_pos h h2; rw [← hvl, h0] at this; simp at this
            have hc0 : cells = [] := List.eq_nil_of_length_eq_zero (by rw [hcl, h0]; rfl)
            subst hl0 hc0
            have ho : a = some (a.getD ⟨0, 0, none⟩) ∨ (a = none ∧ cap = 0) := by
              cases a with
              | none => exact Or.inr ⟨rfl, hno rfl⟩
              | some a => exact Or.inl rfl
            exact .slv a _ 0 cap _ [] (fun _ => undef) ho (by simp) hlc hcm h2 (fun i hi => absurd hi (by simp)) (fun i hi => absurd hi (by simp))
          · refine .slv _ ⟨b, off, none⟩ len cap _ cells (fun i => vs.getD i undef) (Or.inl rfl) (by rw [hcl, hvl]) hlc hcm h2 (fun i hi => ?_) (fun i hi => ?_)
            · obtain ⟨_, _, c3⟩ := hcs i hi (by omega)
              rw [hget i (by rw [← hcl]; exact hi)]
              exact ⟨rfl, hb, hM _, hc i (by omega), c3⟩
            · obtain ⟨c1, _, _⟩ := hcs i hi (by omega)
              rw [hget i (by rw [← hcl]; exact hi), getD_get _ _ hi]
              exact c1
        · have hlt : i * ts.length + j < vs.length := by
            rw [hvl]
            calc i * ts.length + j < i * ts.length + ts.length := by omega
              _ = (i + 1) * ts.length := by rw [Nat.add_mul, Nat.one_mul]
              _ ≤ len * ts.length := Nat.mul_le_mul_right _ (by omega)
          obtain ⟨_, c2, _⟩ := hcs (i * ts.length + j) (by omega) hlt
          rw [getD_get _ _ (by omega)]
          have hmod : (i * ts.length + j) % ts.length = j := by rw [Nat.mul_comm, Nat.mul_add_mod, Nat.mod_eq_of_lt hj]
          simp only [hmod] at c2
          exact c2
      · cases h
    · cases h
/-- an argument that is no struct and no array -/
theorem arg_rep {P : Program} {w : World} {t : TypeId} {v : Value} (h : Arg P w t v) (hp : plainT P 8 t = true) : ∃ x, Rep ⟨0, fun _ => none, fun _ => False⟩ w v x ∧ Sh P 8 t x := by
  have hM : ∀ g, ¬ (⟨0, fun _ => none, fun _ => False⟩ : Pl).M g := fun g hg => hg.elim (fun ⟨id, hid⟩ => by cases hid) id
  have hg : Good P w 8 t v := by
    unfold Arg at h
    unfold plainT at hp
    split at h
    · rename_i ht; rw [ht] at hp; cases hp
    · rename_i ht; rw [ht] at hp; cases hp
    · exact h
  obtain ⟨x, h1, h2, _⟩ := good_rep hM 8 t v hp hg
  exact ⟨x, h1.rep, h2⟩
/-- an argument that is a struct or an array -/
theorem arg_agg {P : Program} {w : World} {t : TypeId} {v : Value} {ts : List TypeId} (h : Arg P w t v) (ht : isAggT P t = true) (hl : leafs P 8 t = some ts) (hp : (ts.all (plainT P 8)) = true) :
    ∃ xs, Rep ⟨0, fun _ => none, fun _ => False⟩ w v (.agg xs) ∧ xs.length = ts.length ∧ ∀ i (hi : i < ts.length), Sh P 8 ts[i] (xs.getD i .junk) := by
  have hM : ∀ g, ¬ (⟨0, fun _ => none, fun _ => False⟩ : Pl).M g := fun g hg => hg.elim (fun ⟨id, hid⟩ => by cases hid) id
  have hc : ∃ cs : List Value, v = .agg cs.toArray ∧ ∀ ts, leafs P 8 t = some ts → cs.length = ts.length ∧ ∀ i (h : i < ts.length) (h' : i < cs.length), Good P w 8 ts[i] cs[i] := by
    unfold Arg at h
    unfold isAggT at ht
    split at h
    · exact h
    · exact h
    · rename_i h1 h2
      split at ht
      · rename_i fs hu; exact absurd hu (h1 _)
      · rename_i n e hu; exact absurd hu (h2 _ _)
      · cases ht
  obtain ⟨cs, rfl, hcs⟩ := hc
  obtain ⟨h1, h2⟩ := hcs ts hl
  obtain ⟨xs, hx1, hx2⟩ := exists_list (Pr := fun k x => ∀ (hk : k < ts.length) (hk' : k < cs.length), RepF (⟨0, fun _ => none, fun _ => False⟩ : Pl).M w cs[k] x ∧ Sh P 8 ts[k] x ∧ (cs[k]).oneCell' = true) cs.length (fun k hk => by
    obtain ⟨x, b⟩ := good_rep hM 8 _ _ (List.all_eq_true.1 hp _ (List.getElem_mem (show k < ts.length by omega))) (h2 k (by omega) hk)
    exact ⟨x, fun _ _ => b⟩)
  refine ⟨xs, ⟨_, rfl, by simpa using hx1.symm, fun i a b => ?_⟩, by omega, fun i hi => ?_⟩
  · obtain ⟨c1, _, c3⟩ := hx2 i b (by omega) (by omega)
    exact ⟨by simpa using c3, by simpa using c1.rep0⟩
  · rw [getD_get _ _ (by omega)]
    exact (hx2 i (by omega) hi (by omega)).2.1
end Go.Proofs.Ytcmbhebgpboepaa.V
