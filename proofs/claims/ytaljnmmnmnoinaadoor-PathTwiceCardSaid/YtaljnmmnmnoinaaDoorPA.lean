/-
  Paths: what normalizing twice and lying under a directory come to.
-/
import Derived.Test.YtaljnmmnmnoinaaDoorP9
namespace Go.Proofs.YtaljnmmnmnoinaaDoor
open Go Go.RowKit V
set_option linter.unusedSimpArgs false
set_option linter.unusedVariables false
set_option maxHeartbeats 20000000
theorem bytes_app (a b : ByteArray) : bytes (a ++ b) = bytes a ++ bytes b := by simp [bytes, ByteArray.data_append]
theorem noSlash {x : ByteArray} (h : elF x = true) : ∀ b ∈ bytes x, b ≠ 47 := by
  intro b hb he
  unfold elF okN at h
  rw [Bool.and_eq_true] at h
  obtain ⟨k, hk, hkb⟩ := List.getElem_of_mem hb
  have h2 : okB (byteAt x (k : Int)) = true := by
    have := List.all_eq_true.1 h.2 k (List.mem_range.2 hk)
    exact this
  rw [byteAt_get x k hk, hkb, he] at h2
  cases h2
theorem pcs_join : ∀ l : List (List UInt8), l ≠ [] → (∀ p ∈ l, ∀ b ∈ p, b ≠ 47) → pcs (Lib.join l [47]) = l
  | [], h, _ => absurd rfl h
  | [p], _, h => by rw [Lib.join_one, pcs_none p (h p (by simp))]
  | p :: q :: r, _, h => by
    have e : Lib.join (p :: q :: r) [47] = p ++ 47 :: Lib.join (q :: r) [47] := by
      rw [Lib.join_cons, Lib.join_cons, Lib.joinTail, Lib.joinTail]; simp
    rw [e, pcs_cut p _ (h p (by simp)), pcs_join (q :: r) (by simp) fun p hp => h p (by simp [hp])]
theorem SP_jn (l : List ByteArray) (hne : l ≠ []) (h : ∀ x ∈ l, elF x = true) : SP (jnF l l.length) = l := by
  unfold SP
  rw [jnF_bytes l _ (Nat.le_refl _), List.take_length, pcs_join _ (by simpa using hne) (fun p hp => by
    obtain ⟨x, hx, rfl⟩ := List.mem_map.1 hp
    exact noSlash (h x hx)), List.map_map, show (ofL ∘ bytes) = id from rfl, List.map_id]
theorem nzN_good (l : List ByteArray) (h : ∀ x ∈ l, elF x = true ∧ isDD x = false ∧ isD x = false ∧ isE x = false) : ∀ k, k ≤ l.length → nzN l k = some (l.take k, k)
  | 0, _ => by rw [List.take_zero]; rfl
  | k + 1, hk => by
    have hk' : k < l.length := hk
    obtain ⟨h1, h2, h3, h4⟩ := h _ (getD_mem' hk' bE)
    have et : l.take (k + 1) = l.take k ++ [l.getD k bE] := by
      rw [List.take_succ_eq_append_getElem hk', List.getD_eq_getElem?_getD, List.getElem?_eq_getElem hk']; rfl
    rw [nzN, nzN_good l h k (by omega), et]
    show nz (l.take k, k) (l.getD k bE) = _
    unfold nz
    rw [if_neg (by rw [h4, h3]; simp), if_neg (by rw [h2]; simp), if_pos h1]
    simp only [Option.some.injEq, Prod.mk.injEq, and_true]
    rw [List.take_of_length_le (by rw [List.length_take]; omega)]
theorem jn_take (l : List ByteArray) : ∀ n, n ≤ l.length → jnF (l.take n) n = jnF l n := by
  intro n hn
  apply bytes_inj
  rw [jnF_bytes _ _ (by rw [List.length_take]; omega), jnF_bytes _ _ hn, List.take_take, Nat.min_self]
/-- what a path is -/
theorem NZ_or (s : ByteArray) : ((NZ s).2 ≠ 0 ∧ (NZ s).1 = bE) ∨ ∃ l : List ByteArray, l ≠ [] ∧ l.length ≤ 8 ∧ (∀ x ∈ l, elF x = true ∧ isDD x = false ∧ isD x = false ∧ isE x = false) ∧ NZ s = (jnF l l.length, 0) ∧ (jnF l l.length).size ≤ 64 := by
  unfold NZ
  by_cases h : hpF s slB = true
  · rw [if_pos h]; exact Or.inl ⟨by decide, rfl⟩
  · rw [if_neg h]
    cases hn : nzN (SP s) (SP s).length with
    | none => exact Or.inl ⟨by show (8 : Int) ≠ 0; decide, rfl⟩
    | some q =>
      obtain ⟨g1, g2⟩ := nzN_le _ _ _ hn
      have g3 := nzN_sz _ _ _ hn
      simp only
      by_cases h1 : q.2 = 0
      · rw [if_pos h1]; exact Or.inl ⟨by show (8 : Int) ≠ 0; decide, rfl⟩
      · rw [if_neg h1]
        by_cases h2 : 8 < q.2 ∨ 64 < (jnF (q.1.take q.2) q.2).size
        · rw [if_pos h2]; exact Or.inl ⟨by show (2 : Int) ≠ 0; decide, rfl⟩
        · rw [if_neg h2]
          have hl : (q.1.take q.2).length = q.2 := by rw [List.length_take]; omega
          refine Or.inr ⟨q.1.take q.2, fun he => ?_, by omega, fun x hx => g3 x (List.mem_of_mem_take hx), by rw [hl], by rw [hl]; omega⟩
          rw [he] at hl; simp at hl; omega
theorem jn_first (x : ByteArray) (l : List ByteArray) : ∃ r, bytes (jnF (x :: l) (l.length + 1)) = bytes x ++ r := by
  rw [jnF_bytes (x :: l) (l.length + 1) (by simp), List.take_of_length_le (by simp), List.map_cons, Lib.join_cons]
  exact ⟨_, rfl⟩
theorem jn_noslash {l : List ByteArray} (hne : l ≠ []) (h : ∀ x ∈ l, elF x = true) : hpF (jnF l l.length) slB = false ∧ jnF l l.length ≠ bE := by
  cases l with
  | nil => exact absurd rfl hne
  | cons x l =>
    obtain ⟨r, hr⟩ := jn_first x l
    have hx := h x (by simp)
    have hns := noSlash hx
    have hpos : 0 < x.size := by
      unfold elF at hx
      simp only [Bool.and_eq_true, decide_eq_true_eq] at hx
      omega
    cases hb : bytes x with
    | nil => rw [← bytes_len, hb] at hpos; simp at hpos
    | cons c cs =>
      rw [hb] at hr hns
      have hc : c ≠ 47 := hns c (by simp)
      constructor
      · cases hh : hpF (jnF (x :: l) (x :: l).length) slB with
        | false => rfl
        | true =>
          obtain ⟨h1, h2⟩ := (hp_iff _ _).1 hh
          have h3 : (bytes (jnF (x :: l) (x :: l).length)).take 1 = [47] := h2
          rw [show (x :: l).length = l.length + 1 from rfl, hr] at h3
          simp at h3
          exact absurd h3 hc
      · intro he
        rw [show (x :: l).length = l.length + 1 from rfl] at he
        rw [he] at hr
        simp [bytes, bE] at hr
theorem NZ_again {l : List ByteArray} (hne : l ≠ []) (h8 : l.length ≤ 8) (h : ∀ x ∈ l, elF x = true ∧ isDD x = false ∧ isD x = false ∧ isE x = false) (hs : (jnF l l.length).size ≤ 64) : NZ (jnF l l.length) = (jnF l l.length, 0) := by
  have he := fun x hx => (h x hx).1
  obtain ⟨h1, _⟩ := jn_noslash hne he
  have hlen : l.length ≠ 0 := fun hh => hne (List.eq_nil_of_length_eq_zero hh)
  unfold NZ
  rw [SP_jn l hne he, if_neg (by rw [h1]; decide), nzN_good l h l.length (Nat.le_refl _)]
  simp only [List.take_length]
  rw [if_neg hlen, if_neg (by omega)]
/-! directory and base -/
theorem cut_parts (s : ByteArray) (h0 : hpF s slB = false) : joF (dirF s) (baseF s) = s := by
  unfold joF dirF baseF
  rcases slF_or s s.size with ⟨h1, h2⟩ | ⟨j, h1, h2, h3, h4⟩
  · rw [h1, show (if (0 : Int) > -1 then (0 : Int) else -1) = 0 from rfl]
    rw [if_pos (by rw [emp_iff, decide_eq_true_eq]; exact size_zero (by rw [ByteArray.size_extract]; simp))]
    apply bytes_inj
    rw [bytes_extract, show ((-1 : Int) + 1).toNat = 0 from rfl, Int.toNat_natCast, List.drop_zero, List.take_of_length_le (Nat.le_of_eq (bytes_len s))]
  · rw [h2]
    have hj : 0 < j := by
      rcases Nat.eq_zero_or_pos j with rfl | h
      · exfalso
        rw [hp_slash s h1] at h0
        rw [show ((0 : Nat) : Int) = 0 from rfl] at h3
        rw [h3] at h0; cases h0
      · exact h
    rw [show (if (0 : Int) > (j : Int) then (0 : Int) else (j : Int)) = (j : Int) from if_neg (by omega), show Int.toNat 0 = 0 from rfl, Int.toNat_natCast, Int.toNat_natCast, show ((j : Int) + 1).toNat = j + 1 by omega]
    have hb : bytes (s.extract 0 j) = (bytes s).take j := by rw [bytes_extract, List.drop_zero]
    rw [if_neg (by
      rw [emp_iff, decide_eq_true_eq]
      intro he
      have : (s.extract 0 j).size = 0 := by rw [he]; rfl
      rw [ByteArray.size_extract] at this; omega)]
    apply bytes_inj
    have h47 : (bytes s)[j]'h1 = 47 := by
      rw [byteAt_get s j h1, byte_eq] at h3; exact h3
    rw [bytes_app, bytes_app, hb, bytes_extract, List.take_of_length_le (Nat.le_of_eq (bytes_len s))]
    have e2 : (bytes s).drop j = 47 :: (bytes s).drop (j + 1) := by
      rw [List.drop_eq_getElem_cons (show j < (bytes s).length from h1)]; exact congrArg (· :: _) h47
    conv => rhs; rw [← List.take_append_drop j (bytes s), e2]
    simp [bytes, slB]
theorem under_iff (s t : ByteArray) : unF s t = true ↔ t = bE ∨ s = t ∨ (t.size < s.size ∧ (bytes s).take t.size = bytes t ∧ (bytes s)[t.size]? = some 47) := by
  unfold unF
  simp only [Bool.or_eq_true, decide_eq_true_eq, Bool.and_eq_true, beq_iff_eq]
  constructor
  · rintro (h | h | ⟨h1, h2, h3⟩)
    · exact Or.inl h
    · exact Or.inr (Or.inl h)
    · refine Or.inr (Or.inr ⟨h1, ((hp_iff s t).1 h2).2, ?_⟩)
      rw [byteAt_get s t.size h1, byte_eq] at h3
      rw [List.getElem?_eq_getElem (by exact h1), h3]
  · rintro (h | h | ⟨h1, h2, h3⟩)
    · exact Or.inl h
    · exact Or.inr (Or.inl h)
    · refine Or.inr (Or.inr ⟨h1, (hp_iff s t).2 ⟨by omega, h2⟩, ?_⟩)
      rw [byteAt_get s t.size h1, byte_eq]
      rw [List.getElem?_eq_getElem (by exact h1)] at h3
      exact Option.some.inj h3
theorem under_dir (s : ByteArray) : unF s (dirF s) = true := by
  rw [under_iff]
  unfold dirF
  rcases slF_or s s.size with ⟨h1, h2⟩ | ⟨j, h1, h2, h3, h4⟩
  · rw [h1, if_pos (by omega)]
    exact Or.inl (size_zero (by rw [ByteArray.size_extract]; simp))
  · rw [h2, if_neg (by omega), show Int.toNat 0 = 0 from rfl, Int.toNat_natCast]
    have hz : (s.extract 0 j).size = j := by rw [ByteArray.size_extract]; omega
    refine Or.inr (Or.inr ⟨by omega, ?_, ?_⟩)
    · rw [hz, bytes_extract, List.drop_zero]
    · rw [hz, List.getElem?_eq_getElem (by exact h1)]
      rw [byteAt_get s j h1, byte_eq] at h3
      rw [h3]
theorem under_self (s : ByteArray) : unF s s = true := (under_iff s s).2 (Or.inr (Or.inl rfl))
theorem under_nil (s : ByteArray) : unF s bE = true := (under_iff s bE).2 (Or.inl rfl)
theorem under_trans {a b c : ByteArray} (h1 : unF a b = true) (h2 : unF b c = true) : unF a c = true := by
  rw [under_iff] at *
  rcases h2 with h | rfl | ⟨g1, g2, g3⟩
  · exact Or.inl h
  · exact h1
  · rcases h1 with rfl | rfl | ⟨f1, f2, f3⟩
    · exact absurd g1 (by rw [show bE.size = 0 from rfl]; omega)
    · exact Or.inr (Or.inr ⟨g1, g2, g3⟩)
    · refine Or.inr (Or.inr ⟨by omega, ?_, ?_⟩)
      · rw [← g2, ← f2, List.take_take, Nat.min_eq_left (by omega)]
      · rw [← g3, ← f2, List.getElem?_take_of_lt g1]
theorem under_anti {a b : ByteArray} (ha : a ≠ bE) (hb : b ≠ bE) (hab : a ≠ b) : unF a b = false ∨ unF b a = false := by
  cases h1 : unF a b with
  | false => exact Or.inl rfl
  | true =>
    cases h2 : unF b a with
    | false => exact Or.inr rfl
    | true =>
      exfalso
      rw [under_iff] at h1 h2
      rcases h1 with h | h | ⟨f1, _, _⟩
      · exact hb h
      · exact hab h
      · rcases h2 with h | h | ⟨g1, _, _⟩
        · exact ha h
        · exact hab h.symm
        · omega
end Go.Proofs.YtaljnmmnmnoinaaDoor
