/-
  Strings cut at a byte: what the pieces are.
-/
import Derived.Test.YtaljnmmnmnoinaaDoorU6
import Derived.Lib.Bytealg
namespace Go.Proofs.YtaljnmmnmnoinaaDoor
open Go Go.RowKit V
set_option linter.unusedSimpArgs false
set_option linter.unusedVariables false
abbrev bE : ByteArray := ByteArray.empty
def bytes (s : ByteArray) : List UInt8 := s.data.toList
def ofL (l : List UInt8) : ByteArray := ⟨l.toArray⟩
theorem ofL_bytes (s : ByteArray) : ofL (bytes s) = s := rfl
theorem bytes_ofL (l : List UInt8) : bytes (ofL l) = l := rfl
theorem bytes_len (s : ByteArray) : (bytes s).length = s.size := rfl
theorem bytes_inj {a b : ByteArray} (h : bytes a = bytes b) : a = b := by rw [← ofL_bytes a, h, ofL_bytes]
theorem toList_bytes (s : ByteArray) : s.toList = bytes s := ByteArray.toList_eq s
theorem str_eq (a b : ByteArray) : (a.toList == b.toList) = decide (a = b) := by
  rw [toList_bytes, toList_bytes]
  by_cases h : a = b
  · subst h; simp
  · rw [decide_eq_false h, beq_eq_false_iff_ne]; exact fun he => h (bytes_inj he)
theorem bytes_extract (s : ByteArray) (a b : Nat) : bytes (s.extract a b) = ((bytes s).take b).drop a := by
  unfold bytes
  rw [ByteArray.data_extract, Array.toList_extract, List.extract_eq_take_drop, ← List.drop_take]
theorem byteAt_get (s : ByteArray) (i : Nat) (h : i < s.size) : byteAt s (i : Int) = (((bytes s)[i]'h).toNat : Int) := by
  unfold byteAt bytes
  rw [Int.toNat_natCast, Array.getD_eq_getD_getElem?, Array.getElem?_eq_getElem (by exact h)]
  simp
theorem byteAt_lt (s : ByteArray) (i : Int) : 0 ≤ byteAt s i ∧ byteAt s i < 256 := by
  unfold byteAt
  have := (s.data.getD i.toNat 0).toNat_lt
  omega
theorem byte_eq (b : UInt8) : ((b.toNat : Int) = 47) ↔ b = 47 := by
  constructor
  · intro h; exact UInt8.toNat_inj.1 (by simp; omega)
  · rintro rfl; rfl
/-- the pieces between the slashes -/
def pcs : List UInt8 → List (List UInt8)
  | [] => [[]]
  | b :: l => if b = 47 then [] :: pcs l else match pcs l with
    | p :: ps => (b :: p) :: ps
    | [] => [[b]]
theorem pcs_none : ∀ l : List UInt8, (∀ b ∈ l, b ≠ 47) → pcs l = [l]
  | [], _ => rfl
  | b :: l, h => by
    unfold pcs
    rw [if_neg (h b (by simp)), pcs_none l fun c hc => h c (by simp [hc])]
theorem pcs_cut : ∀ (p r : List UInt8), (∀ b ∈ p, b ≠ 47) → pcs (p ++ 47 :: r) = p :: pcs r
  | [], r, _ => by rw [List.nil_append, pcs, if_pos rfl]
  | b :: p, r, h => by
    rw [List.cons_append, pcs, if_neg (h b (by simp)), pcs_cut p r fun c hc => h c (by simp [hc])]
theorem pcs_len : ∀ l : List UInt8, (pcs l).length = l.count 47 + 1
  | [] => rfl
  | b :: l => by
    have ih := pcs_len l
    unfold pcs
    by_cases h : b = 47
    · rw [if_pos h, List.length_cons, ih, h, List.count_cons_self]
    · rw [if_neg h, List.count_cons_of_ne (by exact h)]
      cases hp : pcs l with
      | nil => rw [hp] at ih; simp at ih
      | cons p ps => rw [hp] at ih; simpa using ih
def SP (s : ByteArray) : List ByteArray := (pcs (bytes s)).map ofL
theorem SP_len (s : ByteArray) : (SP s).length = (bytes s).count 47 + 1 := by rw [SP, List.length_map, pcs_len]
/-- the reference's loop -/
def rsF (s : ByteArray) : Nat → List ByteArray × Nat
  | 0 => ([], 0)
  | i + 1 => if byteAt s (i : Int) = 47 then ((rsF s i).1 ++ [s.extract (rsF s i).2 i], i + 1) else rsF s i
theorem rsF_spec (s : ByteArray) : ∀ i, i ≤ s.size → (rsF s i).2 ≤ i ∧ (∀ b ∈ ((bytes s).take i).drop (rsF s i).2, b ≠ 47) ∧ (rsF s i).1.map bytes ++ pcs ((bytes s).drop (rsF s i).2) = pcs (bytes s)
  | 0, _ => ⟨Nat.le_refl _, by simp, by simp [rsF]⟩
  | i + 1, hi => by
    obtain ⟨h1, h2, h3⟩ := rsF_spec s i (by omega)
    have hlt : i < (bytes s).length := hi
    have hb := byteAt_get s i hi
    unfold rsF
    by_cases h : byteAt s (i : Int) = 47
    · rw [if_pos h]
      rw [hb, byte_eq] at h
      refine ⟨Nat.le_refl _, by simp, ?_⟩
      have hd : (bytes s).drop (rsF s i).2 = ((bytes s).take i).drop (rsF s i).2 ++ 47 :: (bytes s).drop (i + 1) := by
        have e1 : bytes s = (bytes s).take i ++ (bytes s).drop i := (List.take_append_drop i _).symm
        have e2 : (bytes s).drop i = 47 :: (bytes s).drop (i + 1) := by
          rw [List.drop_eq_getElem_cons hlt]; exact congrArg (· :: _) h
        conv => lhs; rw [e1, e2]
        rw [List.drop_append_of_le_length (by rw [List.length_take]; omega)]
      rw [← h3, hd, pcs_cut _ _ h2, List.map_append, List.append_assoc]
      simp only [List.map_cons, List.map_nil, bytes_extract, List.cons_append, List.nil_append]
    · rw [if_neg h]
      refine ⟨by omega, fun b hb' => ?_, h3⟩
      have e3 : (bytes s).take (i + 1) = (bytes s).take i ++ [(bytes s)[i]] := by rw [List.take_succ_eq_append_getElem hlt]
      rw [e3, List.drop_append_of_le_length (by rw [List.length_take]; omega)] at hb'
      rcases List.mem_append.1 hb' with hb' | hb'
      · exact h2 b hb'
      · rw [List.mem_singleton.1 hb']
        intro h47
        rw [hb, byte_eq] at h
        exact h h47
theorem rsF_SP (s : ByteArray) : (rsF s s.size).1 ++ [s.extract (rsF s s.size).2 s.size] = SP s := by
  obtain ⟨h1, h2, h3⟩ := rsF_spec s s.size (Nat.le_refl _)
  have hall : (bytes s).take s.size = bytes s := List.take_of_length_le (Nat.le_of_eq (bytes_len s))
  rw [hall] at h2
  rw [pcs_none _ h2] at h3
  unfold SP
  rw [← h3, List.map_append, List.map_map]
  congr 1
  · rw [show (ofL ∘ bytes) = id from rfl, List.map_id]
  · simp only [List.map_cons, List.map_nil]
    rw [← ofL_bytes (s.extract _ _), bytes_extract, hall]
/-! the first slash -/
theorem idx_none : ∀ l : List UInt8, Lib.indexByte l 47 = -1 → ∀ b ∈ l, b ≠ 47
  | [], _, b, hb => absurd hb (by simp)
  | a :: l, h, b, hb => by
    unfold Lib.indexByte at h
    by_cases ha : a = 47
    · rw [if_pos (by simp [ha])] at h; cases h
    · rw [if_neg (by simp [ha])] at h
      have hn : Lib.indexByte l 47 = -1 := by
        have := Lib.indexByte_ge l 47
        split at h
        · rename_i h1; exact eq_of_beq h1
        · omega
      rcases List.mem_cons.1 hb with rfl | hb
      · exact ha
      · exact idx_none l hn b hb
theorem idx_some : ∀ (l : List UInt8) (m : Nat), Lib.indexByte l 47 = (m : Int) → (∀ b ∈ l.take m, b ≠ 47) ∧ m < l.length ∧ l = l.take m ++ 47 :: l.drop (m + 1)
  | [], m, h => by unfold Lib.indexByte at h; omega
  | a :: l, m, h => by
    unfold Lib.indexByte at h
    by_cases ha : a = 47
    · rw [if_pos (by simp [ha])] at h
      obtain rfl : m = 0 := by omega
      subst ha
      exact ⟨by simp, by simp, by simp⟩
    · rw [if_neg (by simp [ha])] at h
      have hge := Lib.indexByte_ge l 47
      split at h
      · omega
      · obtain ⟨k, rfl⟩ : ∃ k, m = k + 1 := ⟨m - 1, by rename_i h1; have : Lib.indexByte l 47 ≠ -1 := fun he => h1 (by rw [he]; rfl); omega⟩
        obtain ⟨g1, g2, g3⟩ := idx_some l k (by omega)
        refine ⟨fun b hb => ?_, by simpa using g2, ?_⟩
        · rw [List.take_succ_cons] at hb
          rcases List.mem_cons.1 hb with rfl | hb
          · exact ha
          · exact g1 b hb
        · rw [List.take_succ_cons, List.drop_succ_cons, List.cons_append, ← g3]
theorem cnt_pos {l : List UInt8} (h : 0 < l.count 47) : Lib.indexByte l 47 ≠ -1 := fun he => by
  have := idx_none l he
  rw [List.count_eq_zero.2 fun hm => this 47 hm rfl] at h
  omega
/-- the program's loop: the pieces so far, what is left -/
def gsF (s : ByteArray) : Nat → List ByteArray × ByteArray
  | 0 => ([], s)
  | i + 1 => ((gsF s i).1 ++ [(gsF s i).2.extract 0 (Lib.indexByte (bytes (gsF s i).2) 47).toNat], (gsF s i).2.extract ((Lib.indexByte (bytes (gsF s i).2) 47) + 1).toNat (gsF s i).2.size)
theorem gsF_spec (s : ByteArray) : ∀ i, i ≤ (bytes s).count 47 → (gsF s i).1.length = i ∧ (bytes (gsF s i).2).count 47 = (bytes s).count 47 - i ∧ (gsF s i).1.map bytes ++ pcs (bytes (gsF s i).2) = pcs (bytes s) ∧ (gsF s i).2.size ≤ s.size
  | 0, _ => ⟨rfl, rfl, rfl, Nat.le_refl _⟩
  | i + 1, hi => by
    obtain ⟨h1, h2, h3, h4⟩ := gsF_spec s i (by omega)
    unfold gsF
    generalize (gsF s i).2 = r at *
    generalize (gsF s i).1 = o at *
    have hne := cnt_pos (l := bytes r) (by omega)
    have hge := Lib.indexByte_ge (bytes r) 47
    obtain ⟨m, hm⟩ : ∃ m : Nat, Lib.indexByte (bytes r) 47 = (m : Int) := ⟨(Lib.indexByte (bytes r) 47).toNat, by omega⟩
    obtain ⟨g1, g2, g3⟩ := idx_some _ m hm
    rw [hm]
    have e1 : ((m : Int) + 1).toNat = m + 1 := by omega
    have e2 : bytes (r.extract ((m : Int) + 1).toNat r.size) = (bytes r).drop (m + 1) := by
      rw [bytes_extract, e1, List.take_of_length_le (Nat.le_of_eq (bytes_len r))]
    have e3 : bytes (r.extract 0 (m : Int).toNat) = (bytes r).take m := by rw [bytes_extract, Int.toNat_natCast, List.drop_zero]
    have e4 : (bytes r).count 47 = ((bytes r).drop (m + 1)).count 47 + 1 := by
      conv => lhs; rw [g3]
      rw [List.count_append, List.count_cons_self, List.count_eq_zero.2 fun hm => g1 47 hm rfl]; omega
    refine ⟨by simp [h1], ?_, ?_, ?_⟩
    · simp only [e2]; omega
    · simp only [List.map_append, List.map_cons, List.map_nil, e2, e3, List.append_assoc, List.cons_append, List.nil_append]
      rw [← h3]
      conv => rhs; rw [g3]
      rw [pcs_cut _ _ g1]
    · simp only [ByteArray.size_extract]; omega
theorem gsF_SP (s : ByteArray) : (gsF s ((bytes s).count 47)).1 ++ [(gsF s ((bytes s).count 47)).2] = SP s := by
  obtain ⟨h1, h2, h3, _⟩ := gsF_spec s _ (Nat.le_refl _)
  have h5 : ∀ b ∈ bytes (gsF s ((bytes s).count 47)).2, b ≠ 47 := fun b hb he => by
    have : (bytes (gsF s ((bytes s).count 47)).2).count 47 = 0 := by omega
    rw [List.count_eq_zero] at this
    exact this (he ▸ hb)
  rw [pcs_none _ h5] at h3
  unfold SP
  rw [← h3, List.map_append, List.map_map]
  congr 1
  rw [show (ofL ∘ bytes) = id from rfl, List.map_id]
end Go.Proofs.YtaljnmmnmnoinaaDoor
