/-
  What the law leans on.
-/
import Derived.Test.YthcaeofgegfncaaDoorK3
namespace Go.Proofs.YthcaeofgegfncaaDoor
open Go Go.RowKit V
set_option linter.unusedSimpArgs false
set_option linter.unusedVariables false
abbrev bE : ByteArray := ByteArray.empty
def bytes (s : ByteArray) : List UInt8 := s.data.toList
def ofL (l : List UInt8) : ByteArray := ⟨l.toArray⟩
theorem ofL_bytes (s : ByteArray) : ofL (bytes s) = s := rfl
theorem bytes_len (s : ByteArray) : (bytes s).length = s.size := rfl
theorem bytes_inj {a b : ByteArray} (h : bytes a = bytes b) : a = b := by rw [← ofL_bytes a, h, ofL_bytes]
theorem toList_bytes (s : ByteArray) : s.toList = bytes s := ByteArray.toList_eq s
theorem str_eq (a b : ByteArray) : (a.toList == b.toList) = decide (a = b) := by
  rw [toList_bytes, toList_bytes]
  by_cases h : a = b
  · subst h; simp
  · rw [decide_eq_false h, beq_eq_false_iff_ne]; exact fun he => h (bytes_inj he)
theorem bytes_extract (s : ByteArray) (a b : Nat) : bytes (s.extract a b) = ((bytes s).take b).drop a := by
  unfold bytes
  rw [ByteArray.data_extract, Array.toList_extract, List.extract_eq_take_drop, ← List.drop_take]
theorem byteAt_get (s : ByteArray) (i : Nat) (h : i < s.size) : byteAt s (i : Int) = (((bytes s)[i]'h).toNat : Int) := by
  unfold byteAt bytes
  rw [Int.toNat_natCast, Array.getD_eq_getD_getElem?, Array.getElem?_eq_getElem (by exact h)]
  simp
theorem byte_eq (b : UInt8) : ((b.toNat : Int) = 47) ↔ b = 47 := by
  constructor
  · intro h; exact UInt8.toNat_inj.1 (by simp; omega)
  · rintro rfl; rfl
/-- the pieces between the slashes -/
def pcs : List UInt8 → List (List UInt8)
  | [] => [[]]
  | b :: l => if b = 47 then [] :: pcs l else match pcs l with
    | p :: ps => (b :: p) :: ps
    | [] => [[b]]
theorem pcs_none : ∀ l : List UInt8, (∀ b ∈ l, b ≠ 47) → pcs l = [l]
  | [], _ => rfl
  | b :: l, h => by
    unfold pcs
    rw [if_neg (h b (by simp)), pcs_none l fun c hc => h c (by simp [hc])]
theorem pcs_cut : ∀ (p r : List UInt8), (∀ b ∈ p, b ≠ 47) → pcs (p ++ 47 :: r) = p :: pcs r
  | [], r, _ => by rw [List.nil_append, pcs, if_pos rfl]
  | b :: p, r, h => by
    rw [List.cons_append, pcs, if_neg (h b (by simp)), pcs_cut p r fun c hc => h c (by simp [hc])]
theorem pcs_len : ∀ l : List UInt8, (pcs l).length = l.count 47 + 1
  | [] => rfl
  | b :: l => by
    have ih := pcs_len l
    unfold pcs
    by_cases h : b = 47
    · rw [if_pos h, List.length_cons, ih, h, List.count_cons_self]
    · rw [if_neg h, List.count_cons_of_ne (by exact h)]
      cases hp : pcs l with
      | nil => rw [hp] at ih; simp at ih
      | cons p ps => rw [hp] at ih; simpa using ih
def SP (s : ByteArray) : List ByteArray := (pcs (bytes s)).map ofL
theorem SP_len (s : ByteArray) : (SP s).length = (bytes s).count 47 + 1 := by rw [SP, List.length_map, pcs_len]
/-- the reference's loop -/
def rsF (s : ByteArray) : Nat → List ByteArray × Nat
  | 0 => ([], 0)
  | i + 1 => if byteAt s (i : Int) = 47 then ((rsF s i).1 ++ [s.extract (rsF s i).2 i], i + 1) else rsF s i
theorem rsF_spec (s : ByteArray) : ∀ i, i ≤ s.size → (rsF s i).2 ≤ i ∧ (∀ b ∈ ((bytes s).take i).drop (rsF s i).2, b ≠ 47) ∧ (rsF s i).1.map bytes ++ pcs ((bytes s).drop (rsF s i).2) = pcs (bytes s)
  | 0, _ => ⟨Nat.le_refl _, by simp, by simp [rsF]⟩
  | i + 1, hi => by
    obtain ⟨h1, h2, h3⟩ := rsF_spec s i (by omega)
    have hlt : i < (bytes s).length := hi
    have hb := byteAt_get s i hi
    unfold rsF
    by_cases h : byteAt s (i : Int) = 47
    · rw [if_pos h]
      rw [hb, byte_eq] at h
      refine ⟨Nat.le_refl _, by simp, ?_⟩
      have hd : (bytes s).drop (rsF s i).2 = ((bytes s).take i).drop (rsF s i).2 ++ 47 :: (bytes s).drop (i + 1) := by
        have e1 : bytes s = (bytes s).take i ++ (bytes s).drop i := (List.take_append_drop i _).symm
        have e2 : (bytes s).drop i = 47 :: (bytes s).drop (i + 1) := by
          rw [List.drop_eq_getElem_cons hlt]; exact congrArg (· :: _) h
        conv => lhs; rw [e1, e2]
        rw [List.drop_append_of_le_length (by rw [List.length_take]; omega)]
      rw [← h3, hd, pcs_cut _ _ h2, List.map_append, List.append_assoc]
      simp only [List.map_cons, List.map_nil, bytes_extract, List.cons_append, List.nil_append]
    · rw [if_neg h]
      refine ⟨by omega, fun b hb' => ?_, h3⟩
      have e3 : (bytes s).take (i + 1) = (bytes s).take i ++ [(bytes s)[i]] := by rw [List.take_succ_eq_append_getElem hlt]
      rw [e3, List.drop_append_of_le_length (by rw [List.length_take]; omega)] at hb'
      rcases List.mem_append.1 hb' with hb' | hb'
      · exact h2 b hb'
      · rw [List.mem_singleton.1 hb']
        intro h47
        rw [hb, byte_eq] at h
        exact h h47
theorem rsF_SP (s : ByteArray) : (rsF s s.size).1 ++ [s.extract (rsF s s.size).2 s.size] = SP s := by
  obtain ⟨h1, h2, h3⟩ := rsF_spec s s.size (Nat.le_refl _)
  have hall : (bytes s).take s.size = bytes s := List.take_of_length_le (Nat.le_of_eq (bytes_len s))
  rw [hall] at h2
  rw [pcs_none _ h2] at h3
  unfold SP
  rw [← h3, List.map_append, List.map_map]
  congr 1
  · rw [show (ofL ∘ bytes) = id from rfl, List.map_id]
  · simp only [List.map_cons, List.map_nil]
    rw [← ofL_bytes (s.extract _ _), bytes_extract, hall]
theorem idx_none : ∀ l : List UInt8, Lib.indexByte l 47 = -1 → ∀ b ∈ l, b ≠ 47
  | [], _, b, hb => absurd hb (by simp)
  | a :: l, h, b, hb => by
    unfold Lib.indexByte at h
    by_cases ha : a = 47
    · rw [if_pos (by simp [ha])] at h; cases h
    · rw [if_neg (by simp [ha])] at h
      have hn : Lib.indexByte l 47 = -1 := by
        have := Lib.indexByte_ge l 47
        split at h
        · rename_i h1; exact eq_of_beq h1
        · omega
      rcases List.mem_cons.1 hb with rfl | hb
      · exact ha
      · exact idx_none l hn b hb
theorem idx_some : ∀ (l : List UInt8) (m : Nat), Lib.indexByte l 47 = (m : Int) → (∀ b ∈ l.take m, b ≠ 47) ∧ m < l.length ∧ l = l.take m ++ 47 :: l.drop (m + 1)
  | [], m, h => by unfold Lib.indexByte at h; omega
  | a :: l, m, h => by
    unfold Lib.indexByte at h
    by_cases ha : a = 47
    · rw [if_pos (by simp [ha])] at h
      obtain rfl : m = 0 := by omega
      subst ha
      exact ⟨by simp, by simp, by simp⟩
    · rw [if_neg (by simp [ha])] at h
      have hge := Lib.indexByte_ge l 47
      split at h
      · omega
      · obtain ⟨k, rfl⟩ : ∃ k, m = k + 1 := ⟨m - 1, by rename_i h1; have : Lib.indexByte l 47 ≠ -1 := fun he => h1 (by rw [he]; rfl); omega⟩
        obtain ⟨g1, g2, g3⟩ := idx_some l k (by omega)
        refine ⟨fun b hb => ?_, by simpa using g2, ?_⟩
        · rw [List.take_succ_cons] at hb
          rcases List.mem_cons.1 hb with rfl | hb
          · exact ha
          · exact g1 b hb
        · rw [List.take_succ_cons, List.drop_succ_cons, List.cons_append, ← g3]
theorem cnt_pos {l : List UInt8} (h : 0 < l.count 47) : Lib.indexByte l 47 ≠ -1 := fun he => by
  have := idx_none l he
  rw [List.count_eq_zero.2 fun hm => this 47 hm rfl] at h
  omega
/-- the program's loop: the pieces so far, what is left -/
def gsF (s : ByteArray) : Nat → List ByteArray × ByteArray
  | 0 => ([], s)
  | i + 1 => ((gsF s i).1 ++ [(gsF s i).2.extract 0 (Lib.indexByte (bytes (gsF s i).2) 47).toNat], (gsF s i).2.extract ((Lib.indexByte (bytes (gsF s i).2) 47) + 1).toNat (gsF s i).2.size)
theorem gsF_spec (s : ByteArray) : ∀ i, i ≤ (bytes s).count 47 → (gsF s i).1.length = i ∧ (bytes (gsF s i).2).count 47 = (bytes s).count 47 - i ∧ (gsF s i).1.map bytes ++ pcs (bytes (gsF s i).2) = pcs (bytes s) ∧ (gsF s i).2.size ≤ s.size
  | 0, _ => ⟨rfl, rfl, rfl, Nat.le_refl _⟩
  | i + 1, hi => by
    obtain ⟨h1, h2, h3, h4⟩ := gsF_spec s i (by omega)
    unfold gsF
    generalize (gsF s i).2 = r at *
    generalize (gsF s i).1 = o at *
    have hne := cnt_pos (l := bytes r) (by omega)
    have hge := Lib.indexByte_ge (bytes r) 47
    obtain ⟨m, hm⟩ : ∃ m : Nat, Lib.indexByte (bytes r) 47 = (m : Int) := ⟨(Lib.indexByte (bytes r) 47).toNat, by omega⟩
    obtain ⟨g1, g2, g3⟩ := idx_some _ m hm
    rw [hm]
    have e1 : ((m : Int) + 1).toNat = m + 1 := by omega
    have e2 : bytes (r.extract ((m : Int) + 1).toNat r.size) = (bytes r).drop (m + 1) := by
      rw [bytes_extract, e1, List.take_of_length_le (Nat.le_of_eq (bytes_len r))]
    have e3 : bytes (r.extract 0 (m : Int).toNat) = (bytes r).take m := by rw [bytes_extract, Int.toNat_natCast, List.drop_zero]
    have e4 : (bytes r).count 47 = ((bytes r).drop (m + 1)).count 47 + 1 := by
      conv => lhs; rw [g3]
      rw [List.count_append, List.count_cons_self, List.count_eq_zero.2 fun hm => g1 47 hm rfl]; omega
    refine ⟨by simp [h1], ?_, ?_, ?_⟩
    · simp only [e2]; omega
    · simp only [List.map_append, List.map_cons, List.map_nil, e2, e3, List.append_assoc, List.cons_append, List.nil_append]
      rw [← h3]
      conv => rhs; rw [g3]
      rw [pcs_cut _ _ g1]
    · simp only [ByteArray.size_extract]; omega
theorem gsF_SP (s : ByteArray) : (gsF s ((bytes s).count 47)).1 ++ [(gsF s ((bytes s).count 47)).2] = SP s := by
  obtain ⟨h1, h2, h3, _⟩ := gsF_spec s _ (Nat.le_refl _)
  have h5 : ∀ b ∈ bytes (gsF s ((bytes s).count 47)).2, b ≠ 47 := fun b hb he => by
    have : (bytes (gsF s ((bytes s).count 47)).2).count 47 = 0 := by omega
    rw [List.count_eq_zero] at this
    exact this (he ▸ hb)
  rw [pcs_none _ h5] at h3
  unfold SP
  rw [← h3, List.map_append, List.map_map]
  congr 1
  rw [show (ofL ∘ bytes) = id from rfl, List.map_id]
end Go.Proofs.YthcaeofgegfncaaDoor
namespace Go.Proofs.YthcaeofgegfncaaDoor
open Go Go.RowKit V
set_option linter.unusedSimpArgs false
set_option linter.unusedVariables false
set_option maxHeartbeats 20000000
abbrev slB : ByteArray := ByteArray.mk #[47]
def encS (x : ByteArray) : List AV := [AV.str x]
theorem encS_l (x : ByteArray) : (encS x).length = 1 := rfl
theorem encS_at (l : List ByteArray) (k : Nat) (hk : k < l.length) : (flatA encS l).drop ((k : Int).toNat * 1) = AV.str (l.getD k ByteArray.empty) :: flatA encS (l.drop (k + 1)) := flatA_at encS_l l ByteArray.empty k hk
theorem encS_at0 (l : List ByteArray) (k : Nat) (hk : k < l.length) : (flatA encS l).drop (0 + (k : Int).toNat * 1) = AV.str (l.getD k ByteArray.empty) :: flatA encS (l.drop (k + 1)) := by
  rw [Nat.zero_add]; exact flatA_at encS_l l ByteArray.empty k hk
theorem encS_len (l : List ByteArray) : (flatA encS l).length = l.length * 1 := flatA_length (n := 1) encS_l l
theorem encS_ge (l : List ByteArray) : l.length * 1 ≤ (flatA encS l).length := Nat.le_of_eq (encS_len l).symm
theorem encS_gk (l : List ByteArray) (k : Nat) (hk : k < l.length) : 1 ≤ ((flatA encS l).drop (0 + (k : Int).toNat * 1)).length := by
  rw [encS_at0 l k hk]; simp
theorem encS_noid (l : List ByteArray) : ∀ x ∈ flatA encS l, noid0 x = true := flatA_noid _ (fun a x hx => by
  simp only [encS, List.mem_cons, List.not_mem_nil, or_false] at hx
  rcases hx with rfl <;> rfl) l
theorem encS_plain (l : List ByteArray) : ∀ x ∈ flatA encS l, plain0 x = true := flatA_all (p := fun x => plain0 x = true) (fun a x hx => by
  simp only [encS, List.mem_cons, List.not_mem_nil, or_false] at hx
  rcases hx with rfl <;> rfl) l
theorem encS_lend (l : List ByteArray) : ∀ x ∈ flatA encS l, noid0 x = true ∧ x ≠ .junk := flatA_all (p := fun x => noid0 x = true ∧ x ≠ .junk) (fun a x hx => by
  simp only [encS, List.mem_cons, List.not_mem_nil, or_false] at hx
  rcases hx with rfl <;> exact ⟨rfl, by simp⟩) l
theorem encS_snoc (l : List ByteArray) (x : ByteArray) : (flatA encS l).take (l.length * 1) ++ [AV.str x] = flatA encS (l ++ [x]) := flatA_snoc encS_l l x
theorem encS_set (l : List ByteArray) (k : Nat) (hk : k < l.length) (x : ByteArray) : (flatA encS l).take (0 + (k : Int).toNat * 1) ++ [AV.str x] ++ (flatA encS l).drop (0 + (k : Int).toNat * 1 + 1) = flatA encS (l.set k x) := flatA_set0 encS_l l k hk x
/-- does it hold below n -/
def allN (f : Nat → Bool) (n : Nat) : Bool := (List.range n).all f
theorem allN_or (f : Nat → Bool) (n : Nat) : (allN f n = true ∧ ∀ k, k < n → f k = true) ∨ (allN f n = false ∧ ∃ m, m < n ∧ (∀ k, k < m → f k = true) ∧ f m = false) := by
  induction n with
  | zero => exact Or.inl ⟨rfl, fun k h => absurd h (by omega)⟩
  | succ n ih =>
    have e : allN f (n + 1) = (allN f n && f n) := by unfold allN; rw [List.range_succ, List.all_append]; simp
    rcases ih with ⟨h1, h2⟩ | ⟨h1, m, h2, h3, h4⟩
    · cases hn : f n with
      | true => exact Or.inl ⟨by rw [e, h1, hn]; rfl, fun k hk => by
          rcases Nat.lt_succ_iff_lt_or_eq.1 hk with h | rfl
          · exact h2 k h
          · exact hn⟩
      | false => exact Or.inr ⟨by rw [e, hn, Bool.and_false], n, by omega, h2, hn⟩
    · exact Or.inr ⟨by rw [e, h1]; rfl, m, by omega, h3, h4⟩
def rsS (s : ByteArray) (i : Nat) (o : List ByteArray) (f : Nat) : St := stOf 34 [(0, .str s), (1, .int .u8 47), (5, .sl 0 0 o.length 1), (6, .int .i64 (f : Int)), (7, .int .i64 (i : Int))] [.row 9 (flatA encS o)]
theorem rsF_len (s : ByteArray) : ∀ i, (rsF s i).1.length ≤ i
  | 0 => Nat.le_refl _
  | i + 1 => by
    have := rsF_len s i
    unfold rsF
    split
    · simp; omega
    · omega
theorem refSplitL (s : ByteArray) (hs : s.size ≤ 1000000) : LoopG Tryd.prog 0 Tryd.f37 0 (.exit 0) (stOf 34 [(0, .str s), (5, .sl 0 0 (rsF s s.size).1.length 1), (6, .int .i64 ((rsF s s.size).2 : Int))] [.row 9 (flatA encS (rsF s s.size).1)]) (rsS s 0 [] 0) := by
  refine loopG_of s.size (fun i => rsS s i (rsF s i).1 (rsF s i).2) (by kernel_rfl) (by simp) ?_ ?_
  · intro i hi
    obtain ⟨h1, _, _⟩ := rsF_spec s i (by omega)
    have hb : 0 ≤ ((rsF s i).2 : Int) ∧ ((rsF s i).2 : Int) ≤ (i : Int) ∧ (i : Int) ≤ (s.size : Int) := by omega
    have e : rsF s (i + 1) = if byteAt s (i : Int) = 47 then ((rsF s i).1 ++ [s.extract (rsF s i).2 i], i + 1) else rsF s i := rfl
    rw [e]
    have hlen := rsF_len s i
    generalize rsF s i = q at h1 hb hlen ⊢
    obtain ⟨o, f⟩ := q
    simp only at h1 hb hlen ⊢
    by_cases hq : byteAt s (i : Int) = 47
    · rw [if_pos hq]
      have hq' : (byteAt s (i : Int) == 47) = true := by rw [hq]; rfl
      have sn := encS_snoc o (s.extract f i)
      unfold rsS
      rw [snoc_length]
      have e1' := (Eq.trans (congrArg (fun z => AV.str (s.extract z (↑i : Int).toNat)) (Int.toNat_natCast (f))) (congrArg (fun z => AV.str (s.extract f z)) (Int.toNat_natCast (i))))
      have e2' := (congrArg (fun z => Blk.row 9 z) sn)
      have e3' := (congrArg (fun z => AV.int .i64 z) (wrap_i64 (e := (↑i : Int) + (1 : Int)) (by omega) (by omega)))
      exact g_x [⟨4, [], .br true .no⟩, ⟨10, [], .br true .no⟩, ⟨15, [], .as (rhsOf e1')⟩, ⟨18, [.hp 2 (rhsOf e2')], .no⟩, ⟨20, [], .as (rhsOf e3')⟩, ⟨23, [], .as (rhsOf e3')⟩] [.sel [0, 1, 5, 6, 7], .keep [2] [true]] (And.intro (show decide ((↑i : Int) < (↑s.size : Int)) = true from (by rw [decide_eq_true_iff]; omega)) (And.intro (show (0 : Int) ≤ (↑i : Int) ∧ (↑i : Int) < (↑s.size : Int) from (by omega)) (And.intro (show (byteAt s (↑i : Int) == (47 : Int)) = true from (by assumption)) (And.intro (show (0 : Int) ≤ (↑f : Int) ∧ (↑f : Int) ≤ (↑i : Int) ∧ (↑i : Int) ≤ (↑s.size : Int) from (by omega)) (And.intro e1' (And.intro (show o.length * 1 ≤ (flatA encS o).length from encS_ge o) (And.intro (show 1 ≤ 1 from (by omega)) (And.intro (show (o.length + 1) * 16 ≤ 140737488355328 from (by omega)) (And.intro (show o.length + 1 ≤ maxLen from (by (unfold maxLen; omega))) (And.intro (congrArg some e2') (And.intro e3' (And.intro e3' (show ∀ (x : AV), x ∈ flatA encS (o ++ [s.extract f i]) → noid0 x = true from encS_noid (o ++ [s.extract f i]))))))))))))))
    · rw [if_neg hq]
      have hq' : (byteAt s (i : Int) == 47) = false := beq_eq_false_iff_ne.2 hq
      unfold rsS
      have e1' := (congrArg (fun z => AV.int .i64 z) (wrap_i64 (e := (↑i : Int) + (1 : Int)) (by omega) (by omega)))
      exact g_x [⟨4, [], .br true .no⟩, ⟨10, [], .br false .no⟩, ⟨12, [], .as (rhsOf e1')⟩] [.sel [0, 1, 5, 6, 7]] (And.intro (show decide ((↑i : Int) < (↑s.size : Int)) = true from (by rw [decide_eq_true_iff]; omega)) (And.intro (show (0 : Int) ≤ (↑i : Int) ∧ (↑i : Int) < (↑s.size : Int) from (by omega)) (And.intro (show (byteAt s (↑i : Int) == (47 : Int)) = false from (by assumption)) e1')))
  · unfold rsS
    exact g_x [⟨4, [], .br false .no⟩] [.sel [0, 5, 6]] (show decide ((↑s.size : Int) < (↑s.size : Int)) = false from (by rw [decide_eq_false_iff_not]; omega))
theorem refSplit (s : ByteArray) (hs : s.size ≤ 1000000) : CallsV Tryd.prog 37 [.str s, .int .u8 47] [] (fun av H' => av = .sl 0 0 (SP s).length 1 ∧ H' = [.row 9 (flatA encS (SP s))]) := by
  refine callsG_at Tryd.func37 (by kernel_rfl) ?_
  have hL := refSplitL s hs
  have hP := rsF_SP s
  obtain ⟨h1, _, _⟩ := rsF_spec s s.size (Nat.le_refl _)
  have hlen := rsF_len s s.size
  rw [← hP, snoc_length]
  generalize (rsF s s.size).2 = f at hL h1 ⊢
  generalize (rsF s s.size).1 = o at hL hlen ⊢
  have hb : 0 ≤ (f : Int) ∧ (f : Int) ≤ (s.size : Int) ∧ (s.size : Int) ≤ (s.size : Int) := by omega
  have sn := encS_snoc o (s.extract f s.size)
  unfold rsS at hL
  have e1' := hL
  have e2' := (Eq.trans (congrArg (fun z => AV.str (s.extract z (↑s.size : Int).toNat)) (Int.toNat_natCast (f))) (congrArg (fun z => AV.str (s.extract f z)) (Int.toNat_natCast (s.size))))
  have e3' := (congrArg (fun z => Blk.row 9 z) sn)
  refine g_q [⟨4, [.sel [0, 1, 5, 6, 7], .own 5 9 1], .loop (exOf e1') (endOf e1')⟩, ⟨8, [], .as (rhsOf e2')⟩, ⟨11, [.hp 2 (rhsOf e3')], .no⟩] [.sel [4]] Exit.ret (stOf 34 [(4, AV.sl 2 0 (o.length + 1) 1)] [Blk.dead, Blk.row 9 [AV.str (s.extract f s.size)], Blk.row 9 (flatA encS (o ++ [s.extract f s.size]))]) (And.intro e1' (And.intro (show (0 : Int) ≤ (↑f : Int) ∧ (↑f : Int) ≤ (↑s.size : Int) ∧ (↑s.size : Int) ≤ (↑s.size : Int) from (by omega)) (And.intro e2' (And.intro (show o.length * 1 ≤ (flatA encS o).length from encS_ge o) (And.intro (show 1 ≤ 1 from (by omega)) (And.intro (show (o.length + 1) * 16 ≤ 140737488355328 from (by omega)) (And.intro (show o.length + 1 ≤ maxLen from (by (unfold maxLen; omega))) (congrArg some e3')))))))) ?_
  refine g_f [2] [true] (AV.sl 0 0 (o.length + 1) 1) ([Blk.row 9 (flatA encS (o ++ [s.extract f s.size]))]) (show ∀ (x : AV), x ∈ flatA encS (o ++ [s.extract f s.size]) → noid0 x = true from encS_noid (o ++ [s.extract f s.size])) ?_
  exact ⟨rfl, rfl⟩
theorem idxByte_v (r : ByteArray) : CallsV Tryd.prog 63 [.str r, .int .u8 47] [] (fun av H' => av = .int .i64 (Lib.indexByte (bytes r) 47) ∧ H' = []) := by
  refine callsG_at Tryd.func63 (by kernel_rfl) ?_
  refine g_q [] [.sel [4]] Exit.ret (stOf 8 [(4, AV.int .i64 (Lib.indexByte r.data.toList (Int.toNat (47 : Int)).toUInt8))] []) trivial ?_
  refine g_f [] [] (AV.int .i64 (Lib.indexByte r.data.toList (Int.toNat (47 : Int)).toUInt8)) ([]) trivial ?_
  exact ⟨rfl, rfl⟩
theorem lite_v (r : ByteArray) : CallsV Tryd.prog 59 [.str r, .str slB] [] (fun av H' => av = .int .i64 (Lib.indexByte (bytes r) 47) ∧ H' = []) := by
  refine callsG_at Tryd.func59 (by kernel_rfl) ?_
  have h0 : slB.toList = r.toList → Lib.indexByte (bytes r) 47 = 0 := fun h => by
    rw [toList_bytes, toList_bytes] at h
    rw [← h]; rfl
  cases hr : (slB.toList == r.toList) with
  | true =>
    rw [h0 (eq_of_beq hr)]
    refine g_q [⟨12, [], .br true .no⟩] [.sel [4]] Exit.ret (stOf 143 [(4, AV.int .i64 (0 : Int))] []) (congrArg (fun z => bif false then true else z) hr) ?_
    refine g_f [] [] (AV.int .i64 (0 : Int)) ([]) trivial ?_
    exact ⟨rfl, rfl⟩
  | false =>
    have e1' := idxByte_v r
    refine g_q [⟨12, [], .br false .no⟩, ⟨20, [], .call (avOf e1') (blOf e1') []⟩] [.sel [4]] Exit.ret (stOf 143 [(4, AV.int .i64 (Lib.indexByte (bytes r) (47 : UInt8)))] []) (And.intro (congrArg (fun z => bif false then true else z) hr) (And.intro (show (0 : Int) ≤ (0 : Int) ∧ (0 : Int) < (↑1 : Int) from (by omega)) e1')) ?_
    refine g_f [] [] (AV.int .i64 (Lib.indexByte (bytes r) (47 : UInt8))) ([]) trivial ?_
    exact ⟨rfl, rfl⟩
theorem index_v (r : ByteArray) : CallsV Tryd.prog 53 [.str r, .str slB] [] (fun av H' => av = .int .i64 (Lib.indexByte (bytes r) 47) ∧ H' = []) := by
  refine callsG_at Tryd.func53 (by kernel_rfl) ?_
  have e1' := lite_v r
  refine g_q [⟨3, [], .call (avOf e1') (blOf e1') []⟩] [.sel [4]] Exit.ret (stOf 8 [(4, AV.int .i64 (Lib.indexByte (bytes r) (47 : UInt8)))] []) e1' ?_
  refine g_f [] [] (AV.int .i64 (Lib.indexByte (bytes r) (47 : UInt8))) ([]) trivial ?_
  exact ⟨rfl, rfl⟩
theorem count_v (r : ByteArray) : CallsV Tryd.prog 52 [.str r, .str slB] [] (fun av H' => av = .int .i64 ((bytes r).count 47 : Nat) ∧ H' = []) := by
  refine callsG_at Tryd.func52 (by kernel_rfl) ?_
  refine g_q [] [.sel [4]] Exit.ret (stOf 34 [(4, AV.int .i64 (↑(Lib.countByte r.data.toList (Int.toNat (47 : Int)).toUInt8) : Int))] []) (show (0 : Int) ≤ (0 : Int) ∧ (0 : Int) < (↑1 : Int) from (by omega)) ?_
  refine g_f [] [] (AV.int .i64 (↑(Lib.countByte r.data.toList (Int.toNat (47 : Int)).toUInt8) : Int)) ([]) trivial ?_
  exact ⟨rfl, rfl⟩
def gsS (s r : ByteArray) (i C : Nat) (o : List ByteArray) : St := stOf 66 [(0, .str r), (1, .str slB), (2, .int .i64 0), (3, .int .i64 (C : Int)), (9, .sl 0 0 (C + 1) 1), (10, .int .i64 (i : Int))] [.row 9 (flatA encS o)]
theorem set_mid (o : List ByteArray) (m : Nat) (x : ByteArray) : (o ++ List.replicate (m + 1) bE).set o.length x = (o ++ [x]) ++ List.replicate m bE := by
  rw [List.set_append_right _ _ (Nat.le_refl _), Nat.sub_self, List.replicate_succ, List.set_cons_zero, List.append_assoc]; rfl
theorem genSplitL (s : ByteArray) (hs : s.size ≤ 1000000) (C : Nat) (hC : (bytes s).count 47 = C) : LoopG Tryd.prog 0 Tryd.f46 0 (.exit 0) (stOf 66 [(0, .str (gsF s C).2), (9, .sl 0 0 (C + 1) 1), (10, .int .i64 (C : Int))] [.row 9 (flatA encS ((gsF s C).1 ++ [bE]))]) (gsS s s 0 C (List.replicate (C + 1) bE)) := by
  have hCs : C ≤ s.size := by rw [← hC, ← bytes_len]; exact List.count_le_length
  refine loopG_of C (fun i => gsS s (gsF s i).2 i C ((gsF s i).1 ++ List.replicate (C + 1 - i) bE)) (by kernel_rfl) (by simp [gsF]) ?_ ?_
  · intro i hi
    obtain ⟨h1, h2, h3, h4⟩ := gsF_spec s i (by omega)
    have e : gsF s (i + 1) = ((gsF s i).1 ++ [(gsF s i).2.extract 0 (Lib.indexByte (bytes (gsF s i).2) 47).toNat], (gsF s i).2.extract ((Lib.indexByte (bytes (gsF s i).2) 47) + 1).toNat (gsF s i).2.size) := rfl
    rw [e]
    generalize gsF s i = q at h1 h2 h3 h4 ⊢
    obtain ⟨o, r⟩ := q
    simp only at h1 h2 h3 h4 ⊢
    have hne := cnt_pos (l := bytes r) (by omega)
    have hge := Lib.indexByte_ge (bytes r) 47
    obtain ⟨m, hm⟩ : ∃ m : Nat, Lib.indexByte (bytes r) 47 = (m : Int) := ⟨(Lib.indexByte (bytes r) 47).toNat, by omega⟩
    obtain ⟨_, g2, _⟩ := idx_some _ m hm
    have hmr : m < r.size := g2
    have iv := index_v r
    rw [hm] at iv ⊢
    have hset := encS_set (o ++ List.replicate (C + 1 - i) bE) i (by simp; omega) (r.extract 0 (m : Int).toNat)
    have hmid := set_mid o (C - i) (r.extract 0 (m : Int).toNat)
    rw [h1, show C - i + 1 = C + 1 - i by omega] at hmid
    rw [hmid] at hset
    have hgi : 0 + (i : Int).toNat * 1 + 1 ≤ (flatA encS (o ++ List.replicate (C + 1 - i) bE)).length := by rw [encS_len]; simp; omega
    have hb1 : 0 ≤ (0 : Int) ∧ (0 : Int) ≤ (m : Int) ∧ (m : Int) ≤ (r.size : Int) := by omega
    have hb2 : 0 ≤ (m : Int) + 1 ∧ (m : Int) + 1 ≤ (r.size : Int) ∧ (r.size : Int) ≤ (r.size : Int) := by omega
    rw [show C + 1 - (i + 1) = C - i by omega]
    unfold gsS
    have e1' := iv
    have e2' := (congrArg (fun z => AV.int .i64 z) (wrap_i64 (e := (↑m : Int) + (0 : Int)) (by omega) (by omega)))
    have e3' := (congrArg (fun z => Blk.row 9 z) hset)
    have e4' := (congrArg (fun z => AV.int .i64 z) (wrap_i64 (e := (↑m : Int) + (1 : Int)) (by omega) (by omega)))
    have e5' := (congrArg (fun z => AV.int .i64 z) (wrap_i64 (e := (↑i : Int) + (1 : Int)) (by omega) (by omega)))
    exact g_x [⟨3, [], .br true .no⟩, ⟨6, [], .call (avOf e1') (blOf e1') []⟩, ⟨16, [], .as (rhsOf e2')⟩, ⟨20, [.hp 0 (rhsOf e3')], .no⟩, ⟨24, [], .as (rhsOf e4')⟩, ⟨28, [], .as (rhsOf e5')⟩] [.sel [0, 1, 2, 3, 9, 10]] (And.intro (show decide ((↑i : Int) < (↑C : Int)) = true from (by rw [decide_eq_true_iff]; omega)) (And.intro e1' (And.intro e2' (And.intro (show (0 : Int) ≤ (0 : Int) ∧ (0 : Int) ≤ (↑m : Int) + (0 : Int) ∧ (↑m : Int) + (0 : Int) ≤ (↑r.size : Int) from (by omega)) (And.intro (show (0 : Int) ≤ (↑i : Int) ∧ (↑i : Int) < (↑(C + 1) : Int) from (by omega)) (And.intro (show 0 + (↑i : Int).toNat * 1 + 1 ≤ (flatA encS (o ++ List.replicate (C + 1 - i) bE)).length from (by omega)) (And.intro (congrArg some e3') (And.intro e4' (And.intro (show (0 : Int) ≤ (↑m : Int) + (1 : Int) ∧ (↑m : Int) + (1 : Int) ≤ (↑r.size : Int) ∧ (↑r.size : Int) ≤ (↑r.size : Int) from (by omega)) e5')))))))))
  · rw [show C + 1 - C = 1 by omega, show List.replicate 1 bE = [bE] from rfl]
    unfold gsS
    exact g_x [⟨3, [], .br false .no⟩] [.sel [0, 9, 10]] (show decide ((↑C : Int) < (↑C : Int)) = false from (by rw [decide_eq_false_iff_not]; omega))
theorem zerosS (n : Nat) : zerosL [AV.str (ByteArray.mk #[])] (n * 1) = flatA encS (List.replicate n bE) := by
  rw [Nat.mul_one]
  unfold zerosL
  induction n with
  | zero => rfl
  | succ n ih => rw [List.range_succ, List.map_append, ih, List.replicate_succ', flatA_append]; simp [flatA, encS, Nat.mod_one]; rfl
theorem genSplit_v (s : ByteArray) (hs : s.size ≤ 1000000) : CallsV Tryd.prog 46 [.str s, .str slB, .int .i64 0, .int .i64 (-1)] [] (fun av H' => av = .sl 0 0 (SP s).length 1 ∧ H' = [.row 9 (flatA encS (SP s))]) := by
  refine callsG_at Tryd.func46 (by kernel_rfl) ?_
  have hL := genSplitL s hs _ rfl
  have cv := count_v s
  have hP := gsF_SP s
  obtain ⟨h1, _, _, _⟩ := gsF_spec s _ (Nat.le_refl _)
  have hCs : (bytes s).count 47 ≤ s.size := by rw [← bytes_len]; exact List.count_le_length
  rw [← hP, snoc_length, h1]
  generalize (bytes s).count 47 = C at *
  have hmin : (if (s.size : Int) + 1 < (C : Int) + 1 then (s.size : Int) + 1 else (C : Int) + 1) = ((C + 1 : Nat) : Int) := by split <;> omega
  have hset := encS_set ((gsF s C).1 ++ [bE]) C (by simp; omega) (gsF s C).2
  have hmid := set_mid (gsF s C).1 0 (gsF s C).2
  rw [h1] at hmid
  have hmid' : ((gsF s C).1 ++ [bE]).set C (gsF s C).2 = (gsF s C).1 ++ [(gsF s C).2] := by
    have := hmid; simpa using this
  rw [hmid'] at hset
  have hgi : 0 + (C : Int).toNat * 1 + 1 ≤ (flatA encS ((gsF s C).1 ++ [bE])).length := by rw [encS_len]; simp; omega
  have hgk : (C + 1) * 1 ≤ (flatA encS ((gsF s C).1 ++ [(gsF s C).2])).length := by rw [encS_len]; simp; omega
  have hcc : ((C + 1 : Nat) : Int) - 1 = (C : Int) := by omega
  have z := zerosS (C + 1)
  generalize List.replicate (C + 1) bE = R0 at *
  generalize (gsF s C).1 = o at *
  generalize (gsF s C).2 = r at *
  unfold gsS at hL
  have e1' := cv
  have e2' := (congrArg (fun z => AV.int .i64 z) (wrap_i64 (e := (↑C : Int) + (1 : Int)) (by omega) (by omega)))
  have e3' := (congrArg (fun z => AV.int .i64 z) (wrap_i64 (e := (↑s.size : Int) + (1 : Int)) (by omega) (by omega)))
  have e4' := (congrArg (fun z => AV.int .i64 z) hmin)
  have e5' := (congrArg (fun z => AV.sl 0 0 z 1) (Int.toNat_natCast (C + 1)))
  have e6' := (congrArg (fun z => Blk.row 9 z) z)
  have e7' := (Eq.trans (congrArg (fun z => AV.int .i64 (IntKind.i64.wrap z)) hcc) (congrArg (fun z => AV.int .i64 z) (wrap_i64 (e := (↑C : Int)) (by omega) (by omega))))
  have e8' := hL
  have e9' := (congrArg (fun z => AV.ptr 0 (0 + z * 1)) (Int.toNat_natCast (C)))
  have e10' := (congrArg (fun z => Blk.row 9 z) hset)
  have e11' := (Eq.trans (congrArg (fun z => AV.sl 0 0 (z - Int.toNat (0 : Int)) 1) (Int.toNat_natCast (C + 1))) (congrArg (fun z => AV.sl 0 0 (C + 1 - z) 1) (Int.toNat_natCast (0))))
  refine g_q [⟨12, [], .call (avOf e1') (blOf e1') []⟩, ⟨13, [], .as (rhsOf e2')⟩, ⟨18, [], .as (rhsOf e3')⟩, ⟨19, [], .as (rhsOf e4')⟩, ⟨22, [], .as (rhsOf e5')⟩, ⟨23, [.hp 0 (rhsOf e6')], .no⟩, ⟨25, [], .as (rhsOf e7')⟩, ⟨28, [.sel [0, 1, 2, 3, 9, 10]], .loop (exOf e8') (endOf e8')⟩, ⟨32, [], .as (rhsOf e9')⟩, ⟨34, [.hp 0 (rhsOf e10')], .no⟩, ⟨36, [], .as (rhsOf e2')⟩, ⟨37, [], .as (rhsOf e11')⟩] [.sel [8]] Exit.ret (stOf 66 [(8, AV.sl 0 0 (C + 1 - 0) 1)] [Blk.row 9 (flatA encS (o ++ [r]))]) (And.intro e1' (And.intro e2' (And.intro e3' (And.intro e4' (And.intro (show (0 : Int) ≤ (↑(C + 1) : Int) ∧ (↑(C + 1) : Int) ≤ (↑(C + 1) : Int) from (by omega)) (And.intro (show (↑16 : Int) * (↑(C + 1) : Int) ≤ (281474976710656 : Int) ∧ (↑(C + 1) : Int) ≤ (9223372036854775807 : Int) from (by omega)) (And.intro e5' (And.intro (congrArg some e6') (And.intro e7' (And.intro e8' (And.intro (show (0 : Int) ≤ (↑C : Int) ∧ (↑C : Int) < (↑(C + 1) : Int) from (by omega)) (And.intro e9' (And.intro (show 0 + C * 1 + 1 ≤ (flatA encS (o ++ [bE])).length from (by omega)) (And.intro (congrArg some e10') (And.intro e2' (And.intro (show (0 : Int) ≤ (0 : Int) ∧ (0 : Int) ≤ (↑C : Int) + (1 : Int) ∧ (↑C : Int) + (1 : Int) ≤ (↑(C + 1) : Int) from (by omega)) e11')))))))))))))))) ?_
  refine g_f [0] [true] (AV.sl 0 0 (C + 1 - 0) 1) ([Blk.row 9 (flatA encS (o ++ [r]))]) (show ∀ (x : AV), x ∈ flatA encS (o ++ [r]) → noid0 x = true from encS_noid (o ++ [r])) ?_
  exact ⟨rfl, rfl⟩

end Go.Proofs.YthcaeofgegfncaaDoor
namespace Go.Proofs.YthcaeofgegfncaaDoor
open Go Go.RowKit V
set_option linter.unusedSimpArgs false
set_option linter.unusedVariables false
set_option maxHeartbeats 20000000
def hpF (s t : ByteArray) : Bool := bif decide ((t.size : Int) ≤ (s.size : Int)) then (s.extract 0 t.size).toList == t.toList else false
theorem liteHP (s t : ByteArray) (hs : s.size ≤ 9223372036854775807) : CallsV Tryd.prog 45 [.str s, .str t] [] (fun av H' => av = .bool (hpF s t) ∧ H' = []) := by
  refine callsG_at Tryd.func45 (by kernel_rfl) ?_
  unfold hpF
  by_cases h : (t.size : Int) ≤ (s.size : Int)
  · rw [decide_eq_true h, cond_true]
    have hb : 0 ≤ (0 : Int) ∧ (0 : Int) ≤ (t.size : Int) ∧ (t.size : Int) ≤ (s.size : Int) := by omega
    have e1' := (Eq.trans (congrArg (fun z => AV.str (s.extract z (↑t.size : Int).toNat)) (Int.toNat_natCast (0))) (congrArg (fun z => AV.str (s.extract 0 z)) (Int.toNat_natCast (t.size))))
    refine g_q [⟨7, [.tm 10 (.bool true)], .no⟩, ⟨10, [], .as (rhsOf e1')⟩] [.sel [4]] Exit.ret (stOf 18 [(4, AV.bool (bif true then (s.extract 0 t.size).toList == t.toList else false))] []) (And.intro (congrArg AV.bool (show decide ((↑s.size : Int) ≥ (↑t.size : Int)) = true from (by rw [decide_eq_true_iff]; omega))) (And.intro (show (0 : Int) ≤ (0 : Int) ∧ (0 : Int) ≤ (↑t.size : Int) ∧ (↑t.size : Int) ≤ (↑s.size : Int) from (by omega)) e1')) ?_
    refine g_f [] [] (AV.bool (bif true then (s.extract 0 t.size).toList == t.toList else false)) ([]) trivial ?_
    exact ⟨rfl, rfl⟩
  · rw [decide_eq_false h, cond_false]
    refine g_q [⟨7, [.tm 10 (.bool false)], .no⟩] [.sel [4]] Exit.ret (stOf 18 [(4, AV.bool false)] []) (And.intro (congrArg AV.bool (show decide ((↑s.size : Int) ≥ (↑t.size : Int)) = false from (by rw [decide_eq_false_iff_not]; omega))) (show false = true → false = true from (fun h => h))) ?_
    refine g_f [] [] (AV.bool false) ([]) trivial ?_
    exact ⟨rfl, rfl⟩
theorem hasPrefix_v (s t : ByteArray) (hs : s.size ≤ 9223372036854775807) : CallsV Tryd.prog 40 [.str s, .str t] [] (fun av H' => av = .bool (hpF s t) ∧ H' = []) := by
  refine callsG_at Tryd.func40 (by kernel_rfl) ?_
  have e1' := liteHP s t hs
  refine g_q [⟨3, [], .call (avOf e1') (blOf e1') []⟩] [.sel [4]] Exit.ret (stOf 8 [(4, AV.bool (hpF s t))] []) e1' ?_
  refine g_f [] [] (AV.bool (hpF s t)) ([]) trivial ?_
  exact ⟨rfl, rfl⟩
theorem liteCP (s t : ByteArray) (hs : s.size ≤ 9223372036854775807) : CallsV Tryd.prog 44 [.str s, .str t] [] (fun av H' => av = .tuple [.str (bif hpF s t then s.extract t.size s.size else s), .bool (hpF s t)] ∧ H' = []) := by
  refine callsG_at Tryd.func44 (by kernel_rfl) ?_
  have hp := liteHP s t hs
  cases h : hpF s t with
  | true =>
    rw [h] at hp
    have hb : 0 ≤ (t.size : Int) ∧ (t.size : Int) ≤ (s.size : Int) ∧ (s.size : Int) ≤ (s.size : Int) := by
      unfold hpF at h
      by_cases h1 : (t.size : Int) ≤ (s.size : Int)
      · omega
      · rw [decide_eq_false h1] at h; cases h
    have e1' := hp
    have e2' := (Eq.trans (congrArg (fun z => AV.str (s.extract z (↑s.size : Int).toNat)) (Int.toNat_natCast (t.size))) (congrArg (fun z => AV.str (s.extract t.size z)) (Int.toNat_natCast (s.size))))
    refine g_q [⟨4, [], .call (avOf e1') (blOf e1') []⟩, ⟨10, [], .as (rhsOf e2')⟩] [.sel [4, 5]] Exit.ret (stOf 15 [(4, AV.str (s.extract t.size s.size)), (5, AV.bool true)] []) (And.intro e1' (And.intro (show (0 : Int) ≤ (↑t.size : Int) ∧ (↑t.size : Int) ≤ (↑s.size : Int) ∧ (↑s.size : Int) ≤ (↑s.size : Int) from (by omega)) e2')) ?_
    refine g_f [] [] (AV.tuple [AV.str (s.extract t.size s.size), AV.bool true]) ([]) trivial ?_
    exact ⟨rfl, rfl⟩
  | false =>
    rw [h] at hp
    have e1' := hp
    refine g_q [⟨4, [], .call (avOf e1') (blOf e1') []⟩] [.sel [4, 5]] Exit.ret (stOf 15 [(4, AV.str s), (5, AV.bool false)] []) e1' ?_
    refine g_f [] [] (AV.tuple [AV.str s, AV.bool false]) ([]) trivial ?_
    exact ⟨rfl, rfl⟩
theorem cutPrefix_v (s t : ByteArray) (hs : s.size ≤ 9223372036854775807) : CallsV Tryd.prog 36 [.str s, .str t] [] (fun av H' => av = .tuple [.str (bif hpF s t then s.extract t.size s.size else s), .bool (hpF s t)] ∧ H' = []) := by
  refine callsG_at Tryd.func36 (by kernel_rfl) ?_
  have e1' := liteCP s t hs
  refine g_q [⟨4, [], .call (avOf e1') (blOf e1') []⟩] [.sel [4, 5]] Exit.ret (stOf 11 [(4, AV.str (bif hpF s t then s.extract t.size s.size else s)), (5, AV.bool (hpF s t))] []) e1' ?_
  refine g_f [] [] (AV.tuple [AV.str (bif hpF s t then s.extract t.size s.size else s), AV.bool (hpF s t)]) ([]) trivial ?_
  exact ⟨rfl, rfl⟩
def okB (c : Int) : Bool := bif bif bif bif bif decide (97 ≤ c) then decide (c ≤ 122) else false then true else bif decide (48 ≤ c) then decide (c ≤ 57) else false then true else c == 45 then true else c == 95 then true else c == 46
theorem elB_v (c : Int) : CallsV Tryd.prog 47 [.int .u8 c] [] (fun av H' => av = .bool (okB c) ∧ H' = []) := by
  refine callsG_at Tryd.func47 (by kernel_rfl) ?_
  refine g_q [⟨4, [], .gd⟩, ⟨5, [], .gd⟩, ⟨8, [], .gd⟩, ⟨9, [], .gd⟩, ⟨10, [], .gd⟩, ⟨11, [], .gd⟩, ⟨12, [], .gd⟩, ⟨13, [], .gd⟩, ⟨16, [], .gd⟩, ⟨17, [], .gd⟩, ⟨20, [], .gd⟩, ⟨21, [], .gd⟩, ⟨24, [], .gd⟩, ⟨25, [], .gd⟩] [.sel [2]] Exit.ret (stOf 29 [(2, AV.bool (bif bif bif bif bif decide ((97 : Int) ≤ c) then decide (c ≤ (122 : Int)) else false then true else bif decide ((48 : Int) ≤ c) then decide (c ≤ (57 : Int)) else false then true else c == (45 : Int) then true else c == (95 : Int) then true else c == (46 : Int)))] []) (And.intro (show (decide ((97 : Int) ≤ c) == true) = true → (decide ((97 : Int) ≤ c) == true) = true from (fun h => h)) (And.intro (show decide ((97 : Int) ≤ c) = true → (decide ((97 : Int) ≤ c) == true) = true from (by (simp; done))) (And.intro (show ((bif decide ((97 : Int) ≤ c) then decide (c ≤ (122 : Int)) else false) == false) = true → ((bif decide ((97 : Int) ≤ c) then decide (c ≤ (122 : Int)) else false) == false) = true from (fun h => h)) (And.intro (show ((bif decide ((97 : Int) ≤ c) then decide (c ≤ (122 : Int)) else false) == false) = true → ((bif decide ((97 : Int) ≤ c) then decide (c ≤ (122 : Int)) else false) == false) = true from (fun h => h)) (And.intro (show ((bif decide ((97 : Int) ≤ c) then decide (c ≤ (122 : Int)) else false) == false && decide ((48 : Int) ≤ c) == true) = true → ((bif decide ((97 : Int) ≤ c) then decide (c ≤ (122 : Int)) else false) == false && decide ((48 : Int) ≤ c) == true) = true from (fun h => h)) (And.intro (show ((bif decide ((97 : Int) ≤ c) then decide (c ≤ (122 : Int)) else false) == false) = true → ((bif decide ((97 : Int) ≤ c) then decide (c ≤ (122 : Int)) else false) == false) = true from (fun h => h)) (And.intro (show ((bif decide ((97 : Int) ≤ c) then decide (c ≤ (122 : Int)) else false) == false) = true → decide ((48 : Int) ≤ c) = true → ((bif decide ((97 : Int) ≤ c) then decide (c ≤ (122 : Int)) else false) == false && decide ((48 : Int) ≤ c) == true) = true from (by (simp; omega))) (And.intro (show (bif decide ((97 : Int) ≤ c) then decide (c ≤ (122 : Int)) else false) = false → ((bif decide ((97 : Int) ≤ c) then decide (c ≤ (122 : Int)) else false) == false) = true from (by (simp; omega))) (And.intro (show ((bif bif decide ((97 : Int) ≤ c) then decide (c ≤ (122 : Int)) else false then true else bif decide ((48 : Int) ≤ c) then decide (c ≤ (57 : Int)) else false) == false) = true → ((bif bif decide ((97 : Int) ≤ c) then decide (c ≤ (122 : Int)) else false then true else bif decide ((48 : Int) ≤ c) then decide (c ≤ (57 : Int)) else false) == false) = true from (fun h => h)) (And.intro (show (bif bif decide ((97 : Int) ≤ c) then decide (c ≤ (122 : Int)) else false then true else bif decide ((48 : Int) ≤ c) then decide (c ≤ (57 : Int)) else false) = false → ((bif bif decide ((97 : Int) ≤ c) then decide (c ≤ (122 : Int)) else false then true else bif decide ((48 : Int) ≤ c) then decide (c ≤ (57 : Int)) else false) == false) = true from (by (simp; omega))) (And.intro (show ((bif bif bif decide ((97 : Int) ≤ c) then decide (c ≤ (122 : Int)) else false then true else bif decide ((48 : Int) ≤ c) then decide (c ≤ (57 : Int)) else false then true else c == (45 : Int)) == false) = true → ((bif bif bif decide ((97 : Int) ≤ c) then decide (c ≤ (122 : Int)) else false then true else bif decide ((48 : Int) ≤ c) then decide (c ≤ (57 : Int)) else false then true else c == (45 : Int)) == false) = true from (fun h => h)) (And.intro (show (bif bif bif decide ((97 : Int) ≤ c) then decide (c ≤ (122 : Int)) else false then true else bif decide ((48 : Int) ≤ c) then decide (c ≤ (57 : Int)) else false then true else c == (45 : Int)) = false → ((bif bif bif decide ((97 : Int) ≤ c) then decide (c ≤ (122 : Int)) else false then true else bif decide ((48 : Int) ≤ c) then decide (c ≤ (57 : Int)) else false then true else c == (45 : Int)) == false) = true from (by (simp; omega))) (And.intro (show ((bif bif bif bif decide ((97 : Int) ≤ c) then decide (c ≤ (122 : Int)) else false then true else bif decide ((48 : Int) ≤ c) then decide (c ≤ (57 : Int)) else false then true else c == (45 : Int) then true else c == (95 : Int)) == false) = true → ((bif bif bif bif decide ((97 : Int) ≤ c) then decide (c ≤ (122 : Int)) else false then true else bif decide ((48 : Int) ≤ c) then decide (c ≤ (57 : Int)) else false then true else c == (45 : Int) then true else c == (95 : Int)) == false) = true from (fun h => h)) (show (bif bif bif bif decide ((97 : Int) ≤ c) then decide (c ≤ (122 : Int)) else false then true else bif decide ((48 : Int) ≤ c) then decide (c ≤ (57 : Int)) else false then true else c == (45 : Int) then true else c == (95 : Int)) = false → ((bif bif bif bif decide ((97 : Int) ≤ c) then decide (c ≤ (122 : Int)) else false then true else bif decide ((48 : Int) ≤ c) then decide (c ≤ (57 : Int)) else false then true else c == (45 : Int) then true else c == (95 : Int)) == false) = true from (by (simp; omega)))))))))))))))) ?_
  refine g_f [] [] (AV.bool (bif bif bif bif bif decide ((97 : Int) ≤ c) then decide (c ≤ (122 : Int)) else false then true else bif decide ((48 : Int) ≤ c) then decide (c ≤ (57 : Int)) else false then true else c == (45 : Int) then true else c == (95 : Int) then true else c == (46 : Int))) ([]) trivial ?_
  exact ⟨rfl, rfl⟩
def okN (s : ByteArray) : Bool := allN (fun k => okB (byteAt s (k : Int))) s.size
def elF (s : ByteArray) : Bool := decide (1 ≤ s.size ∧ s.size ≤ 24) && okN s
theorem isEl_v (s : ByteArray) (hs : s.size ≤ 1000000) : CallsV Tryd.prog 42 [.str s] [] (fun av H' => av = .bool (elF s) ∧ H' = []) := by
  refine callsG_at Tryd.func42 (by kernel_rfl) ?_
  unfold elF okN
  have hS : ∀ k, stOf 23 [(0, .str s), (13, .int .i64 (s.size : Int)), (14, .int .i64 (k : Int))] [] = stOf 23 [(0, .str s), (13, .int .i64 (s.size : Int)), (14, .int .i64 (k : Int))] [] := fun _ => rfl
  rcases allN_or (fun k => okB (byteAt s (k : Int))) s.size with ⟨h1, h2⟩ | ⟨h1, m, hm, h2, h3⟩
  · have hL : LoopG Tryd.prog 0 Tryd.f42 0 (.exit 0) (stOf 23 [] []) (stOf 23 [(0, .str s), (13, .int .i64 (s.size : Int)), (14, .int .i64 ((0 : Nat) : Int))] []) := by
      refine loopG_of s.size (fun k => stOf 23 [(0, .str s), (13, .int .i64 (s.size : Int)), (14, .int .i64 (k : Int))] []) (by kernel_rfl) (by simp) ?_ ?_
      · intro k hk
        have h2 : okB (byteAt s (k : Int)) = true := h2 k hk
        have e1' := (elB_v (byteAt s (↑k : Int)))
        have e2' := (congrArg (fun z => AV.int .i64 z) (wrap_i64 (e := (↑k : Int) + (1 : Int)) (by omega) (by omega)))
        exact g_x [⟨1, [], .br true .no⟩, ⟨7, [], .call (avOf e1') (blOf e1') []⟩, ⟨9, [], .br false .no⟩, ⟨10, [], .as (rhsOf e2')⟩] [.sel [0, 13, 14]] (And.intro (show decide ((↑k : Int) < (↑s.size : Int)) = true from (by rw [decide_eq_true_iff]; omega)) (And.intro (show (0 : Int) ≤ (↑k : Int) ∧ (↑k : Int) < (↑s.size : Int) from (by omega)) (And.intro e1' (And.intro (congrArg (fun z => !z) h2) e2'))))
      · exact g_x [⟨1, [], .br false .no⟩] [.sel []] (show decide ((↑s.size : Int) < (↑s.size : Int)) = false from (by rw [decide_eq_false_iff_not]; omega))
    rw [h1]
    refine g_split (bif (↑s.size : Int) == (0 : Int) then true else decide ((↑s.size : Int) > (24 : Int))) (fun hq1 => ?_) (fun hq1 => ?_)
    · (have gq1 := hq1; simp only [Bool.cond_true_left, Bool.cond_false_right, Bool.cond_false_left, Bool.cond_true_right, beq_true, beq_false, Bool.not_not, Bool.or_eq_true, Bool.and_eq_true, Bool.or_eq_false_iff, Bool.and_eq_false_iff, Bool.not_eq_true', Bool.not_eq_false', beq_iff_eq, beq_eq_false_iff_ne, bne_iff_ne, bne_eq_false_iff_eq, decide_eq_true_eq, decide_eq_false_iff_not, ne_eq] at gq1)
      refine g_q [⟨5, [], .gd⟩, ⟨6, [], .gd⟩, ⟨7, [], .gd⟩, ⟨9, [], .br true .no⟩] [.sel [2]] Exit.ret (stOf 23 [(2, AV.bool false)] []) (And.intro (show (((↑s.size : Int) == (0 : Int)) == false) = true → (((↑s.size : Int) == (0 : Int)) == false) = true from (fun h => h)) (And.intro (show (((↑s.size : Int) == (0 : Int)) == false) = true → (((↑s.size : Int) == (0 : Int)) == false) = true from (fun h => h)) (And.intro (show ((↑s.size : Int) == (0 : Int)) = false → (((↑s.size : Int) == (0 : Int)) == false) = true from (by (simp; done))) (show (bif (↑s.size : Int) == (0 : Int) then true else decide ((↑s.size : Int) > (24 : Int))) = true from (by assumption))))) ?_
      refine g_f [] [] (AV.bool false) ([]) trivial ?_
      exact ⟨by simp; omega, rfl⟩
    · (have gq1 := hq1; simp only [Bool.cond_true_left, Bool.cond_false_right, Bool.cond_false_left, Bool.cond_true_right, beq_true, beq_false, Bool.not_not, Bool.or_eq_true, Bool.and_eq_true, Bool.or_eq_false_iff, Bool.and_eq_false_iff, Bool.not_eq_true', Bool.not_eq_false', beq_iff_eq, beq_eq_false_iff_ne, bne_iff_ne, bne_eq_false_iff_eq, decide_eq_true_eq, decide_eq_false_iff_not, ne_eq] at gq1)
      have e1' := hL
      refine g_q [⟨5, [], .gd⟩, ⟨6, [], .gd⟩, ⟨7, [], .gd⟩, ⟨9, [], .br false .no⟩, ⟨13, [.sel [0, 13, 14]], .loop (exOf e1') (endOf e1')⟩] [] Exit.ret (stOf 23 [(2, AV.bool true)] []) (And.intro (show (((↑s.size : Int) == (0 : Int)) == false) = true → (((↑s.size : Int) == (0 : Int)) == false) = true from (fun h => h)) (And.intro (show (((↑s.size : Int) == (0 : Int)) == false) = true → (((↑s.size : Int) == (0 : Int)) == false) = true from (fun h => h)) (And.intro (show ((↑s.size : Int) == (0 : Int)) = false → (((↑s.size : Int) == (0 : Int)) == false) = true from (by (simp; done))) (And.intro (show (bif (↑s.size : Int) == (0 : Int) then true else decide ((↑s.size : Int) > (24 : Int))) = false from (by assumption)) e1')))) ?_
      refine g_f [] [] (AV.bool true) ([]) trivial ?_
      exact ⟨by simp; omega, rfl⟩
  · have hL : LoopG Tryd.prog 0 Tryd.f42 0 .ret (stOf 23 [(2, .bool false)] []) (stOf 23 [(0, .str s), (13, .int .i64 (s.size : Int)), (14, .int .i64 ((0 : Nat) : Int))] []) := by
      refine loopG_of m (fun k => stOf 23 [(0, .str s), (13, .int .i64 (s.size : Int)), (14, .int .i64 (k : Int))] []) (by kernel_rfl) (by simp) ?_ ?_
      · intro k hk
        have h2 : okB (byteAt s (k : Int)) = true := h2 k hk
        have e1' := (elB_v (byteAt s (↑k : Int)))
        have e2' := (congrArg (fun z => AV.int .i64 z) (wrap_i64 (e := (↑k : Int) + (1 : Int)) (by omega) (by omega)))
        exact g_x [⟨1, [], .br true .no⟩, ⟨7, [], .call (avOf e1') (blOf e1') []⟩, ⟨9, [], .br false .no⟩, ⟨10, [], .as (rhsOf e2')⟩] [.sel [0, 13, 14]] (And.intro (show decide ((↑k : Int) < (↑s.size : Int)) = true from (by rw [decide_eq_true_iff]; omega)) (And.intro (show (0 : Int) ≤ (↑k : Int) ∧ (↑k : Int) < (↑s.size : Int) from (by omega)) (And.intro e1' (And.intro (congrArg (fun z => !z) h2) e2'))))
      · have h3 : okB (byteAt s (m : Int)) = false := h3
        have e1' := (elB_v (byteAt s (↑m : Int)))
        exact g_x [⟨1, [], .br true .no⟩, ⟨7, [], .call (avOf e1') (blOf e1') []⟩, ⟨9, [], .br true .no⟩] [.sel [2]] (And.intro (show decide ((↑m : Int) < (↑s.size : Int)) = true from (by rw [decide_eq_true_iff]; omega)) (And.intro (show (0 : Int) ≤ (↑m : Int) ∧ (↑m : Int) < (↑s.size : Int) from (by omega)) (And.intro e1' (congrArg (fun z => !z) h3))))
    rw [h1, Bool.and_false]
    refine g_split (bif false then true else decide ((↑s.size : Int) > (24 : Int))) (fun hq1 => ?_) (fun hq1 => ?_)
    · (have gq1 := hq1; simp only [Bool.cond_true_left, Bool.cond_false_right, Bool.cond_false_left, Bool.cond_true_right, beq_true, beq_false, Bool.not_not, Bool.or_eq_true, Bool.and_eq_true, Bool.or_eq_false_iff, Bool.and_eq_false_iff, Bool.not_eq_true', Bool.not_eq_false', beq_iff_eq, beq_eq_false_iff_ne, bne_iff_ne, bne_eq_false_iff_eq, decide_eq_true_eq, decide_eq_false_iff_not, ne_eq] at gq1)
      refine g_q [⟨5, [.tm 7 (.bool false)], .no⟩, ⟨9, [], .br true .no⟩] [.sel [2]] Exit.ret (stOf 23 [(2, AV.bool false)] []) (And.intro (congrArg AV.bool (show ((↑s.size : Int) == (0 : Int)) = false from (by rw [beq_eq_false_iff_ne]; omega))) (show (bif false then true else decide ((↑s.size : Int) > (24 : Int))) = true from (by assumption))) ?_
      refine g_f [] [] (AV.bool false) ([]) trivial ?_
      exact ⟨by simp, rfl⟩
    · (have gq1 := hq1; simp only [Bool.cond_true_left, Bool.cond_false_right, Bool.cond_false_left, Bool.cond_true_right, beq_true, beq_false, Bool.not_not, Bool.or_eq_true, Bool.and_eq_true, Bool.or_eq_false_iff, Bool.and_eq_false_iff, Bool.not_eq_true', Bool.not_eq_false', beq_iff_eq, beq_eq_false_iff_ne, bne_iff_ne, bne_eq_false_iff_eq, decide_eq_true_eq, decide_eq_false_iff_not, ne_eq] at gq1)
      have e1' := hL
      refine g_q [⟨5, [.tm 7 (.bool false)], .no⟩, ⟨9, [], .br false .no⟩, ⟨13, [.sel [0, 13, 14]], .loop (exOf e1') (endOf e1')⟩] [] Exit.ret (stOf 23 [(2, AV.bool false)] []) (And.intro (congrArg AV.bool (show ((↑s.size : Int) == (0 : Int)) = false from (by rw [beq_eq_false_iff_ne]; omega))) (And.intro (show (bif false then true else decide ((↑s.size : Int) > (24 : Int))) = false from (by assumption)) e1')) ?_
      refine g_f [] [] (AV.bool false) ([]) trivial ?_
      exact ⟨by simp, rfl⟩
abbrev dB : ByteArray := ByteArray.mk #[46]
abbrev ddB : ByteArray := ByteArray.mk #[46, 46]
theorem elfin (s : ByteArray) (h1 : (s.toList == dB.toList) = false) (h2 : (s.toList == ddB.toList) = false) : AV.bool (bif bif bif decide ((s.size : Int) ≥ 1) then decide ((s.size : Int) ≤ 24) else false then !(s.toList == dB.toList) else false then !(s.toList == ddB.toList) else false) = AV.bool (decide (1 ≤ s.size ∧ s.size ≤ 24) && true) := by
  rw [h1, h2]
  by_cases a : 1 ≤ s.size <;> by_cases b : s.size ≤ 24 <;> simp [a, b] <;> omega
theorem el_v (s : ByteArray) (hs : s.size ≤ 1000000) (hd1 : (s.toList == dB.toList) = false) (hd2 : (s.toList == ddB.toList) = false) : CallsV Tryd.prog 38 [.str s] [] (fun av H' => av = .bool (elF s) ∧ H' = []) := by
  refine callsG_at Tryd.func38 (by kernel_rfl) ?_
  unfold elF okN
  rcases allN_or (fun k => okB (byteAt s (k : Int))) s.size with ⟨h1, h2⟩ | ⟨h1, m, hm, h2, h3⟩
  · have hL : LoopG Tryd.prog 0 Tryd.f38 0 (.exit 0) (stOf 57 [(0, .str s)] []) (stOf 57 [(0, .str s), (3, .int .i64 ((0 : Nat) : Int))] []) := by
      refine loopG_of s.size (fun k => stOf 57 [(0, .str s), (3, .int .i64 (k : Int))] []) (by kernel_rfl) (by simp) ?_ ?_
      · intro k hk
        have h2 : okB (byteAt s (k : Int)) = true := h2 k hk
        unfold okB at h2
        generalize hc : byteAt s (k : Int) = c at h2
        have e1' := (congrArg (fun z => AV.int .u8 z) hc)
        have e2' := (congrArg (fun z => AV.int .i64 z) (wrap_i64 (e := (↑k : Int) + (1 : Int)) (by omega) (by omega)))
        exact g_x [⟨4, [], .br true .no⟩, ⟨7, [], .as (rhsOf e1')⟩, ⟨12, [], .gd⟩, ⟨13, [], .gd⟩, ⟨16, [], .gd⟩, ⟨17, [], .gd⟩, ⟨18, [], .gd⟩, ⟨19, [], .gd⟩, ⟨20, [], .gd⟩, ⟨21, [], .gd⟩, ⟨24, [], .gd⟩, ⟨25, [], .gd⟩, ⟨28, [], .gd⟩, ⟨29, [], .gd⟩, ⟨32, [], .gd⟩, ⟨33, [], .gd⟩, ⟨36, [], .br false .no⟩, ⟨38, [], .as (rhsOf e2')⟩] [.sel [0, 3]] (And.intro (show decide ((↑k : Int) < (↑s.size : Int)) = true from (by rw [decide_eq_true_iff]; omega)) (And.intro (show (0 : Int) ≤ (↑k : Int) ∧ (↑k : Int) < (↑s.size : Int) from (by omega)) (And.intro e1' (And.intro (show (decide (c ≥ (97 : Int)) == true) = true → (decide (c ≥ (97 : Int)) == true) = true from (fun h => h)) (And.intro (show decide (c ≥ (97 : Int)) = true → (decide (c ≥ (97 : Int)) == true) = true from (by (simp; done))) (And.intro (show ((bif decide (c ≥ (97 : Int)) then decide (c ≤ (122 : Int)) else false) == false) = true → ((bif decide (c ≥ (97 : Int)) then decide (c ≤ (122 : Int)) else false) == false) = true from (fun h => h)) (And.intro (show ((bif decide (c ≥ (97 : Int)) then decide (c ≤ (122 : Int)) else false) == false) = true → ((bif decide (c ≥ (97 : Int)) then decide (c ≤ (122 : Int)) else false) == false) = true from (fun h => h)) (And.intro (show ((bif decide (c ≥ (97 : Int)) then decide (c ≤ (122 : Int)) else false) == false && decide (c ≥ (48 : Int)) == true) = true → ((bif decide (c ≥ (97 : Int)) then decide (c ≤ (122 : Int)) else false) == false && decide (c ≥ (48 : Int)) == true) = true from (fun h => h)) (And.intro (show ((bif decide (c ≥ (97 : Int)) then decide (c ≤ (122 : Int)) else false) == false) = true → ((bif decide (c ≥ (97 : Int)) then decide (c ≤ (122 : Int)) else false) == false) = true from (fun h => h)) (And.intro (show ((bif decide (c ≥ (97 : Int)) then decide (c ≤ (122 : Int)) else false) == false) = true → decide (c ≥ (48 : Int)) = true → ((bif decide (c ≥ (97 : Int)) then decide (c ≤ (122 : Int)) else false) == false && decide (c ≥ (48 : Int)) == true) = true from (by (simp; omega))) (And.intro (show (bif decide (c ≥ (97 : Int)) then decide (c ≤ (122 : Int)) else false) = false → ((bif decide (c ≥ (97 : Int)) then decide (c ≤ (122 : Int)) else false) == false) = true from (by (simp; omega))) (And.intro (show ((bif bif decide (c ≥ (97 : Int)) then decide (c ≤ (122 : Int)) else false then true else bif decide (c ≥ (48 : Int)) then decide (c ≤ (57 : Int)) else false) == false) = true → ((bif bif decide (c ≥ (97 : Int)) then decide (c ≤ (122 : Int)) else false then true else bif decide (c ≥ (48 : Int)) then decide (c ≤ (57 : Int)) else false) == false) = true from (fun h => h)) (And.intro (show (bif bif decide (c ≥ (97 : Int)) then decide (c ≤ (122 : Int)) else false then true else bif decide (c ≥ (48 : Int)) then decide (c ≤ (57 : Int)) else false) = false → ((bif bif decide (c ≥ (97 : Int)) then decide (c ≤ (122 : Int)) else false then true else bif decide (c ≥ (48 : Int)) then decide (c ≤ (57 : Int)) else false) == false) = true from (by (simp; omega))) (And.intro (show ((bif bif bif decide (c ≥ (97 : Int)) then decide (c ≤ (122 : Int)) else false then true else bif decide (c ≥ (48 : Int)) then decide (c ≤ (57 : Int)) else false then true else c == (45 : Int)) == false) = true → ((bif bif bif decide (c ≥ (97 : Int)) then decide (c ≤ (122 : Int)) else false then true else bif decide (c ≥ (48 : Int)) then decide (c ≤ (57 : Int)) else false then true else c == (45 : Int)) == false) = true from (fun h => h)) (And.intro (show (bif bif bif decide (c ≥ (97 : Int)) then decide (c ≤ (122 : Int)) else false then true else bif decide (c ≥ (48 : Int)) then decide (c ≤ (57 : Int)) else false then true else c == (45 : Int)) = false → ((bif bif bif decide (c ≥ (97 : Int)) then decide (c ≤ (122 : Int)) else false then true else bif decide (c ≥ (48 : Int)) then decide (c ≤ (57 : Int)) else false then true else c == (45 : Int)) == false) = true from (by (simp; omega))) (And.intro (show ((bif bif bif bif decide (c ≥ (97 : Int)) then decide (c ≤ (122 : Int)) else false then true else bif decide (c ≥ (48 : Int)) then decide (c ≤ (57 : Int)) else false then true else c == (45 : Int) then true else c == (95 : Int)) == false) = true → ((bif bif bif bif decide (c ≥ (97 : Int)) then decide (c ≤ (122 : Int)) else false then true else bif decide (c ≥ (48 : Int)) then decide (c ≤ (57 : Int)) else false then true else c == (45 : Int) then true else c == (95 : Int)) == false) = true from (fun h => h)) (And.intro (show (bif bif bif bif decide (c ≥ (97 : Int)) then decide (c ≤ (122 : Int)) else false then true else bif decide (c ≥ (48 : Int)) then decide (c ≤ (57 : Int)) else false then true else c == (45 : Int) then true else c == (95 : Int)) = false → ((bif bif bif bif decide (c ≥ (97 : Int)) then decide (c ≤ (122 : Int)) else false then true else bif decide (c ≥ (48 : Int)) then decide (c ≤ (57 : Int)) else false then true else c == (45 : Int) then true else c == (95 : Int)) == false) = true from (by (simp; omega))) (And.intro (congrArg (fun z => !z) h2) e2'))))))))))))))))))
      · exact g_x [⟨4, [], .br false .no⟩] [.sel [0]] (show decide ((↑s.size : Int) < (↑s.size : Int)) = false from (by rw [decide_eq_false_iff_not]; omega))
    rw [h1]
    have e1' := hL
    refine g_q [⟨2, [.sel [0, 3]], .loop (exOf e1') (endOf e1')⟩, ⟨7, [], .gd⟩, ⟨8, [], .gd⟩, ⟨9, [], .gd⟩, ⟨12, [], .gd⟩, ⟨13, [], .gd⟩, ⟨16, [], .gd⟩, ⟨17, [], .gd⟩] [.sel [2]] Exit.ret (stOf 57 [(2, AV.bool (bif bif bif decide ((↑s.size : Int) ≥ (1 : Int)) then decide ((↑s.size : Int) ≤ (24 : Int)) else false then !s.toList == (ByteArray.mk #[(46 : UInt8)]).toList else false then !s.toList == (ByteArray.mk #[(46 : UInt8), (46 : UInt8)]).toList else false))] []) (And.intro e1' (And.intro (show (decide ((↑s.size : Int) ≥ (1 : Int)) == true) = true → (decide ((↑s.size : Int) ≥ (1 : Int)) == true) = true from (fun h => h)) (And.intro (show (decide ((↑s.size : Int) ≥ (1 : Int)) == true) = true → (decide ((↑s.size : Int) ≥ (1 : Int)) == true) = true from (fun h => h)) (And.intro (show decide ((↑s.size : Int) ≥ (1 : Int)) = true → (decide ((↑s.size : Int) ≥ (1 : Int)) == true) = true from (by (simp; done))) (And.intro (show ((bif decide ((↑s.size : Int) ≥ (1 : Int)) then decide ((↑s.size : Int) ≤ (24 : Int)) else false) == true) = true → ((bif decide ((↑s.size : Int) ≥ (1 : Int)) then decide ((↑s.size : Int) ≤ (24 : Int)) else false) == true) = true from (fun h => h)) (And.intro (show (bif decide ((↑s.size : Int) ≥ (1 : Int)) then decide ((↑s.size : Int) ≤ (24 : Int)) else false) = true → ((bif decide ((↑s.size : Int) ≥ (1 : Int)) then decide ((↑s.size : Int) ≤ (24 : Int)) else false) == true) = true from (by (simp; done))) (And.intro (show ((bif bif decide ((↑s.size : Int) ≥ (1 : Int)) then decide ((↑s.size : Int) ≤ (24 : Int)) else false then !s.toList == (ByteArray.mk #[(46 : UInt8)]).toList else false) == true) = true → ((bif bif decide ((↑s.size : Int) ≥ (1 : Int)) then decide ((↑s.size : Int) ≤ (24 : Int)) else false then !s.toList == (ByteArray.mk #[(46 : UInt8)]).toList else false) == true) = true from (fun h => h)) (show (bif bif decide ((↑s.size : Int) ≥ (1 : Int)) then decide ((↑s.size : Int) ≤ (24 : Int)) else false then !s.toList == (ByteArray.mk #[(46 : UInt8)]).toList else false) = true → ((bif bif decide ((↑s.size : Int) ≥ (1 : Int)) then decide ((↑s.size : Int) ≤ (24 : Int)) else false then !s.toList == (ByteArray.mk #[(46 : UInt8)]).toList else false) == true) = true from (by (simp; done)))))))))) ?_
    refine g_f [] [] (AV.bool (bif bif bif decide ((↑s.size : Int) ≥ (1 : Int)) then decide ((↑s.size : Int) ≤ (24 : Int)) else false then !s.toList == (ByteArray.mk #[(46 : UInt8)]).toList else false then !s.toList == (ByteArray.mk #[(46 : UInt8), (46 : UInt8)]).toList else false)) ([]) trivial ?_
    exact ⟨elfin s hd1 hd2, rfl⟩
  · have hL : LoopG Tryd.prog 0 Tryd.f38 0 .ret (stOf 57 [(2, .bool false)] []) (stOf 57 [(0, .str s), (3, .int .i64 ((0 : Nat) : Int))] []) := by
      refine loopG_of m (fun k => stOf 57 [(0, .str s), (3, .int .i64 (k : Int))] []) (by kernel_rfl) (by simp) ?_ ?_
      · intro k hk
        have h2 : okB (byteAt s (k : Int)) = true := h2 k hk
        unfold okB at h2
        generalize hc : byteAt s (k : Int) = c at h2
        have e1' := (congrArg (fun z => AV.int .u8 z) hc)
        have e2' := (congrArg (fun z => AV.int .i64 z) (wrap_i64 (e := (↑k : Int) + (1 : Int)) (by omega) (by omega)))
        exact g_x [⟨4, [], .br true .no⟩, ⟨7, [], .as (rhsOf e1')⟩, ⟨12, [], .gd⟩, ⟨13, [], .gd⟩, ⟨16, [], .gd⟩, ⟨17, [], .gd⟩, ⟨18, [], .gd⟩, ⟨19, [], .gd⟩, ⟨20, [], .gd⟩, ⟨21, [], .gd⟩, ⟨24, [], .gd⟩, ⟨25, [], .gd⟩, ⟨28, [], .gd⟩, ⟨29, [], .gd⟩, ⟨32, [], .gd⟩, ⟨33, [], .gd⟩, ⟨36, [], .br false .no⟩, ⟨38, [], .as (rhsOf e2')⟩] [.sel [0, 3]] (And.intro (show decide ((↑k : Int) < (↑s.size : Int)) = true from (by rw [decide_eq_true_iff]; omega)) (And.intro (show (0 : Int) ≤ (↑k : Int) ∧ (↑k : Int) < (↑s.size : Int) from (by omega)) (And.intro e1' (And.intro (show (decide (c ≥ (97 : Int)) == true) = true → (decide (c ≥ (97 : Int)) == true) = true from (fun h => h)) (And.intro (show decide (c ≥ (97 : Int)) = true → (decide (c ≥ (97 : Int)) == true) = true from (by (simp; done))) (And.intro (show ((bif decide (c ≥ (97 : Int)) then decide (c ≤ (122 : Int)) else false) == false) = true → ((bif decide (c ≥ (97 : Int)) then decide (c ≤ (122 : Int)) else false) == false) = true from (fun h => h)) (And.intro (show ((bif decide (c ≥ (97 : Int)) then decide (c ≤ (122 : Int)) else false) == false) = true → ((bif decide (c ≥ (97 : Int)) then decide (c ≤ (122 : Int)) else false) == false) = true from (fun h => h)) (And.intro (show ((bif decide (c ≥ (97 : Int)) then decide (c ≤ (122 : Int)) else false) == false && decide (c ≥ (48 : Int)) == true) = true → ((bif decide (c ≥ (97 : Int)) then decide (c ≤ (122 : Int)) else false) == false && decide (c ≥ (48 : Int)) == true) = true from (fun h => h)) (And.intro (show ((bif decide (c ≥ (97 : Int)) then decide (c ≤ (122 : Int)) else false) == false) = true → ((bif decide (c ≥ (97 : Int)) then decide (c ≤ (122 : Int)) else false) == false) = true from (fun h => h)) (And.intro (show ((bif decide (c ≥ (97 : Int)) then decide (c ≤ (122 : Int)) else false) == false) = true → decide (c ≥ (48 : Int)) = true → ((bif decide (c ≥ (97 : Int)) then decide (c ≤ (122 : Int)) else false) == false && decide (c ≥ (48 : Int)) == true) = true from (by (simp; omega))) (And.intro (show (bif decide (c ≥ (97 : Int)) then decide (c ≤ (122 : Int)) else false) = false → ((bif decide (c ≥ (97 : Int)) then decide (c ≤ (122 : Int)) else false) == false) = true from (by (simp; omega))) (And.intro (show ((bif bif decide (c ≥ (97 : Int)) then decide (c ≤ (122 : Int)) else false then true else bif decide (c ≥ (48 : Int)) then decide (c ≤ (57 : Int)) else false) == false) = true → ((bif bif decide (c ≥ (97 : Int)) then decide (c ≤ (122 : Int)) else false then true else bif decide (c ≥ (48 : Int)) then decide (c ≤ (57 : Int)) else false) == false) = true from (fun h => h)) (And.intro (show (bif bif decide (c ≥ (97 : Int)) then decide (c ≤ (122 : Int)) else false then true else bif decide (c ≥ (48 : Int)) then decide (c ≤ (57 : Int)) else false) = false → ((bif bif decide (c ≥ (97 : Int)) then decide (c ≤ (122 : Int)) else false then true else bif decide (c ≥ (48 : Int)) then decide (c ≤ (57 : Int)) else false) == false) = true from (by (simp; omega))) (And.intro (show ((bif bif bif decide (c ≥ (97 : Int)) then decide (c ≤ (122 : Int)) else false then true else bif decide (c ≥ (48 : Int)) then decide (c ≤ (57 : Int)) else false then true else c == (45 : Int)) == false) = true → ((bif bif bif decide (c ≥ (97 : Int)) then decide (c ≤ (122 : Int)) else false then true else bif decide (c ≥ (48 : Int)) then decide (c ≤ (57 : Int)) else false then true else c == (45 : Int)) == false) = true from (fun h => h)) (And.intro (show (bif bif bif decide (c ≥ (97 : Int)) then decide (c ≤ (122 : Int)) else false then true else bif decide (c ≥ (48 : Int)) then decide (c ≤ (57 : Int)) else false then true else c == (45 : Int)) = false → ((bif bif bif decide (c ≥ (97 : Int)) then decide (c ≤ (122 : Int)) else false then true else bif decide (c ≥ (48 : Int)) then decide (c ≤ (57 : Int)) else false then true else c == (45 : Int)) == false) = true from (by (simp; omega))) (And.intro (show ((bif bif bif bif decide (c ≥ (97 : Int)) then decide (c ≤ (122 : Int)) else false then true else bif decide (c ≥ (48 : Int)) then decide (c ≤ (57 : Int)) else false then true else c == (45 : Int) then true else c == (95 : Int)) == false) = true → ((bif bif bif bif decide (c ≥ (97 : Int)) then decide (c ≤ (122 : Int)) else false then true else bif decide (c ≥ (48 : Int)) then decide (c ≤ (57 : Int)) else false then true else c == (45 : Int) then true else c == (95 : Int)) == false) = true from (fun h => h)) (And.intro (show (bif bif bif bif decide (c ≥ (97 : Int)) then decide (c ≤ (122 : Int)) else false then true else bif decide (c ≥ (48 : Int)) then decide (c ≤ (57 : Int)) else false then true else c == (45 : Int) then true else c == (95 : Int)) = false → ((bif bif bif bif decide (c ≥ (97 : Int)) then decide (c ≤ (122 : Int)) else false then true else bif decide (c ≥ (48 : Int)) then decide (c ≤ (57 : Int)) else false then true else c == (45 : Int) then true else c == (95 : Int)) == false) = true from (by (simp; omega))) (And.intro (congrArg (fun z => !z) h2) e2'))))))))))))))))))
      · have h3 : okB (byteAt s (m : Int)) = false := h3
        unfold okB at h3
        generalize hc : byteAt s (m : Int) = c at h3
        have e1' := (congrArg (fun z => AV.int .u8 z) hc)
        exact g_x [⟨4, [], .br true .no⟩, ⟨7, [], .as (rhsOf e1')⟩, ⟨12, [], .gd⟩, ⟨13, [], .gd⟩, ⟨16, [.tm 20 (.bool false)], .no⟩, ⟨19, [], .gd⟩, ⟨20, [], .gd⟩, ⟨24, [.tm 28 (.bool false)], .no⟩, ⟨28, [.tm 32 (.bool false)], .no⟩, ⟨32, [.tm 36 (.bool false)], .no⟩, ⟨36, [], .br true .no⟩] [.sel [2]] (And.intro (show decide ((↑m : Int) < (↑s.size : Int)) = true from (by rw [decide_eq_true_iff]; omega)) (And.intro (show (0 : Int) ≤ (↑m : Int) ∧ (↑m : Int) < (↑s.size : Int) from (by omega)) (And.intro e1' (And.intro (show (decide (c ≥ (97 : Int)) == true) = true → (decide (c ≥ (97 : Int)) == true) = true from (fun h => h)) (And.intro (show decide (c ≥ (97 : Int)) = true → (decide (c ≥ (97 : Int)) == true) = true from (by (simp; done))) (And.intro (congrArg AV.bool (show (bif decide (c ≥ (97 : Int)) then decide (c ≤ (122 : Int)) else false) = false from (by simp_all; done))) (And.intro (show (decide (c ≥ (48 : Int)) == true) = true → (decide (c ≥ (48 : Int)) == true) = true from (fun h => h)) (And.intro (show decide (c ≥ (48 : Int)) = true → (decide (c ≥ (48 : Int)) == true) = true from (by (simp; done))) (And.intro (congrArg AV.bool (show (bif false then true else bif decide (c ≥ (48 : Int)) then decide (c ≤ (57 : Int)) else false) = false from (by simp_all; done))) (And.intro (congrArg AV.bool (show (bif false then true else c == (45 : Int)) = false from (by simp_all; done))) (And.intro (congrArg AV.bool (show (bif false then true else c == (95 : Int)) = false from (by simp_all; done))) (show (!bif false then true else c == (46 : Int)) = true from (by simp_all; done)))))))))))))
    rw [h1, Bool.and_false]
    have e1' := hL
    refine g_q [⟨2, [.sel [0, 3]], .loop (exOf e1') (endOf e1')⟩] [] Exit.ret (stOf 57 [(2, AV.bool false)] []) e1' ?_
    refine g_f [] [] (AV.bool false) ([]) trivial ?_
    exact ⟨rfl, rfl⟩
def jnF (l : List ByteArray) : Nat → ByteArray
  | 0 => ByteArray.empty
  | i + 1 => (if 0 < i then jnF l i ++ slB else jnF l i) ++ l.getD i bE
theorem joinedL (l : List ByteArray) (hl : l.length ≤ 1000000) (hJ : ∀ k, k ≤ l.length → (jnF l k).size ≤ 1000000) : LoopG Tryd.prog 0 Tryd.f39 0 (.exit 0) (stOf 22 [(3, .str (jnF l l.length))] []) (stOf 22 [(0, .slv l.length 1 (flatA encS l)), (3, .str (jnF l 0)), (4, .int .i64 ((0 : Nat) : Int))] []) := by
  refine loopG_of l.length (fun k => stOf 22 [(0, .slv l.length 1 (flatA encS l)), (3, .str (jnF l k)), (4, .int .i64 (k : Int))] []) (by kernel_rfl) (by simp) ?_ ?_
  · intro k hk
    have hj1 := hJ (k + 1) (by omega)
    have hj0 := hJ k (by omega)
    by_cases h0 : 0 < k
    · have e : jnF l (k + 1) = (jnF l k ++ slB) ++ l.getD k bE := by rw [jnF, if_pos h0]
      rw [e, ByteArray.size_append, ByteArray.size_append] at hj1
      have hj2 : (jnF l k).size + 1 ≤ 1000000 := by have : slB.size = 1 := rfl; omega
      have hj3 : (jnF l k ++ ByteArray.mk #[47]).size + (l.getD k ByteArray.empty).size ≤ 9223372036854775807 := by rw [ByteArray.size_append]; exact Nat.le_trans hj1 (by omega)
      rw [e]
      have e1' := (congrArg (fun z => AV.fptr z) (encS_at (l) (k) (by assumption)))
      have e2' := (congrArg (fun z => AV.int .i64 z) (wrap_i64 (e := (↑k : Int) + (1 : Int)) (by omega) (by omega)))
      exact g_x [⟨4, [], .br true .no⟩, ⟨7, [], .br true .no⟩, ⟨14, [], .as (rhsOf e1')⟩, ⟨19, [], .as (rhsOf e2')⟩] [.sel [0, 3, 4]] (And.intro (show decide ((↑k : Int) < (↑l.length : Int)) = true from (by rw [decide_eq_true_iff]; omega)) (And.intro (show decide ((↑k : Int) > (0 : Int)) = true from (by rw [decide_eq_true_iff]; omega)) (And.intro (show (jnF l k).size + 1 ≤ 9223372036854775807 from (by omega)) (And.intro (show (0 : Int) ≤ (↑k : Int) ∧ (↑k : Int) < (↑l.length : Int) from (by omega)) (And.intro e1' (And.intro (show 1 ≤ (AV.str (l.getD k ByteArray.empty) :: flatA encS (List.drop (k + 1) l)).length from (by exact Nat.le_of_ble_eq_true (by kernel_rfl))) (And.intro (show (jnF l k ++ ByteArray.mk #[(47 : UInt8)]).size + (l.getD k ByteArray.empty).size ≤ 9223372036854775807 from (by omega)) e2')))))))
    · have e : jnF l (k + 1) = jnF l k ++ l.getD k bE := by rw [jnF, if_neg h0]
      rw [e, ByteArray.size_append] at hj1
      rw [e]
      have e1' := (congrArg (fun z => AV.fptr z) (encS_at (l) (k) (by assumption)))
      have e2' := (congrArg (fun z => AV.int .i64 z) (wrap_i64 (e := (↑k : Int) + (1 : Int)) (by omega) (by omega)))
      exact g_x [⟨4, [], .br true .no⟩, ⟨7, [], .br false .no⟩, ⟨11, [], .as (rhsOf e1')⟩, ⟨16, [], .as (rhsOf e2')⟩] [.sel [0, 3, 4]] (And.intro (show decide ((↑k : Int) < (↑l.length : Int)) = true from (by rw [decide_eq_true_iff]; omega)) (And.intro (show decide ((↑k : Int) > (0 : Int)) = false from (by rw [decide_eq_false_iff_not]; omega)) (And.intro (show (0 : Int) ≤ (↑k : Int) ∧ (↑k : Int) < (↑l.length : Int) from (by omega)) (And.intro e1' (And.intro (show 1 ≤ (AV.str (l.getD k ByteArray.empty) :: flatA encS (List.drop (k + 1) l)).length from (by exact Nat.le_of_ble_eq_true (by kernel_rfl))) (And.intro (show (jnF l k).size + (l.getD k ByteArray.empty).size ≤ 9223372036854775807 from (by ((try intro h); simp_all; omega))) e2'))))))
  · exact g_x [⟨4, [], .br false .no⟩] [.sel [3]] (show decide ((↑l.length : Int) < (↑l.length : Int)) = false from (by rw [decide_eq_false_iff_not]; omega))
theorem joined_v (l : List ByteArray) (hl : l.length ≤ 1000000) (hJ : ∀ k, k ≤ l.length → (jnF l k).size ≤ 1000000) : CallsV Tryd.prog 39 [.slv l.length 1 (flatA encS l)] [] (fun av H' => av = .str (jnF l l.length) ∧ H' = []) := by
  refine callsG_at Tryd.func39 (by kernel_rfl) ?_
  have hL := joinedL l hl hJ
  rw [show jnF l 0 = ByteArray.empty from rfl] at hL
  have e1' := hL
  refine g_q [⟨3, [.sel [0, 3, 4]], .loop (exOf e1') (endOf e1')⟩] [.sel [2]] Exit.ret (stOf 22 [(2, AV.str (jnF l l.length))] []) e1' ?_
  refine g_f [] [] (AV.str (jnF l l.length)) ([]) trivial ?_
  exact ⟨rfl, rfl⟩
/-- what the library joins -/
theorem jnF_bytes (l : List ByteArray) : ∀ k, k ≤ l.length → bytes (jnF l k) = Lib.join ((l.take k).map bytes) [47]
  | 0, _ => by simp [jnF, Lib.join_nil]; rfl
  | k + 1, h => by
    have ih := jnF_bytes l k (by omega)
    have hk : k < l.length := h
    have eb : ∀ a b : ByteArray, bytes (a ++ b) = bytes a ++ bytes b := fun a b => by simp [bytes, ByteArray.data_append]
    have et : l.take (k + 1) = l.take k ++ [l.getD k bE] := by
      rw [List.take_succ_eq_append_getElem hk, List.getD_eq_getElem?_getD, List.getElem?_eq_getElem hk]; rfl
    rw [et]
    unfold jnF
    by_cases h0 : 0 < k
    · rw [if_pos h0, eb, eb, ih]
      have hne : l.take k ≠ [] := by
        intro he
        have : (l.take k).length = 0 := by rw [he]; rfl
        rw [List.length_take] at this
        omega
      cases hl : l.take k with
      | nil => exact absurd hl hne
      | cons a t =>
        rw [List.cons_append, List.map_cons, List.map_cons, Lib.join_cons, Lib.join_cons, List.map_append, Lib.joinTail, Lib.joinTail]
        simp [List.append_assoc, bytes]
    · obtain rfl : k = 0 := by omega
      rw [if_neg (by omega), eb]
      simp [jnF, Lib.join_one, bytes]
theorem join_v (l : List ByteArray) (hl : l.length ≤ 1000000) (hJ : (jnF l l.length).size ≤ 1000000) : CallsV Tryd.prog 43 [.slv l.length 1 (flatA encS l), .str slB] [] (fun av H' => av = .str (jnF l l.length) ∧ H' = []) := by
  refine CallsV.of_calls (R := fun av => av = .str (jnF l l.length)) fun p w vals hM hv => ?_
  obtain ⟨u, v, rfl, hu, hv2⟩ := two_rep hv
  have hv3 : RepF p.M w v (.str slB) := hv2
  cases hv3
  have hu' : RepF p.M w u (.slv l.length 1 (flatA encS l)) := hu
  have hjb := jnF_bytes l l.length (Nat.le_refl _)
  rw [List.take_length] at hjb
  have hsz : (Lib.join (l.map bytes) [47]).length ≤ 140737488355328 := by rw [← hjb, bytes_len]; omega
  generalize hcells : flatA encS l = cells at hu'
  cases hu' with
  | slv oa a len cap sz cells vs ho hll hcap hcm hsz1 hc hr =>
    have hat : ∀ (j : Nat) x, l[j]? = some x → w.cell? ⟨a.block, a.off + j, none⟩ = some (.string x) ∧ a.block < w.heap.size ∧ a.spot = none := fun j x hx => by
      obtain ⟨hj, rfl⟩ := List.getElem?_eq_some_iff.1 hx
      have hjc : j < cells.length := by rw [hll]; omega
      obtain ⟨h1, h2, _, h4, _⟩ := hc j hjc
      have h5 := hr j hjc
      have e : cells.getD j .junk = .str l[j] := by
        subst hcells
        have := encS_at l j hj
        rw [Int.toNat_natCast, Nat.mul_one] at this
        rw [List.getD_eq_getElem?_getD, ← List.head?_drop, this]
        simp [List.getD_eq_getElem?_getD, hj]
      rw [e] at h5
      generalize vs j = q at h4 h5
      cases h5
      exact ⟨h4, h2, h1⟩
    rcases Nat.eq_zero_or_pos l.length with h0 | h0
    · obtain rfl := List.eq_nil_of_length_eq_zero h0
      refine (Tryd.strings_Join_none oa cap slB w).mono ?_
      rintro e w' ⟨rfl, rfl⟩
      exact ⟨_, rfl, Below.refl _ _, .str (jnF [] 0), RepF.str _, rfl⟩
    · obtain ⟨_, hb, hsp⟩ := hat 0 l[0] (by simp [h0])
      rcases ho with rfl | ⟨_, rfl⟩
      · obtain ⟨bk, o, spot⟩ := a
        simp only at hsp hb hat
        subst hsp
        refine (Tryd.strings_Join bk o cap l slB w (fun j x hx => (hat j x hx).1) hb (by omega) hcap hsz).mono ?_
        rintro e w' ⟨rfl, hB⟩
        refine ⟨_, rfl, hB, .str (jnF l l.length), ?_, rfl⟩
        have e : (⟨(Lib.join (l.map (·.data.toList)) slB.data.toList).toArray⟩ : ByteArray) = jnF l l.length := bytes_inj hjb.symm
        rw [e]
        exact RepF.str _
      · omega
end Go.Proofs.YthcaeofgegfncaaDoor
namespace Go.Proofs.YthcaeofgegfncaaDoor
open Go Go.RowKit V
set_option linter.unusedSimpArgs false
set_option linter.unusedVariables false
set_option maxHeartbeats 20000000
theorem split_v (s : ByteArray) (hs : s.size ≤ 1000000) : CallsV Tryd.prog 41 [.str s, .str slB] [] (fun av H' => av = .sl 0 0 (SP s).length 1 ∧ H' = [.row 9 (flatA encS (SP s))]) := by
  refine callsG_at Tryd.func41 (by kernel_rfl) ?_
  have hg := genSplit_v s hs
  have hge := encS_ge (SP s)
  have e1' := hg
  refine g_q [⟨3, [], .call (avOf e1') (blOf e1') [true]⟩] [.sel [4]] Exit.ret (stOf 8 [(4, AV.sl 0 0 (SP s).length 1)] [Blk.row 9 (flatA encS (SP s))]) (And.intro (show ∀ (x : AV), x ∈ flatA encS (SP s) → plain0 x = true from encS_plain (SP s)) e1') ?_
  refine g_f [0] [true] (AV.sl 0 0 (SP s).length 1) ([Blk.row 9 (flatA encS (SP s))]) (show ∀ (x : AV), x ∈ flatA encS (SP s) → noid0 x = true from encS_noid (SP s)) ?_
  exact ⟨rfl, rfl⟩
/-- a part -/
def isE (s : ByteArray) : Bool := s.toList == bE.toList
def isD (s : ByteArray) : Bool := s.toList == dB.toList
def isDD (s : ByteArray) : Bool := s.toList == ddB.toList
abbrev NS := List ByteArray × Nat
def nz (q : NS) (x : ByteArray) : Option NS :=
  if isE x = true ∨ isD x = true then some q
  else if isDD x = true then (if q.2 = 0 then none else some (q.1, q.2 - 1))
  else if elF x = true then some (q.1.take q.2 ++ [x], q.2 + 1) else none
def nzN (l : List ByteArray) : Nat → Option NS
  | 0 => some ([], 0)
  | k + 1 => (nzN l k).bind fun q => nz q (l.getD k bE)
theorem nz_le {q q' : NS} {x : ByteArray} (h : nz q x = some q') (hq : q.2 ≤ q.1.length) : q'.2 ≤ q'.1.length ∧ q'.2 ≤ q.2 + 1 := by
  unfold nz at h
  split at h
  · cases h; exact ⟨hq, by omega⟩
  · split at h
    · split at h
      · cases h
      · cases h; exact ⟨by simp; omega, by simp; omega⟩
    · split at h
      · cases h; exact ⟨by simp; omega, by simp⟩
      · cases h
theorem nzN_le (l : List ByteArray) : ∀ k q, nzN l k = some q → q.2 ≤ q.1.length ∧ q.2 ≤ k
  | 0, q, h => by cases h; simp
  | k + 1, q, h => by
    unfold nzN at h
    cases hk : nzN l k with
    | none => rw [hk] at h; cases h
    | some q0 =>
      rw [hk] at h
      obtain ⟨h1, h2⟩ := nzN_le l k q0 hk
      obtain ⟨h3, h4⟩ := nz_le h h1
      exact ⟨h3, by omega⟩
theorem nzN_or (l : List ByteArray) (n : Nat) : (∃ q, nzN l n = some q ∧ ∀ k, k ≤ n → ∃ q, nzN l k = some q) ∨ (nzN l n = none ∧ ∃ m q, m < n ∧ nzN l m = some q ∧ (∀ k, k ≤ m → ∃ q, nzN l k = some q) ∧ nz q (l.getD m bE) = none) := by
  induction n with
  | zero => exact Or.inl ⟨_, rfl, fun k hk => ⟨([], 0), by rw [show k = 0 from Nat.le_zero.1 hk]; rfl⟩⟩
  | succ n ih =>
    rcases ih with ⟨q, h1, h2⟩ | ⟨h1, m, q, h2, h3, h4, h5⟩
    · have e : nzN l (n + 1) = nz q (l.getD n bE) := by rw [nzN, h1]; rfl
      cases hn : nz q (l.getD n bE) with
      | some q' => exact Or.inl ⟨q', by rw [e, hn], fun k hk => by
          rcases Nat.le_succ_iff.1 hk with h | rfl
          · exact h2 k h
          · exact ⟨q', by rw [e, hn]⟩⟩
      | none => exact Or.inr ⟨by rw [e, hn], n, q, by omega, h1, h2, hn⟩
    · exact Or.inr ⟨by rw [nzN, h1]; rfl, m, q, by omega, h3, h4, h5⟩
def nzS (l : List ByteArray) (q : NS) (k : Nat) : St := stOf 57 [(4, .sl 0 0 q.2 1), (11, .sl 1 0 l.length 1), (12, .int .i64 (l.length : Int)), (13, .int .i64 (k : Int))] [.row 9 (flatA encS q.1), .row 9 (flatA encS l)]
def rzS (l : List ByteArray) (q : NS) (k : Nat) : St := stOf 78 [(4, .sl 0 0 l.length 1), (5, .sl 1 0 q.2 1), (6, .int .i64 (k : Int))] [.row 9 (flatA encS l), .row 9 (flatA encS q.1)]
theorem nz_round (l : List ByteArray) (hl : l.length ≤ 1000000) (hsz : ∀ x ∈ l, x.size ≤ 1000000) (k : Nat) (hk : k < l.length) (q q' : NS) (hq : q.2 ≤ q.1.length ∧ q.2 ≤ k) (h : nz q (l.getD k bE) = some q') :
    GoV Tryd.prog 0 (loopB Tryd.f35 0) (isX .normal (nzS l q' (k + 1))) (nzS l q k) ∧ GoV Tryd.prog 0 (loopB Tryd.f33 0) (isX .normal (rzS l q' (k + 1))) (rzS l q k) := by
  have at1 := encS_at0 l k hk
  have hx := hsz _ (getD_mem' hk bE)
  obtain ⟨R, n⟩ := q
  simp only at hq
  have hge : n * 1 ≤ (flatA encS R).length := by rw [encS_len]; omega
  unfold nz isE isD isDD at h
  generalize l.getD k bE = x at at1 hx h
  have ev := isEl_v x hx
  have hgk := encS_gk l k hk
  by_cases h1 : (x.toList == bE.toList) = true ∨ (x.toList == dB.toList) = true
  · rw [if_pos h1] at h
    cases h
    unfold nzS rzS
    cases h2 : (x.toList == bE.toList) with
    | true =>
      constructor
      · have e1' := (drop_hd0 (v := AV.str x) at1 rfl)
        have e2' := (congrArg (fun z => AV.int .i64 z) (wrap_i64 (e := (↑k : Int) + (1 : Int)) (by omega) (by omega)))
        exact g_x [⟨1, [], .br true .no⟩, ⟨3, [], .as (rhsOf e1')⟩, ⟨8, [.tm 20 (.bool true)], .no⟩, ⟨13, [], .as (rhsOf e2')⟩] [.sel [4, 11, 12, 13]] (And.intro (show decide ((↑k : Int) < (↑l.length : Int)) = true from (by rw [decide_eq_true_iff]; omega)) (And.intro (show (0 : Int) ≤ (↑k : Int) ∧ (↑k : Int) < (↑l.length : Int) from (by omega)) (And.intro (show 1 ≤ (List.drop (0 + (↑k : Int).toNat * 1) (flatA encS l)).length from (drop_le0 (n := 1) at1 (by simp))) (And.intro e1' (And.intro (congrArg AV.bool h2) (And.intro (show true = false → false = true from (by decide)) e2'))))))
      · have e1' := (drop_hd0 (v := AV.str x) at1 rfl)
        have e2' := (congrArg (fun z => AV.int .i64 z) (wrap_i64 (e := (↑k : Int) + (1 : Int)) (by omega) (by omega)))
        exact g_x [⟨4, [], .br true .no⟩, ⟨8, [], .as (rhsOf e1')⟩, ⟨11, [.tm 30 (.bool true)], .no⟩, ⟨20, [], .as (rhsOf e2')⟩] [.sel [4, 5, 6]] (And.intro (show decide ((↑k : Int) < (↑l.length : Int)) = true from (by rw [decide_eq_true_iff]; omega)) (And.intro (show (0 : Int) ≤ (↑k : Int) ∧ (↑k : Int) < (↑l.length : Int) from (by omega)) (And.intro (show 1 ≤ (List.drop (0 + (↑k : Int).toNat * 1) (flatA encS l)).length from (drop_le0 (n := 1) at1 (by simp))) (And.intro e1' (And.intro (congrArg AV.bool h2) (And.intro (show true = false → false = true from (by decide)) e2'))))))
    | false =>
      have h3 : (x.toList == dB.toList) = true := by rcases h1 with h1 | h1; · rw [h2] at h1; cases h1
                                                     · exact h1
      constructor
      · have e1' := (drop_hd0 (v := AV.str x) at1 rfl)
        have e2' := (congrArg (fun z => AV.int .i64 z) (wrap_i64 (e := (↑k : Int) + (1 : Int)) (by omega) (by omega)))
        exact g_x [⟨1, [], .br true .no⟩, ⟨3, [], .as (rhsOf e1')⟩, ⟨8, [.tm 20 (.bool false)], .no⟩, ⟨12, [], .br true .no⟩, ⟨13, [], .as (rhsOf e2')⟩] [.sel [4, 11, 12, 13]] (And.intro (show decide ((↑k : Int) < (↑l.length : Int)) = true from (by rw [decide_eq_true_iff]; omega)) (And.intro (show (0 : Int) ≤ (↑k : Int) ∧ (↑k : Int) < (↑l.length : Int) from (by omega)) (And.intro (show 1 ≤ (List.drop (0 + (↑k : Int).toNat * 1) (flatA encS l)).length from (drop_le0 (n := 1) at1 (by simp))) (And.intro e1' (And.intro (congrArg AV.bool h2) (And.intro (congrArg (fun z => bif false then true else z) h3) e2'))))))
      · have e1' := (drop_hd0 (v := AV.str x) at1 rfl)
        have e2' := (congrArg (fun z => AV.int .i64 z) (wrap_i64 (e := (↑k : Int) + (1 : Int)) (by omega) (by omega)))
        exact g_x [⟨4, [], .br true .no⟩, ⟨8, [], .as (rhsOf e1')⟩, ⟨11, [.tm 30 (.bool false)], .no⟩, ⟨14, [], .as (rhsOf e1')⟩, ⟨18, [], .br true .no⟩, ⟨20, [], .as (rhsOf e2')⟩] [.sel [4, 5, 6]] (And.intro (show decide ((↑k : Int) < (↑l.length : Int)) = true from (by rw [decide_eq_true_iff]; omega)) (And.intro (show (0 : Int) ≤ (↑k : Int) ∧ (↑k : Int) < (↑l.length : Int) from (by omega)) (And.intro (show 1 ≤ (List.drop (0 + (↑k : Int).toNat * 1) (flatA encS l)).length from (drop_le0 (n := 1) at1 (by simp))) (And.intro e1' (And.intro (congrArg AV.bool h2) (And.intro (show (0 : Int) ≤ (↑k : Int) ∧ (↑k : Int) < (↑l.length : Int) from (by omega)) (And.intro (show 1 ≤ (List.drop (0 + (↑k : Int).toNat * 1) (flatA encS l)).length from (drop_le0 (n := 1) at1 (by simp))) (And.intro e1' (And.intro (congrArg (fun z => bif false then true else z) h3) e2')))))))))
  · rw [if_neg h1] at h
    have h2 : (x.toList == bE.toList) = false := by cases hh : (x.toList == bE.toList) <;> simp_all
    have h3 : (x.toList == dB.toList) = false := by cases hh : (x.toList == dB.toList) <;> simp_all
    clear h1
    cases h4 : (x.toList == ddB.toList) with
    | true =>
      rw [if_pos h4] at h
      by_cases h5 : n = 0
      · rw [if_pos h5] at h; cases h
      · rw [if_neg h5] at h
        cases h
        have hb : 0 ≤ (0 : Int) ∧ (0 : Int) ≤ (n : Int) - 1 ∧ (n : Int) - 1 ≤ (n : Int) := by omega
        have e1 : ((n : Int) - 1).toNat = n - 1 := by omega
        have hn0 : ((n : Int) == 0) = false := by rw [beq_eq_false_iff_ne]; omega
        unfold nzS rzS
        constructor
        · have e1' := (drop_hd0 (v := AV.str x) at1 rfl)
          have e2' := (congrArg (fun z => AV.int .i64 z) (wrap_i64 (e := (↑(R, n).snd : Int) - (1 : Int)) (by omega) (by omega)))
          have e3' := (congrArg (fun z => AV.sl 0 0 (z - Int.toNat (0 : Int)) 1) e1)
          have e4' := (congrArg (fun z => AV.int .i64 z) (wrap_i64 (e := (↑k : Int) + (1 : Int)) (by omega) (by omega)))
          exact g_x [⟨1, [], .br true .no⟩, ⟨3, [], .as (rhsOf e1')⟩, ⟨8, [.tm 20 (.bool false)], .no⟩, ⟨12, [], .br false .no⟩, ⟨16, [], .br true .no⟩, ⟨20, [], .br false .no⟩, ⟨24, [], .as (rhsOf e2')⟩, ⟨25, [], .as (rhsOf e3')⟩, ⟨27, [], .as (rhsOf e4')⟩] [.sel [4, 11, 12, 13]] (And.intro (show decide ((↑k : Int) < (↑l.length : Int)) = true from (by rw [decide_eq_true_iff]; omega)) (And.intro (show (0 : Int) ≤ (↑k : Int) ∧ (↑k : Int) < (↑l.length : Int) from (by omega)) (And.intro (show 1 ≤ (List.drop (0 + (↑k : Int).toNat * 1) (flatA encS l)).length from (drop_le0 (n := 1) at1 (by simp))) (And.intro e1' (And.intro (congrArg AV.bool h2) (And.intro (congrArg (fun z => bif false then true else z) h3) (And.intro (show (x.toList == (ByteArray.mk #[(46 : UInt8), (46 : UInt8)]).toList) = true from (by assumption)) (And.intro (show ((↑(R, n).snd : Int) == (0 : Int)) = false from (by assumption)) (And.intro e2' (And.intro (show (0 : Int) ≤ (0 : Int) ∧ (0 : Int) ≤ (↑(R, n).snd : Int) - (1 : Int) ∧ (↑(R, n).snd : Int) - (1 : Int) ≤ (↑(R, n).snd : Int) from (by omega)) (And.intro e3' e4')))))))))))
        · have e1' := (drop_hd0 (v := AV.str x) at1 rfl)
          have e2' := (congrArg (fun z => AV.int .i64 z) (wrap_i64 (e := (↑(R, n).snd : Int) - (1 : Int)) (by omega) (by omega)))
          have e3' := (congrArg (fun z => AV.sl 1 0 (z - Int.toNat (0 : Int)) 1) e1)
          have e4' := (congrArg (fun z => AV.int .i64 z) (wrap_i64 (e := (↑k : Int) + (1 : Int)) (by omega) (by omega)))
          exact g_x [⟨4, [], .br true .no⟩, ⟨8, [], .as (rhsOf e1')⟩, ⟨11, [.tm 30 (.bool false)], .no⟩, ⟨14, [], .as (rhsOf e1')⟩, ⟨18, [], .br false .no⟩, ⟨22, [], .as (rhsOf e1')⟩, ⟨25, [], .br true .no⟩, ⟨29, [], .br false .no⟩, ⟨33, [], .as (rhsOf e2')⟩, ⟨34, [], .as (rhsOf e3')⟩, ⟨37, [], .as (rhsOf e4')⟩] [.sel [4, 5, 6]] (And.intro (show decide ((↑k : Int) < (↑l.length : Int)) = true from (by rw [decide_eq_true_iff]; omega)) (And.intro (show (0 : Int) ≤ (↑k : Int) ∧ (↑k : Int) < (↑l.length : Int) from (by omega)) (And.intro (show 1 ≤ (List.drop (0 + (↑k : Int).toNat * 1) (flatA encS l)).length from (drop_le0 (n := 1) at1 (by simp))) (And.intro e1' (And.intro (congrArg AV.bool h2) (And.intro (show (0 : Int) ≤ (↑k : Int) ∧ (↑k : Int) < (↑l.length : Int) from (by omega)) (And.intro (show 1 ≤ (List.drop (0 + (↑k : Int).toNat * 1) (flatA encS l)).length from (drop_le0 (n := 1) at1 (by simp))) (And.intro e1' (And.intro (congrArg (fun z => bif false then true else z) h3) (And.intro (show (0 : Int) ≤ (↑k : Int) ∧ (↑k : Int) < (↑l.length : Int) from (by omega)) (And.intro (show 1 ≤ (List.drop (0 + (↑k : Int).toNat * 1) (flatA encS l)).length from (drop_le0 (n := 1) at1 (by simp))) (And.intro e1' (And.intro (show (x.toList == (ByteArray.mk #[(46 : UInt8), (46 : UInt8)]).toList) = true from (by assumption)) (And.intro (show ((↑(R, n).snd : Int) == (0 : Int)) = false from (by assumption)) (And.intro e2' (And.intro (show (0 : Int) ≤ (0 : Int) ∧ (0 : Int) ≤ (↑(R, n).snd : Int) - (1 : Int) ∧ (↑(R, n).snd : Int) - (1 : Int) ≤ (↑(R, n).snd : Int) from (by omega)) (And.intro e3' e4')))))))))))))))))
    | false =>
      rw [if_neg (by rw [h4]; decide)] at h
      have rv := el_v x hx h3 h4
      cases h5 : elF x with
      | true =>
        rw [if_pos h5] at h
        cases h
        rw [h5] at ev rv
        have sn : List.take (n * 1) (flatA encS R) ++ [AV.str x] = flatA encS (R.take n ++ [x]) := by
          rw [flatA_take encS_l, flatA_append]; rfl
        unfold nzS rzS
        constructor
        · have e1' := (drop_hd0 (v := AV.str x) at1 rfl)
          have e2' := ev
          have e3' := (congrArg (fun z => Blk.row 9 z) sn)
          have e4' := (congrArg (fun z => AV.int .i64 z) (wrap_i64 (e := (↑k : Int) + (1 : Int)) (by omega) (by omega)))
          exact g_x [⟨1, [], .br true .no⟩, ⟨3, [], .as (rhsOf e1')⟩, ⟨8, [.tm 20 (.bool false)], .no⟩, ⟨12, [], .br false .no⟩, ⟨16, [], .br false .no⟩, ⟨18, [], .call (avOf e2') (blOf e2') []⟩, ⟨25, [.hp 3 (rhsOf e3')], .no⟩, ⟨26, [], .as (rhsOf e4')⟩] [.sel [4, 11, 12, 13], .keep [3, 1] [true, true]] (And.intro (show decide ((↑k : Int) < (↑l.length : Int)) = true from (by rw [decide_eq_true_iff]; omega)) (And.intro (show (0 : Int) ≤ (↑k : Int) ∧ (↑k : Int) < (↑l.length : Int) from (by omega)) (And.intro (show 1 ≤ (List.drop (0 + (↑k : Int).toNat * 1) (flatA encS l)).length from (drop_le0 (n := 1) at1 (by simp))) (And.intro e1' (And.intro (congrArg AV.bool h2) (And.intro (congrArg (fun z => bif false then true else z) h3) (And.intro (show (x.toList == (ByteArray.mk #[(46 : UInt8), (46 : UInt8)]).toList) = false from (by assumption)) (And.intro e2' (And.intro (show (R, n).snd * 1 ≤ (flatA encS (R, n).fst).length from (by omega)) (And.intro (show 1 ≤ 1 from (by omega)) (And.intro (show ((R, n).snd + 1) * 16 ≤ 140737488355328 from (by omega)) (And.intro (show (R, n).snd + 1 ≤ maxLen from (by (unfold maxLen; omega))) (And.intro (congrArg some e3') (And.intro e4' (And.intro (show ∀ (x_1 : AV), x_1 ∈ flatA encS (List.take n R ++ [x]) → noid0 x_1 = true from encS_noid (R.take n ++ [x])) (show ∀ (x : AV), x ∈ flatA encS l → noid0 x = true from encS_noid l))))))))))))))))
        · have e1' := (drop_hd0 (v := AV.str x) at1 rfl)
          have e2' := rv
          have e3' := (congrArg (fun z => Blk.row 9 z) sn)
          have e4' := (congrArg (fun z => AV.int .i64 z) (wrap_i64 (e := (↑k : Int) + (1 : Int)) (by omega) (by omega)))
          exact g_x [⟨4, [], .br true .no⟩, ⟨8, [], .as (rhsOf e1')⟩, ⟨11, [.tm 30 (.bool false)], .no⟩, ⟨14, [], .as (rhsOf e1')⟩, ⟨18, [], .br false .no⟩, ⟨22, [], .as (rhsOf e1')⟩, ⟨25, [], .br false .no⟩, ⟨29, [], .as (rhsOf e1')⟩, ⟨30, [], .call (avOf e2') (blOf e2') []⟩, ⟨37, [], .as (rhsOf e1')⟩, ⟨40, [.hp 3 (rhsOf e3')], .no⟩, ⟨42, [], .as (rhsOf e4')⟩] [.sel [4, 5, 6], .keep [0, 3] [true, true]] (And.intro (show decide ((↑k : Int) < (↑l.length : Int)) = true from (by rw [decide_eq_true_iff]; omega)) (And.intro (show (0 : Int) ≤ (↑k : Int) ∧ (↑k : Int) < (↑l.length : Int) from (by omega)) (And.intro (show 1 ≤ (List.drop (0 + (↑k : Int).toNat * 1) (flatA encS l)).length from (drop_le0 (n := 1) at1 (by simp))) (And.intro e1' (And.intro (congrArg AV.bool h2) (And.intro (show (0 : Int) ≤ (↑k : Int) ∧ (↑k : Int) < (↑l.length : Int) from (by omega)) (And.intro (show 1 ≤ (List.drop (0 + (↑k : Int).toNat * 1) (flatA encS l)).length from (drop_le0 (n := 1) at1 (by simp))) (And.intro e1' (And.intro (congrArg (fun z => bif false then true else z) h3) (And.intro (show (0 : Int) ≤ (↑k : Int) ∧ (↑k : Int) < (↑l.length : Int) from (by omega)) (And.intro (show 1 ≤ (List.drop (0 + (↑k : Int).toNat * 1) (flatA encS l)).length from (drop_le0 (n := 1) at1 (by simp))) (And.intro e1' (And.intro (show (x.toList == (ByteArray.mk #[(46 : UInt8), (46 : UInt8)]).toList) = false from (by assumption)) (And.intro (show (0 : Int) ≤ (↑k : Int) ∧ (↑k : Int) < (↑l.length : Int) from (by omega)) (And.intro (show 1 ≤ (List.drop (0 + (↑k : Int).toNat * 1) (flatA encS l)).length from (drop_le0 (n := 1) at1 (by simp))) (And.intro e1' (And.intro e2' (And.intro (show (0 : Int) ≤ (↑k : Int) ∧ (↑k : Int) < (↑l.length : Int) from (by omega)) (And.intro (show 1 ≤ (List.drop (0 + (↑k : Int).toNat * 1) (flatA encS l)).length from (drop_le0 (n := 1) at1 (by simp))) (And.intro e1' (And.intro (show (R, n).snd * 1 ≤ (flatA encS (R, n).fst).length from (by omega)) (And.intro (show 1 ≤ 1 from (by omega)) (And.intro (show ((R, n).snd + 1) * 16 ≤ 140737488355328 from (by omega)) (And.intro (show (R, n).snd + 1 ≤ maxLen from (by (unfold maxLen; omega))) (And.intro (congrArg some e3') (And.intro e4' (And.intro (show ∀ (x : AV), x ∈ flatA encS l → noid0 x = true from encS_noid l) (show ∀ (x_1 : AV), x_1 ∈ flatA encS (List.take n R ++ [x]) → noid0 x_1 = true from encS_noid (R.take n ++ [x])))))))))))))))))))))))))))))
      | false =>
        rw [if_neg (by rw [h5]; decide)] at h
        cases h
end Go.Proofs.YthcaeofgegfncaaDoor
namespace Go.Proofs.YthcaeofgegfncaaDoor
open Go Go.RowKit V
set_option linter.unusedSimpArgs false
set_option linter.unusedVariables false
set_option maxHeartbeats 20000000
theorem nz_fail (l : List ByteArray) (hl : l.length ≤ 1000000) (hsz : ∀ x ∈ l, x.size ≤ 1000000) (k : Nat) (hk : k < l.length) (q : NS) (hq : q.2 ≤ q.1.length ∧ q.2 ≤ k) (h : nz q (l.getD k bE) = none) :
    GoV Tryd.prog 0 (loopB Tryd.f35 0) (isX .ret (stOf 57 [(2, .str bE), (3, .int .i64 8)] [])) (nzS l q k) ∧ GoV Tryd.prog 0 (loopB Tryd.f33 0) (isX .ret (stOf 78 [(2, .str bE), (3, .int .i64 8)] [])) (rzS l q k) := by
  have at1 := encS_at0 l k hk
  have hx := hsz _ (getD_mem' hk bE)
  obtain ⟨R, n⟩ := q
  simp only at hq
  have hge : n * 1 ≤ (flatA encS R).length := by rw [encS_len]; omega
  unfold nz isE isD isDD at h
  generalize l.getD k bE = x at at1 hx h
  have ev := isEl_v x hx
  have hgk := encS_gk l k hk
  by_cases h1 : (x.toList == bE.toList) = true ∨ (x.toList == dB.toList) = true
  · rw [if_pos h1] at h
    cases h
  · rw [if_neg h1] at h
    have h2 : (x.toList == bE.toList) = false := by cases hh : (x.toList == bE.toList) <;> simp_all
    have h3 : (x.toList == dB.toList) = false := by cases hh : (x.toList == dB.toList) <;> simp_all
    clear h1
    cases h4 : (x.toList == ddB.toList) with
    | true =>
      rw [if_pos h4] at h
      by_cases h5 : n = 0
      · subst h5
        unfold nzS rzS
        constructor
        · have e1' := (drop_hd0 (v := AV.str x) at1 rfl)
          exact g_x [⟨1, [], .br true .no⟩, ⟨3, [], .as (rhsOf e1')⟩, ⟨8, [.tm 20 (.bool false)], .no⟩, ⟨12, [], .br false .no⟩, ⟨16, [], .br true .no⟩] [.sel [2, 3], .keep [] []] (And.intro (show decide ((↑k : Int) < (↑l.length : Int)) = true from (by rw [decide_eq_true_iff]; omega)) (And.intro (show (0 : Int) ≤ (↑k : Int) ∧ (↑k : Int) < (↑l.length : Int) from (by omega)) (And.intro (show 1 ≤ (List.drop (0 + (↑k : Int).toNat * 1) (flatA encS l)).length from (drop_le0 (n := 1) at1 (by simp))) (And.intro e1' (And.intro (congrArg AV.bool h2) (And.intro (congrArg (fun z => bif false then true else z) h3) (show (x.toList == (ByteArray.mk #[(46 : UInt8), (46 : UInt8)]).toList) = true from (by assumption))))))))
        · have e1' := (drop_hd0 (v := AV.str x) at1 rfl)
          exact g_x [⟨4, [], .br true .no⟩, ⟨8, [], .as (rhsOf e1')⟩, ⟨11, [.tm 30 (.bool false)], .no⟩, ⟨14, [], .as (rhsOf e1')⟩, ⟨18, [], .br false .no⟩, ⟨22, [], .as (rhsOf e1')⟩, ⟨25, [], .br true .no⟩] [.sel [2, 3], .keep [] []] (And.intro (show decide ((↑k : Int) < (↑l.length : Int)) = true from (by rw [decide_eq_true_iff]; omega)) (And.intro (show (0 : Int) ≤ (↑k : Int) ∧ (↑k : Int) < (↑l.length : Int) from (by omega)) (And.intro (show 1 ≤ (List.drop (0 + (↑k : Int).toNat * 1) (flatA encS l)).length from (drop_le0 (n := 1) at1 (by simp))) (And.intro e1' (And.intro (congrArg AV.bool h2) (And.intro (show (0 : Int) ≤ (↑k : Int) ∧ (↑k : Int) < (↑l.length : Int) from (by omega)) (And.intro (show 1 ≤ (List.drop (0 + (↑k : Int).toNat * 1) (flatA encS l)).length from (drop_le0 (n := 1) at1 (by simp))) (And.intro e1' (And.intro (congrArg (fun z => bif false then true else z) h3) (And.intro (show (0 : Int) ≤ (↑k : Int) ∧ (↑k : Int) < (↑l.length : Int) from (by omega)) (And.intro (show 1 ≤ (List.drop (0 + (↑k : Int).toNat * 1) (flatA encS l)).length from (drop_le0 (n := 1) at1 (by simp))) (And.intro e1' (show (x.toList == (ByteArray.mk #[(46 : UInt8), (46 : UInt8)]).toList) = true from (by assumption))))))))))))))
      · rw [if_neg h5] at h
        cases h
    | false =>
      rw [if_neg (by rw [h4]; decide)] at h
      have rv := el_v x hx h3 h4
      cases h5 : elF x with
      | true => rw [if_pos h5] at h; cases h
      | false =>
        rw [h5] at ev rv
        unfold nzS rzS
        constructor
        · have e1' := (drop_hd0 (v := AV.str x) at1 rfl)
          have e2' := ev
          exact g_x [⟨1, [], .br true .no⟩, ⟨3, [], .as (rhsOf e1')⟩, ⟨8, [.tm 20 (.bool false)], .no⟩, ⟨12, [], .br false .no⟩, ⟨16, [], .br false .no⟩, ⟨18, [], .call (avOf e2') (blOf e2') []⟩] [.sel [2, 3], .keep [] []] (And.intro (show decide ((↑k : Int) < (↑l.length : Int)) = true from (by rw [decide_eq_true_iff]; omega)) (And.intro (show (0 : Int) ≤ (↑k : Int) ∧ (↑k : Int) < (↑l.length : Int) from (by omega)) (And.intro (show 1 ≤ (List.drop (0 + (↑k : Int).toNat * 1) (flatA encS l)).length from (drop_le0 (n := 1) at1 (by simp))) (And.intro e1' (And.intro (congrArg AV.bool h2) (And.intro (congrArg (fun z => bif false then true else z) h3) (And.intro (show (x.toList == (ByteArray.mk #[(46 : UInt8), (46 : UInt8)]).toList) = false from (by assumption)) e2')))))))
        · have e1' := (drop_hd0 (v := AV.str x) at1 rfl)
          have e2' := rv
          exact g_x [⟨4, [], .br true .no⟩, ⟨8, [], .as (rhsOf e1')⟩, ⟨11, [.tm 30 (.bool false)], .no⟩, ⟨14, [], .as (rhsOf e1')⟩, ⟨18, [], .br false .no⟩, ⟨22, [], .as (rhsOf e1')⟩, ⟨25, [], .br false .no⟩, ⟨29, [], .as (rhsOf e1')⟩, ⟨30, [], .call (avOf e2') (blOf e2') []⟩] [.sel [2, 3], .keep [] []] (And.intro (show decide ((↑k : Int) < (↑l.length : Int)) = true from (by rw [decide_eq_true_iff]; omega)) (And.intro (show (0 : Int) ≤ (↑k : Int) ∧ (↑k : Int) < (↑l.length : Int) from (by omega)) (And.intro (show 1 ≤ (List.drop (0 + (↑k : Int).toNat * 1) (flatA encS l)).length from (drop_le0 (n := 1) at1 (by simp))) (And.intro e1' (And.intro (congrArg AV.bool h2) (And.intro (show (0 : Int) ≤ (↑k : Int) ∧ (↑k : Int) < (↑l.length : Int) from (by omega)) (And.intro (show 1 ≤ (List.drop (0 + (↑k : Int).toNat * 1) (flatA encS l)).length from (drop_le0 (n := 1) at1 (by simp))) (And.intro e1' (And.intro (congrArg (fun z => bif false then true else z) h3) (And.intro (show (0 : Int) ≤ (↑k : Int) ∧ (↑k : Int) < (↑l.length : Int) from (by omega)) (And.intro (show 1 ≤ (List.drop (0 + (↑k : Int).toNat * 1) (flatA encS l)).length from (drop_le0 (n := 1) at1 (by simp))) (And.intro e1' (And.intro (show (x.toList == (ByteArray.mk #[(46 : UInt8), (46 : UInt8)]).toList) = false from (by assumption)) (And.intro (show (0 : Int) ≤ (↑k : Int) ∧ (↑k : Int) < (↑l.length : Int) from (by omega)) (And.intro (show 1 ≤ (List.drop (0 + (↑k : Int).toNat * 1) (flatA encS l)).length from (drop_le0 (n := 1) at1 (by simp))) (And.intro e1' e2'))))))))))))))))
/-- what Normalize says -/
def NZ (s : ByteArray) : ByteArray × Int :=
  if hpF s slB = true then (bE, 8) else match nzN (SP s) (SP s).length with
    | none => (bE, 8)
    | some q => if q.2 = 0 then (bE, 8) else if 8 < q.2 ∨ 64 < (jnF (q.1.take q.2) q.2).size then (bE, 2) else (jnF (q.1.take q.2) q.2, 0)
theorem nzN_sz (l : List ByteArray) : ∀ k q, nzN l k = some q → ∀ x ∈ q.1, elF x = true ∧ isDD x = false ∧ isD x = false ∧ isE x = false
  | 0, q, h => by cases h; intro x hx; cases hx
  | k + 1, q, h => by
    unfold nzN at h
    cases hk : nzN l k with
    | none => rw [hk] at h; cases h
    | some q0 =>
      rw [hk] at h
      have ih := nzN_sz l k q0 hk
      have h : nz q0 (l.getD k bE) = some q := h
      unfold nz at h
      split at h
      · cases h; exact ih
      · rename_i h1
        split at h
        · split at h
          · cases h
          · cases h; exact ih
        · rename_i h2
          split at h
          · rename_i h3
            cases h
            intro x hx
            rcases List.mem_append.1 hx with hx | hx
            · exact ih x (List.mem_of_mem_take hx)
            · rw [List.mem_singleton.1 hx]
              refine ⟨h3, ?_, ?_, ?_⟩
              · cases hh : isDD (l.getD k bE) with | true => exact absurd hh h2 | false => rfl
              · cases hh : isD (l.getD k bE) with | true => exact absurd (Or.inr hh) h1 | false => rfl
              · cases hh : isE (l.getD k bE) with | true => exact absurd (Or.inl hh) h1 | false => rfl
          · cases h
theorem elF_sz {x : ByteArray} (h : elF x = true) : x.size ≤ 24 := by
  unfold elF at h
  simp only [Bool.and_eq_true, decide_eq_true_eq] at h
  exact h.1.2
theorem jnF_sz (l : List ByteArray) (h : ∀ x ∈ l, x.size ≤ 24) : ∀ k, k ≤ l.length → (jnF l k).size ≤ k * 25
  | 0, _ => by simp [jnF]
  | k + 1, hk => by
    have ih := jnF_sz l h k (by omega)
    have hx := h _ (getD_mem' (show k < l.length by omega) bE)
    have h1 : slB.size = 1 := rfl
    unfold jnF
    split
    · rw [ByteArray.size_append, ByteArray.size_append]; omega
    · rw [ByteArray.size_append]; omega
theorem bytes_mem_sz {s x : ByteArray} (h : x ∈ SP s) : x.size ≤ s.size := by
  unfold SP at h
  obtain ⟨p, hp, rfl⟩ := List.mem_map.1 h
  have key : ∀ l : List UInt8, ∀ p ∈ pcs l, p.length ≤ l.length := by
    intro l
    induction l with
    | nil => intro p hp; simp [pcs] at hp; simp [hp]
    | cons b l ih =>
      intro p hp
      unfold pcs at hp
      split at hp
      · rcases List.mem_cons.1 hp with rfl | hp
        · simp
        · have := ih p hp; simp; omega
      · split at hp
        · rename_i q qs hq
          rcases List.mem_cons.1 hp with rfl | hp
          · have := ih q (by rw [hq]; simp); simp; omega
          · have := ih p (by rw [hq]; simp [hp]); simp; omega
        · simp at hp; simp [hp]
  exact key _ p hp
theorem SP_le (s : ByteArray) : (SP s).length ≤ s.size + 1 := by
  rw [SP_len]
  have : (bytes s).count 47 ≤ (bytes s).length := List.count_le_length
  rw [bytes_len] at this
  omega
theorem nzL_T (s : ByteArray) (hs : s.size ≤ 30000) (q : NS) (h : ∀ k, k ≤ (SP s).length → ∃ q, nzN (SP s) k = some q) (hq : nzN (SP s) (SP s).length = some q) :
    LoopG Tryd.prog 0 Tryd.f35 0 (.exit 0) (stOf 57 [(4, .sl 0 0 q.2 1)] [.row 9 (flatA encS q.1)]) (nzS (SP s) ([], 0) 0) ∧ LoopG Tryd.prog 0 Tryd.f33 0 (.exit 0) (stOf 78 [(5, .sl 0 0 q.2 1)] [.row 9 (flatA encS q.1)]) (rzS (SP s) ([], 0) 0) := by
  have hl := SP_le s
  have hsz : ∀ x ∈ SP s, x.size ≤ 1000000 := fun x hx => by have := bytes_mem_sz hx; omega
  have key : ∀ k, k < (SP s).length → ∃ q q', nzN (SP s) k = some q ∧ nzN (SP s) (k + 1) = some q' ∧ nz q ((SP s).getD k bE) = some q' := fun k hk => by
    obtain ⟨q, h1⟩ := h k (by omega)
    obtain ⟨q', h2⟩ := h (k + 1) (by omega)
    exact ⟨q, q', h1, h2, by rw [nzN, h1] at h2; exact h2⟩
  obtain ⟨g1, g2⟩ := nzN_le _ _ _ hq
  obtain ⟨R, n⟩ := q
  have hge : n * 1 ≤ (flatA encS R).length := by rw [encS_len]; simp only at g1; omega
  constructor
  · refine loopG_of (SP s).length (fun k => nzS (SP s) ((nzN (SP s) k).getD ([], 0)) k) (by kernel_rfl) (by simp) ?_ ?_
    · intro k hk
      obtain ⟨q, q', h1, h2, h3⟩ := key k hk
      simp only [h1, h2, Option.getD_some]
      exact (nz_round (SP s) (by omega) hsz k hk q q' (nzN_le _ _ _ h1) h3).1
    · simp only [hq, Option.getD_some]
      unfold nzS
      exact g_x [⟨1, [], .br false .no⟩] [.sel [4], .keep [0] [true]] (And.intro (show decide ((↑(SP s).length : Int) < (↑(SP s).length : Int)) = false from (by rw [decide_eq_false_iff_not]; omega)) (show ∀ (x : AV), x ∈ flatA encS (R, n).fst → noid0 x = true from encS_noid R))
  · refine loopG_of (SP s).length (fun k => rzS (SP s) ((nzN (SP s) k).getD ([], 0)) k) (by kernel_rfl) (by simp) ?_ ?_
    · intro k hk
      obtain ⟨q, q', h1, h2, h3⟩ := key k hk
      simp only [h1, h2, Option.getD_some]
      exact (nz_round (SP s) (by omega) hsz k hk q q' (nzN_le _ _ _ h1) h3).2
    · simp only [hq, Option.getD_some]
      unfold rzS
      exact g_x [⟨4, [], .br false .no⟩] [.sel [5], .keep [1] [true]] (And.intro (show decide ((↑(SP s).length : Int) < (↑(SP s).length : Int)) = false from (by rw [decide_eq_false_iff_not]; omega)) (show ∀ (x : AV), x ∈ flatA encS (R, n).fst → noid0 x = true from encS_noid R))
theorem nzL_F (s : ByteArray) (hs : s.size ≤ 30000) (m : Nat) (hm : m < (SP s).length) (q : NS) (hq : nzN (SP s) m = some q) (h : ∀ k, k ≤ m → ∃ q, nzN (SP s) k = some q) (hn : nz q ((SP s).getD m bE) = none) :
    LoopG Tryd.prog 0 Tryd.f35 0 .ret (stOf 57 [(2, .str bE), (3, .int .i64 8)] []) (nzS (SP s) ([], 0) 0) ∧ LoopG Tryd.prog 0 Tryd.f33 0 .ret (stOf 78 [(2, .str bE), (3, .int .i64 8)] []) (rzS (SP s) ([], 0) 0) := by
  have hl := SP_le s
  have hsz : ∀ x ∈ SP s, x.size ≤ 1000000 := fun x hx => by have := bytes_mem_sz hx; omega
  have key : ∀ k, k < m → ∃ q q', nzN (SP s) k = some q ∧ nzN (SP s) (k + 1) = some q' ∧ nz q ((SP s).getD k bE) = some q' := fun k hk => by
    obtain ⟨q, h1⟩ := h k (by omega)
    obtain ⟨q', h2⟩ := h (k + 1) (by omega)
    exact ⟨q, q', h1, h2, by rw [nzN, h1] at h2; exact h2⟩
  obtain ⟨f1, f2⟩ := nz_fail (SP s) (by omega) hsz m hm q (nzN_le _ _ _ hq) hn
  constructor
  · refine loopG_of m (fun k => nzS (SP s) ((nzN (SP s) k).getD ([], 0)) k) (by kernel_rfl) (by simp) ?_ ?_
    · intro k hk
      obtain ⟨q, q', h1, h2, h3⟩ := key k hk
      simp only [h1, h2, Option.getD_some]
      exact (nz_round (SP s) (by omega) hsz k (by omega) q q' (nzN_le _ _ _ h1) h3).1
    · simp only [hq, Option.getD_some]
      exact f1
  · refine loopG_of m (fun k => rzS (SP s) ((nzN (SP s) k).getD ([], 0)) k) (by kernel_rfl) (by simp) ?_ ?_
    · intro k hk
      obtain ⟨q, q', h1, h2, h3⟩ := key k hk
      simp only [h1, h2, Option.getD_some]
      exact (nz_round (SP s) (by omega) hsz k (by omega) q q' (nzN_le _ _ _ h1) h3).2
    · simp only [hq, Option.getD_some]
      exact f2
/-- the first byte -/
theorem hp_slash (s : ByteArray) (h : 0 < s.size) : hpF s slB = (byteAt s 0 == 47) := by
  unfold hpF
  have h1 : slB.size = 1 := rfl
  rw [h1, decide_eq_true (by omega), cond_true, toList_bytes, toList_bytes, bytes_extract, List.drop_zero]
  have hb := byteAt_get s 0 h
  rw [show ((0 : Nat) : Int) = 0 from rfl] at hb
  cases hl : bytes s with
  | nil => rw [← bytes_len, hl] at h; simp at h
  | cons b l =>
    have e : (bytes s)[0]'h = b := by simp [hl]
    rw [hb, e]
    by_cases hb : b = 47
    · subst hb; rfl
    · have h2 : ((b.toNat : Int) == 47) = false := by rw [beq_eq_false_iff_ne]; exact fun hh => hb ((byte_eq b).1 hh)
      rw [h2]
      simp [bytes, hb]
theorem hp_empty (s : ByteArray) (h : ¬ 0 < s.size) : hpF s slB = false := by
  unfold hpF
  have h1 : slB.size = 1 := rfl
  rw [h1, decide_eq_false (by omega)]; rfl
theorem norm_v (s : ByteArray) (hs : s.size ≤ 30000) : CallsV Tryd.prog 35 [.str s] [] (fun av H' => av = .tuple [.str (NZ s).1, .int .i64 (NZ s).2] ∧ H' = []) ∧ CallsV Tryd.prog 33 [.str s] [] (fun av H' => av = .tuple [.str (NZ s).1, .int .i64 (NZ s).2] ∧ H' = []) := by
  have hp := hasPrefix_v s slB (by omega)
  have sv := split_v s (by omega)
  have rv := refSplit s (by omega)
  unfold NZ
  have h0 : hpF s slB = (decide ((s.size : Int) > 0) && (byteAt s 0 == 47)) := by
    by_cases h : 0 < s.size
    · rw [hp_slash s h, decide_eq_true (by omega), Bool.true_and]
    · rw [hp_empty s h, decide_eq_false (by omega), Bool.false_and]
  cases hh : hpF s slB with
  | true =>
    rw [if_pos rfl]
    rw [hh] at hp h0
    constructor
    · refine callsG_at Tryd.func35 (by kernel_rfl) ?_
      have e1' := hp
      refine g_q [⟨3, [], .call (avOf e1') (blOf e1') []⟩] [.sel [2, 3]] Exit.ret (stOf 57 [(2, AV.str (ByteArray.mk #[])), (3, AV.int .i64 (8 : Int))] []) e1' ?_
      refine g_f [] [] (AV.tuple [AV.str (ByteArray.mk #[]), AV.int .i64 (8 : Int)]) ([]) trivial ?_
      exact ⟨rfl, rfl⟩
    · refine callsG_at Tryd.func33 (by kernel_rfl) ?_
      refine g_q [⟨6, [], .br true .no⟩, ⟨7, [], .br true .no⟩, ⟨8, [], .br true .no⟩, ⟨10, [], .br true .no⟩] [.sel [2, 3]] Exit.ret (stOf 78 [(2, AV.str (ByteArray.mk #[])), (3, AV.int .i64 (8 : Int))] []) (And.intro (show (decide ((↑s.size : Int) > (0 : Int)) == true) = true from (by simp_all; done)) (And.intro (show (decide ((↑s.size : Int) > (0 : Int)) == true) = true from (by simp_all; done)) (And.intro (show (0 : Int) ≤ (0 : Int) ∧ (0 : Int) < (↑s.size : Int) from (by (simp_all; done))) (And.intro (show (decide ((↑s.size : Int) > (0 : Int)) == true) = true from (by simp_all; done)) (show (bif decide ((↑s.size : Int) > (0 : Int)) then byteAt s (0 : Int) == (47 : Int) else false) = true from (by simp_all; done)))))) ?_
      refine g_f [] [] (AV.tuple [AV.str (ByteArray.mk #[]), AV.int .i64 (8 : Int)]) ([]) trivial ?_
      exact ⟨rfl, rfl⟩
  | false =>
    rw [if_neg (by decide)]
    rw [hh] at hp h0
    rcases nzN_or (SP s) (SP s).length with ⟨q, h1, h2⟩ | ⟨h1, m, q, h2, h3, h4, h5⟩
    · obtain ⟨L1, L2⟩ := nzL_T s hs q h2 h1
      rw [h1]
      obtain ⟨g1, g2⟩ := nzN_le _ _ _ h1
      have g3 := nzN_sz _ _ _ h1
      obtain ⟨R, n⟩ := q
      simp only at g1 g2 g3 L1 L2 ⊢
      have hl := SP_le s
      have tk : List.take (n * 1) (flatA encS R) = flatA encS (R.take n) := flatA_take encS_l R n
      have htl : (R.take n).length = n := by rw [List.length_take]; omega
      have hsz : ∀ x ∈ R.take n, x.size ≤ 24 := fun x hx => elF_sz (g3 x (List.mem_of_mem_take hx)).1
      have hJ : ∀ k, k ≤ (R.take n).length → (jnF (R.take n) k).size ≤ 1000000 := fun k hk => by
        have := jnF_sz (R.take n) hsz k hk
        omega
      have jv := join_v (R.take n) (by omega) (hJ _ (Nat.le_refl _))
      have jr := joined_v (R.take n) (by omega) hJ
      rw [htl] at jv jr
      have hge : n * 1 ≤ (flatA encS R).length := by rw [encS_len]; omega
      have hJ2 := hJ n (by omega)
      generalize jnF (R.take n) n = p at *
      unfold nzS at L1
      unfold rzS at L2
      rw [show flatA encS ([] : List ByteArray) = [] from rfl] at L1 L2
      by_cases hn : n = 0
      · subst hn
        rw [if_pos rfl]
        constructor
        · refine callsG_at Tryd.func35 (by kernel_rfl) ?_
          have e1' := hp
          have e2' := sv
          have e3' := L1
          refine g_q [⟨3, [], .call (avOf e1') (blOf e1') []⟩, ⟨7, [], .call (avOf e2') (blOf e2') [true]⟩, ⟨10, [.sel [4, 11, 12, 13], .own 4 9 1, .keep [1, 0] [false, true]], .loop (exOf e3') (endOf e3')⟩] [.sel [2, 3]] Exit.ret (stOf 57 [(2, AV.str (ByteArray.mk #[])), (3, AV.int .i64 (8 : Int))] [Blk.row 9 (flatA encS R)]) (And.intro e1' (And.intro (show ∀ (x : AV), x ∈ flatA encS (SP s) → plain0 x = true from encS_plain (SP s)) (And.intro e2' (And.intro (show ∀ (x : AV), x ∈ flatA encS (SP s) → noid0 x = true from encS_noid (SP s)) e3')))) ?_
          refine g_f [] [] (AV.tuple [AV.str (ByteArray.mk #[]), AV.int .i64 (8 : Int)]) ([]) trivial ?_
          exact ⟨rfl, rfl⟩
        · refine callsG_at Tryd.func33 (by kernel_rfl) ?_
          have e1' := rv
          have e2' := L2
          refine g_q [⟨6, [], .gd⟩, ⟨7, [], .gd⟩, ⟨8, [], .gd⟩, ⟨10, [], .br false .no⟩, ⟨12, [], .call (avOf e1') (blOf e1') [true]⟩, ⟨16, [.sel [4, 5, 6], .own 5 9 1], .loop (exOf e2') (endOf e2')⟩] [.sel [2, 3]] Exit.ret (stOf 78 [(2, AV.str (ByteArray.mk #[])), (3, AV.int .i64 (8 : Int))] [Blk.row 9 (flatA encS R)]) (And.intro (show (decide ((↑s.size : Int) > (0 : Int)) == true) = true → (decide ((↑s.size : Int) > (0 : Int)) == true) = true from (fun h => h)) (And.intro (show (decide ((↑s.size : Int) > (0 : Int)) == true) = true → (0 : Int) ≤ (0 : Int) ∧ (0 : Int) < (↑s.size : Int) from (by (simp; done))) (And.intro (show (decide ((↑s.size : Int) > (0 : Int)) == true) = true → (decide ((↑s.size : Int) > (0 : Int)) == true) = true from (fun h => h)) (And.intro (show decide ((↑s.size : Int) > (0 : Int)) = true → (decide ((↑s.size : Int) > (0 : Int)) == true) = true from (by (simp; done))) (And.intro (show (bif decide ((↑s.size : Int) > (0 : Int)) then byteAt s (0 : Int) == (47 : Int) else false) = false from (by simp_all; done)) (And.intro (show ∀ (x : AV), x ∈ flatA encS (SP s) → plain0 x = true from encS_plain (SP s)) (And.intro e1' e2'))))))) ?_
          refine g_f [] [] (AV.tuple [AV.str (ByteArray.mk #[]), AV.int .i64 (8 : Int)]) ([]) trivial ?_
          exact ⟨rfl, rfl⟩
      · have hn0 : ((n : Int) == 0) = false := by rw [beq_eq_false_iff_ne]; omega
        rw [if_neg hn]
        by_cases hlong : 8 < n ∨ 64 < p.size
        · rw [if_pos hlong]
          constructor
          · refine callsG_at Tryd.func35 (by kernel_rfl) ?_
            have e1' := hp
            have e2' := sv
            have e3' := L1
            have e4' := (show Reads [Blk.row 9 (flatA encS R)] [AV.sl 0 0 n 1, AV.str (ByteArray.mk #[(47 : UInt8)])] [AV.slv n 1 (flatA encS (List.take n R)), AV.str (ByteArray.mk #[(47 : UInt8)])] from (Reads.cons (Reads1.sl (t := 9) (xs := flatA encS R) (by kernel_rfl) (show ∀ (x : AV), x ∈ flatA encS R → noid0 x = true ∧ x ≠ AV.junk from encS_lend R) (show 0 + n * 1 ≤ (flatA encS R).length from (by omega)) tk) (Reads.cons (Reads1.val (by kernel_rfl)) Reads.nil)))
            have e5' := jv
            refine g_q [⟨3, [], .call (avOf e1') (blOf e1') []⟩, ⟨7, [], .call (avOf e2') (blOf e2') [true]⟩, ⟨10, [.sel [4, 11, 12, 13], .own 4 9 1, .keep [1, 0] [false, true]], .loop (exOf e3') (endOf e3')⟩, ⟨14, [], .br false .no⟩, ⟨16, [], .lend (rdOf e4') (avOf e5') (blOf e5') []⟩, ⟨22, [], .gd⟩, ⟨23, [], .gd⟩, ⟨24, [], .gd⟩, ⟨26, [], .br true .no⟩] [.sel [2, 3]] Exit.ret (stOf 57 [(2, AV.str (ByteArray.mk #[])), (3, AV.int .i64 (2 : Int))] [Blk.row 9 (flatA encS R)]) (And.intro e1' (And.intro (show ∀ (x : AV), x ∈ flatA encS (SP s) → plain0 x = true from encS_plain (SP s)) (And.intro e2' (And.intro (show ∀ (x : AV), x ∈ flatA encS (SP s) → noid0 x = true from encS_noid (SP s)) (And.intro e3' (And.intro (show ((↑n : Int) == (0 : Int)) = false from (by assumption)) (And.intro e4' (And.intro (show (novR (AV.str p) && [].all novB) = true from (by kernel_rfl)) (And.intro e5' (And.intro (show (decide ((↑n : Int) > (8 : Int)) == false) = true → (decide ((↑n : Int) > (8 : Int)) == false) = true from (fun h => h)) (And.intro (show (decide ((↑n : Int) > (8 : Int)) == false) = true → (decide ((↑n : Int) > (8 : Int)) == false) = true from (fun h => h)) (And.intro (show decide ((↑n : Int) > (8 : Int)) = false → (decide ((↑n : Int) > (8 : Int)) == false) = true from (by (simp; done))) (show (bif decide ((↑n : Int) > (8 : Int)) then true else decide ((↑p.size : Int) > (64 : Int))) = true from (by simp_all; omega)))))))))))))) ?_
            refine g_f [] [] (AV.tuple [AV.str (ByteArray.mk #[]), AV.int .i64 (2 : Int)]) ([]) trivial ?_
            exact ⟨rfl, rfl⟩
          · refine callsG_at Tryd.func33 (by kernel_rfl) ?_
            have e1' := rv
            have e2' := L2
            have e3' := (show Reads [Blk.row 9 (flatA encS R)] [AV.sl 0 0 n 1] [AV.slv n 1 (flatA encS (List.take n R))] from (Reads.cons (Reads1.sl (t := 9) (xs := flatA encS R) (by kernel_rfl) (show ∀ (x : AV), x ∈ flatA encS R → noid0 x = true ∧ x ≠ AV.junk from encS_lend R) (show 0 + n * 1 ≤ (flatA encS R).length from (by omega)) tk) Reads.nil))
            have e4' := jr
            refine g_q [⟨6, [], .gd⟩, ⟨7, [], .gd⟩, ⟨8, [], .gd⟩, ⟨10, [], .br false .no⟩, ⟨12, [], .call (avOf e1') (blOf e1') [true]⟩, ⟨16, [.sel [4, 5, 6], .own 5 9 1], .loop (exOf e2') (endOf e2')⟩, ⟨20, [], .br false .no⟩, ⟨22, [], .lend (rdOf e3') (avOf e4') (blOf e4') []⟩, ⟨28, [], .gd⟩, ⟨29, [], .gd⟩, ⟨30, [], .gd⟩, ⟨32, [], .br true .no⟩] [.sel [2, 3]] Exit.ret (stOf 78 [(2, AV.str (ByteArray.mk #[])), (3, AV.int .i64 (2 : Int))] [Blk.row 9 (flatA encS R)]) (And.intro (show (decide ((↑s.size : Int) > (0 : Int)) == true) = true → (decide ((↑s.size : Int) > (0 : Int)) == true) = true from (fun h => h)) (And.intro (show (decide ((↑s.size : Int) > (0 : Int)) == true) = true → (0 : Int) ≤ (0 : Int) ∧ (0 : Int) < (↑s.size : Int) from (by (simp; done))) (And.intro (show (decide ((↑s.size : Int) > (0 : Int)) == true) = true → (decide ((↑s.size : Int) > (0 : Int)) == true) = true from (fun h => h)) (And.intro (show decide ((↑s.size : Int) > (0 : Int)) = true → (decide ((↑s.size : Int) > (0 : Int)) == true) = true from (by (simp; done))) (And.intro (show (bif decide ((↑s.size : Int) > (0 : Int)) then byteAt s (0 : Int) == (47 : Int) else false) = false from (by simp_all; done)) (And.intro (show ∀ (x : AV), x ∈ flatA encS (SP s) → plain0 x = true from encS_plain (SP s)) (And.intro e1' (And.intro e2' (And.intro (show ((↑n : Int) == (0 : Int)) = false from (by assumption)) (And.intro e3' (And.intro (show (novR (AV.str p) && [].all novB) = true from (by kernel_rfl)) (And.intro e4' (And.intro (show (decide ((↑n : Int) > (8 : Int)) == false) = true → (decide ((↑n : Int) > (8 : Int)) == false) = true from (fun h => h)) (And.intro (show (decide ((↑n : Int) > (8 : Int)) == false) = true → (decide ((↑n : Int) > (8 : Int)) == false) = true from (fun h => h)) (And.intro (show decide ((↑n : Int) > (8 : Int)) = false → (decide ((↑n : Int) > (8 : Int)) == false) = true from (by (simp; done))) (show (bif decide ((↑n : Int) > (8 : Int)) then true else decide ((↑p.size : Int) > (64 : Int))) = true from (by simp_all; omega))))))))))))))))) ?_
            refine g_f [] [] (AV.tuple [AV.str (ByteArray.mk #[]), AV.int .i64 (2 : Int)]) ([]) trivial ?_
            exact ⟨rfl, rfl⟩
        · rw [if_neg hlong]
          constructor
          · refine callsG_at Tryd.func35 (by kernel_rfl) ?_
            have e1' := hp
            have e2' := sv
            have e3' := L1
            have e4' := (show Reads [Blk.row 9 (flatA encS R)] [AV.sl 0 0 n 1, AV.str (ByteArray.mk #[(47 : UInt8)])] [AV.slv n 1 (flatA encS (List.take n R)), AV.str (ByteArray.mk #[(47 : UInt8)])] from (Reads.cons (Reads1.sl (t := 9) (xs := flatA encS R) (by kernel_rfl) (show ∀ (x : AV), x ∈ flatA encS R → noid0 x = true ∧ x ≠ AV.junk from encS_lend R) (show 0 + n * 1 ≤ (flatA encS R).length from (by omega)) tk) (Reads.cons (Reads1.val (by kernel_rfl)) Reads.nil)))
            have e5' := jv
            refine g_q [⟨3, [], .call (avOf e1') (blOf e1') []⟩, ⟨7, [], .call (avOf e2') (blOf e2') [true]⟩, ⟨10, [.sel [4, 11, 12, 13], .own 4 9 1, .keep [1, 0] [false, true]], .loop (exOf e3') (endOf e3')⟩, ⟨14, [], .br false .no⟩, ⟨16, [], .lend (rdOf e4') (avOf e5') (blOf e5') []⟩, ⟨22, [.tm 51 (.bool false)], .no⟩, ⟨26, [], .br false .no⟩] [.sel [2, 3]] Exit.ret (stOf 57 [(2, AV.str p), (3, AV.int .i64 (0 : Int))] [Blk.row 9 (flatA encS R)]) (And.intro e1' (And.intro (show ∀ (x : AV), x ∈ flatA encS (SP s) → plain0 x = true from encS_plain (SP s)) (And.intro e2' (And.intro (show ∀ (x : AV), x ∈ flatA encS (SP s) → noid0 x = true from encS_noid (SP s)) (And.intro e3' (And.intro (show ((↑n : Int) == (0 : Int)) = false from (by assumption)) (And.intro e4' (And.intro (show (novR (AV.str p) && [].all novB) = true from (by kernel_rfl)) (And.intro e5' (And.intro (congrArg AV.bool (show decide ((↑n : Int) > (8 : Int)) = false from (by rw [decide_eq_false_iff_not]; omega))) (show (bif false then true else decide ((↑p.size : Int) > (64 : Int))) = false from (by simp_all; omega)))))))))))) ?_
            refine g_f [] [] (AV.tuple [AV.str p, AV.int .i64 (0 : Int)]) ([]) trivial ?_
            exact ⟨rfl, rfl⟩
          · refine callsG_at Tryd.func33 (by kernel_rfl) ?_
            have e1' := rv
            have e2' := L2
            have e3' := (show Reads [Blk.row 9 (flatA encS R)] [AV.sl 0 0 n 1] [AV.slv n 1 (flatA encS (List.take n R))] from (Reads.cons (Reads1.sl (t := 9) (xs := flatA encS R) (by kernel_rfl) (show ∀ (x : AV), x ∈ flatA encS R → noid0 x = true ∧ x ≠ AV.junk from encS_lend R) (show 0 + n * 1 ≤ (flatA encS R).length from (by omega)) tk) Reads.nil))
            have e4' := jr
            refine g_q [⟨6, [], .gd⟩, ⟨7, [], .gd⟩, ⟨8, [], .gd⟩, ⟨10, [], .br false .no⟩, ⟨12, [], .call (avOf e1') (blOf e1') [true]⟩, ⟨16, [.sel [4, 5, 6], .own 5 9 1], .loop (exOf e2') (endOf e2')⟩, ⟨20, [], .br false .no⟩, ⟨22, [], .lend (rdOf e3') (avOf e4') (blOf e4') []⟩, ⟨28, [.tm 72 (.bool false)], .no⟩, ⟨32, [], .br false .no⟩] [.sel [2, 3]] Exit.ret (stOf 78 [(2, AV.str p), (3, AV.int .i64 (0 : Int))] [Blk.row 9 (flatA encS R)]) (And.intro (show (decide ((↑s.size : Int) > (0 : Int)) == true) = true → (decide ((↑s.size : Int) > (0 : Int)) == true) = true from (fun h => h)) (And.intro (show (decide ((↑s.size : Int) > (0 : Int)) == true) = true → (0 : Int) ≤ (0 : Int) ∧ (0 : Int) < (↑s.size : Int) from (by (simp; done))) (And.intro (show (decide ((↑s.size : Int) > (0 : Int)) == true) = true → (decide ((↑s.size : Int) > (0 : Int)) == true) = true from (fun h => h)) (And.intro (show decide ((↑s.size : Int) > (0 : Int)) = true → (decide ((↑s.size : Int) > (0 : Int)) == true) = true from (by (simp; done))) (And.intro (show (bif decide ((↑s.size : Int) > (0 : Int)) then byteAt s (0 : Int) == (47 : Int) else false) = false from (by simp_all; done)) (And.intro (show ∀ (x : AV), x ∈ flatA encS (SP s) → plain0 x = true from encS_plain (SP s)) (And.intro e1' (And.intro e2' (And.intro (show ((↑n : Int) == (0 : Int)) = false from (by assumption)) (And.intro e3' (And.intro (show (novR (AV.str p) && [].all novB) = true from (by kernel_rfl)) (And.intro e4' (And.intro (congrArg AV.bool (show decide ((↑n : Int) > (8 : Int)) = false from (by rw [decide_eq_false_iff_not]; omega))) (show (bif false then true else decide ((↑p.size : Int) > (64 : Int))) = false from (by simp_all; omega))))))))))))))) ?_
            refine g_f [] [] (AV.tuple [AV.str p, AV.int .i64 (0 : Int)]) ([]) trivial ?_
            exact ⟨rfl, rfl⟩
    · obtain ⟨L1, L2⟩ := nzL_F s hs m h2 q h3 h4 h5
      rw [h1]
      unfold nzS at L1
      unfold rzS at L2
      rw [show flatA encS ([] : List ByteArray) = [] from rfl] at L1 L2
      constructor
      · refine callsG_at Tryd.func35 (by kernel_rfl) ?_
        have e1' := hp
        have e2' := sv
        have e3' := L1
        refine g_q [⟨3, [], .call (avOf e1') (blOf e1') []⟩, ⟨7, [], .call (avOf e2') (blOf e2') [true]⟩, ⟨10, [.sel [4, 11, 12, 13], .own 4 9 1, .keep [1, 0] [false, true]], .loop (exOf e3') (endOf e3')⟩] [] Exit.ret (stOf 57 [(2, AV.str bE), (3, AV.int .i64 (8 : Int))] []) (And.intro e1' (And.intro (show ∀ (x : AV), x ∈ flatA encS (SP s) → plain0 x = true from encS_plain (SP s)) (And.intro e2' (And.intro (show ∀ (x : AV), x ∈ flatA encS (SP s) → noid0 x = true from encS_noid (SP s)) e3')))) ?_
        refine g_f [] [] (AV.tuple [AV.str bE, AV.int .i64 (8 : Int)]) ([]) trivial ?_
        exact ⟨rfl, rfl⟩
      · refine callsG_at Tryd.func33 (by kernel_rfl) ?_
        have e1' := rv
        have e2' := L2
        refine g_q [⟨6, [], .gd⟩, ⟨7, [], .gd⟩, ⟨8, [], .gd⟩, ⟨10, [], .br false .no⟩, ⟨12, [], .call (avOf e1') (blOf e1') [true]⟩, ⟨16, [.sel [4, 5, 6], .own 5 9 1], .loop (exOf e2') (endOf e2')⟩] [] Exit.ret (stOf 78 [(2, AV.str bE), (3, AV.int .i64 (8 : Int))] []) (And.intro (show (decide ((↑s.size : Int) > (0 : Int)) == true) = true → (decide ((↑s.size : Int) > (0 : Int)) == true) = true from (fun h => h)) (And.intro (show (decide ((↑s.size : Int) > (0 : Int)) == true) = true → (0 : Int) ≤ (0 : Int) ∧ (0 : Int) < (↑s.size : Int) from (by (simp; done))) (And.intro (show (decide ((↑s.size : Int) > (0 : Int)) == true) = true → (decide ((↑s.size : Int) > (0 : Int)) == true) = true from (fun h => h)) (And.intro (show decide ((↑s.size : Int) > (0 : Int)) = true → (decide ((↑s.size : Int) > (0 : Int)) == true) = true from (by (simp; done))) (And.intro (show (bif decide ((↑s.size : Int) > (0 : Int)) then byteAt s (0 : Int) == (47 : Int) else false) = false from (by simp_all; done)) (And.intro (show ∀ (x : AV), x ∈ flatA encS (SP s) → plain0 x = true from encS_plain (SP s)) (And.intro e1' e2'))))))) ?_
        refine g_f [] [] (AV.tuple [AV.str bE, AV.int .i64 (8 : Int)]) ([]) trivial ?_
        exact ⟨rfl, rfl⟩
end Go.Proofs.YthcaeofgegfncaaDoor
namespace Go.Proofs.YthcaeofgegfncaaDoor
open Go Go.RowKit V
set_option linter.unusedSimpArgs false
set_option linter.unusedVariables false
set_option maxHeartbeats 20000000
def vaF (s : ByteArray) : Bool := bif (NZ s).2 == 0 then (NZ s).1.toList == s.toList else false
theorem valid_v (s : ByteArray) (hs : s.size ≤ 30000) : CallsV Tryd.prog 31 [.str s] [] (fun av H' => av = .bool (vaF s) ∧ H' = []) ∧ CallsV Tryd.prog 24 [.str s] [] (fun av H' => av = .bool (vaF s) ∧ H' = []) := by
  obtain ⟨c1, c2⟩ := norm_v s hs
  unfold vaF
  constructor
  · refine callsG_at Tryd.func31 (by kernel_rfl) ?_
    have e1' := c1
    refine g_q [⟨2, [], .call (avOf e1') (blOf e1') []⟩, ⟨11, [], .gd⟩, ⟨12, [], .gd⟩, ⟨13, [], .gd⟩] [.sel [2]] Exit.ret (stOf 17 [(2, AV.bool (bif (NZ s).snd == (0 : Int) then (NZ s).fst.toList == s.toList else false))] []) (And.intro e1' (And.intro (show (((NZ s).snd == (0 : Int)) == true) = true → (((NZ s).snd == (0 : Int)) == true) = true from (fun h => h)) (And.intro (show (((NZ s).snd == (0 : Int)) == true) = true → (((NZ s).snd == (0 : Int)) == true) = true from (fun h => h)) (show ((NZ s).snd == (0 : Int)) = true → (((NZ s).snd == (0 : Int)) == true) = true from (by (simp; done)))))) ?_
    refine g_f [] [] (AV.bool (bif (NZ s).snd == (0 : Int) then (NZ s).fst.toList == s.toList else false)) ([]) trivial ?_
    exact ⟨rfl, rfl⟩
  · refine callsG_at Tryd.func24 (by kernel_rfl) ?_
    have e1' := c2
    refine g_q [⟨2, [], .call (avOf e1') (blOf e1') []⟩, ⟨11, [], .gd⟩, ⟨12, [], .gd⟩, ⟨13, [], .gd⟩] [.sel [2]] Exit.ret (stOf 17 [(2, AV.bool (bif (NZ s).snd == (0 : Int) then (NZ s).fst.toList == s.toList else false))] []) (And.intro e1' (And.intro (show (((NZ s).snd == (0 : Int)) == true) = true → (((NZ s).snd == (0 : Int)) == true) = true from (fun h => h)) (And.intro (show (((NZ s).snd == (0 : Int)) == true) = true → (((NZ s).snd == (0 : Int)) == true) = true from (fun h => h)) (show ((NZ s).snd == (0 : Int)) = true → (((NZ s).snd == (0 : Int)) == true) = true from (by (simp; done)))))) ?_
    refine g_f [] [] (AV.bool (bif (NZ s).snd == (0 : Int) then (NZ s).fst.toList == s.toList else false)) ([]) trivial ?_
    exact ⟨rfl, rfl⟩
theorem hp_iff (s t : ByteArray) : hpF s t = true ↔ t.size ≤ s.size ∧ (bytes s).take t.size = bytes t := by
  unfold hpF
  rw [toList_bytes, toList_bytes, bytes_extract, List.drop_zero]
  by_cases h : t.size ≤ s.size
  · rw [decide_eq_true (by omega), cond_true]
    simp [h]
  · rw [decide_eq_false (by omega), cond_false]
    simp [h]
def unF (s t : ByteArray) : Bool := decide (t = bE) || (decide (s = t) || (decide (t.size < s.size) && (hpF s t && (byteAt s (t.size : Int) == 47))))
theorem size_zero {s : ByteArray} (h : s.size = 0) : s = bE := bytes_inj (List.eq_nil_of_length_eq_zero h)
theorem hp_self (s : ByteArray) : hpF s s = true := (hp_iff s s).2 ⟨Nat.le_refl _, List.take_of_length_le (Nat.le_of_eq (bytes_len s))⟩
theorem hp_nil (s : ByteArray) : hpF s bE = true := (hp_iff s bE).2 ⟨Nat.zero_le _, by rw [show bE.size = 0 from rfl, List.take_zero]; rfl⟩
theorem emp_iff (s : ByteArray) : (s.toList == bE.toList) = decide (s = bE) := str_eq s bE
theorem rest_zero {s t : ByteArray} (h : hpF s t = true) : ((s.extract t.size s.size).toList == bE.toList) = decide (s = t) := by
  obtain ⟨h1, h2⟩ := (hp_iff s t).1 h
  rw [emp_iff]
  have e : (s.extract t.size s.size = bE) ↔ s = t := by
    constructor
    · intro he
      have h3 : (s.extract t.size s.size).size = 0 := by rw [he]; rfl
      rw [ByteArray.size_extract] at h3
      have h4 : t.size = s.size := by omega
      apply bytes_inj
      rw [← h2, h4, List.take_of_length_le (Nat.le_of_eq (bytes_len s))]
    · rintro rfl
      exact size_zero (by rw [ByteArray.size_extract]; omega)
  by_cases hq : s = t
  · rw [decide_eq_true hq, decide_eq_true (e.2 hq)]
  · rw [decide_eq_false hq, decide_eq_false fun h => hq (e.1 h)]
theorem rest_at {s t : ByteArray} (h : t.size < s.size) : byteAt (s.extract t.size s.size) 0 = byteAt s (t.size : Int) := by
  unfold byteAt
  have e : (s.extract t.size s.size).data.toList = (bytes s).drop t.size := by
    have := bytes_extract s t.size s.size
    rw [List.take_of_length_le (Nat.le_of_eq (bytes_len s))] at this
    exact this
  have h1 : (s.extract t.size s.size).data.getD (Int.toNat 0) 0 = s.data.getD (t.size : Int).toNat 0 := by
    rw [Array.getD_eq_getD_getElem?, Array.getD_eq_getD_getElem?, ← Array.getElem?_toList, ← Array.getElem?_toList, e, List.getElem?_drop]
    rfl
  rw [h1]
theorem under_v (s t : ByteArray) (hs : s.size ≤ 1000000) (ht : t.size ≤ 1000000) : CallsV Tryd.prog 32 [.str s, .str t] [] (fun av H' => av = .bool (unF s t) ∧ H' = []) ∧ CallsV Tryd.prog 34 [.str s, .str t] [] (fun av H' => av = .bool (unF s t) ∧ H' = []) := by
  have cp := cutPrefix_v s t (by omega)
  constructor
  · refine callsG_at Tryd.func32 (by kernel_rfl) ?_
    cases h : hpF s t with
    | false =>
      rw [h] at cp
      have e : unF s t = false := by
        unfold unF
        rw [h]
        by_cases h1 : t = bE
        · rw [h1, hp_nil] at h; cases h
        · by_cases h2 : s = t
          · rw [h2, hp_self] at h; cases h
          · simp [h1, h2]
      rw [e]
      have e1' := cp
      refine g_q [⟨3, [], .call (avOf e1') (blOf e1') []⟩] [.sel [4]] Exit.ret (stOf 27 [(4, AV.bool false)] []) (And.intro e1' (show false = true → false = true from (fun h => h))) ?_
      refine g_f [] [] (AV.bool false) ([]) trivial ?_
      exact ⟨rfl, rfl⟩
    | true =>
      rw [h, cond_true] at cp
      have rz := rest_zero h
      obtain ⟨hle, _⟩ := (hp_iff s t).1 h
      cases h1 : (t.toList == bE.toList) with
      | true =>
        have e : unF s t = true := by
          rw [emp_iff] at h1
          unfold unF; rw [h1, Bool.true_or]
        rw [e]
        generalize s.extract t.size s.size = r at cp rz
        have e1' := cp
        refine g_q [⟨3, [], .call (avOf e1') (blOf e1') []⟩, ⟨14, [.tm 17 (.bool true)], .no⟩] [.sel [4]] Exit.ret (stOf 27 [(4, AV.bool true)] []) (And.intro e1' (And.intro (congrArg AV.bool h1) (And.intro (show true = false → false = true from (by decide)) (show true = false → false = true from (by decide))))) ?_
        refine g_f [] [] (AV.bool true) ([]) trivial ?_
        exact ⟨rfl, rfl⟩
      | false =>
        cases h2 : decide (s = t) with
        | true =>
          have e : unF s t = true := by unfold unF; rw [h2, Bool.true_or, Bool.or_true]
          rw [e]
          rw [h2] at rz
          generalize s.extract t.size s.size = r at cp rz
          have e1' := cp
          refine g_q [⟨3, [], .call (avOf e1') (blOf e1') []⟩, ⟨14, [.tm 17 (.bool false)], .no⟩, ⟨18, [.tm 21 (.bool true)], .no⟩] [.sel [4]] Exit.ret (stOf 27 [(4, AV.bool true)] []) (And.intro e1' (And.intro (congrArg AV.bool h1) (And.intro (congrArg AV.bool (congrArg (fun z => bif false then true else z) rz)) (show true = false → false = true from (by decide))))) ?_
          refine g_f [] [] (AV.bool true) ([]) trivial ?_
          exact ⟨rfl, rfl⟩
        | false =>
          have hlt : t.size < s.size := by
            rcases Nat.lt_or_ge t.size s.size with h3 | h3
            · exact h3
            · have : s = t := by
                obtain ⟨_, h4⟩ := (hp_iff s t).1 h
                apply bytes_inj
                rw [← h4, List.take_of_length_le (by rw [bytes_len]; exact h3)]
              rw [decide_eq_true this] at h2; cases h2
          have e : unF s t = (byteAt s (t.size : Int) == 47) := by
            rw [emp_iff] at h1
            unfold unF; rw [h1, h2, h, decide_eq_true hlt]; simp
          rw [e, ← rest_at hlt]
          rw [h2] at rz
          have hrs : 0 < (s.extract t.size s.size).size := by rw [ByteArray.size_extract]; omega
          generalize s.extract t.size s.size = r at cp rz hrs
          have e1' := cp
          refine g_q [⟨3, [], .call (avOf e1') (blOf e1') []⟩, ⟨14, [.tm 17 (.bool false)], .no⟩, ⟨18, [.tm 21 (.bool false)], .no⟩] [.sel [4]] Exit.ret (stOf 27 [(4, AV.bool (bif true then bif false then true else byteAt r (0 : Int) == (47 : Int) else false))] []) (And.intro e1' (And.intro (congrArg AV.bool h1) (And.intro (congrArg AV.bool (congrArg (fun z => bif false then true else z) rz)) (show (0 : Int) ≤ (0 : Int) ∧ (0 : Int) < (↑r.size : Int) from (by omega))))) ?_
          refine g_f [] [] (AV.bool (bif true then bif false then true else byteAt r (0 : Int) == (47 : Int) else false)) ([]) trivial ?_
          exact ⟨rfl, rfl⟩
  · refine callsG_at Tryd.func34 (by kernel_rfl) ?_
    have he := emp_iff t
    have hq := str_eq s t
    unfold unF hpF
    by_cases h1 : t.size < s.size
    · have h3 : decide ((s.size : Int) > (t.size : Int)) = true := decide_eq_true (by omega)
      have h4 : decide ((t.size : Int) ≤ (s.size : Int)) = true := decide_eq_true (by omega)
      rw [decide_eq_true h1, h4, cond_true]
      have hb : 0 ≤ (0 : Int) ∧ (0 : Int) ≤ (t.size : Int) ∧ (t.size : Int) ≤ (s.size : Int) := by omega
      have e1' := (congrArg (fun z => AV.bool z) he)
      have e2' := (congrArg (fun z => AV.cnd (decide (t = bE) == false) (AV.bool z)) hq)
      have e3' := (congrArg (fun z => AV.cnd ((bif decide (t = bE) then true else decide (s = t)) == false) (AV.bool z)) h3)
      have e4' := (Eq.trans (congrArg (fun z => AV.cnd ((bif decide (t = bE) then true else decide (s = t)) == false && true == true) (AV.str (s.extract z (↑t.size : Int).toNat))) (Int.toNat_natCast (0))) (congrArg (fun z => AV.cnd ((bif decide (t = bE) then true else decide (s = t)) == false && true == true) (AV.str (s.extract 0 z))) (Int.toNat_natCast (t.size))))
      refine g_q [⟨2, [], .as (rhsOf e1')⟩, ⟨4, [], .gd⟩, ⟨5, [], .gd⟩, ⟨6, [], .gda (rhsOf e2')⟩, ⟨9, [], .gd⟩, ⟨10, [], .gd⟩, ⟨11, [], .gd⟩, ⟨12, [], .gd⟩, ⟨13, [], .gda (rhsOf e3')⟩, ⟨14, [], .gd⟩, ⟨15, [], .gd⟩, ⟨16, [], .gd⟩, ⟨17, [], .gd⟩, ⟨18, [], .gda (rhsOf e4')⟩, ⟨19, [], .gd⟩, ⟨20, [], .gd⟩, ⟨21, [], .gd⟩, ⟨22, [], .gd⟩, ⟨23, [], .gd⟩, ⟨24, [], .gd⟩, ⟨25, [], .gd⟩, ⟨26, [], .gd⟩, ⟨27, [], .gd⟩, ⟨28, [], .gd⟩] [.sel [4]] Exit.ret (stOf 34 [(4, AV.bool (bif bif decide (t = bE) then true else decide (s = t) then true else bif bif true then (s.extract 0 t.size).toList == t.toList else false then byteAt s (↑t.size : Int) == (47 : Int) else false))] []) (And.intro e1' (And.intro (show (decide (t = bE) == false) = true → (decide (t = bE) == false) = true from (fun h => h)) (And.intro (show (decide (t = bE) == false) = true → (decide (t = bE) == false) = true from (fun h => h)) (And.intro e2' (And.intro (show decide (t = bE) = false → (decide (t = bE) == false) = true from (by (simp; done))) (And.intro (show ((bif decide (t = bE) then true else decide (s = t)) == false) = true → ((bif decide (t = bE) then true else decide (s = t)) == false) = true from (fun h => h)) (And.intro (show ((bif decide (t = bE) then true else decide (s = t)) == false) = true → ((bif decide (t = bE) then true else decide (s = t)) == false) = true from (fun h => h)) (And.intro (show ((bif decide (t = bE) then true else decide (s = t)) == false) = true → ((bif decide (t = bE) then true else decide (s = t)) == false) = true from (fun h => h)) (And.intro (show ((bif decide (t = bE) then true else decide (s = t)) == false) = true → ((bif decide (t = bE) then true else decide (s = t)) == false) = true from (fun h => h)) (And.intro e3' (And.intro (show ((bif decide (t = bE) then true else decide (s = t)) == false) = true → ((bif decide (t = bE) then true else decide (s = t)) == false) = true from (fun h => h)) (And.intro (show ((bif decide (t = bE) then true else decide (s = t)) == false && true == true) = true → ((bif decide (t = bE) then true else decide (s = t)) == false && true == true) = true from (fun h => h)) (And.intro (show ((bif decide (t = bE) then true else decide (s = t)) == false && true == true) = true → ((bif decide (t = bE) then true else decide (s = t)) == false && true == true) = true from (fun h => h)) (And.intro (show ((bif decide (t = bE) then true else decide (s = t)) == false && true == true) = true → ((bif decide (t = bE) then true else decide (s = t)) == false && true == true) = true from (fun h => h)) (And.intro (show ((bif decide (t = bE) then true else decide (s = t)) == false && true == true) = true → (0 : Int) ≤ (0 : Int) ∧ (0 : Int) ≤ (↑t.size : Int) ∧ (↑t.size : Int) ≤ (↑s.size : Int) from (by omega)) (And.intro e4' (And.intro (show ((bif decide (t = bE) then true else decide (s = t)) == false && true == true) = true → ((bif decide (t = bE) then true else decide (s = t)) == false && true == true) = true from (fun h => h)) (And.intro (show ((bif decide (t = bE) then true else decide (s = t)) == false && true == true) = true → ((bif decide (t = bE) then true else decide (s = t)) == false && true == true) = true from (fun h => h)) (And.intro (show ((bif decide (t = bE) then true else decide (s = t)) == false) = true → ((bif decide (t = bE) then true else decide (s = t)) == false) = true from (fun h => h)) (And.intro (show ((bif decide (t = bE) then true else decide (s = t)) == false) = true → true = true → ((bif decide (t = bE) then true else decide (s = t)) == false && true == true) = true from (by (simp; done))) (And.intro (show ((bif decide (t = bE) then true else decide (s = t)) == false) = true → ((bif decide (t = bE) then true else decide (s = t)) == false) = true from (fun h => h)) (And.intro (show ((bif decide (t = bE) then true else decide (s = t)) == false && (bif true then (s.extract 0 t.size).toList == t.toList else false) == true) = true → ((bif decide (t = bE) then true else decide (s = t)) == false && (bif true then (s.extract 0 t.size).toList == t.toList else false) == true) = true from (fun h => h)) (And.intro (show ((bif decide (t = bE) then true else decide (s = t)) == false && (bif true then (s.extract 0 t.size).toList == t.toList else false) == true) = true → ((bif decide (t = bE) then true else decide (s = t)) == false && (bif true then (s.extract 0 t.size).toList == t.toList else false) == true) = true from (fun h => h)) (And.intro (show ((bif decide (t = bE) then true else decide (s = t)) == false && (bif true then (s.extract 0 t.size).toList == t.toList else false) == true) = true → ((bif decide (t = bE) then true else decide (s = t)) == false && (bif true then (s.extract 0 t.size).toList == t.toList else false) == true) = true from (fun h => h)) (And.intro (show ((bif decide (t = bE) then true else decide (s = t)) == false && (bif true then (s.extract 0 t.size).toList == t.toList else false) == true) = true → (0 : Int) ≤ (↑t.size : Int) ∧ (↑t.size : Int) < (↑s.size : Int) from (by omega)) (And.intro (show ((bif decide (t = bE) then true else decide (s = t)) == false && (bif true then (s.extract 0 t.size).toList == t.toList else false) == true) = true → ((bif decide (t = bE) then true else decide (s = t)) == false && (bif true then (s.extract 0 t.size).toList == t.toList else false) == true) = true from (fun h => h)) (And.intro (show ((bif decide (t = bE) then true else decide (s = t)) == false) = true → ((bif decide (t = bE) then true else decide (s = t)) == false) = true from (fun h => h)) (And.intro (show ((bif decide (t = bE) then true else decide (s = t)) == false) = true → (bif true then (s.extract 0 t.size).toList == t.toList else false) = true → ((bif decide (t = bE) then true else decide (s = t)) == false && (bif true then (s.extract 0 t.size).toList == t.toList else false) == true) = true from (by (intro h k; rw [h, k]; rfl))) (show (bif decide (t = bE) then true else decide (s = t)) = false → ((bif decide (t = bE) then true else decide (s = t)) == false) = true from (by (simp; done))))))))))))))))))))))))))))))) ?_
      refine g_f [] [] (AV.bool (bif bif decide (t = bE) then true else decide (s = t) then true else bif bif true then (s.extract 0 t.size).toList == t.toList else false then byteAt s (↑t.size : Int) == (47 : Int) else false)) ([]) trivial ?_
      exact ⟨by cases decide (t = bE) <;> cases decide (s = t) <;> cases (s.extract 0 t.size).toList == t.toList <;> cases byteAt s (t.size : Int) == 47 <;> simp_all, rfl⟩
    · have h3 : decide ((s.size : Int) > (t.size : Int)) = false := decide_eq_false (by omega)
      rw [decide_eq_false h1]
      have e1' := (congrArg (fun z => AV.bool z) he)
      have e2' := (congrArg (fun z => AV.cnd (decide (t = bE) == false) (AV.bool z)) hq)
      have e3' := (congrArg (fun z => AV.cnd ((bif decide (t = bE) then true else decide (s = t)) == false) (AV.bool z)) h3)
      refine g_q [⟨2, [], .as (rhsOf e1')⟩, ⟨4, [], .gd⟩, ⟨5, [], .gd⟩, ⟨6, [], .gda (rhsOf e2')⟩, ⟨9, [], .gd⟩, ⟨10, [], .gd⟩, ⟨11, [], .gd⟩, ⟨12, [], .gd⟩, ⟨13, [], .gda (rhsOf e3')⟩, ⟨14, [], .gd⟩, ⟨15, [], .br false .no⟩, ⟨16, [], .br false .no⟩, ⟨17, [], .br false .no⟩, ⟨18, [], .br false .no⟩, ⟨19, [], .br false .no⟩, ⟨20, [], .br false .no⟩, ⟨21, [], .gd⟩, ⟨22, [], .gd⟩, ⟨23, [], .br false .no⟩, ⟨24, [], .br false .no⟩, ⟨25, [], .br false .no⟩, ⟨26, [], .br false .no⟩, ⟨27, [], .br false .no⟩, ⟨28, [], .gd⟩] [.sel [4]] Exit.ret (stOf 34 [(4, AV.bool (bif bif decide (t = bE) then true else decide (s = t) then true else false))] []) (And.intro e1' (And.intro (show (decide (t = bE) == false) = true → (decide (t = bE) == false) = true from (fun h => h)) (And.intro (show (decide (t = bE) == false) = true → (decide (t = bE) == false) = true from (fun h => h)) (And.intro e2' (And.intro (show decide (t = bE) = false → (decide (t = bE) == false) = true from (by (simp; done))) (And.intro (show ((bif decide (t = bE) then true else decide (s = t)) == false) = true → ((bif decide (t = bE) then true else decide (s = t)) == false) = true from (fun h => h)) (And.intro (show ((bif decide (t = bE) then true else decide (s = t)) == false) = true → ((bif decide (t = bE) then true else decide (s = t)) == false) = true from (fun h => h)) (And.intro (show ((bif decide (t = bE) then true else decide (s = t)) == false) = true → ((bif decide (t = bE) then true else decide (s = t)) == false) = true from (fun h => h)) (And.intro (show ((bif decide (t = bE) then true else decide (s = t)) == false) = true → ((bif decide (t = bE) then true else decide (s = t)) == false) = true from (fun h => h)) (And.intro e3' (And.intro (show ((bif decide (t = bE) then true else decide (s = t)) == false) = true → ((bif decide (t = bE) then true else decide (s = t)) == false) = true from (fun h => h)) (And.intro (show ((bif decide (t = bE) then true else decide (s = t)) == false && false == true) = false from (by simp_all; done)) (And.intro (show ((bif decide (t = bE) then true else decide (s = t)) == false && false == true) = false from (by simp_all; done)) (And.intro (show ((bif decide (t = bE) then true else decide (s = t)) == false && false == true) = false from (by simp_all; done)) (And.intro (show ((bif decide (t = bE) then true else decide (s = t)) == false && false == true) = false from (by simp_all; done)) (And.intro (show ((bif decide (t = bE) then true else decide (s = t)) == false && false == true) = false from (by simp_all; done)) (And.intro (show ((bif decide (t = bE) then true else decide (s = t)) == false && false == true) = false from (by simp_all; done)) (And.intro (show ((bif decide (t = bE) then true else decide (s = t)) == false) = true → ((bif decide (t = bE) then true else decide (s = t)) == false) = true from (fun h => h)) (And.intro (show ((bif decide (t = bE) then true else decide (s = t)) == false) = true → false = true → false = true from (by (simp; done))) (And.intro (show ((bif decide (t = bE) then true else decide (s = t)) == false) = true → ((bif decide (t = bE) then true else decide (s = t)) == false) = true from (fun h => h)) (And.intro (show ((bif decide (t = bE) then true else decide (s = t)) == false && false == true) = false from (by simp_all; done)) (And.intro (show ((bif decide (t = bE) then true else decide (s = t)) == false && false == true) = false from (by simp_all; done)) (And.intro (show ((bif decide (t = bE) then true else decide (s = t)) == false && false == true) = false from (by simp_all; done)) (And.intro (show ((bif decide (t = bE) then true else decide (s = t)) == false && false == true) = false from (by simp_all; done)) (And.intro (show ((bif decide (t = bE) then true else decide (s = t)) == false && false == true) = false from (by simp_all; done)) (And.intro (show ((bif decide (t = bE) then true else decide (s = t)) == false) = true → ((bif decide (t = bE) then true else decide (s = t)) == false) = true from (fun h => h)) (And.intro (show ((bif decide (t = bE) then true else decide (s = t)) == false) = true → false = true → false = true from (by (simp; done))) (show (bif decide (t = bE) then true else decide (s = t)) = false → ((bif decide (t = bE) then true else decide (s = t)) == false) = true from (by (simp; done)))))))))))))))))))))))))))))) ?_
      refine g_f [] [] (AV.bool (bif bif decide (t = bE) then true else decide (s = t) then true else false)) ([]) trivial ?_
      exact ⟨by cases decide (t = bE) <;> cases decide (s = t) <;> simp_all, rfl⟩
end Go.Proofs.YthcaeofgegfncaaDoor
