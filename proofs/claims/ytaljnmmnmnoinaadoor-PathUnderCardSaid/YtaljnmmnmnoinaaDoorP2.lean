/-
  Paths: the library's functions on strings.
-/
import Derived.Test.YtaljnmmnmnoinaaDoorP1
namespace Go.Proofs.YtaljnmmnmnoinaaDoor
open Go Go.RowKit V
set_option linter.unusedSimpArgs false
set_option linter.unusedVariables false
set_option maxHeartbeats 20000000
abbrev slB : ByteArray := ByteArray.mk #[47]
def encS (x : ByteArray) : List AV := [AV.str x]
theorem encS_l (x : ByteArray) : (encS x).length = 1 := rfl
theorem encS_at (l : List ByteArray) (k : Nat) (hk : k < l.length) : (flatA encS l).drop ((k : Int).toNat * 1) = AV.str (l.getD k ByteArray.empty) :: flatA encS (l.drop (k + 1)) := flatA_at encS_l l ByteArray.empty k hk
theorem encS_at0 (l : List ByteArray) (k : Nat) (hk : k < l.length) : (flatA encS l).drop (0 + (k : Int).toNat * 1) = AV.str (l.getD k ByteArray.empty) :: flatA encS (l.drop (k + 1)) := by
  rw [Nat.zero_add]; exact flatA_at encS_l l ByteArray.empty k hk
theorem encS_len (l : List ByteArray) : (flatA encS l).length = l.length * 1 := flatA_length (n := 1) encS_l l
theorem encS_ge (l : List ByteArray) : l.length * 1 ≤ (flatA encS l).length := Nat.le_of_eq (encS_len l).symm
theorem encS_gk (l : List ByteArray) (k : Nat) (hk : k < l.length) : 1 ≤ ((flatA encS l).drop (0 + (k : Int).toNat * 1)).length := by
  rw [encS_at0 l k hk]; simp
theorem encS_noid (l : List ByteArray) : ∀ x ∈ flatA encS l, noid0 x = true := flatA_noid _ (fun a x hx => by
  simp only [encS, List.mem_cons, List.not_mem_nil, or_false] at hx
  rcases hx with rfl <;> rfl) l
theorem encS_plain (l : List ByteArray) : ∀ x ∈ flatA encS l, plain0 x = true := flatA_all (p := fun x => plain0 x = true) (fun a x hx => by
  simp only [encS, List.mem_cons, List.not_mem_nil, or_false] at hx
  rcases hx with rfl <;> rfl) l
theorem encS_lend (l : List ByteArray) : ∀ x ∈ flatA encS l, noid0 x = true ∧ x ≠ .junk := flatA_all (p := fun x => noid0 x = true ∧ x ≠ .junk) (fun a x hx => by
  simp only [encS, List.mem_cons, List.not_mem_nil, or_false] at hx
  rcases hx with rfl <;> exact ⟨rfl, by simp⟩) l
theorem encS_snoc (l : List ByteArray) (x : ByteArray) : (flatA encS l).take (l.length * 1) ++ [AV.str x] = flatA encS (l ++ [x]) := flatA_snoc encS_l l x
theorem encS_set (l : List ByteArray) (k : Nat) (hk : k < l.length) (x : ByteArray) : (flatA encS l).take (0 + (k : Int).toNat * 1) ++ [AV.str x] ++ (flatA encS l).drop (0 + (k : Int).toNat * 1 + 1) = flatA encS (l.set k x) := flatA_set0 encS_l l k hk x
/-- does it hold below n -/
def allN (f : Nat → Bool) (n : Nat) : Bool := (List.range n).all f
theorem allN_or (f : Nat → Bool) (n : Nat) : (allN f n = true ∧ ∀ k, k < n → f k = true) ∨ (allN f n = false ∧ ∃ m, m < n ∧ (∀ k, k < m → f k = true) ∧ f m = false) := by
  induction n with
  | zero => exact Or.inl ⟨rfl, fun k h => absurd h (by omega)⟩
  | succ n ih =>
    have e : allN f (n + 1) = (allN f n && f n) := by unfold allN; rw [List.range_succ, List.all_append]; simp
    rcases ih with ⟨h1, h2⟩ | ⟨h1, m, h2, h3, h4⟩
    · cases hn : f n with
      | true => exact Or.inl ⟨by rw [e, h1, hn]; rfl, fun k hk => by
          rcases Nat.lt_succ_iff_lt_or_eq.1 hk with h | rfl
          · exact h2 k h
          · exact hn⟩
      | false => exact Or.inr ⟨by rw [e, hn, Bool.and_false], n, by omega, h2, hn⟩
    · exact Or.inr ⟨by rw [e, h1]; rfl, m, by omega, h3, h4⟩
/-! the reference's Split -/
def rsS (s : ByteArray) (i : Nat) (o : List ByteArray) (f : Nat) : St := stOf 34 [(0, .str s), (1, .int .u8 47), (5, .sl 0 0 o.length 1), (6, .int .i64 (f : Int)), (7, .int .i64 (i : Int))] [.row 9 (flatA encS o)]
theorem rsF_len (s : ByteArray) : ∀ i, (rsF s i).1.length ≤ i
  | 0 => Nat.le_refl _
  | i + 1 => by
    have := rsF_len s i
    unfold rsF
    split
    · simp; omega
    · omega
theorem refSplitL (s : ByteArray) (hs : s.size ≤ 1000000) : LoopG Tryd.prog 0 Tryd.f26 0 (.exit 0) (stOf 34 [(0, .str s), (5, .sl 0 0 (rsF s s.size).1.length 1), (6, .int .i64 ((rsF s s.size).2 : Int))] [.row 9 (flatA encS (rsF s s.size).1)]) (rsS s 0 [] 0) := by
  refine loopG_of s.size (fun i => rsS s i (rsF s i).1 (rsF s i).2) (by kernel_rfl) (by simp) ?_ ?_
  · intro i hi
    obtain ⟨h1, _, _⟩ := rsF_spec s i (by omega)
    have hb : 0 ≤ ((rsF s i).2 : Int) ∧ ((rsF s i).2 : Int) ≤ (i : Int) ∧ (i : Int) ≤ (s.size : Int) := by omega
    have e : rsF s (i + 1) = if byteAt s (i : Int) = 47 then ((rsF s i).1 ++ [s.extract (rsF s i).2 i], i + 1) else rsF s i := rfl
    rw [e]
    have hlen := rsF_len s i
    generalize rsF s i = q at h1 hb hlen ⊢
    obtain ⟨o, f⟩ := q
    simp only at h1 hb hlen ⊢
    by_cases hq : byteAt s (i : Int) = 47
    · rw [if_pos hq]
      have hq' : (byteAt s (i : Int) == 47) = true := by rw [hq]; rfl
      have sn := encS_snoc o (s.extract f i)
      unfold rsS
      rw [snoc_length]
      have e1' := (Eq.trans (congrArg (fun z => AV.str (s.extract z (↑i : Int).toNat)) (Int.toNat_natCast (f))) (congrArg (fun z => AV.str (s.extract f z)) (Int.toNat_natCast (i))))
      have e2' := (congrArg (fun z => Blk.row 9 z) sn)
      have e3' := (congrArg (fun z => AV.int .i64 z) (wrap_i64 (e := (↑i : Int) + (1 : Int)) (by omega) (by omega)))
      exact g_x [⟨4, [], .br true .no⟩, ⟨10, [], .br true .no⟩, ⟨15, [], .as (rhsOf e1')⟩, ⟨18, [.hp 2 (rhsOf e2')], .no⟩, ⟨20, [], .as (rhsOf e3')⟩, ⟨23, [], .as (rhsOf e3')⟩] [.sel [0, 1, 5, 6, 7], .keep [2] [true]] (And.intro (show decide ((↑i : Int) < (↑s.size : Int)) = true from (by rw [decide_eq_true_iff]; omega)) (And.intro (show (0 : Int) ≤ (↑i : Int) ∧ (↑i : Int) < (↑s.size : Int) from (by omega)) (And.intro (show (byteAt s (↑i : Int) == (47 : Int)) = true from (by assumption)) (And.intro (show (0 : Int) ≤ (↑f : Int) ∧ (↑f : Int) ≤ (↑i : Int) ∧ (↑i : Int) ≤ (↑s.size : Int) from (by omega)) (And.intro e1' (And.intro (show o.length * 1 ≤ (flatA encS o).length from encS_ge o) (And.intro (show 1 ≤ 1 from (by omega)) (And.intro (show (o.length + 1) * 16 ≤ 140737488355328 from (by omega)) (And.intro (show o.length + 1 ≤ maxLen from (by (unfold maxLen; omega))) (And.intro (congrArg some e2') (And.intro e3' (And.intro e3' (show ∀ (x : AV), x ∈ flatA encS (o ++ [s.extract f i]) → noid0 x = true from encS_noid (o ++ [s.extract f i]))))))))))))))
    · rw [if_neg hq]
      have hq' : (byteAt s (i : Int) == 47) = false := beq_eq_false_iff_ne.2 hq
      unfold rsS
      have e1' := (congrArg (fun z => AV.int .i64 z) (wrap_i64 (e := (↑i : Int) + (1 : Int)) (by omega) (by omega)))
      exact g_x [⟨4, [], .br true .no⟩, ⟨10, [], .br false .no⟩, ⟨12, [], .as (rhsOf e1')⟩] [.sel [0, 1, 5, 6, 7]] (And.intro (show decide ((↑i : Int) < (↑s.size : Int)) = true from (by rw [decide_eq_true_iff]; omega)) (And.intro (show (0 : Int) ≤ (↑i : Int) ∧ (↑i : Int) < (↑s.size : Int) from (by omega)) (And.intro (show (byteAt s (↑i : Int) == (47 : Int)) = false from (by assumption)) e1')))
  · unfold rsS
    exact g_x [⟨4, [], .br false .no⟩] [.sel [0, 5, 6]] (show decide ((↑s.size : Int) < (↑s.size : Int)) = false from (by rw [decide_eq_false_iff_not]; omega))
theorem refSplit (s : ByteArray) (hs : s.size ≤ 1000000) : CallsV Tryd.prog 26 [.str s, .int .u8 47] [] (fun av H' => av = .sl 0 0 (SP s).length 1 ∧ H' = [.row 9 (flatA encS (SP s))]) := by
  refine callsG_at Tryd.func26 (by kernel_rfl) ?_
  have hL := refSplitL s hs
  have hP := rsF_SP s
  obtain ⟨h1, _, _⟩ := rsF_spec s s.size (Nat.le_refl _)
  have hlen := rsF_len s s.size
  rw [← hP, snoc_length]
  generalize (rsF s s.size).2 = f at hL h1 ⊢
  generalize (rsF s s.size).1 = o at hL hlen ⊢
  have hb : 0 ≤ (f : Int) ∧ (f : Int) ≤ (s.size : Int) ∧ (s.size : Int) ≤ (s.size : Int) := by omega
  have sn := encS_snoc o (s.extract f s.size)
  unfold rsS at hL
  have e1' := hL
  have e2' := (Eq.trans (congrArg (fun z => AV.str (s.extract z (↑s.size : Int).toNat)) (Int.toNat_natCast (f))) (congrArg (fun z => AV.str (s.extract f z)) (Int.toNat_natCast (s.size))))
  have e3' := (congrArg (fun z => Blk.row 9 z) sn)
  refine g_q [⟨4, [.sel [0, 1, 5, 6, 7], .own 5 9 1], .loop (exOf e1') (endOf e1')⟩, ⟨8, [], .as (rhsOf e2')⟩, ⟨11, [.hp 2 (rhsOf e3')], .no⟩] [.sel [4]] Exit.ret (stOf 34 [(4, AV.sl 2 0 (o.length + 1) 1)] [Blk.dead, Blk.row 9 [AV.str (s.extract f s.size)], Blk.row 9 (flatA encS (o ++ [s.extract f s.size]))]) (And.intro e1' (And.intro (show (0 : Int) ≤ (↑f : Int) ∧ (↑f : Int) ≤ (↑s.size : Int) ∧ (↑s.size : Int) ≤ (↑s.size : Int) from (by omega)) (And.intro e2' (And.intro (show o.length * 1 ≤ (flatA encS o).length from encS_ge o) (And.intro (show 1 ≤ 1 from (by omega)) (And.intro (show (o.length + 1) * 16 ≤ 140737488355328 from (by omega)) (And.intro (show o.length + 1 ≤ maxLen from (by (unfold maxLen; omega))) (congrArg some e3')))))))) ?_
  refine g_f [2] [true] (AV.sl 0 0 (o.length + 1) 1) ([Blk.row 9 (flatA encS (o ++ [s.extract f s.size]))]) (show ∀ (x : AV), x ∈ flatA encS (o ++ [s.extract f s.size]) → noid0 x = true from encS_noid (o ++ [s.extract f s.size])) ?_
  exact ⟨rfl, rfl⟩
/-! the library's Split -/
theorem idxByte_v (r : ByteArray) : CallsV Tryd.prog 52 [.str r, .int .u8 47] [] (fun av H' => av = .int .i64 (Lib.indexByte (bytes r) 47) ∧ H' = []) := by
  refine callsG_at Tryd.func52 (by kernel_rfl) ?_
  refine g_q [] [.sel [4]] Exit.ret (stOf 8 [(4, AV.int .i64 (Lib.indexByte r.data.toList (Int.toNat (47 : Int)).toUInt8))] []) trivial ?_
  refine g_f [] [] (AV.int .i64 (Lib.indexByte r.data.toList (Int.toNat (47 : Int)).toUInt8)) ([]) trivial ?_
  exact ⟨rfl, rfl⟩
theorem lite_v (r : ByteArray) : CallsV Tryd.prog 48 [.str r, .str slB] [] (fun av H' => av = .int .i64 (Lib.indexByte (bytes r) 47) ∧ H' = []) := by
  refine callsG_at Tryd.func48 (by kernel_rfl) ?_
  have h0 : slB.toList = r.toList → Lib.indexByte (bytes r) 47 = 0 := fun h => by
    rw [toList_bytes, toList_bytes] at h
    rw [← h]; rfl
  cases hr : (slB.toList == r.toList) with
  | true =>
    rw [h0 (eq_of_beq hr)]
    refine g_q [⟨12, [], .br true .no⟩] [.sel [4]] Exit.ret (stOf 143 [(4, AV.int .i64 (0 : Int))] []) (congrArg (fun z => bif false then true else z) hr) ?_
    refine g_f [] [] (AV.int .i64 (0 : Int)) ([]) trivial ?_
    exact ⟨rfl, rfl⟩
  | false =>
    have e1' := idxByte_v r
    refine g_q [⟨12, [], .br false .no⟩, ⟨20, [], .call (avOf e1') (blOf e1') []⟩] [.sel [4]] Exit.ret (stOf 143 [(4, AV.int .i64 (Lib.indexByte (bytes r) (47 : UInt8)))] []) (And.intro (congrArg (fun z => bif false then true else z) hr) (And.intro (show (0 : Int) ≤ (0 : Int) ∧ (0 : Int) < (↑1 : Int) from (by omega)) e1')) ?_
    refine g_f [] [] (AV.int .i64 (Lib.indexByte (bytes r) (47 : UInt8))) ([]) trivial ?_
    exact ⟨rfl, rfl⟩
theorem index_v (r : ByteArray) : CallsV Tryd.prog 42 [.str r, .str slB] [] (fun av H' => av = .int .i64 (Lib.indexByte (bytes r) 47) ∧ H' = []) := by
  refine callsG_at Tryd.func42 (by kernel_rfl) ?_
  have e1' := lite_v r
  refine g_q [⟨3, [], .call (avOf e1') (blOf e1') []⟩] [.sel [4]] Exit.ret (stOf 8 [(4, AV.int .i64 (Lib.indexByte (bytes r) (47 : UInt8)))] []) e1' ?_
  refine g_f [] [] (AV.int .i64 (Lib.indexByte (bytes r) (47 : UInt8))) ([]) trivial ?_
  exact ⟨rfl, rfl⟩
theorem count_v (r : ByteArray) : CallsV Tryd.prog 41 [.str r, .str slB] [] (fun av H' => av = .int .i64 ((bytes r).count 47 : Nat) ∧ H' = []) := by
  refine callsG_at Tryd.func41 (by kernel_rfl) ?_
  refine g_q [] [.sel [4]] Exit.ret (stOf 34 [(4, AV.int .i64 (↑(Lib.countByte r.data.toList (Int.toNat (47 : Int)).toUInt8) : Int))] []) (show (0 : Int) ≤ (0 : Int) ∧ (0 : Int) < (↑1 : Int) from (by omega)) ?_
  refine g_f [] [] (AV.int .i64 (↑(Lib.countByte r.data.toList (Int.toNat (47 : Int)).toUInt8) : Int)) ([]) trivial ?_
  exact ⟨rfl, rfl⟩
def gsS (s r : ByteArray) (i C : Nat) (o : List ByteArray) : St := stOf 66 [(0, .str r), (1, .str slB), (2, .int .i64 0), (3, .int .i64 (C : Int)), (9, .sl 0 0 (C + 1) 1), (10, .int .i64 (i : Int))] [.row 9 (flatA encS o)]
theorem set_mid (o : List ByteArray) (m : Nat) (x : ByteArray) : (o ++ List.replicate (m + 1) bE).set o.length x = (o ++ [x]) ++ List.replicate m bE := by
  rw [List.set_append_right _ _ (Nat.le_refl _), Nat.sub_self, List.replicate_succ, List.set_cons_zero, List.append_assoc]; rfl
theorem genSplitL (s : ByteArray) (hs : s.size ≤ 1000000) (C : Nat) (hC : (bytes s).count 47 = C) : LoopG Tryd.prog 0 Tryd.f33 0 (.exit 0) (stOf 66 [(0, .str (gsF s C).2), (9, .sl 0 0 (C + 1) 1), (10, .int .i64 (C : Int))] [.row 9 (flatA encS ((gsF s C).1 ++ [bE]))]) (gsS s s 0 C (List.replicate (C + 1) bE)) := by
  have hCs : C ≤ s.size := by rw [← hC, ← bytes_len]; exact List.count_le_length
  refine loopG_of C (fun i => gsS s (gsF s i).2 i C ((gsF s i).1 ++ List.replicate (C + 1 - i) bE)) (by kernel_rfl) (by simp [gsF]) ?_ ?_
  · intro i hi
    obtain ⟨h1, h2, h3, h4⟩ := gsF_spec s i (by omega)
    have e : gsF s (i + 1) = ((gsF s i).1 ++ [(gsF s i).2.extract 0 (Lib.indexByte (bytes (gsF s i).2) 47).toNat], (gsF s i).2.extract ((Lib.indexByte (bytes (gsF s i).2) 47) + 1).toNat (gsF s i).2.size) := rfl
    rw [e]
    generalize gsF s i = q at h1 h2 h3 h4 ⊢
    obtain ⟨o, r⟩ := q
    simp only at h1 h2 h3 h4 ⊢
    have hne := cnt_pos (l := bytes r) (by omega)
    have hge := Lib.indexByte_ge (bytes r) 47
    obtain ⟨m, hm⟩ : ∃ m : Nat, Lib.indexByte (bytes r) 47 = (m : Int) := ⟨(Lib.indexByte (bytes r) 47).toNat, by omega⟩
    obtain ⟨_, g2, _⟩ := idx_some _ m hm
    have hmr : m < r.size := g2
    have iv := index_v r
    rw [hm] at iv ⊢
    have hset := encS_set (o ++ List.replicate (C + 1 - i) bE) i (by simp; omega) (r.extract 0 (m : Int).toNat)
    have hmid := set_mid o (C - i) (r.extract 0 (m : Int).toNat)
    rw [h1, show C - i + 1 = C + 1 - i by omega] at hmid
    rw [hmid] at hset
    have hgi : 0 + (i : Int).toNat * 1 + 1 ≤ (flatA encS (o ++ List.replicate (C + 1 - i) bE)).length := by rw [encS_len]; simp; omega
    have hb1 : 0 ≤ (0 : Int) ∧ (0 : Int) ≤ (m : Int) ∧ (m : Int) ≤ (r.size : Int) := by omega
    have hb2 : 0 ≤ (m : Int) + 1 ∧ (m : Int) + 1 ≤ (r.size : Int) ∧ (r.size : Int) ≤ (r.size : Int) := by omega
    rw [show C + 1 - (i + 1) = C - i by omega]
    unfold gsS
    have e1' := iv
    have e2' := (congrArg (fun z => AV.int .i64 z) (wrap_i64 (e := (↑m : Int) + (0 : Int)) (by omega) (by omega)))
    have e3' := (congrArg (fun z => Blk.row 9 z) hset)
    have e4' := (congrArg (fun z => AV.int .i64 z) (wrap_i64 (e := (↑m : Int) + (1 : Int)) (by omega) (by omega)))
    have e5' := (congrArg (fun z => AV.int .i64 z) (wrap_i64 (e := (↑i : Int) + (1 : Int)) (by omega) (by omega)))
    exact g_x [⟨3, [], .br true .no⟩, ⟨6, [], .call (avOf e1') (blOf e1') []⟩, ⟨16, [], .as (rhsOf e2')⟩, ⟨20, [.hp 0 (rhsOf e3')], .no⟩, ⟨24, [], .as (rhsOf e4')⟩, ⟨28, [], .as (rhsOf e5')⟩] [.sel [0, 1, 2, 3, 9, 10]] (And.intro (show decide ((↑i : Int) < (↑C : Int)) = true from (by rw [decide_eq_true_iff]; omega)) (And.intro e1' (And.intro e2' (And.intro (show (0 : Int) ≤ (0 : Int) ∧ (0 : Int) ≤ (↑m : Int) + (0 : Int) ∧ (↑m : Int) + (0 : Int) ≤ (↑r.size : Int) from (by omega)) (And.intro (show (0 : Int) ≤ (↑i : Int) ∧ (↑i : Int) < (↑(C + 1) : Int) from (by omega)) (And.intro (show 0 + (↑i : Int).toNat * 1 + 1 ≤ (flatA encS (o ++ List.replicate (C + 1 - i) bE)).length from (by omega)) (And.intro (congrArg some e3') (And.intro e4' (And.intro (show (0 : Int) ≤ (↑m : Int) + (1 : Int) ∧ (↑m : Int) + (1 : Int) ≤ (↑r.size : Int) ∧ (↑r.size : Int) ≤ (↑r.size : Int) from (by omega)) e5')))))))))
  · rw [show C + 1 - C = 1 by omega, show List.replicate 1 bE = [bE] from rfl]
    unfold gsS
    exact g_x [⟨3, [], .br false .no⟩] [.sel [0, 9, 10]] (show decide ((↑C : Int) < (↑C : Int)) = false from (by rw [decide_eq_false_iff_not]; omega))
theorem zerosS (n : Nat) : zerosL [AV.str (ByteArray.mk #[])] (n * 1) = flatA encS (List.replicate n bE) := by
  rw [Nat.mul_one]
  unfold zerosL
  induction n with
  | zero => rfl
  | succ n ih => rw [List.range_succ, List.map_append, ih, List.replicate_succ', flatA_append]; simp [flatA, encS, Nat.mod_one]; rfl
theorem genSplit_v (s : ByteArray) (hs : s.size ≤ 1000000) : CallsV Tryd.prog 33 [.str s, .str slB, .int .i64 0, .int .i64 (-1)] [] (fun av H' => av = .sl 0 0 (SP s).length 1 ∧ H' = [.row 9 (flatA encS (SP s))]) := by
  refine callsG_at Tryd.func33 (by kernel_rfl) ?_
  have hL := genSplitL s hs _ rfl
  have cv := count_v s
  have hP := gsF_SP s
  obtain ⟨h1, _, _, _⟩ := gsF_spec s _ (Nat.le_refl _)
  have hCs : (bytes s).count 47 ≤ s.size := by rw [← bytes_len]; exact List.count_le_length
  rw [← hP, snoc_length, h1]
  generalize (bytes s).count 47 = C at *
  have hmin : (if (s.size : Int) + 1 < (C : Int) + 1 then (s.size : Int) + 1 else (C : Int) + 1) = ((C + 1 : Nat) : Int) := by split <;> omega
  have hset := encS_set ((gsF s C).1 ++ [bE]) C (by simp; omega) (gsF s C).2
  have hmid := set_mid (gsF s C).1 0 (gsF s C).2
  rw [h1] at hmid
  have hmid' : ((gsF s C).1 ++ [bE]).set C (gsF s C).2 = (gsF s C).1 ++ [(gsF s C).2] := by
    have := hmid; simpa using this
  rw [hmid'] at hset
  have hgi : 0 + (C : Int).toNat * 1 + 1 ≤ (flatA encS ((gsF s C).1 ++ [bE])).length := by rw [encS_len]; simp; omega
  have hgk : (C + 1) * 1 ≤ (flatA encS ((gsF s C).1 ++ [(gsF s C).2])).length := by rw [encS_len]; simp; omega
  have hcc : ((C + 1 : Nat) : Int) - 1 = (C : Int) := by omega
  have z := zerosS (C + 1)
  generalize List.replicate (C + 1) bE = R0 at *
  generalize (gsF s C).1 = o at *
  generalize (gsF s C).2 = r at *
  unfold gsS at hL
  have e1' := cv
  have e2' := (congrArg (fun z => AV.int .i64 z) (wrap_i64 (e := (↑C : Int) + (1 : Int)) (by omega) (by omega)))
  have e3' := (congrArg (fun z => AV.int .i64 z) (wrap_i64 (e := (↑s.size : Int) + (1 : Int)) (by omega) (by omega)))
  have e4' := (congrArg (fun z => AV.int .i64 z) hmin)
  have e5' := (congrArg (fun z => AV.sl 0 0 z 1) (Int.toNat_natCast (C + 1)))
  have e6' := (congrArg (fun z => Blk.row 9 z) z)
  have e7' := (Eq.trans (congrArg (fun z => AV.int .i64 (IntKind.i64.wrap z)) hcc) (congrArg (fun z => AV.int .i64 z) (wrap_i64 (e := (↑C : Int)) (by omega) (by omega))))
  have e8' := hL
  have e9' := (congrArg (fun z => AV.ptr 0 (0 + z * 1)) (Int.toNat_natCast (C)))
  have e10' := (congrArg (fun z => Blk.row 9 z) hset)
  have e11' := (Eq.trans (congrArg (fun z => AV.sl 0 0 (z - Int.toNat (0 : Int)) 1) (Int.toNat_natCast (C + 1))) (congrArg (fun z => AV.sl 0 0 (C + 1 - z) 1) (Int.toNat_natCast (0))))
  refine g_q [⟨12, [], .call (avOf e1') (blOf e1') []⟩, ⟨13, [], .as (rhsOf e2')⟩, ⟨18, [], .as (rhsOf e3')⟩, ⟨19, [], .as (rhsOf e4')⟩, ⟨22, [], .as (rhsOf e5')⟩, ⟨23, [.hp 0 (rhsOf e6')], .no⟩, ⟨25, [], .as (rhsOf e7')⟩, ⟨28, [.sel [0, 1, 2, 3, 9, 10]], .loop (exOf e8') (endOf e8')⟩, ⟨32, [], .as (rhsOf e9')⟩, ⟨34, [.hp 0 (rhsOf e10')], .no⟩, ⟨36, [], .as (rhsOf e2')⟩, ⟨37, [], .as (rhsOf e11')⟩] [.sel [8]] Exit.ret (stOf 66 [(8, AV.sl 0 0 (C + 1 - 0) 1)] [Blk.row 9 (flatA encS (o ++ [r]))]) (And.intro e1' (And.intro e2' (And.intro e3' (And.intro e4' (And.intro (show (0 : Int) ≤ (↑(C + 1) : Int) ∧ (↑(C + 1) : Int) ≤ (↑(C + 1) : Int) from (by omega)) (And.intro (show (↑16 : Int) * (↑(C + 1) : Int) ≤ (281474976710656 : Int) ∧ (↑(C + 1) : Int) ≤ (9223372036854775807 : Int) from (by omega)) (And.intro e5' (And.intro (congrArg some e6') (And.intro e7' (And.intro e8' (And.intro (show (0 : Int) ≤ (↑C : Int) ∧ (↑C : Int) < (↑(C + 1) : Int) from (by omega)) (And.intro e9' (And.intro (show 0 + C * 1 + 1 ≤ (flatA encS (o ++ [bE])).length from (by omega)) (And.intro (congrArg some e10') (And.intro e2' (And.intro (show (0 : Int) ≤ (0 : Int) ∧ (0 : Int) ≤ (↑C : Int) + (1 : Int) ∧ (↑C : Int) + (1 : Int) ≤ (↑(C + 1) : Int) from (by omega)) e11')))))))))))))))) ?_
  refine g_f [0] [true] (AV.sl 0 0 (C + 1 - 0) 1) ([Blk.row 9 (flatA encS (o ++ [r]))]) (show ∀ (x : AV), x ∈ flatA encS (o ++ [r]) → noid0 x = true from encS_noid (o ++ [r])) ?_
  exact ⟨rfl, rfl⟩

end Go.Proofs.YtaljnmmnmnoinaaDoor
