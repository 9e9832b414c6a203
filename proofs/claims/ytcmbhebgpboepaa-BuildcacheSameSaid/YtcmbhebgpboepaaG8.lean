/-
  Caches: Get, Put, Evict, Fork.
-/
import Derived.Test.YtcmbhebgpboepaaG7
namespace Go.Proofs.Ytcmbhebgpboepaa
open Go Go.RowKit V
set_option linter.unusedSimpArgs false
set_option linter.unusedVariables false
set_option maxHeartbeats 20000000
theorem ents_snoc (n : Int) (l : List Ent) (e : Ent) : (flatA (encE n) l).take (l.length * 6) ++ [AV.int .u32 (textF e.1 n), AV.str e.1, AV.str sM, sigO e.2, codO e.2, namO] = flatA (encE n) (l ++ [e]) := by
  rw [List.take_of_length_le (Nat.le_of_eq (ents_len n l)), flatA_append]; rfl
/-- a cache whose entries have been moved -/
def cacheD (n r : Int) (l : List Ent) : List Blk := [.row 40 [.int .i64 n, .int .i64 r, .sl 2 0 l.length 6], .dead, .row 73 (flatA (encE n) l)]
theorem get_0 (n r : Int) (key : ByteArray) : CallsV Try.prog 16 [.ptr 0 0, .str key] (cacheH n r []) (fun av H' => av = .tuple [.agg [.str ByteArray.empty, .nilsl, .nilsl, .nilsl], .bool false] ∧ H' = cacheD n r []) := by
  refine callsG_at Try.func16 (by kernel_rfl) ?_
  have h := len_v n r []
  unfold cacheH at h ⊢
  unfold cacheD
  have e1' := h
  refine g_q [⟨3, [], .callS [0, 1] [false, false] (avOf e1') (blOf e1') [false, false]⟩] [.sel [4, 5], .place [some 0, none, some 1, some 2] [false, false, false, false]] Exit.ret (stOf 34 [(4, AV.ptr 3 0), (5, AV.bool false)] [Blk.row 40 [AV.int .i64 n, AV.int .i64 r, AV.sl 2 0 0 6], Blk.dead, Blk.row 73 [], Blk.row 49 [AV.str (ByteArray.mk #[]), AV.nilsl, AV.nilsl, AV.nilsl]]) (And.intro e1' (show 4 ≤ 4 from (by omega))) ?_
  refine g_f [0, 1, 2] [false, false, false] (AV.tuple [AV.agg [AV.str (ByteArray.mk #[]), AV.nilsl, AV.nilsl, AV.nilsl], AV.bool false]) ([Blk.row 40 [AV.int .i64 n, AV.int .i64 r, AV.sl 2 0 0 6], Blk.dead, Blk.row 73 []]) (show 4 ≤ 4 from (by omega)) ?_
  exact ⟨rfl, rfl⟩
theorem get_F (n r : Int) (l : List Ent) (key : ByteArray) (hk : key.size ≤ 1000000) (hl : l.length ≤ 1000) (h0 : 0 < l.length) (h1 : ∀ k, k < l.length → ((l.getD k eD).1.toList == key.toList) = false) : CallsV Try.prog 16 [.ptr 0 0, .str key] (cacheH n r l) (fun av H' => av = .tuple [.agg [.str ByteArray.empty, .nilsl, .nilsl, .nilsl], .bool false] ∧ H' = cacheD n r l) := by
  refine callsG_at Try.func16 (by kernel_rfl) ?_
  have h := len_v n r l
  have h2 := take_F n r l key hk hl h1
  unfold cacheH at h h2 ⊢
  unfold cacheD
  have e1' := h
  have e2' := h2
  refine g_q [⟨3, [], .callS [0, 1] [false, true] (avOf e1') (blOf e1') [false, true]⟩, ⟨5, [], .br false .no⟩, ⟨8, [], .callS [0, 1] [false, true] (avOf e2') (blOf e2') [false, true]⟩] [.sel [4, 5], .place [some 0, none, some 1, some 2] [false, false, true, false]] Exit.ret (stOf 34 [(4, AV.ptr 3 0), (5, AV.bool false)] [Blk.row 40 [AV.int .i64 n, AV.int .i64 r, AV.sl 2 0 l.length 6], Blk.dead, Blk.row 73 (flatA (encE n) l), Blk.row 49 [AV.str (ByteArray.mk #[]), AV.nilsl, AV.nilsl, AV.nilsl]]) (And.intro (show ∀ (x : AV), x ∈ flatA (encE n) l → noid0 x = true from ents_noid n l) (And.intro (show ∀ (x : AV), x ∈ flatA (encE n) l → noid0 x = true from ents_noid n l) (And.intro e1' (And.intro (show ((↑l.length : Int) == (0 : Int)) = false from (by rw [beq_eq_false_iff_ne]; omega)) (And.intro (show ∀ (x : AV), x ∈ flatA (encE n) l → noid0 x = true from ents_noid n l) (And.intro (show ∀ (x : AV), x ∈ flatA (encE n) l → noid0 x = true from ents_noid n l) (And.intro e2' (And.intro (show 6 ≤ 6 from (by omega)) (And.intro (show 4 ≤ 4 from (by omega)) (show ∀ (x : AV), x ∈ flatA (encE n) l → noid0 x = true from ents_noid n l)))))))))) ?_
  refine g_f [0, 1, 2] [false, false, true] (AV.tuple [AV.agg [AV.str (ByteArray.mk #[]), AV.nilsl, AV.nilsl, AV.nilsl], AV.bool false]) ([Blk.row 40 [AV.int .i64 n, AV.int .i64 r, AV.sl 2 0 l.length 6], Blk.dead, Blk.row 73 (flatA (encE n) l)]) (And.intro (show 4 ≤ 4 from (by omega)) (show ∀ (x : AV), x ∈ flatA (encE n) l → noid0 x = true from ents_noid n l)) ?_
  exact ⟨rfl, rfl⟩
theorem snoc_len (l : List Ent) (e : Ent) : (l ++ [e]).length = l.length + 1 := by simp
theorem get_T (n r : Int) (l : List Ent) (key : ByteArray) (hk : key.size ≤ 1000000) (hl : l.length ≤ 1000) (i : Nat) (hi : i < l.length) (h1 : ∀ k, k < i → ((l.getD k eD).1.toList == key.toList) = false) (h2 : (l.getD i eD).1 = key) : CallsV Try.prog 16 [.ptr 0 0, .str key] (cacheH n r l) (fun av H' => av = .tuple [.agg (obV (l.getD i eD).2), .bool true] ∧ H' = cacheD n r (l.eraseIdx i ++ [l.getD i eD])) := by
  refine callsG_at Try.func16 (by kernel_rfl) ?_
  have h := len_v n r l
  have h3 := take_T n r l key hk hl i hi h1 h2
  have hle : (l.eraseIdx i).length = l.length - 1 := List.length_eraseIdx_of_lt hi
  have hge : (l.eraseIdx i).length * 6 ≤ (flatA (encE n) (l.eraseIdx i)).length := Nat.le_of_eq (ents_len n _).symm
  unfold cacheH at h h3 ⊢
  unfold cacheD
  rw [snoc_len]
  have e1' := h
  have e2' := h3
  have e3' := (congrArg (fun z => Blk.row 73 z) (ents_snoc n (l.eraseIdx i) (l.getD i eD)))
  have e4' := clone_v (l.getD i eD).2
  refine g_q [⟨3, [], .callS [0, 1] [false, true] (avOf e1') (blOf e1') [false, true]⟩, ⟨5, [], .br false .no⟩, ⟨8, [], .callS [0, 1] [false, true] (avOf e2') (blOf e2') [false, true]⟩, ⟨26, [.hp 5 (rhsOf e3')], .no⟩, ⟨31, [], .call (avOf e4') (blOf e4') []⟩] [.sel [4, 5]] Exit.ret (stOf 34 [(4, AV.ptr 2 0), (5, AV.bool true)] [Blk.row 40 [AV.int .i64 n, AV.int .i64 r, AV.sl 5 0 ((l.eraseIdx i).length + 1) 6], Blk.dead, Blk.row 49 [AV.str sM, AV.slv 1 3 [AV.str sF, AV.nilsl, AV.int .i64 (resO (l.getD i eD).snd)], AV.slv 1 5 [AV.str sMF, AV.nilsl, AV.int .i64 (resO (l.getD i eD).snd), AV.nilsl, AV.slv 2 2 [AV.int .i64 (1 : Int), AV.int .i64 (IntKind.i64.wrap (l.getD i eD).snd), AV.int .i64 (16 : Int), AV.int .i64 (0 : Int)]], AV.slv 1 1 [AV.str sMF]], Blk.row 73 [AV.int .u32 (textF (l.getD i eD).fst n), AV.str (l.getD i eD).fst, AV.str sM, AV.slv 1 3 [AV.str sF, AV.nilsl, AV.int .i64 (resO (l.getD i eD).snd)], AV.slv 1 5 [AV.str sMF, AV.nilsl, AV.int .i64 (resO (l.getD i eD).snd), AV.nilsl, AV.slv 2 2 [AV.int .i64 (1 : Int), AV.int .i64 (IntKind.i64.wrap (l.getD i eD).snd), AV.int .i64 (16 : Int), AV.int .i64 (0 : Int)]], AV.slv 1 1 [AV.str sMF]], Blk.row 73 [AV.int .u32 (textF (l.getD i eD).fst n), AV.str (l.getD i eD).fst, AV.str sM, AV.slv 1 3 [AV.str sF, AV.nilsl, AV.int .i64 (resO (l.getD i eD).snd)], AV.slv 1 5 [AV.str sMF, AV.nilsl, AV.int .i64 (resO (l.getD i eD).snd), AV.nilsl, AV.slv 2 2 [AV.int .i64 (1 : Int), AV.int .i64 (IntKind.i64.wrap (l.getD i eD).snd), AV.int .i64 (16 : Int), AV.int .i64 (0 : Int)]], AV.slv 1 1 [AV.str sMF]], Blk.row 73 (flatA (encE n) (l.eraseIdx i ++ [l.getD i eD]))]) (And.intro (show ∀ (x : AV), x ∈ flatA (encE n) l → noid0 x = true from ents_noid n l) (And.intro (show ∀ (x : AV), x ∈ flatA (encE n) l → noid0 x = true from ents_noid n l) (And.intro e1' (And.intro (show ((↑l.length : Int) == (0 : Int)) = false from (by rw [beq_eq_false_iff_ne]; omega)) (And.intro (show ∀ (x : AV), x ∈ flatA (encE n) l → noid0 x = true from ents_noid n l) (And.intro (show ∀ (x : AV), x ∈ flatA (encE n) (l.eraseIdx i) → noid0 x = true from ents_noid n (l.eraseIdx i)) (And.intro e2' (And.intro (show 6 ≤ 6 from (by omega)) (And.intro (show 1 ≤ 1 from (by omega)) (And.intro (show 6 ≤ 6 from (by omega)) (And.intro (show (l.eraseIdx i).length * 6 ≤ (flatA (encE n) (l.eraseIdx i)).length from (by omega)) (And.intro (show 6 ≤ 6 from (by omega)) (And.intro (show ((l.eraseIdx i).length + 1) * 112 ≤ 140737488355328 from (by omega)) (And.intro (show (l.eraseIdx i).length + 1 ≤ maxLen from (by (unfold maxLen; omega))) (And.intro (congrArg some e3') (And.intro (show 3 ≤ 3 from (by omega)) (And.intro (show 4 ≤ 4 from (by omega)) (And.intro e4' (show 4 ≤ 4 from (by omega)))))))))))))))))))) ?_
  refine g_f [0, 1, 5] [false, false, true] (AV.tuple [AV.agg [AV.str sM, AV.slv 1 3 [AV.str sF, AV.nilsl, AV.int .i64 (resO (l.getD i eD).snd)], AV.slv 1 5 [AV.str sMF, AV.nilsl, AV.int .i64 (resO (l.getD i eD).snd), AV.nilsl, AV.slv 2 2 [AV.int .i64 (1 : Int), AV.int .i64 (IntKind.i64.wrap (l.getD i eD).snd), AV.int .i64 (16 : Int), AV.int .i64 (0 : Int)]], AV.slv 1 1 [AV.str sMF]], AV.bool true]) ([Blk.row 40 [AV.int .i64 n, AV.int .i64 r, AV.sl 2 0 ((l.eraseIdx i).length + 1) 6], Blk.dead, Blk.row 73 (flatA (encE n) (l.eraseIdx i ++ [l.getD i eD]))]) (And.intro (show 4 ≤ 4 from (by omega)) (show ∀ (x : AV), x ∈ flatA (encE n) (l.eraseIdx i ++ [l.getD i eD]) → noid0 x = true from ents_noid n (l.eraseIdx i ++ [l.getD i eD]))) ?_
  exact ⟨rfl, rfl⟩
theorem put_0 (n : Int) (l : List Ent) (key : ByteArray) (k : Int) : CallsV Try.prog 14 [.ptr 0 0, .str key, .agg (obV k)] (cacheH n 0 l) (fun av H' => av = .tuple [] ∧ H' = cacheD n 0 l) := by
  refine callsG_at Try.func14 (by kernel_rfl) ?_
  unfold cacheH cacheD
  refine g_q [] [.sel [], .place [some 0, none, some 1] [false, false, true]] Exit.ret (stOf 48 [] [Blk.row 40 [AV.int .i64 n, AV.int .i64 (0 : Int), AV.sl 2 0 l.length 6], Blk.dead, Blk.row 73 (flatA (encE n) l)]) (And.intro (show 1 ≤ 2 from (by omega)) (show ∀ (x : AV), x ∈ flatA (encE n) l → noid0 x = true from ents_noid n l)) ?_
  refine g_f [0, 1, 2] [false, false, true] (AV.tuple []) ([Blk.row 40 [AV.int .i64 n, AV.int .i64 (0 : Int), AV.sl 2 0 l.length 6], Blk.dead, Blk.row 73 (flatA (encE n) l)]) (show ∀ (x : AV), x ∈ flatA (encE n) l → noid0 x = true from ents_noid n l) ?_
  exact ⟨rfl, rfl⟩
theorem ev_min (m : Int) (a : Nat) : (if (a : Int) < if (0 : Int) > m then (0 : Int) else m then (a : Int) else if (0 : Int) > m then (0 : Int) else m) = ((min m.toNat a : Nat) : Int) := by
  split <;> split at * <;> omega
theorem evict_v (n r : Int) (l : List Ent) (m : Int) (hl : l.length ≤ 1000) : CallsV Try.prog 17 [.ptr 0 0, .int .i64 m] (cacheH n r l) (fun av H' => av = .int .i64 (min m.toNat l.length : Nat) ∧ H' = cacheD n r (l.drop (min m.toNat l.length))) := by
  refine callsG_at Try.func17 (by kernel_rfl) ?_
  have h := len_v n r l
  have hle : min m.toNat l.length ≤ l.length := Nat.min_le_right _ _
  have hm := ev_min m l.length
  generalize hj : min m.toNat l.length = j at hle hm ⊢
  rcases Nat.eq_zero_or_pos j with h0 | h0
  · subst h0
    rw [List.drop_zero]
    unfold cacheH at h ⊢
    unfold cacheD
    have e1' := h
    have e2' := (congrArg (fun z => AV.int .i64 z) hm)
    refine g_q [⟨4, [], .callS [0, 1] [false, true] (avOf e1') (blOf e1') [false, true]⟩, ⟨5, [], .as (rhsOf e2')⟩] [.sel [4], .place [some 0, none, some 1] [false, false, true]] Exit.ret (stOf 22 [(4, AV.int .i64 (0 : Int))] [Blk.row 40 [AV.int .i64 n, AV.int .i64 r, AV.sl 2 0 l.length 6], Blk.dead, Blk.row 73 (flatA (encE n) l)]) (And.intro (show ∀ (x : AV), x ∈ flatA (encE n) l → noid0 x = true from ents_noid n l) (And.intro (show ∀ (x : AV), x ∈ flatA (encE n) l → noid0 x = true from ents_noid n l) (And.intro e1' (And.intro e2' (show ∀ (x : AV), x ∈ flatA (encE n) l → noid0 x = true from ents_noid n l))))) ?_
    refine g_f [0, 1, 2] [false, false, true] (AV.int .i64 (0 : Int)) ([Blk.row 40 [AV.int .i64 n, AV.int .i64 r, AV.sl 2 0 l.length 6], Blk.dead, Blk.row 73 (flatA (encE n) l)]) (show ∀ (x : AV), x ∈ flatA (encE n) l → noid0 x = true from ents_noid n l) ?_
    exact ⟨rfl, rfl⟩
  · have hd := del_f n l j hle h0 hl
    unfold cacheH at h ⊢
    unfold cacheD
    have e1' := h
    have e2' := (congrArg (fun z => AV.int .i64 z) hm)
    have e3' := hd
    refine g_q [⟨4, [], .callS [0, 1] [false, true] (avOf e1') (blOf e1') [false, true]⟩, ⟨5, [], .as (rhsOf e2')⟩, ⟨9, [], .br true .no⟩, ⟨16, [], .callS [1] [true] (avOf e3') (blOf e3') [true]⟩] [.sel [4], .place [some 0, none, some 1] [false, false, true]] Exit.ret (stOf 22 [(4, AV.int .i64 (↑j : Int))] [Blk.row 40 [AV.int .i64 n, AV.int .i64 r, AV.sl 2 0 (List.drop j l).length 6], Blk.dead, Blk.row 73 (flatA (encE n) (List.drop j l))]) (And.intro (show ∀ (x : AV), x ∈ flatA (encE n) l → noid0 x = true from ents_noid n l) (And.intro (show ∀ (x : AV), x ∈ flatA (encE n) l → noid0 x = true from ents_noid n l) (And.intro e1' (And.intro e2' (And.intro (show decide ((↑j : Int) > (0 : Int)) = true from (by rw [decide_eq_true_iff]; omega)) (And.intro (show 1 ≤ 1 from (by omega)) (And.intro (show ∀ (x : AV), x ∈ flatA (encE n) l → noid0 x = true from ents_noid n l) (And.intro (show ∀ (x : AV), x ∈ flatA (encE n) (List.drop j l) → noid0 x = true from ents_noid n (l.drop j)) (And.intro e3' (And.intro (show 3 ≤ 3 from (by omega)) (show ∀ (x : AV), x ∈ flatA (encE n) (List.drop j l) → noid0 x = true from ents_noid n (l.drop j)))))))))))) ?_
    refine g_f [0, 1, 2] [false, false, true] (AV.int .i64 (↑j : Int)) ([Blk.row 40 [AV.int .i64 n, AV.int .i64 r, AV.sl 2 0 (List.drop j l).length 6], Blk.dead, Blk.row 73 (flatA (encE n) (List.drop j l))]) (show ∀ (x : AV), x ∈ flatA (encE n) (List.drop j l) → noid0 x = true from ents_noid n (l.drop j)) ?_
    exact ⟨rfl, rfl⟩
end Go.Proofs.Ytcmbhebgpboepaa
