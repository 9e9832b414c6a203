/-
  Caches: their operations.
-/
import Derived.Test.YtcmbhebgpboepaaG6
namespace Go.Proofs.Ytcmbhebgpboepaa
open Go Go.RowKit V
set_option linter.unusedSimpArgs false
set_option linter.unusedVariables false
set_option maxHeartbeats 20000000
/-- an entry: its key, and the number of its object -/
abbrev Ent := ByteArray × Int
def encE (n : Int) (e : Ent) : List AV := [.int .u32 (textF e.1 n), .str e.1, .str sM, sigO e.2, codO e.2, namO]
/-- a cache -/
def cacheH (n r : Int) (l : List Ent) : List Blk := [.row 40 [.int .i64 n, .int .i64 r, .sl 1 0 l.length 6], .row 73 (flatA (encE n) l)]
theorem lenE (n : Int) (x : Ent) : (encE n x).length = 6 := rfl
theorem ents_at (n : Int) (l : List Ent) (k : Nat) (hk : k < l.length) : (flatA (encE n) l).drop ((k : Int).toNat * 6) = AV.int .u32 (textF (l.getD k (ByteArray.empty, 0)).1 n) :: AV.str (l.getD k (ByteArray.empty, 0)).1 :: AV.str sM :: sigO (l.getD k (ByteArray.empty, 0)).2 :: codO (l.getD k (ByteArray.empty, 0)).2 :: namO :: flatA (encE n) (l.drop (k + 1)) := flatA_at (lenE n) l (ByteArray.empty, 0) k hk
theorem ents_at0 (n : Int) (l : List Ent) (k : Nat) (hk : k < l.length) : (flatA (encE n) l).drop (0 + (k : Int).toNat * 6) = AV.int .u32 (textF (l.getD k (ByteArray.empty, 0)).1 n) :: AV.str (l.getD k (ByteArray.empty, 0)).1 :: AV.str sM :: sigO (l.getD k (ByteArray.empty, 0)).2 :: codO (l.getD k (ByteArray.empty, 0)).2 :: namO :: flatA (encE n) (l.drop (k + 1)) := by
  rw [Nat.zero_add]; exact ents_at n l k hk
theorem ents_ge (n : Int) (l : List Ent) (k : Nat) (hk : k < l.length) : 6 ≤ ((flatA (encE n) l).drop (0 + (k : Int).toNat * 6)).length := by
  rw [ents_at0 n l k hk]; simp
theorem ents_noid (n : Int) (l : List Ent) : ∀ x ∈ flatA (encE n) l, noid0 x = true := by
  induction l with
  | nil => intro x hx; cases hx
  | cons e l ih =>
    intro x hx
    rcases List.mem_append.1 (show x ∈ encE n e ++ flatA (encE n) l from hx) with h | h
    · simp only [encE, List.mem_cons, List.not_mem_nil, or_false] at h
      rcases h with rfl | rfl | rfl | rfl | rfl | rfl <;> rfl
    · exact ih x h
theorem ents_len (n : Int) (l : List Ent) : (flatA (encE n) l).length = l.length * 6 := flatA_length (lenE n) l
theorem ents_take (n : Int) (l : List Ent) (i : Nat) : (flatA (encE n) l).take (i * 6) = flatA (encE n) (l.take i) := flatA_take (lenE n) l i
theorem ents_drop (n : Int) (l : List Ent) (i : Nat) : (flatA (encE n) l).drop (i * 6) = flatA (encE n) (l.drop i) := flatA_drop (lenE n) l i
theorem ents_app (n : Int) (l m : List Ent) : flatA (encE n) l ++ flatA (encE n) m = flatA (encE n) (l ++ m) := (flatA_append l m).symm
theorem del_e (n : Int) (l : List Ent) (i : Nat) (hi : i < l.length) (hl : l.length ≤ 1000) : CallsV Try.prog 28 [.sl 0 0 l.length 6, .int .i64 (i : Int), .int .i64 ((i : Int) + 1)] [.row 73 (flatA (encE n) l)] (fun av H' => av = .sl 0 0 (l.eraseIdx i).length 6 ∧ H' = [.row 73 (flatA (encE n) (l.eraseIdx i))]) := by
  have h := del_v 73 (flatA (encE n) l) l.length i (i + 1) (ents_len n l) (by omega) (by omega) (by omega) (ents_noid n l) (by omega)
  rw [ents_take, ents_drop, ents_app] at h
  have e : l.take i ++ l.drop (i + 1) = l.eraseIdx i := (List.eraseIdx_eq_take_drop_succ l i).symm
  have e2 : l.length - (i + 1 - i) = (l.eraseIdx i).length := by rw [List.length_eraseIdx_of_lt hi]; omega
  rw [e, e2] at h
  exact h
theorem del_f (n : Int) (l : List Ent) (m : Nat) (hm : m ≤ l.length) (h0 : 0 < m) (hl : l.length ≤ 1000) : CallsV Try.prog 28 [.sl 0 0 l.length 6, .int .i64 0, .int .i64 (m : Int)] [.row 73 (flatA (encE n) l)] (fun av H' => av = .sl 0 0 (l.drop m).length 6 ∧ H' = [.row 73 (flatA (encE n) (l.drop m))]) := by
  have h := del_v 73 (flatA (encE n) l) l.length 0 m (ents_len n l) (by omega) (by omega) (by omega) (ents_noid n l) (by omega)
  rw [ents_take, ents_drop, ents_app] at h
  have e2 : l.length - (m - 0) = (l.drop m).length := by rw [List.length_drop]; omega
  rw [e2] at h
  exact h
theorem len_v (n r : Int) (l : List Ent) : CallsV Try.prog 12 [.ptr 0 0] (cacheH n r l) (fun av H' => av = .int .i64 l.length ∧ H' = cacheH n r l) := by
  refine callsG_at Try.func12 (by kernel_rfl) ?_
  unfold cacheH
  refine g_q [] [.sel [2]] Exit.ret (stOf 10 [(2, AV.int .i64 (↑l.length : Int))] [Blk.row 40 [AV.int .i64 n, AV.int .i64 r, AV.sl 1 0 l.length 6], Blk.row 73 (flatA (encE n) l)]) (show 1 ≤ 1 from (by omega)) ?_
  refine g_f [0, 1] [false, true] (AV.int .i64 (↑l.length : Int)) ([Blk.row 40 [AV.int .i64 n, AV.int .i64 r, AV.sl 1 0 l.length 6], Blk.row 73 (flatA (encE n) l)]) (show ∀ (x : AV), x ∈ flatA (encE n) l → noid0 x = true from ents_noid n l) ?_
  exact ⟨rfl, rfl⟩
abbrev eD : Ent := (ByteArray.empty, 0)
def E0 : List AV := [.int .u32 0, .str ByteArray.empty, .str ByteArray.empty, .nilsl, .nilsl, .nilsl]
def takS (n r : Int) (l : List Ent) (key : ByteArray) (k : Nat) : St := stOf 51 [(0, .ptr 0 0), (1, .str key), (4, .ptr 2 0), (6, .int .u32 (textF key n)), (18, .sl 1 0 l.length 6), (19, .int .i64 (l.length : Int)), (20, .int .i64 (k : Int))] [.row 40 [.int .i64 n, .int .i64 r, .sl 1 0 l.length 6], .row 73 (flatA (encE n) l), .row 73 E0]
theorem takeL_F (n r : Int) (l : List Ent) (key : ByteArray) (hl : l.length ≤ 1000) (h1 : ∀ k, k < l.length → ((l.getD k eD).1.toList == key.toList) = false) : LoopG Try.prog 2 Try.f26 0 (.exit 0) (stOf 51 [(0, .ptr 0 0), (1, .str key), (4, .ptr 2 0), (6, .int .u32 (textF key n))] [.row 40 [.int .i64 n, .int .i64 r, .sl 1 0 l.length 6], .row 73 (flatA (encE n) l), .row 73 E0]) (takS n r l key 0) := by
  refine loopG_of l.length (fun k => takS n r l key k) (by kernel_rfl) (by simp) ?_ ?_
  · intro k hk
    have h1 := h1 k hk
    unfold takS
    simp only [E0]
    have e1' := (congrArg (fun z => AV.agg (List.take (sizeT Try.prog 73) z)) (ents_at0 n (l) (k) (by assumption)))
    have e2' := (congrArg (fun z => AV.int .i64 z) (wrap_i64 (e := (↑k : Int) + (1 : Int)) (by omega) (by omega)))
    exact g_x [⟨1, [], .br true .no⟩, ⟨4, [], .as (rhsOf e1')⟩, ⟨13, [], .gd⟩, ⟨14, [], .gd⟩, ⟨15, [], .gd⟩, ⟨16, [], .gd⟩, ⟨18, [], .br false .no⟩, ⟨19, [], .as (rhsOf e2')⟩] [.sel [0, 1, 4, 6, 18, 19, 20], .keep [0, 1, 2] [false, true, false]] (And.intro (show decide ((↑k : Int) < (↑l.length : Int)) = true from (by rw [decide_eq_true_iff]; omega)) (And.intro (show (0 : Int) ≤ (↑k : Int) ∧ (↑k : Int) < (↑l.length : Int) from (by omega)) (And.intro (show 6 ≤ (List.drop (0 + (↑k : Int).toNat * 6) (flatA (encE n) l)).length from ents_ge n l k hk) (And.intro e1' (And.intro (show 6 ≤ 6 from (by omega)) (And.intro (show 1 ≤ 6 from (by omega)) (And.intro (show ((textF (l.getD k (ByteArray.empty, (0 : Int))).fst n == textF key n) == true) = true → ((textF (l.getD k (ByteArray.empty, (0 : Int))).fst n == textF key n) == true) = true from (fun h => h)) (And.intro (show ((textF (l.getD k (ByteArray.empty, (0 : Int))).fst n == textF key n) == true) = true → 1 ≤ 5 from (by omega)) (And.intro (show ((textF (l.getD k (ByteArray.empty, (0 : Int))).fst n == textF key n) == true) = true → ((textF (l.getD k (ByteArray.empty, (0 : Int))).fst n == textF key n) == true) = true from (fun h => h)) (And.intro (show ((textF (l.getD k (ByteArray.empty, (0 : Int))).fst n == textF key n) == true) = true → ((textF (l.getD k (ByteArray.empty, (0 : Int))).fst n == textF key n) == true) = true from (fun h => h)) (And.intro (show (textF (l.getD k (ByteArray.empty, (0 : Int))).fst n == textF key n) = true → ((textF (l.getD k (ByteArray.empty, (0 : Int))).fst n == textF key n) == true) = true from (by (simp; done))) (And.intro (show (bif textF (l.getD k (ByteArray.empty, (0 : Int))).fst n == textF key n then (l.getD k (ByteArray.empty, (0 : Int))).fst.toList == key.toList else false) = false from (by simp_all; done)) (And.intro e2' (show ∀ (x : AV), x ∈ flatA (encE n) l → noid0 x = true from ents_noid n l))))))))))))))
  · unfold takS
    simp only [E0]
    exact g_x [⟨1, [], .br false .no⟩] [.sel [0, 1, 4, 6]] (show decide ((↑l.length : Int) < (↑l.length : Int)) = false from (by rw [decide_eq_false_iff_not]; omega))
theorem takeL_T (n r : Int) (l : List Ent) (key : ByteArray) (hl : l.length ≤ 1000) (i : Nat) (hi : i < l.length) (h1 : ∀ k, k < i → ((l.getD k eD).1.toList == key.toList) = false) (h2 : (l.getD i eD).1 = key) : LoopG Try.prog 2 Try.f26 0 .ret (stOf 51 [(4, .ptr 2 0), (5, .bool true)] [.row 40 [.int .i64 n, .int .i64 r, .sl 1 0 (l.eraseIdx i).length 6], .row 73 (flatA (encE n) (l.eraseIdx i)), .row 73 (encE n (l.getD i eD))]) (takS n r l key 0) := by
  refine loopG_of i (fun k => takS n r l key k) (by kernel_rfl) (by simp) ?_ ?_
  · intro k hk
    have h1 := h1 k hk
    have hk : k < l.length := by omega
    unfold takS
    simp only [E0]
    have e1' := (congrArg (fun z => AV.agg (List.take (sizeT Try.prog 73) z)) (ents_at0 n (l) (k) (by assumption)))
    have e2' := (congrArg (fun z => AV.int .i64 z) (wrap_i64 (e := (↑k : Int) + (1 : Int)) (by omega) (by omega)))
    exact g_x [⟨1, [], .br true .no⟩, ⟨4, [], .as (rhsOf e1')⟩, ⟨13, [], .gd⟩, ⟨14, [], .gd⟩, ⟨15, [], .gd⟩, ⟨16, [], .gd⟩, ⟨18, [], .br false .no⟩, ⟨19, [], .as (rhsOf e2')⟩] [.sel [0, 1, 4, 6, 18, 19, 20], .keep [0, 1, 2] [false, true, false]] (And.intro (show decide ((↑k : Int) < (↑l.length : Int)) = true from (by rw [decide_eq_true_iff]; omega)) (And.intro (show (0 : Int) ≤ (↑k : Int) ∧ (↑k : Int) < (↑l.length : Int) from (by omega)) (And.intro (show 6 ≤ (List.drop (0 + (↑k : Int).toNat * 6) (flatA (encE n) l)).length from ents_ge n l k hk) (And.intro e1' (And.intro (show 6 ≤ 6 from (by omega)) (And.intro (show 1 ≤ 6 from (by omega)) (And.intro (show ((textF (l.getD k (ByteArray.empty, (0 : Int))).fst n == textF key n) == true) = true → ((textF (l.getD k (ByteArray.empty, (0 : Int))).fst n == textF key n) == true) = true from (fun h => h)) (And.intro (show ((textF (l.getD k (ByteArray.empty, (0 : Int))).fst n == textF key n) == true) = true → 1 ≤ 5 from (by omega)) (And.intro (show ((textF (l.getD k (ByteArray.empty, (0 : Int))).fst n == textF key n) == true) = true → ((textF (l.getD k (ByteArray.empty, (0 : Int))).fst n == textF key n) == true) = true from (fun h => h)) (And.intro (show ((textF (l.getD k (ByteArray.empty, (0 : Int))).fst n == textF key n) == true) = true → ((textF (l.getD k (ByteArray.empty, (0 : Int))).fst n == textF key n) == true) = true from (fun h => h)) (And.intro (show (textF (l.getD k (ByteArray.empty, (0 : Int))).fst n == textF key n) = true → ((textF (l.getD k (ByteArray.empty, (0 : Int))).fst n == textF key n) == true) = true from (by (simp; done))) (And.intro (show (bif textF (l.getD k (ByteArray.empty, (0 : Int))).fst n == textF key n then (l.getD k (ByteArray.empty, (0 : Int))).fst.toList == key.toList else false) = false from (by simp_all; done)) (And.intro e2' (show ∀ (x : AV), x ∈ flatA (encE n) l → noid0 x = true from ents_noid n l))))))))))))))
  · have h3 : ((l.getD i eD).1.toList == key.toList) = true := by rw [h2]; exact beq_self_eq_true _
    have h4 : (textF (l.getD i eD).1 n == textF key n) = true := by rw [h2]; exact beq_self_eq_true _
    unfold takS
    simp only [E0]
    have e1' := (congrArg (fun z => AV.agg (List.take (sizeT Try.prog 73) z)) (ents_at0 n (l) (i) (by assumption)))
    have e2' := (congrArg (fun z => AV.int .i64 z) (wrap_i64 (e := (↑i : Int) + (1 : Int)) (by omega) (by omega)))
    have e3' := del_e n l i hi hl
    exact g_x [⟨1, [], .br true .no⟩, ⟨4, [], .as (rhsOf e1')⟩, ⟨13, [.tm 29 (.bool true)], .no⟩, ⟨18, [], .br true .no⟩, ⟨26, [], .as (rhsOf e2')⟩, ⟨27, [], .callS [1] [true] (avOf e3') (blOf e3') [true]⟩] [.sel [4, 5], .keep [0, 1, 2] [false, true, false]] (And.intro (show decide ((↑i : Int) < (↑l.length : Int)) = true from (by rw [decide_eq_true_iff]; omega)) (And.intro (show (0 : Int) ≤ (↑i : Int) ∧ (↑i : Int) < (↑l.length : Int) from (by omega)) (And.intro (show 6 ≤ (List.drop (0 + (↑i : Int).toNat * 6) (flatA (encE n) l)).length from ents_ge n l i hi) (And.intro e1' (And.intro (show 6 ≤ 6 from (by omega)) (And.intro (show 1 ≤ 6 from (by omega)) (And.intro (congrArg AV.bool (show (textF (l.getD i (ByteArray.empty, (0 : Int))).fst n == textF key n) = true from (by assumption))) (And.intro (show 1 ≤ 5 from (by omega)) (And.intro (congrArg (fun z => bif true then z else false) h3) (And.intro (show 1 ≤ 1 from (by omega)) (And.intro e2' (And.intro (show ∀ (x : AV), x ∈ flatA (encE n) l → noid0 x = true from ents_noid n l) (And.intro (show ∀ (x : AV), x ∈ flatA (encE n) (l.eraseIdx i) → noid0 x = true from ents_noid n (l.eraseIdx i)) (And.intro e3' (And.intro (show 3 ≤ 3 from (by omega)) (And.intro (show 6 ≤ 6 from (by omega)) (And.intro (show 6 ≤ 6 from (by omega)) (show ∀ (x : AV), x ∈ flatA (encE n) (l.eraseIdx i) → noid0 x = true from ents_noid n (l.eraseIdx i)))))))))))))))))))
theorem take_F (n r : Int) (l : List Ent) (key : ByteArray) (hk : key.size ≤ 1000000) (hl : l.length ≤ 1000) (h1 : ∀ k, k < l.length → ((l.getD k eD).1.toList == key.toList) = false) : CallsV Try.prog 26 [.ptr 0 0, .str key] (cacheH n r l) (fun av H' => av = .tuple [.agg [.int .u32 (textF key n), .str key, .str ByteArray.empty, .nilsl, .nilsl, .nilsl], .bool false] ∧ H' = cacheH n r l) := by
  refine callsG_at Try.func26 (by kernel_rfl) ?_
  have hL := takeL_F n r l key hl h1
  unfold takS at hL
  simp only [E0] at hL
  unfold cacheH
  have e1' := text_v key n hk
  have e2' := hL
  refine g_q [⟨7, [], .call (avOf e1') (blOf e1') []⟩, ⟨15, [.sel [0, 1, 4, 6, 18, 19, 20]], .loop (exOf e2') (endOf e2')⟩] [.sel [4, 5]] Exit.ret (stOf 51 [(4, AV.ptr 2 0), (5, AV.bool false)] [Blk.row 40 [AV.int .i64 n, AV.int .i64 r, AV.sl 1 0 l.length 6], Blk.row 73 (flatA (encE n) l), Blk.row 73 [AV.int .u32 (textF key n), AV.str key, AV.str (ByteArray.mk #[]), AV.nilsl, AV.nilsl, AV.nilsl]]) (And.intro (show 1 ≤ 3 from (by omega)) (And.intro e1' (And.intro (show 1 ≤ 1 from (by omega)) (And.intro e2' (show 6 ≤ 6 from (by omega)))))) ?_
  refine g_f [0, 1] [false, true] (AV.tuple [AV.agg [AV.int .u32 (textF key n), AV.str key, AV.str (ByteArray.mk #[]), AV.nilsl, AV.nilsl, AV.nilsl], AV.bool false]) ([Blk.row 40 [AV.int .i64 n, AV.int .i64 r, AV.sl 1 0 l.length 6], Blk.row 73 (flatA (encE n) l)]) (And.intro (show 6 ≤ 6 from (by omega)) (show ∀ (x : AV), x ∈ flatA (encE n) l → noid0 x = true from ents_noid n l)) ?_
  exact ⟨rfl, rfl⟩
theorem take_T (n r : Int) (l : List Ent) (key : ByteArray) (hk : key.size ≤ 1000000) (hl : l.length ≤ 1000) (i : Nat) (hi : i < l.length) (h1 : ∀ k, k < i → ((l.getD k eD).1.toList == key.toList) = false) (h2 : (l.getD i eD).1 = key) : CallsV Try.prog 26 [.ptr 0 0, .str key] (cacheH n r l) (fun av H' => av = .tuple [.agg (encE n (l.getD i eD)), .bool true] ∧ H' = cacheH n r (l.eraseIdx i)) := by
  refine callsG_at Try.func26 (by kernel_rfl) ?_
  have hL := takeL_T n r l key hl i hi h1 h2
  unfold takS at hL
  simp only [E0] at hL
  unfold cacheH
  have e1' := text_v key n hk
  have e2' := hL
  refine g_q [⟨7, [], .call (avOf e1') (blOf e1') []⟩, ⟨15, [.sel [0, 1, 4, 6, 18, 19, 20]], .loop (exOf e2') (endOf e2')⟩] [] Exit.ret (stOf 51 [(4, AV.ptr 2 0), (5, AV.bool true)] [Blk.row 40 [AV.int .i64 n, AV.int .i64 r, AV.sl 1 0 (l.eraseIdx i).length 6], Blk.row 73 (flatA (encE n) (l.eraseIdx i)), Blk.row 73 [AV.int .u32 (textF (l.getD i eD).fst n), AV.str (l.getD i eD).fst, AV.str sM, AV.slv 1 3 [AV.str sF, AV.nilsl, AV.int .i64 (resO (l.getD i eD).snd)], AV.slv 1 5 [AV.str sMF, AV.nilsl, AV.int .i64 (resO (l.getD i eD).snd), AV.nilsl, AV.slv 2 2 [AV.int .i64 (1 : Int), AV.int .i64 (IntKind.i64.wrap (l.getD i eD).snd), AV.int .i64 (16 : Int), AV.int .i64 (0 : Int)]], AV.slv 1 1 [AV.str sMF]]]) (And.intro (show 1 ≤ 3 from (by omega)) (And.intro e1' (And.intro (show 1 ≤ 1 from (by omega)) e2'))) ?_
  refine g_f [0, 1] [false, true] (AV.tuple [AV.agg [AV.int .u32 (textF (l.getD i eD).fst n), AV.str (l.getD i eD).fst, AV.str sM, AV.slv 1 3 [AV.str sF, AV.nilsl, AV.int .i64 (resO (l.getD i eD).snd)], AV.slv 1 5 [AV.str sMF, AV.nilsl, AV.int .i64 (resO (l.getD i eD).snd), AV.nilsl, AV.slv 2 2 [AV.int .i64 (1 : Int), AV.int .i64 (IntKind.i64.wrap (l.getD i eD).snd), AV.int .i64 (16 : Int), AV.int .i64 (0 : Int)]], AV.slv 1 1 [AV.str sMF]], AV.bool true]) ([Blk.row 40 [AV.int .i64 n, AV.int .i64 r, AV.sl 1 0 (l.eraseIdx i).length 6], Blk.row 73 (flatA (encE n) (l.eraseIdx i))]) (And.intro (show 6 ≤ 6 from (by omega)) (show ∀ (x : AV), x ∈ flatA (encE n) (l.eraseIdx i) → noid0 x = true from ents_noid n (l.eraseIdx i))) ?_
  exact ⟨rfl, rfl⟩
end Go.Proofs.Ytcmbhebgpboepaa
