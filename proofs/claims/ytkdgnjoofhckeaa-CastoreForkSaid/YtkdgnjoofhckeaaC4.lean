/-
  Stores: where a content is.
-/
import Derived.Test.YtkdgnjoofhckeaaC3
namespace Go.Proofs.Ytkdgnjoofhckeaa
open Go Go.RowKit V
set_option linter.unusedSimpArgs false
set_option linter.unusedVariables false
set_option maxHeartbeats 20000000
theorem str_bytes (b : ByteArray) : strOfNums (List.map numV (bytesAV b)) = b := by
  unfold bytesAV
  rw [List.map_map]
  have e : (numV ∘ fun c : UInt8 => AV.int .u8 ((c.toNat : Nat) : Int)) = fun c : UInt8 => ((c.toNat : Nat) : Int) := rfl
  have h : strOfNums (b.data.toList.map fun c => ((c.toNat : Nat) : Int)) = b := by
    cases b with | mk d =>
    unfold strOfNums
    simp only [List.map_map]
    rw [show ((fun n : Int => UInt8.ofNat n.toNat) ∘ fun c : UInt8 => ((c.toNat : Nat) : Int)) = id from funext fun c => by simp]
    simp
  exact h
theorem bytes_u8 (b : ByteArray) : (bytesAV b).all isU8 = true := by
  unfold bytesAV
  rw [List.all_map, List.all_eq_true]
  intro c _
  rfl
theorem bytesEq_v (a b : ByteArray) : CallsV Try.prog 35 [bv a, bv b] [] (fun av H' => av = .bool (a.toList == b.toList) ∧ H' = []) := by
  refine callsG_at Try.func35 (by kernel_rfl) ?_
  have e1' := (congrArg (fun z => AV.str z) (str_bytes (a)))
  have e2' := (congrArg (fun z => AV.str z) (str_bytes (b)))
  refine g_q [⟨2, [], .as (rhsOf e1')⟩, ⟨4, [], .as (rhsOf e2')⟩] [.sel [4]] Exit.ret (stOf 10 [(4, AV.bool (a.toList == b.toList))] []) (And.intro (show (bytesAV a).all isU8 = true from bytes_u8 a) (And.intro e1' (And.intro (show (bytesAV b).all isU8 = true from bytes_u8 b) e2'))) ?_
  refine g_f [] [] (AV.bool (a.toList == b.toList)) ([]) trivial ?_
  exact ⟨rfl, rfl⟩
theorem fnd1_v (n : Int) (x : It) (b : ByteArray) : CallsV Try.prog 34 [.agg (encP n x), .ptr 0 0, .ptr 1 0] [.row 42 [.int .u32 (textF b n)], .row 41 [bv b]] (fun av H' => av = .bool (x.1.toList == b.toList) ∧ H' = [.row 42 [.int .u32 (textF b n)], .row 41 [bv b]]) := by
  refine callsG_at Try.func34 (by kernel_rfl) ?_
  have h := bytesEq_v x.1 b
  unfold encP
  cases hq : (x.1.toList == b.toList) with
  | true =>
    have hx : textF x.1 n = textF b n := by
      have : x.1 = b := by
        have := eq_of_beq hq
        rw [ByteArray.toList_eq, ByteArray.toList_eq] at this
        cases hx : x.1 with | mk c => rw [hx] at this; cases b with | mk d => simp at this; rw [this]
      rw [this]
    have h2 : (textF x.1 n == textF b n) = true := by rw [hx]; exact beq_self_eq_true _
    rw [hq] at h
    have e1' := h
    refine g_q [⟨8, [.tm 10 (.bool true)], .no⟩, ⟨11, [], .call (avOf e1') (blOf e1') []⟩] [.sel [4]] Exit.ret (stOf 16 [(4, AV.bool true)] [Blk.row 42 [AV.int .u32 (textF b n)], Blk.row 41 [AV.slv b.size 1 (bytesAV b)], Blk.row 65 [AV.int .u32 (textF x.fst n), AV.int .i64 x.snd, AV.slv x.fst.size 1 (bytesAV x.fst)]]) (And.intro (show 1 ≤ 3 from (by omega)) (And.intro (show 1 ≤ 1 from (by omega)) (And.intro (congrArg AV.bool (show (textF x.fst n == textF b n) = true from (by assumption))) (And.intro (show 1 ≤ 1 from (by omega)) (And.intro (show 1 ≤ 1 from (by omega)) e1'))))) ?_
    refine g_f [0, 1] [false, false] (AV.bool true) ([Blk.row 42 [AV.int .u32 (textF b n)], Blk.row 41 [AV.slv b.size 1 (bytesAV b)]]) trivial ?_
    exact ⟨rfl, rfl⟩
  | false =>
    rw [hq] at h
    cases h2 : (textF x.1 n == textF b n) with
    | true =>
      have e1' := h
      refine g_q [⟨8, [.tm 10 (.bool true)], .no⟩, ⟨11, [], .call (avOf e1') (blOf e1') []⟩] [.sel [4]] Exit.ret (stOf 16 [(4, AV.bool false)] [Blk.row 42 [AV.int .u32 (textF b n)], Blk.row 41 [AV.slv b.size 1 (bytesAV b)], Blk.row 65 [AV.int .u32 (textF x.fst n), AV.int .i64 x.snd, AV.slv x.fst.size 1 (bytesAV x.fst)]]) (And.intro (show 1 ≤ 3 from (by omega)) (And.intro (show 1 ≤ 1 from (by omega)) (And.intro (congrArg AV.bool (show (textF x.fst n == textF b n) = true from (by assumption))) (And.intro (show 1 ≤ 1 from (by omega)) (And.intro (show 1 ≤ 1 from (by omega)) e1'))))) ?_
      refine g_f [0, 1] [false, false] (AV.bool false) ([Blk.row 42 [AV.int .u32 (textF b n)], Blk.row 41 [AV.slv b.size 1 (bytesAV b)]]) trivial ?_
      exact ⟨rfl, rfl⟩
    | false =>
      refine g_q [⟨8, [.tm 10 (.bool false)], .no⟩] [.sel [4]] Exit.ret (stOf 16 [(4, AV.bool false)] [Blk.row 42 [AV.int .u32 (textF b n)], Blk.row 41 [AV.slv b.size 1 (bytesAV b)], Blk.row 65 [AV.int .u32 (textF x.fst n), AV.int .i64 x.snd, AV.slv x.fst.size 1 (bytesAV x.fst)]]) (And.intro (show 1 ≤ 3 from (by omega)) (And.intro (show 1 ≤ 1 from (by omega)) (And.intro (congrArg AV.bool (show (textF x.fst n == textF b n) = false from (by assumption))) (show false = true → false = true from (fun h => h))))) ?_
      refine g_f [0, 1] [false, false] (AV.bool false) ([Blk.row 42 [AV.int .u32 (textF b n)], Blk.row 41 [AV.slv b.size 1 (bytesAV b)]]) trivial ?_
      exact ⟨rfl, rfl⟩
abbrev fnH (n : Int) (l : List It) (b : ByteArray) : List Blk := [.row 65 (flatA (encP n) l), .row 42 [.int .u32 (textF b n)], .row 41 [bv b]]
abbrev fnV : AV := .fn (.func 34) [] [.ptr 1 0, .ptr 2 0]
def ixS (n : Int) (l : List It) (b : ByteArray) (k : Nat) : St := stOf 19 [(0, .sl 0 0 l.length 3), (1, fnV), (7, .int .i64 (l.length : Int)), (8, .int .i64 (k : Int))] (fnH n l b)
theorem idxL_F (n : Int) (l : List It) (b : ByteArray) (hl : l.length ≤ 1000) (h1 : ∀ k, k < l.length → ((l.getD k iD).1.toList == b.toList) = false) : LoopG Try.prog 3 Try.f27 0 (.exit 0) (stOf 19 [] (fnH n l b)) (ixS n l b 0) := by
  refine loopG_of l.length (fun k => ixS n l b k) (by kernel_rfl) (by simp) ?_ ?_
  · intro k hk
    have h1 := h1 k hk
    have hc := fnd1_v n (l.getD k iD) b
    rw [h1] at hc
    unfold ixS
    have e1' := (drop_ag0 (n := 3) (v := AV.agg [AV.int .u32 (textF (l.getD k iD).fst n), AV.int .i64 (l.getD k iD).snd, AV.slv (l.getD k iD).fst.size 1 (bytesAV (l.getD k iD).fst)]) (its_at n (l) (k) (by assumption)) rfl)
    have e2' := hc
    have e3' := (congrArg (fun z => AV.int .i64 z) (wrap_i64 (e := (↑k : Int) + (1 : Int)) (by omega) (by omega)))
    exact g_x [⟨1, [], .br true .no⟩, ⟨8, [], .as (rhsOf e1')⟩, ⟨9, [], .callS [1, 2] [false, false] (avOf e2') (blOf e2') [false, false]⟩, ⟨11, [], .as (rhsOf e3')⟩] [.sel [0, 1, 7, 8]] (And.intro (show decide ((↑k : Int) < (↑l.length : Int)) = true from (by rw [decide_eq_true_iff]; omega)) (And.intro (show (0 : Int) ≤ (↑k : Int) ∧ (↑k : Int) < (↑l.length : Int) from (by omega)) (And.intro (show 3 ≤ (List.drop (0 + (↑k : Int).toNat * 3) (flatA (encP n) l)).length from (drop_le0 (n := 3) (its_at n (l) (k) (by assumption)) (by simp))) (And.intro e1' (And.intro e2' e3')))))
  · unfold ixS
    exact g_x [⟨1, [], .br false .no⟩] [.sel []] (show decide ((↑l.length : Int) < (↑l.length : Int)) = false from (by rw [decide_eq_false_iff_not]; omega))
theorem idxL_T (n : Int) (l : List It) (b : ByteArray) (hl : l.length ≤ 1000) (i : Nat) (hi : i < l.length) (h1 : ∀ k, k < i → ((l.getD k iD).1.toList == b.toList) = false) (h2 : (l.getD i iD).1 = b) : LoopG Try.prog 3 Try.f27 0 .ret (stOf 19 [(4, .int .i64 (i : Int))] (fnH n l b)) (ixS n l b 0) := by
  refine loopG_of i (fun k => ixS n l b k) (by kernel_rfl) (by simp) ?_ ?_
  · intro k hk
    have h1 := h1 k hk
    have hk : k < l.length := by omega
    have hc := fnd1_v n (l.getD k iD) b
    rw [h1] at hc
    unfold ixS
    have e1' := (drop_ag0 (n := 3) (v := AV.agg [AV.int .u32 (textF (l.getD k iD).fst n), AV.int .i64 (l.getD k iD).snd, AV.slv (l.getD k iD).fst.size 1 (bytesAV (l.getD k iD).fst)]) (its_at n (l) (k) (by assumption)) rfl)
    have e2' := hc
    have e3' := (congrArg (fun z => AV.int .i64 z) (wrap_i64 (e := (↑k : Int) + (1 : Int)) (by omega) (by omega)))
    exact g_x [⟨1, [], .br true .no⟩, ⟨8, [], .as (rhsOf e1')⟩, ⟨9, [], .callS [1, 2] [false, false] (avOf e2') (blOf e2') [false, false]⟩, ⟨11, [], .as (rhsOf e3')⟩] [.sel [0, 1, 7, 8]] (And.intro (show decide ((↑k : Int) < (↑l.length : Int)) = true from (by rw [decide_eq_true_iff]; omega)) (And.intro (show (0 : Int) ≤ (↑k : Int) ∧ (↑k : Int) < (↑l.length : Int) from (by omega)) (And.intro (show 3 ≤ (List.drop (0 + (↑k : Int).toNat * 3) (flatA (encP n) l)).length from (drop_le0 (n := 3) (its_at n (l) (k) (by assumption)) (by simp))) (And.intro e1' (And.intro e2' e3')))))
  · have hc := fnd1_v n (l.getD i iD) b
    rw [show ((l.getD i iD).1.toList == b.toList) = true by rw [h2]; exact beq_self_eq_true _] at hc
    unfold ixS
    have e1' := (drop_ag0 (n := 3) (v := AV.agg [AV.int .u32 (textF (l.getD i iD).fst n), AV.int .i64 (l.getD i iD).snd, AV.slv (l.getD i iD).fst.size 1 (bytesAV (l.getD i iD).fst)]) (its_at n (l) (i) (by assumption)) rfl)
    have e2' := hc
    exact g_x [⟨1, [], .br true .no⟩, ⟨8, [], .as (rhsOf e1')⟩, ⟨9, [], .callS [1, 2] [false, false] (avOf e2') (blOf e2') [false, false]⟩] [.sel [4]] (And.intro (show decide ((↑i : Int) < (↑l.length : Int)) = true from (by rw [decide_eq_true_iff]; omega)) (And.intro (show (0 : Int) ≤ (↑i : Int) ∧ (↑i : Int) < (↑l.length : Int) from (by omega)) (And.intro (show 3 ≤ (List.drop (0 + (↑i : Int).toNat * 3) (flatA (encP n) l)).length from (drop_le0 (n := 3) (its_at n (l) (i) (by assumption)) (by simp))) (And.intro e1' e2'))))
theorem idx_F (n : Int) (l : List It) (b : ByteArray) (hl : l.length ≤ 1000) (h1 : ∀ k, k < l.length → ((l.getD k iD).1.toList == b.toList) = false) : CallsV Try.prog 27 [.sl 0 0 l.length 3, fnV] (fnH n l b) (fun av H' => av = .int .i64 (-1) ∧ H' = fnH n l b) := by
  refine callsG_at Try.func27 (by kernel_rfl) ?_
  have hL := idxL_F n l b hl h1
  unfold ixS at hL
  have e1' := hL
  refine g_q [⟨4, [.sel [0, 1, 7, 8]], .loop (exOf e1') (endOf e1')⟩] [] Exit.ret (stOf 19 [(4, AV.int .i64 (-1 : Int))] [Blk.row 65 (flatA (encP n) l), Blk.row 42 [AV.int .u32 (textF b n)], Blk.row 41 [AV.slv b.size 1 (bytesAV b)]]) e1' ?_
  refine g_f [0, 1, 2] [true, false, false] (AV.int .i64 (-1 : Int)) ([Blk.row 65 (flatA (encP n) l), Blk.row 42 [AV.int .u32 (textF b n)], Blk.row 41 [AV.slv b.size 1 (bytesAV b)]]) (show ∀ (x : AV), x ∈ flatA (encP n) l → noid0 x = true from its_noid n l) ?_
  exact ⟨rfl, rfl⟩
theorem idx_T (n : Int) (l : List It) (b : ByteArray) (hl : l.length ≤ 1000) (i : Nat) (hi : i < l.length) (h1 : ∀ k, k < i → ((l.getD k iD).1.toList == b.toList) = false) (h2 : (l.getD i iD).1 = b) : CallsV Try.prog 27 [.sl 0 0 l.length 3, fnV] (fnH n l b) (fun av H' => av = .int .i64 (i : Int) ∧ H' = fnH n l b) := by
  refine callsG_at Try.func27 (by kernel_rfl) ?_
  have hL := idxL_T n l b hl i hi h1 h2
  unfold ixS at hL
  have e1' := hL
  refine g_q [⟨4, [.sel [0, 1, 7, 8]], .loop (exOf e1') (endOf e1')⟩] [] Exit.ret (stOf 19 [(4, AV.int .i64 (↑i : Int))] [Blk.row 65 (flatA (encP n) l), Blk.row 42 [AV.int .u32 (textF b n)], Blk.row 41 [AV.slv b.size 1 (bytesAV b)]]) e1' ?_
  refine g_f [0, 1, 2] [true, false, false] (AV.int .i64 (↑i : Int)) ([Blk.row 65 (flatA (encP n) l), Blk.row 42 [AV.int .u32 (textF b n)], Blk.row 41 [AV.slv b.size 1 (bytesAV b)]]) (show ∀ (x : AV), x ∈ flatA (encP n) l → noid0 x = true from its_noid n l) ?_
  exact ⟨rfl, rfl⟩
def storeH (n r : Int) (l : List It) (A : List Int) : List Blk := [.row 48 [.int .i64 n, .int .i64 r, .sl 1 0 l.length 3, .map 2], .row 65 (flatA (encP n) l), .map (mapC A)]
theorem find_F (n r : Int) (l : List It) (A : List Int) (b : ByteArray) (hl : l.length ≤ 1000) (h1 : ∀ k, k < l.length → ((l.getD k iD).1.toList == b.toList) = false) : CallsV Try.prog 24 [.ptr 0 0, .int .u32 (textF b n), bv b] (storeH n r l A) (fun av H' => av = .int .i64 (-1) ∧ H' = storeH n r l A) := by
  refine callsG_at Try.func24 (by kernel_rfl) ?_
  have hc := idx_F n l b hl h1
  unfold storeH
  have e1' := hc
  refine g_q [⟨8, [], .callS [1, 3, 4] [true, false, false] (avOf e1') (blOf e1') [true, false, false]⟩] [.sel [6]] Exit.ret (stOf 13 [(6, AV.int .i64 (-1 : Int))] [Blk.row 48 [AV.int .i64 n, AV.int .i64 r, AV.sl 1 0 l.length 3, AV.map 2], Blk.row 65 (flatA (encP n) l), Blk.map (mapC A), Blk.row 42 [AV.int .u32 (textF b n)], Blk.row 41 [AV.slv b.size 1 (bytesAV b)]]) (And.intro (show 1 ≤ 2 from (by omega)) (And.intro (show ∀ (x : AV), x ∈ flatA (encP n) l → noid0 x = true from its_noid n l) (And.intro (show ∀ (x : AV), x ∈ flatA (encP n) l → noid0 x = true from its_noid n l) e1'))) ?_
  refine g_f [0, 1, 2] [false, true, true] (AV.int .i64 (-1 : Int)) ([Blk.row 48 [AV.int .i64 n, AV.int .i64 r, AV.sl 1 0 l.length 3, AV.map 2], Blk.row 65 (flatA (encP n) l), Blk.map (mapC A)]) (And.intro (show ∀ (x : AV), x ∈ flatA (encP n) l → noid0 x = true from its_noid n l) (show ∀ (q : AV × AV), q ∈ mapC A → plain1 q.fst = true ∧ plain1 q.snd = true from map_plainC A)) ?_
  exact ⟨rfl, rfl⟩
theorem find_T (n r : Int) (l : List It) (A : List Int) (b : ByteArray) (hl : l.length ≤ 1000) (i : Nat) (hi : i < l.length) (h1 : ∀ k, k < i → ((l.getD k iD).1.toList == b.toList) = false) (h2 : (l.getD i iD).1 = b) : CallsV Try.prog 24 [.ptr 0 0, .int .u32 (textF b n), bv b] (storeH n r l A) (fun av H' => av = .int .i64 (i : Int) ∧ H' = storeH n r l A) := by
  refine callsG_at Try.func24 (by kernel_rfl) ?_
  have hc := idx_T n l b hl i hi h1 h2
  unfold storeH
  have e1' := hc
  refine g_q [⟨8, [], .callS [1, 3, 4] [true, false, false] (avOf e1') (blOf e1') [true, false, false]⟩] [.sel [6]] Exit.ret (stOf 13 [(6, AV.int .i64 (↑i : Int))] [Blk.row 48 [AV.int .i64 n, AV.int .i64 r, AV.sl 1 0 l.length 3, AV.map 2], Blk.row 65 (flatA (encP n) l), Blk.map (mapC A), Blk.row 42 [AV.int .u32 (textF b n)], Blk.row 41 [AV.slv b.size 1 (bytesAV b)]]) (And.intro (show 1 ≤ 2 from (by omega)) (And.intro (show ∀ (x : AV), x ∈ flatA (encP n) l → noid0 x = true from its_noid n l) (And.intro (show ∀ (x : AV), x ∈ flatA (encP n) l → noid0 x = true from its_noid n l) e1'))) ?_
  refine g_f [0, 1, 2] [false, true, true] (AV.int .i64 (↑i : Int)) ([Blk.row 48 [AV.int .i64 n, AV.int .i64 r, AV.sl 1 0 l.length 3, AV.map 2], Blk.row 65 (flatA (encP n) l), Blk.map (mapC A)]) (And.intro (show ∀ (x : AV), x ∈ flatA (encP n) l → noid0 x = true from its_noid n l) (show ∀ (q : AV × AV), q ∈ mapC A → plain1 q.fst = true ∧ plain1 q.snd = true from map_plainC A)) ?_
  exact ⟨rfl, rfl⟩
end Go.Proofs.Ytkdgnjoofhckeaa
