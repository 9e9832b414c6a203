/-
  Stores: Get, New.
-/
import Derived.Test.YtkdgnjoofhckeaaC6
namespace Go.Proofs.Ytkdgnjoofhckeaa
open Go Go.RowKit V
set_option linter.unusedSimpArgs false
set_option linter.unusedVariables false
set_option maxHeartbeats 20000000
def keyQ (n : Int) (x : It) (d m : Int) : Bool := textF x.1 n == d && x.2 == m
theorem get1_v (n : Int) (x : It) (d m : Int) : CallsV Try.prog 28 [.agg (encP n x), .ptr 0 0] [.row 44 [.int .u32 d, .int .i64 m]] (fun av H' => av = .bool (keyQ n x d m) ∧ H' = [.row 44 [.int .u32 d, .int .i64 m]]) := by
  refine callsG_at Try.func28 (by kernel_rfl) ?_
  unfold encP keyQ
  refine g_q [] [.sel [3]] Exit.ret (stOf 8 [(3, AV.bool (textF x.fst n == d && (x.snd == m && true)))] [Blk.row 44 [AV.int .u32 d, AV.int .i64 m], Blk.row 65 [AV.int .u32 (textF x.fst n), AV.int .i64 x.snd, AV.slv x.fst.size 1 (bytesAV x.fst)]]) (And.intro (show 2 ≤ 3 from (by omega)) (show 2 ≤ 2 from (by omega))) ?_
  refine g_f [0] [false] (AV.bool (textF x.fst n == d && (x.snd == m && true))) ([Blk.row 44 [AV.int .u32 d, AV.int .i64 m]]) trivial ?_
  exact ⟨by cases textF x.1 n == d <;> simp, rfl⟩
abbrev kH (n : Int) (l : List It) (d m : Int) : List Blk := [.row 65 (flatA (encP n) l), .row 44 [.int .u32 d, .int .i64 m]]
abbrev fnK : AV := .fn (.func 28) [] [.ptr 1 0]
def kxS (n : Int) (l : List It) (d m : Int) (k : Nat) : St := stOf 19 [(0, .sl 0 0 l.length 3), (1, fnK), (7, .int .i64 (l.length : Int)), (8, .int .i64 (k : Int))] (kH n l d m)
theorem kdxL_F (n : Int) (l : List It) (d m : Int) (hl : l.length ≤ 1000) (h1 : ∀ k, k < l.length → keyQ n (l.getD k iD) d m = false) : LoopG Try.prog 2 Try.f27 0 (.exit 0) (stOf 19 [] (kH n l d m)) (kxS n l d m 0) := by
  refine loopG_of l.length (fun k => kxS n l d m k) (by kernel_rfl) (by simp) ?_ ?_
  · intro k hk
    have h1 := h1 k hk
    have hc := get1_v n (l.getD k iD) d m
    rw [h1] at hc
    unfold kxS
    have e1' := (drop_ag0 (n := 3) (v := AV.agg [AV.int .u32 (textF (l.getD k iD).fst n), AV.int .i64 (l.getD k iD).snd, AV.slv (l.getD k iD).fst.size 1 (bytesAV (l.getD k iD).fst)]) (its_at n (l) (k) (by assumption)) rfl)
    have e2' := hc
    have e3' := (congrArg (fun z => AV.int .i64 z) (wrap_i64 (e := (↑k : Int) + (1 : Int)) (by omega) (by omega)))
    exact g_x [⟨1, [], .br true .no⟩, ⟨8, [], .as (rhsOf e1')⟩, ⟨9, [], .callS [1] [false] (avOf e2') (blOf e2') [false]⟩, ⟨11, [], .as (rhsOf e3')⟩] [.sel [0, 1, 7, 8]] (And.intro (show decide ((↑k : Int) < (↑l.length : Int)) = true from (by rw [decide_eq_true_iff]; omega)) (And.intro (show (0 : Int) ≤ (↑k : Int) ∧ (↑k : Int) < (↑l.length : Int) from (by omega)) (And.intro (show 3 ≤ (List.drop (0 + (↑k : Int).toNat * 3) (flatA (encP n) l)).length from (drop_le0 (n := 3) (its_at n (l) (k) (by assumption)) (by simp))) (And.intro e1' (And.intro e2' e3')))))
  · unfold kxS
    exact g_x [⟨1, [], .br false .no⟩] [.sel []] (show decide ((↑l.length : Int) < (↑l.length : Int)) = false from (by rw [decide_eq_false_iff_not]; omega))
theorem kdxL_T (n : Int) (l : List It) (d m : Int) (hl : l.length ≤ 1000) (i : Nat) (hi : i < l.length) (h1 : ∀ k, k < i → keyQ n (l.getD k iD) d m = false) (h2 : keyQ n (l.getD i iD) d m = true) : LoopG Try.prog 2 Try.f27 0 .ret (stOf 19 [(4, .int .i64 (i : Int))] (kH n l d m)) (kxS n l d m 0) := by
  refine loopG_of i (fun k => kxS n l d m k) (by kernel_rfl) (by simp) ?_ ?_
  · intro k hk
    have h1 := h1 k hk
    have hk : k < l.length := by omega
    have hc := get1_v n (l.getD k iD) d m
    rw [h1] at hc
    unfold kxS
    have e1' := (drop_ag0 (n := 3) (v := AV.agg [AV.int .u32 (textF (l.getD k iD).fst n), AV.int .i64 (l.getD k iD).snd, AV.slv (l.getD k iD).fst.size 1 (bytesAV (l.getD k iD).fst)]) (its_at n (l) (k) (by assumption)) rfl)
    have e2' := hc
    have e3' := (congrArg (fun z => AV.int .i64 z) (wrap_i64 (e := (↑k : Int) + (1 : Int)) (by omega) (by omega)))
    exact g_x [⟨1, [], .br true .no⟩, ⟨8, [], .as (rhsOf e1')⟩, ⟨9, [], .callS [1] [false] (avOf e2') (blOf e2') [false]⟩, ⟨11, [], .as (rhsOf e3')⟩] [.sel [0, 1, 7, 8]] (And.intro (show decide ((↑k : Int) < (↑l.length : Int)) = true from (by rw [decide_eq_true_iff]; omega)) (And.intro (show (0 : Int) ≤ (↑k : Int) ∧ (↑k : Int) < (↑l.length : Int) from (by omega)) (And.intro (show 3 ≤ (List.drop (0 + (↑k : Int).toNat * 3) (flatA (encP n) l)).length from (drop_le0 (n := 3) (its_at n (l) (k) (by assumption)) (by simp))) (And.intro e1' (And.intro e2' e3')))))
  · have hc := get1_v n (l.getD i iD) d m
    rw [h2] at hc
    unfold kxS
    have e1' := (drop_ag0 (n := 3) (v := AV.agg [AV.int .u32 (textF (l.getD i iD).fst n), AV.int .i64 (l.getD i iD).snd, AV.slv (l.getD i iD).fst.size 1 (bytesAV (l.getD i iD).fst)]) (its_at n (l) (i) (by assumption)) rfl)
    have e2' := hc
    exact g_x [⟨1, [], .br true .no⟩, ⟨8, [], .as (rhsOf e1')⟩, ⟨9, [], .callS [1] [false] (avOf e2') (blOf e2') [false]⟩] [.sel [4]] (And.intro (show decide ((↑i : Int) < (↑l.length : Int)) = true from (by rw [decide_eq_true_iff]; omega)) (And.intro (show (0 : Int) ≤ (↑i : Int) ∧ (↑i : Int) < (↑l.length : Int) from (by omega)) (And.intro (show 3 ≤ (List.drop (0 + (↑i : Int).toNat * 3) (flatA (encP n) l)).length from (drop_le0 (n := 3) (its_at n (l) (i) (by assumption)) (by simp))) (And.intro e1' e2'))))
theorem kdx_F (n : Int) (l : List It) (d m : Int) (hl : l.length ≤ 1000) (h1 : ∀ k, k < l.length → keyQ n (l.getD k iD) d m = false) : CallsV Try.prog 27 [.sl 0 0 l.length 3, fnK] (kH n l d m) (fun av H' => av = .int .i64 (-1) ∧ H' = kH n l d m) := by
  refine callsG_at Try.func27 (by kernel_rfl) ?_
  have hL := kdxL_F n l d m hl h1
  unfold kxS at hL
  have e1' := hL
  refine g_q [⟨4, [.sel [0, 1, 7, 8]], .loop (exOf e1') (endOf e1')⟩] [] Exit.ret (stOf 19 [(4, AV.int .i64 (-1 : Int))] [Blk.row 65 (flatA (encP n) l), Blk.row 44 [AV.int .u32 d, AV.int .i64 m]]) e1' ?_
  refine g_f [0, 1] [true, false] (AV.int .i64 (-1 : Int)) ([Blk.row 65 (flatA (encP n) l), Blk.row 44 [AV.int .u32 d, AV.int .i64 m]]) (show ∀ (x : AV), x ∈ flatA (encP n) l → noid0 x = true from its_noid n l) ?_
  exact ⟨rfl, rfl⟩
theorem kdx_T (n : Int) (l : List It) (d m : Int) (hl : l.length ≤ 1000) (i : Nat) (hi : i < l.length) (h1 : ∀ k, k < i → keyQ n (l.getD k iD) d m = false) (h2 : keyQ n (l.getD i iD) d m = true) : CallsV Try.prog 27 [.sl 0 0 l.length 3, fnK] (kH n l d m) (fun av H' => av = .int .i64 (i : Int) ∧ H' = kH n l d m) := by
  refine callsG_at Try.func27 (by kernel_rfl) ?_
  have hL := kdxL_T n l d m hl i hi h1 h2
  unfold kxS at hL
  have e1' := hL
  refine g_q [⟨4, [.sel [0, 1, 7, 8]], .loop (exOf e1') (endOf e1')⟩] [] Exit.ret (stOf 19 [(4, AV.int .i64 (↑i : Int))] [Blk.row 65 (flatA (encP n) l), Blk.row 44 [AV.int .u32 d, AV.int .i64 m]]) e1' ?_
  refine g_f [0, 1] [true, false] (AV.int .i64 (↑i : Int)) ([Blk.row 65 (flatA (encP n) l), Blk.row 44 [AV.int .u32 d, AV.int .i64 m]]) (show ∀ (x : AV), x ∈ flatA (encP n) l → noid0 x = true from its_noid n l) ?_
  exact ⟨rfl, rfl⟩
theorem get_F (n r : Int) (l : List It) (A : List Int) (d m : Int) (hl : l.length ≤ 1000) (h1 : ∀ k, k < l.length → keyQ n (l.getD k iD) d m = false) : CallsV Try.prog 15 [.ptr 0 0, .agg [.int .u32 d, .int .i64 m]] (storeH n r l A) (fun av H' => av = .tuple [.nilsl, .bool false] ∧ H' = storeD n r l A) := by
  refine callsG_at Try.func15 (by kernel_rfl) ?_
  have hc := kdx_F n l d m hl h1
  unfold storeH storeD
  have e1' := hc
  refine g_q [⟨11, [], .callS [1, 3] [true, false] (avOf e1') (blOf e1') [true, false]⟩] [.sel [4, 5], .place [some 0, none, some 2, some 1] [false, false, true, true]] Exit.ret (stOf 31 [(4, AV.nilsl), (5, AV.bool false)] [Blk.row 48 [AV.int .i64 n, AV.int .i64 r, AV.sl 3 0 l.length 3, AV.map 2], Blk.dead, Blk.map (mapC A), Blk.row 65 (flatA (encP n) l)]) (And.intro (show 1 ≤ 2 from (by omega)) (And.intro (show ∀ (x : AV), x ∈ flatA (encP n) l → noid0 x = true from its_noid n l) (And.intro (show ∀ (x : AV), x ∈ flatA (encP n) l → noid0 x = true from its_noid n l) (And.intro e1' (And.intro (show ∀ (q : AV × AV), q ∈ mapC A → plain1 q.fst = true ∧ plain1 q.snd = true from map_plainC A) (show ∀ (x : AV), x ∈ flatA (encP n) l → noid0 x = true from its_noid n l)))))) ?_
  refine g_f [0, 1, 2, 3] [false, false, true, true] (AV.tuple [AV.nilsl, AV.bool false]) ([Blk.row 48 [AV.int .i64 n, AV.int .i64 r, AV.sl 3 0 l.length 3, AV.map 2], Blk.dead, Blk.map (mapC A), Blk.row 65 (flatA (encP n) l)]) (And.intro (show ∀ (q : AV × AV), q ∈ mapC A → plain1 q.fst = true ∧ plain1 q.snd = true from map_plainC A) (show ∀ (x : AV), x ∈ flatA (encP n) l → noid0 x = true from its_noid n l)) ?_
  exact ⟨rfl, rfl⟩
theorem get_T (n r : Int) (l : List It) (A : List Int) (d m : Int) (hl : l.length ≤ 1000) (i : Nat) (hi : i < l.length) (hs : 0 < (l.getD i iD).1.size ∧ (l.getD i iD).1.size ≤ 1000000) (h1 : ∀ k, k < i → keyQ n (l.getD k iD) d m = false) (h2 : keyQ n (l.getD i iD) d m = true) : CallsV Try.prog 15 [.ptr 0 0, .agg [.int .u32 d, .int .i64 m]] (storeH n r l A) (fun av H' => av = .tuple [bv (l.getD i iD).1, .bool true] ∧ H' = storeD n r (l.eraseIdx i ++ [l.getD i iD]) A) := by
  refine callsG_at Try.func15 (by kernel_rfl) ?_
  have hc := kdx_T n l d m hl i hi h1 h2
  have hu := use_v n r l A hl i hi
  have bc := bclone_v (l.getD i iD).1 hs
  unfold storeH at hu ⊢
  unfold storeD at hu ⊢
  have e1' := hc
  have e2' := (drop_hd (o := 2) (v := AV.slv (l.getD i iD).fst.size 1 (bytesAV (l.getD i iD).fst)) (its_at n (l) (i) (by assumption)) rfl)
  have e3' := hu
  have e4' := bc
  refine g_q [⟨11, [], .callS [1, 3] [true, false] (avOf e1') (blOf e1') [true, false]⟩, ⟨23, [], .as (rhsOf e2')⟩, ⟨27, [], .callS [0, 1, 2] [false, true, true] (avOf e3') (blOf e3') [false, false, true, true]⟩, ⟨29, [], .call (avOf e4') (blOf e4') []⟩] [.sel [4, 5]] Exit.ret (stOf 31 [(4, AV.slv (l.getD i iD).fst.size 1 (bytesAV (l.getD i iD).fst)), (5, AV.bool true)] [Blk.row 48 [AV.int .i64 n, AV.int .i64 r, AV.sl 4 0 (l.eraseIdx i ++ [l.getD i iD]).length 3, AV.map 2], Blk.dead, Blk.map (mapC A), Blk.row 44 [AV.int .u32 d, AV.int .i64 m], Blk.row 65 (flatA (encP n) (l.eraseIdx i ++ [l.getD i iD]))]) (And.intro (show 1 ≤ 2 from (by omega)) (And.intro (show ∀ (x : AV), x ∈ flatA (encP n) l → noid0 x = true from its_noid n l) (And.intro (show ∀ (x : AV), x ∈ flatA (encP n) l → noid0 x = true from its_noid n l) (And.intro e1' (And.intro (show 1 ≤ 2 from (by omega)) (And.intro (show (0 : Int) ≤ (↑i : Int) ∧ (↑i : Int) < (↑l.length : Int) from (by omega)) (And.intro (show 1 ≤ (List.drop (0 + (↑i : Int).toNat * 3 + 2) (flatA (encP n) l)).length from (drop_le (o := 2) (n := 1) (its_at n (l) (i) (by assumption)) (by simp))) (And.intro e2' (And.intro (show ∀ (x : AV), x ∈ flatA (encP n) l → noid0 x = true from its_noid n l) (And.intro (show ∀ (q : AV × AV), q ∈ mapC A → plain1 q.fst = true ∧ plain1 q.snd = true from map_plainC A) (And.intro (show ∀ (q : AV × AV), q ∈ mapC A → plain1 q.fst = true ∧ plain1 q.snd = true from map_plainC A) (And.intro (show ∀ (x : AV), x ∈ flatA (encP n) (l.eraseIdx i ++ [l.getD i iD]) → noid0 x = true from its_noid n (l.eraseIdx i ++ [l.getD i iD])) (And.intro e3' e4'))))))))))))) ?_
  refine g_f [0, 1, 2, 4] [false, false, true, true] (AV.tuple [AV.slv (l.getD i iD).fst.size 1 (bytesAV (l.getD i iD).fst), AV.bool true]) ([Blk.row 48 [AV.int .i64 n, AV.int .i64 r, AV.sl 3 0 (l.eraseIdx i ++ [l.getD i iD]).length 3, AV.map 2], Blk.dead, Blk.map (mapC A), Blk.row 65 (flatA (encP n) (l.eraseIdx i ++ [l.getD i iD]))]) (And.intro (show ∀ (q : AV × AV), q ∈ mapC A → plain1 q.fst = true ∧ plain1 q.snd = true from map_plainC A) (show ∀ (x : AV), x ∈ flatA (encP n) (l.eraseIdx i ++ [l.getD i iD]) → noid0 x = true from its_noid n (l.eraseIdx i ++ [l.getD i iD]))) ?_
  exact ⟨rfl, rfl⟩
theorem new_v (n r : Int) (hn : 1 ≤ n ∧ n ≤ 32) (hr : 1 ≤ r ∧ r ≤ 32) : CallsV Try.prog 8 [.int .i64 n, .int .i64 r] [] (fun av H' => av = .tuple [.ptr 0 0, .int .i64 0] ∧ H' = storeH n r [] []) := by
  refine CallsV.post (R := fun av H' => av = .tuple [.ptr 0 0, .int .i64 0] ∧ H' = [.row 48 [.int .i64 n, .int .i64 r, .nilsl, .map 1], .map []]) ?_ ?_
  · refine callsG_at Try.func8 (by kernel_rfl) ?_
    refine g_q [⟨5, [.tm 8 (.bool false)], .no⟩, ⟨9, [.tm 12 (.bool false)], .no⟩, ⟨13, [.tm 16 (.bool false)], .no⟩, ⟨16, [], .br false .no⟩] [.sel [4, 5]] Exit.ret (stOf 25 [(4, AV.ptr 1 0), (5, AV.int .i64 (0 : Int))] [Blk.map [], Blk.row 48 [AV.int .i64 n, AV.int .i64 r, AV.nilsl, AV.map 0]]) (And.intro (congrArg AV.bool (show decide (n < (1 : Int)) = false from (by rw [decide_eq_false_iff_not]; omega))) (And.intro (congrArg AV.bool (show (bif false then true else decide (n > (32 : Int))) = false from (by simp_all; done))) (And.intro (congrArg AV.bool (show (bif false then true else decide (r < (1 : Int))) = false from (by simp_all; done))) (show (bif false then true else decide (r > (32 : Int))) = false from (by simp_all; done))))) ?_
    refine g_f [1, 0] [false, false] (AV.tuple [AV.ptr 0 0, AV.int .i64 (0 : Int)]) ([Blk.row 48 [AV.int .i64 n, AV.int .i64 r, AV.nilsl, AV.map 1], Blk.map []]) trivial ?_
    exact ⟨rfl, rfl⟩
  · rintro _ _ ⟨rfl, rfl⟩
    exact ⟨_, _, preL_ok (l := [.ownc 0 2 65 3, .keep [0, 2, 1] []]) rfl trivial, rfl, rfl⟩
theorem new_no (n r : Int) (h : n < 1 ∨ 32 < n ∨ r < 1 ∨ 32 < r) : CallsV Try.prog 8 [.int .i64 n, .int .i64 r] [] (fun av H' => av = .tuple [.nilptr, .int .i64 1] ∧ H' = []) := by
  refine callsG_at Try.func8 (by kernel_rfl) ?_
  refine g_q [⟨5, [], .gd⟩, ⟨6, [], .gd⟩, ⟨9, [], .gd⟩, ⟨10, [], .gd⟩, ⟨13, [], .gd⟩, ⟨14, [], .gd⟩, ⟨16, [], .br true .no⟩] [.sel [4, 5]] Exit.ret (stOf 25 [(4, AV.nilptr), (5, AV.int .i64 (1 : Int))] []) (And.intro (show (decide (n < (1 : Int)) == false) = true → (decide (n < (1 : Int)) == false) = true from (fun h => h)) (And.intro (show decide (n < (1 : Int)) = false → (decide (n < (1 : Int)) == false) = true from (by (simp; done))) (And.intro (show ((bif decide (n < (1 : Int)) then true else decide (n > (32 : Int))) == false) = true → ((bif decide (n < (1 : Int)) then true else decide (n > (32 : Int))) == false) = true from (fun h => h)) (And.intro (show (bif decide (n < (1 : Int)) then true else decide (n > (32 : Int))) = false → ((bif decide (n < (1 : Int)) then true else decide (n > (32 : Int))) == false) = true from (by (simp; done))) (And.intro (show ((bif bif decide (n < (1 : Int)) then true else decide (n > (32 : Int)) then true else decide (r < (1 : Int))) == false) = true → ((bif bif decide (n < (1 : Int)) then true else decide (n > (32 : Int)) then true else decide (r < (1 : Int))) == false) = true from (fun h => h)) (And.intro (show (bif bif decide (n < (1 : Int)) then true else decide (n > (32 : Int)) then true else decide (r < (1 : Int))) = false → ((bif bif decide (n < (1 : Int)) then true else decide (n > (32 : Int)) then true else decide (r < (1 : Int))) == false) = true from (by (simp; done))) (show (bif bif bif decide (n < (1 : Int)) then true else decide (n > (32 : Int)) then true else decide (r < (1 : Int)) then true else decide (r > (32 : Int))) = true from (by simp_all; omega)))))))) ?_
  refine g_f [] [] (AV.tuple [AV.nilptr, AV.int .i64 (1 : Int)]) ([]) trivial ?_
  exact ⟨rfl, rfl⟩
theorem newR_no (n r : Int) (h : n < 1 ∨ 32 < n ∨ r < 1 ∨ 32 < r) : CallsV Try.prog 9 [.int .i64 n, .int .i64 r] [] (fun av H' => av = .tuple [.nilptr, .int .i64 1] ∧ H' = []) := by
  refine callsG_at Try.func9 (by kernel_rfl) ?_
  refine g_q [⟨5, [], .gd⟩, ⟨6, [], .gd⟩, ⟨9, [], .gd⟩, ⟨10, [], .gd⟩, ⟨13, [], .gd⟩, ⟨14, [], .gd⟩, ⟨16, [], .br true .no⟩] [.sel [4, 5]] Exit.ret (stOf 24 [(4, AV.nilptr), (5, AV.int .i64 (1 : Int))] []) (And.intro (show (decide (n < (1 : Int)) == false) = true → (decide (n < (1 : Int)) == false) = true from (fun h => h)) (And.intro (show decide (n < (1 : Int)) = false → (decide (n < (1 : Int)) == false) = true from (by (simp; done))) (And.intro (show ((bif decide (n < (1 : Int)) then true else decide (n > (32 : Int))) == false) = true → ((bif decide (n < (1 : Int)) then true else decide (n > (32 : Int))) == false) = true from (fun h => h)) (And.intro (show (bif decide (n < (1 : Int)) then true else decide (n > (32 : Int))) = false → ((bif decide (n < (1 : Int)) then true else decide (n > (32 : Int))) == false) = true from (by (simp; done))) (And.intro (show ((bif bif decide (n < (1 : Int)) then true else decide (n > (32 : Int)) then true else decide (r < (1 : Int))) == false) = true → ((bif bif decide (n < (1 : Int)) then true else decide (n > (32 : Int)) then true else decide (r < (1 : Int))) == false) = true from (fun h => h)) (And.intro (show (bif bif decide (n < (1 : Int)) then true else decide (n > (32 : Int)) then true else decide (r < (1 : Int))) = false → ((bif bif decide (n < (1 : Int)) then true else decide (n > (32 : Int)) then true else decide (r < (1 : Int))) == false) = true from (by (simp; done))) (show (bif bif bif decide (n < (1 : Int)) then true else decide (n > (32 : Int)) then true else decide (r < (1 : Int)) then true else decide (r > (32 : Int))) = true from (by simp_all; omega)))))))) ?_
  refine g_f [] [] (AV.tuple [AV.nilptr, AV.int .i64 (1 : Int)]) ([]) trivial ?_
  exact ⟨rfl, rfl⟩
end Go.Proofs.Ytkdgnjoofhckeaa
