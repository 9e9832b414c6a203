/-
  Stores: the definition's Find and Get.
-/
import Derived.Test.YtkdgnjoofhckeaaC8
namespace Go.Proofs.Ytkdgnjoofhckeaa
open Go Go.RowKit V
set_option linter.unusedSimpArgs false
set_option linter.unusedVariables false
set_option maxHeartbeats 20000000
abbrev kRow (d m : Int) : Blk := .row 44 [.int .u32 d, .int .i64 m]
def fiS (n r : Int) (l : List It) (A : List Int) (b : ByteArray) (k : Nat) : St := stOf 36 [(0, .ptr 0 0), (1, bv b), (4, .ptr 3 0), (6, .int .i64 (k : Int))] (refH n r l A ++ [kRow 0 0])
theorem fiL_F (n r : Int) (l : List It) (A : List Int) (b : ByteArray) (hl : l.length ≤ 1000) (h1 : ∀ k, k < l.length → ((l.getD k iD).1.toList == b.toList) = false) : LoopG Try.prog 3 Try.f20 0 (.exit 0) (stOf 36 [(4, .ptr 3 0)] (refH n r l A ++ [kRow 0 0])) (fiS n r l A b 0) := by
  refine loopG_of l.length (fun k => fiS n r l A b k) (by kernel_rfl) (by simp) ?_ ?_
  · intro k hk
    have h1 := h1 k hk
    unfold fiS refH
    have e1' := (drop_hd (o := 2) (v := AV.str (l.getD k iD).fst) (rts_at n (l) (k) (by assumption)) rfl)
    have e2' := (congrArg (fun z => AV.str z) (str_bytes (b)))
    have e3' := (congrArg (fun z => AV.int .i64 z) (wrap_i64 (e := (↑k : Int) + (1 : Int)) (by omega) (by omega)))
    exact g_x [⟨7, [], .br true .no⟩, ⟨15, [], .as (rhsOf e1')⟩, ⟨17, [], .as (rhsOf e2')⟩, ⟨19, [], .br false .no⟩, ⟨21, [], .as (rhsOf e3')⟩] [.sel [0, 1, 4, 6]] (And.intro (show 1 ≤ 2 from (by omega)) (And.intro (show decide ((↑k : Int) < (↑l.length : Int)) = true from (by rw [decide_eq_true_iff]; omega)) (And.intro (show 1 ≤ 2 from (by omega)) (And.intro (show (0 : Int) ≤ (↑k : Int) ∧ (↑k : Int) < (↑l.length : Int) from (by omega)) (And.intro (show 1 ≤ (List.drop (0 + (↑k : Int).toNat * 3 + 2) (flatA (encR n) l)).length from (drop_le (o := 2) (n := 1) (rts_at n (l) (k) (by assumption)) (by simp))) (And.intro e1' (And.intro (show (bytesAV b).all isU8 = true from bytes_u8 b) (And.intro e2' (And.intro (show ((l.getD k iD).fst.toList == b.toList) = false from (by assumption)) e3')))))))))
  · unfold fiS refH
    exact g_x [⟨7, [], .br false .no⟩] [.sel [4]] (And.intro (show 1 ≤ 2 from (by omega)) (show decide ((↑l.length : Int) < (↑l.length : Int)) = false from (by rw [decide_eq_false_iff_not]; omega)))
theorem fiL_T (n r : Int) (l : List It) (A : List Int) (b : ByteArray) (hl : l.length ≤ 1000) (i : Nat) (hi : i < l.length) (h1 : ∀ k, k < i → ((l.getD k iD).1.toList == b.toList) = false) (h2 : (l.getD i iD).1 = b) : LoopG Try.prog 3 Try.f20 0 .ret (stOf 36 [(4, .ptr 3 0), (5, .bool true)] (refH n r l A ++ [kRow (textF (l.getD i iD).1 n) (l.getD i iD).2])) (fiS n r l A b 0) := by
  refine loopG_of i (fun k => fiS n r l A b k) (by kernel_rfl) (by simp) ?_ ?_
  · intro k hk
    have h1 := h1 k hk
    have hk : k < l.length := by omega
    unfold fiS refH
    have e1' := (drop_hd (o := 2) (v := AV.str (l.getD k iD).fst) (rts_at n (l) (k) (by assumption)) rfl)
    have e2' := (congrArg (fun z => AV.str z) (str_bytes (b)))
    have e3' := (congrArg (fun z => AV.int .i64 z) (wrap_i64 (e := (↑k : Int) + (1 : Int)) (by omega) (by omega)))
    exact g_x [⟨7, [], .br true .no⟩, ⟨15, [], .as (rhsOf e1')⟩, ⟨17, [], .as (rhsOf e2')⟩, ⟨19, [], .br false .no⟩, ⟨21, [], .as (rhsOf e3')⟩] [.sel [0, 1, 4, 6]] (And.intro (show 1 ≤ 2 from (by omega)) (And.intro (show decide ((↑k : Int) < (↑l.length : Int)) = true from (by rw [decide_eq_true_iff]; omega)) (And.intro (show 1 ≤ 2 from (by omega)) (And.intro (show (0 : Int) ≤ (↑k : Int) ∧ (↑k : Int) < (↑l.length : Int) from (by omega)) (And.intro (show 1 ≤ (List.drop (0 + (↑k : Int).toNat * 3 + 2) (flatA (encR n) l)).length from (drop_le (o := 2) (n := 1) (rts_at n (l) (k) (by assumption)) (by simp))) (And.intro e1' (And.intro (show (bytesAV b).all isU8 = true from bytes_u8 b) (And.intro e2' (And.intro (show ((l.getD k iD).fst.toList == b.toList) = false from (by assumption)) e3')))))))))
  · have h3 : ((l.getD i iD).1.toList == b.toList) = true := by rw [h2]; exact beq_self_eq_true _
    unfold fiS refH
    have e1' := (drop_hd (o := 2) (v := AV.str (l.getD i iD).fst) (rts_at n (l) (i) (by assumption)) rfl)
    have e2' := (congrArg (fun z => AV.str z) (str_bytes (b)))
    have e3' := (drop_ag (o := 0) (n := 2) (v := AV.agg [AV.int .u32 (textF (l.getD i iD).fst n), AV.int .i64 (l.getD i iD).snd]) (rts_at n (l) (i) (by assumption)) rfl)
    exact g_x [⟨7, [], .br true .no⟩, ⟨15, [], .as (rhsOf e1')⟩, ⟨17, [], .as (rhsOf e2')⟩, ⟨19, [], .br true .no⟩, ⟨27, [], .as (rhsOf e3')⟩] [.sel [4, 5]] (And.intro (show 1 ≤ 2 from (by omega)) (And.intro (show decide ((↑i : Int) < (↑l.length : Int)) = true from (by rw [decide_eq_true_iff]; omega)) (And.intro (show 1 ≤ 2 from (by omega)) (And.intro (show (0 : Int) ≤ (↑i : Int) ∧ (↑i : Int) < (↑l.length : Int) from (by omega)) (And.intro (show 1 ≤ (List.drop (0 + (↑i : Int).toNat * 3 + 2) (flatA (encR n) l)).length from (drop_le (o := 2) (n := 1) (rts_at n (l) (i) (by assumption)) (by simp))) (And.intro e1' (And.intro (show (bytesAV b).all isU8 = true from bytes_u8 b) (And.intro e2' (And.intro (show ((l.getD i iD).fst.toList == b.toList) = true from (by assumption)) (And.intro (show 1 ≤ 2 from (by omega)) (And.intro (show (0 : Int) ≤ (↑i : Int) ∧ (↑i : Int) < (↑l.length : Int) from (by omega)) (And.intro (show 2 ≤ (List.drop (0 + (↑i : Int).toNat * 3 + 0) (flatA (encR n) l)).length from (drop_le (o := 0) (n := 2) (rts_at n (l) (i) (by assumption)) (by simp))) (And.intro e3' (show 2 ≤ 2 from (by omega)))))))))))))))
theorem findR_F (n r : Int) (l : List It) (A : List Int) (b : ByteArray) (hl : l.length ≤ 1000) (h1 : ∀ k, k < l.length → ((l.getD k iD).1.toList == b.toList) = false) : CallsV Try.prog 20 [.ptr 0 0, bv b] (refH n r l A) (fun av H' => av = .tuple [keyZ, .bool false] ∧ H' = refD n r l A) := by
  refine callsG_at Try.func20 (by kernel_rfl) ?_
  have hL := fiL_F n r l A b hl h1
  unfold fiS refH at hL
  unfold refH refD
  have e1' := hL
  refine g_q [⟨3, [.sel [0, 1, 4, 6]], .loop (exOf e1') (endOf e1')⟩] [.sel [4, 5], .place [some 0, none, none, some 1, some 2, some 3] [false, false, false, true, true, false]] Exit.ret (stOf 36 [(4, AV.ptr 5 0), (5, AV.bool false)] [Blk.row 38 [AV.int .i64 n, AV.int .i64 r, AV.sl 3 0 l.length 3, AV.sl 4 0 A.length 1], Blk.dead, Blk.dead, Blk.row 74 (flatA (encR n) l), Blk.row 42 (flatA encA A), Blk.row 44 [AV.int .u32 (0 : Int), AV.int .i64 (0 : Int)]]) (And.intro e1' (And.intro (show 2 ≤ 2 from (by omega)) (And.intro (show ∀ (x : AV), x ∈ flatA (encR n) l → noid0 x = true from rts_noid n l) (show ∀ (x : AV), x ∈ flatA encA A → noid0 x = true from encA_noid A)))) ?_
  refine g_f [0, 1, 2, 3, 4] [false, false, false, true, true] (AV.tuple [AV.agg [AV.int .u32 (0 : Int), AV.int .i64 (0 : Int)], AV.bool false]) ([Blk.row 38 [AV.int .i64 n, AV.int .i64 r, AV.sl 3 0 l.length 3, AV.sl 4 0 A.length 1], Blk.dead, Blk.dead, Blk.row 74 (flatA (encR n) l), Blk.row 42 (flatA encA A)]) (And.intro (show 2 ≤ 2 from (by omega)) (And.intro (show ∀ (x : AV), x ∈ flatA (encR n) l → noid0 x = true from rts_noid n l) (show ∀ (x : AV), x ∈ flatA encA A → noid0 x = true from encA_noid A))) ?_
  exact ⟨rfl, rfl⟩
theorem findR_T (n r : Int) (l : List It) (A : List Int) (b : ByteArray) (hl : l.length ≤ 1000) (i : Nat) (hi : i < l.length) (h1 : ∀ k, k < i → ((l.getD k iD).1.toList == b.toList) = false) (h2 : (l.getD i iD).1 = b) : CallsV Try.prog 20 [.ptr 0 0, bv b] (refH n r l A) (fun av H' => av = .tuple [keyV n (l.getD i iD), .bool true] ∧ H' = refD n r l A) := by
  refine callsG_at Try.func20 (by kernel_rfl) ?_
  have hL := fiL_T n r l A b hl i hi h1 h2
  unfold fiS refH at hL
  unfold refH refD
  have e1' := hL
  refine g_q [⟨3, [.sel [0, 1, 4, 6]], .loop (exOf e1') (endOf e1')⟩] [.place [some 0, none, none, some 1, some 2, some 3] [false, false, false, true, true, false]] Exit.ret (stOf 36 [(4, AV.ptr 5 0), (5, AV.bool true)] [Blk.row 38 [AV.int .i64 n, AV.int .i64 r, AV.sl 3 0 l.length 3, AV.sl 4 0 A.length 1], Blk.dead, Blk.dead, Blk.row 74 (flatA (encR n) l), Blk.row 42 (flatA encA A), Blk.row 44 [AV.int .u32 (textF (l.getD i iD).fst n), AV.int .i64 (l.getD i iD).snd]]) (And.intro e1' (And.intro (show ∀ (x : AV), x ∈ flatA (encR n) l → noid0 x = true from rts_noid n l) (show ∀ (x : AV), x ∈ flatA encA A → noid0 x = true from encA_noid A))) ?_
  refine g_f [0, 1, 2, 3, 4] [false, false, false, true, true] (AV.tuple [AV.agg [AV.int .u32 (textF (l.getD i iD).fst n), AV.int .i64 (l.getD i iD).snd], AV.bool true]) ([Blk.row 38 [AV.int .i64 n, AV.int .i64 r, AV.sl 3 0 l.length 3, AV.sl 4 0 A.length 1], Blk.dead, Blk.dead, Blk.row 74 (flatA (encR n) l), Blk.row 42 (flatA encA A)]) (And.intro (show 2 ≤ 2 from (by omega)) (And.intro (show ∀ (x : AV), x ∈ flatA (encR n) l → noid0 x = true from rts_noid n l) (show ∀ (x : AV), x ∈ flatA encA A → noid0 x = true from encA_noid A))) ?_
  exact ⟨rfl, rfl⟩
def geS (n r : Int) (l : List It) (A : List Int) (d m : Int) (k : Nat) : St := stOf 31 [(0, .ptr 0 0), (3, .ptr 3 0), (6, .int .i64 (k : Int))] (refH n r l A ++ [kRow d m])
theorem geL_F (n r : Int) (l : List It) (A : List Int) (d m : Int) (hl : l.length ≤ 1000) (h1 : ∀ k, k < l.length → keyQ n (l.getD k iD) d m = false) : LoopG Try.prog 3 Try.f21 0 (.exit 0) (stOf 31 [] (refH n r l A)) (geS n r l A d m 0) := by
  refine loopG_of l.length (fun k => geS n r l A d m k) (by kernel_rfl) (by simp) ?_ ?_
  · intro k hk
    have h1 : (textF (l.getD k iD).1 n == d && (l.getD k iD).2 == m) = false := h1 k hk
    unfold geS refH
    have e1' := (drop_ag (o := 0) (n := 2) (v := AV.agg [AV.int .u32 (textF (l.getD k iD).fst n), AV.int .i64 (l.getD k iD).snd]) (rts_at n (l) (k) (by assumption)) rfl)
    have e2' := (congrArg (fun z => AV.int .i64 z) (wrap_i64 (e := (↑k : Int) + (1 : Int)) (by omega) (by omega)))
    exact g_x [⟨7, [], .br true .no⟩, ⟨15, [], .as (rhsOf e1')⟩, ⟨18, [], .br false .no⟩, ⟨20, [], .as (rhsOf e2')⟩] [.sel [0, 3, 6]] (And.intro (show 1 ≤ 2 from (by omega)) (And.intro (show decide ((↑k : Int) < (↑l.length : Int)) = true from (by rw [decide_eq_true_iff]; omega)) (And.intro (show 1 ≤ 2 from (by omega)) (And.intro (show (0 : Int) ≤ (↑k : Int) ∧ (↑k : Int) < (↑l.length : Int) from (by omega)) (And.intro (show 2 ≤ (List.drop (0 + (↑k : Int).toNat * 3 + 0) (flatA (encR n) l)).length from (drop_le (o := 0) (n := 2) (rts_at n (l) (k) (by assumption)) (by simp))) (And.intro e1' (And.intro (show 2 ≤ 2 from (by omega)) (And.intro (show (textF (l.getD k iD).fst n == d && ((l.getD k iD).snd == m && true)) = false from (by simp_all; done)) e2'))))))))
  · unfold geS refH
    exact g_x [⟨7, [], .br false .no⟩] [.sel [], .keep [0, 1, 2] [false, true, true]] (And.intro (show 1 ≤ 2 from (by omega)) (And.intro (show decide ((↑l.length : Int) < (↑l.length : Int)) = false from (by rw [decide_eq_false_iff_not]; omega)) (And.intro (show ∀ (x : AV), x ∈ flatA (encR n) l → noid0 x = true from rts_noid n l) (show ∀ (x : AV), x ∈ flatA encA A → noid0 x = true from encA_noid A))))
theorem getR_F (n r : Int) (l : List It) (A : List Int) (d m : Int) (hl : l.length ≤ 1000) (h1 : ∀ k, k < l.length → keyQ n (l.getD k iD) d m = false) : CallsV Try.prog 21 [.ptr 0 0, .agg [.int .u32 d, .int .i64 m]] (refH n r l A) (fun av H' => av = .tuple [.nilsl, .bool false] ∧ H' = refD n r l A) := by
  refine callsG_at Try.func21 (by kernel_rfl) ?_
  have hL := geL_F n r l A d m hl h1
  unfold geS refH at hL
  unfold refH refD
  have e1' := hL
  refine g_q [⟨4, [.sel [0, 3, 6]], .loop (exOf e1') (endOf e1')⟩] [.place [some 0, none, none, some 1, some 2] [false, false, false, true, true]] Exit.ret (stOf 31 [(4, AV.nilsl), (5, AV.bool false)] [Blk.row 38 [AV.int .i64 n, AV.int .i64 r, AV.sl 3 0 l.length 3, AV.sl 4 0 A.length 1], Blk.dead, Blk.dead, Blk.row 74 (flatA (encR n) l), Blk.row 42 (flatA encA A)]) (And.intro e1' (And.intro (show ∀ (x : AV), x ∈ flatA (encR n) l → noid0 x = true from rts_noid n l) (show ∀ (x : AV), x ∈ flatA encA A → noid0 x = true from encA_noid A))) ?_
  refine g_f [0, 1, 2, 3, 4] [false, false, false, true, true] (AV.tuple [AV.nilsl, AV.bool false]) ([Blk.row 38 [AV.int .i64 n, AV.int .i64 r, AV.sl 3 0 l.length 3, AV.sl 4 0 A.length 1], Blk.dead, Blk.dead, Blk.row 74 (flatA (encR n) l), Blk.row 42 (flatA encA A)]) (And.intro (show ∀ (x : AV), x ∈ flatA (encR n) l → noid0 x = true from rts_noid n l) (show ∀ (x : AV), x ∈ flatA encA A → noid0 x = true from encA_noid A)) ?_
  exact ⟨rfl, rfl⟩
theorem geL_T (n r : Int) (l : List It) (A : List Int) (d m : Int) (hl : l.length ≤ 1000) (i : Nat) (hi : i < l.length) (hs : (l.getD i iD).1.size ≤ 1000000) (h1 : ∀ k, k < i → keyQ n (l.getD k iD) d m = false) (h2 : keyQ n (l.getD i iD) d m = true) : LoopG Try.prog 3 Try.f21 0 .ret (stOf 31 [(4, bv (l.getD i iD).1), (5, .bool true)] (refD n r (l.eraseIdx i ++ [l.getD i iD]) A)) (geS n r l A d m 0) := by
  refine loopG_of i (fun k => geS n r l A d m k) (by kernel_rfl) (by simp) ?_ ?_
  · intro k hk
    have h1 : (textF (l.getD k iD).1 n == d && (l.getD k iD).2 == m) = false := h1 k hk
    have hk : k < l.length := by omega
    unfold geS refH
    have e1' := (drop_ag (o := 0) (n := 2) (v := AV.agg [AV.int .u32 (textF (l.getD k iD).fst n), AV.int .i64 (l.getD k iD).snd]) (rts_at n (l) (k) (by assumption)) rfl)
    have e2' := (congrArg (fun z => AV.int .i64 z) (wrap_i64 (e := (↑k : Int) + (1 : Int)) (by omega) (by omega)))
    exact g_x [⟨7, [], .br true .no⟩, ⟨15, [], .as (rhsOf e1')⟩, ⟨18, [], .br false .no⟩, ⟨20, [], .as (rhsOf e2')⟩] [.sel [0, 3, 6]] (And.intro (show 1 ≤ 2 from (by omega)) (And.intro (show decide ((↑k : Int) < (↑l.length : Int)) = true from (by rw [decide_eq_true_iff]; omega)) (And.intro (show 1 ≤ 2 from (by omega)) (And.intro (show (0 : Int) ≤ (↑k : Int) ∧ (↑k : Int) < (↑l.length : Int) from (by omega)) (And.intro (show 2 ≤ (List.drop (0 + (↑k : Int).toNat * 3 + 0) (flatA (encR n) l)).length from (drop_le (o := 0) (n := 2) (rts_at n (l) (k) (by assumption)) (by simp))) (And.intro e1' (And.intro (show 2 ≤ 2 from (by omega)) (And.intro (show (textF (l.getD k iD).fst n == d && ((l.getD k iD).snd == m && true)) = false from (by simp_all; done)) e2'))))))))
  · have h2 : (textF (l.getD i iD).1 n == d && (l.getD i iD).2 == m) = true := h2
    have hu := useR n r l A hl i hi
    have hmx : (l.getD i iD).1.size ≤ maxLen := by unfold maxLen; omega
    unfold refH at hu
    unfold geS refH
    unfold refD at hu ⊢
    have e1' := (drop_ag (o := 0) (n := 2) (v := AV.agg [AV.int .u32 (textF (l.getD i iD).fst n), AV.int .i64 (l.getD i iD).snd]) (rts_at n (l) (i) (by assumption)) rfl)
    have e2' := hu
    exact g_x [⟨7, [], .br true .no⟩, ⟨15, [], .as (rhsOf e1')⟩, ⟨18, [], .br true .no⟩, ⟨21, [], .callS [0, 1, 2] [false, true, true] (avOf e2') (blOf e2') [false, false, false, true, true]⟩] [.sel [4, 5], .keep [0, 1, 2, 4, 5] [false, false, false, true, true]] (And.intro (show 1 ≤ 2 from (by omega)) (And.intro (show decide ((↑i : Int) < (↑l.length : Int)) = true from (by rw [decide_eq_true_iff]; omega)) (And.intro (show 1 ≤ 2 from (by omega)) (And.intro (show (0 : Int) ≤ (↑i : Int) ∧ (↑i : Int) < (↑l.length : Int) from (by omega)) (And.intro (show 2 ≤ (List.drop (0 + (↑i : Int).toNat * 3 + 0) (flatA (encR n) l)).length from (drop_le (o := 0) (n := 2) (rts_at n (l) (i) (by assumption)) (by simp))) (And.intro e1' (And.intro (show 2 ≤ 2 from (by omega)) (And.intro (show (textF (l.getD i iD).fst n == d && ((l.getD i iD).snd == m && true)) = true from (by simp_all; done)) (And.intro (show ∀ (x : AV), x ∈ flatA (encR n) l → noid0 x = true from rts_noid n l) (And.intro (show ∀ (x : AV), x ∈ flatA encA A → noid0 x = true from encA_noid A) (And.intro (show ∀ (x : AV), x ∈ flatA (encR n) (l.eraseIdx i ++ [l.getD i iD]) → noid0 x = true from rts_noid n (l.eraseIdx i ++ [l.getD i iD])) (And.intro (show ∀ (x : AV), x ∈ flatA encA A → noid0 x = true from encA_noid A) (And.intro e2' (And.intro (show 2 < 3 from (by omega)) (And.intro (show (l.getD i iD).fst.size ≤ maxLen from (by omega)) (And.intro (show ∀ (x : AV), x ∈ flatA (encR n) (l.eraseIdx i ++ [l.getD i iD]) → noid0 x = true from rts_noid n (l.eraseIdx i ++ [l.getD i iD])) (show ∀ (x : AV), x ∈ flatA encA A → noid0 x = true from encA_noid A)))))))))))))))))
theorem getR_T (n r : Int) (l : List It) (A : List Int) (d m : Int) (hl : l.length ≤ 1000) (i : Nat) (hi : i < l.length) (hs : (l.getD i iD).1.size ≤ 1000000) (h1 : ∀ k, k < i → keyQ n (l.getD k iD) d m = false) (h2 : keyQ n (l.getD i iD) d m = true) : CallsV Try.prog 21 [.ptr 0 0, .agg [.int .u32 d, .int .i64 m]] (refH n r l A) (fun av H' => av = .tuple [bv (l.getD i iD).1, .bool true] ∧ H' = refD n r (l.eraseIdx i ++ [l.getD i iD]) A) := by
  refine callsG_at Try.func21 (by kernel_rfl) ?_
  have hL := geL_T n r l A d m hl i hi hs h1 h2
  unfold geS refH at hL
  unfold refH
  unfold refD at hL ⊢
  have e1' := hL
  refine g_q [⟨4, [.sel [0, 3, 6]], .loop (exOf e1') (endOf e1')⟩] [] Exit.ret (stOf 31 [(4, AV.slv (l.getD i iD).fst.size 1 (bytesAV (l.getD i iD).fst)), (5, AV.bool true)] [Blk.row 38 [AV.int .i64 n, AV.int .i64 r, AV.sl 3 0 (l.eraseIdx i ++ [l.getD i iD]).length 3, AV.sl 4 0 A.length 1], Blk.dead, Blk.dead, Blk.row 74 (flatA (encR n) (l.eraseIdx i ++ [l.getD i iD])), Blk.row 42 (flatA encA A)]) e1' ?_
  refine g_f [0, 1, 2, 3, 4] [false, false, false, true, true] (AV.tuple [AV.slv (l.getD i iD).fst.size 1 (bytesAV (l.getD i iD).fst), AV.bool true]) ([Blk.row 38 [AV.int .i64 n, AV.int .i64 r, AV.sl 3 0 (l.eraseIdx i ++ [l.getD i iD]).length 3, AV.sl 4 0 A.length 1], Blk.dead, Blk.dead, Blk.row 74 (flatA (encR n) (l.eraseIdx i ++ [l.getD i iD])), Blk.row 42 (flatA encA A)]) (And.intro (show ∀ (x : AV), x ∈ flatA (encR n) (l.eraseIdx i ++ [l.getD i iD]) → noid0 x = true from rts_noid n (l.eraseIdx i ++ [l.getD i iD])) (show ∀ (x : AV), x ∈ flatA encA A → noid0 x = true from encA_noid A)) ?_
  exact ⟨rfl, rfl⟩
end Go.Proofs.Ytkdgnjoofhckeaa
