/-
  Caches: more laws.
-/
import Derived.Test.YtcmbhebgpboepaaGe
namespace Go.Proofs.Ytcmbhebgpboepaa
open Go Go.RowKit V
set_option linter.unusedSimpArgs false
set_option linter.unusedVariables false
set_option maxHeartbeats 20000000
theorem lenZ_n  : CallsV Try.prog 12 [.nilptr] [] (fun av H' => av = .int .i64 0 ∧ H' = []) := by
  refine callsG_at Try.func12 (by kernel_rfl) ?_
  refine g_q [] [.sel [2]] Exit.ret (stOf 10 [(2, AV.int .i64 (0 : Int))] []) trivial ?_
  refine g_f [] [] (AV.int .i64 (0 : Int)) ([]) trivial ?_
  exact ⟨rfl, rfl⟩
theorem lenZ_z  : CallsV Try.prog 12 [.ptr 0 0] [.row 40 [.int .i64 0, .int .i64 0, .nilsl]] (fun av H' => av = .int .i64 0 ∧ H' = [.row 40 [.int .i64 0, .int .i64 0, .nilsl]]) := by
  refine callsG_at Try.func12 (by kernel_rfl) ?_
  refine g_q [] [.sel [2]] Exit.ret (stOf 10 [(2, AV.int .i64 (0 : Int))] [Blk.row 40 [AV.int .i64 (0 : Int), AV.int .i64 (0 : Int), AV.nilsl]]) (show 1 ≤ 1 from (by omega)) ?_
  refine g_f [0] [false] (AV.int .i64 (0 : Int)) ([Blk.row 40 [AV.int .i64 (0 : Int), AV.int .i64 (0 : Int), AV.nilsl]]) trivial ?_
  exact ⟨rfl, rfl⟩
theorem putZ_n (k : ByteArray) : CallsV Try.prog 14 [.nilptr, .str k, .agg (obV 1)] [] (fun av H' => av = .tuple [] ∧ H' = []) := by
  refine callsG_at Try.func14 (by kernel_rfl) ?_
  refine g_q [] [.sel []] Exit.ret (stOf 48 [] [Blk.row 49 [AV.str sM, AV.slv 1 3 [AV.str sF, AV.nilsl, AV.int .i64 (2 : Int)], AV.slv 1 5 [AV.str sMF, AV.nilsl, AV.int .i64 (2 : Int), AV.nilsl, AV.slv 2 2 [AV.int .i64 (1 : Int), AV.int .i64 (1 : Int), AV.int .i64 (16 : Int), AV.int .i64 (0 : Int)]], AV.slv 1 1 [AV.str sMF]]]) (show true = false → false = true from (by decide)) ?_
  refine g_f [] [] (AV.tuple []) ([]) trivial ?_
  exact ⟨rfl, rfl⟩
theorem putZ_z (k : ByteArray) : CallsV Try.prog 14 [.ptr 0 0, .str k, .agg (obV 1)] [.row 40 [.int .i64 0, .int .i64 0, .nilsl]] (fun av H' => av = .tuple [] ∧ H' = [.row 40 [.int .i64 0, .int .i64 0, .nilsl]]) := by
  refine callsG_at Try.func14 (by kernel_rfl) ?_
  refine g_q [] [.sel []] Exit.ret (stOf 48 [] [Blk.row 40 [AV.int .i64 (0 : Int), AV.int .i64 (0 : Int), AV.nilsl], Blk.row 49 [AV.str sM, AV.slv 1 3 [AV.str sF, AV.nilsl, AV.int .i64 (2 : Int)], AV.slv 1 5 [AV.str sMF, AV.nilsl, AV.int .i64 (2 : Int), AV.nilsl, AV.slv 2 2 [AV.int .i64 (1 : Int), AV.int .i64 (1 : Int), AV.int .i64 (16 : Int), AV.int .i64 (0 : Int)]], AV.slv 1 1 [AV.str sMF]]]) (show 1 ≤ 2 from (by omega)) ?_
  refine g_f [0] [false] (AV.tuple []) ([Blk.row 40 [AV.int .i64 (0 : Int), AV.int .i64 (0 : Int), AV.nilsl]]) trivial ?_
  exact ⟨rfl, rfl⟩
theorem getZ_n (k : ByteArray) : CallsV Try.prog 16 [.nilptr, .str k] [] (fun av H' => av = .tuple [.agg [.str ByteArray.empty, .nilsl, .nilsl, .nilsl], .bool false] ∧ H' = []) := by
  refine callsG_at Try.func16 (by kernel_rfl) ?_
  have e1' := lenZ_n
  refine g_q [⟨3, [], .call (avOf e1') (blOf e1') []⟩] [.sel [4, 5]] Exit.ret (stOf 34 [(4, AV.ptr 0 0), (5, AV.bool false)] [Blk.row 49 [AV.str (ByteArray.mk #[]), AV.nilsl, AV.nilsl, AV.nilsl]]) (And.intro e1' (show 4 ≤ 4 from (by omega))) ?_
  refine g_f [] [] (AV.tuple [AV.agg [AV.str (ByteArray.mk #[]), AV.nilsl, AV.nilsl, AV.nilsl], AV.bool false]) ([]) (show 4 ≤ 4 from (by omega)) ?_
  exact ⟨rfl, rfl⟩
theorem getZ_z (k : ByteArray) : CallsV Try.prog 16 [.ptr 0 0, .str k] [.row 40 [.int .i64 0, .int .i64 0, .nilsl]] (fun av H' => av = .tuple [.agg [.str ByteArray.empty, .nilsl, .nilsl, .nilsl], .bool false] ∧ H' = [.row 40 [.int .i64 0, .int .i64 0, .nilsl]]) := by
  refine callsG_at Try.func16 (by kernel_rfl) ?_
  have e1' := lenZ_z
  refine g_q [⟨3, [], .callS [0] [false] (avOf e1') (blOf e1') [false]⟩] [.sel [4, 5]] Exit.ret (stOf 34 [(4, AV.ptr 1 0), (5, AV.bool false)] [Blk.row 40 [AV.int .i64 (0 : Int), AV.int .i64 (0 : Int), AV.nilsl], Blk.row 49 [AV.str (ByteArray.mk #[]), AV.nilsl, AV.nilsl, AV.nilsl]]) (And.intro e1' (show 4 ≤ 4 from (by omega))) ?_
  refine g_f [0] [false] (AV.tuple [AV.agg [AV.str (ByteArray.mk #[]), AV.nilsl, AV.nilsl, AV.nilsl], AV.bool false]) ([Blk.row 40 [AV.int .i64 (0 : Int), AV.int .i64 (0 : Int), AV.nilsl]]) (show 4 ≤ 4 from (by omega)) ?_
  exact ⟨rfl, rfl⟩
theorem ev_min0 (m : Int) : (if (0 : Int) < if (0 : Int) > m then (0 : Int) else m then (0 : Int) else if (0 : Int) > m then (0 : Int) else m) = 0 := by
  split <;> split at * <;> omega
theorem evZ_n (m : Int) : CallsV Try.prog 17 [.nilptr, .int .i64 m] [] (fun av H' => av = .int .i64 0 ∧ H' = []) := by
  refine callsG_at Try.func17 (by kernel_rfl) ?_
  have e1' := lenZ_n
  have e2' := (congrArg (fun z => AV.int .i64 z) (ev_min0 m))
  refine g_q [⟨4, [], .call (avOf e1') (blOf e1') []⟩, ⟨5, [], .as (rhsOf e2')⟩] [.sel [4]] Exit.ret (stOf 22 [(4, AV.int .i64 (0 : Int))] []) (And.intro e1' e2') ?_
  refine g_f [] [] (AV.int .i64 (0 : Int)) ([]) trivial ?_
  exact ⟨rfl, rfl⟩
theorem evZ_z (m : Int) : CallsV Try.prog 17 [.ptr 0 0, .int .i64 m] [.row 40 [.int .i64 0, .int .i64 0, .nilsl]] (fun av H' => av = .int .i64 0 ∧ H' = [.row 40 [.int .i64 0, .int .i64 0, .nilsl]]) := by
  refine callsG_at Try.func17 (by kernel_rfl) ?_
  have e1' := lenZ_z
  have e2' := (congrArg (fun z => AV.int .i64 z) (ev_min0 m))
  refine g_q [⟨4, [], .callS [0] [false] (avOf e1') (blOf e1') [false]⟩, ⟨5, [], .as (rhsOf e2')⟩] [.sel [4]] Exit.ret (stOf 22 [(4, AV.int .i64 (0 : Int))] [Blk.row 40 [AV.int .i64 (0 : Int), AV.int .i64 (0 : Int), AV.nilsl]]) (And.intro e1' e2') ?_
  refine g_f [0] [false] (AV.int .i64 (0 : Int)) ([Blk.row 40 [AV.int .i64 (0 : Int), AV.int .i64 (0 : Int), AV.nilsl]]) trivial ?_
  exact ⟨rfl, rfl⟩
theorem forkZ : CallsV Try.prog 18 [.nilptr] [] (fun av H' => av = .nilptr ∧ H' = []) := by
  refine callsG_at Try.func18 (by kernel_rfl) ?_
  refine g_q [] [.sel [2]] Exit.ret (stOf 20 [(2, AV.nilptr)] []) trivial ?_
  refine g_f [] [] (AV.nilptr) ([]) trivial ?_
  exact ⟨rfl, rfl⟩
theorem new_law (b r m : Int) (k : ByteArray) (hk : k.size ≤ maxLen) : CallsV Try.prog 4 [.int .i64 b, .int .i64 r, .str k, .int .i64 m] [] (fun av H' => av = .bool true ∧ H' = []) := by
  refine callsG_at Try.func4 (by kernel_rfl) ?_
  have unroll := trivial
  by_cases h : (1 ≤ b ∧ b ≤ 32) ∧ (0 ≤ r ∧ r ≤ 32)
  · have c1 := new_v b r h.1 h.2
    have c2 := newR b r h.1 h.2
    unfold cacheH at c1
    unfold refH at c2
    refine g_split (decide ((↑k.size : Int) > (200 : Int))) (fun hq1 => ?_) (fun hq1 => ?_)
    · (have gq1 := of_decide_eq_true hq1)
      have e1' := awake_v
      refine g_q [⟨4, [], .br true .no⟩, ⟨5, [], .call (avOf e1') (blOf e1') []⟩] [.sel [8]] Exit.ret (stOf 88 [(8, AV.bool true)] []) (And.intro (show decide ((↑k.size : Int) > (200 : Int)) = true from (by assumption)) e1') ?_
      refine g_f [] [] (AV.bool true) ([]) trivial ?_
      exact ⟨rfl, rfl⟩
    · (have gq1 := of_decide_eq_false hq1)
      have e2' := c1
      have e3' := c2
      have e4' := obj_v 1
      have e5' := (putZ_n (k))
      have e6' := (getZ_n (k))
      have e7' := lenZ_n
      have e8' := (evZ_n (m))
      have e9' := (putZ_z (k))
      have e10' := (getZ_z (k))
      have e11' := lenZ_z
      have e12' := (evZ_z (m))
      have e1' := awake_v
      have e13' := forkZ
      refine g_q [⟨4, [], .br false .no⟩, ⟨7, [], .call (avOf e2') (blOf e2') [false, false]⟩, ⟨15, [], .call (avOf e3') (blOf e3') [false, false]⟩, ⟨47, [], .call (avOf e4') (blOf e4') []⟩, ⟨48, [], .call (avOf e5') (blOf e5') []⟩, ⟨51, [], .call (avOf e6') (blOf e6') []⟩, ⟨67, [], .call (avOf e7') (blOf e7') []⟩, ⟨73, [], .call (avOf e8') (blOf e8') []⟩, ⟨87, [], .call (avOf e4') (blOf e4') []⟩, ⟨88, [], .callS [4] [false] (avOf e9') (blOf e9') [false]⟩, ⟨91, [], .callS [4] [false] (avOf e10') (blOf e10') [false]⟩, ⟨107, [], .callS [4] [false] (avOf e11') (blOf e11') [false]⟩, ⟨113, [], .callS [4] [false] (avOf e12') (blOf e12') [false]⟩, ⟨122, [], .call (avOf e1') (blOf e1') []⟩, ⟨125, [], .call (avOf e13') (blOf e13') []⟩] [.sel [8]] Exit.ret (stOf 88 [(8, AV.bool true)] [Blk.row 40 [AV.int .i64 b, AV.int .i64 r, AV.sl 1 0 0 6], Blk.row 73 [], Blk.row 35 [AV.int .i64 r, AV.sl 3 0 0 5], Blk.row 89 [], Blk.row 40 [AV.int .i64 (0 : Int), AV.int .i64 (0 : Int), AV.nilsl], Blk.row 23 [AV.nilptr, AV.ptr 4 0], Blk.row 49 [AV.str ByteArray.empty, AV.nilsl, AV.nilsl, AV.nilsl], Blk.row 49 [AV.str ByteArray.empty, AV.nilsl, AV.nilsl, AV.nilsl]]) (And.intro (show decide ((↑k.size : Int) > (200 : Int)) = false from (by assumption)) (And.intro e2' (And.intro e3' (And.intro (show (0 : Int) ≤ (0 : Int) ∧ (0 : Int) < (↑2 : Int) from (by omega)) (And.intro (show 1 ≤ 2 from (by omega)) (And.intro e4' (And.intro e5' (And.intro e6' (And.intro (show 4 ≤ 4 from (by omega)) (And.intro (show 1 ≤ 2 from (by omega)) (And.intro e7' (And.intro e8' (And.intro (show (0 : Int) ≤ (1 : Int) ∧ (1 : Int) < (↑2 : Int) from (by omega)) (And.intro (show 1 ≤ 1 from (by omega)) (And.intro e4' (And.intro e9' (And.intro e10' (And.intro (show 4 ≤ 4 from (by omega)) (And.intro (show 1 ≤ 2 from (by omega)) (And.intro e11' (And.intro e12' (And.intro e1' e13')))))))))))))))))))))) ?_
      refine g_f [] [] (AV.bool true) ([]) trivial ?_
      exact ⟨rfl, rfl⟩
  · have c1 := new_no b r (by omega)
    have c2 := newR_no b r (by omega)
    refine g_split (decide ((↑k.size : Int) > (200 : Int))) (fun hq1 => ?_) (fun hq1 => ?_)
    · (have gq1 := of_decide_eq_true hq1)
      have e1' := awake_v
      refine g_q [⟨4, [], .br true .no⟩, ⟨5, [], .call (avOf e1') (blOf e1') []⟩] [.sel [8]] Exit.ret (stOf 88 [(8, AV.bool true)] []) (And.intro (show decide ((↑k.size : Int) > (200 : Int)) = true from (by assumption)) e1') ?_
      refine g_f [] [] (AV.bool true) ([]) trivial ?_
      exact ⟨rfl, rfl⟩
    · (have gq1 := of_decide_eq_false hq1)
      have e2' := c1
      have e3' := c2
      have e4' := obj_v 1
      have e5' := (putZ_n (k))
      have e6' := (getZ_n (k))
      have e7' := lenZ_n
      have e8' := (evZ_n (m))
      have e9' := (putZ_z (k))
      have e10' := (getZ_z (k))
      have e11' := lenZ_z
      have e12' := (evZ_z (m))
      have e1' := awake_v
      have e13' := forkZ
      refine g_q [⟨4, [], .br false .no⟩, ⟨7, [], .call (avOf e2') (blOf e2') []⟩, ⟨15, [], .call (avOf e3') (blOf e3') []⟩, ⟨47, [], .call (avOf e4') (blOf e4') []⟩, ⟨48, [], .call (avOf e5') (blOf e5') []⟩, ⟨51, [], .call (avOf e6') (blOf e6') []⟩, ⟨67, [], .call (avOf e7') (blOf e7') []⟩, ⟨73, [], .call (avOf e8') (blOf e8') []⟩, ⟨87, [], .call (avOf e4') (blOf e4') []⟩, ⟨88, [], .callS [0] [false] (avOf e9') (blOf e9') [false]⟩, ⟨91, [], .callS [0] [false] (avOf e10') (blOf e10') [false]⟩, ⟨107, [], .callS [0] [false] (avOf e11') (blOf e11') [false]⟩, ⟨113, [], .callS [0] [false] (avOf e12') (blOf e12') [false]⟩, ⟨122, [], .call (avOf e1') (blOf e1') []⟩, ⟨125, [], .call (avOf e13') (blOf e13') []⟩] [.sel [8]] Exit.ret (stOf 88 [(8, AV.bool true)] [Blk.row 40 [AV.int .i64 (0 : Int), AV.int .i64 (0 : Int), AV.nilsl], Blk.row 23 [AV.nilptr, AV.ptr 0 0], Blk.row 49 [AV.str ByteArray.empty, AV.nilsl, AV.nilsl, AV.nilsl], Blk.row 49 [AV.str ByteArray.empty, AV.nilsl, AV.nilsl, AV.nilsl]]) (And.intro (show decide ((↑k.size : Int) > (200 : Int)) = false from (by assumption)) (And.intro e2' (And.intro e3' (And.intro (show (0 : Int) ≤ (0 : Int) ∧ (0 : Int) < (↑2 : Int) from (by omega)) (And.intro (show 1 ≤ 2 from (by omega)) (And.intro e4' (And.intro e5' (And.intro e6' (And.intro (show 4 ≤ 4 from (by omega)) (And.intro (show 1 ≤ 2 from (by omega)) (And.intro e7' (And.intro e8' (And.intro (show (0 : Int) ≤ (1 : Int) ∧ (1 : Int) < (↑2 : Int) from (by omega)) (And.intro (show 1 ≤ 1 from (by omega)) (And.intro e4' (And.intro e9' (And.intro e10' (And.intro (show 4 ≤ 4 from (by omega)) (And.intro (show 1 ≤ 2 from (by omega)) (And.intro e11' (And.intro e12' (And.intro e1' e13')))))))))))))))))))))) ?_
      refine g_f [] [] (AV.bool true) ([]) trivial ?_
      exact ⟨rfl, rfl⟩
theorem clone_r (k : Int) : CallsV Try.prog 27 [.agg (obV k)] [] (fun av H' => av = .agg [.str sM, .sl 0 0 1 3, .sl 1 0 1 5, .sl 2 0 1 1] ∧ H' = [.row 63 [.str sF, .nilsl, .int .i64 (resO k)], .row 66 [.str sMF, .nilsl, .int .i64 (resO k), .nilsl, .sl 3 0 2 2], .row 9 [.str sMF], .row 68 [.int .i64 1, .int .i64 (IntKind.i64.wrap k), .int .i64 16, .int .i64 0]]) := by
  refine callsG_at Try.func27 (by kernel_rfl) ?_
  have unroll := trivial
  have c1 := cloStr [.str sMF] (by simp [noid0])
  have e1' := c1
  have e2' := cloNil
  have e3' := cloIns k
  refine g_qB [⟨8, [.flags [false, false] false], .call (avOf e1') (blOf e1') [false]⟩, ⟨10, [.flags [false, false] false], .no⟩, ⟨26, [], .call (avOf e2') (blOf e2') []⟩, ⟨56, [], .call (avOf e2') (blOf e2') []⟩, ⟨59, [], .call (avOf e2') (blOf e2') []⟩, ⟨62, [], .call (avOf e3') (blOf e3') [false]⟩] [.sel [2]] Exit.ret (stOf 64 [(2, AV.ptr 1 0)] [Blk.row 49 [AV.str sM, AV.slv 1 3 [AV.str sF, AV.nilsl, AV.int .i64 (resO k)], AV.slv 1 5 [AV.str sMF, AV.nilsl, AV.int .i64 (resO k), AV.nilsl, AV.slv 2 2 [AV.int .i64 (1 : Int), AV.int .i64 (IntKind.i64.wrap k), AV.int .i64 (16 : Int), AV.int .i64 (0 : Int)]], AV.slv 1 1 [AV.str sMF]], Blk.row 49 [AV.str sM, AV.sl 6 0 1 3, AV.sl 10 0 1 5, AV.sl 2 0 1 1], Blk.row 9 [AV.str sMF], Blk.row 49 [AV.str sM, AV.sl 6 0 1 3, AV.sl 10 0 1 5, AV.sl 2 0 1 1], Blk.row 63 [AV.str sF, AV.nilsl, AV.int .i64 (resO k)], Blk.row 63 [AV.str sF, AV.nilsl, AV.int .i64 (resO k)], Blk.row 63 [AV.str sF, AV.nilsl, AV.int .i64 (resO k)], Blk.row 66 [AV.str sMF, AV.nilsl, AV.int .i64 (resO k), AV.nilsl, AV.sl 8 0 2 2], Blk.row 68 [AV.int .i64 (1 : Int), AV.int .i64 (IntKind.i64.wrap k), AV.int .i64 (16 : Int), AV.int .i64 (0 : Int)], Blk.row 66 [AV.str sMF, AV.nilsl, AV.int .i64 (resO k), AV.nilsl, AV.sl 8 0 2 2], Blk.row 66 [AV.str sMF, AV.nilsl, AV.int .i64 (resO k), AV.nilsl, AV.sl 8 0 2 2]]) (And.intro (show 1 ≤ 4 from (by omega)) (And.intro (show 1 ≤ 1 from (by omega)) (And.intro e1' (And.intro e1' (And.intro (show 4 ≤ 4 from (by omega)) (And.intro (show 1 ≤ 3 from (by omega)) (And.intro (show (0 : Int) ≤ (0 : Int) ∧ (0 : Int) < (↑1 : Int) from (by omega)) (And.intro (show 3 ≤ 3 from (by omega)) (And.intro (show 3 ≤ 3 from (by omega)) (And.intro (show 1 ≤ 2 from (by omega)) (And.intro e2' (And.intro (show 2 ≤ 3 from (by omega)) (And.intro (show 1 ≤ 3 from (by omega)) (And.intro (show 3 ≤ 3 from (by omega)) (And.intro (show 3 ≤ 3 from (by omega)) (And.intro (show 48 ≤ 140737488355328 from (by omega)) (And.intro (show 1 ≤ maxLen from (by (unfold maxLen; omega))) (And.intro (show 2 ≤ 4 from (by omega)) (And.intro (show 1 ≤ 2 from (by omega)) (And.intro (show (0 : Int) ≤ (0 : Int) ∧ (0 : Int) < (↑1 : Int) from (by omega)) (And.intro (show 5 ≤ 5 from (by omega)) (And.intro (show 5 ≤ 5 from (by omega)) (And.intro (show 1 ≤ 4 from (by omega)) (And.intro (show 1 ≤ 2 from (by omega)) (And.intro (show 1 ≤ 1 from (by omega)) (And.intro e2' (And.intro e2' (And.intro e3' (And.intro (show 2 ≤ 5 from (by omega)) (And.intro (show 4 ≤ 5 from (by omega)) (And.intro (show 5 ≤ 5 from (by omega)) (And.intro (show 1 ≤ 2 from (by omega)) (And.intro (show 5 ≤ 5 from (by omega)) (And.intro (show 5 ≤ 5 from (by omega)) (And.intro (show 96 ≤ 140737488355328 from (by omega)) (And.intro (show 1 ≤ maxLen from (by (unfold maxLen; omega))) (And.intro (show 3 ≤ 4 from (by omega)) (And.intro (show 4 ≤ 4 from (by omega)) (show 4 ≤ 4 from (by omega)))))))))))))))))))))))))))))))))))))))) ?_
  refine g_f [6, 10, 2, 8] [false, false, false, false] (AV.agg [AV.str sM, AV.sl 0 0 1 3, AV.sl 1 0 1 5, AV.sl 2 0 1 1]) ([Blk.row 63 [AV.str sF, AV.nilsl, AV.int .i64 (resO k)], Blk.row 66 [AV.str sMF, AV.nilsl, AV.int .i64 (resO k), AV.nilsl, AV.sl 3 0 2 2], Blk.row 9 [AV.str sMF], Blk.row 68 [AV.int .i64 (1 : Int), AV.int .i64 (IntKind.i64.wrap k), AV.int .i64 (16 : Int), AV.int .i64 (0 : Int)]]) (show 4 ≤ 4 from (by omega)) ?_
  exact ⟨rfl, rfl⟩
def ownB (k : Int) (e : Blk) : List Blk := [.row 63 [.str sF, .nilsl, .int .i64 (resO k)], .row 66 [.str sMF, .nilsl, .int .i64 (resO k), .nilsl, .sl 5 0 2 2], .row 9 [.str sMF], e, .row 68 [.int .i64 1, .int .i64 (IntKind.i64.wrap k), .int .i64 16, .int .i64 0]]
theorem put_own (k : Int) : CallsV Try.prog 14 [.ptr 0 0, .str sA, .agg [.str sM, .sl 1 0 1 3, .sl 2 0 1 5, .sl 3 0 1 1]] (.row 40 [.int .i64 8, .int .i64 2, .sl 4 0 0 6] :: ownB k (.row 73 [])) (fun av H' => av = .tuple [] ∧ H' = .row 40 [.int .i64 8, .int .i64 2, .sl 6 0 1 6] :: (ownB k .dead ++ [.row 73 (flatA (encE 8) [(sA, k)]), .dead, .dead, .dead, .dead])) := by
  refine CallsV.post (R := fun av H' => av = .tuple [] ∧ H' = .row 40 [.int .i64 8, .int .i64 2, .sl 6 0 1 6] :: (ownB k .dead ++ [.row 73 [.int .u32 (textF sA 8), .str sA, .str sM, .sl 7 0 1 3, .sl 8 0 1 5, .sl 9 0 1 1], .row 63 [.str sF, .nilsl, .int .i64 (resO k)], .row 66 [.str sMF, .nilsl, .int .i64 (resO k), .nilsl, .sl 10 0 2 2], .row 9 [.str sMF], .row 68 [.int .i64 1, .int .i64 (IntKind.i64.wrap k), .int .i64 16, .int .i64 0]])) ?_ ?_
  · refine callsG_at Try.func14 (by kernel_rfl) ?_
    have h3 := take_F 8 2 [] sA (by decide) (by decide) (fun k hk => absurd hk (by simp))
    unfold cacheH at h3
    unfold ownB
    have e1' := h3
    have e2' := (show Reads [Blk.row 40 [AV.int .i64 (8 : Int), AV.int .i64 (2 : Int), AV.sl 4 0 0 6], Blk.row 63 [AV.str sF, AV.nilsl, AV.int .i64 (resO k)], Blk.row 66 [AV.str sMF, AV.nilsl, AV.int .i64 (resO k), AV.nilsl, AV.sl 5 0 2 2], Blk.row 9 [AV.str sMF], Blk.row 73 [], Blk.row 68 [AV.int .i64 (1 : Int), AV.int .i64 (IntKind.i64.wrap k), AV.int .i64 (16 : Int), AV.int .i64 (0 : Int)], Blk.row 49 [AV.str sM, AV.sl 1 0 1 3, AV.sl 2 0 1 5, AV.sl 3 0 1 1], Blk.row 73 [AV.int .u32 (32 : Int), AV.str sA, AV.str ByteArray.empty, AV.nilsl, AV.nilsl, AV.nilsl]] [AV.agg [AV.str sM, AV.sl 1 0 1 3, AV.sl 2 0 1 5, AV.sl 3 0 1 1]] [AV.agg [AV.str sM, AV.slv 1 3 [AV.str sF, AV.nilsl, AV.int .i64 (resO k)], AV.slv 1 5 [AV.str sMF, AV.nilsl, AV.int .i64 (resO k), AV.nilsl, AV.slv 2 2 [AV.int .i64 (1 : Int), AV.int .i64 (IntKind.i64.wrap k), AV.int .i64 (16 : Int), AV.int .i64 (0 : Int)]], AV.slv 1 1 [AV.str sMF]]] from (Reads.cons (Reads1.val (by kernel_rfl)) Reads.nil))
    have e3' := clone_r k
    refine g_q [⟨13, [], .callS [0, 4] [false, false] (avOf e1') (blOf e1') [false, false]⟩, ⟨32, [], .lend (rdOf e2') (avOf e3') (blOf e3') [false, false, false, false]⟩] [.sel []] Exit.normal (stOf 48 [] [Blk.row 40 [AV.int .i64 (8 : Int), AV.int .i64 (2 : Int), AV.sl 13 0 1 6], Blk.row 63 [AV.str sF, AV.nilsl, AV.int .i64 (resO k)], Blk.row 66 [AV.str sMF, AV.nilsl, AV.int .i64 (resO k), AV.nilsl, AV.sl 5 0 2 2], Blk.row 9 [AV.str sMF], Blk.dead, Blk.row 68 [AV.int .i64 (1 : Int), AV.int .i64 (IntKind.i64.wrap k), AV.int .i64 (16 : Int), AV.int .i64 (0 : Int)], Blk.row 49 [AV.str sM, AV.sl 1 0 1 3, AV.sl 2 0 1 5, AV.sl 3 0 1 1], Blk.row 73 [AV.int .u32 (32 : Int), AV.str sA, AV.str sM, AV.sl 8 0 1 3, AV.sl 9 0 1 5, AV.sl 10 0 1 1], Blk.row 63 [AV.str sF, AV.nilsl, AV.int .i64 (resO k)], Blk.row 66 [AV.str sMF, AV.nilsl, AV.int .i64 (resO k), AV.nilsl, AV.sl 11 0 2 2], Blk.row 9 [AV.str sMF], Blk.row 68 [AV.int .i64 (1 : Int), AV.int .i64 (IntKind.i64.wrap k), AV.int .i64 (16 : Int), AV.int .i64 (0 : Int)], Blk.row 73 [AV.int .u32 (32 : Int), AV.str sA, AV.str sM, AV.sl 8 0 1 3, AV.sl 9 0 1 5, AV.sl 10 0 1 1], Blk.row 73 [AV.int .u32 (32 : Int), AV.str sA, AV.str sM, AV.sl 8 0 1 3, AV.sl 9 0 1 5, AV.sl 10 0 1 1]]) (And.intro (show 1 ≤ 2 from (by omega)) (And.intro e1' (And.intro (show 6 ≤ 6 from (by omega)) (And.intro (show 1 ≤ 1 from (by omega)) (And.intro (show 1 ≤ 2 from (by omega)) (And.intro (show 4 ≤ 4 from (by omega)) (And.intro e2' (And.intro (show (novR (AV.agg [AV.str sM, AV.sl 0 0 1 3, AV.sl 1 0 1 5, AV.sl 2 0 1 1]) && [Blk.row 63 [AV.str sF, AV.nilsl, AV.int .i64 (resO k)], Blk.row 66 [AV.str sMF, AV.nilsl, AV.int .i64 (resO k), AV.nilsl, AV.sl 3 0 2 2], Blk.row 9 [AV.str sMF], Blk.row 68 [AV.int .i64 (1 : Int), AV.int .i64 (IntKind.i64.wrap k), AV.int .i64 (16 : Int), AV.int .i64 (0 : Int)]].all novB) = true from (by kernel_rfl)) (And.intro e3' (And.intro (show 6 ≤ 6 from (by omega)) (And.intro (show 1 ≤ 1 from (by omega)) (And.intro (show 6 ≤ 6 from (by omega)) (And.intro (show 0 ≤ 0 from (by omega)) (And.intro (show 6 ≤ 6 from (by omega)) (And.intro (show 112 ≤ 140737488355328 from (by omega)) (And.intro (show 1 ≤ maxLen from (by (unfold maxLen; omega))) (show 3 ≤ 3 from (by omega)))))))))))))))))) ?_
    refine g_finn ?_
    refine g_f [0, 1, 2, 3, 4, 5, 13, 8, 9, 10, 11] [false, false, false, false, false, false, false, false, false, false, false] (AV.tuple []) ([Blk.row 40 [AV.int .i64 (8 : Int), AV.int .i64 (2 : Int), AV.sl 6 0 1 6], Blk.row 63 [AV.str sF, AV.nilsl, AV.int .i64 (resO k)], Blk.row 66 [AV.str sMF, AV.nilsl, AV.int .i64 (resO k), AV.nilsl, AV.sl 5 0 2 2], Blk.row 9 [AV.str sMF], Blk.dead, Blk.row 68 [AV.int .i64 (1 : Int), AV.int .i64 (IntKind.i64.wrap k), AV.int .i64 (16 : Int), AV.int .i64 (0 : Int)], Blk.row 73 [AV.int .u32 (32 : Int), AV.str sA, AV.str sM, AV.sl 7 0 1 3, AV.sl 8 0 1 5, AV.sl 9 0 1 1], Blk.row 63 [AV.str sF, AV.nilsl, AV.int .i64 (resO k)], Blk.row 66 [AV.str sMF, AV.nilsl, AV.int .i64 (resO k), AV.nilsl, AV.sl 10 0 2 2], Blk.row 9 [AV.str sMF], Blk.row 68 [AV.int .i64 (1 : Int), AV.int .i64 (IntKind.i64.wrap k), AV.int .i64 (16 : Int), AV.int .i64 (0 : Int)]]) trivial ?_
    exact ⟨rfl, by kernel_rfl⟩
  · rintro _ _ ⟨rfl, rfl⟩
    refine ⟨_, _, preL_ok (l := [.frzc 8 4, .frzc 6 3, .frzc 6 4, .frzc 6 5]) rfl ?_, rfl, rfl⟩
    simp [allP_append, allP_cons, allP_dec, noid0, allP]
    exact ⟨rfl, rfl, rfl, rfl⟩
theorem own_law (k m : Int) : CallsV Try.prog 8 [.int .u8 k, .int .u8 m] [] (fun av H' => av = .bool true ∧ H' = []) := by
  refine callsG_at Try.func8 (by kernel_rfl) ?_
  have c1 := new_v 8 2 (by omega) (by omega)
  unfold cacheH at c1
  have c2 := put_own k
  unfold ownB at c2
  have c3 := get_T 8 2 [(sA, k)] sA (by decide) (by simp) 0 (by simp) (fun k hk => absurd hk (by simp)) rfl
  unfold cacheH cacheD at c3
  have e1' := c1
  have e2' := (show CallsV Try.prog 15 [AV.int .u8 k] [] fun a b => a = AV.agg [AV.str (ByteArray.mk #[(109 : UInt8)]), AV.sl 0 0 1 3, AV.sl 1 0 1 5, AV.sl 2 0 1 1] ∧ b = [Blk.row 63 [AV.str (ByteArray.mk #[(102 : UInt8)]), AV.nilsl, AV.int .i64 (IntKind.i64.wrap ((1 : Int) + IntKind.i64.wrap (k.tmod (3 : Int))))], Blk.row 66 [AV.str (ByteArray.mk #[(109 : UInt8), (46 : UInt8), (102 : UInt8)]), AV.nilsl, AV.int .i64 (IntKind.i64.wrap ((1 : Int) + IntKind.i64.wrap (k.tmod (3 : Int)))), AV.nilsl, AV.sl 3 0 2 2], Blk.row 9 [AV.str (ByteArray.mk #[(109 : UInt8), (46 : UInt8), (102 : UInt8)])], Blk.row 68 [AV.int .i64 (1 : Int), AV.int .i64 (IntKind.i64.wrap k), AV.int .i64 (16 : Int), AV.int .i64 (0 : Int)]] from (callsV_ev (noX_ok _) 400 (by kernel_rfl)))
  have e3' := c2
  have e4' := c3
  have e5' := awake_v
  have e6' := (show Reads [Blk.row 40 [AV.int .i64 (8 : Int), AV.int .i64 (2 : Int), AV.sl 12 0 1 6], Blk.dead, Blk.row 63 [AV.str sF, AV.nilsl, AV.int .i64 (resO k)], Blk.row 66 [AV.str sMF, AV.nilsl, AV.int .i64 (resO k), AV.nilsl, AV.sl 5 0 2 2], Blk.row 9 [AV.str (ByteArray.mk #[(99 : UInt8), (104 : UInt8), (97 : UInt8), (110 : UInt8), (103 : UInt8), (101 : UInt8), (100 : UInt8)])], Blk.row 68 [AV.int .i64 (1 : Int), AV.int .i64 (IntKind.i64.wrap (IntKind.i64.wrap m + (1000 : Int))), AV.int .i64 (16 : Int), AV.int .i64 (0 : Int)], Blk.row 49 [AV.str (ByteArray.mk #[(109 : UInt8)]), AV.sl 2 0 1 3, AV.sl 3 0 1 5, AV.sl 4 0 1 1], Blk.dead, Blk.dead, Blk.dead, Blk.dead, Blk.dead, Blk.row 73 [AV.int .u32 (textF ([(sA, k)].getD 0 eD).fst (8 : Int)), AV.str ([(sA, k)].getD 0 eD).fst, AV.str sM, AV.slv 1 3 [AV.str sF, AV.nilsl, AV.int .i64 (resO ([(sA, k)].getD 0 eD).snd)], AV.slv 1 5 [AV.str sMF, AV.nilsl, AV.int .i64 (resO ([(sA, k)].getD 0 eD).snd), AV.nilsl, AV.slv 2 2 [AV.int .i64 (1 : Int), AV.int .i64 (IntKind.i64.wrap ([(sA, k)].getD 0 eD).snd), AV.int .i64 (16 : Int), AV.int .i64 (0 : Int)]], AV.slv 1 1 [AV.str sMF]], Blk.row 49 [AV.str sM, AV.slv 1 3 [AV.str sF, AV.nilsl, AV.int .i64 (resO ([(sA, k)].getD 0 eD).snd)], AV.slv 1 5 [AV.str sMF, AV.nilsl, AV.int .i64 (resO ([(sA, k)].getD 0 eD).snd), AV.nilsl, AV.slv 2 2 [AV.int .i64 (1 : Int), AV.int .i64 (IntKind.i64.wrap ([(sA, k)].getD 0 eD).snd), AV.int .i64 (16 : Int), AV.int .i64 (0 : Int)]], AV.slv 1 1 [AV.str sMF]], Blk.row 63 [AV.str (ByteArray.mk #[(102 : UInt8)]), AV.nilsl, AV.int .i64 (IntKind.i64.wrap ((1 : Int) + IntKind.i64.wrap (k.tmod (3 : Int))))], Blk.row 66 [AV.str (ByteArray.mk #[(109 : UInt8), (46 : UInt8), (102 : UInt8)]), AV.nilsl, AV.int .i64 (IntKind.i64.wrap ((1 : Int) + IntKind.i64.wrap (k.tmod (3 : Int)))), AV.nilsl, AV.sl 17 0 2 2], Blk.row 9 [AV.str (ByteArray.mk #[(109 : UInt8), (46 : UInt8), (102 : UInt8)])], Blk.row 68 [AV.int .i64 (1 : Int), AV.int .i64 (IntKind.i64.wrap k), AV.int .i64 (16 : Int), AV.int .i64 (0 : Int)]] [AV.agg [AV.str sM, AV.slv 1 3 [AV.str sF, AV.nilsl, AV.int .i64 (resO ([(sA, k)].getD 0 eD).snd)], AV.slv 1 5 [AV.str sMF, AV.nilsl, AV.int .i64 (resO ([(sA, k)].getD 0 eD).snd), AV.nilsl, AV.slv 2 2 [AV.int .i64 (1 : Int), AV.int .i64 (IntKind.i64.wrap ([(sA, k)].getD 0 eD).snd), AV.int .i64 (16 : Int), AV.int .i64 (0 : Int)]], AV.slv 1 1 [AV.str sMF]], AV.agg [AV.str (ByteArray.mk #[(109 : UInt8)]), AV.sl 14 0 1 3, AV.sl 15 0 1 5, AV.sl 16 0 1 1]] [AV.agg [AV.str sM, AV.slv 1 3 [AV.str sF, AV.nilsl, AV.int .i64 (resO ([(sA, k)].getD 0 eD).snd)], AV.slv 1 5 [AV.str sMF, AV.nilsl, AV.int .i64 (resO ([(sA, k)].getD 0 eD).snd), AV.nilsl, AV.slv 2 2 [AV.int .i64 (1 : Int), AV.int .i64 (IntKind.i64.wrap ([(sA, k)].getD 0 eD).snd), AV.int .i64 (16 : Int), AV.int .i64 (0 : Int)]], AV.slv 1 1 [AV.str sMF]], AV.agg [AV.str (ByteArray.mk #[(109 : UInt8)]), AV.slv 1 3 [AV.str (ByteArray.mk #[(102 : UInt8)]), AV.nilsl, AV.int .i64 (IntKind.i64.wrap ((1 : Int) + IntKind.i64.wrap (k.tmod (3 : Int))))], AV.slv 1 5 [AV.str (ByteArray.mk #[(109 : UInt8), (46 : UInt8), (102 : UInt8)]), AV.nilsl, AV.int .i64 (IntKind.i64.wrap ((1 : Int) + IntKind.i64.wrap (k.tmod (3 : Int)))), AV.nilsl, AV.slv 2 2 [AV.int .i64 (1 : Int), AV.int .i64 (IntKind.i64.wrap k), AV.int .i64 (16 : Int), AV.int .i64 (0 : Int)]], AV.slv 1 1 [AV.str (ByteArray.mk #[(109 : UInt8), (46 : UInt8), (102 : UInt8)])]]] from (Reads.cons (Reads1.val (by kernel_rfl)) (Reads.cons (Reads1.val (by kernel_rfl)) Reads.nil)))
  have e7' := refOb1 k
  refine g_q [⟨1, [], .call (avOf e1') (blOf e1') [false, false]⟩, ⟨15, [], .call (avOf e2') (blOf e2') [false, false, false, false]⟩, ⟨20, [], .callS [0, 2, 3, 4, 1, 5] [false, false, false, false, false, false] (avOf e3') (blOf e3') [false, false, false, false, false, false, false, false, false, false, false]⟩, ⟨37, [], .callS [0, 7] [false, false] (avOf e4') (blOf e4') [false, false, false]⟩, ⟨44, [], .call (avOf e5') (blOf e5') []⟩, ⟨51, [], .call (avOf e2') (blOf e2') [false, false, false, false]⟩, ⟨52, [], .lend (rdOf e6') (avOf e7') (blOf e7') []⟩] [.sel [4]] Exit.ret (stOf 53 [(4, AV.bool true)] [Blk.row 40 [AV.int .i64 (8 : Int), AV.int .i64 (2 : Int), AV.sl 12 0 1 6], Blk.dead, Blk.row 63 [AV.str sF, AV.nilsl, AV.int .i64 (resO k)], Blk.row 66 [AV.str sMF, AV.nilsl, AV.int .i64 (resO k), AV.nilsl, AV.sl 5 0 2 2], Blk.row 9 [AV.str (ByteArray.mk #[(99 : UInt8), (104 : UInt8), (97 : UInt8), (110 : UInt8), (103 : UInt8), (101 : UInt8), (100 : UInt8)])], Blk.row 68 [AV.int .i64 (1 : Int), AV.int .i64 (IntKind.i64.wrap (IntKind.i64.wrap m + (1000 : Int))), AV.int .i64 (16 : Int), AV.int .i64 (0 : Int)], Blk.row 49 [AV.str (ByteArray.mk #[(109 : UInt8)]), AV.sl 2 0 1 3, AV.sl 3 0 1 5, AV.sl 4 0 1 1], Blk.dead, Blk.dead, Blk.dead, Blk.dead, Blk.dead, Blk.row 73 [AV.int .u32 (textF ([(sA, k)].getD 0 eD).fst (8 : Int)), AV.str ([(sA, k)].getD 0 eD).fst, AV.str sM, AV.slv 1 3 [AV.str sF, AV.nilsl, AV.int .i64 (resO ([(sA, k)].getD 0 eD).snd)], AV.slv 1 5 [AV.str sMF, AV.nilsl, AV.int .i64 (resO ([(sA, k)].getD 0 eD).snd), AV.nilsl, AV.slv 2 2 [AV.int .i64 (1 : Int), AV.int .i64 (IntKind.i64.wrap ([(sA, k)].getD 0 eD).snd), AV.int .i64 (16 : Int), AV.int .i64 (0 : Int)]], AV.slv 1 1 [AV.str sMF]], Blk.row 49 [AV.str sM, AV.slv 1 3 [AV.str sF, AV.nilsl, AV.int .i64 (resO ([(sA, k)].getD 0 eD).snd)], AV.slv 1 5 [AV.str sMF, AV.nilsl, AV.int .i64 (resO ([(sA, k)].getD 0 eD).snd), AV.nilsl, AV.slv 2 2 [AV.int .i64 (1 : Int), AV.int .i64 (IntKind.i64.wrap ([(sA, k)].getD 0 eD).snd), AV.int .i64 (16 : Int), AV.int .i64 (0 : Int)]], AV.slv 1 1 [AV.str sMF]], Blk.row 63 [AV.str (ByteArray.mk #[(102 : UInt8)]), AV.nilsl, AV.int .i64 (IntKind.i64.wrap ((1 : Int) + IntKind.i64.wrap (k.tmod (3 : Int))))], Blk.row 66 [AV.str (ByteArray.mk #[(109 : UInt8), (46 : UInt8), (102 : UInt8)]), AV.nilsl, AV.int .i64 (IntKind.i64.wrap ((1 : Int) + IntKind.i64.wrap (k.tmod (3 : Int)))), AV.nilsl, AV.sl 17 0 2 2], Blk.row 9 [AV.str (ByteArray.mk #[(109 : UInt8), (46 : UInt8), (102 : UInt8)])], Blk.row 68 [AV.int .i64 (1 : Int), AV.int .i64 (IntKind.i64.wrap k), AV.int .i64 (16 : Int), AV.int .i64 (0 : Int)]]) (And.intro e1' (And.intro e2' (And.intro (show 4 ≤ 4 from (by omega)) (And.intro (show 4 ≤ 4 from (by omega)) (And.intro e3' (And.intro (show 1 ≤ 2 from (by omega)) (And.intro (show (0 : Int) ≤ (0 : Int) ∧ (0 : Int) < (↑1 : Int) from (by omega)) (And.intro (show 1 ≤ 1 from (by omega)) (And.intro (show (0 : Int) ≤ (0 : Int) ∧ (0 : Int) < (↑2 : Int) from (by omega)) (And.intro (show 2 ≤ 4 from (by omega)) (And.intro (show 1 ≤ 1 from (by omega)) (And.intro (show (0 : Int) ≤ (0 : Int) ∧ (0 : Int) < (↑1 : Int) from (by omega)) (And.intro (show 1 ≤ 1 from (by omega)) (And.intro e4' (And.intro (show 4 ≤ 4 from (by omega)) (And.intro e5' (And.intro (show 4 ≤ 4 from (by omega)) (And.intro e2' (And.intro e6' (And.intro (show (novR (AV.bool true) && [].all novB) = true from (by kernel_rfl)) e7')))))))))))))))))))) ?_
  refine g_f [] [] (AV.bool true) ([]) trivial ?_
  exact ⟨rfl, rfl⟩
end Go.Proofs.Ytcmbhebgpboepaa
