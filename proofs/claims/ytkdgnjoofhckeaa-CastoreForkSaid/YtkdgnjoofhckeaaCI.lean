/-
  Stores: the laws about what is accepted, and about bytes of its own.
-/
import Derived.Test.YtkdgnjoofhckeaaCH
namespace Go.Proofs.Ytkdgnjoofhckeaa
open Go Go.RowKit V
set_option linter.unusedSimpArgs false
set_option linter.unusedVariables false
set_option maxHeartbeats 20000000
abbrev stZ : Blk := .row 48 [.int .i64 0, .int .i64 0, .nilsl, .nilmap]
theorem lenZ_n  : CallsV Try.prog 11 [.nilptr] [] (fun av H' => av = .int .i64 0 ∧ H' = []) := by
  refine callsG_at Try.func11 (by kernel_rfl) ?_
  refine g_q [] [.sel [2]] Exit.ret (stOf 10 [(2, AV.int .i64 (0 : Int))] []) trivial ?_
  refine g_f [] [] (AV.int .i64 (0 : Int)) ([]) trivial ?_
  exact ⟨rfl, rfl⟩
theorem lenZ_z  : CallsV Try.prog 11 [.ptr 0 0] [stZ] (fun av H' => av = .int .i64 0 ∧ H' = [stZ]) := by
  refine callsG_at Try.func11 (by kernel_rfl) ?_
  refine g_q [] [.sel [2]] Exit.ret (stOf 10 [(2, AV.int .i64 (0 : Int))] [Blk.row 48 [AV.int .i64 (0 : Int), AV.int .i64 (0 : Int), AV.nilsl, AV.nilmap]]) (show 1 ≤ 2 from (by omega)) ?_
  refine g_f [0] [false] (AV.int .i64 (0 : Int)) ([Blk.row 48 [AV.int .i64 (0 : Int), AV.int .i64 (0 : Int), AV.nilsl, AV.nilmap]]) trivial ?_
  exact ⟨rfl, rfl⟩
theorem putZ_n (x : AV) (hx : noid1 x = true) : CallsV Try.prog 13 [.nilptr, x] [] (fun av H' => av = .tuple [keyZ, .bool false] ∧ H' = []) := by
  refine callsG_at Try.func13 (by kernel_rfl) ?_
  refine g_q [] [.sel [4, 5]] Exit.ret (stOf 85 [(4, AV.ptr 0 0), (5, AV.bool false)] [Blk.row 44 [AV.int .u32 (0 : Int), AV.int .i64 (0 : Int)]]) (And.intro (show true = false → false = true from (by decide)) (show 2 ≤ 2 from (by omega))) ?_
  refine g_f [] [] (AV.tuple [AV.agg [AV.int .u32 (0 : Int), AV.int .i64 (0 : Int)], AV.bool false]) ([]) (show 2 ≤ 2 from (by omega)) ?_
  exact ⟨rfl, rfl⟩
theorem putZ_z (x : AV) (hx : noid1 x = true) : CallsV Try.prog 13 [.ptr 0 0, x] [stZ] (fun av H' => av = .tuple [keyZ, .bool false] ∧ H' = [stZ]) := by
  refine callsG_at Try.func13 (by kernel_rfl) ?_
  refine g_q [] [.sel [4, 5]] Exit.ret (stOf 85 [(4, AV.ptr 1 0), (5, AV.bool false)] [Blk.row 48 [AV.int .i64 (0 : Int), AV.int .i64 (0 : Int), AV.nilsl, AV.nilmap], Blk.row 44 [AV.int .u32 (0 : Int), AV.int .i64 (0 : Int)]]) (And.intro (show 1 ≤ 3 from (by omega)) (show 2 ≤ 2 from (by omega))) ?_
  refine g_f [0] [false] (AV.tuple [AV.agg [AV.int .u32 (0 : Int), AV.int .i64 (0 : Int)], AV.bool false]) ([Blk.row 48 [AV.int .i64 (0 : Int), AV.int .i64 (0 : Int), AV.nilsl, AV.nilmap]]) (show 2 ≤ 2 from (by omega)) ?_
  exact ⟨rfl, rfl⟩
theorem finZ_n (x : AV) (hx : noid1 x = true) : CallsV Try.prog 14 [.nilptr, x] [] (fun av H' => av = .tuple [keyZ, .bool false] ∧ H' = []) := by
  refine callsG_at Try.func14 (by kernel_rfl) ?_
  refine g_q [] [.sel [4, 5]] Exit.ret (stOf 37 [(4, AV.ptr 0 0), (5, AV.bool false)] [Blk.row 44 [AV.int .u32 (0 : Int), AV.int .i64 (0 : Int)]]) (And.intro (show true = false → false = true from (by decide)) (show 2 ≤ 2 from (by omega))) ?_
  refine g_f [] [] (AV.tuple [AV.agg [AV.int .u32 (0 : Int), AV.int .i64 (0 : Int)], AV.bool false]) ([]) (show 2 ≤ 2 from (by omega)) ?_
  exact ⟨rfl, rfl⟩
theorem finZ_z (x : AV) (hx : noid1 x = true) : CallsV Try.prog 14 [.ptr 0 0, x] [stZ] (fun av H' => av = .tuple [keyZ, .bool false] ∧ H' = [stZ]) := by
  refine callsG_at Try.func14 (by kernel_rfl) ?_
  refine g_q [] [.sel [4, 5]] Exit.ret (stOf 37 [(4, AV.ptr 1 0), (5, AV.bool false)] [Blk.row 48 [AV.int .i64 (0 : Int), AV.int .i64 (0 : Int), AV.nilsl, AV.nilmap], Blk.row 44 [AV.int .u32 (0 : Int), AV.int .i64 (0 : Int)]]) (And.intro (show 1 ≤ 3 from (by omega)) (show 2 ≤ 2 from (by omega))) ?_
  refine g_f [0] [false] (AV.tuple [AV.agg [AV.int .u32 (0 : Int), AV.int .i64 (0 : Int)], AV.bool false]) ([Blk.row 48 [AV.int .i64 (0 : Int), AV.int .i64 (0 : Int), AV.nilsl, AV.nilmap]]) (show 2 ≤ 2 from (by omega)) ?_
  exact ⟨rfl, rfl⟩
theorem getZ_n (d m : Int) : CallsV Try.prog 15 [.nilptr, .agg [.int .u32 d, .int .i64 m]] [] (fun av H' => av = .tuple [.nilsl, .bool false] ∧ H' = []) := by
  refine callsG_at Try.func15 (by kernel_rfl) ?_
  refine g_q [] [.sel [4, 5]] Exit.ret (stOf 31 [(4, AV.nilsl), (5, AV.bool false)] [Blk.row 44 [AV.int .u32 d, AV.int .i64 m]]) trivial ?_
  refine g_f [] [] (AV.tuple [AV.nilsl, AV.bool false]) ([]) trivial ?_
  exact ⟨rfl, rfl⟩
theorem idxZ (d m : Int) : CallsV Try.prog 27 [.nilsl, .fn (.func 28) [] [.ptr 0 0]] [.row 44 [.int .u32 d, .int .i64 m]] (fun av H' => av = .int .i64 (-1) ∧ H' = [.row 44 [.int .u32 d, .int .i64 m]]) := by
  refine callsG_at Try.func27 (by kernel_rfl) ?_
  have unroll := trivial
  refine g_q [] [.sel [4]] Exit.ret (stOf 19 [(4, AV.int .i64 (-1 : Int))] [Blk.row 44 [AV.int .u32 d, AV.int .i64 m]]) trivial ?_
  refine g_f [0] [false] (AV.int .i64 (-1 : Int)) ([Blk.row 44 [AV.int .u32 d, AV.int .i64 m]]) trivial ?_
  exact ⟨rfl, rfl⟩
theorem getZ_z (d m : Int) : CallsV Try.prog 15 [.ptr 0 0, .agg [.int .u32 d, .int .i64 m]] [stZ] (fun av H' => av = .tuple [.nilsl, .bool false] ∧ H' = [stZ]) := by
  refine callsG_at Try.func15 (by kernel_rfl) ?_
  have e1' := idxZ d m
  refine g_q [⟨11, [], .callS [1] [false] (avOf e1') (blOf e1') [false]⟩] [.sel [4, 5]] Exit.ret (stOf 31 [(4, AV.nilsl), (5, AV.bool false)] [Blk.row 48 [AV.int .i64 (0 : Int), AV.int .i64 (0 : Int), AV.nilsl, AV.nilmap], Blk.row 44 [AV.int .u32 d, AV.int .i64 m]]) (And.intro (show 1 ≤ 2 from (by omega)) e1') ?_
  refine g_f [0] [false] (AV.tuple [AV.nilsl, AV.bool false]) ([Blk.row 48 [AV.int .i64 (0 : Int), AV.int .i64 (0 : Int), AV.nilsl, AV.nilmap]]) trivial ?_
  exact ⟨rfl, rfl⟩
theorem ev_min0 (m : Int) : (if (0 : Int) < if (0 : Int) > m then (0 : Int) else m then (0 : Int) else if (0 : Int) > m then (0 : Int) else m) = 0 := by
  split <;> split at * <;> omega
theorem evZ_n (m : Int) : CallsV Try.prog 16 [.nilptr, .int .i64 m] [] (fun av H' => av = .int .i64 0 ∧ H' = []) := by
  refine callsG_at Try.func16 (by kernel_rfl) ?_
  have e1' := lenZ_n
  have e2' := (congrArg (fun z => AV.int .i64 z) (ev_min0 m))
  refine g_q [⟨4, [], .call (avOf e1') (blOf e1') []⟩, ⟨5, [], .as (rhsOf e2')⟩] [.sel [4]] Exit.ret (stOf 22 [(4, AV.int .i64 (0 : Int))] []) (And.intro e1' e2') ?_
  refine g_f [] [] (AV.int .i64 (0 : Int)) ([]) trivial ?_
  exact ⟨rfl, rfl⟩
theorem evZ_z (m : Int) : CallsV Try.prog 16 [.ptr 0 0, .int .i64 m] [stZ] (fun av H' => av = .int .i64 0 ∧ H' = [stZ]) := by
  refine callsG_at Try.func16 (by kernel_rfl) ?_
  have e1' := lenZ_z
  have e2' := (congrArg (fun z => AV.int .i64 z) (ev_min0 m))
  refine g_q [⟨4, [], .callS [0] [false] (avOf e1') (blOf e1') [false]⟩, ⟨5, [], .as (rhsOf e2')⟩] [.sel [4]] Exit.ret (stOf 22 [(4, AV.int .i64 (0 : Int))] [Blk.row 48 [AV.int .i64 (0 : Int), AV.int .i64 (0 : Int), AV.nilsl, AV.nilmap]]) (And.intro e1' e2') ?_
  refine g_f [0] [false] (AV.int .i64 (0 : Int)) ([Blk.row 48 [AV.int .i64 (0 : Int), AV.int .i64 (0 : Int), AV.nilsl, AV.nilmap]]) trivial ?_
  exact ⟨rfl, rfl⟩
theorem forkZ : CallsV Try.prog 17 [.nilptr] [] (fun av H' => av = .nilptr ∧ H' = []) := by
  refine callsG_at Try.func17 (by kernel_rfl) ?_
  refine g_q [] [.sel [2]] Exit.ret (stOf 25 [(2, AV.nilptr)] []) trivial ?_
  refine g_f [] [] (AV.nilptr) ([]) trivial ?_
  exact ⟨rfl, rfl⟩
abbrev bsV (l : List Int) : AV := .slv l.length 1 (l.map (AV.int .u8))
theorem new_law (b r m d g : Int) (l : List Int) (hl : l.length ≤ 9223372036854775807) : CallsV Try.prog 4 [.int .i64 b, .int .i64 r, bsV l, .agg [.int .u32 d, .int .i64 g], .int .i64 m] [] (fun av H' => av = .bool true ∧ H' = []) := by
  refine callsG_at Try.func4 (by kernel_rfl) ?_
  have unroll := trivial
  have p1 := putZ_n (bsV l) rfl
  have p2 := putZ_z (bsV l) rfl
  have p3 := finZ_n (bsV l) rfl
  have p4 := finZ_z (bsV l) rfl
  by_cases hlen : l.length ≤ 100
  · by_cases h : (1 ≤ b ∧ b ≤ 32) ∧ (1 ≤ r ∧ r ≤ 32)
    · have c1 := new_v b r h.1 h.2
      have c2 := newR b r h.1 h.2
      unfold storeH at c1
      unfold refH at c2
      have e1' := c1
      have e2' := c2
      have e3' := p1
      have e4' := p3
      have e5' := getZ_n d g
      have e6' := evZ_n m
      have e7' := lenZ_n
      have e8' := p2
      have e9' := p4
      have e10' := getZ_z d g
      have e11' := evZ_z m
      have e12' := lenZ_z
      have e13' := awake_v
      have e14' := forkZ
      refine g_q [⟨5, [], .br false .no⟩, ⟨8, [], .call (avOf e1') (blOf e1') [false, false, false]⟩, ⟨16, [], .call (avOf e2') (blOf e2') [false, false, false]⟩, ⟨48, [], .call (avOf e3') (blOf e3') []⟩, ⟨57, [], .call (avOf e4') (blOf e4') []⟩, ⟨66, [], .call (avOf e5') (blOf e5') []⟩, ⟨97, [], .call (avOf e6') (blOf e6') []⟩, ⟨102, [], .call (avOf e7') (blOf e7') []⟩, ⟨116, [], .callS [7] [false] (avOf e8') (blOf e8') [false]⟩, ⟨125, [], .callS [7] [false] (avOf e9') (blOf e9') [false]⟩, ⟨134, [], .callS [7] [false] (avOf e10') (blOf e10') [false]⟩, ⟨165, [], .callS [7] [false] (avOf e11') (blOf e11') [false]⟩, ⟨170, [], .callS [7] [false] (avOf e12') (blOf e12') [false]⟩, ⟨179, [], .call (avOf e13') (blOf e13') []⟩, ⟨182, [], .call (avOf e14') (blOf e14') []⟩] [.sel [10]] Exit.ret (stOf 117 [(10, AV.bool true)] [Blk.row 44 [AV.int .u32 d, AV.int .i64 g], Blk.row 48 [AV.int .i64 b, AV.int .i64 r, AV.sl 2 0 0 3, AV.map 3], Blk.row 65 [], Blk.map [], Blk.row 38 [AV.int .i64 b, AV.int .i64 r, AV.sl 5 0 0 3, AV.sl 6 0 0 1], Blk.row 74 [], Blk.row 42 [], Blk.row 48 [AV.int .i64 (0 : Int), AV.int .i64 (0 : Int), AV.nilsl, AV.nilmap], Blk.row 23 [AV.nilptr, AV.ptr 7 0], Blk.row 44 [AV.int .u32 (0 : Int), AV.int .i64 (0 : Int)], Blk.row 44 [AV.int .u32 (0 : Int), AV.int .i64 (0 : Int)], Blk.row 44 [AV.int .u32 (0 : Int), AV.int .i64 (0 : Int)], Blk.row 44 [AV.int .u32 (0 : Int), AV.int .i64 (0 : Int)]]) (And.intro (show decide ((↑l.length : Int) > (100 : Int)) = false from (by rw [decide_eq_false_iff_not]; omega)) (And.intro e1' (And.intro e2' (And.intro (show (0 : Int) ≤ (0 : Int) ∧ (0 : Int) < (↑2 : Int) from (by omega)) (And.intro (show 1 ≤ 2 from (by omega)) (And.intro e3' (And.intro (show 2 ≤ 2 from (by omega)) (And.intro e4' (And.intro (show 2 ≤ 2 from (by omega)) (And.intro (show 2 ≤ 2 from (by omega)) (And.intro e5' (And.intro (show 2 ≤ 2 from (by omega)) (And.intro (show 2 ≤ 2 from (by omega)) (And.intro e6' (And.intro e7' (And.intro (show (0 : Int) ≤ (1 : Int) ∧ (1 : Int) < (↑2 : Int) from (by omega)) (And.intro (show 1 ≤ 1 from (by omega)) (And.intro e8' (And.intro (show 2 ≤ 2 from (by omega)) (And.intro e9' (And.intro (show 2 ≤ 2 from (by omega)) (And.intro (show 2 ≤ 2 from (by omega)) (And.intro e10' (And.intro (show 2 ≤ 2 from (by omega)) (And.intro (show 2 ≤ 2 from (by omega)) (And.intro e11' (And.intro e12' (And.intro e13' e14')))))))))))))))))))))))))))) ?_
      refine g_f [] [] (AV.bool true) ([]) trivial ?_
      exact ⟨rfl, rfl⟩
    · have c1 := new_no b r (by omega)
      have c2 := newR_no b r (by omega)
      have e1' := c1
      have e2' := c2
      have e3' := p1
      have e4' := p3
      have e5' := getZ_n d g
      have e6' := evZ_n m
      have e7' := lenZ_n
      have e8' := p2
      have e9' := p4
      have e10' := getZ_z d g
      have e11' := evZ_z m
      have e12' := lenZ_z
      have e13' := awake_v
      have e14' := forkZ
      refine g_q [⟨5, [], .br false .no⟩, ⟨8, [], .call (avOf e1') (blOf e1') []⟩, ⟨16, [], .call (avOf e2') (blOf e2') []⟩, ⟨48, [], .call (avOf e3') (blOf e3') []⟩, ⟨57, [], .call (avOf e4') (blOf e4') []⟩, ⟨66, [], .call (avOf e5') (blOf e5') []⟩, ⟨97, [], .call (avOf e6') (blOf e6') []⟩, ⟨102, [], .call (avOf e7') (blOf e7') []⟩, ⟨116, [], .callS [1] [false] (avOf e8') (blOf e8') [false]⟩, ⟨125, [], .callS [1] [false] (avOf e9') (blOf e9') [false]⟩, ⟨134, [], .callS [1] [false] (avOf e10') (blOf e10') [false]⟩, ⟨165, [], .callS [1] [false] (avOf e11') (blOf e11') [false]⟩, ⟨170, [], .callS [1] [false] (avOf e12') (blOf e12') [false]⟩, ⟨179, [], .call (avOf e13') (blOf e13') []⟩, ⟨182, [], .call (avOf e14') (blOf e14') []⟩] [.sel [10]] Exit.ret (stOf 117 [(10, AV.bool true)] [Blk.row 44 [AV.int .u32 d, AV.int .i64 g], Blk.row 48 [AV.int .i64 (0 : Int), AV.int .i64 (0 : Int), AV.nilsl, AV.nilmap], Blk.row 23 [AV.nilptr, AV.ptr 1 0], Blk.row 44 [AV.int .u32 (0 : Int), AV.int .i64 (0 : Int)], Blk.row 44 [AV.int .u32 (0 : Int), AV.int .i64 (0 : Int)], Blk.row 44 [AV.int .u32 (0 : Int), AV.int .i64 (0 : Int)], Blk.row 44 [AV.int .u32 (0 : Int), AV.int .i64 (0 : Int)]]) (And.intro (show decide ((↑l.length : Int) > (100 : Int)) = false from (by rw [decide_eq_false_iff_not]; omega)) (And.intro e1' (And.intro e2' (And.intro (show (0 : Int) ≤ (0 : Int) ∧ (0 : Int) < (↑2 : Int) from (by omega)) (And.intro (show 1 ≤ 2 from (by omega)) (And.intro e3' (And.intro (show 2 ≤ 2 from (by omega)) (And.intro e4' (And.intro (show 2 ≤ 2 from (by omega)) (And.intro (show 2 ≤ 2 from (by omega)) (And.intro e5' (And.intro (show 2 ≤ 2 from (by omega)) (And.intro (show 2 ≤ 2 from (by omega)) (And.intro e6' (And.intro e7' (And.intro (show (0 : Int) ≤ (1 : Int) ∧ (1 : Int) < (↑2 : Int) from (by omega)) (And.intro (show 1 ≤ 1 from (by omega)) (And.intro e8' (And.intro (show 2 ≤ 2 from (by omega)) (And.intro e9' (And.intro (show 2 ≤ 2 from (by omega)) (And.intro (show 2 ≤ 2 from (by omega)) (And.intro e10' (And.intro (show 2 ≤ 2 from (by omega)) (And.intro (show 2 ≤ 2 from (by omega)) (And.intro e11' (And.intro e12' (And.intro e13' e14')))))))))))))))))))))))))))) ?_
      refine g_f [] [] (AV.bool true) ([]) trivial ?_
      exact ⟨rfl, rfl⟩
  · have e1' := awake_v
    refine g_q [⟨5, [], .br true .no⟩, ⟨6, [], .call (avOf e1') (blOf e1') []⟩] [.sel [10]] Exit.ret (stOf 117 [(10, AV.bool true)] [Blk.row 44 [AV.int .u32 d, AV.int .i64 g]]) (And.intro (show decide ((↑l.length : Int) > (100 : Int)) = true from (by rw [decide_eq_true_iff]; omega)) e1') ?_
    refine g_f [] [] (AV.bool true) ([]) trivial ?_
    exact ⟨rfl, rfl⟩
end Go.Proofs.Ytkdgnjoofhckeaa
