/-
  Caches: digests, objects, clones.
-/
import Derived.Test.YtcmbhebgpboepaaG5
namespace Go.Proofs.Ytcmbhebgpboepaa
open Go Go.RowKit V
set_option linter.unusedSimpArgs false
set_option linter.unusedVariables false
set_option maxHeartbeats 20000000
theorem bytes_at (b : ByteArray) (k : Nat) (hk : k < b.size) : (bytesAV b).drop ((k : Int).toNat * 1) = AV.int .u8 ((b.data.toList.getD k 0).toNat : Int) :: (bytesAV b).drop (k + 1) := by
  have hl : k < b.data.toList.length := by simpa using hk
  unfold bytesAV
  rw [Int.toNat_natCast, Nat.mul_one, ← List.map_drop, List.drop_eq_getElem_cons hl, List.map_cons, ← List.map_drop, List.getD_eq_getElem?_getD, List.getElem?_eq_getElem hl]
  rfl
/-- a digest's step -/
def sumS (h : Int) (c : UInt8) : Int := IntKind.u32.wrap (IntKind.u32.wrap (((BitVec.ofInt IntKind.u32.bits h ^^^ BitVec.ofInt IntKind.u32.bits (IntKind.u32.wrap (c.toNat : Int))).toNat : Nat) : Int) * 16777619)
def sumK (b : ByteArray) (h : Int) (k : Nat) : Int := (b.data.toList.take k).foldl sumS h
theorem sum_next (b : ByteArray) (h : Int) (k : Nat) (hk : k < b.size) : IntKind.u32.wrap (IntKind.u32.wrap (((BitVec.ofInt IntKind.u32.bits (sumK b h k) ^^^ BitVec.ofInt IntKind.u32.bits (IntKind.u32.wrap ((b.data.toList.getD k 0).toNat : Int))).toNat : Nat) : Int) * 16777619) = sumK b h (k + 1) := by
  have hl : k < b.data.toList.length := by simpa using hk
  unfold sumK
  rw [List.take_add_one, List.foldl_append, List.getElem?_eq_getElem hl, List.getD_eq_getElem?_getD, List.getElem?_eq_getElem hl]
  rfl
theorem sumL (b : ByteArray) (n h : Int) (hb : b.size ≤ 1000000) : LoopG Try.prog 0 Try.f47 0 (.exit 0) (stOf 31 [(1, .int .i64 n), (5, .int .u32 (sumK b h b.size))] []) (stOf 31 [(1, .int .i64 n), (5, .int .u32 h), (8, .slv b.size 1 (bytesAV b)), (9, .int .i64 (b.size : Int)), (10, .int .i64 0)] []) := by
  refine loopG_of b.size (fun k => stOf 31 [(1, .int .i64 n), (5, .int .u32 (sumK b h k)), (8, .slv b.size 1 (bytesAV b)), (9, .int .i64 (b.size : Int)), (10, .int .i64 (k : Int))] []) (by kernel_rfl) (by simp) ?_ ?_
  · intro k hk
    have e1' := (congrArg (fun z => AV.fptr z) (bytes_at (b) (k) (by assumption)))
    have e2' := (congrArg (fun z => AV.int .u32 z) (sum_next (b) (h) (k) (by assumption)))
    have e3' := (congrArg (fun z => AV.int .i64 z) (wrap_i64 (e := (↑k : Int) + (1 : Int)) (by omega) (by omega)))
    exact g_x [⟨1, [], .br true .no⟩, ⟨2, [], .as (rhsOf e1')⟩, ⟨9, [], .as (rhsOf e2')⟩, ⟨11, [], .as (rhsOf e3')⟩] [.sel [1, 5, 8, 9, 10]] (And.intro (show decide ((↑k : Int) < (↑b.size : Int)) = true from (by rw [decide_eq_true_iff]; omega)) (And.intro (show (0 : Int) ≤ (↑k : Int) ∧ (↑k : Int) < (↑b.size : Int) from (by omega)) (And.intro e1' (And.intro (show 1 ≤ (AV.int .u8 (↑(b.data.toList.getD k (0 : UInt8)).toNat : Int) :: List.drop (k + 1) (bytesAV b)).length from (by exact Nat.le_of_ble_eq_true (by kernel_rfl))) (And.intro e2' e3')))))
  · exact g_x [⟨1, [], .br false .no⟩] [.sel [1, 5]] (show decide ((↑b.size : Int) < (↑b.size : Int)) = false from (by rw [decide_eq_false_iff_not]; omega))
/-- a key's digest -/
def textF (b : ByteArray) (n : Int) : Int := IntKind.u32.wrap (((BitVec.ofInt IntKind.u32.bits (IntKind.u32.wrap (((BitVec.ofInt IntKind.u32.bits (sumK b 2166136261 b.size) ^^^ BitVec.ofInt IntKind.u32.bits ((sumK b 2166136261 b.size).fdiv (2 ^ min (Int.toNat 16) IntKind.u32.bits))).toNat : Nat) : Int)) &&& BitVec.ofInt IntKind.u32.bits (Int.fdiv 4294967295 (2 ^ min (32 - if 32 < if 1 > n then 1 else n then 32 else if 1 > n then 1 else n).toNat IntKind.u32.bits))).toNat : Nat) : Int)
theorem sum_v (b : ByteArray) (n : Int) (hb : b.size ≤ 1000000) : CallsV Try.prog 47 [.slv b.size 1 (bytesAV b), .int .i64 n] [] (fun av H' => av = .int .u32 (textF b n) ∧ H' = []) := by
  refine callsG_at Try.func47 (by kernel_rfl) ?_
  have e1' := sumL b n 2166136261 hb
  have e2' := (congrArg (fun z => AV.int .i64 z) (wrap_i64 (e := (32 : Int) - if (32 : Int) < if (1 : Int) > n then (1 : Int) else n then (32 : Int) else if (1 : Int) > n then (1 : Int) else n) (by omega) (by omega)))
  refine g_q [⟨5, [.sel [1, 5, 8, 9, 10]], .loop (exOf e1') (endOf e1')⟩, ⟨15, [], .as (rhsOf e2')⟩] [.sel [4]] Exit.ret (stOf 31 [(4, AV.int .u32 (IntKind.u32.wrap (↑(BitVec.ofInt IntKind.u32.bits (IntKind.u32.wrap (↑(BitVec.ofInt IntKind.u32.bits (sumK b (2166136261 : Int) b.size) ^^^ BitVec.ofInt IntKind.u32.bits ((sumK b (2166136261 : Int) b.size).fdiv ((2 : Int) ^ min (Int.toNat (16 : Int)) IntKind.u32.bits))).toNat : Int)) &&& BitVec.ofInt IntKind.u32.bits (Int.fdiv (4294967295 : Int) ((2 : Int) ^ min ((32 : Int) - if (32 : Int) < if (1 : Int) > n then (1 : Int) else n then (32 : Int) else if (1 : Int) > n then (1 : Int) else n).toNat IntKind.u32.bits))).toNat : Int)))] []) (And.intro e1' (And.intro (show (0 : Int) ≤ (16 : Int) from (by omega)) (And.intro e2' (show (0 : Int) ≤ (32 : Int) - if (32 : Int) < if (1 : Int) > n then (1 : Int) else n then (32 : Int) else if (1 : Int) > n then (1 : Int) else n from (by omega))))) ?_
  refine g_f [] [] (AV.int .u32 (IntKind.u32.wrap (↑(BitVec.ofInt IntKind.u32.bits (IntKind.u32.wrap (↑(BitVec.ofInt IntKind.u32.bits (sumK b (2166136261 : Int) b.size) ^^^ BitVec.ofInt IntKind.u32.bits ((sumK b (2166136261 : Int) b.size).fdiv ((2 : Int) ^ min (Int.toNat (16 : Int)) IntKind.u32.bits))).toNat : Int)) &&& BitVec.ofInt IntKind.u32.bits (Int.fdiv (4294967295 : Int) ((2 : Int) ^ min ((32 : Int) - if (32 : Int) < if (1 : Int) > n then (1 : Int) else n then (32 : Int) else if (1 : Int) > n then (1 : Int) else n).toNat IntKind.u32.bits))).toNat : Int))) ([]) trivial ?_
  exact ⟨rfl, rfl⟩
theorem text_v (b : ByteArray) (n : Int) (hb : b.size ≤ 1000000) : CallsV Try.prog 39 [.str b, .int .i64 n] [] (fun av H' => av = .int .u32 (textF b n) ∧ H' = []) := by
  refine callsG_at Try.func39 (by kernel_rfl) ?_
  have e1' := sum_v b n hb
  refine g_q [⟨4, [], .call (avOf e1') (blOf e1') []⟩] [.sel [4]] Exit.ret (stOf 9 [(4, AV.int .u32 (textF b n))] []) (And.intro (show b.size ≤ maxLen from (by (unfold maxLen; omega))) e1') ?_
  refine g_f [] [] (AV.int .u32 (textF b n)) ([]) trivial ?_
  exact ⟨rfl, rfl⟩
abbrev sM : ByteArray := ByteArray.mk #[109]
abbrev sF : ByteArray := ByteArray.mk #[102]
abbrev sMF : ByteArray := ByteArray.mk #[109, 46, 102]
def resO (k : Int) : Int := IntKind.i64.wrap (1 + IntKind.i64.wrap (k.tmod 3))
abbrev insO (k : Int) : AV := .slv 2 2 [.int .i64 1, .int .i64 (IntKind.i64.wrap k), .int .i64 16, .int .i64 0]
abbrev sigO (k : Int) : AV := .slv 1 3 [.str sF, .nilsl, .int .i64 (resO k)]
abbrev codO (k : Int) : AV := .slv 1 5 [.str sMF, .nilsl, .int .i64 (resO k), .nilsl, insO k]
abbrev namO : AV := .slv 1 1 [.str sMF]
/-- an object -/
abbrev obV (k : Int) : List AV := [.str sM, sigO k, codO k, namO]
theorem obj_v (k : Int) : CallsV Try.prog 15 [.int .u8 k] [] (fun av H' => av = .agg (obV k) ∧ H' = []) := by
  refine CallsV.byval (x := .agg [.str sM, .sl 0 0 1 3, .sl 1 0 1 5, .sl 2 0 1 1]) (Bs := [.row 63 [.str sF, .nilsl, .int .i64 (resO k)], .row 66 [.str sMF, .nilsl, .int .i64 (resO k), .nilsl, .sl 3 0 2 2], .row 9 [.str sMF], .row 68 [.int .i64 1, .int .i64 (IntKind.i64.wrap k), .int .i64 16, .int .i64 0]]) ?_ (by kernel_rfl)
  refine callsG_at Try.func15 (by kernel_rfl) ?_
  refine g_q [] [.sel [2]] Exit.ret (stOf 23 [(2, AV.ptr 0 0)] [Blk.row 49 [AV.str (ByteArray.mk #[(109 : UInt8)]), AV.sl 1 0 1 3, AV.sl 3 0 1 5, AV.sl 4 0 1 1], Blk.row 63 [AV.str (ByteArray.mk #[(102 : UInt8)]), AV.nilsl, AV.int .i64 (IntKind.i64.wrap ((1 : Int) + IntKind.i64.wrap (k.tmod (3 : Int))))], Blk.row 68 [AV.int .i64 (1 : Int), AV.int .i64 (IntKind.i64.wrap k), AV.int .i64 (16 : Int), AV.int .i64 (0 : Int)], Blk.row 66 [AV.str (ByteArray.mk #[(109 : UInt8), (46 : UInt8), (102 : UInt8)]), AV.nilsl, AV.int .i64 (IntKind.i64.wrap ((1 : Int) + IntKind.i64.wrap (k.tmod (3 : Int)))), AV.nilsl, AV.sl 2 0 2 2], Blk.row 9 [AV.str (ByteArray.mk #[(109 : UInt8), (46 : UInt8), (102 : UInt8)])]]) (And.intro (show (3 : Int) ≠ (0 : Int) from (by omega)) (And.intro (show (3 : Int) ≠ (0 : Int) from (by omega)) (show 4 ≤ 4 from (by omega)))) ?_
  refine g_f [1, 3, 4, 2] [false, false, false, false] (AV.agg [AV.str (ByteArray.mk #[(109 : UInt8)]), AV.sl 0 0 1 3, AV.sl 1 0 1 5, AV.sl 2 0 1 1]) ([Blk.row 63 [AV.str (ByteArray.mk #[(102 : UInt8)]), AV.nilsl, AV.int .i64 (IntKind.i64.wrap ((1 : Int) + IntKind.i64.wrap (k.tmod (3 : Int))))], Blk.row 66 [AV.str (ByteArray.mk #[(109 : UInt8), (46 : UInt8), (102 : UInt8)]), AV.nilsl, AV.int .i64 (IntKind.i64.wrap ((1 : Int) + IntKind.i64.wrap (k.tmod (3 : Int)))), AV.nilsl, AV.sl 3 0 2 2], Blk.row 9 [AV.str (ByteArray.mk #[(109 : UInt8), (46 : UInt8), (102 : UInt8)])], Blk.row 68 [AV.int .i64 (1 : Int), AV.int .i64 (IntKind.i64.wrap k), AV.int .i64 (16 : Int), AV.int .i64 (0 : Int)]]) (show 4 ≤ 4 from (by omega)) ?_
  exact ⟨rfl, rfl⟩
theorem cloStr (cs : List AV) (h : ∀ x ∈ cs, noid0 x = true) : CallsV Try.prog 40 [.slv 1 1 cs] [] (fun av H' => av = .sl 0 0 1 1 ∧ H' = [.row 9 cs]) := by
  refine callsG_at Try.func40 (by kernel_rfl) ?_
  refine g_q [] [.sel [2]] Exit.ret (stOf 8 [(2, AV.sl 1 0 1 1)] [Blk.dead, Blk.row 9 cs]) (And.intro (show 0 ≤ 0 from (by omega)) (And.intro (show 16 ≤ 140737488355328 from (by omega)) (show 1 ≤ maxLen from (by (unfold maxLen; omega))))) ?_
  refine g_f [1] [true] (AV.sl 0 0 1 1) ([Blk.row 9 cs]) (show ∀ (x : AV), x ∈ cs → noid0 x = true from h) ?_
  exact ⟨rfl, rfl⟩
theorem cloIns (k : Int) : CallsV Try.prog 42 [insO k] [] (fun av H' => av = .sl 0 0 2 2 ∧ H' = [.row 68 [.int .i64 1, .int .i64 (IntKind.i64.wrap k), .int .i64 16, .int .i64 0]]) := by
  refine callsG_at Try.func42 (by kernel_rfl) ?_
  skip
  refine g_q [] [.sel [2]] Exit.ret (stOf 8 [(2, AV.sl 1 0 2 2)] [Blk.dead, Blk.row 68 [AV.int .i64 (1 : Int), AV.int .i64 (IntKind.i64.wrap k), AV.int .i64 (16 : Int), AV.int .i64 (0 : Int)]]) (And.intro (show 0 ≤ 0 from (by omega)) (And.intro (show 32 ≤ 140737488355328 from (by omega)) (show 2 ≤ maxLen from (by (unfold maxLen; omega))))) ?_
  refine g_f [1] [false] (AV.sl 0 0 2 2) ([Blk.row 68 [AV.int .i64 (1 : Int), AV.int .i64 (IntKind.i64.wrap k), AV.int .i64 (16 : Int), AV.int .i64 (0 : Int)]]) trivial ?_
  exact ⟨rfl, rfl⟩
theorem cloNil : CallsV Try.prog 41 [.nilsl] [] (fun av H' => av = .nilsl ∧ H' = []) := by
  refine callsG_at Try.func41 (by kernel_rfl) ?_
  refine g_q [] [.sel [2]] Exit.ret (stOf 8 [(2, AV.nilsl)] []) trivial ?_
  refine g_f [] [] (AV.nilsl) ([]) trivial ?_
  exact ⟨rfl, rfl⟩
theorem clone_v (k : Int) : CallsV Try.prog 27 [.agg (obV k)] [] (fun av H' => av = .agg (obV k) ∧ H' = []) := by
  refine CallsV.byval (x := .agg [.str sM, .sl 0 0 1 3, .sl 1 0 1 5, .sl 2 0 1 1]) (Bs := [.row 63 [.str sF, .nilsl, .int .i64 (resO k)], .row 66 [.str sMF, .nilsl, .int .i64 (resO k), .nilsl, .sl 3 0 2 2], .row 9 [.str sMF], .row 68 [.int .i64 1, .int .i64 (IntKind.i64.wrap k), .int .i64 16, .int .i64 0]]) ?_ (by kernel_rfl)
  refine callsG_at Try.func27 (by kernel_rfl) ?_
  have unroll := trivial
  have c1 := cloStr [.str sMF] (by simp [noid0])
  have e1' := c1
  have e2' := cloNil
  have e3' := cloIns k
  refine g_qB [⟨8, [.flags [false, false] false], .call (avOf e1') (blOf e1') [false]⟩, ⟨10, [.flags [false, false] false], .no⟩, ⟨26, [], .call (avOf e2') (blOf e2') []⟩, ⟨56, [], .call (avOf e2') (blOf e2') []⟩, ⟨59, [], .call (avOf e2') (blOf e2') []⟩, ⟨62, [], .call (avOf e3') (blOf e3') [false]⟩] [.sel [2]] Exit.ret (stOf 64 [(2, AV.ptr 1 0)] [Blk.row 49 [AV.str sM, AV.slv 1 3 [AV.str sF, AV.nilsl, AV.int .i64 (resO k)], AV.slv 1 5 [AV.str sMF, AV.nilsl, AV.int .i64 (resO k), AV.nilsl, AV.slv 2 2 [AV.int .i64 (1 : Int), AV.int .i64 (IntKind.i64.wrap k), AV.int .i64 (16 : Int), AV.int .i64 (0 : Int)]], AV.slv 1 1 [AV.str sMF]], Blk.row 49 [AV.str sM, AV.sl 6 0 1 3, AV.sl 10 0 1 5, AV.sl 2 0 1 1], Blk.row 9 [AV.str sMF], Blk.row 49 [AV.str sM, AV.sl 6 0 1 3, AV.sl 10 0 1 5, AV.sl 2 0 1 1], Blk.row 63 [AV.str sF, AV.nilsl, AV.int .i64 (resO k)], Blk.row 63 [AV.str sF, AV.nilsl, AV.int .i64 (resO k)], Blk.row 63 [AV.str sF, AV.nilsl, AV.int .i64 (resO k)], Blk.row 66 [AV.str sMF, AV.nilsl, AV.int .i64 (resO k), AV.nilsl, AV.sl 8 0 2 2], Blk.row 68 [AV.int .i64 (1 : Int), AV.int .i64 (IntKind.i64.wrap k), AV.int .i64 (16 : Int), AV.int .i64 (0 : Int)], Blk.row 66 [AV.str sMF, AV.nilsl, AV.int .i64 (resO k), AV.nilsl, AV.sl 8 0 2 2], Blk.row 66 [AV.str sMF, AV.nilsl, AV.int .i64 (resO k), AV.nilsl, AV.sl 8 0 2 2]]) (And.intro (show 1 ≤ 4 from (by omega)) (And.intro (show 1 ≤ 1 from (by omega)) (And.intro e1' (And.intro e1' (And.intro (show 4 ≤ 4 from (by omega)) (And.intro (show 1 ≤ 3 from (by omega)) (And.intro (show (0 : Int) ≤ (0 : Int) ∧ (0 : Int) < (↑1 : Int) from (by omega)) (And.intro (show 3 ≤ 3 from (by omega)) (And.intro (show 3 ≤ 3 from (by omega)) (And.intro (show 1 ≤ 2 from (by omega)) (And.intro e2' (And.intro (show 2 ≤ 3 from (by omega)) (And.intro (show 1 ≤ 3 from (by omega)) (And.intro (show 3 ≤ 3 from (by omega)) (And.intro (show 3 ≤ 3 from (by omega)) (And.intro (show 48 ≤ 140737488355328 from (by omega)) (And.intro (show 1 ≤ maxLen from (by (unfold maxLen; omega))) (And.intro (show 2 ≤ 4 from (by omega)) (And.intro (show 1 ≤ 2 from (by omega)) (And.intro (show (0 : Int) ≤ (0 : Int) ∧ (0 : Int) < (↑1 : Int) from (by omega)) (And.intro (show 5 ≤ 5 from (by omega)) (And.intro (show 5 ≤ 5 from (by omega)) (And.intro (show 1 ≤ 4 from (by omega)) (And.intro (show 1 ≤ 2 from (by omega)) (And.intro (show 1 ≤ 1 from (by omega)) (And.intro e2' (And.intro e2' (And.intro e3' (And.intro (show 2 ≤ 5 from (by omega)) (And.intro (show 4 ≤ 5 from (by omega)) (And.intro (show 5 ≤ 5 from (by omega)) (And.intro (show 1 ≤ 2 from (by omega)) (And.intro (show 5 ≤ 5 from (by omega)) (And.intro (show 5 ≤ 5 from (by omega)) (And.intro (show 96 ≤ 140737488355328 from (by omega)) (And.intro (show 1 ≤ maxLen from (by (unfold maxLen; omega))) (And.intro (show 3 ≤ 4 from (by omega)) (And.intro (show 4 ≤ 4 from (by omega)) (show 4 ≤ 4 from (by omega)))))))))))))))))))))))))))))))))))))))) ?_
  refine g_f [6, 10, 2, 8] [false, false, false, false] (AV.agg [AV.str sM, AV.sl 0 0 1 3, AV.sl 1 0 1 5, AV.sl 2 0 1 1]) ([Blk.row 63 [AV.str sF, AV.nilsl, AV.int .i64 (resO k)], Blk.row 66 [AV.str sMF, AV.nilsl, AV.int .i64 (resO k), AV.nilsl, AV.sl 3 0 2 2], Blk.row 9 [AV.str sMF], Blk.row 68 [AV.int .i64 (1 : Int), AV.int .i64 (IntKind.i64.wrap k), AV.int .i64 (16 : Int), AV.int .i64 (0 : Int)]]) (show 4 ≤ 4 from (by omega)) ?_
  exact ⟨rfl, rfl⟩
end Go.Proofs.Ytcmbhebgpboepaa
