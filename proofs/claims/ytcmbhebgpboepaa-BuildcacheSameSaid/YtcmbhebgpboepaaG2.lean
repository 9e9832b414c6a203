/-
  Objects: equality of lists, function by function.
-/
import Derived.Test.YtcmbhebgpboepaaG1
namespace Go.Proofs.Ytcmbhebgpboepaa
open Go Go.RowKit V
set_option linter.unusedSimpArgs false
set_option linter.unusedVariables false
set_option maxHeartbeats 20000000
theorem eqInts_F (l m : List Int) (hl : l.length ≤ 9223372036854775807) (n : Nat) (hlm : l.length = m.length) (hn : n < l.length) (h1 : ∀ k, k < n → eqI (l.getD k 0) (m.getD k 0) = true) (h2 : eqI (l.getD n 0) (m.getD n 0) = false) : LoopG Try.prog 0 Try.f45 0 .ret (stOf 26 [(4, .bool false)] []) (stOf 26 [(0, intsV l), (1, intsV m), (12, .int .i64 (l.length : Int)), (13, .int .i64 0)] []) := by
  refine loopG_of n (fun k => stOf 26 [(0, intsV l), (1, intsV m), (12, .int .i64 (l.length : Int)), (13, .int .i64 (k : Int))] []) (by kernel_rfl) (by simp) ?_ ?_
  · intro k hk
    have h1 : ((l.getD k 0) == (m.getD k 0)) = true := h1 k hk
    skip
    have e1' := (congrArg (fun z => AV.fptr z) (ints_at (l) (k) (by omega)))
    have e2' := (congrArg (fun z => AV.fptr z) (ints_at (m) (k) (by omega)))
    have e3' := (congrArg (fun z => AV.int .i64 z) (wrap_i64 (e := (↑k : Int) + (1 : Int)) (by omega) (by omega)))
    exact g_x [⟨1, [], .br true .no⟩, ⟨6, [], .as (rhsOf e1')⟩, ⟨10, [], .as (rhsOf e2')⟩, ⟨13, [], .br false .no⟩, ⟨14, [], .as (rhsOf e3')⟩] [.sel [0, 1, 12, 13]] (And.intro (show decide ((↑k : Int) < (↑l.length : Int)) = true from (by rw [decide_eq_true_iff]; omega)) (And.intro (show (0 : Int) ≤ (↑k : Int) ∧ (↑k : Int) < (↑l.length : Int) from (by omega)) (And.intro e1' (And.intro (show 1 ≤ (AV.int .i64 (l.getD k (0 : Int)) :: List.map (AV.int .i64) (List.drop (k + 1) l)).length from (by exact Nat.le_of_ble_eq_true (by kernel_rfl))) (And.intro (show (0 : Int) ≤ (↑k : Int) ∧ (↑k : Int) < (↑m.length : Int) from (by omega)) (And.intro e2' (And.intro (show 1 ≤ (AV.int .i64 (m.getD k (0 : Int)) :: List.map (AV.int .i64) (List.drop (k + 1) m)).length from (by exact Nat.le_of_ble_eq_true (by kernel_rfl))) (And.intro (show (l.getD k (0 : Int) != m.getD k (0 : Int)) = false from (by simp_all; done)) e3'))))))))
  · have h1 := h1
    have h2 : ((l.getD n 0) == (m.getD n 0)) = false := h2
    skip
    have e1' := (congrArg (fun z => AV.fptr z) (ints_at (l) (n) (by assumption)))
    have e2' := (congrArg (fun z => AV.fptr z) (ints_at (m) (n) (by omega)))
    exact g_x [⟨1, [], .br true .no⟩, ⟨6, [], .as (rhsOf e1')⟩, ⟨10, [], .as (rhsOf e2')⟩, ⟨13, [], .br true .no⟩] [.sel [4]] (And.intro (show decide ((↑n : Int) < (↑l.length : Int)) = true from (by rw [decide_eq_true_iff]; omega)) (And.intro (show (0 : Int) ≤ (↑n : Int) ∧ (↑n : Int) < (↑l.length : Int) from (by omega)) (And.intro e1' (And.intro (show 1 ≤ (AV.int .i64 (l.getD n (0 : Int)) :: List.map (AV.int .i64) (List.drop (n + 1) l)).length from (by exact Nat.le_of_ble_eq_true (by kernel_rfl))) (And.intro (show (0 : Int) ≤ (↑n : Int) ∧ (↑n : Int) < (↑m.length : Int) from (by omega)) (And.intro e2' (And.intro (show 1 ≤ (AV.int .i64 (m.getD n (0 : Int)) :: List.map (AV.int .i64) (List.drop (n + 1) m)).length from (by exact Nat.le_of_ble_eq_true (by kernel_rfl))) (show (l.getD n (0 : Int) != m.getD n (0 : Int)) = true from (by simp_all; done)))))))))
theorem eqInts_T (l m : List Int) (hl : l.length ≤ 9223372036854775807) (hlm : l.length = m.length) (h1 : ∀ k, k < l.length → eqI (l.getD k 0) (m.getD k 0) = true) : LoopG Try.prog 0 Try.f45 0 (.exit 0) (stOf 26 [] []) (stOf 26 [(0, intsV l), (1, intsV m), (12, .int .i64 (l.length : Int)), (13, .int .i64 0)] []) := by
  refine loopG_of l.length (fun k => stOf 26 [(0, intsV l), (1, intsV m), (12, .int .i64 (l.length : Int)), (13, .int .i64 (k : Int))] []) (by kernel_rfl) (by simp) ?_ ?_
  · intro k hk
    have h1 : ((l.getD k 0) == (m.getD k 0)) = true := h1 k hk
    skip
    have e1' := (congrArg (fun z => AV.fptr z) (ints_at (l) (k) (by assumption)))
    have e2' := (congrArg (fun z => AV.fptr z) (ints_at (m) (k) (by omega)))
    have e3' := (congrArg (fun z => AV.int .i64 z) (wrap_i64 (e := (↑k : Int) + (1 : Int)) (by omega) (by omega)))
    exact g_x [⟨1, [], .br true .no⟩, ⟨6, [], .as (rhsOf e1')⟩, ⟨10, [], .as (rhsOf e2')⟩, ⟨13, [], .br false .no⟩, ⟨14, [], .as (rhsOf e3')⟩] [.sel [0, 1, 12, 13]] (And.intro (show decide ((↑k : Int) < (↑l.length : Int)) = true from (by rw [decide_eq_true_iff]; omega)) (And.intro (show (0 : Int) ≤ (↑k : Int) ∧ (↑k : Int) < (↑l.length : Int) from (by omega)) (And.intro e1' (And.intro (show 1 ≤ (AV.int .i64 (l.getD k (0 : Int)) :: List.map (AV.int .i64) (List.drop (k + 1) l)).length from (by exact Nat.le_of_ble_eq_true (by kernel_rfl))) (And.intro (show (0 : Int) ≤ (↑k : Int) ∧ (↑k : Int) < (↑m.length : Int) from (by omega)) (And.intro e2' (And.intro (show 1 ≤ (AV.int .i64 (m.getD k (0 : Int)) :: List.map (AV.int .i64) (List.drop (k + 1) m)).length from (by exact Nat.le_of_ble_eq_true (by kernel_rfl))) (And.intro (show (l.getD k (0 : Int) != m.getD k (0 : Int)) = false from (by simp_all; done)) e3'))))))))
  · exact g_x [⟨1, [], .br false .no⟩] [.sel []] (show decide ((↑l.length : Int) < (↑l.length : Int)) = false from (by rw [decide_eq_false_iff_not]; omega))
theorem eqInts (l m : List Int) (hl : l.length ≤ 9223372036854775807) (hm : m.length ≤ 9223372036854775807) : CallsV Try.prog 45 [intsV l, intsV m] [] (fun av H' => av = .bool (eqL eqI l m) ∧ H' = []) := by
  refine callsG_at Try.func45 (by kernel_rfl) ?_
  by_cases hlm : l.length = m.length
  · rcases eqL_or eqI 0 l m hlm with ⟨he, h1⟩ | ⟨he, n, hn, h1, h2⟩
    · have e1' := eqInts_T l m  hl hlm h1
      refine g_q [⟨6, [], .br false .no⟩, ⟨10, [.sel [0, 1, 12, 13]], .loop (exOf e1') (endOf e1')⟩] [] Exit.ret (stOf 26 [(4, AV.bool true)] []) (And.intro (show ((↑l.length : Int) != (↑m.length : Int)) = false from (by simp_all; done)) e1') ?_
      refine g_f [] [] (AV.bool true) ([]) trivial ?_
      exact ⟨congrArg AV.bool he.symm, rfl⟩
    · have e1' := eqInts_F l m  hl n hlm hn h1 h2
      refine g_q [⟨6, [], .br false .no⟩, ⟨10, [.sel [0, 1, 12, 13]], .loop (exOf e1') (endOf e1')⟩] [] Exit.ret (stOf 26 [(4, AV.bool false)] []) (And.intro (show ((↑l.length : Int) != (↑m.length : Int)) = false from (by simp_all; done)) e1') ?_
      refine g_f [] [] (AV.bool false) ([]) trivial ?_
      exact ⟨congrArg AV.bool he.symm, rfl⟩
  · have he := eqL_len eqI l m hlm
    refine g_q [⟨6, [], .br true .no⟩] [.sel [4]] Exit.ret (stOf 26 [(4, AV.bool false)] []) (show ((↑l.length : Int) != (↑m.length : Int)) = true from (by simp_all; omega)) ?_
    refine g_f [] [] (AV.bool false) ([]) trivial ?_
    exact ⟨congrArg AV.bool he.symm, rfl⟩
theorem eqStrs_F (l m : List ByteArray) (hl : l.length ≤ 9223372036854775807) (n : Nat) (hlm : l.length = m.length) (hn : n < l.length) (h1 : ∀ k, k < n → eqB (l.getD k ByteArray.empty) (m.getD k ByteArray.empty) = true) (h2 : eqB (l.getD n ByteArray.empty) (m.getD n ByteArray.empty) = false) : LoopG Try.prog 0 Try.f37 0 .ret (stOf 26 [(4, .bool false)] []) (stOf 26 [(0, strsV l), (1, strsV m), (12, .int .i64 (l.length : Int)), (13, .int .i64 0)] []) := by
  refine loopG_of n (fun k => stOf 26 [(0, strsV l), (1, strsV m), (12, .int .i64 (l.length : Int)), (13, .int .i64 (k : Int))] []) (by kernel_rfl) (by simp) ?_ ?_
  · intro k hk
    have h1 : ((l.getD k ByteArray.empty).toList == (m.getD k ByteArray.empty).toList) = true := h1 k hk
    skip
    have e1' := (congrArg (fun z => AV.fptr z) (strs_at (l) (k) (by omega)))
    have e2' := (congrArg (fun z => AV.fptr z) (strs_at (m) (k) (by omega)))
    have e3' := (congrArg (fun z => AV.int .i64 z) (wrap_i64 (e := (↑k : Int) + (1 : Int)) (by omega) (by omega)))
    exact g_x [⟨1, [], .br true .no⟩, ⟨6, [], .as (rhsOf e1')⟩, ⟨10, [], .as (rhsOf e2')⟩, ⟨13, [], .br false .no⟩, ⟨14, [], .as (rhsOf e3')⟩] [.sel [0, 1, 12, 13]] (And.intro (show decide ((↑k : Int) < (↑l.length : Int)) = true from (by rw [decide_eq_true_iff]; omega)) (And.intro (show (0 : Int) ≤ (↑k : Int) ∧ (↑k : Int) < (↑l.length : Int) from (by omega)) (And.intro e1' (And.intro (show 1 ≤ (AV.str (l.getD k ByteArray.empty) :: List.map AV.str (List.drop (k + 1) l)).length from (by exact Nat.le_of_ble_eq_true (by kernel_rfl))) (And.intro (show (0 : Int) ≤ (↑k : Int) ∧ (↑k : Int) < (↑m.length : Int) from (by omega)) (And.intro e2' (And.intro (show 1 ≤ (AV.str (m.getD k ByteArray.empty) :: List.map AV.str (List.drop (k + 1) m)).length from (by exact Nat.le_of_ble_eq_true (by kernel_rfl))) (And.intro (congrArg (fun z => !z) h1) e3'))))))))
  · have h1 := h1
    have h2 : ((l.getD n ByteArray.empty).toList == (m.getD n ByteArray.empty).toList) = false := h2
    skip
    have e1' := (congrArg (fun z => AV.fptr z) (strs_at (l) (n) (by assumption)))
    have e2' := (congrArg (fun z => AV.fptr z) (strs_at (m) (n) (by omega)))
    exact g_x [⟨1, [], .br true .no⟩, ⟨6, [], .as (rhsOf e1')⟩, ⟨10, [], .as (rhsOf e2')⟩, ⟨13, [], .br true .no⟩] [.sel [4]] (And.intro (show decide ((↑n : Int) < (↑l.length : Int)) = true from (by rw [decide_eq_true_iff]; omega)) (And.intro (show (0 : Int) ≤ (↑n : Int) ∧ (↑n : Int) < (↑l.length : Int) from (by omega)) (And.intro e1' (And.intro (show 1 ≤ (AV.str (l.getD n ByteArray.empty) :: List.map AV.str (List.drop (n + 1) l)).length from (by exact Nat.le_of_ble_eq_true (by kernel_rfl))) (And.intro (show (0 : Int) ≤ (↑n : Int) ∧ (↑n : Int) < (↑m.length : Int) from (by omega)) (And.intro e2' (And.intro (show 1 ≤ (AV.str (m.getD n ByteArray.empty) :: List.map AV.str (List.drop (n + 1) m)).length from (by exact Nat.le_of_ble_eq_true (by kernel_rfl))) (congrArg (fun z => !z) h2))))))))
theorem eqStrs_T (l m : List ByteArray) (hl : l.length ≤ 9223372036854775807) (hlm : l.length = m.length) (h1 : ∀ k, k < l.length → eqB (l.getD k ByteArray.empty) (m.getD k ByteArray.empty) = true) : LoopG Try.prog 0 Try.f37 0 (.exit 0) (stOf 26 [] []) (stOf 26 [(0, strsV l), (1, strsV m), (12, .int .i64 (l.length : Int)), (13, .int .i64 0)] []) := by
  refine loopG_of l.length (fun k => stOf 26 [(0, strsV l), (1, strsV m), (12, .int .i64 (l.length : Int)), (13, .int .i64 (k : Int))] []) (by kernel_rfl) (by simp) ?_ ?_
  · intro k hk
    have h1 : ((l.getD k ByteArray.empty).toList == (m.getD k ByteArray.empty).toList) = true := h1 k hk
    skip
    have e1' := (congrArg (fun z => AV.fptr z) (strs_at (l) (k) (by assumption)))
    have e2' := (congrArg (fun z => AV.fptr z) (strs_at (m) (k) (by omega)))
    have e3' := (congrArg (fun z => AV.int .i64 z) (wrap_i64 (e := (↑k : Int) + (1 : Int)) (by omega) (by omega)))
    exact g_x [⟨1, [], .br true .no⟩, ⟨6, [], .as (rhsOf e1')⟩, ⟨10, [], .as (rhsOf e2')⟩, ⟨13, [], .br false .no⟩, ⟨14, [], .as (rhsOf e3')⟩] [.sel [0, 1, 12, 13]] (And.intro (show decide ((↑k : Int) < (↑l.length : Int)) = true from (by rw [decide_eq_true_iff]; omega)) (And.intro (show (0 : Int) ≤ (↑k : Int) ∧ (↑k : Int) < (↑l.length : Int) from (by omega)) (And.intro e1' (And.intro (show 1 ≤ (AV.str (l.getD k ByteArray.empty) :: List.map AV.str (List.drop (k + 1) l)).length from (by exact Nat.le_of_ble_eq_true (by kernel_rfl))) (And.intro (show (0 : Int) ≤ (↑k : Int) ∧ (↑k : Int) < (↑m.length : Int) from (by omega)) (And.intro e2' (And.intro (show 1 ≤ (AV.str (m.getD k ByteArray.empty) :: List.map AV.str (List.drop (k + 1) m)).length from (by exact Nat.le_of_ble_eq_true (by kernel_rfl))) (And.intro (congrArg (fun z => !z) h1) e3'))))))))
  · exact g_x [⟨1, [], .br false .no⟩] [.sel []] (show decide ((↑l.length : Int) < (↑l.length : Int)) = false from (by rw [decide_eq_false_iff_not]; omega))
theorem eqStrs (l m : List ByteArray) (hl : l.length ≤ 9223372036854775807) (hm : m.length ≤ 9223372036854775807) : CallsV Try.prog 37 [strsV l, strsV m] [] (fun av H' => av = .bool (eqL eqB l m) ∧ H' = []) := by
  refine callsG_at Try.func37 (by kernel_rfl) ?_
  by_cases hlm : l.length = m.length
  · rcases eqL_or eqB ByteArray.empty l m hlm with ⟨he, h1⟩ | ⟨he, n, hn, h1, h2⟩
    · have e1' := eqStrs_T l m  hl hlm h1
      refine g_q [⟨6, [], .br false .no⟩, ⟨10, [.sel [0, 1, 12, 13]], .loop (exOf e1') (endOf e1')⟩] [] Exit.ret (stOf 26 [(4, AV.bool true)] []) (And.intro (show ((↑l.length : Int) != (↑m.length : Int)) = false from (by simp_all; done)) e1') ?_
      refine g_f [] [] (AV.bool true) ([]) trivial ?_
      exact ⟨congrArg AV.bool he.symm, rfl⟩
    · have e1' := eqStrs_F l m  hl n hlm hn h1 h2
      refine g_q [⟨6, [], .br false .no⟩, ⟨10, [.sel [0, 1, 12, 13]], .loop (exOf e1') (endOf e1')⟩] [] Exit.ret (stOf 26 [(4, AV.bool false)] []) (And.intro (show ((↑l.length : Int) != (↑m.length : Int)) = false from (by simp_all; done)) e1') ?_
      refine g_f [] [] (AV.bool false) ([]) trivial ?_
      exact ⟨congrArg AV.bool he.symm, rfl⟩
  · have he := eqL_len eqB l m hlm
    refine g_q [⟨6, [], .br true .no⟩] [.sel [4]] Exit.ret (stOf 26 [(4, AV.bool false)] []) (show ((↑l.length : Int) != (↑m.length : Int)) = true from (by simp_all; omega)) ?_
    refine g_f [] [] (AV.bool false) ([]) trivial ?_
    exact ⟨congrArg AV.bool he.symm, rfl⟩
theorem eqIns_F (l m : List (Int × Int)) (hl : l.length ≤ 9223372036854775807) (n : Nat) (hlm : l.length = m.length) (hn : n < l.length) (h1 : ∀ k, k < n → eqP (l.getD k (0, 0)) (m.getD k (0, 0)) = true) (h2 : eqP (l.getD n (0, 0)) (m.getD n (0, 0)) = false) : LoopG Try.prog 0 Try.f46 0 .ret (stOf 26 [(4, .bool false)] []) (stOf 26 [(0, insV l), (1, insV m), (12, .int .i64 (l.length : Int)), (13, .int .i64 0)] []) := by
  refine loopG_of n (fun k => stOf 26 [(0, insV l), (1, insV m), (12, .int .i64 (l.length : Int)), (13, .int .i64 (k : Int))] []) (by kernel_rfl) (by simp) ?_ ?_
  · intro k hk
    have h1 : ((l.getD k (0, 0)).1 == (m.getD k (0, 0)).1 && (l.getD k (0, 0)).2 == (m.getD k (0, 0)).2) = true := h1 k hk
    skip
    have e1' := (congrArg (fun z => AV.fptr z) (ins_at (l) (k) (by omega)))
    have e2' := (congrArg (fun z => AV.fptr z) (ins_at (m) (k) (by omega)))
    have e3' := (congrArg (fun z => AV.int .i64 z) (wrap_i64 (e := (↑k : Int) + (1 : Int)) (by omega) (by omega)))
    exact g_x [⟨1, [], .br true .no⟩, ⟨6, [], .as (rhsOf e1')⟩, ⟨10, [], .as (rhsOf e2')⟩, ⟨13, [], .br false .no⟩, ⟨14, [], .as (rhsOf e3')⟩] [.sel [0, 1, 12, 13]] (And.intro (show decide ((↑k : Int) < (↑l.length : Int)) = true from (by rw [decide_eq_true_iff]; omega)) (And.intro (show (0 : Int) ≤ (↑k : Int) ∧ (↑k : Int) < (↑l.length : Int) from (by omega)) (And.intro e1' (And.intro (show 2 ≤ (AV.int .i64 (l.getD k ((0 : Int), (0 : Int))).fst :: AV.int .i64 (l.getD k ((0 : Int), (0 : Int))).snd :: flatA encI (List.drop (k + 1) l)).length from (by exact Nat.le_of_ble_eq_true (by kernel_rfl))) (And.intro (show (0 : Int) ≤ (↑k : Int) ∧ (↑k : Int) < (↑m.length : Int) from (by omega)) (And.intro e2' (And.intro (show 2 ≤ (AV.int .i64 (m.getD k ((0 : Int), (0 : Int))).fst :: AV.int .i64 (m.getD k ((0 : Int), (0 : Int))).snd :: flatA encI (List.drop (k + 1) m)).length from (by exact Nat.le_of_ble_eq_true (by kernel_rfl))) (And.intro (show (!((l.getD k ((0 : Int), (0 : Int))).fst == (m.getD k ((0 : Int), (0 : Int))).fst && ((l.getD k ((0 : Int), (0 : Int))).snd == (m.getD k ((0 : Int), (0 : Int))).snd && true))) = false from (by simp_all; done)) e3'))))))))
  · have h1 := h1
    have h2 : ((l.getD n (0, 0)).1 == (m.getD n (0, 0)).1 && (l.getD n (0, 0)).2 == (m.getD n (0, 0)).2) = false := h2
    skip
    have e1' := (congrArg (fun z => AV.fptr z) (ins_at (l) (n) (by assumption)))
    have e2' := (congrArg (fun z => AV.fptr z) (ins_at (m) (n) (by omega)))
    exact g_x [⟨1, [], .br true .no⟩, ⟨6, [], .as (rhsOf e1')⟩, ⟨10, [], .as (rhsOf e2')⟩, ⟨13, [], .br true .no⟩] [.sel [4]] (And.intro (show decide ((↑n : Int) < (↑l.length : Int)) = true from (by rw [decide_eq_true_iff]; omega)) (And.intro (show (0 : Int) ≤ (↑n : Int) ∧ (↑n : Int) < (↑l.length : Int) from (by omega)) (And.intro e1' (And.intro (show 2 ≤ (AV.int .i64 (l.getD n ((0 : Int), (0 : Int))).fst :: AV.int .i64 (l.getD n ((0 : Int), (0 : Int))).snd :: flatA encI (List.drop (n + 1) l)).length from (by exact Nat.le_of_ble_eq_true (by kernel_rfl))) (And.intro (show (0 : Int) ≤ (↑n : Int) ∧ (↑n : Int) < (↑m.length : Int) from (by omega)) (And.intro e2' (And.intro (show 2 ≤ (AV.int .i64 (m.getD n ((0 : Int), (0 : Int))).fst :: AV.int .i64 (m.getD n ((0 : Int), (0 : Int))).snd :: flatA encI (List.drop (n + 1) m)).length from (by exact Nat.le_of_ble_eq_true (by kernel_rfl))) (show (!((l.getD n ((0 : Int), (0 : Int))).fst == (m.getD n ((0 : Int), (0 : Int))).fst && ((l.getD n ((0 : Int), (0 : Int))).snd == (m.getD n ((0 : Int), (0 : Int))).snd && true))) = true from (by simp_all; omega)))))))))
theorem eqIns_T (l m : List (Int × Int)) (hl : l.length ≤ 9223372036854775807) (hlm : l.length = m.length) (h1 : ∀ k, k < l.length → eqP (l.getD k (0, 0)) (m.getD k (0, 0)) = true) : LoopG Try.prog 0 Try.f46 0 (.exit 0) (stOf 26 [] []) (stOf 26 [(0, insV l), (1, insV m), (12, .int .i64 (l.length : Int)), (13, .int .i64 0)] []) := by
  refine loopG_of l.length (fun k => stOf 26 [(0, insV l), (1, insV m), (12, .int .i64 (l.length : Int)), (13, .int .i64 (k : Int))] []) (by kernel_rfl) (by simp) ?_ ?_
  · intro k hk
    have h1 : ((l.getD k (0, 0)).1 == (m.getD k (0, 0)).1 && (l.getD k (0, 0)).2 == (m.getD k (0, 0)).2) = true := h1 k hk
    skip
    have e1' := (congrArg (fun z => AV.fptr z) (ins_at (l) (k) (by assumption)))
    have e2' := (congrArg (fun z => AV.fptr z) (ins_at (m) (k) (by omega)))
    have e3' := (congrArg (fun z => AV.int .i64 z) (wrap_i64 (e := (↑k : Int) + (1 : Int)) (by omega) (by omega)))
    exact g_x [⟨1, [], .br true .no⟩, ⟨6, [], .as (rhsOf e1')⟩, ⟨10, [], .as (rhsOf e2')⟩, ⟨13, [], .br false .no⟩, ⟨14, [], .as (rhsOf e3')⟩] [.sel [0, 1, 12, 13]] (And.intro (show decide ((↑k : Int) < (↑l.length : Int)) = true from (by rw [decide_eq_true_iff]; omega)) (And.intro (show (0 : Int) ≤ (↑k : Int) ∧ (↑k : Int) < (↑l.length : Int) from (by omega)) (And.intro e1' (And.intro (show 2 ≤ (AV.int .i64 (l.getD k ((0 : Int), (0 : Int))).fst :: AV.int .i64 (l.getD k ((0 : Int), (0 : Int))).snd :: flatA encI (List.drop (k + 1) l)).length from (by exact Nat.le_of_ble_eq_true (by kernel_rfl))) (And.intro (show (0 : Int) ≤ (↑k : Int) ∧ (↑k : Int) < (↑m.length : Int) from (by omega)) (And.intro e2' (And.intro (show 2 ≤ (AV.int .i64 (m.getD k ((0 : Int), (0 : Int))).fst :: AV.int .i64 (m.getD k ((0 : Int), (0 : Int))).snd :: flatA encI (List.drop (k + 1) m)).length from (by exact Nat.le_of_ble_eq_true (by kernel_rfl))) (And.intro (show (!((l.getD k ((0 : Int), (0 : Int))).fst == (m.getD k ((0 : Int), (0 : Int))).fst && ((l.getD k ((0 : Int), (0 : Int))).snd == (m.getD k ((0 : Int), (0 : Int))).snd && true))) = false from (by simp_all; done)) e3'))))))))
  · exact g_x [⟨1, [], .br false .no⟩] [.sel []] (show decide ((↑l.length : Int) < (↑l.length : Int)) = false from (by rw [decide_eq_false_iff_not]; omega))
theorem eqIns (l m : List (Int × Int)) (hl : l.length ≤ 9223372036854775807) (hm : m.length ≤ 9223372036854775807) : CallsV Try.prog 46 [insV l, insV m] [] (fun av H' => av = .bool (eqL eqP l m) ∧ H' = []) := by
  refine callsG_at Try.func46 (by kernel_rfl) ?_
  by_cases hlm : l.length = m.length
  · rcases eqL_or eqP (0, 0) l m hlm with ⟨he, h1⟩ | ⟨he, n, hn, h1, h2⟩
    · have e1' := eqIns_T l m  hl hlm h1
      refine g_q [⟨6, [], .br false .no⟩, ⟨10, [.sel [0, 1, 12, 13]], .loop (exOf e1') (endOf e1')⟩] [] Exit.ret (stOf 26 [(4, AV.bool true)] []) (And.intro (show ((↑l.length : Int) != (↑m.length : Int)) = false from (by simp_all; done)) e1') ?_
      refine g_f [] [] (AV.bool true) ([]) trivial ?_
      exact ⟨congrArg AV.bool he.symm, rfl⟩
    · have e1' := eqIns_F l m  hl n hlm hn h1 h2
      refine g_q [⟨6, [], .br false .no⟩, ⟨10, [.sel [0, 1, 12, 13]], .loop (exOf e1') (endOf e1')⟩] [] Exit.ret (stOf 26 [(4, AV.bool false)] []) (And.intro (show ((↑l.length : Int) != (↑m.length : Int)) = false from (by simp_all; done)) e1') ?_
      refine g_f [] [] (AV.bool false) ([]) trivial ?_
      exact ⟨congrArg AV.bool he.symm, rfl⟩
  · have he := eqL_len eqP l m hlm
    refine g_q [⟨6, [], .br true .no⟩] [.sel [4]] Exit.ret (stOf 26 [(4, AV.bool false)] []) (show ((↑l.length : Int) != (↑m.length : Int)) = true from (by simp_all; omega)) ?_
    refine g_f [] [] (AV.bool false) ([]) trivial ?_
    exact ⟨congrArg AV.bool he.symm, rfl⟩
theorem refInts_F (l m : List Int) (hl : l.length ≤ 9223372036854775807) (n : Nat) (hlm : l.length = m.length) (hn : n < l.length) (h1 : ∀ k, k < n → eqI (l.getD k 0) (m.getD k 0) = true) (h2 : eqI (l.getD n 0) (m.getD n 0) = false) : LoopG Try.prog 0 Try.f43 0 .ret (stOf 26 [(4, .bool false)] []) (stOf 26 [(0, intsV l), (1, intsV m), (5, .int .i64 0)] []) := by
  refine loopG_of n (fun k => stOf 26 [(0, intsV l), (1, intsV m), (5, .int .i64 (k : Int))] []) (by kernel_rfl) (by simp) ?_ ?_
  · intro k hk
    have h1 : ((l.getD k 0) == (m.getD k 0)) = true := h1 k hk
    skip
    have e1' := (congrArg (fun z => AV.fptr z) (ints_at (l) (k) (by omega)))
    have e2' := (congrArg (fun z => AV.fptr z) (ints_at (m) (k) (by omega)))
    have e3' := (congrArg (fun z => AV.int .i64 z) (wrap_i64 (e := (↑k : Int) + (1 : Int)) (by omega) (by omega)))
    exact g_x [⟨4, [], .br true .no⟩, ⟨7, [], .as (rhsOf e1')⟩, ⟨11, [], .as (rhsOf e2')⟩, ⟨14, [], .br false .no⟩, ⟨16, [], .as (rhsOf e3')⟩] [.sel [0, 1, 5]] (And.intro (show decide ((↑k : Int) < (↑l.length : Int)) = true from (by rw [decide_eq_true_iff]; omega)) (And.intro (show (0 : Int) ≤ (↑k : Int) ∧ (↑k : Int) < (↑l.length : Int) from (by omega)) (And.intro e1' (And.intro (show 1 ≤ (AV.int .i64 (l.getD k (0 : Int)) :: List.map (AV.int .i64) (List.drop (k + 1) l)).length from (by exact Nat.le_of_ble_eq_true (by kernel_rfl))) (And.intro (show (0 : Int) ≤ (↑k : Int) ∧ (↑k : Int) < (↑m.length : Int) from (by omega)) (And.intro e2' (And.intro (show 1 ≤ (AV.int .i64 (m.getD k (0 : Int)) :: List.map (AV.int .i64) (List.drop (k + 1) m)).length from (by exact Nat.le_of_ble_eq_true (by kernel_rfl))) (And.intro (show (l.getD k (0 : Int) != m.getD k (0 : Int)) = false from (by simp_all; done)) e3'))))))))
  · have h1 := h1
    have h2 : ((l.getD n 0) == (m.getD n 0)) = false := h2
    skip
    have e1' := (congrArg (fun z => AV.fptr z) (ints_at (l) (n) (by assumption)))
    have e2' := (congrArg (fun z => AV.fptr z) (ints_at (m) (n) (by omega)))
    exact g_x [⟨4, [], .br true .no⟩, ⟨7, [], .as (rhsOf e1')⟩, ⟨11, [], .as (rhsOf e2')⟩, ⟨14, [], .br true .no⟩] [.sel [4]] (And.intro (show decide ((↑n : Int) < (↑l.length : Int)) = true from (by rw [decide_eq_true_iff]; omega)) (And.intro (show (0 : Int) ≤ (↑n : Int) ∧ (↑n : Int) < (↑l.length : Int) from (by omega)) (And.intro e1' (And.intro (show 1 ≤ (AV.int .i64 (l.getD n (0 : Int)) :: List.map (AV.int .i64) (List.drop (n + 1) l)).length from (by exact Nat.le_of_ble_eq_true (by kernel_rfl))) (And.intro (show (0 : Int) ≤ (↑n : Int) ∧ (↑n : Int) < (↑m.length : Int) from (by omega)) (And.intro e2' (And.intro (show 1 ≤ (AV.int .i64 (m.getD n (0 : Int)) :: List.map (AV.int .i64) (List.drop (n + 1) m)).length from (by exact Nat.le_of_ble_eq_true (by kernel_rfl))) (show (l.getD n (0 : Int) != m.getD n (0 : Int)) = true from (by simp_all; done)))))))))
theorem refInts_T (l m : List Int) (hl : l.length ≤ 9223372036854775807) (hlm : l.length = m.length) (h1 : ∀ k, k < l.length → eqI (l.getD k 0) (m.getD k 0) = true) : LoopG Try.prog 0 Try.f43 0 (.exit 0) (stOf 26 [] []) (stOf 26 [(0, intsV l), (1, intsV m), (5, .int .i64 0)] []) := by
  refine loopG_of l.length (fun k => stOf 26 [(0, intsV l), (1, intsV m), (5, .int .i64 (k : Int))] []) (by kernel_rfl) (by simp) ?_ ?_
  · intro k hk
    have h1 : ((l.getD k 0) == (m.getD k 0)) = true := h1 k hk
    skip
    have e1' := (congrArg (fun z => AV.fptr z) (ints_at (l) (k) (by assumption)))
    have e2' := (congrArg (fun z => AV.fptr z) (ints_at (m) (k) (by omega)))
    have e3' := (congrArg (fun z => AV.int .i64 z) (wrap_i64 (e := (↑k : Int) + (1 : Int)) (by omega) (by omega)))
    exact g_x [⟨4, [], .br true .no⟩, ⟨7, [], .as (rhsOf e1')⟩, ⟨11, [], .as (rhsOf e2')⟩, ⟨14, [], .br false .no⟩, ⟨16, [], .as (rhsOf e3')⟩] [.sel [0, 1, 5]] (And.intro (show decide ((↑k : Int) < (↑l.length : Int)) = true from (by rw [decide_eq_true_iff]; omega)) (And.intro (show (0 : Int) ≤ (↑k : Int) ∧ (↑k : Int) < (↑l.length : Int) from (by omega)) (And.intro e1' (And.intro (show 1 ≤ (AV.int .i64 (l.getD k (0 : Int)) :: List.map (AV.int .i64) (List.drop (k + 1) l)).length from (by exact Nat.le_of_ble_eq_true (by kernel_rfl))) (And.intro (show (0 : Int) ≤ (↑k : Int) ∧ (↑k : Int) < (↑m.length : Int) from (by omega)) (And.intro e2' (And.intro (show 1 ≤ (AV.int .i64 (m.getD k (0 : Int)) :: List.map (AV.int .i64) (List.drop (k + 1) m)).length from (by exact Nat.le_of_ble_eq_true (by kernel_rfl))) (And.intro (show (l.getD k (0 : Int) != m.getD k (0 : Int)) = false from (by simp_all; done)) e3'))))))))
  · exact g_x [⟨4, [], .br false .no⟩] [.sel []] (show decide ((↑l.length : Int) < (↑l.length : Int)) = false from (by rw [decide_eq_false_iff_not]; omega))
theorem refInts (l m : List Int) (hl : l.length ≤ 9223372036854775807) (hm : m.length ≤ 9223372036854775807) : CallsV Try.prog 43 [intsV l, intsV m] [] (fun av H' => av = .bool (eqL eqI l m) ∧ H' = []) := by
  refine callsG_at Try.func43 (by kernel_rfl) ?_
  by_cases hlm : l.length = m.length
  · rcases eqL_or eqI 0 l m hlm with ⟨he, h1⟩ | ⟨he, n, hn, h1, h2⟩
    · have e1' := refInts_T l m  hl hlm h1
      refine g_q [⟨6, [], .br false .no⟩, ⟨8, [.sel [0, 1, 5]], .loop (exOf e1') (endOf e1')⟩] [] Exit.ret (stOf 26 [(4, AV.bool true)] []) (And.intro (show ((↑l.length : Int) != (↑m.length : Int)) = false from (by simp_all; done)) e1') ?_
      refine g_f [] [] (AV.bool true) ([]) trivial ?_
      exact ⟨congrArg AV.bool he.symm, rfl⟩
    · have e1' := refInts_F l m  hl n hlm hn h1 h2
      refine g_q [⟨6, [], .br false .no⟩, ⟨8, [.sel [0, 1, 5]], .loop (exOf e1') (endOf e1')⟩] [] Exit.ret (stOf 26 [(4, AV.bool false)] []) (And.intro (show ((↑l.length : Int) != (↑m.length : Int)) = false from (by simp_all; done)) e1') ?_
      refine g_f [] [] (AV.bool false) ([]) trivial ?_
      exact ⟨congrArg AV.bool he.symm, rfl⟩
  · have he := eqL_len eqI l m hlm
    refine g_q [⟨6, [], .br true .no⟩] [.sel [4]] Exit.ret (stOf 26 [(4, AV.bool false)] []) (show ((↑l.length : Int) != (↑m.length : Int)) = true from (by simp_all; omega)) ?_
    refine g_f [] [] (AV.bool false) ([]) trivial ?_
    exact ⟨congrArg AV.bool he.symm, rfl⟩
theorem refStrs_F (l m : List ByteArray) (hl : l.length ≤ 9223372036854775807) (n : Nat) (hlm : l.length = m.length) (hn : n < l.length) (h1 : ∀ k, k < n → eqB (l.getD k ByteArray.empty) (m.getD k ByteArray.empty) = true) (h2 : eqB (l.getD n ByteArray.empty) (m.getD n ByteArray.empty) = false) : LoopG Try.prog 0 Try.f32 0 .ret (stOf 26 [(4, .bool false)] []) (stOf 26 [(0, strsV l), (1, strsV m), (5, .int .i64 0)] []) := by
  refine loopG_of n (fun k => stOf 26 [(0, strsV l), (1, strsV m), (5, .int .i64 (k : Int))] []) (by kernel_rfl) (by simp) ?_ ?_
  · intro k hk
    have h1 : ((l.getD k ByteArray.empty).toList == (m.getD k ByteArray.empty).toList) = true := h1 k hk
    skip
    have e1' := (congrArg (fun z => AV.fptr z) (strs_at (l) (k) (by omega)))
    have e2' := (congrArg (fun z => AV.fptr z) (strs_at (m) (k) (by omega)))
    have e3' := (congrArg (fun z => AV.int .i64 z) (wrap_i64 (e := (↑k : Int) + (1 : Int)) (by omega) (by omega)))
    exact g_x [⟨4, [], .br true .no⟩, ⟨7, [], .as (rhsOf e1')⟩, ⟨11, [], .as (rhsOf e2')⟩, ⟨14, [], .br false .no⟩, ⟨16, [], .as (rhsOf e3')⟩] [.sel [0, 1, 5]] (And.intro (show decide ((↑k : Int) < (↑l.length : Int)) = true from (by rw [decide_eq_true_iff]; omega)) (And.intro (show (0 : Int) ≤ (↑k : Int) ∧ (↑k : Int) < (↑l.length : Int) from (by omega)) (And.intro e1' (And.intro (show 1 ≤ (AV.str (l.getD k ByteArray.empty) :: List.map AV.str (List.drop (k + 1) l)).length from (by exact Nat.le_of_ble_eq_true (by kernel_rfl))) (And.intro (show (0 : Int) ≤ (↑k : Int) ∧ (↑k : Int) < (↑m.length : Int) from (by omega)) (And.intro e2' (And.intro (show 1 ≤ (AV.str (m.getD k ByteArray.empty) :: List.map AV.str (List.drop (k + 1) m)).length from (by exact Nat.le_of_ble_eq_true (by kernel_rfl))) (And.intro (congrArg (fun z => !z) h1) e3'))))))))
  · have h1 := h1
    have h2 : ((l.getD n ByteArray.empty).toList == (m.getD n ByteArray.empty).toList) = false := h2
    skip
    have e1' := (congrArg (fun z => AV.fptr z) (strs_at (l) (n) (by assumption)))
    have e2' := (congrArg (fun z => AV.fptr z) (strs_at (m) (n) (by omega)))
    exact g_x [⟨4, [], .br true .no⟩, ⟨7, [], .as (rhsOf e1')⟩, ⟨11, [], .as (rhsOf e2')⟩, ⟨14, [], .br true .no⟩] [.sel [4]] (And.intro (show decide ((↑n : Int) < (↑l.length : Int)) = true from (by rw [decide_eq_true_iff]; omega)) (And.intro (show (0 : Int) ≤ (↑n : Int) ∧ (↑n : Int) < (↑l.length : Int) from (by omega)) (And.intro e1' (And.intro (show 1 ≤ (AV.str (l.getD n ByteArray.empty) :: List.map AV.str (List.drop (n + 1) l)).length from (by exact Nat.le_of_ble_eq_true (by kernel_rfl))) (And.intro (show (0 : Int) ≤ (↑n : Int) ∧ (↑n : Int) < (↑m.length : Int) from (by omega)) (And.intro e2' (And.intro (show 1 ≤ (AV.str (m.getD n ByteArray.empty) :: List.map AV.str (List.drop (n + 1) m)).length from (by exact Nat.le_of_ble_eq_true (by kernel_rfl))) (congrArg (fun z => !z) h2))))))))
theorem refStrs_T (l m : List ByteArray) (hl : l.length ≤ 9223372036854775807) (hlm : l.length = m.length) (h1 : ∀ k, k < l.length → eqB (l.getD k ByteArray.empty) (m.getD k ByteArray.empty) = true) : LoopG Try.prog 0 Try.f32 0 (.exit 0) (stOf 26 [] []) (stOf 26 [(0, strsV l), (1, strsV m), (5, .int .i64 0)] []) := by
  refine loopG_of l.length (fun k => stOf 26 [(0, strsV l), (1, strsV m), (5, .int .i64 (k : Int))] []) (by kernel_rfl) (by simp) ?_ ?_
  · intro k hk
    have h1 : ((l.getD k ByteArray.empty).toList == (m.getD k ByteArray.empty).toList) = true := h1 k hk
    skip
    have e1' := (congrArg (fun z => AV.fptr z) (strs_at (l) (k) (by assumption)))
    have e2' := (congrArg (fun z => AV.fptr z) (strs_at (m) (k) (by omega)))
    have e3' := (congrArg (fun z => AV.int .i64 z) (wrap_i64 (e := (↑k : Int) + (1 : Int)) (by omega) (by omega)))
    exact g_x [⟨4, [], .br true .no⟩, ⟨7, [], .as (rhsOf e1')⟩, ⟨11, [], .as (rhsOf e2')⟩, ⟨14, [], .br false .no⟩, ⟨16, [], .as (rhsOf e3')⟩] [.sel [0, 1, 5]] (And.intro (show decide ((↑k : Int) < (↑l.length : Int)) = true from (by rw [decide_eq_true_iff]; omega)) (And.intro (show (0 : Int) ≤ (↑k : Int) ∧ (↑k : Int) < (↑l.length : Int) from (by omega)) (And.intro e1' (And.intro (show 1 ≤ (AV.str (l.getD k ByteArray.empty) :: List.map AV.str (List.drop (k + 1) l)).length from (by exact Nat.le_of_ble_eq_true (by kernel_rfl))) (And.intro (show (0 : Int) ≤ (↑k : Int) ∧ (↑k : Int) < (↑m.length : Int) from (by omega)) (And.intro e2' (And.intro (show 1 ≤ (AV.str (m.getD k ByteArray.empty) :: List.map AV.str (List.drop (k + 1) m)).length from (by exact Nat.le_of_ble_eq_true (by kernel_rfl))) (And.intro (congrArg (fun z => !z) h1) e3'))))))))
  · exact g_x [⟨4, [], .br false .no⟩] [.sel []] (show decide ((↑l.length : Int) < (↑l.length : Int)) = false from (by rw [decide_eq_false_iff_not]; omega))
theorem refStrs (l m : List ByteArray) (hl : l.length ≤ 9223372036854775807) (hm : m.length ≤ 9223372036854775807) : CallsV Try.prog 32 [strsV l, strsV m] [] (fun av H' => av = .bool (eqL eqB l m) ∧ H' = []) := by
  refine callsG_at Try.func32 (by kernel_rfl) ?_
  by_cases hlm : l.length = m.length
  · rcases eqL_or eqB ByteArray.empty l m hlm with ⟨he, h1⟩ | ⟨he, n, hn, h1, h2⟩
    · have e1' := refStrs_T l m  hl hlm h1
      refine g_q [⟨6, [], .br false .no⟩, ⟨8, [.sel [0, 1, 5]], .loop (exOf e1') (endOf e1')⟩] [] Exit.ret (stOf 26 [(4, AV.bool true)] []) (And.intro (show ((↑l.length : Int) != (↑m.length : Int)) = false from (by simp_all; done)) e1') ?_
      refine g_f [] [] (AV.bool true) ([]) trivial ?_
      exact ⟨congrArg AV.bool he.symm, rfl⟩
    · have e1' := refStrs_F l m  hl n hlm hn h1 h2
      refine g_q [⟨6, [], .br false .no⟩, ⟨8, [.sel [0, 1, 5]], .loop (exOf e1') (endOf e1')⟩] [] Exit.ret (stOf 26 [(4, AV.bool false)] []) (And.intro (show ((↑l.length : Int) != (↑m.length : Int)) = false from (by simp_all; done)) e1') ?_
      refine g_f [] [] (AV.bool false) ([]) trivial ?_
      exact ⟨congrArg AV.bool he.symm, rfl⟩
  · have he := eqL_len eqB l m hlm
    refine g_q [⟨6, [], .br true .no⟩] [.sel [4]] Exit.ret (stOf 26 [(4, AV.bool false)] []) (show ((↑l.length : Int) != (↑m.length : Int)) = true from (by simp_all; omega)) ?_
    refine g_f [] [] (AV.bool false) ([]) trivial ?_
    exact ⟨congrArg AV.bool he.symm, rfl⟩
end Go.Proofs.Ytcmbhebgpboepaa
