/-
  Reopening, over any list of marks in the logic of values.
-/
import Derived.Test.YtlmkeoegammdjaaVI
namespace Go.Proofs.Ytlmkeoegammdjaa
open Go Go.RowKit V
set_option linter.unusedSimpArgs false
set_option linter.unusedVariables false
set_option maxHeartbeats 20000000
abbrev zcells : List AV := [.int .i64 0, .int .i64 0, .str (ByteArray.mk #[]), .int .i64 0, .int .i64 0, .nilsl]
abbrev storeA (o : Nat) (cs R : List AV) : List AV := R.take o ++ cs ++ R.drop (o + cs.length)
theorem row_set' (l : List Mk) (i : Nat) (hi : i < l.length) (b : AV) (cs : List AV) (hc : cs.length = 6) : storeA (0 + i * 10 + 4) cs (storeA (0 + i * 10 + 3) [b] (flatA encM l)) =
      flatA encM (l.take i) ++ ([AV.str (l.getD i mD).st, AV.str (l.getD i mD).tk, AV.int .i64 (l.getD i mD).ver, b] ++ cs) ++ flatA encM (l.drop (i + 1)) := by
  have := row_set l i hi b cs hc
  rw [← this]
  simp only [storeA, hc, Nat.zero_add, List.length_cons, List.length_nil, Nat.add_assoc]
theorem row_len (l : List Mk) (i : Nat) (hi : i < l.length) : 0 + i * 10 + 4 + 6 ≤ (storeA (0 + i * 10 + 3) [.bool true] (flatA encM l)).length := by
  have e := flatA_length lenM l
  simp only [storeA, List.length_append, List.length_take, List.length_drop, List.length_cons, List.length_nil, e]
  omega
theorem reopen_some_v (l : List Mk) (st tk : ByteArray) (hl : OkL l) (i : Nat) (hi : i < l.length) (h : ixL st tk 0 l = (i : Int)) : CallsV Try.prog 18 [marksV l, .agg [.str st, .str tk]] [] (fun av H' => av = .tuple [.sl 0 0 l.length 10, .bool true] ∧ H' = [.row 38 (flatA encM (l.take i) ++ ([AV.str (l.getD i mD).st, AV.str (l.getD i mD).tk, AV.int .i64 (l.getD i mD).ver, .bool true] ++ zcells) ++ flatA encM (l.drop (i + 1)))]) := by
  refine callsV_at Try.func18 (by kernel_rfl) ?_
  have h0 : 0 < l.length := by omega
  have hd := marks_at l i hi
  have hlt : decide ((i : Int) < 0) = false := by rw [decide_eq_false_iff_not]; omega
  refine q_seq (by kernel_rfl) ?_
  refine q_run True [0, 1, 3, 4, 5, 6, 7, 14] (stOf 26 [(0, marksV l), (1, .agg [.str st, .str tk]), (3, .ptr 0 0), (4, .nilsl), (5, .bool false)] [.row 31 [.str st, .str tk]]) (by kernel_rfl) (by kernel_rfl) (by kernel_rfl) (by kernel_rfl) trivial ?_
  refine k_then ?_
  refine q_seq (by kernel_rfl) ?_
  refine q_reg (by kernel_rfl) ?_
  refine n_run 1 (True) [1, 2] (stOf 26 [(0, marksV l), (1, .agg [.str st, .str tk]), (3, .ptr 0 0), (4, .nilsl), (5, .bool false), (8, marksV l)] [.row 31 [.str st, .str tk]]) (by kernel_rfl) (by kernel_rfl) trivial ?_
  refine n_callo 32 [marksV l] (.sl 0 0 l.length 10) 38 (flatA encM l) _ (by kernel_rfl) (by kernel_rfl) (by kernel_rfl) (plainM l) rfl (cloneAll_v l hl h0) ?_
  refine n_run 1 (True) [] (stOf 26 [(0, marksV l), (1, .agg [.str st, .str tk]), (3, .ptr 0 0), (4, .nilsl), (5, .bool false), (6, .sl 1 0 l.length 10), (8, marksV l), (9, .sl 1 0 l.length 10)] [.row 31 [.str st, .str tk], .row 38 (flatA encM l)]) (by kernel_rfl) (by kernel_rfl) trivial ?_
  refine n_sel [0, 1, 3, 4, 5, 6, 7, 14] (stOf 26 [(0, marksV l), (1, .agg [.str st, .str tk]), (3, .ptr 0 0), (4, .nilsl), (5, .bool false), (6, .sl 1 0 l.length 10)] [.row 31 [.str st, .str tk], .row 38 (flatA encM l)]) (by kernel_rfl) (n_done ?_)
  refine k_then ?_
  refine q_seq (by kernel_rfl) ?_
  refine q_reg (by kernel_rfl) ?_
  refine n_run 2 (2 ≤ 2) [2, 3] (stOf 26 [(0, marksV l), (1, .agg [.str st, .str tk]), (3, .ptr 0 0), (4, .nilsl), (5, .bool false), (6, .sl 1 0 l.length 10), (10, .sl 1 0 l.length 10), (11, .agg [.str st, .str tk])] [.row 31 [.str st, .str tk], .row 38 (flatA encM l)]) (by kernel_rfl) (by kernel_rfl) (by exact by omega) ?_
  refine n_lendo 29 1 l.length 10 38 (flatA encM l) [.agg [.str st, .str tk]] (marksV l) (.int .i64 (ixL st tk 0 l)) [] _ (by kernel_rfl) (by kernel_rfl) rfl (leafM l) (by rw [flatA_length lenM]; exact Nat.le_refl _) (by kernel_rfl) (by rw [List.take_of_length_le (by rw [flatA_length lenM]; exact Nat.le_refl _)]) (index_v l st tk hl) (by kernel_rfl) rfl ?_
  refine n_set 12 (.int .i64 (ixL st tk 0 l)) (.int .i64 (↑i : Int)) (by kernel_rfl) (by rw [h] <;> rfl) ?_
  refine n_run 1 (True) [] (stOf 26 [(0, marksV l), (1, .agg [.str st, .str tk]), (3, .ptr 0 0), (4, .nilsl), (5, .bool false), (6, .sl 1 0 l.length 10), (7, .int .i64 (↑i : Int)), (10, .sl 1 0 l.length 10), (11, .agg [.str st, .str tk]), (12, .int .i64 (↑i : Int))] [.row 31 [.str st, .str tk], .row 38 (flatA encM l)]) (by kernel_rfl) (by kernel_rfl) trivial ?_
  refine n_sel [0, 1, 3, 4, 5, 6, 7, 14] (stOf 26 [(0, marksV l), (1, .agg [.str st, .str tk]), (3, .ptr 0 0), (4, .nilsl), (5, .bool false), (6, .sl 1 0 l.length 10), (7, .int .i64 (↑i : Int))] [.row 31 [.str st, .str tk], .row 38 (flatA encM l)]) (by kernel_rfl) (n_done ?_)
  refine k_then ?_
  refine q_seq (by kernel_rfl) ?_
  refine q_seq (by kernel_rfl) ?_
  refine q_run True [0, 1, 3, 4, 5, 6, 7, 14] (stOf 26 [(0, marksV l), (1, .agg [.str st, .str tk]), (3, .ptr 0 0), (4, .nilsl), (5, .bool false), (6, .sl 1 0 l.length 10), (7, .int .i64 (↑i : Int)), (14, .bool (decide ((↑i : Int) < (0 : Int))))] [.row 31 [.str st, .str tk], .row 38 (flatA encM l)]) (by kernel_rfl) (by kernel_rfl) (by kernel_rfl) (by kernel_rfl) trivial ?_
  refine k_then ?_
  refine q_set 14 (.bool (decide ((↑i : Int) < (0 : Int)))) (.bool false) (by kernel_rfl) (by rw [hlt] <;> rfl) ?_
  refine q_no (by kernel_rfl) false (by kernel_rfl) rfl ?_
  refine q_skip (by kernel_rfl) ?_
  refine k_then ?_
  refine q_seq (by kernel_rfl) ?_
  refine q_reg (by kernel_rfl) ?_
  refine n_run 6 ((0 : Int) ≤ (↑i : Int) ∧ (↑i : Int) < (↑l.length : Int)) [6, 7, 8, 9, 10] (stOf 26 [(0, marksV l), (1, .agg [.str st, .str tk]), (3, .ptr 0 0), (4, .nilsl), (5, .bool false), (6, .sl 1 0 l.length 10), (7, .int .i64 (↑i : Int)), (14, .bool false), (16, .sl 1 0 l.length 10), (17, .int .i64 (↑i : Int)), (18, .sl 1 0 l.length 10), (19, .int .i64 (↑i : Int)), (20, .agg [.int .i64 0, .int .i64 0, .str (ByteArray.mk #[]), .int .i64 0, .int .i64 0, .nilsl]), (21, .ptr 1 (0 + (↑i : Int).toNat * 10))] [.row 31 [.str st, .str tk], .row 38 (flatA encM l)]) (by kernel_rfl) (by kernel_rfl) (by exact ⟨by omega, by omega⟩) ?_
  refine n_run 3 (0 + (↑i : Int).toNat * 10 + 3 + 1 ≤ (flatA encM l).length ∧ (0 : Int) ≤ (↑i : Int) ∧ (↑i : Int) < (↑l.length : Int)) [9, 10] (stOf 26 [(0, marksV l), (1, .agg [.str st, .str tk]), (3, .ptr 0 0), (4, .nilsl), (5, .bool false), (6, .sl 1 0 l.length 10), (7, .int .i64 (↑i : Int)), (14, .bool false), (16, .sl 1 0 l.length 10), (17, .int .i64 (↑i : Int)), (18, .sl 1 0 l.length 10), (19, .int .i64 (↑i : Int)), (20, .agg [.int .i64 0, .int .i64 0, .str (ByteArray.mk #[]), .int .i64 0, .int .i64 0, .nilsl]), (21, .ptr 1 (0 + (↑i : Int).toNat * 10)), (22, .ptr 1 (0 + (↑i : Int).toNat * 10 + 3)), (23, .ptr 1 (0 + (↑i : Int).toNat * 10))] [.row 31 [.str st, .str tk], .row 38 (List.take (0 + (↑i : Int).toNat * 10 + 3) (flatA encM l) ++ [AV.bool true] ++ List.drop (0 + (↑i : Int).toNat * 10 + 3 + [AV.bool true].length) (flatA encM l))]) (by kernel_rfl) (by kernel_rfl) (by exact ⟨(by rw [flatA_length lenM, Int.toNat_natCast]; omega), by omega, by omega⟩) ?_
  refine n_run 2 (0 + (↑i : Int).toNat * 10 + 4 + 6 ≤ (List.take (0 + (↑i : Int).toNat * 10 + 3) (flatA encM l) ++ [AV.bool true] ++ List.drop (0 + (↑i : Int).toNat * 10 + 3 + 1) (flatA encM l)).length) [] (stOf 26 [(0, marksV l), (1, .agg [.str st, .str tk]), (3, .ptr 0 0), (4, .nilsl), (5, .bool false), (6, .sl 1 0 l.length 10), (7, .int .i64 (↑i : Int)), (14, .bool false), (16, .sl 1 0 l.length 10), (17, .int .i64 (↑i : Int)), (18, .sl 1 0 l.length 10), (19, .int .i64 (↑i : Int)), (20, .agg [.int .i64 0, .int .i64 0, .str (ByteArray.mk #[]), .int .i64 0, .int .i64 0, .nilsl]), (21, .ptr 1 (0 + (↑i : Int).toNat * 10)), (22, .ptr 1 (0 + (↑i : Int).toNat * 10 + 3)), (23, .ptr 1 (0 + (↑i : Int).toNat * 10)), (24, .ptr 1 (0 + (↑i : Int).toNat * 10 + 4))] [.row 31 [.str st, .str tk], .row 38 (List.take (0 + (↑i : Int).toNat * 10 + 4) (List.take (0 + (↑i : Int).toNat * 10 + 3) (flatA encM l) ++ [AV.bool true] ++ List.drop (0 + (↑i : Int).toNat * 10 + 3 + [AV.bool true].length) (flatA encM l)) ++ [AV.int .i64 0, .int .i64 0, .str (ByteArray.mk #[]), .int .i64 0, .int .i64 0, .nilsl] ++ List.drop (0 + (↑i : Int).toNat * 10 + 4 + [AV.int .i64 0, .int .i64 0, .str (ByteArray.mk #[]), .int .i64 0, .int .i64 0, .nilsl].length) (List.take (0 + (↑i : Int).toNat * 10 + 3) (flatA encM l) ++ [AV.bool true] ++ List.drop (0 + (↑i : Int).toNat * 10 + 3 + [AV.bool true].length) (flatA encM l)))]) (by kernel_rfl) (by kernel_rfl) (by exact row_len l i hi) ?_
  refine n_sel [0, 1, 3, 4, 5, 6, 7, 14] (stOf 26 [(0, marksV l), (1, .agg [.str st, .str tk]), (3, .ptr 0 0), (4, .nilsl), (5, .bool false), (6, .sl 1 0 l.length 10), (7, .int .i64 (↑i : Int)), (14, .bool false)] [.row 31 [.str st, .str tk], .row 38 (List.take (0 + (↑i : Int).toNat * 10 + 4) (List.take (0 + (↑i : Int).toNat * 10 + 3) (flatA encM l) ++ [AV.bool true] ++ List.drop (0 + (↑i : Int).toNat * 10 + 3 + [AV.bool true].length) (flatA encM l)) ++ [AV.int .i64 0, .int .i64 0, .str (ByteArray.mk #[]), .int .i64 0, .int .i64 0, .nilsl] ++ List.drop (0 + (↑i : Int).toNat * 10 + 4 + [AV.int .i64 0, .int .i64 0, .str (ByteArray.mk #[]), .int .i64 0, .int .i64 0, .nilsl].length) (List.take (0 + (↑i : Int).toNat * 10 + 3) (flatA encM l) ++ [AV.bool true] ++ List.drop (0 + (↑i : Int).toNat * 10 + 3 + [AV.bool true].length) (flatA encM l)))]) (by kernel_rfl) (n_done ?_)
  refine k_then ?_
  refine q_seq (by kernel_rfl) ?_
  refine q_run True [0, 1, 3, 4, 5, 6, 7, 14] (stOf 26 [(0, marksV l), (1, .agg [.str st, .str tk]), (3, .ptr 0 0), (4, .sl 1 0 l.length 10), (5, .bool true), (6, .sl 1 0 l.length 10), (7, .int .i64 (↑i : Int)), (14, .bool false)] [.row 31 [.str st, .str tk], .row 38 (List.take (0 + (↑i : Int).toNat * 10 + 4) (List.take (0 + (↑i : Int).toNat * 10 + 3) (flatA encM l) ++ [AV.bool true] ++ List.drop (0 + (↑i : Int).toNat * 10 + 3 + [AV.bool true].length) (flatA encM l)) ++ [AV.int .i64 0, .int .i64 0, .str (ByteArray.mk #[]), .int .i64 0, .int .i64 0, .nilsl] ++ List.drop (0 + (↑i : Int).toNat * 10 + 4 + [AV.int .i64 0, .int .i64 0, .str (ByteArray.mk #[]), .int .i64 0, .int .i64 0, .nilsl].length) (List.take (0 + (↑i : Int).toNat * 10 + 3) (flatA encM l) ++ [AV.bool true] ++ List.drop (0 + (↑i : Int).toNat * 10 + 3 + [AV.bool true].length) (flatA encM l)))]) (by kernel_rfl) (by kernel_rfl) (by kernel_rfl) (by kernel_rfl) trivial ?_
  refine k_then ?_
  refine q_ret (by kernel_rfl) ?_
  exact k_fin True (.tuple [.sl 1 0 l.length 10, .bool true]) [1] [.row 38 (flatA encM (l.take i) ++ ([AV.str (l.getD i mD).st, AV.str (l.getD i mD).tk, AV.int .i64 (l.getD i mD).ver, .bool true] ++ zcells) ++ flatA encM (l.drop (i + 1)))] (.tuple [.sl 0 0 l.length 10, .bool true]) (by kernel_rfl) (by kernel_rfl) (by kernel_rfl) trivial (keep_row 1 38 _ (Eq.trans (b := some (.row 38 (storeA (0 + i * 10 + 4) zcells (storeA (0 + i * 10 + 3) [.bool true] (flatA encM l))))) (by kernel_rfl) (congrArg (fun x => some (Blk.row 38 x)) (row_set' l i hi (.bool true) zcells rfl))) (fun x hx => by
    rcases List.mem_append.1 hx with hx | hx
    · rcases List.mem_append.1 hx with hx | hx
      · exact noidM _ x hx
      · simp only [List.cons_append, List.nil_append, List.mem_cons, List.not_mem_nil, or_false] at hx
        rcases hx with rfl | rfl | rfl | rfl | rfl | rfl | rfl | rfl | rfl | rfl <;> rfl
    · exact noidM _ x hx)) ⟨rfl, rfl⟩
end Go.Proofs.Ytlmkeoegammdjaa
