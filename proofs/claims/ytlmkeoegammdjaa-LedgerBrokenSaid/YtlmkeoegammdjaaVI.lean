/-
  Finding, over any list of marks.
-/
import Derived.Test.YtlmkeoegammdjaaVD
import Derived.Test.YtlmkeoegammdjaaVnr
namespace Go.Proofs.Ytlmkeoegammdjaa
open Go Go.RowKit V
set_option linter.unusedSimpArgs false
set_option linter.unusedVariables false
set_option maxHeartbeats 20000000
theorem ix_cases (st tk : ByteArray) : ∀ (l : List Mk) (k : Nat), ixL st tk k l = -1 ∨ ∃ i, i < l.length ∧ ixL st tk k l = ((k + i : Nat) : Int) ∧ isP (l.getD i mD) st tk = true
  | [], k => Or.inl rfl
  | m :: r, k => by
    rw [ixL]
    cases h : isP m st tk with
    | true => exact Or.inr ⟨0, by simp, rfl, h⟩
    | false =>
      rcases ix_cases st tk r (k + 1) with h1 | ⟨i, h1, h2, h3⟩
      · exact Or.inl h1
      · exact Or.inr ⟨i + 1, by simp; omega, by rw [cond_false, h2]; congr 1; omega, by simpa using h3⟩
theorem find_none_v (l : List Mk) (st tk : ByteArray) (hl : OkL l) (h : ixL st tk 0 l = -1) : CallsV Try.prog 11 [marksV l, .agg [.str st, .str tk]] [] (fun av H' => av = .tuple [.agg [.str (ByteArray.mk #[]), .str (ByteArray.mk #[]), .int .i64 0, .bool false, .int .i64 0, .int .i64 0, .str (ByteArray.mk #[]), .int .i64 0, .int .i64 0, .nilsl], .bool false] ∧ H' = []) := by
  refine callsV_at Try.func11 (by kernel_rfl) ?_
  refine Q_seq ?_
  let z1 : List (Nat × AV) := [(0, marksV l), (1, .agg [.str st, .str tk]), (3, .ptr 0 0), (4, .ptr 1 0), (5, .bool false)]
  refine Q_run [0, 1, 3, 4, 5, 6, 11] (stOf 18 z1 [.row 31 [.str st, .str tk], .row 38 [.str (ByteArray.mk #[]), .str (ByteArray.mk #[]), .int .i64 0, .bool false, .int .i64 0, .int .i64 0, .str (ByteArray.mk #[]), .int .i64 0, .int .i64 0, .nilsl]]) ?_
  refine k_then ?_
  refine Q_seq ?_
  refine Q_reg ?_
  refine N_run 2 (2 ≤ 2) [2, 3] (stOf 18 (z1 ++ [(7, marksV l), (8, .agg [.str st, .str tk])]) [.row 31 [.str st, .str tk], .row 38 [.str (ByteArray.mk #[]), .str (ByteArray.mk #[]), .int .i64 0, .bool false, .int .i64 0, .int .i64 0, .str (ByteArray.mk #[]), .int .i64 0, .int .i64 0, .nilsl]]) (by exact by omega) ?_
  refine n_callp 29 [marksV l, .agg [.str st, .str tk]] (.int .i64 (ixL st tk 0 l)) (stOf 18 (z1 ++ [(7, marksV l), (8, .agg [.str st, .str tk]), (9, .int .i64 (ixL st tk 0 l))]) [.row 31 [.str st, .str tk], .row 38 [.str (ByteArray.mk #[]), .str (ByteArray.mk #[]), .int .i64 0, .bool false, .int .i64 0, .int .i64 0, .str (ByteArray.mk #[]), .int .i64 0, .int .i64 0, .nilsl]]) (by kernel_rfl) (by kernel_rfl) (by kernel_rfl) (by kernel_rfl) (index_v l st tk hl ) ?_
  refine n_set 9 (.int .i64 (ixL st tk 0 l)) (.int .i64 (-1)) (by kernel_rfl) (by rw [h] <;> rfl) ?_
  refine N_run 1 (True) [] (stOf 18 (z1 ++ [(6, .int .i64 (-1)), (7, marksV l), (8, .agg [.str st, .str tk]), (9, .int .i64 (-1))]) [.row 31 [.str st, .str tk], .row 38 [.str (ByteArray.mk #[]), .str (ByteArray.mk #[]), .int .i64 0, .bool false, .int .i64 0, .int .i64 0, .str (ByteArray.mk #[]), .int .i64 0, .int .i64 0, .nilsl]]) trivial ?_
  refine N_sel [0, 1, 3, 4, 5, 6, 11] (stOf 18 (z1 ++ [(6, .int .i64 (-1))]) [.row 31 [.str st, .str tk], .row 38 [.str (ByteArray.mk #[]), .str (ByteArray.mk #[]), .int .i64 0, .bool false, .int .i64 0, .int .i64 0, .str (ByteArray.mk #[]), .int .i64 0, .int .i64 0, .nilsl]]) ?_
  refine k_then ?_
  refine Q_seq ?_
  refine Q_seq ?_
  refine Q_run [0, 1, 3, 4, 5, 6, 11] (stOf 18 (z1 ++ [(6, .int .i64 (-1)), (11, .bool true)]) [.row 31 [.str st, .str tk], .row 38 [.str (ByteArray.mk #[]), .str (ByteArray.mk #[]), .int .i64 0, .bool false, .int .i64 0, .int .i64 0, .str (ByteArray.mk #[]), .int .i64 0, .int .i64 0, .nilsl]]) ?_
  refine k_then ?_
  refine q_yes (by kernel_rfl) true (by kernel_rfl) rfl ?_
  refine Q_seq ?_
  refine q_run (10 ≤ 10) [0, 1, 3, 4, 5, 6, 11] (stOf 18 (z1 ++ [(6, .int .i64 (-1)), (11, .bool true)]) [.row 31 [.str st, .str tk], .row 38 [.str (ByteArray.mk #[]), .str (ByteArray.mk #[]), .int .i64 0, .bool false, .int .i64 0, .int .i64 0, .str (ByteArray.mk #[]), .int .i64 0, .int .i64 0, .nilsl]]) (by kernel_rfl) (by kernel_rfl) (by kernel_rfl) (by kernel_rfl) (by exact by omega) ?_
  refine k_then ?_
  refine q_ret (by kernel_rfl) ?_
  refine k_thenr ?_
  refine k_fin (10 ≤ 10) (.tuple [.agg [.str (ByteArray.mk #[]), .str (ByteArray.mk #[]), .int .i64 0, .bool false, .int .i64 0, .int .i64 0, .str (ByteArray.mk #[]), .int .i64 0, .int .i64 0, .nilsl], .bool false]) [] [] (.tuple [.agg [.str (ByteArray.mk #[]), .str (ByteArray.mk #[]), .int .i64 0, .bool false, .int .i64 0, .int .i64 0, .str (ByteArray.mk #[]), .int .i64 0, .int .i64 0, .nilsl], .bool false]) (by kernel_rfl) (by kernel_rfl) (by kernel_rfl) (by exact by omega) (keep_nil _) ?_
  exact ⟨rfl, rfl⟩
theorem find_some_v (l : List Mk) (st tk : ByteArray) (hl : OkL l) (i : Nat) (hi : i < l.length) (h : ixL st tk 0 l = (i : Int)) : CallsV Try.prog 11 [marksV l, .agg [.str st, .str tk]] [] (fun av H' => av = .tuple [.agg (encM (l.getD i mD)), .bool true] ∧ H' = []) := by
  refine callsV_at Try.func11 (by kernel_rfl) ?_
  have hd := marks_at l i hi
  have hm : OkM (l.getD i mD) := hl.2 _ (by rw [List.getD_eq_getElem?_getD, List.getElem?_eq_getElem hi]; exact List.getElem_mem hi)
  have hlt : decide ((i : Int) < 0) = false := by rw [decide_eq_false_iff_not]; omega
  refine Q_seq ?_
  let z2 : List (Nat × AV) := [(0, marksV l), (1, .agg [.str st, .str tk]), (3, .ptr 0 0), (4, .ptr 1 0), (5, .bool false)]
  refine Q_run [0, 1, 3, 4, 5, 6, 11] (stOf 18 z2 [.row 31 [.str st, .str tk], .row 38 [.str (ByteArray.mk #[]), .str (ByteArray.mk #[]), .int .i64 0, .bool false, .int .i64 0, .int .i64 0, .str (ByteArray.mk #[]), .int .i64 0, .int .i64 0, .nilsl]]) ?_
  refine k_then ?_
  refine Q_seq ?_
  refine Q_reg ?_
  refine N_run 2 (2 ≤ 2) [2, 3] (stOf 18 (z2 ++ [(7, marksV l), (8, .agg [.str st, .str tk])]) [.row 31 [.str st, .str tk], .row 38 [.str (ByteArray.mk #[]), .str (ByteArray.mk #[]), .int .i64 0, .bool false, .int .i64 0, .int .i64 0, .str (ByteArray.mk #[]), .int .i64 0, .int .i64 0, .nilsl]]) (by exact by omega) ?_
  refine n_callp 29 [marksV l, .agg [.str st, .str tk]] (.int .i64 (ixL st tk 0 l)) (stOf 18 (z2 ++ [(7, marksV l), (8, .agg [.str st, .str tk]), (9, .int .i64 (ixL st tk 0 l))]) [.row 31 [.str st, .str tk], .row 38 [.str (ByteArray.mk #[]), .str (ByteArray.mk #[]), .int .i64 0, .bool false, .int .i64 0, .int .i64 0, .str (ByteArray.mk #[]), .int .i64 0, .int .i64 0, .nilsl]]) (by kernel_rfl) (by kernel_rfl) (by kernel_rfl) (by kernel_rfl) (index_v l st tk hl ) ?_
  refine n_set 9 (.int .i64 (ixL st tk 0 l)) (.int .i64 (↑i : Int)) (by kernel_rfl) (by rw [h] <;> rfl) ?_
  refine N_run 1 (True) [] (stOf 18 (z2 ++ [(6, .int .i64 (↑i : Int)), (7, marksV l), (8, .agg [.str st, .str tk]), (9, .int .i64 (↑i : Int))]) [.row 31 [.str st, .str tk], .row 38 [.str (ByteArray.mk #[]), .str (ByteArray.mk #[]), .int .i64 0, .bool false, .int .i64 0, .int .i64 0, .str (ByteArray.mk #[]), .int .i64 0, .int .i64 0, .nilsl]]) trivial ?_
  refine N_sel [0, 1, 3, 4, 5, 6, 11] (stOf 18 (z2 ++ [(6, .int .i64 (↑i : Int))]) [.row 31 [.str st, .str tk], .row 38 [.str (ByteArray.mk #[]), .str (ByteArray.mk #[]), .int .i64 0, .bool false, .int .i64 0, .int .i64 0, .str (ByteArray.mk #[]), .int .i64 0, .int .i64 0, .nilsl]]) ?_
  refine k_then ?_
  refine Q_seq ?_
  refine Q_seq ?_
  refine Q_run [0, 1, 3, 4, 5, 6, 11] (stOf 18 (z2 ++ [(6, .int .i64 (↑i : Int)), (11, .bool (decide ((↑i : Int) < (0 : Int))))]) [.row 31 [.str st, .str tk], .row 38 [.str (ByteArray.mk #[]), .str (ByteArray.mk #[]), .int .i64 0, .bool false, .int .i64 0, .int .i64 0, .str (ByteArray.mk #[]), .int .i64 0, .int .i64 0, .nilsl]]) ?_
  refine k_then ?_
  refine q_set 11 (.bool (decide ((↑i : Int) < (0 : Int)))) (.bool false) (by kernel_rfl) (by rw [hlt] <;> rfl) ?_
  refine q_no (by kernel_rfl) false (by kernel_rfl) rfl ?_
  refine q_skip (by kernel_rfl) ?_
  refine k_then ?_
  refine Q_seq ?_
  refine Q_reg ?_
  refine N_run 3 ((0 : Int) ≤ (↑i : Int) ∧ (↑i : Int) < (↑l.length : Int)) [3, 4, 5, 6] (stOf 18 (z2 ++ [(6, .int .i64 (↑i : Int)), (11, .bool false), (13, marksV l), (14, .int .i64 (↑i : Int)), (15, .fptr (List.drop ((↑i : Int).toNat * 10) (flatA encM l)))]) [.row 31 [.str st, .str tk], .row 38 [.str (ByteArray.mk #[]), .str (ByteArray.mk #[]), .int .i64 0, .bool false, .int .i64 0, .int .i64 0, .str (ByteArray.mk #[]), .int .i64 0, .int .i64 0, .nilsl]]) (by exact ⟨by omega, by omega⟩) ?_
  refine n_set 15 (.fptr (List.drop ((↑i : Int).toNat * 10) (flatA encM l))) (.fptr (.str (l.getD i mD).st :: .str (l.getD i mD).tk :: .int .i64 (l.getD i mD).ver :: .bool (l.getD i mD).pend :: .int .i64 (l.getD i mD).kind :: .int .i64 (l.getD i mD).err :: .str (l.getD i mD).path :: .int .i64 (l.getD i mD).at' :: .int .i64 (l.getD i mD).score :: .slv (l.getD i mD).verd.length 1 (List.map (.int .i64) (l.getD i mD).verd) :: flatA encM (List.drop (i + 1) l))) (by kernel_rfl) (by rw [hd] <;> rfl) ?_
  refine N_run 1 (10 ≤ (.str (l.getD i mD).st :: .str (l.getD i mD).tk :: .int .i64 (l.getD i mD).ver :: .bool (l.getD i mD).pend :: .int .i64 (l.getD i mD).kind :: .int .i64 (l.getD i mD).err :: .str (l.getD i mD).path :: .int .i64 (l.getD i mD).at' :: .int .i64 (l.getD i mD).score :: .slv (l.getD i mD).verd.length 1 (List.map (.int .i64) (l.getD i mD).verd) :: flatA encM (List.drop (i + 1) l)).length) [4, 5, 6] (stOf 18 (z2 ++ [(6, .int .i64 (↑i : Int)), (11, .bool false), (13, marksV l), (14, .int .i64 (↑i : Int)), (15, .fptr (encM (l.getD i mD) ++ flatA encM (List.drop (i + 1) l))), (16, .agg (encM (l.getD i mD)))]) [.row 31 [.str st, .str tk], .row 38 [.str (ByteArray.mk #[]), .str (ByteArray.mk #[]), .int .i64 0, .bool false, .int .i64 0, .int .i64 0, .str (ByteArray.mk #[]), .int .i64 0, .int .i64 0, .nilsl]]) (by exact by exact Nat.le_of_ble_eq_true (by kernel_rfl)) ?_
  refine n_callp 30 [.agg [.str (l.getD i mD).st, .str (l.getD i mD).tk, .int .i64 (l.getD i mD).ver, .bool (l.getD i mD).pend, .int .i64 (l.getD i mD).kind, .int .i64 (l.getD i mD).err, .str (l.getD i mD).path, .int .i64 (l.getD i mD).at', .int .i64 (l.getD i mD).score, .slv (l.getD i mD).verd.length 1 (List.map (.int .i64) (l.getD i mD).verd)]] (.agg [.str (l.getD i mD).st, .str (l.getD i mD).tk, .int .i64 (l.getD i mD).ver, .bool (l.getD i mD).pend, .int .i64 (l.getD i mD).kind, .int .i64 (l.getD i mD).err, .str (l.getD i mD).path, .int .i64 (l.getD i mD).at', .int .i64 (l.getD i mD).score, .slv (l.getD i mD).verd.length 1 (List.map (.int .i64) (l.getD i mD).verd)]) (stOf 18 (z2 ++ [(6, .int .i64 (↑i : Int)), (11, .bool false), (13, marksV l), (14, .int .i64 (↑i : Int)), (15, .fptr (encM (l.getD i mD) ++ flatA encM (List.drop (i + 1) l))), (16, .agg (encM (l.getD i mD))), (17, .agg (encM (l.getD i mD)))]) [.row 31 [.str st, .str tk], .row 38 [.str (ByteArray.mk #[]), .str (ByteArray.mk #[]), .int .i64 0, .bool false, .int .i64 0, .int .i64 0, .str (ByteArray.mk #[]), .int .i64 0, .int .i64 0, .nilsl]]) (by kernel_rfl) (by kernel_rfl) (by kernel_rfl) (by kernel_rfl) (clone_v (l.getD i mD) hm ) ?_
  refine N_run 2 (10 ≤ 10) [] (stOf 18 [(0, marksV l), (1, .agg [.str st, .str tk]), (3, .ptr 0 0), (4, .ptr 1 0), (5, .bool true), (6, .int .i64 (↑i : Int)), (11, .bool false), (13, marksV l), (14, .int .i64 (↑i : Int)), (15, .fptr (encM (l.getD i mD) ++ flatA encM (List.drop (i + 1) l))), (16, .agg (encM (l.getD i mD))), (17, .agg (encM (l.getD i mD)))] [.row 31 [.str st, .str tk], .row 38 (encM (l.getD i mD))]) (by exact by omega) ?_
  refine N_sel [0, 1, 3, 4, 5, 6, 11] (stOf 18 [(0, marksV l), (1, .agg [.str st, .str tk]), (3, .ptr 0 0), (4, .ptr 1 0), (5, .bool true), (6, .int .i64 (↑i : Int)), (11, .bool false)] [.row 31 [.str st, .str tk], .row 38 (encM (l.getD i mD))]) ?_
  refine k_then ?_
  refine q_ret (by kernel_rfl) ?_
  refine k_fin (10 ≤ 10) (.tuple [.agg [.str (l.getD i mD).st, .str (l.getD i mD).tk, .int .i64 (l.getD i mD).ver, .bool (l.getD i mD).pend, .int .i64 (l.getD i mD).kind, .int .i64 (l.getD i mD).err, .str (l.getD i mD).path, .int .i64 (l.getD i mD).at', .int .i64 (l.getD i mD).score, .slv (l.getD i mD).verd.length 1 (List.map (.int .i64) (l.getD i mD).verd)], .bool true]) [] [] (.tuple [.agg [.str (l.getD i mD).st, .str (l.getD i mD).tk, .int .i64 (l.getD i mD).ver, .bool (l.getD i mD).pend, .int .i64 (l.getD i mD).kind, .int .i64 (l.getD i mD).err, .str (l.getD i mD).path, .int .i64 (l.getD i mD).at', .int .i64 (l.getD i mD).score, .slv (l.getD i mD).verd.length 1 (List.map (.int .i64) (l.getD i mD).verd)], .bool true]) (by kernel_rfl) (by kernel_rfl) (by kernel_rfl) (by exact by omega) (keep_nil _) ?_
  exact ⟨rfl, rfl⟩
theorem refFind_none_v (l : List Mk) (st tk : ByteArray) (hl : OkL l) (h : ixL st tk 0 l = -1) : CallsV Try.prog 13 [marksV l, .agg [.str st, .str tk]] [] (fun av H' => av = .tuple [.agg [.str (ByteArray.mk #[]), .str (ByteArray.mk #[]), .int .i64 0, .bool false, .int .i64 0, .int .i64 0, .str (ByteArray.mk #[]), .int .i64 0, .int .i64 0, .nilsl], .bool false] ∧ H' = []) := by
  refine callsV_at Try.func13 (by kernel_rfl) ?_
  refine Q_seq ?_
  let z3 : List (Nat × AV) := [(0, marksV l), (1, .agg [.str st, .str tk]), (3, .ptr 0 0), (4, .ptr 1 0), (5, .bool false)]
  refine Q_run [0, 1, 3, 4, 5, 6, 11] (stOf 17 z3 [.row 31 [.str st, .str tk], .row 38 [.str (ByteArray.mk #[]), .str (ByteArray.mk #[]), .int .i64 0, .bool false, .int .i64 0, .int .i64 0, .str (ByteArray.mk #[]), .int .i64 0, .int .i64 0, .nilsl]]) ?_
  refine k_then ?_
  refine Q_seq ?_
  refine Q_reg ?_
  refine N_run 2 (2 ≤ 2) [2, 3] (stOf 17 (z3 ++ [(7, marksV l), (8, .agg [.str st, .str tk])]) [.row 31 [.str st, .str tk], .row 38 [.str (ByteArray.mk #[]), .str (ByteArray.mk #[]), .int .i64 0, .bool false, .int .i64 0, .int .i64 0, .str (ByteArray.mk #[]), .int .i64 0, .int .i64 0, .nilsl]]) (by exact by omega) ?_
  refine n_callp 31 [marksV l, .agg [.str st, .str tk]] (.int .i64 (ixL st tk 0 l)) (stOf 17 (z3 ++ [(7, marksV l), (8, .agg [.str st, .str tk]), (9, .int .i64 (ixL st tk 0 l))]) [.row 31 [.str st, .str tk], .row 38 [.str (ByteArray.mk #[]), .str (ByteArray.mk #[]), .int .i64 0, .bool false, .int .i64 0, .int .i64 0, .str (ByteArray.mk #[]), .int .i64 0, .int .i64 0, .nilsl]]) (by kernel_rfl) (by kernel_rfl) (by kernel_rfl) (by kernel_rfl) (place_v l st tk hl ) ?_
  refine n_set 9 (.int .i64 (ixL st tk 0 l)) (.int .i64 (-1)) (by kernel_rfl) (by rw [h] <;> rfl) ?_
  refine N_run 1 (True) [] (stOf 17 (z3 ++ [(6, .int .i64 (-1)), (7, marksV l), (8, .agg [.str st, .str tk]), (9, .int .i64 (-1))]) [.row 31 [.str st, .str tk], .row 38 [.str (ByteArray.mk #[]), .str (ByteArray.mk #[]), .int .i64 0, .bool false, .int .i64 0, .int .i64 0, .str (ByteArray.mk #[]), .int .i64 0, .int .i64 0, .nilsl]]) trivial ?_
  refine N_sel [0, 1, 3, 4, 5, 6, 11] (stOf 17 (z3 ++ [(6, .int .i64 (-1))]) [.row 31 [.str st, .str tk], .row 38 [.str (ByteArray.mk #[]), .str (ByteArray.mk #[]), .int .i64 0, .bool false, .int .i64 0, .int .i64 0, .str (ByteArray.mk #[]), .int .i64 0, .int .i64 0, .nilsl]]) ?_
  refine k_then ?_
  refine Q_seq ?_
  refine Q_seq ?_
  refine Q_run [0, 1, 3, 4, 5, 6, 11] (stOf 17 (z3 ++ [(6, .int .i64 (-1)), (11, .bool true)]) [.row 31 [.str st, .str tk], .row 38 [.str (ByteArray.mk #[]), .str (ByteArray.mk #[]), .int .i64 0, .bool false, .int .i64 0, .int .i64 0, .str (ByteArray.mk #[]), .int .i64 0, .int .i64 0, .nilsl]]) ?_
  refine k_then ?_
  refine q_yes (by kernel_rfl) true (by kernel_rfl) rfl ?_
  refine Q_seq ?_
  refine q_run (10 ≤ 10) [0, 1, 3, 4, 5, 6, 11] (stOf 17 (z3 ++ [(6, .int .i64 (-1)), (11, .bool true)]) [.row 31 [.str st, .str tk], .row 38 [.str (ByteArray.mk #[]), .str (ByteArray.mk #[]), .int .i64 0, .bool false, .int .i64 0, .int .i64 0, .str (ByteArray.mk #[]), .int .i64 0, .int .i64 0, .nilsl]]) (by kernel_rfl) (by kernel_rfl) (by kernel_rfl) (by kernel_rfl) (by exact by omega) ?_
  refine k_then ?_
  refine q_ret (by kernel_rfl) ?_
  refine k_thenr ?_
  refine k_fin (10 ≤ 10) (.tuple [.agg [.str (ByteArray.mk #[]), .str (ByteArray.mk #[]), .int .i64 0, .bool false, .int .i64 0, .int .i64 0, .str (ByteArray.mk #[]), .int .i64 0, .int .i64 0, .nilsl], .bool false]) [] [] (.tuple [.agg [.str (ByteArray.mk #[]), .str (ByteArray.mk #[]), .int .i64 0, .bool false, .int .i64 0, .int .i64 0, .str (ByteArray.mk #[]), .int .i64 0, .int .i64 0, .nilsl], .bool false]) (by kernel_rfl) (by kernel_rfl) (by kernel_rfl) (by exact by omega) (keep_nil _) ?_
  exact ⟨rfl, rfl⟩
theorem refFind_some_v (l : List Mk) (st tk : ByteArray) (hl : OkL l) (i : Nat) (hi : i < l.length) (h : ixL st tk 0 l = (i : Int)) : CallsV Try.prog 13 [marksV l, .agg [.str st, .str tk]] [] (fun av H' => av = .tuple [.agg (encM (l.getD i mD)), .bool true] ∧ H' = []) := by
  refine callsV_at Try.func13 (by kernel_rfl) ?_
  have hd := marks_at l i hi
  have hlt : decide ((i : Int) < 0) = false := by rw [decide_eq_false_iff_not]; omega
  refine Q_seq ?_
  let z4 : List (Nat × AV) := [(0, marksV l), (1, .agg [.str st, .str tk]), (3, .ptr 0 0), (4, .ptr 1 0)]
  refine Q_run [0, 1, 3, 4, 5, 6, 11] (stOf 17 (z4 ++ [(5, .bool false)]) [.row 31 [.str st, .str tk], .row 38 [.str (ByteArray.mk #[]), .str (ByteArray.mk #[]), .int .i64 0, .bool false, .int .i64 0, .int .i64 0, .str (ByteArray.mk #[]), .int .i64 0, .int .i64 0, .nilsl]]) ?_
  refine k_then ?_
  refine Q_seq ?_
  refine Q_reg ?_
  refine N_run 2 (2 ≤ 2) [2, 3] (stOf 17 (z4 ++ [(5, .bool false), (7, marksV l), (8, .agg [.str st, .str tk])]) [.row 31 [.str st, .str tk], .row 38 [.str (ByteArray.mk #[]), .str (ByteArray.mk #[]), .int .i64 0, .bool false, .int .i64 0, .int .i64 0, .str (ByteArray.mk #[]), .int .i64 0, .int .i64 0, .nilsl]]) (by exact by omega) ?_
  refine n_callp 31 [marksV l, .agg [.str st, .str tk]] (.int .i64 (ixL st tk 0 l)) (stOf 17 (z4 ++ [(5, .bool false), (7, marksV l), (8, .agg [.str st, .str tk]), (9, .int .i64 (ixL st tk 0 l))]) [.row 31 [.str st, .str tk], .row 38 [.str (ByteArray.mk #[]), .str (ByteArray.mk #[]), .int .i64 0, .bool false, .int .i64 0, .int .i64 0, .str (ByteArray.mk #[]), .int .i64 0, .int .i64 0, .nilsl]]) (by kernel_rfl) (by kernel_rfl) (by kernel_rfl) (by kernel_rfl) (place_v l st tk hl ) ?_
  refine n_set 9 (.int .i64 (ixL st tk 0 l)) (.int .i64 (↑i : Int)) (by kernel_rfl) (by rw [h] <;> rfl) ?_
  refine N_run 1 (True) [] (stOf 17 (z4 ++ [(5, .bool false), (6, .int .i64 (↑i : Int)), (7, marksV l), (8, .agg [.str st, .str tk]), (9, .int .i64 (↑i : Int))]) [.row 31 [.str st, .str tk], .row 38 [.str (ByteArray.mk #[]), .str (ByteArray.mk #[]), .int .i64 0, .bool false, .int .i64 0, .int .i64 0, .str (ByteArray.mk #[]), .int .i64 0, .int .i64 0, .nilsl]]) trivial ?_
  refine N_sel [0, 1, 3, 4, 5, 6, 11] (stOf 17 (z4 ++ [(5, .bool false), (6, .int .i64 (↑i : Int))]) [.row 31 [.str st, .str tk], .row 38 [.str (ByteArray.mk #[]), .str (ByteArray.mk #[]), .int .i64 0, .bool false, .int .i64 0, .int .i64 0, .str (ByteArray.mk #[]), .int .i64 0, .int .i64 0, .nilsl]]) ?_
  refine k_then ?_
  refine Q_seq ?_
  refine Q_seq ?_
  refine Q_run [0, 1, 3, 4, 5, 6, 11] (stOf 17 (z4 ++ [(5, .bool false), (6, .int .i64 (↑i : Int)), (11, .bool (decide ((↑i : Int) < (0 : Int))))]) [.row 31 [.str st, .str tk], .row 38 [.str (ByteArray.mk #[]), .str (ByteArray.mk #[]), .int .i64 0, .bool false, .int .i64 0, .int .i64 0, .str (ByteArray.mk #[]), .int .i64 0, .int .i64 0, .nilsl]]) ?_
  refine k_then ?_
  refine q_set 11 (.bool (decide ((↑i : Int) < (0 : Int)))) (.bool false) (by kernel_rfl) (by rw [hlt] <;> rfl) ?_
  refine q_no (by kernel_rfl) false (by kernel_rfl) rfl ?_
  refine q_skip (by kernel_rfl) ?_
  refine k_then ?_
  refine Q_seq ?_
  refine Q_reg ?_
  refine N_run 3 ((0 : Int) ≤ (↑i : Int) ∧ (↑i : Int) < (↑l.length : Int)) [3, 4, 5] (stOf 17 (z4 ++ [(5, .bool false), (6, .int .i64 (↑i : Int)), (11, .bool false), (13, marksV l), (14, .int .i64 (↑i : Int)), (15, .fptr (List.drop ((↑i : Int).toNat * 10) (flatA encM l)))]) [.row 31 [.str st, .str tk], .row 38 [.str (ByteArray.mk #[]), .str (ByteArray.mk #[]), .int .i64 0, .bool false, .int .i64 0, .int .i64 0, .str (ByteArray.mk #[]), .int .i64 0, .int .i64 0, .nilsl]]) (by exact ⟨by omega, by omega⟩) ?_
  refine n_set 15 (.fptr (List.drop ((↑i : Int).toNat * 10) (flatA encM l))) (.fptr (.str (l.getD i mD).st :: .str (l.getD i mD).tk :: .int .i64 (l.getD i mD).ver :: .bool (l.getD i mD).pend :: .int .i64 (l.getD i mD).kind :: .int .i64 (l.getD i mD).err :: .str (l.getD i mD).path :: .int .i64 (l.getD i mD).at' :: .int .i64 (l.getD i mD).score :: .slv (l.getD i mD).verd.length 1 (List.map (.int .i64) (l.getD i mD).verd) :: flatA encM (List.drop (i + 1) l))) (by kernel_rfl) (by rw [hd] <;> rfl) ?_
  refine N_run 1 (10 ≤ (.str (l.getD i mD).st :: .str (l.getD i mD).tk :: .int .i64 (l.getD i mD).ver :: .bool (l.getD i mD).pend :: .int .i64 (l.getD i mD).kind :: .int .i64 (l.getD i mD).err :: .str (l.getD i mD).path :: .int .i64 (l.getD i mD).at' :: .int .i64 (l.getD i mD).score :: .slv (l.getD i mD).verd.length 1 (List.map (.int .i64) (l.getD i mD).verd) :: flatA encM (List.drop (i + 1) l)).length) [4, 5] (stOf 17 (z4 ++ [(5, .bool false), (6, .int .i64 (↑i : Int)), (11, .bool false), (13, marksV l), (14, .int .i64 (↑i : Int)), (15, .fptr (encM (l.getD i mD) ++ flatA encM (List.drop (i + 1) l))), (16, .agg (encM (l.getD i mD)))]) [.row 31 [.str st, .str tk], .row 38 [.str (ByteArray.mk #[]), .str (ByteArray.mk #[]), .int .i64 0, .bool false, .int .i64 0, .int .i64 0, .str (ByteArray.mk #[]), .int .i64 0, .int .i64 0, .nilsl]]) (by exact by exact Nat.le_of_ble_eq_true (by kernel_rfl)) ?_
  refine N_run 2 (10 ≤ 10) [] (stOf 17 (z4 ++ [(5, .bool true), (6, .int .i64 (↑i : Int)), (11, .bool false), (13, marksV l), (14, .int .i64 (↑i : Int)), (15, .fptr (encM (l.getD i mD) ++ flatA encM (List.drop (i + 1) l))), (16, .agg (encM (l.getD i mD)))]) [.row 31 [.str st, .str tk], .row 38 (encM (l.getD i mD))]) (by exact by omega) ?_
  refine N_sel [0, 1, 3, 4, 5, 6, 11] (stOf 17 (z4 ++ [(5, .bool true), (6, .int .i64 (↑i : Int)), (11, .bool false)]) [.row 31 [.str st, .str tk], .row 38 (encM (l.getD i mD))]) ?_
  refine k_then ?_
  refine q_ret (by kernel_rfl) ?_
  refine k_fin (10 ≤ 10) (.tuple [.agg [.str (l.getD i mD).st, .str (l.getD i mD).tk, .int .i64 (l.getD i mD).ver, .bool (l.getD i mD).pend, .int .i64 (l.getD i mD).kind, .int .i64 (l.getD i mD).err, .str (l.getD i mD).path, .int .i64 (l.getD i mD).at', .int .i64 (l.getD i mD).score, .slv (l.getD i mD).verd.length 1 (List.map (.int .i64) (l.getD i mD).verd)], .bool true]) [] [] (.tuple [.agg [.str (l.getD i mD).st, .str (l.getD i mD).tk, .int .i64 (l.getD i mD).ver, .bool (l.getD i mD).pend, .int .i64 (l.getD i mD).kind, .int .i64 (l.getD i mD).err, .str (l.getD i mD).path, .int .i64 (l.getD i mD).at', .int .i64 (l.getD i mD).score, .slv (l.getD i mD).verd.length 1 (List.map (.int .i64) (l.getD i mD).verd)], .bool true]) (by kernel_rfl) (by kernel_rfl) (by kernel_rfl) (by exact by omega) (keep_nil _) ?_
  exact ⟨rfl, rfl⟩
end Go.Proofs.Ytlmkeoegammdjaa
namespace Go.Proofs.Ytlmkeoegammdjaa
open Go Go.RowKit V
set_option linter.unusedSimpArgs false
set_option linter.unusedVariables false
set_option maxHeartbeats 20000000
theorem plainM (l : List Mk) : ∀ x ∈ flatA encM l, plain0 x = true := flatA_all (fun m a ha => by
  simp only [encM, List.mem_cons, List.not_mem_nil, or_false] at ha
  rcases ha with rfl | rfl | rfl | rfl | rfl | rfl | rfl | rfl | rfl | rfl <;> rfl) l
theorem leafM (l : List Mk) : ∀ x ∈ flatA encM l, noid0 x = true ∧ x ≠ .junk := flatA_all (fun m a ha => by
  simp only [encM, List.mem_cons, List.not_mem_nil, or_false] at ha
  rcases ha with rfl | rfl | rfl | rfl | rfl | rfl | rfl | rfl | rfl | rfl <;> exact ⟨rfl, fun h => nomatch h⟩) l
/-- a store of one cell and of six cells behind it, within the k-th ten -/
theorem row_set (l : List Mk) (i : Nat) (hi : i < l.length) (b : AV) (cs : List AV) (hc : cs.length = 6) :
    ((((flatA encM l).take (i * 10 + 3) ++ [b] ++ (flatA encM l).drop (i * 10 + 4)).take (i * 10 + 4)) ++ cs ++ (((flatA encM l).take (i * 10 + 3) ++ [b] ++ (flatA encM l).drop (i * 10 + 4)).drop (i * 10 + 10))) =
      flatA encM (l.take i) ++ ([AV.str (l.getD i mD).st, AV.str (l.getD i mD).tk, AV.int .i64 (l.getD i mD).ver, b] ++ cs) ++ flatA encM (l.drop (i + 1)) := by
  have e : flatA encM l = flatA encM (l.take i) ++ (encM (l.getD i mD) ++ flatA encM (l.drop (i + 1))) := by
    have h1 : l = l.take i ++ (l.getD i mD :: l.drop (i + 1)) := by
      rw [List.getD_eq_getElem?_getD, List.getElem?_eq_getElem hi]
      simp
    conv => lhs; rw [h1]
    rw [flatA_append]; rfl
  have hA : (flatA encM (l.take i)).length = i * 10 := by rw [flatA_length lenM, List.length_take, Nat.min_eq_left (by omega)]
  rw [e]
  generalize flatA encM (l.take i) = A at *
  generalize flatA encM (l.drop (i + 1)) = B at *
  generalize l.getD i mD = m at *
  rw [← hA]
  have t1 : ∀ j, A.take (A.length + j) = A := fun j => List.take_of_length_le (by omega)
  have d1 : ∀ j, A.drop (A.length + j) = [] := fun j => List.drop_eq_nil_of_le (by omega)
  have s1 : ∀ j, A.length + j - A.length = j := fun j => by omega
  simp [encM, List.take_append, List.drop_append, t1, d1, s1]
end Go.Proofs.Ytlmkeoegammdjaa
