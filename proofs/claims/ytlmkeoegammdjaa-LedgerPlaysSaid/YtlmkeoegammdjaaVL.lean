/-
  The marks of a task, over any list of marks: the program.
-/
import Derived.Test.YtlmkeoegammdjaaVK
namespace Go.Proofs.Ytlmkeoegammdjaa
open Go Go.RowKit V
set_option linter.unusedSimpArgs false
set_option linter.unusedVariables false
set_option maxHeartbeats 20000000
theorem of_v (l : List Mk) (tk : ByteArray) (hl : OkL l) : CallsV Try.prog 14 [marksV l, .str tk] [] (fun av H' => ((ofL tk l = [] ∧ av = .nilsl ∧ H' = []) ∨ (av = .sl 0 0 (ofL tk l).length 10 ∧ H' = [.row 38 (flatA encM (ofL tk l))]))) := by
  refine callsV_at Try.func14 (by kernel_rfl) ?_
  refine Q_seq ?_
  let z1 : List (Nat × AV) := [(0, marksV l), (1, .str tk)]
  refine Q_run [0, 1, 4, 5, 7, 8, 9, 10, 11, 18] (stOf 26 (z1 ++ [(4, .nilsl)]) []) ?_
  refine k_then ?_
  refine Q_seq ?_
  refine Q_run [0, 1, 4, 5, 7, 8, 9, 10, 11, 18] (stOf 26 (z1 ++ [(4, .nilsl), (5, .nilsl)]) []) ?_
  refine k_then ?_
  refine Q_seq ?_
  refine Q_seq ?_
  refine Q_run [0, 1, 4, 5, 7, 8, 9, 10, 11, 18] (stOf 26 (z1 ++ [(4, .nilsl), (5, .nilsl), (8, marksV l), (9, .int .i64 (↑l.length : Int)), (10, .int .i64 0)]) []) ?_
  refine k_then ?_
  refine q_block (by kernel_rfl) ?_
  refine q_loopd (by kernel_rfl) [0, 1, 5, 8, 9, 10] l.length (fun n' s' => ∃ k : Nat, n' = l.length - k ∧ k ≤ l.length ∧ ((ofL tk (l.take k) = [] ∧ s' = stOf 26 [(0, marksV l), (1, .str tk), (5, .nilsl), (8, marksV l), (9, .int .i64 (l.length : Int)), (10, .int .i64 (k : Int))] []) ∨ s' = stOf 26 [(0, marksV l), (1, .str tk), (5, .sl 0 0 (ofL tk (l.take k)).length 10), (8, marksV l), (9, .int .i64 (l.length : Int)), (10, .int .i64 (k : Int))] [.row 38 (flatA encM (ofL tk (l.take k)))])) ⟨0, rfl, by omega, Or.inl ⟨rfl, by kernel_rfl⟩⟩ ?_
  rintro n' _ ⟨k, rfl, hk, ⟨hk0, rfl⟩ | rfl⟩
  · rcases Nat.lt_or_ge k l.length with hlt | hge
    · have hc : decide ((k : Int) < (l.length : Int)) = true := by rw [decide_eq_true_iff]; omega
      have hd := marks_at l k hlt
      have hB := hl.1
      have hL := ofL_len tk l k
      have hR := ofL_succ tk l hlt
      have hm : OkM (l.getD k mD) := hl.2 _ (by rw [List.getD_eq_getElem?_getD, List.getElem?_eq_getElem hlt]; exact List.getElem_mem hlt)
      refine Q_seq ?_
      refine Q_run [0, 1, 4, 5, 7, 8, 9, 10, 11, 18] (stOf 26 (z1 ++ [(5, .nilsl), (8, marksV l), (9, .int .i64 (↑l.length : Int)), (10, .int .i64 (↑k : Int)), (11, .bool (decide ((↑k : Int) < (↑l.length : Int))))]) []) ?_
      refine k_then ?_
      refine q_set 11 (.bool (decide ((↑k : Int) < (↑l.length : Int)))) (.bool true) (by kernel_rfl) (by rw [hc] <;> rfl) ?_
      refine Q_seq ?_
      refine q_yes (by kernel_rfl) true (by kernel_rfl) rfl ?_
      refine q_skip (by kernel_rfl) ?_
      refine k_then ?_
      refine Q_seq ?_
      refine q_block (by kernel_rfl) ?_
      refine Q_seq ?_
      refine Q_reg ?_
      refine N_run 1 ((0 : Int) ≤ (↑k : Int) ∧ (↑k : Int) < (↑l.length : Int)) [1, 2, 3] (stOf 26 (z1 ++ [(5, .nilsl), (8, marksV l), (9, .int .i64 (↑l.length : Int)), (10, .int .i64 (↑k : Int)), (11, .bool true), (12, .fptr (List.drop ((↑k : Int).toNat * 10) (flatA encM l)))]) []) (by exact ⟨by omega, by omega⟩) ?_
      refine n_set 12 (.fptr (List.drop ((↑k : Int).toNat * 10) (flatA encM l))) (.fptr (.str (l.getD k mD).st :: .str (l.getD k mD).tk :: .int .i64 (l.getD k mD).ver :: .bool (l.getD k mD).pend :: .int .i64 (l.getD k mD).kind :: .int .i64 (l.getD k mD).err :: .str (l.getD k mD).path :: .int .i64 (l.getD k mD).at' :: .int .i64 (l.getD k mD).score :: .slv (l.getD k mD).verd.length 1 (List.map (.int .i64) (l.getD k mD).verd) :: flatA encM (List.drop (k + 1) l))) (by kernel_rfl) (by rw [hd] <;> rfl) ?_
      refine N_run 1 (10 ≤ (.str (l.getD k mD).st :: .str (l.getD k mD).tk :: .int .i64 (l.getD k mD).ver :: .bool (l.getD k mD).pend :: .int .i64 (l.getD k mD).kind :: .int .i64 (l.getD k mD).err :: .str (l.getD k mD).path :: .int .i64 (l.getD k mD).at' :: .int .i64 (l.getD k mD).score :: .slv (l.getD k mD).verd.length 1 (List.map (.int .i64) (l.getD k mD).verd) :: flatA encM (List.drop (k + 1) l)).length) [2, 3] (stOf 26 (z1 ++ [(5, .nilsl), (8, marksV l), (9, .int .i64 (↑l.length : Int)), (10, .int .i64 (↑k : Int)), (11, .bool true), (12, .fptr (encM (l.getD k mD) ++ flatA encM (List.drop (k + 1) l))), (13, .agg (encM (l.getD k mD)))]) []) (by exact by exact Nat.le_of_ble_eq_true (by kernel_rfl)) ?_
      refine N_run 2 (10 ≤ 10) [] (stOf 26 (z1 ++ [(5, .nilsl), (7, .ptr 0 0), (8, marksV l), (9, .int .i64 (↑l.length : Int)), (10, .int .i64 (↑k : Int)), (11, .bool true), (12, .fptr (encM (l.getD k mD) ++ flatA encM (List.drop (k + 1) l))), (13, .agg (encM (l.getD k mD)))]) [.row 38 (encM (l.getD k mD))]) (by exact by omega) ?_
      refine N_sel [0, 1, 4, 5, 7, 8, 9, 10, 11, 18] (stOf 26 (z1 ++ [(5, .nilsl), (7, .ptr 0 0), (8, marksV l), (9, .int .i64 (↑l.length : Int)), (10, .int .i64 (↑k : Int)), (11, .bool true)]) [.row 38 (encM (l.getD k mD))]) ?_
      refine k_then ?_
      refine Q_seq ?_
      refine Q_reg ?_
      refine N_run 3 (1 ≤ 9) [3, 4] (stOf 26 (z1 ++ [(5, .nilsl), (7, .ptr 0 0), (8, marksV l), (9, .int .i64 (↑l.length : Int)), (10, .int .i64 (↑k : Int)), (11, .bool true), (14, .ptr 0 0), (15, .ptr 0 1), (16, .str (l.getD k mD).tk)]) [.row 38 (encM (l.getD k mD))]) (by exact by omega) ?_
      refine N_run 2 (True) [] (stOf 26 (z1 ++ [(5, .nilsl), (7, .ptr 0 0), (8, marksV l), (9, .int .i64 (↑l.length : Int)), (10, .int .i64 (↑k : Int)), (11, .bool true), (14, .ptr 0 0), (15, .ptr 0 1), (16, .str (l.getD k mD).tk), (17, .str tk), (18, .bool ((l.getD k mD).tk.toList == tk.toList))]) [.row 38 (encM (l.getD k mD))]) trivial ?_
      refine N_sel [0, 1, 4, 5, 7, 8, 9, 10, 11, 18] (stOf 26 (z1 ++ [(5, .nilsl), (7, .ptr 0 0), (8, marksV l), (9, .int .i64 (↑l.length : Int)), (10, .int .i64 (↑k : Int)), (11, .bool true), (18, .bool ((l.getD k mD).tk.toList == tk.toList))]) [.row 38 (encM (l.getD k mD))]) ?_
      refine k_then ?_
      refine q_cond (by kernel_rfl) ((l.getD k mD).tk.toList == tk.toList) (by kernel_rfl) (fun h1 => ?_) (fun h1 => ?_)
      · skip
        refine Q_reg ?_
        refine N_run 2 (10 ≤ 10) [2, 3, 4, 5] (stOf 26 (z1 ++ [(5, .nilsl), (7, .ptr 0 0), (8, marksV l), (9, .int .i64 (↑l.length : Int)), (10, .int .i64 (↑k : Int)), (11, .bool true), (18, .bool ((l.getD k mD).tk.toList == tk.toList)), (19, .nilsl), (20, .agg (encM (l.getD k mD)))]) [.row 38 (encM (l.getD k mD))]) (by exact by omega) ?_
        refine n_callp 30 [.agg [.str (l.getD k mD).st, .str (l.getD k mD).tk, .int .i64 (l.getD k mD).ver, .bool (l.getD k mD).pend, .int .i64 (l.getD k mD).kind, .int .i64 (l.getD k mD).err, .str (l.getD k mD).path, .int .i64 (l.getD k mD).at', .int .i64 (l.getD k mD).score, .slv (l.getD k mD).verd.length 1 (List.map (.int .i64) (l.getD k mD).verd)]] (.agg [.str (l.getD k mD).st, .str (l.getD k mD).tk, .int .i64 (l.getD k mD).ver, .bool (l.getD k mD).pend, .int .i64 (l.getD k mD).kind, .int .i64 (l.getD k mD).err, .str (l.getD k mD).path, .int .i64 (l.getD k mD).at', .int .i64 (l.getD k mD).score, .slv (l.getD k mD).verd.length 1 (List.map (.int .i64) (l.getD k mD).verd)]) (stOf 26 (z1 ++ [(5, .nilsl), (7, .ptr 0 0), (8, marksV l), (9, .int .i64 (↑l.length : Int)), (10, .int .i64 (↑k : Int)), (11, .bool true), (18, .bool ((l.getD k mD).tk.toList == tk.toList)), (19, .nilsl), (20, .agg (encM (l.getD k mD))), (21, .agg (encM (l.getD k mD)))]) [.row 38 (encM (l.getD k mD))]) (by kernel_rfl) (by kernel_rfl) (by kernel_rfl) (by kernel_rfl) (clone_v (l.getD k mD) hm ) ?_
        refine N_run 1 (True) [4, 5] (stOf 26 (z1 ++ [(5, .nilsl), (7, .ptr 0 0), (8, marksV l), (9, .int .i64 (↑l.length : Int)), (10, .int .i64 (↑k : Int)), (11, .bool true), (18, .bool ((l.getD k mD).tk.toList == tk.toList)), (19, .nilsl), (20, .agg (encM (l.getD k mD))), (21, .agg (encM (l.getD k mD))), (22, .sl 1 0 1 10)]) [.row 38 (encM (l.getD k mD)), .row 38 (encM (l.getD k mD))]) trivial ?_
        refine n_append 23 38 10 120 0 1 (k := none) [] (encM (l.getD k mD)) (.tmp 19) (.tmp 22) _ (by kernel_rfl) (by kernel_rfl) (by kernel_rfl) (Or.inl ⟨rfl, rfl, rfl, rfl⟩) (Or.inr (Or.inr ⟨1, 0, _, _, rfl, rfl, rfl, by simp [lenM]⟩)) (by omega) (by unfold maxLen; omega) rfl ?_
        have e : ofL tk (l.take (k + 1)) = [l.getD k mD] := by rw [hR, h1, hk0]; rfl
        refine N_run 1 (True) [] (stOf 26 (z1 ++ [(5, .sl 2 0 1 10), (7, .ptr 0 0), (8, marksV l), (9, .int .i64 (↑l.length : Int)), (10, .int .i64 (↑k : Int)), (11, .bool true), (18, .bool ((l.getD k mD).tk.toList == tk.toList)), (19, .nilsl), (20, .agg (encM (l.getD k mD))), (21, .agg (encM (l.getD k mD))), (22, .sl 1 0 1 10), (23, .sl 2 0 1 10)]) [.row 38 (encM (l.getD k mD)), .row 38 (encM (l.getD k mD)), .row 38 (encM (l.getD k mD))]) trivial ?_
        refine N_sel [0, 1, 4, 5, 7, 8, 9, 10, 11, 18] (stOf 26 (z1 ++ [(5, .sl 2 0 1 10), (7, .ptr 0 0), (8, marksV l), (9, .int .i64 (↑l.length : Int)), (10, .int .i64 (↑k : Int)), (11, .bool true), (18, .bool ((l.getD k mD).tk.toList == tk.toList))]) [.row 38 (encM (l.getD k mD)), .row 38 (encM (l.getD k mD)), .row 38 (encM (l.getD k mD))]) ?_
        refine k_block ?_
        refine k_then ?_
        refine Q_reg ?_
        refine N_run 1 (True) [1] (stOf 26 (z1 ++ [(5, .sl 2 0 1 10), (7, .ptr 0 0), (8, marksV l), (9, .int .i64 (↑l.length : Int)), (10, .int .i64 (↑k : Int)), (11, .bool true), (18, .bool ((l.getD k mD).tk.toList == tk.toList)), (24, .int .i64 (IntKind.i64.wrap ((↑k : Int) + (1 : Int))))]) [.row 38 (encM (l.getD k mD)), .row 38 (encM (l.getD k mD)), .row 38 (encM (l.getD k mD))]) trivial ?_
        refine n_set 24 (.int .i64 (IntKind.i64.wrap ((↑k : Int) + (1 : Int)))) (.int .i64 ((↑k : Int) + (1 : Int))) (by kernel_rfl) (by rw [wrap_i64 (e := (↑k : Int) + (1 : Int)) (by omega) (by omega)]) ?_
        refine N_run 1 (True) [] (stOf 26 (z1 ++ [(5, .sl 2 0 1 10), (7, .ptr 0 0), (8, marksV l), (9, .int .i64 (↑l.length : Int)), (10, .int .i64 ((↑k : Int) + (1 : Int))), (11, .bool true), (18, .bool ((l.getD k mD).tk.toList == tk.toList)), (24, .int .i64 ((↑k : Int) + (1 : Int)))]) [.row 38 (encM (l.getD k mD)), .row 38 (encM (l.getD k mD)), .row 38 (encM (l.getD k mD))]) trivial ?_
        refine N_sel [0, 1, 4, 5, 7, 8, 9, 10, 11, 18] (stOf 26 (z1 ++ [(5, .sl 2 0 1 10), (7, .ptr 0 0), (8, marksV l), (9, .int .i64 (↑l.length : Int)), (10, .int .i64 ((↑k : Int) + (1 : Int))), (11, .bool true), (18, .bool ((l.getD k mD).tk.toList == tk.toList))]) [.row 38 (encM (l.getD k mD)), .row 38 (encM (l.getD k mD)), .row 38 (encM (l.getD k mD))]) ?_
        refine k_loopd1 (l.length - (k + 1)) (by omega) 2 _ (flatA encM (ofL tk (l.take (k + 1)))) (by rw [e]; rfl) (noidM _) ⟨k + 1, rfl, by omega, Or.inr (by rw [e]; kernel_rfl)⟩
      · skip
        refine q_skip (by kernel_rfl) ?_
        refine k_block ?_
        refine k_then ?_
        refine Q_reg ?_
        refine N_run 1 (True) [1] (stOf 26 (z1 ++ [(5, .nilsl), (7, .ptr 0 0), (8, marksV l), (9, .int .i64 (↑l.length : Int)), (10, .int .i64 (↑k : Int)), (11, .bool true), (18, .bool ((l.getD k mD).tk.toList == tk.toList)), (24, .int .i64 (IntKind.i64.wrap ((↑k : Int) + (1 : Int))))]) [.row 38 (encM (l.getD k mD))]) trivial ?_
        refine n_set 24 (.int .i64 (IntKind.i64.wrap ((↑k : Int) + (1 : Int)))) (.int .i64 ((↑k : Int) + (1 : Int))) (by kernel_rfl) (by rw [wrap_i64 (e := (↑k : Int) + (1 : Int)) (by omega) (by omega)]) ?_
        refine N_run 1 (True) [] (stOf 26 (z1 ++ [(5, .nilsl), (7, .ptr 0 0), (8, marksV l), (9, .int .i64 (↑l.length : Int)), (10, .int .i64 ((↑k : Int) + (1 : Int))), (11, .bool true), (18, .bool ((l.getD k mD).tk.toList == tk.toList)), (24, .int .i64 ((↑k : Int) + (1 : Int)))]) [.row 38 (encM (l.getD k mD))]) trivial ?_
        refine N_sel [0, 1, 4, 5, 7, 8, 9, 10, 11, 18] (stOf 26 (z1 ++ [(5, .nilsl), (7, .ptr 0 0), (8, marksV l), (9, .int .i64 (↑l.length : Int)), (10, .int .i64 ((↑k : Int) + (1 : Int))), (11, .bool true), (18, .bool ((l.getD k mD).tk.toList == tk.toList))]) [.row 38 (encM (l.getD k mD))]) ?_
        refine k_loopd (l.length - (k + 1)) (by omega) ⟨k + 1, rfl, by omega, Or.inl ⟨by rw [hR, h1, hk0]; rfl, by kernel_rfl⟩⟩
    · obtain rfl : k = l.length := by omega
      have hc : decide ((l.length : Int) < (l.length : Int)) = false := by rw [decide_eq_false_iff_not]; omega
      refine Q_seq ?_
      refine Q_run [0, 1, 4, 5, 7, 8, 9, 10, 11, 18] (stOf 26 (z1 ++ [(5, .nilsl), (8, marksV l), (9, .int .i64 (↑l.length : Int)), (10, .int .i64 (↑l.length : Int)), (11, .bool (decide ((↑l.length : Int) < (↑l.length : Int))))]) []) ?_
      refine k_then ?_
      refine q_set 11 (.bool (decide ((↑l.length : Int) < (↑l.length : Int)))) (.bool false) (by kernel_rfl) (by rw [hc] <;> rfl) ?_
      refine Q_seq ?_
      refine q_no (by kernel_rfl) false (by kernel_rfl) rfl ?_
      refine q_exit (by kernel_rfl) 0 (by kernel_rfl) ?_
      refine k_thenx ?_
      refine k_loopx ?_
      refine k_blockx (by kernel_rfl) ?_
      refine k_then ?_
      refine Q_seq ?_
      refine Q_run [0, 1, 4, 5, 7, 8, 9, 10, 11, 18] (stOf 26 (z1 ++ [(4, .nilsl), (5, .nilsl), (8, marksV l), (9, .int .i64 (↑l.length : Int)), (10, .int .i64 (↑l.length : Int)), (11, .bool false)]) []) ?_
      refine k_then ?_
      refine q_ret (by kernel_rfl) ?_
      refine k_fin (True) (.nilsl) [] [] (.nilsl) (by kernel_rfl) (by kernel_rfl) (by kernel_rfl) trivial (keep_nil _) ?_
      exact Or.inl ⟨by rw [List.take_length] at hk0; exact hk0, rfl, rfl⟩
  · rcases Nat.lt_or_ge k l.length with hlt | hge
    · have hc : decide ((k : Int) < (l.length : Int)) = true := by rw [decide_eq_true_iff]; omega
      have hd := marks_at l k hlt
      have hB := hl.1
      have hL := ofL_len tk l k
      have hR := ofL_succ tk l hlt
      have hm : OkM (l.getD k mD) := hl.2 _ (by rw [List.getD_eq_getElem?_getD, List.getElem?_eq_getElem hlt]; exact List.getElem_mem hlt)
      refine Q_seq ?_
      refine Q_run [0, 1, 4, 5, 7, 8, 9, 10, 11, 18] (stOf 26 (z1 ++ [(5, .sl 0 0 (ofL tk (List.take k l)).length 10), (8, marksV l), (9, .int .i64 (↑l.length : Int)), (10, .int .i64 (↑k : Int)), (11, .bool (decide ((↑k : Int) < (↑l.length : Int))))]) [.row 38 (flatA encM (ofL tk (List.take k l)))]) ?_
      refine k_then ?_
      refine q_set 11 (.bool (decide ((↑k : Int) < (↑l.length : Int)))) (.bool true) (by kernel_rfl) (by rw [hc] <;> rfl) ?_
      refine Q_seq ?_
      refine q_yes (by kernel_rfl) true (by kernel_rfl) rfl ?_
      refine q_skip (by kernel_rfl) ?_
      refine k_then ?_
      refine Q_seq ?_
      refine q_block (by kernel_rfl) ?_
      refine Q_seq ?_
      refine Q_reg ?_
      refine N_run 1 ((0 : Int) ≤ (↑k : Int) ∧ (↑k : Int) < (↑l.length : Int)) [1, 2, 3] (stOf 26 (z1 ++ [(5, .sl 0 0 (ofL tk (List.take k l)).length 10), (8, marksV l), (9, .int .i64 (↑l.length : Int)), (10, .int .i64 (↑k : Int)), (11, .bool true), (12, .fptr (List.drop ((↑k : Int).toNat * 10) (flatA encM l)))]) [.row 38 (flatA encM (ofL tk (List.take k l)))]) (by exact ⟨by omega, by omega⟩) ?_
      refine n_set 12 (.fptr (List.drop ((↑k : Int).toNat * 10) (flatA encM l))) (.fptr (.str (l.getD k mD).st :: .str (l.getD k mD).tk :: .int .i64 (l.getD k mD).ver :: .bool (l.getD k mD).pend :: .int .i64 (l.getD k mD).kind :: .int .i64 (l.getD k mD).err :: .str (l.getD k mD).path :: .int .i64 (l.getD k mD).at' :: .int .i64 (l.getD k mD).score :: .slv (l.getD k mD).verd.length 1 (List.map (.int .i64) (l.getD k mD).verd) :: flatA encM (List.drop (k + 1) l))) (by kernel_rfl) (by rw [hd] <;> rfl) ?_
      refine N_run 1 (10 ≤ (.str (l.getD k mD).st :: .str (l.getD k mD).tk :: .int .i64 (l.getD k mD).ver :: .bool (l.getD k mD).pend :: .int .i64 (l.getD k mD).kind :: .int .i64 (l.getD k mD).err :: .str (l.getD k mD).path :: .int .i64 (l.getD k mD).at' :: .int .i64 (l.getD k mD).score :: .slv (l.getD k mD).verd.length 1 (List.map (.int .i64) (l.getD k mD).verd) :: flatA encM (List.drop (k + 1) l)).length) [2, 3] (stOf 26 (z1 ++ [(5, .sl 0 0 (ofL tk (List.take k l)).length 10), (8, marksV l), (9, .int .i64 (↑l.length : Int)), (10, .int .i64 (↑k : Int)), (11, .bool true), (12, .fptr (encM (l.getD k mD) ++ flatA encM (List.drop (k + 1) l))), (13, .agg (encM (l.getD k mD)))]) [.row 38 (flatA encM (ofL tk (List.take k l)))]) (by exact by exact Nat.le_of_ble_eq_true (by kernel_rfl)) ?_
      refine N_run 2 (10 ≤ 10) [] (stOf 26 (z1 ++ [(5, .sl 0 0 (ofL tk (List.take k l)).length 10), (7, .ptr 1 0), (8, marksV l), (9, .int .i64 (↑l.length : Int)), (10, .int .i64 (↑k : Int)), (11, .bool true), (12, .fptr (encM (l.getD k mD) ++ flatA encM (List.drop (k + 1) l))), (13, .agg (encM (l.getD k mD)))]) [.row 38 (flatA encM (ofL tk (List.take k l))), .row 38 (encM (l.getD k mD))]) (by exact by omega) ?_
      refine N_sel [0, 1, 4, 5, 7, 8, 9, 10, 11, 18] (stOf 26 (z1 ++ [(5, .sl 0 0 (ofL tk (List.take k l)).length 10), (7, .ptr 1 0), (8, marksV l), (9, .int .i64 (↑l.length : Int)), (10, .int .i64 (↑k : Int)), (11, .bool true)]) [.row 38 (flatA encM (ofL tk (List.take k l))), .row 38 (encM (l.getD k mD))]) ?_
      refine k_then ?_
      refine Q_seq ?_
      refine Q_reg ?_
      refine N_run 3 (1 ≤ 9) [3, 4] (stOf 26 (z1 ++ [(5, .sl 0 0 (ofL tk (List.take k l)).length 10), (7, .ptr 1 0), (8, marksV l), (9, .int .i64 (↑l.length : Int)), (10, .int .i64 (↑k : Int)), (11, .bool true), (14, .ptr 1 0), (15, .ptr 1 1), (16, .str (l.getD k mD).tk)]) [.row 38 (flatA encM (ofL tk (List.take k l))), .row 38 (encM (l.getD k mD))]) (by exact by omega) ?_
      refine N_run 2 (True) [] (stOf 26 (z1 ++ [(5, .sl 0 0 (ofL tk (List.take k l)).length 10), (7, .ptr 1 0), (8, marksV l), (9, .int .i64 (↑l.length : Int)), (10, .int .i64 (↑k : Int)), (11, .bool true), (14, .ptr 1 0), (15, .ptr 1 1), (16, .str (l.getD k mD).tk), (17, .str tk), (18, .bool ((l.getD k mD).tk.toList == tk.toList))]) [.row 38 (flatA encM (ofL tk (List.take k l))), .row 38 (encM (l.getD k mD))]) trivial ?_
      refine N_sel [0, 1, 4, 5, 7, 8, 9, 10, 11, 18] (stOf 26 (z1 ++ [(5, .sl 0 0 (ofL tk (List.take k l)).length 10), (7, .ptr 1 0), (8, marksV l), (9, .int .i64 (↑l.length : Int)), (10, .int .i64 (↑k : Int)), (11, .bool true), (18, .bool ((l.getD k mD).tk.toList == tk.toList))]) [.row 38 (flatA encM (ofL tk (List.take k l))), .row 38 (encM (l.getD k mD))]) ?_
      refine k_then ?_
      refine q_cond (by kernel_rfl) ((l.getD k mD).tk.toList == tk.toList) (by kernel_rfl) (fun h1 => ?_) (fun h1 => ?_)
      · skip
        refine Q_reg ?_
        refine N_run 2 (10 ≤ 10) [2, 3, 4, 5] (stOf 26 (z1 ++ [(5, .sl 0 0 (ofL tk (List.take k l)).length 10), (7, .ptr 1 0), (8, marksV l), (9, .int .i64 (↑l.length : Int)), (10, .int .i64 (↑k : Int)), (11, .bool true), (18, .bool ((l.getD k mD).tk.toList == tk.toList)), (19, .sl 0 0 (ofL tk (List.take k l)).length 10), (20, .agg (encM (l.getD k mD)))]) [.row 38 (flatA encM (ofL tk (List.take k l))), .row 38 (encM (l.getD k mD))]) (by exact by omega) ?_
        refine n_callp 30 [.agg [.str (l.getD k mD).st, .str (l.getD k mD).tk, .int .i64 (l.getD k mD).ver, .bool (l.getD k mD).pend, .int .i64 (l.getD k mD).kind, .int .i64 (l.getD k mD).err, .str (l.getD k mD).path, .int .i64 (l.getD k mD).at', .int .i64 (l.getD k mD).score, .slv (l.getD k mD).verd.length 1 (List.map (.int .i64) (l.getD k mD).verd)]] (.agg [.str (l.getD k mD).st, .str (l.getD k mD).tk, .int .i64 (l.getD k mD).ver, .bool (l.getD k mD).pend, .int .i64 (l.getD k mD).kind, .int .i64 (l.getD k mD).err, .str (l.getD k mD).path, .int .i64 (l.getD k mD).at', .int .i64 (l.getD k mD).score, .slv (l.getD k mD).verd.length 1 (List.map (.int .i64) (l.getD k mD).verd)]) (stOf 26 (z1 ++ [(5, .sl 0 0 (ofL tk (List.take k l)).length 10), (7, .ptr 1 0), (8, marksV l), (9, .int .i64 (↑l.length : Int)), (10, .int .i64 (↑k : Int)), (11, .bool true), (18, .bool ((l.getD k mD).tk.toList == tk.toList)), (19, .sl 0 0 (ofL tk (List.take k l)).length 10), (20, .agg (encM (l.getD k mD))), (21, .agg (encM (l.getD k mD)))]) [.row 38 (flatA encM (ofL tk (List.take k l))), .row 38 (encM (l.getD k mD))]) (by kernel_rfl) (by kernel_rfl) (by kernel_rfl) (by kernel_rfl) (clone_v (l.getD k mD) hm ) ?_
        refine N_run 1 (True) [4, 5] (stOf 26 (z1 ++ [(5, .sl 0 0 (ofL tk (List.take k l)).length 10), (7, .ptr 1 0), (8, marksV l), (9, .int .i64 (↑l.length : Int)), (10, .int .i64 (↑k : Int)), (11, .bool true), (18, .bool ((l.getD k mD).tk.toList == tk.toList)), (19, .sl 0 0 (ofL tk (List.take k l)).length 10), (20, .agg (encM (l.getD k mD))), (21, .agg (encM (l.getD k mD))), (22, .sl 2 0 1 10)]) [.row 38 (flatA encM (ofL tk (List.take k l))), .row 38 (encM (l.getD k mD)), .row 38 (encM (l.getD k mD))]) trivial ?_
        refine n_append 23 38 10 120 (ofL tk (l.take k)).length 1 (k := some 0) (flatA encM (ofL tk (l.take k))) (encM (l.getD k mD)) (.tmp 19) (.tmp 22) _ (by kernel_rfl) (by kernel_rfl) (by kernel_rfl) (Or.inr ⟨0, _, rfl, rfl, rfl, (List.take_of_length_le (by rw [flatA_length lenM]; omega)).symm, by rw [flatA_length lenM]; omega⟩) (Or.inr (Or.inr ⟨2, 0, _, _, rfl, rfl, rfl, by simp [lenM]⟩)) (by omega) (by unfold maxLen; omega) rfl ?_
        have e : ofL tk (l.take (k + 1)) = ofL tk (l.take k) ++ [l.getD k mD] := by rw [hR, h1]; rfl
        refine N_run 1 (True) [] (stOf 26 (z1 ++ [(5, .sl 3 0 ((ofL tk (List.take k l)).length + 1) 10), (7, .ptr 1 0), (8, marksV l), (9, .int .i64 (↑l.length : Int)), (10, .int .i64 (↑k : Int)), (11, .bool true), (18, .bool ((l.getD k mD).tk.toList == tk.toList)), (19, .sl 0 0 (ofL tk (List.take k l)).length 10), (20, .agg (encM (l.getD k mD))), (21, .agg (encM (l.getD k mD))), (22, .sl 2 0 1 10), (23, .sl 3 0 ((ofL tk (List.take k l)).length + 1) 10)]) [Blk.dead, .row 38 (encM (l.getD k mD)), .row 38 (encM (l.getD k mD)), .row 38 (flatA encM (ofL tk (List.take k l)) ++ encM (l.getD k mD))]) trivial ?_
        refine N_sel [0, 1, 4, 5, 7, 8, 9, 10, 11, 18] (stOf 26 (z1 ++ [(5, .sl 3 0 ((ofL tk (List.take k l)).length + 1) 10), (7, .ptr 1 0), (8, marksV l), (9, .int .i64 (↑l.length : Int)), (10, .int .i64 (↑k : Int)), (11, .bool true), (18, .bool ((l.getD k mD).tk.toList == tk.toList))]) [Blk.dead, .row 38 (encM (l.getD k mD)), .row 38 (encM (l.getD k mD)), .row 38 (flatA encM (ofL tk (List.take k l)) ++ encM (l.getD k mD))]) ?_
        refine k_block ?_
        refine k_then ?_
        refine Q_reg ?_
        refine N_run 1 (True) [1] (stOf 26 (z1 ++ [(5, .sl 3 0 ((ofL tk (List.take k l)).length + 1) 10), (7, .ptr 1 0), (8, marksV l), (9, .int .i64 (↑l.length : Int)), (10, .int .i64 (↑k : Int)), (11, .bool true), (18, .bool ((l.getD k mD).tk.toList == tk.toList)), (24, .int .i64 (IntKind.i64.wrap ((↑k : Int) + (1 : Int))))]) [Blk.dead, .row 38 (encM (l.getD k mD)), .row 38 (encM (l.getD k mD)), .row 38 (flatA encM (ofL tk (List.take k l)) ++ encM (l.getD k mD))]) trivial ?_
        refine n_set 24 (.int .i64 (IntKind.i64.wrap ((↑k : Int) + (1 : Int)))) (.int .i64 ((↑k : Int) + (1 : Int))) (by kernel_rfl) (by rw [wrap_i64 (e := (↑k : Int) + (1 : Int)) (by omega) (by omega)]) ?_
        refine N_run 1 (True) [] (stOf 26 (z1 ++ [(5, .sl 3 0 ((ofL tk (List.take k l)).length + 1) 10), (7, .ptr 1 0), (8, marksV l), (9, .int .i64 (↑l.length : Int)), (10, .int .i64 ((↑k : Int) + (1 : Int))), (11, .bool true), (18, .bool ((l.getD k mD).tk.toList == tk.toList)), (24, .int .i64 ((↑k : Int) + (1 : Int)))]) [Blk.dead, .row 38 (encM (l.getD k mD)), .row 38 (encM (l.getD k mD)), .row 38 (flatA encM (ofL tk (List.take k l)) ++ encM (l.getD k mD))]) trivial ?_
        refine N_sel [0, 1, 4, 5, 7, 8, 9, 10, 11, 18] (stOf 26 (z1 ++ [(5, .sl 3 0 ((ofL tk (List.take k l)).length + 1) 10), (7, .ptr 1 0), (8, marksV l), (9, .int .i64 (↑l.length : Int)), (10, .int .i64 ((↑k : Int) + (1 : Int))), (11, .bool true), (18, .bool ((l.getD k mD).tk.toList == tk.toList))]) [Blk.dead, .row 38 (encM (l.getD k mD)), .row 38 (encM (l.getD k mD)), .row 38 (flatA encM (ofL tk (List.take k l)) ++ encM (l.getD k mD))]) ?_
        refine k_loopd1 (l.length - (k + 1)) (by omega) 3 _ (flatA encM (ofL tk (l.take (k + 1)))) (by rw [e, flatA_append]; rfl) (noidM _) ⟨k + 1, rfl, by omega, Or.inr (by rw [e, List.length_append]; kernel_rfl)⟩
      · skip
        refine q_skip (by kernel_rfl) ?_
        refine k_block ?_
        refine k_then ?_
        refine Q_reg ?_
        refine N_run 1 (True) [1] (stOf 26 (z1 ++ [(5, .sl 0 0 (ofL tk (List.take k l)).length 10), (7, .ptr 1 0), (8, marksV l), (9, .int .i64 (↑l.length : Int)), (10, .int .i64 (↑k : Int)), (11, .bool true), (18, .bool ((l.getD k mD).tk.toList == tk.toList)), (24, .int .i64 (IntKind.i64.wrap ((↑k : Int) + (1 : Int))))]) [.row 38 (flatA encM (ofL tk (List.take k l))), .row 38 (encM (l.getD k mD))]) trivial ?_
        refine n_set 24 (.int .i64 (IntKind.i64.wrap ((↑k : Int) + (1 : Int)))) (.int .i64 ((↑k : Int) + (1 : Int))) (by kernel_rfl) (by rw [wrap_i64 (e := (↑k : Int) + (1 : Int)) (by omega) (by omega)]) ?_
        refine N_run 1 (True) [] (stOf 26 (z1 ++ [(5, .sl 0 0 (ofL tk (List.take k l)).length 10), (7, .ptr 1 0), (8, marksV l), (9, .int .i64 (↑l.length : Int)), (10, .int .i64 ((↑k : Int) + (1 : Int))), (11, .bool true), (18, .bool ((l.getD k mD).tk.toList == tk.toList)), (24, .int .i64 ((↑k : Int) + (1 : Int)))]) [.row 38 (flatA encM (ofL tk (List.take k l))), .row 38 (encM (l.getD k mD))]) trivial ?_
        refine N_sel [0, 1, 4, 5, 7, 8, 9, 10, 11, 18] (stOf 26 (z1 ++ [(5, .sl 0 0 (ofL tk (List.take k l)).length 10), (7, .ptr 1 0), (8, marksV l), (9, .int .i64 (↑l.length : Int)), (10, .int .i64 ((↑k : Int) + (1 : Int))), (11, .bool true), (18, .bool ((l.getD k mD).tk.toList == tk.toList))]) [.row 38 (flatA encM (ofL tk (List.take k l))), .row 38 (encM (l.getD k mD))]) ?_
        have e : ofL tk (l.take (k + 1)) = ofL tk (l.take k) := by rw [hR, h1]; simp
        refine k_loopd1 (l.length - (k + 1)) (by omega) 0 _ (flatA encM (ofL tk (l.take (k + 1)))) (by rw [e]; rfl) (noidM _) ⟨k + 1, rfl, by omega, Or.inr (by rw [e]; kernel_rfl)⟩
    · obtain rfl : k = l.length := by omega
      have hc : decide ((l.length : Int) < (l.length : Int)) = false := by rw [decide_eq_false_iff_not]; omega
      refine Q_seq ?_
      refine Q_run [0, 1, 4, 5, 7, 8, 9, 10, 11, 18] (stOf 26 (z1 ++ [(5, .sl 0 0 (ofL tk (List.take l.length l)).length 10), (8, marksV l), (9, .int .i64 (↑l.length : Int)), (10, .int .i64 (↑l.length : Int)), (11, .bool (decide ((↑l.length : Int) < (↑l.length : Int))))]) [.row 38 (flatA encM (ofL tk (List.take l.length l)))]) ?_
      refine k_then ?_
      refine q_set 11 (.bool (decide ((↑l.length : Int) < (↑l.length : Int)))) (.bool false) (by kernel_rfl) (by rw [hc] <;> rfl) ?_
      refine Q_seq ?_
      refine q_no (by kernel_rfl) false (by kernel_rfl) rfl ?_
      refine q_exit (by kernel_rfl) 0 (by kernel_rfl) ?_
      refine k_thenx ?_
      refine k_loopx ?_
      refine k_blockx (by kernel_rfl) ?_
      refine k_then ?_
      refine Q_seq ?_
      refine Q_run [0, 1, 4, 5, 7, 8, 9, 10, 11, 18] (stOf 26 (z1 ++ [(4, .sl 0 0 (ofL tk (List.take l.length l)).length 10), (5, .sl 0 0 (ofL tk (List.take l.length l)).length 10), (8, marksV l), (9, .int .i64 (↑l.length : Int)), (10, .int .i64 (↑l.length : Int)), (11, .bool false)]) [.row 38 (flatA encM (ofL tk (List.take l.length l)))]) ?_
      refine k_then ?_
      refine q_ret (by kernel_rfl) ?_
      exact k_fin True (.sl 0 0 (ofL tk (l.take l.length)).length 10) [0] [.row 38 (flatA encM (ofL tk (l.take l.length)))] (.sl 0 0 (ofL tk (l.take l.length)).length 10) (by kernel_rfl) (by kernel_rfl) (by kernel_rfl) trivial (keep_row 0 _ _ rfl (noidM _)) (Or.inr ⟨by rw [List.take_length], by rw [List.take_length]⟩)
end Go.Proofs.Ytlmkeoegammdjaa
