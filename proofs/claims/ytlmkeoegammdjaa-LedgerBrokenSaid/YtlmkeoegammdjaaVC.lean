/-
  Contracts of the functions on lists of marks, in the logic of values.
-/
import Derived.Test.YtlmkeoegammdjaaVB
namespace Go.Proofs.Ytlmkeoegammdjaa
open Go Go.RowKit V
set_option linter.unusedSimpArgs false
set_option linter.unusedVariables false
set_option maxHeartbeats 20000000
abbrev mD : Mk := ⟨ByteArray.empty, ByteArray.empty, 0, false, 0, 0, ByteArray.empty, 0, 0, []⟩
theorem marks_at (l : List Mk) (k : Nat) (hk : k < l.length) : (flatA encM l).drop ((k : Int).toNat * 10) = AV.str (l.getD k mD).st :: AV.str (l.getD k mD).tk :: AV.int .i64 (l.getD k mD).ver :: AV.bool (l.getD k mD).pend :: AV.int .i64 (l.getD k mD).kind :: AV.int .i64 (l.getD k mD).err :: AV.str (l.getD k mD).path :: AV.int .i64 (l.getD k mD).at' :: AV.int .i64 (l.getD k mD).score :: AV.slv (l.getD k mD).verd.length 1 ((l.getD k mD).verd.map (AV.int .i64)) :: flatA encM (l.drop (k + 1)) := flatA_at lenM l mD k hk
def OkL (l : List Mk) : Prop := l.length ≤ 1000000000 ∧ ∀ m ∈ l, OkM m
theorem take_succ_mk (l : List Mk) {k : Nat} (hk : k < l.length) : l.take (k + 1) = l.take k ++ [l.getD k mD] := by
  rw [List.take_add_one, List.getD_eq_getElem?_getD, List.getElem?_eq_getElem hk]; rfl
theorem take_one_mk (l : List Mk) (hk : 0 < l.length) : l.take 1 = [l.getD 0 mD] := by rw [take_succ_mk l hk]; rfl
theorem cloneAll_v (l : List Mk) (hl : OkL l) (h0 : 0 < l.length) : CallsV Try.prog 32 [marksV l] [] (fun av H' => av = .sl 0 0 l.length 10 ∧ H' = [.row 38 (flatA encM l)]) := by
  refine callsV_at Try.func32 (by kernel_rfl) ?_
  refine Q_seq ?_
  let z1 : List (Nat × AV) := [(0, marksV l), (2, .nilsl)]
  refine Q_run [0, 2, 3, 5, 6, 7, 8, 9] (stOf 19 z1 []) ?_
  refine k_then ?_
  refine Q_seq ?_
  refine Q_run [0, 2, 3, 5, 6, 7, 8, 9] (stOf 19 (z1 ++ [(3, .nilsl)]) []) ?_
  refine k_then ?_
  refine Q_seq ?_
  refine Q_seq ?_
  refine Q_run [0, 2, 3, 5, 6, 7, 8, 9] (stOf 19 (z1 ++ [(3, .nilsl), (6, marksV l), (7, .int .i64 (↑l.length : Int)), (8, .int .i64 0)]) []) ?_
  refine k_then ?_
  refine q_block (by kernel_rfl) ?_
  refine q_loopd (by kernel_rfl) [0, 2, 3, 6, 7, 8] l.length (fun n' s' => ∃ k : Nat, n' = l.length - k ∧ k ≤ l.length ∧ ((k = 0 ∧ s' = stOf 19 [(0, marksV l), (2, .nilsl), (3, .nilsl), (6, marksV l), (7, .int .i64 (l.length : Int)), (8, .int .i64 (0 : Int))] []) ∨ (0 < k ∧ s' = stOf 19 [(0, marksV l), (2, .nilsl), (3, .sl 0 0 k 10), (6, marksV l), (7, .int .i64 (l.length : Int)), (8, .int .i64 (k : Int))] [.row 38 (flatA encM (l.take k))]))) ⟨0, rfl, by omega, Or.inl ⟨rfl, by kernel_rfl⟩⟩ ?_
  rintro n' _ ⟨k, rfl, hk, ⟨hk0, rfl⟩ | ⟨hk0, rfl⟩⟩
  · subst hk0
    have hc : decide ((0 : Int) < (l.length : Int)) = true := by rw [decide_eq_true_iff]; omega
    have hd : (flatA encM l).drop ((0 : Int).toNat * 10) = AV.str (l.getD 0 mD).st :: AV.str (l.getD 0 mD).tk :: AV.int .i64 (l.getD 0 mD).ver :: AV.bool (l.getD 0 mD).pend :: AV.int .i64 (l.getD 0 mD).kind :: AV.int .i64 (l.getD 0 mD).err :: AV.str (l.getD 0 mD).path :: AV.int .i64 (l.getD 0 mD).at' :: AV.int .i64 (l.getD 0 mD).score :: AV.slv (l.getD 0 mD).verd.length 1 ((l.getD 0 mD).verd.map (AV.int .i64)) :: flatA encM (l.drop 1) := marks_at l 0 h0
    have hm : OkM (l.getD 0 mD) := hl.2 _ (by rw [List.getD_eq_getElem?_getD, List.getElem?_eq_getElem h0]; exact List.getElem_mem h0)
    refine Q_seq ?_
    refine Q_run [0, 2, 3, 5, 6, 7, 8, 9] (stOf 19 (z1 ++ [(3, .nilsl), (6, marksV l), (7, .int .i64 (↑l.length : Int)), (8, .int .i64 0), (9, .bool (decide ((0 : Int) < (↑l.length : Int))))]) []) ?_
    refine k_then ?_
    refine q_set 9 (.bool (decide ((0 : Int) < (↑l.length : Int)))) (.bool true) (by kernel_rfl) (by rw [hc] <;> rfl) ?_
    refine Q_seq ?_
    refine q_yes (by kernel_rfl) true (by kernel_rfl) rfl ?_
    refine q_skip (by kernel_rfl) ?_
    refine k_then ?_
    refine Q_seq ?_
    refine q_block (by kernel_rfl) ?_
    refine Q_seq ?_
    refine Q_reg ?_
    refine N_run 1 ((0 : Int) ≤ (0 : Int) ∧ (0 : Int) < (↑l.length : Int)) [1, 2, 3] (stOf 19 (z1 ++ [(3, .nilsl), (6, marksV l), (7, .int .i64 (↑l.length : Int)), (8, .int .i64 0), (9, .bool true), (10, .fptr (List.drop (Int.toNat (0 : Int) * 10) (flatA encM l)))]) []) (by exact ⟨by omega, by omega⟩) ?_
    refine n_set 10 (.fptr (List.drop (Int.toNat (0 : Int) * 10) (flatA encM l))) (.fptr (.str (l.getD 0 mD).st :: .str (l.getD 0 mD).tk :: .int .i64 (l.getD 0 mD).ver :: .bool (l.getD 0 mD).pend :: .int .i64 (l.getD 0 mD).kind :: .int .i64 (l.getD 0 mD).err :: .str (l.getD 0 mD).path :: .int .i64 (l.getD 0 mD).at' :: .int .i64 (l.getD 0 mD).score :: .slv (l.getD 0 mD).verd.length 1 (List.map (.int .i64) (l.getD 0 mD).verd) :: flatA encM (List.drop 1 l))) (by kernel_rfl) (by rw [hd] <;> rfl) ?_
    refine N_run 1 (10 ≤ (.str (l.getD 0 mD).st :: .str (l.getD 0 mD).tk :: .int .i64 (l.getD 0 mD).ver :: .bool (l.getD 0 mD).pend :: .int .i64 (l.getD 0 mD).kind :: .int .i64 (l.getD 0 mD).err :: .str (l.getD 0 mD).path :: .int .i64 (l.getD 0 mD).at' :: .int .i64 (l.getD 0 mD).score :: .slv (l.getD 0 mD).verd.length 1 (List.map (.int .i64) (l.getD 0 mD).verd) :: flatA encM (List.drop 1 l)).length) [2, 3] (stOf 19 (z1 ++ [(3, .nilsl), (6, marksV l), (7, .int .i64 (↑l.length : Int)), (8, .int .i64 0), (9, .bool true), (10, .fptr (encM (l.getD 0 mD) ++ flatA encM (List.drop 1 l))), (11, .agg (encM (l.getD 0 mD)))]) []) (by exact by exact Nat.le_of_ble_eq_true (by kernel_rfl)) ?_
    refine N_run 2 (10 ≤ 10) [] (stOf 19 (z1 ++ [(3, .nilsl), (5, .ptr 0 0), (6, marksV l), (7, .int .i64 (↑l.length : Int)), (8, .int .i64 0), (9, .bool true), (10, .fptr (encM (l.getD 0 mD) ++ flatA encM (List.drop 1 l))), (11, .agg (encM (l.getD 0 mD)))]) [.row 38 (encM (l.getD 0 mD))]) (by exact by omega) ?_
    refine N_sel [0, 2, 3, 5, 6, 7, 8, 9] (stOf 19 (z1 ++ [(3, .nilsl), (5, .ptr 0 0), (6, marksV l), (7, .int .i64 (↑l.length : Int)), (8, .int .i64 0), (9, .bool true)]) [.row 38 (encM (l.getD 0 mD))]) ?_
    refine k_then ?_
    refine Q_reg ?_
    refine N_run 2 (10 ≤ 10) [2, 3, 4, 5] (stOf 19 (z1 ++ [(3, .nilsl), (5, .ptr 0 0), (6, marksV l), (7, .int .i64 (↑l.length : Int)), (8, .int .i64 0), (9, .bool true), (12, .nilsl), (13, .agg (encM (l.getD 0 mD)))]) [.row 38 (encM (l.getD 0 mD))]) (by exact by omega) ?_
    refine n_callp 30 [.agg [.str (l.getD 0 mD).st, .str (l.getD 0 mD).tk, .int .i64 (l.getD 0 mD).ver, .bool (l.getD 0 mD).pend, .int .i64 (l.getD 0 mD).kind, .int .i64 (l.getD 0 mD).err, .str (l.getD 0 mD).path, .int .i64 (l.getD 0 mD).at', .int .i64 (l.getD 0 mD).score, .slv (l.getD 0 mD).verd.length 1 (List.map (.int .i64) (l.getD 0 mD).verd)]] (.agg [.str (l.getD 0 mD).st, .str (l.getD 0 mD).tk, .int .i64 (l.getD 0 mD).ver, .bool (l.getD 0 mD).pend, .int .i64 (l.getD 0 mD).kind, .int .i64 (l.getD 0 mD).err, .str (l.getD 0 mD).path, .int .i64 (l.getD 0 mD).at', .int .i64 (l.getD 0 mD).score, .slv (l.getD 0 mD).verd.length 1 (List.map (.int .i64) (l.getD 0 mD).verd)]) (stOf 19 (z1 ++ [(3, .nilsl), (5, .ptr 0 0), (6, marksV l), (7, .int .i64 (↑l.length : Int)), (8, .int .i64 0), (9, .bool true), (12, .nilsl), (13, .agg (encM (l.getD 0 mD))), (14, .agg (encM (l.getD 0 mD)))]) [.row 38 (encM (l.getD 0 mD))]) (by kernel_rfl) (by kernel_rfl) (by kernel_rfl) (by kernel_rfl) (clone_v (l.getD 0 mD) hm ) ?_
    refine N_run 1 (True) [4, 5] (stOf 19 (z1 ++ [(3, .nilsl), (5, .ptr 0 0), (6, marksV l), (7, .int .i64 (↑l.length : Int)), (8, .int .i64 0), (9, .bool true), (12, .nilsl), (13, .agg (encM (l.getD 0 mD))), (14, .agg (encM (l.getD 0 mD))), (15, .sl 1 0 1 10)]) [.row 38 (encM (l.getD 0 mD)), .row 38 (encM (l.getD 0 mD))]) trivial ?_
    refine n_append 23 38 10 120 0 1 (k := none) [] (encM (l.getD 0 mD)) (.tmp 12) (.tmp 15) _ (by kernel_rfl) (by kernel_rfl) (by kernel_rfl) (Or.inl ⟨rfl, rfl, rfl, rfl⟩) (Or.inr (Or.inr ⟨1, 0, _, _, rfl, rfl, rfl, by simp [lenM]⟩)) (by omega) (by unfold maxLen; omega) rfl ?_
    refine N_run 1 (True) [] (stOf 19 (z1 ++ [(3, .sl 2 0 1 10), (5, .ptr 0 0), (6, marksV l), (7, .int .i64 (↑l.length : Int)), (8, .int .i64 0), (9, .bool true), (12, .nilsl), (13, .agg (encM (l.getD 0 mD))), (14, .agg (encM (l.getD 0 mD))), (15, .sl 1 0 1 10), (16, .sl 2 0 1 10)]) [.row 38 (encM (l.getD 0 mD)), .row 38 (encM (l.getD 0 mD)), .row 38 (encM (l.getD 0 mD))]) trivial ?_
    refine N_sel [0, 2, 3, 5, 6, 7, 8, 9] (stOf 19 (z1 ++ [(3, .sl 2 0 1 10), (5, .ptr 0 0), (6, marksV l), (7, .int .i64 (↑l.length : Int)), (8, .int .i64 0), (9, .bool true)]) [.row 38 (encM (l.getD 0 mD)), .row 38 (encM (l.getD 0 mD)), .row 38 (encM (l.getD 0 mD))]) ?_
    refine k_block ?_
    refine k_then ?_
    refine Q_reg ?_
    refine N_run 1 (True) [1] (stOf 19 (z1 ++ [(3, .sl 2 0 1 10), (5, .ptr 0 0), (6, marksV l), (7, .int .i64 (↑l.length : Int)), (8, .int .i64 0), (9, .bool true), (17, .int .i64 1)]) [.row 38 (encM (l.getD 0 mD)), .row 38 (encM (l.getD 0 mD)), .row 38 (encM (l.getD 0 mD))]) trivial ?_
    refine N_run 1 (True) [] (stOf 19 (z1 ++ [(3, .sl 2 0 1 10), (5, .ptr 0 0), (6, marksV l), (7, .int .i64 (↑l.length : Int)), (8, .int .i64 1), (9, .bool true), (17, .int .i64 1)]) [.row 38 (encM (l.getD 0 mD)), .row 38 (encM (l.getD 0 mD)), .row 38 (encM (l.getD 0 mD))]) trivial ?_
    refine N_sel [0, 2, 3, 5, 6, 7, 8, 9] (stOf 19 (z1 ++ [(3, .sl 2 0 1 10), (5, .ptr 0 0), (6, marksV l), (7, .int .i64 (↑l.length : Int)), (8, .int .i64 1), (9, .bool true)]) [.row 38 (encM (l.getD 0 mD)), .row 38 (encM (l.getD 0 mD)), .row 38 (encM (l.getD 0 mD))]) ?_
    refine k_loopd1 (l.length - 1) (by omega) 2 _ (flatA encM (l.take 1)) (by rw [take_one_mk l h0]; rfl) (noidM _) ⟨1, rfl, by omega, Or.inr ⟨by omega, by kernel_rfl⟩⟩
  · rcases Nat.lt_or_ge k l.length with hlt | hge
    · have hc : decide ((k : Int) < (l.length : Int)) = true := by rw [decide_eq_true_iff]; omega
      have hd := marks_at l k hlt
      have hm : OkM (l.getD k mD) := hl.2 _ (by rw [List.getD_eq_getElem?_getD, List.getElem?_eq_getElem hlt]; exact List.getElem_mem hlt)
      have hB := hl.1
      refine Q_seq ?_
      refine Q_run [0, 2, 3, 5, 6, 7, 8, 9] (stOf 19 (z1 ++ [(3, .sl 0 0 k 10), (6, marksV l), (7, .int .i64 (↑l.length : Int)), (8, .int .i64 (↑k : Int)), (9, .bool (decide ((↑k : Int) < (↑l.length : Int))))]) [.row 38 (flatA encM (List.take k l))]) ?_
      refine k_then ?_
      refine q_set 9 (.bool (decide ((↑k : Int) < (↑l.length : Int)))) (.bool true) (by kernel_rfl) (by rw [hc] <;> rfl) ?_
      refine Q_seq ?_
      refine q_yes (by kernel_rfl) true (by kernel_rfl) rfl ?_
      refine q_skip (by kernel_rfl) ?_
      refine k_then ?_
      refine Q_seq ?_
      refine q_block (by kernel_rfl) ?_
      refine Q_seq ?_
      refine Q_reg ?_
      refine N_run 1 ((0 : Int) ≤ (↑k : Int) ∧ (↑k : Int) < (↑l.length : Int)) [1, 2, 3] (stOf 19 (z1 ++ [(3, .sl 0 0 k 10), (6, marksV l), (7, .int .i64 (↑l.length : Int)), (8, .int .i64 (↑k : Int)), (9, .bool true), (10, .fptr (List.drop ((↑k : Int).toNat * 10) (flatA encM l)))]) [.row 38 (flatA encM (List.take k l))]) (by exact ⟨by omega, by omega⟩) ?_
      refine n_set 10 (.fptr (List.drop ((↑k : Int).toNat * 10) (flatA encM l))) (.fptr (.str (l.getD k mD).st :: .str (l.getD k mD).tk :: .int .i64 (l.getD k mD).ver :: .bool (l.getD k mD).pend :: .int .i64 (l.getD k mD).kind :: .int .i64 (l.getD k mD).err :: .str (l.getD k mD).path :: .int .i64 (l.getD k mD).at' :: .int .i64 (l.getD k mD).score :: .slv (l.getD k mD).verd.length 1 (List.map (.int .i64) (l.getD k mD).verd) :: flatA encM (List.drop (k + 1) l))) (by kernel_rfl) (by rw [hd] <;> rfl) ?_
      refine N_run 1 (10 ≤ (.str (l.getD k mD).st :: .str (l.getD k mD).tk :: .int .i64 (l.getD k mD).ver :: .bool (l.getD k mD).pend :: .int .i64 (l.getD k mD).kind :: .int .i64 (l.getD k mD).err :: .str (l.getD k mD).path :: .int .i64 (l.getD k mD).at' :: .int .i64 (l.getD k mD).score :: .slv (l.getD k mD).verd.length 1 (List.map (.int .i64) (l.getD k mD).verd) :: flatA encM (List.drop (k + 1) l)).length) [2, 3] (stOf 19 (z1 ++ [(3, .sl 0 0 k 10), (6, marksV l), (7, .int .i64 (↑l.length : Int)), (8, .int .i64 (↑k : Int)), (9, .bool true), (10, .fptr (encM (l.getD k mD) ++ flatA encM (List.drop (k + 1) l))), (11, .agg (encM (l.getD k mD)))]) [.row 38 (flatA encM (List.take k l))]) (by exact by exact Nat.le_of_ble_eq_true (by kernel_rfl)) ?_
      refine N_run 2 (10 ≤ 10) [] (stOf 19 (z1 ++ [(3, .sl 0 0 k 10), (5, .ptr 1 0), (6, marksV l), (7, .int .i64 (↑l.length : Int)), (8, .int .i64 (↑k : Int)), (9, .bool true), (10, .fptr (encM (l.getD k mD) ++ flatA encM (List.drop (k + 1) l))), (11, .agg (encM (l.getD k mD)))]) [.row 38 (flatA encM (List.take k l)), .row 38 (encM (l.getD k mD))]) (by exact by omega) ?_
      refine N_sel [0, 2, 3, 5, 6, 7, 8, 9] (stOf 19 (z1 ++ [(3, .sl 0 0 k 10), (5, .ptr 1 0), (6, marksV l), (7, .int .i64 (↑l.length : Int)), (8, .int .i64 (↑k : Int)), (9, .bool true)]) [.row 38 (flatA encM (List.take k l)), .row 38 (encM (l.getD k mD))]) ?_
      refine k_then ?_
      refine Q_reg ?_
      refine N_run 2 (10 ≤ 10) [2, 3, 4, 5] (stOf 19 (z1 ++ [(3, .sl 0 0 k 10), (5, .ptr 1 0), (6, marksV l), (7, .int .i64 (↑l.length : Int)), (8, .int .i64 (↑k : Int)), (9, .bool true), (12, .sl 0 0 k 10), (13, .agg (encM (l.getD k mD)))]) [.row 38 (flatA encM (List.take k l)), .row 38 (encM (l.getD k mD))]) (by exact by omega) ?_
      refine n_callp 30 [.agg [.str (l.getD k mD).st, .str (l.getD k mD).tk, .int .i64 (l.getD k mD).ver, .bool (l.getD k mD).pend, .int .i64 (l.getD k mD).kind, .int .i64 (l.getD k mD).err, .str (l.getD k mD).path, .int .i64 (l.getD k mD).at', .int .i64 (l.getD k mD).score, .slv (l.getD k mD).verd.length 1 (List.map (.int .i64) (l.getD k mD).verd)]] (.agg [.str (l.getD k mD).st, .str (l.getD k mD).tk, .int .i64 (l.getD k mD).ver, .bool (l.getD k mD).pend, .int .i64 (l.getD k mD).kind, .int .i64 (l.getD k mD).err, .str (l.getD k mD).path, .int .i64 (l.getD k mD).at', .int .i64 (l.getD k mD).score, .slv (l.getD k mD).verd.length 1 (List.map (.int .i64) (l.getD k mD).verd)]) (stOf 19 (z1 ++ [(3, .sl 0 0 k 10), (5, .ptr 1 0), (6, marksV l), (7, .int .i64 (↑l.length : Int)), (8, .int .i64 (↑k : Int)), (9, .bool true), (12, .sl 0 0 k 10), (13, .agg (encM (l.getD k mD))), (14, .agg (encM (l.getD k mD)))]) [.row 38 (flatA encM (List.take k l)), .row 38 (encM (l.getD k mD))]) (by kernel_rfl) (by kernel_rfl) (by kernel_rfl) (by kernel_rfl) (clone_v (l.getD k mD) hm ) ?_
      refine N_run 1 (True) [4, 5] (stOf 19 (z1 ++ [(3, .sl 0 0 k 10), (5, .ptr 1 0), (6, marksV l), (7, .int .i64 (↑l.length : Int)), (8, .int .i64 (↑k : Int)), (9, .bool true), (12, .sl 0 0 k 10), (13, .agg (encM (l.getD k mD))), (14, .agg (encM (l.getD k mD))), (15, .sl 2 0 1 10)]) [.row 38 (flatA encM (List.take k l)), .row 38 (encM (l.getD k mD)), .row 38 (encM (l.getD k mD))]) trivial ?_
      refine n_append 23 38 10 120 k 1 (k := some 0) (flatA encM (l.take k)) (encM (l.getD k mD)) (.tmp 12) (.tmp 15) _ (by kernel_rfl) (by kernel_rfl) (by kernel_rfl) (Or.inr ⟨0, _, rfl, rfl, rfl, (List.take_of_length_le (by rw [flatA_length lenM, List.length_take]; omega)).symm, by rw [flatA_length lenM, List.length_take]; omega⟩) (Or.inr (Or.inr ⟨2, 0, _, _, rfl, rfl, rfl, by simp [lenM]⟩)) (by omega) (by unfold maxLen; omega) rfl ?_
      refine N_run 1 (True) [] (stOf 19 (z1 ++ [(3, .sl 3 0 (k + 1) 10), (5, .ptr 1 0), (6, marksV l), (7, .int .i64 (↑l.length : Int)), (8, .int .i64 (↑k : Int)), (9, .bool true), (12, .sl 0 0 k 10), (13, .agg (encM (l.getD k mD))), (14, .agg (encM (l.getD k mD))), (15, .sl 2 0 1 10), (16, .sl 3 0 (k + 1) 10)]) [Blk.dead, .row 38 (encM (l.getD k mD)), .row 38 (encM (l.getD k mD)), .row 38 (flatA encM (List.take k l) ++ encM (l.getD k mD))]) trivial ?_
      refine N_sel [0, 2, 3, 5, 6, 7, 8, 9] (stOf 19 (z1 ++ [(3, .sl 3 0 (k + 1) 10), (5, .ptr 1 0), (6, marksV l), (7, .int .i64 (↑l.length : Int)), (8, .int .i64 (↑k : Int)), (9, .bool true)]) [Blk.dead, .row 38 (encM (l.getD k mD)), .row 38 (encM (l.getD k mD)), .row 38 (flatA encM (List.take k l) ++ encM (l.getD k mD))]) ?_
      refine k_block ?_
      refine k_then ?_
      refine Q_reg ?_
      refine N_run 1 (True) [1] (stOf 19 (z1 ++ [(3, .sl 3 0 (k + 1) 10), (5, .ptr 1 0), (6, marksV l), (7, .int .i64 (↑l.length : Int)), (8, .int .i64 (↑k : Int)), (9, .bool true), (17, .int .i64 (IntKind.i64.wrap ((↑k : Int) + (1 : Int))))]) [Blk.dead, .row 38 (encM (l.getD k mD)), .row 38 (encM (l.getD k mD)), .row 38 (flatA encM (List.take k l) ++ encM (l.getD k mD))]) trivial ?_
      refine n_set 17 (.int .i64 (IntKind.i64.wrap ((↑k : Int) + (1 : Int)))) (.int .i64 ((↑k : Int) + (1 : Int))) (by kernel_rfl) (by rw [wrap_i64 (e := (↑k : Int) + (1 : Int)) (by omega) (by omega)]) ?_
      refine N_run 1 (True) [] (stOf 19 (z1 ++ [(3, .sl 3 0 (k + 1) 10), (5, .ptr 1 0), (6, marksV l), (7, .int .i64 (↑l.length : Int)), (8, .int .i64 ((↑k : Int) + (1 : Int))), (9, .bool true), (17, .int .i64 ((↑k : Int) + (1 : Int)))]) [Blk.dead, .row 38 (encM (l.getD k mD)), .row 38 (encM (l.getD k mD)), .row 38 (flatA encM (List.take k l) ++ encM (l.getD k mD))]) trivial ?_
      refine N_sel [0, 2, 3, 5, 6, 7, 8, 9] (stOf 19 (z1 ++ [(3, .sl 3 0 (k + 1) 10), (5, .ptr 1 0), (6, marksV l), (7, .int .i64 (↑l.length : Int)), (8, .int .i64 ((↑k : Int) + (1 : Int))), (9, .bool true)]) [Blk.dead, .row 38 (encM (l.getD k mD)), .row 38 (encM (l.getD k mD)), .row 38 (flatA encM (List.take k l) ++ encM (l.getD k mD))]) ?_
      refine k_loopd1 (l.length - (k + 1)) (by omega) 3 _ (flatA encM (l.take (k + 1))) (by rw [take_succ_mk l hlt, flatA_append]; rfl) (noidM _) ⟨k + 1, rfl, by omega, Or.inr ⟨by omega, by kernel_rfl⟩⟩
    · obtain rfl : k = l.length := by omega
      have hc : decide ((l.length : Int) < (l.length : Int)) = false := by rw [decide_eq_false_iff_not]; omega
      refine Q_seq ?_
      refine Q_run [0, 2, 3, 5, 6, 7, 8, 9] (stOf 19 (z1 ++ [(3, .sl 0 0 l.length 10), (6, marksV l), (7, .int .i64 (↑l.length : Int)), (8, .int .i64 (↑l.length : Int)), (9, .bool (decide ((↑l.length : Int) < (↑l.length : Int))))]) [.row 38 (flatA encM (List.take l.length l))]) ?_
      refine k_then ?_
      refine q_set 9 (.bool (decide ((↑l.length : Int) < (↑l.length : Int)))) (.bool false) (by kernel_rfl) (by rw [hc] <;> rfl) ?_
      refine Q_seq ?_
      refine q_no (by kernel_rfl) false (by kernel_rfl) rfl ?_
      refine q_exit (by kernel_rfl) 0 (by kernel_rfl) ?_
      refine k_thenx ?_
      refine k_loopx ?_
      refine k_blockx (by kernel_rfl) ?_
      refine k_then ?_
      refine Q_seq ?_
      refine Q_run [0, 2, 3, 5, 6, 7, 8, 9] (stOf 19 [(0, marksV l), (2, .sl 0 0 l.length 10), (3, .sl 0 0 l.length 10), (6, marksV l), (7, .int .i64 (↑l.length : Int)), (8, .int .i64 (↑l.length : Int)), (9, .bool false)] [.row 38 (flatA encM (List.take l.length l))]) ?_
      refine k_then ?_
      refine q_ret (by kernel_rfl) ?_
      exact k_fin True (.sl 0 0 l.length 10) [0] [.row 38 (flatA encM (l.take l.length))] (.sl 0 0 l.length 10) (by kernel_rfl) (by kernel_rfl) (by kernel_rfl) trivial (keep_row 0 _ _ rfl (noidM _)) ⟨rfl, by rw [List.take_length]⟩
end Go.Proofs.Ytlmkeoegammdjaa
