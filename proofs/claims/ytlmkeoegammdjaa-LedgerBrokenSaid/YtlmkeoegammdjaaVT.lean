/-
  Submit, over any list of marks: the program.
-/
import Derived.Test.YtlmkeoegammdjaaVS
import Derived.Test.YtlmkeoegammdjaaVnt
namespace Go.Proofs.Ytlmkeoegammdjaa
open Go Go.RowKit V
set_option linter.unusedSimpArgs false
set_option linter.unusedVariables false
set_option maxHeartbeats 20000000
/-- the first mark behind a pair -/
def posL (st tk : ByteArray) : Nat → List Mk → Int
  | _, [] => -1
  | k, m :: r => bif befP st tk m.st m.tk then (k : Int) else posL st tk (k + 1) r
theorem posL_at {l : List Mk} {st tk : ByteArray} {k : Nat} (h : k < l.length) : posL st tk k (l.drop k) = bif befP st tk (l.getD k mD).st (l.getD k mD).tk then (k : Int) else posL st tk (k + 1) (l.drop (k + 1)) := by
  rw [List.drop_eq_getElem_cons h, posL]; simp [List.getD_eq_getElem?_getD, h]
theorem posL_end {l : List Mk} {st tk : ByteArray} {k : Nat} (h : l.length ≤ k) : posL st tk k (l.drop k) = -1 := by
  rw [List.drop_eq_nil_of_le h]; rfl
theorem pos_cases (st tk : ByteArray) : ∀ (l : List Mk) (k : Nat), posL st tk k l = -1 ∨ ∃ i, i < l.length ∧ posL st tk k l = ((k + i : Nat) : Int)
  | [], k => Or.inl rfl
  | m :: r, k => by
    rw [posL]
    cases h : befP st tk m.st m.tk with
    | true => exact Or.inr ⟨0, by simp, rfl⟩
    | false =>
      rcases pos_cases st tk r (k + 1) with h1 | ⟨i, h1, h2⟩
      · exact Or.inl h1
      · exact Or.inr ⟨i + 1, by simp; omega, by rw [cond_false, h2]; congr 1; omega⟩
theorem lit2_v (m : Mk) (st tk : ByteArray) : CallsV Try.prog 35 [.agg (encM m), .fptr [.str st, .str tk]] [] (fun av H' => av = .bool (befP st tk m.st m.tk) ∧ H' = []) := by
  refine callsV_at Try.func35 (by kernel_rfl) ?_
  have hg := cmp_gt m.st m.tk st tk
  refine Q_seq ?_
  refine Q_run [0, 1, 2, 3] (stOf 9 [(0, .agg (encM m)), (1, .fptr [.str st, .str tk]), (2, .ptr 0 0), (3, .bool false)] [.row 38 (encM m)]) ?_
  refine k_then ?_
  refine Q_seq ?_
  refine Q_reg ?_
  refine N_run 2 (2 ≤ 10) [2, 3, 4, 5] (stOf 9 [(0, .agg (encM m)), (1, .fptr [.str st, .str tk]), (2, .ptr 0 0), (3, .bool false), (4, .ptr 0 0), (5, .agg [.str m.st, .str m.tk])] [.row 38 (encM m)]) (by exact by omega) ?_
  refine N_run 1 (2 ≤ 2) [3, 4, 5] (stOf 9 [(0, .agg (encM m)), (1, .fptr [.str st, .str tk]), (2, .ptr 0 0), (3, .bool false), (4, .ptr 0 0), (5, .agg [.str m.st, .str m.tk]), (6, .agg [.str st, .str tk])] [.row 38 (encM m)]) (by exact by omega) ?_
  refine n_callp 27 [AV.agg [AV.str m.st, AV.str m.tk], AV.agg [AV.str st, AV.str tk]] (AV.int .i64 (orI (cmpS m.tk tk) (cmpS m.st st))) (stOf 9 [(0, .agg (encM m)), (1, .fptr [.str st, .str tk]), (2, .ptr 0 0), (3, .bool false), (4, .ptr 0 0), (5, .agg [.str m.st, .str m.tk]), (6, .agg [.str st, .str tk]), (7, .int .i64 (orI (cmpS m.tk tk) (cmpS m.st st)))] [.row 38 (encM m)]) (by kernel_rfl) (by kernel_rfl) (by kernel_rfl) (by kernel_rfl) (compare_v m.st m.tk st tk ) ?_
  refine N_run 2 (True) [] (stOf 9 [(0, .agg (encM m)), (1, .fptr [.str st, .str tk]), (2, .ptr 0 0), (3, .bool (decide (orI (cmpS m.tk tk) (cmpS m.st st) > (0 : Int)))), (4, .ptr 0 0), (5, .agg [.str m.st, .str m.tk]), (6, .agg [.str st, .str tk]), (7, .int .i64 (orI (cmpS m.tk tk) (cmpS m.st st))), (8, .bool (decide (orI (cmpS m.tk tk) (cmpS m.st st) > (0 : Int))))] [.row 38 (encM m)]) trivial ?_
  refine n_set 3 (AV.bool (decide (orI (cmpS m.tk tk) (cmpS m.st st) > (0 : Int)))) (AV.bool (befP st tk m.st m.tk)) (by kernel_rfl) (by rw [hg] <;> rfl) ?_
  refine n_set 8 (AV.bool (decide (orI (cmpS m.tk tk) (cmpS m.st st) > (0 : Int)))) (AV.bool (befP st tk m.st m.tk)) (by kernel_rfl) (by rw [hg] <;> rfl) ?_
  refine N_sel [0, 1, 2, 3] (stOf 9 [(0, .agg (encM m)), (1, .fptr [.str st, .str tk]), (2, .ptr 0 0), (3, .bool (befP st tk m.st m.tk))] [.row 38 (encM m)]) ?_
  refine k_then ?_
  refine q_ret (by kernel_rfl) ?_
  refine k_fin (True) (AV.bool (befP st tk m.st m.tk)) [] [] (AV.bool (befP st tk m.st m.tk)) (by kernel_rfl) (by kernel_rfl) (by kernel_rfl) trivial (keep_nil _) ?_
  exact ⟨rfl, rfl⟩
theorem indexFunc2_v (l : List Mk) (st tk : ByteArray) (hl : OkL l) : CallsV Try.prog 34 [marksV l, .fn (.func 35) [] [.fptr [.str st, .str tk]]] [] (fun av H' => av = .int .i64 (posL st tk 0 l) ∧ H' = []) := by
  refine callsV_at Try.func34 (by kernel_rfl) ?_
  refine Q_seq ?_
  let z1 : List (Nat × AV) := [(0, marksV l), (1, .fn (Fn.func (35 : FuncId)) [] [.fptr [.str st, .str tk]])]
  refine Q_run [0, 1, 4, 5, 7, 8, 9, 16] (stOf 19 (z1 ++ [(4, .int .i64 0)]) []) ?_
  refine k_then ?_
  refine Q_seq ?_
  refine Q_seq ?_
  refine Q_run [0, 1, 4, 5, 7, 8, 9, 16] (stOf 19 (z1 ++ [(4, .int .i64 0), (7, .int .i64 (↑l.length : Int)), (8, .int .i64 0)]) []) ?_
  refine k_then ?_
  refine q_block (by kernel_rfl) ?_
  refine q_loopd (by kernel_rfl) [0, 1, 7, 8] l.length (fun n' s' => ∃ k : Nat, n' = l.length - k ∧ k ≤ l.length ∧ posL st tk 0 l = posL st tk k (l.drop k) ∧ s' = stOf 19 [(0, marksV l), (1, AV.fn (.func 35) [] [.fptr [.str st, .str tk]]), (7, AV.int .i64 (l.length : Int)), (8, AV.int .i64 (k : Int))] []) ⟨0, rfl, by omega, rfl, by kernel_rfl⟩ ?_
  rintro n' _ ⟨k, rfl, hk, hE, rfl⟩
  rcases Nat.lt_or_ge k l.length with hlt | hge
  · have hc : decide ((k : Int) < (l.length : Int)) = true := by rw [decide_eq_true_iff]; omega
    have hd := marks_at l k hlt
    have hR := posL_at (st := st) (tk := tk) hlt
    have hB := hl.1
    refine Q_seq ?_
    refine Q_run [0, 1, 4, 5, 7, 8, 9, 16] (stOf 19 (z1 ++ [(7, .int .i64 (↑l.length : Int)), (8, .int .i64 (↑k : Int)), (9, .bool (decide ((↑k : Int) < (↑l.length : Int))))]) []) ?_
    refine k_then ?_
    refine q_set 9 (AV.bool (decide ((↑k : Int) < (↑l.length : Int)))) (AV.bool true) (by kernel_rfl) (by rw [hc] <;> rfl) ?_
    refine Q_seq ?_
    refine q_yes (by kernel_rfl) true (by kernel_rfl) rfl ?_
    refine q_skip (by kernel_rfl) ?_
    refine k_then ?_
    refine Q_seq ?_
    refine q_block (by kernel_rfl) ?_
    refine Q_seq ?_
    refine Q_run [0, 1, 4, 5, 7, 8, 9, 16] (stOf 19 (z1 ++ [(5, .int .i64 (↑k : Int)), (7, .int .i64 (↑l.length : Int)), (8, .int .i64 (↑k : Int)), (9, .bool true)]) []) ?_
    refine k_then ?_
    refine Q_seq ?_
    refine Q_reg ?_
    refine N_run 4 ((0 : Int) ≤ (↑k : Int) ∧ (↑k : Int) < (↑l.length : Int)) [4, 5] (stOf 19 (z1 ++ [(5, .int .i64 (↑k : Int)), (7, .int .i64 (↑l.length : Int)), (8, .int .i64 (↑k : Int)), (9, .bool true), (11, .fn (Fn.func (35 : FuncId)) [] [.fptr [.str st, .str tk]]), (12, marksV l), (13, .int .i64 (↑k : Int)), (14, .fptr (List.drop ((↑k : Int).toNat * 10) (flatA encM l)))]) []) (by exact ⟨by omega, by omega⟩) ?_
    refine n_set 14 (AV.fptr (List.drop ((↑k : Int).toNat * 10) (flatA encM l))) (AV.fptr (AV.str (l.getD k mD).st :: AV.str (l.getD k mD).tk :: AV.int .i64 (l.getD k mD).ver :: AV.bool (l.getD k mD).pend :: AV.int .i64 (l.getD k mD).kind :: AV.int .i64 (l.getD k mD).err :: AV.str (l.getD k mD).path :: AV.int .i64 (l.getD k mD).at' :: AV.int .i64 (l.getD k mD).score :: AV.slv (l.getD k mD).verd.length 1 (List.map (AV.int .i64) (l.getD k mD).verd) :: flatA encM (List.drop (k + 1) l))) (by kernel_rfl) (by rw [hd] <;> rfl) ?_
    refine N_run 1 (10 ≤ (AV.str (l.getD k mD).st :: AV.str (l.getD k mD).tk :: AV.int .i64 (l.getD k mD).ver :: AV.bool (l.getD k mD).pend :: AV.int .i64 (l.getD k mD).kind :: AV.int .i64 (l.getD k mD).err :: AV.str (l.getD k mD).path :: AV.int .i64 (l.getD k mD).at' :: AV.int .i64 (l.getD k mD).score :: AV.slv (l.getD k mD).verd.length 1 (List.map (AV.int .i64) (l.getD k mD).verd) :: flatA encM (List.drop (k + 1) l)).length) [5] (stOf 19 (z1 ++ [(5, .int .i64 (↑k : Int)), (7, .int .i64 (↑l.length : Int)), (8, .int .i64 (↑k : Int)), (9, .bool true), (11, .fn (Fn.func (35 : FuncId)) [] [.fptr [.str st, .str tk]]), (12, marksV l), (13, .int .i64 (↑k : Int)), (14, .fptr (encM (l.getD k mD) ++ flatA encM (List.drop (k + 1) l))), (15, .agg (encM (l.getD k mD)))]) []) (by exact by exact Nat.le_of_ble_eq_true (by kernel_rfl)) ?_
    refine n_lendc 35 [.agg (encM (l.getD k mD)), .fptr [.str st, .str tk]] [.agg (encM (l.getD k mD)), .fptr [.str st, .str tk]] (.bool (befP st tk (l.getD k mD).st (l.getD k mD).tk)) [] _ (by kernel_rfl) (by kernel_rfl) (by kernel_rfl) (lit2_v (l.getD k mD) st tk) (by kernel_rfl) rfl ?_
    refine N_sel [0, 1, 4, 5, 7, 8, 9, 16] (stOf 19 (z1 ++ [(5, .int .i64 (↑k : Int)), (7, .int .i64 (↑l.length : Int)), (8, .int .i64 (↑k : Int)), (9, .bool true), (16, .bool (befP st tk (l.getD k mD).st (l.getD k mD).tk))]) []) ?_
    refine k_then ?_
    refine q_cond (by kernel_rfl) (befP st tk (l.getD k mD).st (l.getD k mD).tk) (by kernel_rfl) (fun h1 => ?_) (fun h1 => ?_)
    · refine Q_seq ?_
      refine Q_run [0, 1, 4, 5, 7, 8, 9, 16] (stOf 19 (z1 ++ [(4, .int .i64 (↑k : Int)), (5, .int .i64 (↑k : Int)), (7, .int .i64 (↑l.length : Int)), (8, .int .i64 (↑k : Int)), (9, .bool true), (16, .bool (befP st tk (l.getD k mD).st (l.getD k mD).tk))]) []) ?_
      refine k_then ?_
      refine q_ret (by kernel_rfl) ?_
      refine k_blockr ?_
      refine k_thenr ?_
      refine k_loopr ?_
      refine k_blockr ?_
      refine k_thenr ?_
      refine k_fin (True) (AV.int .i64 (↑k : Int)) [] [] (AV.int .i64 (↑k : Int)) (by kernel_rfl) (by kernel_rfl) (by kernel_rfl) trivial (keep_nil _) ?_
      exact ⟨by rw [hE, hR, h1]; rfl, rfl⟩
    · refine q_skip (by kernel_rfl) ?_
      refine k_block ?_
      refine k_then ?_
      refine Q_reg ?_
      refine N_run 1 (True) [1] (stOf 19 (z1 ++ [(5, .int .i64 (↑k : Int)), (7, .int .i64 (↑l.length : Int)), (8, .int .i64 (↑k : Int)), (9, .bool true), (16, .bool (befP st tk (l.getD k mD).st (l.getD k mD).tk)), (18, .int .i64 (IntKind.i64.wrap ((↑k : Int) + (1 : Int))))]) []) trivial ?_
      refine n_set 18 (AV.int .i64 (IntKind.i64.wrap ((↑k : Int) + (1 : Int)))) (AV.int .i64 ((↑k : Int) + (1 : Int))) (by kernel_rfl) (by rw [wrap_i64 (e := (↑k : Int) + (1 : Int)) (by omega) (by omega)]) ?_
      refine N_run 1 (True) [] (stOf 19 (z1 ++ [(5, .int .i64 (↑k : Int)), (7, .int .i64 (↑l.length : Int)), (8, .int .i64 ((↑k : Int) + (1 : Int))), (9, .bool true), (16, .bool (befP st tk (l.getD k mD).st (l.getD k mD).tk)), (18, .int .i64 ((↑k : Int) + (1 : Int)))]) []) trivial ?_
      refine N_sel [0, 1, 4, 5, 7, 8, 9, 16] (stOf 19 (z1 ++ [(5, .int .i64 (↑k : Int)), (7, .int .i64 (↑l.length : Int)), (8, .int .i64 ((↑k : Int) + (1 : Int))), (9, .bool true), (16, .bool (befP st tk (l.getD k mD).st (l.getD k mD).tk))]) []) ?_
      refine k_loopd (l.length - (k + 1)) (by omega) ⟨k + 1, rfl, by omega, by rw [hE, hR, h1]; rfl, by kernel_rfl⟩
  · have hc : decide ((k : Int) < (l.length : Int)) = false := by rw [decide_eq_false_iff_not]; omega
    refine Q_seq ?_
    refine Q_run [0, 1, 4, 5, 7, 8, 9, 16] (stOf 19 (z1 ++ [(7, .int .i64 (↑l.length : Int)), (8, .int .i64 (↑k : Int)), (9, .bool (decide ((↑k : Int) < (↑l.length : Int))))]) []) ?_
    refine k_then ?_
    refine q_set 9 (AV.bool (decide ((↑k : Int) < (↑l.length : Int)))) (AV.bool false) (by kernel_rfl) (by rw [hc] <;> rfl) ?_
    refine Q_seq ?_
    refine q_no (by kernel_rfl) false (by kernel_rfl) rfl ?_
    refine q_exit (by kernel_rfl) 0 (by kernel_rfl) ?_
    refine k_thenx ?_
    refine k_loopx ?_
    refine k_blockx (by kernel_rfl) ?_
    refine k_then ?_
    refine Q_seq ?_
    refine Q_run [0, 1, 4, 5, 7, 8, 9, 16] (stOf 19 (z1 ++ [(4, .int .i64 (-1)), (7, .int .i64 (↑l.length : Int)), (8, .int .i64 (↑k : Int)), (9, .bool false)]) []) ?_
    refine k_then ?_
    refine q_ret (by kernel_rfl) ?_
    refine k_fin (True) (AV.int .i64 (-1)) [] [] (AV.int .i64 (-1)) (by kernel_rfl) (by kernel_rfl) (by kernel_rfl) trivial (keep_nil _) ?_
    exact ⟨by rw [hE, posL_end hge], rfl⟩
theorem insert_end_v (n : Nat) (st tk : ByteArray) (xs ys : List AV) (hx : xs.length = n * 10) (hy : ys.length = 10) (hn : n ≤ 100000000) (hxs : ∀ x ∈ xs, noid0 x = true) (hys : ∀ x ∈ ys, noid0 x = true) : CallsV Try.prog 36 [.sl 1 0 n 10, .int .i64 n, .sl 2 0 1 10] [.row 31 [.str st, .str tk], .row 38 xs, .row 38 ys] (fun av H' => av = .sl 3 0 (n + 1) 10 ∧ H' = [.row 31 [.str st, .str tk], .dead, .row 38 ys, .row 38 (xs ++ ys)]) := by
  refine callsV_at Try.func36 (by kernel_rfl) ?_
  have noev := trivial
  have he : ((n : Int) == (n : Int)) = true := by simp
  refine Q_seq ?_
  let z2 : List (Nat × AV) := [(0, .sl 1 0 n 10), (1, .int .i64 (↑n : Int)), (2, .sl 2 0 1 10)]
  refine Q_run [0, 1, 2, 6, 7, 8, 9, 16, 22, 31, 68] (stOf 95 (z2 ++ [(6, .nilsl)]) [.row 31 [.str st, .str tk], .row 38 xs, .row 38 ys]) ?_
  refine k_then ?_
  refine Q_seq ?_
  refine Q_reg ?_
  refine N_run 3 ((0 : Int) ≤ (↑n : Int) ∧ (↑n : Int) ≤ (↑n : Int) ∧ (↑n : Int) ≤ (↑n : Int)) [] (stOf 95 (z2 ++ [(6, .nilsl), (10, .sl 1 0 n 10), (11, .int .i64 (↑n : Int)), (12, .sl 1 (0 + (↑n : Int).toNat * 10) ((↑n : Int).toNat - (↑n : Int).toNat) 10)]) [.row 31 [.str st, .str tk], .row 38 xs, .row 38 ys]) (by exact ⟨by omega, by omega, by omega⟩) ?_
  refine N_sel [0, 1, 2, 6, 7, 8, 9, 16, 22, 31, 68] (stOf 95 (z2 ++ [(6, .nilsl)]) [.row 31 [.str st, .str tk], .row 38 xs, .row 38 ys]) ?_
  refine k_then ?_
  refine Q_seq ?_
  refine Q_run [0, 1, 2, 6, 7, 8, 9, 16, 22, 31, 68] (stOf 95 (z2 ++ [(6, .nilsl), (7, .int .i64 1)]) [.row 31 [.str st, .str tk], .row 38 xs, .row 38 ys]) ?_
  refine k_then ?_
  refine Q_seq ?_
  refine Q_seq ?_
  refine Q_run [0, 1, 2, 6, 7, 8, 9, 16, 22, 31, 68] (stOf 95 (z2 ++ [(6, .nilsl), (7, .int .i64 1), (16, .bool false)]) [.row 31 [.str st, .str tk], .row 38 xs, .row 38 ys]) ?_
  refine k_then ?_
  refine q_no (by kernel_rfl) false (by kernel_rfl) rfl ?_
  refine q_skip (by kernel_rfl) ?_
  refine k_then ?_
  refine Q_seq ?_
  refine Q_run [0, 1, 2, 6, 7, 8, 9, 16, 22, 31, 68] (stOf 95 (z2 ++ [(6, .nilsl), (7, .int .i64 1), (8, .int .i64 (↑n : Int)), (16, .bool false)]) [.row 31 [.str st, .str tk], .row 38 xs, .row 38 ys]) ?_
  refine k_then ?_
  refine Q_seq ?_
  refine Q_seq ?_
  refine Q_run [0, 1, 2, 6, 7, 8, 9, 16, 22, 31, 68] (stOf 95 (z2 ++ [(6, .nilsl), (7, .int .i64 1), (8, .int .i64 (↑n : Int)), (16, .bool false), (22, .bool ((↑n : Int) == (↑n : Int)))]) [.row 31 [.str st, .str tk], .row 38 xs, .row 38 ys]) ?_
  refine k_then ?_
  refine q_set 22 (AV.bool ((↑n : Int) == (↑n : Int))) (AV.bool true) (by kernel_rfl) (by rw [he] <;> rfl) ?_
  refine q_yes (by kernel_rfl) true (by kernel_rfl) rfl ?_
  refine Q_seq ?_
  refine Q_reg ?_
  refine N_run 2 (True) [2, 3] (stOf 95 (z2 ++ [(6, .nilsl), (7, .int .i64 1), (8, .int .i64 (↑n : Int)), (16, .bool false), (22, .bool true), (23, .sl 1 0 n 10), (24, .sl 2 0 1 10)]) [.row 31 [.str st, .str tk], .row 38 xs, .row 38 ys]) trivial ?_
  refine n_append 23 38 10 120 n 1 (k := some 1) xs ys (.tmp 23) (.tmp 24) _ (by kernel_rfl) (by kernel_rfl) (by kernel_rfl) (Or.inr ⟨1, _, rfl, rfl, rfl, (List.take_of_length_le (by omega)).symm, by omega⟩) (Or.inr (Or.inr ⟨2, 0, _, _, rfl, rfl, (by rw [List.drop_zero, List.take_of_length_le (by omega)]), by omega⟩)) (by omega) (by unfold maxLen; omega) rfl ?_
  refine N_run 1 (True) [] (stOf 95 (z2 ++ [(6, .sl 3 0 (n + 1) 10), (7, .int .i64 1), (8, .int .i64 (↑n : Int)), (16, .bool false), (22, .bool true), (23, .sl 1 0 n 10), (24, .sl 2 0 1 10), (25, .sl 3 0 (n + 1) 10)]) [.row 31 [.str st, .str tk], Blk.dead, .row 38 ys, .row 38 (xs ++ ys)]) trivial ?_
  refine N_sel [0, 1, 2, 6, 7, 8, 9, 16, 22, 31, 68] (stOf 95 (z2 ++ [(6, .sl 3 0 (n + 1) 10), (7, .int .i64 1), (8, .int .i64 (↑n : Int)), (16, .bool false), (22, .bool true)]) [.row 31 [.str st, .str tk], Blk.dead, .row 38 ys, .row 38 (xs ++ ys)]) ?_
  refine k_then ?_
  refine q_ret (by kernel_rfl) ?_
  refine k_thenr ?_
  exact k_fin True (.sl 3 0 (n + 1) 10) [0, 1, 2, 3] [.row 31 [.str st, .str tk], .dead, .row 38 ys, .row 38 (xs ++ ys)] (.sl 3 0 (n + 1) 10) (by kernel_rfl) (by kernel_rfl) (by kernel_rfl) trivial
    ⟨by decide, fun q hq => by simp only [List.mem_cons, List.not_mem_nil, or_false] at hq; show q < 4; omega, by show 3 ≤ 4; omega, fun q hq => by
      have hq' : q < 3 := hq
      rcases q with _ | _ | _ | q
      · rfl
      · rfl
      · rfl
      · omega, rfl, fun q g1 g2 g3 => by
      rcases q with _ | _ | _ | _ | q
      · exact ⟨rfl, Or.inl ⟨rfl, fun x hx => by simp only [List.mem_cons, List.not_mem_nil, or_false] at hx; rcases hx with rfl | rfl <;> rfl⟩⟩
      · exact True.intro
      · exact ⟨rfl, Or.inl ⟨rfl, hys⟩⟩
      · exact ⟨rfl, Or.inl ⟨rfl, fun x hx => (List.mem_append.1 hx).elim (hxs x) (hys x)⟩⟩
      · simp only [List.length_cons, List.length_nil] at g1; omega⟩ ⟨rfl, rfl⟩
theorem noidN (st tk : ByteArray) : ∀ x ∈ [AV.str st, AV.str tk, AV.int IntKind.i64 (1 : Int), AV.bool true, AV.int IntKind.i64 (0 : Int), AV.int IntKind.i64 (0 : Int), AV.str (ByteArray.mk #[]), AV.int IntKind.i64 (0 : Int), AV.int IntKind.i64 (0 : Int), AV.nilsl], noid0 x = true := fun x hx => by
  simp only [List.mem_cons, List.not_mem_nil, or_false] at hx
  rcases hx with rfl | rfl | rfl | rfl | rfl | rfl | rfl | rfl | rfl | rfl <;> rfl
theorem submit_mid_v (l : List Mk) (st tk : ByteArray) (hl : OkL l) (hB : l.length ≤ 100000000) (h0 : 0 < l.length) (h : ixL st tk 0 l = -1) (k : Nat) (hk : k < l.length) (hp : posL st tk 0 l = (k : Int)) : CallsV Try.prog 23 [marksV l, .agg [.str st, .str tk]] [] (fun av H' => av = .sl 0 0 (l.length + 1) 10 ∧ H' = [.row 38 ((flatA encM l).take (k * 10) ++ ([AV.str st, AV.str tk, AV.int IntKind.i64 (1 : Int), AV.bool true, AV.int IntKind.i64 (0 : Int), AV.int IntKind.i64 (0 : Int), AV.str (ByteArray.mk #[]), AV.int IntKind.i64 (0 : Int), AV.int IntKind.i64 (0 : Int), AV.nilsl] ++ (flatA encM l).drop (k * 10)))]) := by
  refine callsV_at Try.func23 (by kernel_rfl) ?_
  have noev := trivial
  have hlt : decide ((k : Int) < 0) = false := by rw [decide_eq_false_iff_not]; omega
  refine Q_seq ?_
  let z3 : List (Nat × AV) := [(0, marksV l), (1, .agg [.str st, .str tk]), (3, .ptr 0 0), (4, .nilsl)]
  refine Q_run [0, 1, 3, 4, 5, 6, 7, 14, 31] (stOf 40 z3 [.row 31 [.str st, .str tk]]) ?_
  refine k_then ?_
  refine Q_seq ?_
  refine Q_reg ?_
  refine N_run 1 (True) [1, 2] (stOf 40 (z3 ++ [(8, marksV l)]) [.row 31 [.str st, .str tk]]) trivial ?_
  refine n_callo 32 [marksV l] (.sl 0 0 l.length 10) 38 (flatA encM l) _ (by kernel_rfl) (by kernel_rfl) (by kernel_rfl) (plainM l) rfl (cloneAll_v l hl h0) ?_
  refine N_run 1 (True) [] (stOf 40 (z3 ++ [(5, .sl 1 0 l.length 10), (8, marksV l), (9, .sl 1 0 l.length 10)]) [.row 31 [.str st, .str tk], .row 38 (flatA encM l)]) trivial ?_
  refine N_sel [0, 1, 3, 4, 5, 6, 7, 14, 31] (stOf 40 (z3 ++ [(5, .sl 1 0 l.length 10)]) [.row 31 [.str st, .str tk], .row 38 (flatA encM l)]) ?_
  refine k_then ?_
  refine Q_seq ?_
  refine Q_seq ?_
  refine Q_reg ?_
  refine N_run 2 (2 ≤ 2) [2, 3] (stOf 40 (z3 ++ [(5, .sl 1 0 l.length 10), (10, .sl 1 0 l.length 10), (11, .agg [.str st, .str tk])]) [.row 31 [.str st, .str tk], .row 38 (flatA encM l)]) (by exact by omega) ?_
  refine n_lendo 29 1 l.length 10 38 (flatA encM l) [.agg [.str st, .str tk]] (marksV l) (.int .i64 (ixL st tk 0 l)) [] _ (by kernel_rfl) (by kernel_rfl) rfl (leafM l) (by rw [flatA_length lenM]; exact Nat.le_refl _) (by kernel_rfl) (by rw [List.take_of_length_le (by rw [flatA_length lenM]; exact Nat.le_refl _)]) (index_v l st tk hl) (by kernel_rfl) rfl ?_
  refine n_set 12 (AV.int .i64 (ixL st tk 0 l)) (AV.int .i64 (-1)) (by kernel_rfl) (by rw [h] <;> rfl) ?_
  refine N_run 1 (True) [] (stOf 40 (z3 ++ [(5, .sl 1 0 l.length 10), (6, .int .i64 (-1)), (10, .sl 1 0 l.length 10), (11, .agg [.str st, .str tk]), (12, .int .i64 (-1))]) [.row 31 [.str st, .str tk], .row 38 (flatA encM l)]) trivial ?_
  refine N_sel [0, 1, 3, 4, 5, 6, 7, 14, 31] (stOf 40 (z3 ++ [(5, .sl 1 0 l.length 10), (6, .int .i64 (-1))]) [.row 31 [.str st, .str tk], .row 38 (flatA encM l)]) ?_
  refine k_then ?_
  refine Q_seq ?_
  refine Q_run [0, 1, 3, 4, 5, 6, 7, 14, 31] (stOf 40 (z3 ++ [(5, .sl 1 0 l.length 10), (6, .int .i64 (-1)), (14, .bool false)]) [.row 31 [.str st, .str tk], .row 38 (flatA encM l)]) ?_
  refine k_then ?_
  refine q_no (by kernel_rfl) false (by kernel_rfl) rfl ?_
  refine q_skip (by kernel_rfl) ?_
  refine k_then ?_
  refine Q_seq ?_
  refine Q_reg ?_
  refine N_run 1 (True) [1, 2, 3] (stOf 40 (z3 ++ [(5, .sl 1 0 l.length 10), (6, .int .i64 (-1)), (14, .bool false), (27, .sl 1 0 l.length 10)]) [.row 31 [.str st, .str tk], .row 38 (flatA encM l)]) trivial ?_
  refine n_evl (noX_ok _) 1 (AV.fn (.func 35) [] [.ptr 0 0]) [Blk.row 31 [.str st, .str tk], Blk.row 38 (flatA encM l)] _ (by kernel_rfl) (by kernel_rfl) rfl ?_
  refine n_lendv 34 1 l.length 10 38 (flatA encM l) [AV.fn (.func 35) [] [.ptr 0 0]] [.fn (.func 35) [] [.fptr [.str st, .str tk]]] (marksV l) (.int .i64 (posL st tk 0 l)) [] _ (by kernel_rfl) (by kernel_rfl) rfl (leafM l) (by rw [flatA_length lenM]; exact Nat.le_refl _) (by kernel_rfl) (by rw [List.take_of_length_le (by rw [flatA_length lenM]; exact Nat.le_refl _)]) (indexFunc2_v l st tk hl) (by kernel_rfl) rfl ?_
  refine n_set 29 (AV.int .i64 (posL st tk 0 l)) (AV.int .i64 (↑k : Int)) (by kernel_rfl) (by rw [hp] <;> rfl) ?_
  refine N_run 1 (True) [] (stOf 40 (z3 ++ [(5, .sl 1 0 l.length 10), (6, .int .i64 (-1)), (7, .int .i64 (↑k : Int)), (14, .bool false), (27, .sl 1 0 l.length 10), (28, .fn (Fn.func (35 : FuncId)) [] [.ptr 0 0]), (29, .int .i64 (↑k : Int))]) [.row 31 [.str st, .str tk], .row 38 (flatA encM l)]) trivial ?_
  refine N_sel [0, 1, 3, 4, 5, 6, 7, 14, 31] (stOf 40 (z3 ++ [(5, .sl 1 0 l.length 10), (6, .int .i64 (-1)), (7, .int .i64 (↑k : Int)), (14, .bool false)]) [.row 31 [.str st, .str tk], .row 38 (flatA encM l)]) ?_
  refine k_then ?_
  refine Q_seq ?_
  refine Q_seq ?_
  refine Q_run [0, 1, 3, 4, 5, 6, 7, 14, 31] (stOf 40 (z3 ++ [(5, .sl 1 0 l.length 10), (6, .int .i64 (-1)), (7, .int .i64 (↑k : Int)), (14, .bool false), (31, .bool (decide ((↑k : Int) < (0 : Int))))]) [.row 31 [.str st, .str tk], .row 38 (flatA encM l)]) ?_
  refine k_then ?_
  refine q_set 31 (AV.bool (decide ((↑k : Int) < (0 : Int)))) (AV.bool false) (by kernel_rfl) (by rw [hlt] <;> rfl) ?_
  refine q_no (by kernel_rfl) false (by kernel_rfl) rfl ?_
  refine q_skip (by kernel_rfl) ?_
  refine k_then ?_
  refine Q_seq ?_
  refine Q_reg ?_
  refine N_run 3 (2 ≤ 2) [3, 4, 5, 6] (stOf 40 (z3 ++ [(5, .sl 1 0 l.length 10), (6, .int .i64 (-1)), (7, .int .i64 (↑k : Int)), (14, .bool false), (31, .bool false), (34, .sl 1 0 l.length 10), (35, .int .i64 (↑k : Int)), (36, .agg [.str st, .str tk])]) [.row 31 [.str st, .str tk], .row 38 (flatA encM l)]) (by exact by omega) ?_
  refine N_run 2 (True) [5, 6] (stOf 40 (z3 ++ [(5, .sl 1 0 l.length 10), (6, .int .i64 (-1)), (7, .int .i64 (↑k : Int)), (14, .bool false), (31, .bool false), (34, .sl 1 0 l.length 10), (35, .int .i64 (↑k : Int)), (36, .agg [.str st, .str tk]), (37, .agg [.str st, .str tk, .int .i64 1, .bool true, .int .i64 0, .int .i64 0, .str (ByteArray.mk #[]), .int .i64 0, .int .i64 0, .nilsl]), (38, .sl 2 0 1 10)]) [.row 31 [.str st, .str tk], .row 38 (flatA encM l), .row 38 [.str st, .str tk, .int .i64 1, .bool true, .int .i64 0, .int .i64 0, .str (ByteArray.mk #[]), .int .i64 0, .int .i64 0, .nilsl]]) trivial ?_
  refine n_callH 36 [.sl 1 0 l.length 10, .int .i64 (k : Int), .sl 2 0 1 10] (.sl 3 0 (l.length + 1) 10) ([Blk.row 31 [.str st, .str tk], .dead, Blk.row 38 [AV.str st, AV.str tk, AV.int .i64 1, AV.bool true, AV.int .i64 0, AV.int .i64 0, AV.str (ByteArray.mk #[]), AV.int .i64 0, AV.int .i64 0, AV.nilsl], Blk.row 38 ((flatA encM l).take (k * 10) ++ ([AV.str st, AV.str tk, AV.int .i64 1, AV.bool true, AV.int .i64 0, AV.int .i64 0, AV.str (ByteArray.mk #[]), AV.int .i64 0, AV.int .i64 0, AV.nilsl] ++ (flatA encM l).drop (k * 10)))]) _ (by kernel_rfl) (by kernel_rfl) rfl (insert_v [Blk.row 31 [.str st, .str tk], Blk.row 38 (flatA encM l), Blk.row 38 [AV.str st, AV.str tk, AV.int .i64 1, AV.bool true, AV.int .i64 0, AV.int .i64 0, AV.str (ByteArray.mk #[]), AV.int .i64 0, AV.int .i64 0, AV.nilsl]] 1 2 l.length k (flatA encM l) [AV.str st, AV.str tk, AV.int .i64 1, AV.bool true, AV.int .i64 0, AV.int .i64 0, AV.str (ByteArray.mk #[]), AV.int .i64 0, AV.int .i64 0, AV.nilsl] rfl rfl (by decide) (by rw [flatA_length lenM]) rfl hk hB) ?_
  refine N_run 1 (True) [] (stOf 40 [(0, marksV l), (1, .agg [.str st, .str tk]), (3, .ptr 0 0), (4, .sl 3 0 (l.length + 1) 10), (5, .sl 1 0 l.length 10), (6, .int .i64 (-1)), (7, .int .i64 (↑k : Int)), (14, .bool false), (31, .bool false), (34, .sl 1 0 l.length 10), (35, .int .i64 (↑k : Int)), (36, .agg [.str st, .str tk]), (37, .agg [.str st, .str tk, .int .i64 1, .bool true, .int .i64 0, .int .i64 0, .str (ByteArray.mk #[]), .int .i64 0, .int .i64 0, .nilsl]), (38, .sl 2 0 1 10), (39, .sl 3 0 (l.length + 1) 10)] [.row 31 [.str st, .str tk], Blk.dead, .row 38 [.str st, .str tk, .int .i64 1, .bool true, .int .i64 0, .int .i64 0, .str (ByteArray.mk #[]), .int .i64 0, .int .i64 0, .nilsl], .row 38 (List.take (k * 10) (flatA encM l) ++ ([AV.str st, .str tk, .int .i64 1, .bool true, .int .i64 0, .int .i64 0, .str (ByteArray.mk #[]), .int .i64 0, .int .i64 0, .nilsl] ++ List.drop (k * 10) (flatA encM l)))]) trivial ?_
  refine N_sel [0, 1, 3, 4, 5, 6, 7, 14, 31] (stOf 40 [(0, marksV l), (1, .agg [.str st, .str tk]), (3, .ptr 0 0), (4, .sl 3 0 (l.length + 1) 10), (5, .sl 1 0 l.length 10), (6, .int .i64 (-1)), (7, .int .i64 (↑k : Int)), (14, .bool false), (31, .bool false)] [.row 31 [.str st, .str tk], Blk.dead, .row 38 [.str st, .str tk, .int .i64 1, .bool true, .int .i64 0, .int .i64 0, .str (ByteArray.mk #[]), .int .i64 0, .int .i64 0, .nilsl], .row 38 (List.take (k * 10) (flatA encM l) ++ ([AV.str st, .str tk, .int .i64 1, .bool true, .int .i64 0, .int .i64 0, .str (ByteArray.mk #[]), .int .i64 0, .int .i64 0, .nilsl] ++ List.drop (k * 10) (flatA encM l)))]) ?_
  refine k_then ?_
  refine q_ret (by kernel_rfl) ?_
  exact k_fin True (.sl 3 0 (l.length + 1) 10) [3] [.row 38 ((flatA encM l).take (k * 10) ++ ([AV.str st, AV.str tk, AV.int IntKind.i64 (1 : Int), AV.bool true, AV.int IntKind.i64 (0 : Int), AV.int IntKind.i64 (0 : Int), AV.str (ByteArray.mk #[]), AV.int IntKind.i64 (0 : Int), AV.int IntKind.i64 (0 : Int), AV.nilsl] ++ (flatA encM l).drop (k * 10)))] (.sl 0 0 (l.length + 1) 10) (by kernel_rfl) (by kernel_rfl) (by kernel_rfl) trivial (keep_row 3 38 _ rfl (fun x hx => (List.mem_append.1 hx).elim (fun h => noidM l x (List.mem_of_mem_take h)) fun h => (List.mem_append.1 h).elim (noidN st tk x) fun h => noidM l x (List.mem_of_mem_drop h))) ⟨rfl, rfl⟩
theorem submit_end_v (l : List Mk) (st tk : ByteArray) (hl : OkL l) (hB : l.length ≤ 100000000) (h0 : 0 < l.length) (h : ixL st tk 0 l = -1) (hp : posL st tk 0 l = -1) : CallsV Try.prog 23 [marksV l, .agg [.str st, .str tk]] [] (fun av H' => av = .sl 0 0 (l.length + 1) 10 ∧ H' = [.row 38 (flatA encM l ++ [AV.str st, AV.str tk, AV.int IntKind.i64 (1 : Int), AV.bool true, AV.int IntKind.i64 (0 : Int), AV.int IntKind.i64 (0 : Int), AV.str (ByteArray.mk #[]), AV.int IntKind.i64 (0 : Int), AV.int IntKind.i64 (0 : Int), AV.nilsl])]) := by
  refine callsV_at Try.func23 (by kernel_rfl) ?_
  have noev := trivial
  refine Q_seq ?_
  let z4 : List (Nat × AV) := [(0, marksV l), (1, .agg [.str st, .str tk]), (3, .ptr 0 0), (4, .nilsl)]
  refine Q_run [0, 1, 3, 4, 5, 6, 7, 14, 31] (stOf 40 z4 [.row 31 [.str st, .str tk]]) ?_
  refine k_then ?_
  refine Q_seq ?_
  refine Q_reg ?_
  refine N_run 1 (True) [1, 2] (stOf 40 (z4 ++ [(8, marksV l)]) [.row 31 [.str st, .str tk]]) trivial ?_
  refine n_callo 32 [marksV l] (.sl 0 0 l.length 10) 38 (flatA encM l) _ (by kernel_rfl) (by kernel_rfl) (by kernel_rfl) (plainM l) rfl (cloneAll_v l hl h0) ?_
  refine N_run 1 (True) [] (stOf 40 (z4 ++ [(5, .sl 1 0 l.length 10), (8, marksV l), (9, .sl 1 0 l.length 10)]) [.row 31 [.str st, .str tk], .row 38 (flatA encM l)]) trivial ?_
  refine N_sel [0, 1, 3, 4, 5, 6, 7, 14, 31] (stOf 40 (z4 ++ [(5, .sl 1 0 l.length 10)]) [.row 31 [.str st, .str tk], .row 38 (flatA encM l)]) ?_
  refine k_then ?_
  refine Q_seq ?_
  refine Q_seq ?_
  refine Q_reg ?_
  refine N_run 2 (2 ≤ 2) [2, 3] (stOf 40 (z4 ++ [(5, .sl 1 0 l.length 10), (10, .sl 1 0 l.length 10), (11, .agg [.str st, .str tk])]) [.row 31 [.str st, .str tk], .row 38 (flatA encM l)]) (by exact by omega) ?_
  refine n_lendo 29 1 l.length 10 38 (flatA encM l) [.agg [.str st, .str tk]] (marksV l) (.int .i64 (ixL st tk 0 l)) [] _ (by kernel_rfl) (by kernel_rfl) rfl (leafM l) (by rw [flatA_length lenM]; exact Nat.le_refl _) (by kernel_rfl) (by rw [List.take_of_length_le (by rw [flatA_length lenM]; exact Nat.le_refl _)]) (index_v l st tk hl) (by kernel_rfl) rfl ?_
  refine n_set 12 (AV.int .i64 (ixL st tk 0 l)) (AV.int .i64 (-1)) (by kernel_rfl) (by rw [h] <;> rfl) ?_
  refine N_run 1 (True) [] (stOf 40 (z4 ++ [(5, .sl 1 0 l.length 10), (6, .int .i64 (-1)), (10, .sl 1 0 l.length 10), (11, .agg [.str st, .str tk]), (12, .int .i64 (-1))]) [.row 31 [.str st, .str tk], .row 38 (flatA encM l)]) trivial ?_
  refine N_sel [0, 1, 3, 4, 5, 6, 7, 14, 31] (stOf 40 (z4 ++ [(5, .sl 1 0 l.length 10), (6, .int .i64 (-1))]) [.row 31 [.str st, .str tk], .row 38 (flatA encM l)]) ?_
  refine k_then ?_
  refine Q_seq ?_
  refine Q_run [0, 1, 3, 4, 5, 6, 7, 14, 31] (stOf 40 (z4 ++ [(5, .sl 1 0 l.length 10), (6, .int .i64 (-1)), (14, .bool false)]) [.row 31 [.str st, .str tk], .row 38 (flatA encM l)]) ?_
  refine k_then ?_
  refine q_no (by kernel_rfl) false (by kernel_rfl) rfl ?_
  refine q_skip (by kernel_rfl) ?_
  refine k_then ?_
  refine Q_seq ?_
  refine Q_reg ?_
  refine N_run 1 (True) [1, 2, 3] (stOf 40 (z4 ++ [(5, .sl 1 0 l.length 10), (6, .int .i64 (-1)), (14, .bool false), (27, .sl 1 0 l.length 10)]) [.row 31 [.str st, .str tk], .row 38 (flatA encM l)]) trivial ?_
  refine n_evl (noX_ok _) 1 (AV.fn (.func 35) [] [.ptr 0 0]) [Blk.row 31 [.str st, .str tk], Blk.row 38 (flatA encM l)] _ (by kernel_rfl) (by kernel_rfl) rfl ?_
  refine n_lendv 34 1 l.length 10 38 (flatA encM l) [AV.fn (.func 35) [] [.ptr 0 0]] [.fn (.func 35) [] [.fptr [.str st, .str tk]]] (marksV l) (.int .i64 (posL st tk 0 l)) [] _ (by kernel_rfl) (by kernel_rfl) rfl (leafM l) (by rw [flatA_length lenM]; exact Nat.le_refl _) (by kernel_rfl) (by rw [List.take_of_length_le (by rw [flatA_length lenM]; exact Nat.le_refl _)]) (indexFunc2_v l st tk hl) (by kernel_rfl) rfl ?_
  refine n_set 29 (AV.int .i64 (posL st tk 0 l)) (AV.int .i64 (-1)) (by kernel_rfl) (by rw [hp] <;> rfl) ?_
  refine N_run 1 (True) [] (stOf 40 (z4 ++ [(5, .sl 1 0 l.length 10), (6, .int .i64 (-1)), (7, .int .i64 (-1)), (14, .bool false), (27, .sl 1 0 l.length 10), (28, .fn (Fn.func (35 : FuncId)) [] [.ptr 0 0]), (29, .int .i64 (-1))]) [.row 31 [.str st, .str tk], .row 38 (flatA encM l)]) trivial ?_
  refine N_sel [0, 1, 3, 4, 5, 6, 7, 14, 31] (stOf 40 (z4 ++ [(5, .sl 1 0 l.length 10), (6, .int .i64 (-1)), (7, .int .i64 (-1)), (14, .bool false)]) [.row 31 [.str st, .str tk], .row 38 (flatA encM l)]) ?_
  refine k_then ?_
  refine Q_seq ?_
  refine Q_seq ?_
  refine Q_run [0, 1, 3, 4, 5, 6, 7, 14, 31] (stOf 40 (z4 ++ [(5, .sl 1 0 l.length 10), (6, .int .i64 (-1)), (7, .int .i64 (-1)), (14, .bool false), (31, .bool true)]) [.row 31 [.str st, .str tk], .row 38 (flatA encM l)]) ?_
  refine k_then ?_
  refine q_yes (by kernel_rfl) true (by kernel_rfl) rfl ?_
  refine Q_run [0, 1, 3, 4, 5, 6, 7, 14, 31] (stOf 40 (z4 ++ [(5, .sl 1 0 l.length 10), (6, .int .i64 (-1)), (7, .int .i64 (↑l.length : Int)), (14, .bool false), (31, .bool true)]) [.row 31 [.str st, .str tk], .row 38 (flatA encM l)]) ?_
  refine k_then ?_
  refine Q_seq ?_
  refine Q_reg ?_
  refine N_run 3 (2 ≤ 2) [3, 4, 5, 6] (stOf 40 (z4 ++ [(5, .sl 1 0 l.length 10), (6, .int .i64 (-1)), (7, .int .i64 (↑l.length : Int)), (14, .bool false), (31, .bool true), (34, .sl 1 0 l.length 10), (35, .int .i64 (↑l.length : Int)), (36, .agg [.str st, .str tk])]) [.row 31 [.str st, .str tk], .row 38 (flatA encM l)]) (by exact by omega) ?_
  refine N_run 2 (True) [5, 6] (stOf 40 (z4 ++ [(5, .sl 1 0 l.length 10), (6, .int .i64 (-1)), (7, .int .i64 (↑l.length : Int)), (14, .bool false), (31, .bool true), (34, .sl 1 0 l.length 10), (35, .int .i64 (↑l.length : Int)), (36, .agg [.str st, .str tk]), (37, .agg [.str st, .str tk, .int .i64 1, .bool true, .int .i64 0, .int .i64 0, .str (ByteArray.mk #[]), .int .i64 0, .int .i64 0, .nilsl]), (38, .sl 2 0 1 10)]) [.row 31 [.str st, .str tk], .row 38 (flatA encM l), .row 38 [.str st, .str tk, .int .i64 1, .bool true, .int .i64 0, .int .i64 0, .str (ByteArray.mk #[]), .int .i64 0, .int .i64 0, .nilsl]]) trivial ?_
  refine n_callH 36 [.sl 1 0 l.length 10, .int .i64 (l.length : Int), .sl 2 0 1 10] (.sl 3 0 (l.length + 1) 10) ([Blk.row 31 [.str st, .str tk], .dead, Blk.row 38 [AV.str st, AV.str tk, AV.int .i64 1, AV.bool true, AV.int .i64 0, AV.int .i64 0, AV.str (ByteArray.mk #[]), AV.int .i64 0, AV.int .i64 0, AV.nilsl], Blk.row 38 (flatA encM l ++ [AV.str st, AV.str tk, AV.int .i64 1, AV.bool true, AV.int .i64 0, AV.int .i64 0, AV.str (ByteArray.mk #[]), AV.int .i64 0, AV.int .i64 0, AV.nilsl])]) _ (by kernel_rfl) (by kernel_rfl) rfl (insert_end_v l.length st tk (flatA encM l) [AV.str st, AV.str tk, AV.int .i64 1, AV.bool true, AV.int .i64 0, AV.int .i64 0, AV.str (ByteArray.mk #[]), AV.int .i64 0, AV.int .i64 0, AV.nilsl] (by rw [flatA_length lenM]) rfl hB (noidM l) (noidN st tk)) ?_
  refine N_run 1 (True) [] (stOf 40 [(0, marksV l), (1, .agg [.str st, .str tk]), (3, .ptr 0 0), (4, .sl 3 0 (l.length + 1) 10), (5, .sl 1 0 l.length 10), (6, .int .i64 (-1)), (7, .int .i64 (↑l.length : Int)), (14, .bool false), (31, .bool true), (34, .sl 1 0 l.length 10), (35, .int .i64 (↑l.length : Int)), (36, .agg [.str st, .str tk]), (37, .agg [.str st, .str tk, .int .i64 1, .bool true, .int .i64 0, .int .i64 0, .str (ByteArray.mk #[]), .int .i64 0, .int .i64 0, .nilsl]), (38, .sl 2 0 1 10), (39, .sl 3 0 (l.length + 1) 10)] [.row 31 [.str st, .str tk], Blk.dead, .row 38 [.str st, .str tk, .int .i64 1, .bool true, .int .i64 0, .int .i64 0, .str (ByteArray.mk #[]), .int .i64 0, .int .i64 0, .nilsl], .row 38 (flatA encM l ++ [AV.str st, .str tk, .int .i64 1, .bool true, .int .i64 0, .int .i64 0, .str (ByteArray.mk #[]), .int .i64 0, .int .i64 0, .nilsl])]) trivial ?_
  refine N_sel [0, 1, 3, 4, 5, 6, 7, 14, 31] (stOf 40 [(0, marksV l), (1, .agg [.str st, .str tk]), (3, .ptr 0 0), (4, .sl 3 0 (l.length + 1) 10), (5, .sl 1 0 l.length 10), (6, .int .i64 (-1)), (7, .int .i64 (↑l.length : Int)), (14, .bool false), (31, .bool true)] [.row 31 [.str st, .str tk], Blk.dead, .row 38 [.str st, .str tk, .int .i64 1, .bool true, .int .i64 0, .int .i64 0, .str (ByteArray.mk #[]), .int .i64 0, .int .i64 0, .nilsl], .row 38 (flatA encM l ++ [AV.str st, .str tk, .int .i64 1, .bool true, .int .i64 0, .int .i64 0, .str (ByteArray.mk #[]), .int .i64 0, .int .i64 0, .nilsl])]) ?_
  refine k_then ?_
  refine q_ret (by kernel_rfl) ?_
  exact k_fin True (.sl 3 0 (l.length + 1) 10) [3] [.row 38 (flatA encM l ++ [AV.str st, AV.str tk, AV.int IntKind.i64 (1 : Int), AV.bool true, AV.int IntKind.i64 (0 : Int), AV.int IntKind.i64 (0 : Int), AV.str (ByteArray.mk #[]), AV.int IntKind.i64 (0 : Int), AV.int IntKind.i64 (0 : Int), AV.nilsl])] (.sl 0 0 (l.length + 1) 10) (by kernel_rfl) (by kernel_rfl) (by kernel_rfl) trivial (keep_row 3 38 _ rfl (fun x hx => (List.mem_append.1 hx).elim (noidM l x) (noidN st tk x))) ⟨rfl, rfl⟩
theorem store_ten (A c B cs : List AV) (o : Nat) (h : o = A.length + 0) (hc : c.length = 10) (hs : cs.length = 10) : storeA o cs (A ++ (c ++ B)) = A ++ (cs ++ B) := by
  subst h
  have e1 := mid_take A c B 0 (by omega)
  rw [storeA, e1, hs, Nat.add_assoc, mid_drop A c B (0 + 10) (by omega), List.drop_eq_nil_of_le (by omega)]
  simp only [List.take_zero, List.append_nil, List.nil_append, List.append_assoc]
theorem submit_old_v (l : List Mk) (st tk : ByteArray) (hl : OkL l) (i : Nat) (hi : i < l.length) (h : ixL st tk 0 l = (i : Int)) : CallsV Try.prog 23 [marksV l, .agg [.str st, .str tk]] [] (fun av H' => av = .sl 0 0 l.length 10 ∧ H' = [.row 38 (flatA encM (l.take i) ++ ([AV.str st, AV.str tk, AV.int IntKind.i64 (IntKind.i64.wrap ((l.getD i mD).ver + (1 : Int))), AV.bool true, AV.int IntKind.i64 (0 : Int), AV.int IntKind.i64 (0 : Int), AV.str (ByteArray.mk #[]), AV.int IntKind.i64 (0 : Int), AV.int IntKind.i64 (0 : Int), AV.nilsl] ++ flatA encM (l.drop (i + 1))))]) := by
  refine callsV_at Try.func23 (by kernel_rfl) ?_
  have h0 : 0 < l.length := by omega
  have hA : (flatA encM (l.take i)).length = i * 10 := by rw [flatA_length lenM, List.length_take, Nat.min_eq_left (by omega)]
  have hmid : flatA encM l = flatA encM (l.take i) ++ (encM (l.getD i mD) ++ flatA encM (l.drop (i + 1))) := by
    have h1 : l = l.take i ++ (l.getD i mD :: l.drop (i + 1)) := by
      rw [List.getD_eq_getElem?_getD, List.getElem?_eq_getElem hi]
      simp
    conv => lhs; rw [h1]
    rw [flatA_append]; rfl
  have hnA := noidM (l.take i)
  have hnB := noidM (l.drop (i + 1))
  generalize flatA encM (l.take i) = A at *
  generalize flatA encM (l.drop (i + 1)) = B at *
  have hge : decide (0 ≤ (i : Int)) = true := by rw [decide_eq_true_iff]; omega
  have hoff : ∀ k, 0 + (i : Int).toNat * 10 + k = A.length + k := fun k => by rw [hA, Int.toNat_natCast]; omega
  have hoff0 : 0 + (i : Int).toNat * 10 = A.length + 0 := by rw [hA, Int.toNat_natCast]; omega
  have hl3 : 0 + (i : Int).toNat * 10 + 10 ≤ (A ++ (encM (l.getD i mD) ++ B)).length := by simp only [List.length_append, lenM, Int.toNat_natCast]; omega
  have noev := trivial
  have norow := trivial
  refine Q_seq ?_
  refine Q_reg ?_
  let z5 : List (Nat × AV) := [(0, marksV l), (1, .agg [.str st, .str tk]), (3, .ptr 0 0), (4, .nilsl)]
  refine N_run 2 (True) [] (stOf 40 z5 [.row 31 [.str st, .str tk]]) trivial ?_
  refine N_sel [0, 1, 3, 4, 5, 6, 7, 14, 31] (stOf 40 z5 [.row 31 [.str st, .str tk]]) ?_
  refine k_then ?_
  refine Q_seq ?_
  refine Q_reg ?_
  refine N_run 1 (True) [1, 2] (stOf 40 (z5 ++ [(8, marksV l)]) [.row 31 [.str st, .str tk]]) trivial ?_
  refine n_callo 32 [marksV l] (.sl 0 0 l.length 10) 38 (flatA encM l) _ (by kernel_rfl) (by kernel_rfl) (by kernel_rfl) (plainM l) rfl (cloneAll_v l hl h0) ?_
  refine N_run 1 (True) [] (stOf 40 (z5 ++ [(5, .sl 1 0 l.length 10), (8, marksV l), (9, .sl 1 0 l.length 10)]) [.row 31 [.str st, .str tk], .row 38 (flatA encM l)]) trivial ?_
  refine N_sel [0, 1, 3, 4, 5, 6, 7, 14, 31] (stOf 40 (z5 ++ [(5, .sl 1 0 l.length 10)]) [.row 31 [.str st, .str tk], .row 38 (flatA encM l)]) ?_
  refine k_then ?_
  refine Q_seq ?_
  refine Q_seq ?_
  refine Q_reg ?_
  refine N_run 1 (True) [1, 2, 3] (stOf 40 (z5 ++ [(5, .sl 1 0 l.length 10), (10, .sl 1 0 l.length 10)]) [.row 31 [.str st, .str tk], .row 38 (flatA encM l)]) trivial ?_
  refine N_run 1 (2 ≤ 2) [2, 3] (stOf 40 (z5 ++ [(5, .sl 1 0 l.length 10), (10, .sl 1 0 l.length 10), (11, .agg [.str st, .str tk])]) [.row 31 [.str st, .str tk], .row 38 (flatA encM l)]) (by exact by omega) ?_
  refine n_lendo 29 1 l.length 10 38 (flatA encM l) [.agg [.str st, .str tk]] (marksV l) (.int .i64 (ixL st tk 0 l)) [] _ (by kernel_rfl) (by kernel_rfl) rfl (leafM l) (by rw [flatA_length lenM]; exact Nat.le_refl _) (by kernel_rfl) (by rw [List.take_of_length_le (by rw [flatA_length lenM]; exact Nat.le_refl _)]) (index_v l st tk hl) (by kernel_rfl) rfl ?_
  refine n_asH [Blk.row 31 [.str st, .str tk], Blk.row 38 (A ++ (encM (l.getD i mD) ++ B))] (by show [_, _] = _; rw [hmid]) ?_
  refine n_set 12 (AV.int .i64 (ixL st tk 0 l)) (AV.int .i64 (↑i : Int)) (by kernel_rfl) (by rw [h] <;> rfl) ?_
  refine N_run 1 (True) [] (stOf 40 (z5 ++ [(5, .sl 1 0 l.length 10), (6, .int .i64 (↑i : Int)), (10, .sl 1 0 l.length 10), (11, .agg [.str st, .str tk]), (12, .int .i64 (↑i : Int))]) [.row 31 [.str st, .str tk], .row 38 (A ++ (encM (l.getD i mD) ++ B))]) trivial ?_
  refine N_sel [0, 1, 3, 4, 5, 6, 7, 14, 31] (stOf 40 (z5 ++ [(5, .sl 1 0 l.length 10), (6, .int .i64 (↑i : Int))]) [.row 31 [.str st, .str tk], .row 38 (A ++ (encM (l.getD i mD) ++ B))]) ?_
  refine k_then ?_
  refine Q_seq ?_
  refine Q_reg ?_
  refine N_run 2 (True) [] (stOf 40 (z5 ++ [(5, .sl 1 0 l.length 10), (6, .int .i64 (↑i : Int)), (13, .int .i64 (↑i : Int)), (14, .bool (decide ((↑i : Int) ≥ (0 : Int))))]) [.row 31 [.str st, .str tk], .row 38 (A ++ (encM (l.getD i mD) ++ B))]) trivial ?_
  refine n_set 14 (AV.bool (decide ((↑i : Int) ≥ (0 : Int)))) (AV.bool true) (by kernel_rfl) (by rw [hge] <;> rfl) ?_
  refine N_sel [0, 1, 3, 4, 5, 6, 7, 14, 31] (stOf 40 (z5 ++ [(5, .sl 1 0 l.length 10), (6, .int .i64 (↑i : Int)), (14, .bool true)]) [.row 31 [.str st, .str tk], .row 38 (A ++ (encM (l.getD i mD) ++ B))]) ?_
  refine k_then ?_
  refine q_yes (by kernel_rfl) true (by kernel_rfl) rfl ?_
  refine Q_seq ?_
  refine q_drawT false (by kernel_rfl) (by kernel_rfl) 2 (by kernel_rfl) ?_
  refine T_still 0 11 #[true, false, false, false, false, false, false, false, false, false, false, false] (stOf 40 (z5 ++ [(5, .sl 1 0 l.length 10), (6, .int .i64 (↑i : Int)), (14, .bool true), (15, .sl 1 0 l.length 10)]) [.row 31 [.str st, .str tk], .row 38 (A ++ (encM (l.getD i mD) ++ B))]) ?_
  refine T_still 1 10 #[true, true, false, false, false, false, false, false, false, false, false, false] (stOf 40 (z5 ++ [(5, .sl 1 0 l.length 10), (6, .int .i64 (↑i : Int)), (14, .bool true), (15, .sl 1 0 l.length 10), (16, .int .i64 (↑i : Int))]) [.row 31 [.str st, .str tk], .row 38 (A ++ (encM (l.getD i mD) ++ B))]) ?_
  refine T_take 2 (2 ≤ 2) 9 #[true, true, true, false, false, false, false, false, false, false, false, false] (stOf 40 (z5 ++ [(5, .sl 1 0 l.length 10), (6, .int .i64 (↑i : Int)), (14, .bool true), (15, .sl 1 0 l.length 10), (16, .int .i64 (↑i : Int)), (17, .agg [.str st, .str tk])]) [.row 31 [.str st, .str tk], .row 38 (A ++ (encM (l.getD i mD) ++ B))]) (by exact by omega) ?_
  refine T_still 3 8 #[true, true, true, true, false, false, false, false, false, false, false, false] (stOf 40 (z5 ++ [(5, .sl 1 0 l.length 10), (6, .int .i64 (↑i : Int)), (14, .bool true), (15, .sl 1 0 l.length 10), (16, .int .i64 (↑i : Int)), (17, .agg [.str st, .str tk]), (18, .sl 1 0 l.length 10)]) [.row 31 [.str st, .str tk], .row 38 (A ++ (encM (l.getD i mD) ++ B))]) ?_
  refine T_still 4 7 #[true, true, true, true, true, false, false, false, false, false, false, false] (stOf 40 (z5 ++ [(5, .sl 1 0 l.length 10), (6, .int .i64 (↑i : Int)), (14, .bool true), (15, .sl 1 0 l.length 10), (16, .int .i64 (↑i : Int)), (17, .agg [.str st, .str tk]), (18, .sl 1 0 l.length 10), (19, .int .i64 (↑i : Int))]) [.row 31 [.str st, .str tk], .row 38 (A ++ (encM (l.getD i mD) ++ B))]) ?_
  refine T_take 5 ((0 : Int) ≤ (↑i : Int) ∧ (↑i : Int) < (↑l.length : Int)) 6 #[true, true, true, true, true, true, false, false, false, false, false, false] (stOf 40 (z5 ++ [(5, .sl 1 0 l.length 10), (6, .int .i64 (↑i : Int)), (14, .bool true), (15, .sl 1 0 l.length 10), (16, .int .i64 (↑i : Int)), (17, .agg [.str st, .str tk]), (18, .sl 1 0 l.length 10), (19, .int .i64 (↑i : Int)), (20, .ptr 1 (0 + (↑i : Int).toNat * 10))]) [.row 31 [.str st, .str tk], .row 38 (A ++ (encM (l.getD i mD) ++ B))]) (by exact ⟨by omega, by omega⟩) ?_
  refine T_take 6 (True) 5 #[true, true, true, true, true, true, true, false, false, false, false, false] (stOf 40 (z5 ++ [(5, .sl 1 0 l.length 10), (6, .int .i64 (↑i : Int)), (14, .bool true), (15, .sl 1 0 l.length 10), (16, .int .i64 (↑i : Int)), (17, .agg [.str st, .str tk]), (18, .sl 1 0 l.length 10), (19, .int .i64 (↑i : Int)), (20, .ptr 1 (0 + (↑i : Int).toNat * 10)), (21, .ptr 1 (0 + (↑i : Int).toNat * 10 + 2))]) [.row 31 [.str st, .str tk], .row 38 (A ++ (encM (l.getD i mD) ++ B))]) trivial ?_
  refine t_loadR (t' := 38) 7 1 2 A (encM (l.getD i mD)) B 3 (.tmp 21) _ (.int .i64 (l.getD i mD).ver) 4 #[true, true, true, true, true, true, true, true, false, false, false, false] _ (by kernel_rfl) (by kernel_rfl) (by kernel_rfl) (by kernel_rfl) (by kernel_rfl) (by kernel_rfl) (by kernel_rfl) (hoff 2) (by kernel_rfl) (by kernel_rfl) (by kernel_rfl) rfl (by kernel_rfl) ?_
  refine T_still 8 3 #[true, true, true, true, true, true, true, true, true, false, false, false] (stOf 40 (z5 ++ [(5, .sl 1 0 l.length 10), (6, .int .i64 (↑i : Int)), (14, .bool true), (15, .sl 1 0 l.length 10), (16, .int .i64 (↑i : Int)), (17, .agg [.str st, .str tk]), (18, .sl 1 0 l.length 10), (19, .int .i64 (↑i : Int)), (20, .ptr 1 (0 + (↑i : Int).toNat * 10)), (21, .ptr 1 (0 + (↑i : Int).toNat * 10 + 2)), (22, .int .i64 (l.getD i mD).ver), (23, .int .i64 (IntKind.i64.wrap ((l.getD i mD).ver + (1 : Int))))]) [.row 31 [.str st, .str tk], .row 38 (A ++ (encM (l.getD i mD) ++ B))]) ?_
  refine T_take 9 (True) 2 #[true, true, true, true, true, true, true, true, true, true, false, false] (stOf 40 (z5 ++ [(5, .sl 1 0 l.length 10), (6, .int .i64 (↑i : Int)), (14, .bool true), (15, .sl 1 0 l.length 10), (16, .int .i64 (↑i : Int)), (17, .agg [.str st, .str tk]), (18, .sl 1 0 l.length 10), (19, .int .i64 (↑i : Int)), (20, .ptr 1 (0 + (↑i : Int).toNat * 10)), (21, .ptr 1 (0 + (↑i : Int).toNat * 10 + 2)), (22, .int .i64 (l.getD i mD).ver), (23, .int .i64 (IntKind.i64.wrap ((l.getD i mD).ver + (1 : Int)))), (24, .agg [.str st, .str tk, .int .i64 (IntKind.i64.wrap ((l.getD i mD).ver + (1 : Int))), .bool true, .int .i64 0, .int .i64 0, .str (ByteArray.mk #[]), .int .i64 0, .int .i64 0, .nilsl])]) [.row 31 [.str st, .str tk], .row 38 (A ++ (encM (l.getD i mD) ++ B))]) trivial ?_
  refine T_take 10 ((0 : Int) ≤ (↑i : Int) ∧ (↑i : Int) < (↑l.length : Int)) 1 #[true, true, true, true, true, true, true, true, true, true, true, false] (stOf 40 (z5 ++ [(5, .sl 1 0 l.length 10), (6, .int .i64 (↑i : Int)), (14, .bool true), (15, .sl 1 0 l.length 10), (16, .int .i64 (↑i : Int)), (17, .agg [.str st, .str tk]), (18, .sl 1 0 l.length 10), (19, .int .i64 (↑i : Int)), (20, .ptr 1 (0 + (↑i : Int).toNat * 10)), (21, .ptr 1 (0 + (↑i : Int).toNat * 10 + 2)), (22, .int .i64 (l.getD i mD).ver), (23, .int .i64 (IntKind.i64.wrap ((l.getD i mD).ver + (1 : Int)))), (24, .agg [.str st, .str tk, .int .i64 (IntKind.i64.wrap ((l.getD i mD).ver + (1 : Int))), .bool true, .int .i64 0, .int .i64 0, .str (ByteArray.mk #[]), .int .i64 0, .int .i64 0, .nilsl]), (25, .ptr 1 (0 + (↑i : Int).toNat * 10))]) [.row 31 [.str st, .str tk], .row 38 (A ++ (encM (l.getD i mD) ++ B))]) (by exact ⟨by omega, by omega⟩) ?_
  refine t_one 11 0 (by kernel_rfl) (by kernel_rfl) ?_
  refine g_turn (0 + (↑i : Int).toNat * 10 + 10 ≤ (A ++ (encM (l.getD i mD) ++ B)).length) #[true, true, true, true, true, true, true, true, true, true, true, true] (stOf 40 (z5 ++ [(5, .sl 1 0 l.length 10), (6, .int .i64 (↑i : Int)), (14, .bool true), (15, .sl 1 0 l.length 10), (16, .int .i64 (↑i : Int)), (17, .agg [.str st, .str tk]), (18, .sl 1 0 l.length 10), (19, .int .i64 (↑i : Int)), (20, .ptr 1 (0 + (↑i : Int).toNat * 10)), (21, .ptr 1 (0 + (↑i : Int).toNat * 10 + 2)), (22, .int .i64 (l.getD i mD).ver), (23, .int .i64 (IntKind.i64.wrap ((l.getD i mD).ver + (1 : Int)))), (24, .agg [.str st, .str tk, .int .i64 (IntKind.i64.wrap ((l.getD i mD).ver + (1 : Int))), .bool true, .int .i64 0, .int .i64 0, .str (ByteArray.mk #[]), .int .i64 0, .int .i64 0, .nilsl]), (25, .ptr 1 (0 + (↑i : Int).toNat * 10))]) [.row 31 [.str st, .str tk], .row 38 (List.take (0 + (↑i : Int).toNat * 10) (A ++ (encM (l.getD i mD) ++ B)) ++ [AV.str st, .str tk, .int .i64 (IntKind.i64.wrap ((l.getD i mD).ver + (1 : Int))), .bool true, .int .i64 0, .int .i64 0, .str (ByteArray.mk #[]), .int .i64 0, .int .i64 0, .nilsl] ++ List.drop (0 + (↑i : Int).toNat * 10 + [AV.str st, .str tk, .int .i64 (IntKind.i64.wrap ((l.getD i mD).ver + (1 : Int))), .bool true, .int .i64 0, .int .i64 0, .str (ByteArray.mk #[]), .int .i64 0, .int .i64 0, .nilsl].length) (A ++ (encM (l.getD i mD) ++ B)))]) (by kernel_rfl) (by kernel_rfl) (by kernel_rfl) (by kernel_rfl) (by kernel_rfl) (by exact by omega) ?_
  refine t_done [0, 1, 3, 4, 5, 6, 7, 14, 31] (stOf 40 (z5 ++ [(5, .sl 1 0 l.length 10), (6, .int .i64 (↑i : Int)), (14, .bool true)]) [.row 31 [.str st, .str tk], .row 38 (List.take (0 + (↑i : Int).toNat * 10) (A ++ (encM (l.getD i mD) ++ B)) ++ [AV.str st, .str tk, .int .i64 (IntKind.i64.wrap ((l.getD i mD).ver + (1 : Int))), .bool true, .int .i64 0, .int .i64 0, .str (ByteArray.mk #[]), .int .i64 0, .int .i64 0, .nilsl] ++ List.drop (0 + (↑i : Int).toNat * 10 + [AV.str st, .str tk, .int .i64 (IntKind.i64.wrap ((l.getD i mD).ver + (1 : Int))), .bool true, .int .i64 0, .int .i64 0, .str (ByteArray.mk #[]), .int .i64 0, .int .i64 0, .nilsl].length) (A ++ (encM (l.getD i mD) ++ B)))]) (by kernel_rfl) (by kernel_rfl) ?_
  refine k_then ?_
  refine Q_seq ?_
  refine Q_reg ?_
  refine N_run 2 (True) [] (stOf 40 [(0, marksV l), (1, .agg [.str st, .str tk]), (3, .ptr 0 0), (4, .sl 1 0 l.length 10), (5, .sl 1 0 l.length 10), (6, .int .i64 (↑i : Int)), (14, .bool true), (26, .sl 1 0 l.length 10)] [.row 31 [.str st, .str tk], .row 38 (List.take (0 + (↑i : Int).toNat * 10) (A ++ (encM (l.getD i mD) ++ B)) ++ [AV.str st, .str tk, .int .i64 (IntKind.i64.wrap ((l.getD i mD).ver + (1 : Int))), .bool true, .int .i64 0, .int .i64 0, .str (ByteArray.mk #[]), .int .i64 0, .int .i64 0, .nilsl] ++ List.drop (0 + (↑i : Int).toNat * 10 + [AV.str st, .str tk, .int .i64 (IntKind.i64.wrap ((l.getD i mD).ver + (1 : Int))), .bool true, .int .i64 0, .int .i64 0, .str (ByteArray.mk #[]), .int .i64 0, .int .i64 0, .nilsl].length) (A ++ (encM (l.getD i mD) ++ B)))]) trivial ?_
  refine N_sel [0, 1, 3, 4, 5, 6, 7, 14, 31] (stOf 40 [(0, marksV l), (1, .agg [.str st, .str tk]), (3, .ptr 0 0), (4, .sl 1 0 l.length 10), (5, .sl 1 0 l.length 10), (6, .int .i64 (↑i : Int)), (14, .bool true)] [.row 31 [.str st, .str tk], .row 38 (List.take (0 + (↑i : Int).toNat * 10) (A ++ (encM (l.getD i mD) ++ B)) ++ [AV.str st, .str tk, .int .i64 (IntKind.i64.wrap ((l.getD i mD).ver + (1 : Int))), .bool true, .int .i64 0, .int .i64 0, .str (ByteArray.mk #[]), .int .i64 0, .int .i64 0, .nilsl] ++ List.drop (0 + (↑i : Int).toNat * 10 + [AV.str st, .str tk, .int .i64 (IntKind.i64.wrap ((l.getD i mD).ver + (1 : Int))), .bool true, .int .i64 0, .int .i64 0, .str (ByteArray.mk #[]), .int .i64 0, .int .i64 0, .nilsl].length) (A ++ (encM (l.getD i mD) ++ B)))]) ?_
  refine k_then ?_
  refine q_ret (by kernel_rfl) ?_
  refine k_thenr ?_
  exact k_fin True (.sl 1 0 l.length 10) [1] [.row 38 (A ++ ([AV.str st, AV.str tk, AV.int IntKind.i64 (IntKind.i64.wrap ((l.getD i mD).ver + (1 : Int))), AV.bool true, AV.int IntKind.i64 (0 : Int), AV.int IntKind.i64 (0 : Int), AV.str (ByteArray.mk #[]), AV.int IntKind.i64 (0 : Int), AV.int IntKind.i64 (0 : Int), AV.nilsl] ++ B))] (.sl 0 0 l.length 10) (by kernel_rfl) (by kernel_rfl) (by kernel_rfl) trivial (keep_row 1 38 _ (Eq.trans (b := some (.row 38 (storeA (0 + (i : Int).toNat * 10) [AV.str st, AV.str tk, AV.int IntKind.i64 (IntKind.i64.wrap ((l.getD i mD).ver + (1 : Int))), AV.bool true, AV.int IntKind.i64 (0 : Int), AV.int IntKind.i64 (0 : Int), AV.str (ByteArray.mk #[]), AV.int IntKind.i64 (0 : Int), AV.int IntKind.i64 (0 : Int), AV.nilsl] (A ++ (encM (l.getD i mD) ++ B))))) (by kernel_rfl) (congrArg (fun x => some (Blk.row 38 x)) (store_ten A _ B [AV.str st, AV.str tk, AV.int IntKind.i64 (IntKind.i64.wrap ((l.getD i mD).ver + (1 : Int))), AV.bool true, AV.int IntKind.i64 (0 : Int), AV.int IntKind.i64 (0 : Int), AV.str (ByteArray.mk #[]), AV.int IntKind.i64 (0 : Int), AV.int IntKind.i64 (0 : Int), AV.nilsl] _ hoff0 rfl rfl))) (fun x hx => by
    rcases List.mem_append.1 hx with hx | hx
    · exact hnA x hx
    · rcases List.mem_append.1 hx with hx | hx
      · simp only [List.mem_cons, List.not_mem_nil, or_false] at hx
        rcases hx with rfl | rfl | rfl | rfl | rfl | rfl | rfl | rfl | rfl | rfl <;> rfl
      · exact hnB x hx)) ⟨rfl, rfl⟩
end Go.Proofs.Ytlmkeoegammdjaa
