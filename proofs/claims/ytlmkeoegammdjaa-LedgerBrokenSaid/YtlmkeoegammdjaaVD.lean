/-
  The first mark of a pair, in the logic of values.
-/
import Derived.Test.YtlmkeoegammdjaaVC
namespace Go.Proofs.Ytlmkeoegammdjaa
open Go Go.RowKit V
set_option linter.unusedSimpArgs false
set_option linter.unusedVariables false
set_option maxHeartbeats 20000000
def isP (m : Mk) (st tk : ByteArray) : Bool := m.st.toList == st.toList && (m.tk.toList == tk.toList && true)
def ixL (st tk : ByteArray) : Nat → List Mk → Int
  | _, [] => -1
  | k, m :: r => bif isP m st tk then (k : Int) else ixL st tk (k + 1) r
theorem ixL_at {l : List Mk} {st tk : ByteArray} {k : Nat} (h : k < l.length) : ixL st tk k (l.drop k) = bif isP (l.getD k mD) st tk then (k : Int) else ixL st tk (k + 1) (l.drop (k + 1)) := by
  rw [List.drop_eq_getElem_cons h, ixL]; simp [List.getD_eq_getElem?_getD, h]
theorem ixL_end {l : List Mk} {st tk : ByteArray} {k : Nat} (h : l.length ≤ k) : ixL st tk k (l.drop k) = -1 := by
  rw [List.drop_eq_nil_of_le h]; rfl
theorem lit_v (m : Mk) (st tk : ByteArray) : CallsV Try.prog 41 [.agg (encM m), .fptr [.str st, .str tk]] [] (fun av H' => av = .bool (isP m st tk) ∧ H' = []) := by
  refine callsV_at Try.func41 (by kernel_rfl) ?_
  refine Q_seq ?_
  refine Q_run [0, 1, 2, 3] (stOf 8 [(0, .agg (encM m)), (1, .fptr [.str st, .str tk]), (2, .ptr 0 0), (3, .bool false)] [.row 38 (encM m)]) ?_
  refine k_then ?_
  refine Q_seq ?_
  refine Q_reg ?_
  refine N_run 2 (2 ≤ 10) [2, 3, 4] (stOf 8 [(0, .agg (encM m)), (1, .fptr [.str st, .str tk]), (2, .ptr 0 0), (3, .bool false), (4, .ptr 0 0), (5, .agg [.str m.st, .str m.tk])] [.row 38 (encM m)]) (by exact by omega) ?_
  refine N_run 1 (2 ≤ 2) [3, 4] (stOf 8 [(0, .agg (encM m)), (1, .fptr [.str st, .str tk]), (2, .ptr 0 0), (3, .bool false), (4, .ptr 0 0), (5, .agg [.str m.st, .str m.tk]), (6, .agg [.str st, .str tk])] [.row 38 (encM m)]) (by exact by omega) ?_
  refine N_run 2 (True) [] (stOf 8 [(0, .agg (encM m)), (1, .fptr [.str st, .str tk]), (2, .ptr 0 0), (3, .bool (m.st.toList == st.toList && (m.tk.toList == tk.toList && true))), (4, .ptr 0 0), (5, .agg [.str m.st, .str m.tk]), (6, .agg [.str st, .str tk]), (7, .bool (m.st.toList == st.toList && (m.tk.toList == tk.toList && true)))] [.row 38 (encM m)]) trivial ?_
  refine N_sel [0, 1, 2, 3] (stOf 8 [(0, .agg (encM m)), (1, .fptr [.str st, .str tk]), (2, .ptr 0 0), (3, .bool (m.st.toList == st.toList && (m.tk.toList == tk.toList && true)))] [.row 38 (encM m)]) ?_
  refine k_then ?_
  refine q_ret (by kernel_rfl) ?_
  refine k_fin (True) (.bool (m.st.toList == st.toList && (m.tk.toList == tk.toList && true))) [] [] (.bool (m.st.toList == st.toList && (m.tk.toList == tk.toList && true))) (by kernel_rfl) (by kernel_rfl) (by kernel_rfl) trivial (keep_nil _) ?_
  exact ⟨rfl, rfl⟩
theorem indexFunc_v (l : List Mk) (st tk : ByteArray) (hl : OkL l) : CallsV Try.prog 34 [marksV l, .fn (.func 41) [] [.fptr [.str st, .str tk]]] [] (fun av H' => av = .int .i64 (ixL st tk 0 l) ∧ H' = []) := by
  refine callsV_at Try.func34 (by kernel_rfl) ?_
  refine Q_seq ?_
  let z1 : List (Nat × AV) := [(0, marksV l), (1, .fn (Fn.func (41 : FuncId)) [] [.fptr [.str st, .str tk]])]
  refine Q_run [0, 1, 4, 5, 7, 8, 9, 16] (stOf 19 (z1 ++ [(4, .int .i64 0)]) []) ?_
  refine k_then ?_
  refine Q_seq ?_
  refine Q_seq ?_
  refine Q_run [0, 1, 4, 5, 7, 8, 9, 16] (stOf 19 (z1 ++ [(4, .int .i64 0), (7, .int .i64 (↑l.length : Int)), (8, .int .i64 0)]) []) ?_
  refine k_then ?_
  refine q_block (by kernel_rfl) ?_
  refine q_loopd (by kernel_rfl) [0, 1, 7, 8] l.length (fun n' s' => ∃ k : Nat, n' = l.length - k ∧ k ≤ l.length ∧ ixL st tk 0 l = ixL st tk k (l.drop k) ∧ s' = stOf 19 [(0, marksV l), (1, .fn (.func 41) [] [.fptr [.str st, .str tk]]), (7, .int .i64 (l.length : Int)), (8, .int .i64 (k : Int))] []) ⟨0, rfl, by omega, rfl, by kernel_rfl⟩ ?_
  rintro n' _ ⟨k, rfl, hk, hE, rfl⟩
  rcases Nat.lt_or_ge k l.length with hlt | hge
  · have hc : decide ((k : Int) < (l.length : Int)) = true := by rw [decide_eq_true_iff]; omega
    have hd := marks_at l k hlt
    have hR := ixL_at (st := st) (tk := tk) hlt
    have hB := hl.1
    refine Q_seq ?_
    refine Q_run [0, 1, 4, 5, 7, 8, 9, 16] (stOf 19 (z1 ++ [(7, .int .i64 (↑l.length : Int)), (8, .int .i64 (↑k : Int)), (9, .bool (decide ((↑k : Int) < (↑l.length : Int))))]) []) ?_
    refine k_then ?_
    refine q_set 9 (.bool (decide ((↑k : Int) < (↑l.length : Int)))) (.bool true) (by kernel_rfl) (by rw [hc] <;> rfl) ?_
    refine Q_seq ?_
    refine q_yes (by kernel_rfl) true (by kernel_rfl) rfl ?_
    refine q_skip (by kernel_rfl) ?_
    refine k_then ?_
    refine Q_seq ?_
    refine q_block (by kernel_rfl) ?_
    refine Q_seq ?_
    refine Q_run [0, 1, 4, 5, 7, 8, 9, 16] (stOf 19 (z1 ++ [(5, .int .i64 (↑k : Int)), (7, .int .i64 (↑l.length : Int)), (8, .int .i64 (↑k : Int)), (9, .bool true)]) []) ?_
    refine k_then ?_
    refine Q_seq ?_
    refine Q_reg ?_
    refine N_run 4 ((0 : Int) ≤ (↑k : Int) ∧ (↑k : Int) < (↑l.length : Int)) [4, 5] (stOf 19 (z1 ++ [(5, .int .i64 (↑k : Int)), (7, .int .i64 (↑l.length : Int)), (8, .int .i64 (↑k : Int)), (9, .bool true), (11, .fn (Fn.func (41 : FuncId)) [] [.fptr [.str st, .str tk]]), (12, marksV l), (13, .int .i64 (↑k : Int)), (14, .fptr (List.drop ((↑k : Int).toNat * 10) (flatA encM l)))]) []) (by exact ⟨by omega, by omega⟩) ?_
    refine n_set 14 (.fptr (List.drop ((↑k : Int).toNat * 10) (flatA encM l))) (.fptr (.str (l.getD k mD).st :: .str (l.getD k mD).tk :: .int .i64 (l.getD k mD).ver :: .bool (l.getD k mD).pend :: .int .i64 (l.getD k mD).kind :: .int .i64 (l.getD k mD).err :: .str (l.getD k mD).path :: .int .i64 (l.getD k mD).at' :: .int .i64 (l.getD k mD).score :: .slv (l.getD k mD).verd.length 1 (List.map (.int .i64) (l.getD k mD).verd) :: flatA encM (List.drop (k + 1) l))) (by kernel_rfl) (by rw [hd] <;> rfl) ?_
    refine N_run 1 (10 ≤ (.str (l.getD k mD).st :: .str (l.getD k mD).tk :: .int .i64 (l.getD k mD).ver :: .bool (l.getD k mD).pend :: .int .i64 (l.getD k mD).kind :: .int .i64 (l.getD k mD).err :: .str (l.getD k mD).path :: .int .i64 (l.getD k mD).at' :: .int .i64 (l.getD k mD).score :: .slv (l.getD k mD).verd.length 1 (List.map (.int .i64) (l.getD k mD).verd) :: flatA encM (List.drop (k + 1) l)).length) [5] (stOf 19 (z1 ++ [(5, .int .i64 (↑k : Int)), (7, .int .i64 (↑l.length : Int)), (8, .int .i64 (↑k : Int)), (9, .bool true), (11, .fn (Fn.func (41 : FuncId)) [] [.fptr [.str st, .str tk]]), (12, marksV l), (13, .int .i64 (↑k : Int)), (14, .fptr (encM (l.getD k mD) ++ flatA encM (List.drop (k + 1) l))), (15, .agg (encM (l.getD k mD)))]) []) (by exact by exact Nat.le_of_ble_eq_true (by kernel_rfl)) ?_
    refine n_lendc 41 [.agg (encM (l.getD k mD)), .fptr [.str st, .str tk]] [.agg (encM (l.getD k mD)), .fptr [.str st, .str tk]] (.bool (isP (l.getD k mD) st tk)) [] _ (by kernel_rfl) (by kernel_rfl) (by kernel_rfl) (lit_v (l.getD k mD) st tk) (by kernel_rfl) rfl ?_
    refine N_sel [0, 1, 4, 5, 7, 8, 9, 16] (stOf 19 (z1 ++ [(5, .int .i64 (↑k : Int)), (7, .int .i64 (↑l.length : Int)), (8, .int .i64 (↑k : Int)), (9, .bool true), (16, .bool (isP (l.getD k mD) st tk))]) []) ?_
    refine k_then ?_
    refine q_cond (by kernel_rfl) (isP (l.getD k mD) st tk) (by kernel_rfl) (fun h1 => ?_) (fun h1 => ?_)
    · refine Q_seq ?_
      refine Q_run [0, 1, 4, 5, 7, 8, 9, 16] (stOf 19 (z1 ++ [(4, .int .i64 (↑k : Int)), (5, .int .i64 (↑k : Int)), (7, .int .i64 (↑l.length : Int)), (8, .int .i64 (↑k : Int)), (9, .bool true), (16, .bool (isP (l.getD k mD) st tk))]) []) ?_
      refine k_then ?_
      refine q_ret (by kernel_rfl) ?_
      refine k_blockr ?_
      refine k_thenr ?_
      refine k_loopr ?_
      refine k_blockr ?_
      refine k_thenr ?_
      refine k_fin (True) (.int .i64 (↑k : Int)) [] [] (.int .i64 (↑k : Int)) (by kernel_rfl) (by kernel_rfl) (by kernel_rfl) trivial (keep_nil _) ?_
      exact ⟨by rw [hE, hR, h1]; rfl, rfl⟩
    · refine q_skip (by kernel_rfl) ?_
      refine k_block ?_
      refine k_then ?_
      refine Q_reg ?_
      refine N_run 1 (True) [1] (stOf 19 (z1 ++ [(5, .int .i64 (↑k : Int)), (7, .int .i64 (↑l.length : Int)), (8, .int .i64 (↑k : Int)), (9, .bool true), (16, .bool (isP (l.getD k mD) st tk)), (18, .int .i64 (IntKind.i64.wrap ((↑k : Int) + (1 : Int))))]) []) trivial ?_
      refine n_set 18 (.int .i64 (IntKind.i64.wrap ((↑k : Int) + (1 : Int)))) (.int .i64 ((↑k : Int) + (1 : Int))) (by kernel_rfl) (by rw [wrap_i64 (e := (↑k : Int) + (1 : Int)) (by omega) (by omega)]) ?_
      refine N_run 1 (True) [] (stOf 19 (z1 ++ [(5, .int .i64 (↑k : Int)), (7, .int .i64 (↑l.length : Int)), (8, .int .i64 ((↑k : Int) + (1 : Int))), (9, .bool true), (16, .bool (isP (l.getD k mD) st tk)), (18, .int .i64 ((↑k : Int) + (1 : Int)))]) []) trivial ?_
      refine N_sel [0, 1, 4, 5, 7, 8, 9, 16] (stOf 19 (z1 ++ [(5, .int .i64 (↑k : Int)), (7, .int .i64 (↑l.length : Int)), (8, .int .i64 ((↑k : Int) + (1 : Int))), (9, .bool true), (16, .bool (isP (l.getD k mD) st tk))]) []) ?_
      refine k_loopd (l.length - (k + 1)) (by omega) ⟨k + 1, rfl, by omega, by rw [hE, hR, h1]; rfl, by kernel_rfl⟩
  · have hc : decide ((k : Int) < (l.length : Int)) = false := by rw [decide_eq_false_iff_not]; omega
    refine Q_seq ?_
    refine Q_run [0, 1, 4, 5, 7, 8, 9, 16] (stOf 19 (z1 ++ [(7, .int .i64 (↑l.length : Int)), (8, .int .i64 (↑k : Int)), (9, .bool (decide ((↑k : Int) < (↑l.length : Int))))]) []) ?_
    refine k_then ?_
    refine q_set 9 (.bool (decide ((↑k : Int) < (↑l.length : Int)))) (.bool false) (by kernel_rfl) (by rw [hc] <;> rfl) ?_
    refine Q_seq ?_
    refine q_no (by kernel_rfl) false (by kernel_rfl) rfl ?_
    refine q_exit (by kernel_rfl) 0 (by kernel_rfl) ?_
    refine k_thenx ?_
    refine k_loopx ?_
    refine k_blockx (by kernel_rfl) ?_
    refine k_then ?_
    refine Q_seq ?_
    refine Q_run [0, 1, 4, 5, 7, 8, 9, 16] (stOf 19 (z1 ++ [(4, .int .i64 (-1)), (7, .int .i64 (↑l.length : Int)), (8, .int .i64 (↑k : Int)), (9, .bool false)]) []) ?_
    refine k_then ?_
    refine q_ret (by kernel_rfl) ?_
    refine k_fin (True) (.int .i64 (-1)) [] [] (.int .i64 (-1)) (by kernel_rfl) (by kernel_rfl) (by kernel_rfl) trivial (keep_nil _) ?_
    exact ⟨by rw [hE, ixL_end hge], rfl⟩
theorem index_v (l : List Mk) (st tk : ByteArray) (hl : OkL l) : CallsV Try.prog 29 [marksV l, .agg [.str st, .str tk]] [] (fun av H' => av = .int .i64 (ixL st tk 0 l) ∧ H' = []) := by
  refine callsV_at Try.func29 (by kernel_rfl) ?_
  refine Q_seq ?_
  refine Q_run [0, 1, 3, 4] (stOf 8 [(0, marksV l), (1, .agg [.str st, .str tk]), (3, .ptr 0 0), (4, .int .i64 0)] [.row 31 [.str st, .str tk]]) ?_
  refine k_then ?_
  refine Q_seq ?_
  refine Q_reg ?_
  refine N_run 1 (True) [1, 2, 3] (stOf 8 [(0, marksV l), (1, .agg [.str st, .str tk]), (3, .ptr 0 0), (4, .int .i64 0), (5, marksV l)] [.row 31 [.str st, .str tk]]) trivial ?_
  refine n_evl (noX_ok _) 1 (.fn (.func 41) [] [.ptr 0 0]) [.row 31 [.str st, .str tk]] _ (by kernel_rfl) (by kernel_rfl) rfl ?_
  refine n_lendc 34 [marksV l, .fn (Fn.func (41 : FuncId)) [] [.ptr 0 0]] [marksV l, .fn (Fn.func (41 : FuncId)) [] [.fptr [.str st, .str tk]]] (.int .i64 (ixL st tk 0 l)) ([]) (stOf 8 [(0, marksV l), (1, .agg [.str st, .str tk]), (3, .ptr 0 0), (4, .int .i64 0), (5, marksV l), (6, .fn (Fn.func (41 : FuncId)) [] [.ptr 0 0]), (7, .int .i64 (ixL st tk 0 l))] [.row 31 [.str st, .str tk]]) (by kernel_rfl) (by kernel_rfl) (by kernel_rfl) (indexFunc_v l st tk hl ) (by kernel_rfl) (by kernel_rfl) ?_
  refine N_run 1 (True) [] (stOf 8 [(0, marksV l), (1, .agg [.str st, .str tk]), (3, .ptr 0 0), (4, .int .i64 (ixL st tk 0 l)), (5, marksV l), (6, .fn (Fn.func (41 : FuncId)) [] [.ptr 0 0]), (7, .int .i64 (ixL st tk 0 l))] [.row 31 [.str st, .str tk]]) trivial ?_
  refine N_sel [0, 1, 3, 4] (stOf 8 [(0, marksV l), (1, .agg [.str st, .str tk]), (3, .ptr 0 0), (4, .int .i64 (ixL st tk 0 l))] [.row 31 [.str st, .str tk]]) ?_
  refine k_then ?_
  refine q_ret (by kernel_rfl) ?_
  refine k_fin (True) (.int .i64 (ixL st tk 0 l)) [] [] (.int .i64 (ixL st tk 0 l)) (by kernel_rfl) (by kernel_rfl) (by kernel_rfl) trivial (keep_nil _) ?_
  exact ⟨rfl, rfl⟩
theorem place_v (l : List Mk) (st tk : ByteArray) (hl : OkL l) : CallsV Try.prog 31 [marksV l, .agg [.str st, .str tk]] [] (fun av H' => av = .int .i64 (ixL st tk 0 l) ∧ H' = []) := by
  refine callsV_at Try.func31 (by kernel_rfl) ?_
  refine Q_seq ?_
  let z2 : List (Nat × AV) := [(0, marksV l), (1, .agg [.str st, .str tk]), (3, .ptr 0 0)]
  refine Q_run [0, 1, 3, 4, 5, 9, 18] (stOf 20 (z2 ++ [(4, .int .i64 0)]) [.row 31 [.str st, .str tk]]) ?_
  refine k_then ?_
  refine Q_seq ?_
  refine Q_seq ?_
  refine Q_run [0, 1, 3, 4, 5, 9, 18] (stOf 20 (z2 ++ [(4, .int .i64 0), (5, .int .i64 0)]) [.row 31 [.str st, .str tk]]) ?_
  refine k_then ?_
  refine q_block (by kernel_rfl) ?_
  refine q_loop (by kernel_rfl) [0, 1, 3, 5] l.length (fun n' s' => ∃ k : Nat, n' = l.length - k ∧ k ≤ l.length ∧ ixL st tk 0 l = ixL st tk k (l.drop k) ∧ s' = stOf 20 [(0, marksV l), (1, .agg [.str st, .str tk]), (3, .ptr 0 0), (5, .int .i64 (k : Int))] [.row 31 [.str st, .str tk]]) ⟨0, rfl, by omega, rfl, by kernel_rfl⟩ ?_
  rintro n' _ ⟨k, rfl, hk, hE, rfl⟩
  rcases Nat.lt_or_ge k l.length with hlt | hge
  · have hc : decide ((k : Int) < (l.length : Int)) = true := by rw [decide_eq_true_iff]; omega
    have hd := marks_at l k hlt
    have hR := ixL_at (st := st) (tk := tk) hlt
    have hB := hl.1
    refine Q_seq ?_
    refine Q_seq ?_
    refine Q_run [0, 1, 3, 4, 5, 9, 18] (stOf 20 (z2 ++ [(5, .int .i64 (↑k : Int)), (9, .bool (decide ((↑k : Int) < (↑l.length : Int))))]) [.row 31 [.str st, .str tk]]) ?_
    refine k_then ?_
    refine q_set 9 (.bool (decide ((↑k : Int) < (↑l.length : Int)))) (.bool true) (by kernel_rfl) (by rw [hc] <;> rfl) ?_
    refine q_yes (by kernel_rfl) true (by kernel_rfl) rfl ?_
    refine q_skip (by kernel_rfl) ?_
    refine k_then ?_
    refine Q_seq ?_
    refine q_block (by kernel_rfl) ?_
    refine Q_seq ?_
    refine q_draw (by kernel_rfl) (by kernel_rfl) ?_
    refine d_takes [0, 1, 2] ((0 : Int) ≤ (↑k : Int) ∧ (↑k : Int) < (↑l.length : Int)) 4 #[true, true, true, false, false, false, false] (stOf 20 (z2 ++ [(5, .int .i64 (↑k : Int)), (9, .bool true), (12, marksV l), (13, .int .i64 (↑k : Int)), (14, .fptr (List.drop ((↑k : Int).toNat * 10) (flatA encM l)))]) [.row 31 [.str st, .str tk]]) (by kernel_rfl) (by kernel_rfl) (by kernel_rfl) (by exact ⟨by omega, by omega⟩) ?_
    refine d_set 14 (.fptr (List.drop ((↑k : Int).toNat * 10) (flatA encM l))) (.fptr (.str (l.getD k mD).st :: .str (l.getD k mD).tk :: .int .i64 (l.getD k mD).ver :: .bool (l.getD k mD).pend :: .int .i64 (l.getD k mD).kind :: .int .i64 (l.getD k mD).err :: .str (l.getD k mD).path :: .int .i64 (l.getD k mD).at' :: .int .i64 (l.getD k mD).score :: .slv (l.getD k mD).verd.length 1 (List.map (.int .i64) (l.getD k mD).verd) :: flatA encM (List.drop (k + 1) l))) (by kernel_rfl) (by rw [hd] <;> rfl) ?_
    refine d_takes [3, 4, 5, 6] (2 ≤ (List.drop 0 (.str (l.getD k mD).st :: .str (l.getD k mD).tk :: .int .i64 (l.getD k mD).ver :: .bool (l.getD k mD).pend :: .int .i64 (l.getD k mD).kind :: .int .i64 (l.getD k mD).err :: .str (l.getD k mD).path :: .int .i64 (l.getD k mD).at' :: .int .i64 (l.getD k mD).score :: .slv (l.getD k mD).verd.length 1 (List.map (.int .i64) (l.getD k mD).verd) :: flatA encM (List.drop (k + 1) l))).length ∧ 2 ≤ 2) 0 #[true, true, true, true, true, true, true] (stOf 20 (z2 ++ [(5, .int .i64 (↑k : Int)), (9, .bool true), (12, marksV l), (13, .int .i64 (↑k : Int)), (14, .fptr (encM (l.getD k mD) ++ flatA encM (List.drop (k + 1) l))), (15, .fptr (encM (l.getD k mD) ++ flatA encM (List.drop (k + 1) l))), (16, .agg [.str (l.getD k mD).st, .str (l.getD k mD).tk]), (17, .agg [.str st, .str tk]), (18, .bool ((l.getD k mD).st.toList == st.toList && ((l.getD k mD).tk.toList == tk.toList && true)))]) [.row 31 [.str st, .str tk]]) (by kernel_rfl) (by kernel_rfl) (by kernel_rfl) (by exact ⟨by exact Nat.le_of_ble_eq_true (by kernel_rfl), by omega⟩) ?_
    refine d_done [0, 1, 3, 4, 5, 9, 18] (stOf 20 (z2 ++ [(5, .int .i64 (↑k : Int)), (9, .bool true), (18, .bool ((l.getD k mD).st.toList == st.toList && ((l.getD k mD).tk.toList == tk.toList && true)))]) [.row 31 [.str st, .str tk]]) (by kernel_rfl) (by kernel_rfl) ?_
    refine k_then ?_
    refine q_cond (by kernel_rfl) ((l.getD k mD).st.toList == st.toList && ((l.getD k mD).tk.toList == tk.toList && true)) (by kernel_rfl) (fun h1 => ?_) (fun h1 => ?_)
    · skip
      refine Q_seq ?_
      refine Q_run [0, 1, 3, 4, 5, 9, 18] (stOf 20 (z2 ++ [(4, .int .i64 (↑k : Int)), (5, .int .i64 (↑k : Int)), (9, .bool true), (18, .bool ((l.getD k mD).st.toList == st.toList && ((l.getD k mD).tk.toList == tk.toList && true)))]) [.row 31 [.str st, .str tk]]) ?_
      refine k_then ?_
      refine q_ret (by kernel_rfl) ?_
      refine k_blockr ?_
      refine k_thenr ?_
      refine k_loopr ?_
      refine k_blockr ?_
      refine k_thenr ?_
      refine k_fin (True) (.int .i64 (↑k : Int)) [] [] (.int .i64 (↑k : Int)) (by kernel_rfl) (by kernel_rfl) (by kernel_rfl) trivial (keep_nil _) ?_
      exact ⟨by rw [hE, hR, isP, h1]; rfl, rfl⟩
    · skip
      refine q_skip (by kernel_rfl) ?_
      refine k_block ?_
      refine k_then ?_
      refine Q_reg ?_
      refine N_run 2 (True) [2] (stOf 20 (z2 ++ [(5, .int .i64 (↑k : Int)), (9, .bool true), (10, .int .i64 (↑k : Int)), (11, .int .i64 (IntKind.i64.wrap ((↑k : Int) + (1 : Int)))), (18, .bool ((l.getD k mD).st.toList == st.toList && ((l.getD k mD).tk.toList == tk.toList && true)))]) [.row 31 [.str st, .str tk]]) trivial ?_
      refine n_set 11 (.int .i64 (IntKind.i64.wrap ((↑k : Int) + (1 : Int)))) (.int .i64 ((↑k : Int) + (1 : Int))) (by kernel_rfl) (by rw [wrap_i64 (e := (↑k : Int) + (1 : Int)) (by omega) (by omega)]) ?_
      refine N_run 1 (True) [] (stOf 20 (z2 ++ [(5, .int .i64 ((↑k : Int) + (1 : Int))), (9, .bool true), (10, .int .i64 (↑k : Int)), (11, .int .i64 ((↑k : Int) + (1 : Int))), (18, .bool ((l.getD k mD).st.toList == st.toList && ((l.getD k mD).tk.toList == tk.toList && true)))]) [.row 31 [.str st, .str tk]]) trivial ?_
      refine N_sel [0, 1, 3, 4, 5, 9, 18] (stOf 20 (z2 ++ [(5, .int .i64 ((↑k : Int) + (1 : Int))), (9, .bool true), (18, .bool ((l.getD k mD).st.toList == st.toList && ((l.getD k mD).tk.toList == tk.toList && true)))]) [.row 31 [.str st, .str tk]]) ?_
      refine k_loop (l.length - (k + 1)) (by omega) ⟨k + 1, rfl, by omega, by rw [hE, hR, isP, h1]; rfl, by kernel_rfl⟩
  · have hc : decide ((k : Int) < (l.length : Int)) = false := by rw [decide_eq_false_iff_not]; omega
    refine Q_seq ?_
    refine Q_seq ?_
    refine Q_run [0, 1, 3, 4, 5, 9, 18] (stOf 20 (z2 ++ [(5, .int .i64 (↑k : Int)), (9, .bool (decide ((↑k : Int) < (↑l.length : Int))))]) [.row 31 [.str st, .str tk]]) ?_
    refine k_then ?_
    refine q_set 9 (.bool (decide ((↑k : Int) < (↑l.length : Int)))) (.bool false) (by kernel_rfl) (by rw [hc] <;> rfl) ?_
    refine q_no (by kernel_rfl) false (by kernel_rfl) rfl ?_
    refine q_exit (by kernel_rfl) 0 (by kernel_rfl) ?_
    refine k_thenx ?_
    refine k_loopx ?_
    refine k_blockx (by kernel_rfl) ?_
    refine k_then ?_
    refine Q_seq ?_
    refine Q_run [0, 1, 3, 4, 5, 9, 18] (stOf 20 (z2 ++ [(4, .int .i64 (-1)), (5, .int .i64 (↑k : Int)), (9, .bool false)]) [.row 31 [.str st, .str tk]]) ?_
    refine k_then ?_
    refine q_ret (by kernel_rfl) ?_
    refine k_fin (True) (.int .i64 (-1)) [] [] (.int .i64 (-1)) (by kernel_rfl) (by kernel_rfl) (by kernel_rfl) trivial (keep_nil _) ?_
    exact ⟨by rw [hE, ixL_end hge], rfl⟩
end Go.Proofs.Ytlmkeoegammdjaa
