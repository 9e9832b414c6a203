/-
  Check, over any list of marks.
-/
import Derived.Test.YtlmkeoegammdjaaVQ
namespace Go.Proofs.Ytlmkeoegammdjaa
open Go Go.RowKit V
set_option linter.unusedSimpArgs false
set_option linter.unusedVariables false
set_option maxHeartbeats 20000000
abbrev befM (m n : Mk) : Bool := befP m.st m.tk n.st n.tk
def ordL : List Mk → Bool
  | [] => true
  | m :: r => match r with | [] => true | n :: _ => bif befM m n then ordL r else false
def badL : List Mk → Int
  | [] => 0
  | m :: r => bif decide (m.ver < 1) then 1 else bif (bif m.pend then !isZ m else false) then 29 else badL r
def chkL (l : List Mk) : Int := bif ordL l then badL l else 9
theorem ordL_at {l : List Mk} {k : Nat} (h : k + 1 < l.length) : ordL (l.drop k) = bif befM (l.getD k mD) (l.getD (k + 1) mD) then ordL (l.drop (k + 1)) else false := by
  rw [List.drop_eq_getElem_cons (show k < l.length by omega), List.drop_eq_getElem_cons h, ordL]
  simp only [List.getD_eq_getElem?_getD, List.getElem?_eq_getElem h, List.getElem?_eq_getElem (show k < l.length by omega), Option.getD_some]
theorem ordL_end {l : List Mk} {k : Nat} (h : l.length ≤ k + 1) : ordL (l.drop k) = true := by
  rcases Nat.lt_or_ge k l.length with h1 | h1
  · rw [List.drop_eq_getElem_cons h1, List.drop_eq_nil_of_le h]; rfl
  · rw [List.drop_eq_nil_of_le h1]; rfl
theorem badL_at {l : List Mk} {k : Nat} (h : k < l.length) : badL (l.drop k) = bif decide ((l.getD k mD).ver < 1) then 1 else bif (bif (l.getD k mD).pend then !isZ (l.getD k mD) else false) then 29 else badL (l.drop (k + 1)) := by
  rw [List.drop_eq_getElem_cons h, badL]; simp [List.getD_eq_getElem?_getD, h]
theorem badL_end {l : List Mk} {k : Nat} (h : l.length ≤ k) : badL (l.drop k) = 0 := by
  rw [List.drop_eq_nil_of_le h]; rfl
theorem okM_at {l : List Mk} (hl : OkL l) {k : Nat} (h : k < l.length) : OkM (l.getD k mD) := hl.2 _ (by rw [List.getD_eq_getElem?_getD, List.getElem?_eq_getElem h]; exact List.getElem_mem h)
theorem check_v (l : List Mk) (hl : OkL l) : CallsV Try.prog 10 [marksV l] [] (fun av H' => av = .int .i64 (chkL l) ∧ H' = []) := by
  refine callsV_at Try.func10 (by kernel_rfl) ?_
  have hB := hl.1
  refine Q_seq ?_
  let z1 : List (Nat × AV) := [(0, marksV l), (2, .int .i64 0)]
  refine Q_run [0, 2, 3, 5, 9, 24, 25, 26, 27, 28, 33, 42] (stOf 44 z1 []) ?_
  refine k_then ?_
  refine Q_seq ?_
  refine Q_seq ?_
  refine Q_run [0, 2, 3, 5, 9, 24, 25, 26, 27, 28, 33, 42] (stOf 44 (z1 ++ [(3, .int .i64 1)]) []) ?_
  refine k_then ?_
  refine q_block (by kernel_rfl) ?_
  refine q_loopd (by kernel_rfl) [0, 2, 3] l.length (fun n' s' => ∃ k : Nat, n' = l.length - k ∧ k ≤ l.length ∧ ordL l = ordL (l.drop k) ∧ s' = stOf 44 [(0, marksV l), (2, AV.int .i64 0), (3, AV.int .i64 ((k : Int) + 1))] []) ⟨0, rfl, by omega, rfl, by kernel_rfl⟩ ?_
  rintro n' _ ⟨k, rfl, hk, hE, rfl⟩
  rcases Nat.lt_or_ge (k + 1) l.length with hlt | hge
  · have hc : decide (((k : Int) + 1) < (l.length : Int)) = true := by rw [decide_eq_true_iff]; omega
    have hw : IntKind.i64.wrap (((k : Int) + 1) - 1) = (k : Int) := by rw [wrap_i64 (by omega) (by omega)]; omega
    have hd := marks_at l k (by omega)
    have hd1 : (flatA encM l).drop (((k : Int) + 1).toNat * 10) = _ := marks_at l (k + 1) hlt
    have hR := ordL_at hlt
    have hcm := cmp_lt (l.getD k mD).st (l.getD k mD).tk (l.getD (k + 1) mD).st (l.getD (k + 1) mD).tk
    refine Q_seq ?_
    refine Q_seq ?_
    refine Q_run [0, 2, 3, 5, 9, 24, 25, 26, 27, 28, 33, 42] (stOf 44 (z1 ++ [(3, .int .i64 ((↑k : Int) + (1 : Int))), (9, .bool (decide ((↑k : Int) + (1 : Int) < (↑l.length : Int))))]) []) ?_
    refine k_then ?_
    refine q_set 9 (AV.bool (decide ((↑k : Int) + (1 : Int) < (↑l.length : Int)))) (AV.bool true) (by kernel_rfl) (by rw [hc] <;> rfl) ?_
    refine q_yes (by kernel_rfl) true (by kernel_rfl) rfl ?_
    refine q_skip (by kernel_rfl) ?_
    refine k_then ?_
    refine Q_seq ?_
    refine q_block (by kernel_rfl) ?_
    refine Q_seq ?_
    refine q_draw (by kernel_rfl) (by kernel_rfl) ?_
    refine d_takes [0, 1, 2] (True) 10 #[true, true, true, false, false, false, false, false, false, false, false, false, false] (stOf 44 (z1 ++ [(3, .int .i64 ((↑k : Int) + (1 : Int))), (9, .bool true), (12, marksV l), (13, .int .i64 ((↑k : Int) + (1 : Int))), (14, .int .i64 (IntKind.i64.wrap ((↑k : Int) + (1 : Int) - (1 : Int))))]) []) (by kernel_rfl) (by kernel_rfl) (by kernel_rfl) trivial ?_
    refine d_set 14 (AV.int .i64 (IntKind.i64.wrap ((↑k : Int) + (1 : Int) - (1 : Int)))) (AV.int .i64 (↑k : Int)) (by kernel_rfl) (by rw [hw] <;> rfl) ?_
    refine d_takes [3] ((0 : Int) ≤ (↑k : Int) ∧ (↑k : Int) < (↑l.length : Int)) 9 #[true, true, true, true, false, false, false, false, false, false, false, false, false] (stOf 44 (z1 ++ [(3, .int .i64 ((↑k : Int) + (1 : Int))), (9, .bool true), (12, marksV l), (13, .int .i64 ((↑k : Int) + (1 : Int))), (14, .int .i64 (↑k : Int)), (15, .fptr (List.drop ((↑k : Int).toNat * 10) (flatA encM l)))]) []) (by kernel_rfl) (by kernel_rfl) (by kernel_rfl) (by exact ⟨by omega, by omega⟩) ?_
    refine d_set 15 (AV.fptr (List.drop ((↑k : Int).toNat * 10) (flatA encM l))) (AV.fptr (AV.str (l.getD k mD).st :: AV.str (l.getD k mD).tk :: AV.int .i64 (l.getD k mD).ver :: AV.bool (l.getD k mD).pend :: AV.int .i64 (l.getD k mD).kind :: AV.int .i64 (l.getD k mD).err :: AV.str (l.getD k mD).path :: AV.int .i64 (l.getD k mD).at' :: AV.int .i64 (l.getD k mD).score :: AV.slv (l.getD k mD).verd.length 1 (List.map (AV.int .i64) (l.getD k mD).verd) :: flatA encM (List.drop (k + 1) l))) (by kernel_rfl) (by rw [hd] <;> rfl) ?_
    refine d_takes [4, 5, 6, 7, 8] (2 ≤ (List.drop 0 (AV.str (l.getD k mD).st :: AV.str (l.getD k mD).tk :: AV.int .i64 (l.getD k mD).ver :: AV.bool (l.getD k mD).pend :: AV.int .i64 (l.getD k mD).kind :: AV.int .i64 (l.getD k mD).err :: AV.str (l.getD k mD).path :: AV.int .i64 (l.getD k mD).at' :: AV.int .i64 (l.getD k mD).score :: AV.slv (l.getD k mD).verd.length 1 (List.map (AV.int .i64) (l.getD k mD).verd) :: flatA encM (List.drop (k + 1) l))).length ∧ (0 : Int) ≤ (↑k : Int) + (1 : Int) ∧ (↑k : Int) + (1 : Int) < (↑l.length : Int)) 4 #[true, true, true, true, true, true, true, true, true, false, false, false, false] (stOf 44 (z1 ++ [(3, .int .i64 ((↑k : Int) + (1 : Int))), (9, .bool true), (12, marksV l), (13, .int .i64 ((↑k : Int) + (1 : Int))), (14, .int .i64 (↑k : Int)), (15, .fptr (encM (l.getD k mD) ++ flatA encM (List.drop (k + 1) l))), (16, .fptr (encM (l.getD k mD) ++ flatA encM (List.drop (k + 1) l))), (17, .agg [.str (l.getD k mD).st, .str (l.getD k mD).tk]), (18, marksV l), (19, .int .i64 ((↑k : Int) + (1 : Int))), (20, .fptr (List.drop (((↑k : Int) + (1 : Int)).toNat * 10) (flatA encM l)))]) []) (by kernel_rfl) (by kernel_rfl) (by kernel_rfl) (by exact ⟨by exact Nat.le_of_ble_eq_true (by kernel_rfl), by omega, by omega⟩) ?_
    refine d_set 20 (AV.fptr (List.drop (((↑k : Int) + (1 : Int)).toNat * 10) (flatA encM l))) (AV.fptr (AV.str (l.getD (k + 1) mD).st :: AV.str (l.getD (k + 1) mD).tk :: AV.int .i64 (l.getD (k + 1) mD).ver :: AV.bool (l.getD (k + 1) mD).pend :: AV.int .i64 (l.getD (k + 1) mD).kind :: AV.int .i64 (l.getD (k + 1) mD).err :: AV.str (l.getD (k + 1) mD).path :: AV.int .i64 (l.getD (k + 1) mD).at' :: AV.int .i64 (l.getD (k + 1) mD).score :: AV.slv (l.getD (k + 1) mD).verd.length 1 (List.map (AV.int .i64) (l.getD (k + 1) mD).verd) :: flatA encM (List.drop (k + 1 + 1) l))) (by kernel_rfl) (by rw [hd1] <;> rfl) ?_
    refine d_takes [9, 10] (2 ≤ (List.drop 0 (AV.str (l.getD (k + 1) mD).st :: AV.str (l.getD (k + 1) mD).tk :: AV.int .i64 (l.getD (k + 1) mD).ver :: AV.bool (l.getD (k + 1) mD).pend :: AV.int .i64 (l.getD (k + 1) mD).kind :: AV.int .i64 (l.getD (k + 1) mD).err :: AV.str (l.getD (k + 1) mD).path :: AV.int .i64 (l.getD (k + 1) mD).at' :: AV.int .i64 (l.getD (k + 1) mD).score :: AV.slv (l.getD (k + 1) mD).verd.length 1 (List.map (AV.int .i64) (l.getD (k + 1) mD).verd) :: flatA encM (List.drop (k + 1 + 1) l))).length) 2 #[true, true, true, true, true, true, true, true, true, true, true, false, false] (stOf 44 (z1 ++ [(3, .int .i64 ((↑k : Int) + (1 : Int))), (9, .bool true), (12, marksV l), (13, .int .i64 ((↑k : Int) + (1 : Int))), (14, .int .i64 (↑k : Int)), (15, .fptr (encM (l.getD k mD) ++ flatA encM (List.drop (k + 1) l))), (16, .fptr (encM (l.getD k mD) ++ flatA encM (List.drop (k + 1) l))), (17, .agg [.str (l.getD k mD).st, .str (l.getD k mD).tk]), (18, marksV l), (19, .int .i64 ((↑k : Int) + (1 : Int))), (20, .fptr (encM (l.getD (k + 1) mD) ++ flatA encM (List.drop (k + 1 + 1) l))), (21, .fptr (encM (l.getD (k + 1) mD) ++ flatA encM (List.drop (k + 1 + 1) l))), (22, .agg [.str (l.getD (k + 1) mD).st, .str (l.getD (k + 1) mD).tk])]) []) (by kernel_rfl) (by kernel_rfl) (by kernel_rfl) (by exact by exact Nat.le_of_ble_eq_true (by kernel_rfl)) ?_
    refine d_callp 11 27 [AV.agg [AV.str (l.getD k mD).st, AV.str (l.getD k mD).tk], AV.agg [AV.str (l.getD (k + 1) mD).st, AV.str (l.getD (k + 1) mD).tk]] (AV.int .i64 (orI (cmpS (l.getD k mD).tk (l.getD (k + 1) mD).tk) (cmpS (l.getD k mD).st (l.getD (k + 1) mD).st))) 1 #[true, true, true, true, true, true, true, true, true, true, true, true, false] (stOf 44 (z1 ++ [(3, .int .i64 ((↑k : Int) + (1 : Int))), (9, .bool true), (12, marksV l), (13, .int .i64 ((↑k : Int) + (1 : Int))), (14, .int .i64 (↑k : Int)), (15, .fptr (encM (l.getD k mD) ++ flatA encM (List.drop (k + 1) l))), (16, .fptr (encM (l.getD k mD) ++ flatA encM (List.drop (k + 1) l))), (17, .agg [.str (l.getD k mD).st, .str (l.getD k mD).tk]), (18, marksV l), (19, .int .i64 ((↑k : Int) + (1 : Int))), (20, .fptr (encM (l.getD (k + 1) mD) ++ flatA encM (List.drop (k + 1 + 1) l))), (21, .fptr (encM (l.getD (k + 1) mD) ++ flatA encM (List.drop (k + 1 + 1) l))), (22, .agg [.str (l.getD (k + 1) mD).st, .str (l.getD (k + 1) mD).tk]), (23, .int .i64 (orI (cmpS (l.getD k mD).tk (l.getD (k + 1) mD).tk) (cmpS (l.getD k mD).st (l.getD (k + 1) mD).st)))]) []) (by kernel_rfl) (by kernel_rfl) (by kernel_rfl) (by kernel_rfl) (by kernel_rfl) (by kernel_rfl) (by kernel_rfl) (compare_v (l.getD k mD).st (l.getD k mD).tk (l.getD (k + 1) mD).st (l.getD (k + 1) mD).tk ) ?_
    refine d_takes [12] (True) 0 #[true, true, true, true, true, true, true, true, true, true, true, true, true] (stOf 44 (z1 ++ [(3, .int .i64 ((↑k : Int) + (1 : Int))), (9, .bool true), (12, marksV l), (13, .int .i64 ((↑k : Int) + (1 : Int))), (14, .int .i64 (↑k : Int)), (15, .fptr (encM (l.getD k mD) ++ flatA encM (List.drop (k + 1) l))), (16, .fptr (encM (l.getD k mD) ++ flatA encM (List.drop (k + 1) l))), (17, .agg [.str (l.getD k mD).st, .str (l.getD k mD).tk]), (18, marksV l), (19, .int .i64 ((↑k : Int) + (1 : Int))), (20, .fptr (encM (l.getD (k + 1) mD) ++ flatA encM (List.drop (k + 1 + 1) l))), (21, .fptr (encM (l.getD (k + 1) mD) ++ flatA encM (List.drop (k + 1 + 1) l))), (22, .agg [.str (l.getD (k + 1) mD).st, .str (l.getD (k + 1) mD).tk]), (23, .int .i64 (orI (cmpS (l.getD k mD).tk (l.getD (k + 1) mD).tk) (cmpS (l.getD k mD).st (l.getD (k + 1) mD).st))), (24, .bool (decide (orI (cmpS (l.getD k mD).tk (l.getD (k + 1) mD).tk) (cmpS (l.getD k mD).st (l.getD (k + 1) mD).st) ≥ (0 : Int))))]) []) (by kernel_rfl) (by kernel_rfl) (by kernel_rfl) trivial ?_
    refine d_set 24 (AV.bool (decide (orI (cmpS (l.getD k mD).tk (l.getD (k + 1) mD).tk) (cmpS (l.getD k mD).st (l.getD (k + 1) mD).st) ≥ (0 : Int)))) (AV.bool !befP (l.getD k mD).st (l.getD k mD).tk (l.getD (k + 1) mD).st (l.getD (k + 1) mD).tk) (by kernel_rfl) (by rw [hcm] <;> rfl) ?_
    refine d_done [0, 2, 3, 5, 9, 24, 25, 26, 27, 28, 33, 42] (stOf 44 (z1 ++ [(3, .int .i64 ((↑k : Int) + (1 : Int))), (9, .bool true), (24, .bool !befP (l.getD k mD).st (l.getD k mD).tk (l.getD (k + 1) mD).st (l.getD (k + 1) mD).tk)]) []) (by kernel_rfl) (by kernel_rfl) ?_
    refine k_then ?_
    refine q_cond (by kernel_rfl) (!befP (l.getD k mD).st (l.getD k mD).tk (l.getD (k + 1) mD).st (l.getD (k + 1) mD).tk) (by kernel_rfl) (fun h1 => ?_) (fun h1 => ?_)
    · skip
      refine Q_seq ?_
      refine Q_run [0, 2, 3, 5, 9, 24, 25, 26, 27, 28, 33, 42] (stOf 44 [(0, marksV l), (2, .int .i64 9), (3, .int .i64 ((↑k : Int) + (1 : Int))), (9, .bool true), (24, .bool !befP (l.getD k mD).st (l.getD k mD).tk (l.getD (k + 1) mD).st (l.getD (k + 1) mD).tk)] []) ?_
      refine k_then ?_
      refine q_ret (by kernel_rfl) ?_
      refine k_blockr ?_
      refine k_thenr ?_
      refine k_loopr ?_
      refine k_blockr ?_
      refine k_thenr ?_
      refine k_fin (True) (AV.int .i64 9) [] [] (AV.int .i64 9) (by kernel_rfl) (by kernel_rfl) (by kernel_rfl) trivial (keep_nil _) ?_
      have hb : befM (l.getD k mD) (l.getD (k + 1) mD) = false := by simpa using h1
      exact ⟨by rw [chkL, hE, hR, hb]; rfl, rfl⟩
    · skip
      refine q_skip (by kernel_rfl) ?_
      refine k_block ?_
      refine k_then ?_
      refine Q_reg ?_
      refine N_run 2 (True) [2] (stOf 44 (z1 ++ [(3, .int .i64 ((↑k : Int) + (1 : Int))), (9, .bool true), (10, .int .i64 ((↑k : Int) + (1 : Int))), (11, .int .i64 (IntKind.i64.wrap ((↑k : Int) + (1 : Int) + (1 : Int)))), (24, .bool !befP (l.getD k mD).st (l.getD k mD).tk (l.getD (k + 1) mD).st (l.getD (k + 1) mD).tk)]) []) trivial ?_
      refine n_set 11 (AV.int .i64 (IntKind.i64.wrap ((↑k : Int) + (1 : Int) + (1 : Int)))) (AV.int .i64 ((↑k : Int) + (1 : Int) + (1 : Int))) (by kernel_rfl) (by rw [wrap_i64 (e := (↑k : Int) + (1 : Int) + (1 : Int)) (by omega) (by omega)]) ?_
      refine N_run 1 (True) [] (stOf 44 (z1 ++ [(3, .int .i64 ((↑k : Int) + (1 : Int) + (1 : Int))), (9, .bool true), (10, .int .i64 ((↑k : Int) + (1 : Int))), (11, .int .i64 ((↑k : Int) + (1 : Int) + (1 : Int))), (24, .bool !befP (l.getD k mD).st (l.getD k mD).tk (l.getD (k + 1) mD).st (l.getD (k + 1) mD).tk)]) []) trivial ?_
      refine N_sel [0, 2, 3, 5, 9, 24, 25, 26, 27, 28, 33, 42] (stOf 44 (z1 ++ [(3, .int .i64 ((↑k : Int) + (1 : Int) + (1 : Int))), (9, .bool true), (24, .bool !befP (l.getD k mD).st (l.getD k mD).tk (l.getD (k + 1) mD).st (l.getD (k + 1) mD).tk)]) []) ?_
      have hb : befM (l.getD k mD) (l.getD (k + 1) mD) = true := by simpa using h1
      refine k_loopd (l.length - (k + 1)) (by omega) ⟨k + 1, rfl, by omega, by rw [hE, hR, hb]; rfl, by kernel_rfl⟩
  · have hc : decide (((k : Int) + 1) < (l.length : Int)) = false := by rw [decide_eq_false_iff_not]; omega
    have hO : ordL l = true := hE.trans (ordL_end (l := l) (k := k) hge)
    clear hE
    refine Q_seq ?_
    refine Q_seq ?_
    refine Q_run [0, 2, 3, 5, 9, 24, 25, 26, 27, 28, 33, 42] (stOf 44 (z1 ++ [(3, .int .i64 ((↑k : Int) + (1 : Int))), (9, .bool (decide ((↑k : Int) + (1 : Int) < (↑l.length : Int))))]) []) ?_
    refine k_then ?_
    refine q_set 9 (AV.bool (decide ((↑k : Int) + (1 : Int) < (↑l.length : Int)))) (AV.bool false) (by kernel_rfl) (by rw [hc] <;> rfl) ?_
    refine q_no (by kernel_rfl) false (by kernel_rfl) rfl ?_
    refine q_exit (by kernel_rfl) 0 (by kernel_rfl) ?_
    refine k_thenx ?_
    refine k_loopx ?_
    refine k_blockx (by kernel_rfl) ?_
    refine k_then ?_
    refine Q_seq ?_
    refine Q_seq ?_
    refine Q_run [0, 2, 3, 5, 9, 24, 25, 26, 27, 28, 33, 42] (stOf 44 (z1 ++ [(3, .int .i64 ((↑k : Int) + (1 : Int))), (9, .bool false), (25, marksV l), (26, .int .i64 (↑l.length : Int)), (27, .int .i64 0)]) []) ?_
    refine k_then ?_
    refine q_block (by kernel_rfl) ?_
    refine q_loopd (by kernel_rfl) [0, 2, 25, 26, 27] l.length (fun n' s' => ∃ j : Nat, n' = l.length - j ∧ j ≤ l.length ∧ badL l = badL (l.drop j) ∧ s' = stOf 44 [(0, marksV l), (2, AV.int .i64 0), (25, marksV l), (26, AV.int .i64 (l.length : Int)), (27, AV.int .i64 (j : Int))] []) ⟨0, rfl, by omega, rfl, by kernel_rfl⟩ ?_
    rintro n' _ ⟨j, rfl, hj, hF, rfl⟩
    rcases Nat.lt_or_ge j l.length with hlt | hge2
    · have hc : decide ((j : Int) < (l.length : Int)) = true := by rw [decide_eq_true_iff]; omega
      have hd := marks_at l j hlt
      have hR := badL_at hlt
      have hm := okM_at hl hlt
      refine Q_seq ?_
      refine Q_run [0, 2, 3, 5, 9, 24, 25, 26, 27, 28, 33, 42] (stOf 44 (z1 ++ [(25, marksV l), (26, .int .i64 (↑l.length : Int)), (27, .int .i64 (↑j : Int)), (28, .bool (decide ((↑j : Int) < (↑l.length : Int))))]) []) ?_
      refine k_then ?_
      refine q_set 28 (AV.bool (decide ((↑j : Int) < (↑l.length : Int)))) (AV.bool true) (by kernel_rfl) (by rw [hc] <;> rfl) ?_
      refine Q_seq ?_
      refine q_yes (by kernel_rfl) true (by kernel_rfl) rfl ?_
      refine q_skip (by kernel_rfl) ?_
      refine k_then ?_
      refine Q_seq ?_
      refine q_block (by kernel_rfl) ?_
      refine Q_seq ?_
      refine Q_reg ?_
      refine N_run 1 ((0 : Int) ≤ (↑j : Int) ∧ (↑j : Int) < (↑l.length : Int)) [1, 2, 3] (stOf 44 (z1 ++ [(25, marksV l), (26, .int .i64 (↑l.length : Int)), (27, .int .i64 (↑j : Int)), (28, .bool true), (29, .fptr (List.drop ((↑j : Int).toNat * 10) (flatA encM l)))]) []) (by exact ⟨by omega, by omega⟩) ?_
      refine n_set 29 (AV.fptr (List.drop ((↑j : Int).toNat * 10) (flatA encM l))) (AV.fptr (AV.str (l.getD j mD).st :: AV.str (l.getD j mD).tk :: AV.int .i64 (l.getD j mD).ver :: AV.bool (l.getD j mD).pend :: AV.int .i64 (l.getD j mD).kind :: AV.int .i64 (l.getD j mD).err :: AV.str (l.getD j mD).path :: AV.int .i64 (l.getD j mD).at' :: AV.int .i64 (l.getD j mD).score :: AV.slv (l.getD j mD).verd.length 1 (List.map (AV.int .i64) (l.getD j mD).verd) :: flatA encM (List.drop (j + 1) l))) (by kernel_rfl) (by rw [hd] <;> rfl) ?_
      refine N_run 1 (10 ≤ (AV.str (l.getD j mD).st :: AV.str (l.getD j mD).tk :: AV.int .i64 (l.getD j mD).ver :: AV.bool (l.getD j mD).pend :: AV.int .i64 (l.getD j mD).kind :: AV.int .i64 (l.getD j mD).err :: AV.str (l.getD j mD).path :: AV.int .i64 (l.getD j mD).at' :: AV.int .i64 (l.getD j mD).score :: AV.slv (l.getD j mD).verd.length 1 (List.map (AV.int .i64) (l.getD j mD).verd) :: flatA encM (List.drop (j + 1) l)).length) [2, 3] (stOf 44 (z1 ++ [(25, marksV l), (26, .int .i64 (↑l.length : Int)), (27, .int .i64 (↑j : Int)), (28, .bool true), (29, .fptr (encM (l.getD j mD) ++ flatA encM (List.drop (j + 1) l))), (30, .agg (encM (l.getD j mD)))]) []) (by exact by exact Nat.le_of_ble_eq_true (by kernel_rfl)) ?_
      refine N_run 2 (10 ≤ 10) [] (stOf 44 (z1 ++ [(5, .ptr 0 0), (25, marksV l), (26, .int .i64 (↑l.length : Int)), (27, .int .i64 (↑j : Int)), (28, .bool true), (29, .fptr (encM (l.getD j mD) ++ flatA encM (List.drop (j + 1) l))), (30, .agg (encM (l.getD j mD)))]) [.row 38 (encM (l.getD j mD))]) (by exact by omega) ?_
      refine N_sel [0, 2, 3, 5, 9, 24, 25, 26, 27, 28, 33, 42] (stOf 44 (z1 ++ [(5, .ptr 0 0), (25, marksV l), (26, .int .i64 (↑l.length : Int)), (27, .int .i64 (↑j : Int)), (28, .bool true)]) [.row 38 (encM (l.getD j mD))]) ?_
      refine k_then ?_
      refine Q_seq ?_
      refine Q_seq ?_
      refine Q_reg ?_
      refine N_run 2 (1 ≤ 8) [2] (stOf 44 (z1 ++ [(5, .ptr 0 0), (25, marksV l), (26, .int .i64 (↑l.length : Int)), (27, .int .i64 (↑j : Int)), (28, .bool true), (31, .ptr 0 2), (32, .int .i64 (l.getD j mD).ver)]) [.row 38 (encM (l.getD j mD))]) (by exact by omega) ?_
      refine N_run 1 (True) [] (stOf 44 (z1 ++ [(5, .ptr 0 0), (25, marksV l), (26, .int .i64 (↑l.length : Int)), (27, .int .i64 (↑j : Int)), (28, .bool true), (31, .ptr 0 2), (32, .int .i64 (l.getD j mD).ver), (33, .bool (decide ((l.getD j mD).ver < (1 : Int))))]) [.row 38 (encM (l.getD j mD))]) trivial ?_
      refine N_sel [0, 2, 3, 5, 9, 24, 25, 26, 27, 28, 33, 42] (stOf 44 (z1 ++ [(5, .ptr 0 0), (25, marksV l), (26, .int .i64 (↑l.length : Int)), (27, .int .i64 (↑j : Int)), (28, .bool true), (33, .bool (decide ((l.getD j mD).ver < (1 : Int))))]) [.row 38 (encM (l.getD j mD))]) ?_
      refine k_then ?_
      refine q_cond (by kernel_rfl) (decide ((l.getD j mD).ver < (1 : Int))) (by kernel_rfl) (fun h1 => ?_) (fun h1 => ?_)
      · (have g1 := of_decide_eq_true h1)
        refine Q_seq ?_
        refine Q_run [0, 2, 3, 5, 9, 24, 25, 26, 27, 28, 33, 42] (stOf 44 [(0, marksV l), (2, .int .i64 1), (5, .ptr 0 0), (25, marksV l), (26, .int .i64 (↑l.length : Int)), (27, .int .i64 (↑j : Int)), (28, .bool true), (33, .bool (decide ((l.getD j mD).ver < (1 : Int))))] [.row 38 (encM (l.getD j mD))]) ?_
        refine k_then ?_
        refine q_ret (by kernel_rfl) ?_
        refine k_thenr ?_
        refine k_blockr ?_
        refine k_thenr ?_
        refine k_loopr ?_
        refine k_blockr ?_
        refine k_thenr ?_
        refine k_fin (True) (AV.int .i64 1) [] [] (AV.int .i64 1) (by kernel_rfl) (by kernel_rfl) (by kernel_rfl) trivial (keep_nil _) ?_
        have e1 : decide ((l.getD j mD).ver < 1) = true := by assumption
        exact ⟨by rw [chkL, hO, hF, hR, e1]; rfl, rfl⟩
      · (have g1 := of_decide_eq_false h1)
        refine q_skip (by kernel_rfl) ?_
        refine k_then ?_
        refine Q_seq ?_
        refine Q_reg ?_
        refine N_run 2 (1 ≤ 7) [2, 3, 4, 5, 6, 7, 8] (stOf 44 (z1 ++ [(5, .ptr 0 0), (25, marksV l), (26, .int .i64 (↑l.length : Int)), (27, .int .i64 (↑j : Int)), (28, .bool true), (33, .bool (decide ((l.getD j mD).ver < (1 : Int)))), (34, .ptr 0 3), (35, .bool (l.getD j mD).pend)]) [.row 38 (encM (l.getD j mD))]) (by exact by omega) ?_
        refine N_run 3 ((((l.getD j mD).pend == true) = true → ((l.getD j mD).pend == true) = true) ∧ (((l.getD j mD).pend == true) = true → 6 ≤ 6)) [5, 6, 7, 8] (stOf 44 (z1 ++ [(5, .ptr 0 0), (25, marksV l), (26, .int .i64 (↑l.length : Int)), (27, .int .i64 (↑j : Int)), (28, .bool true), (33, .bool (decide ((l.getD j mD).ver < (1 : Int)))), (34, .ptr 0 3), (35, .bool (l.getD j mD).pend), (36, .bool (l.getD j mD).pend), (37, .cnd ((l.getD j mD).pend == true) (.ptr 0 4)), (38, .cnd ((l.getD j mD).pend == true) (.agg [.int .i64 (l.getD j mD).kind, .int .i64 (l.getD j mD).err, .str (l.getD j mD).path, .int .i64 (l.getD j mD).at', .int .i64 (l.getD j mD).score, .slv (l.getD j mD).verd.length 1 (List.map (.int .i64) (l.getD j mD).verd)]))]) [.row 38 (encM (l.getD j mD))]) (by exact ⟨fun h => h, by omega⟩) ?_
        refine N_run 1 (True) [6, 7, 8] (stOf 44 (z1 ++ [(5, .ptr 0 0), (25, marksV l), (26, .int .i64 (↑l.length : Int)), (27, .int .i64 (↑j : Int)), (28, .bool true), (33, .bool (decide ((l.getD j mD).ver < (1 : Int)))), (34, .ptr 0 3), (35, .bool (l.getD j mD).pend), (36, .bool (l.getD j mD).pend), (37, .cnd ((l.getD j mD).pend == true) (.ptr 0 4)), (38, .cnd ((l.getD j mD).pend == true) (.agg [.int .i64 (l.getD j mD).kind, .int .i64 (l.getD j mD).err, .str (l.getD j mD).path, .int .i64 (l.getD j mD).at', .int .i64 (l.getD j mD).score, .slv (l.getD j mD).verd.length 1 (List.map (.int .i64) (l.getD j mD).verd)])), (39, .cnd ((l.getD j mD).pend == true) (.agg [.int .i64 0, .int .i64 0, .str (ByteArray.mk #[]), .int .i64 0, .int .i64 0, .nilsl]))]) [.row 38 (encM (l.getD j mD))]) trivial ?_
        refine n_callg 28 [AV.agg [AV.int .i64 (l.getD j mD).kind, AV.int .i64 (l.getD j mD).err, AV.str (l.getD j mD).path, AV.int .i64 (l.getD j mD).at', AV.int .i64 (l.getD j mD).score, AV.slv (l.getD j mD).verd.length 1 (List.map (AV.int .i64) (l.getD j mD).verd)], AV.agg [AV.int .i64 0, AV.int .i64 0, AV.str (ByteArray.mk #[]), AV.int .i64 0, AV.int .i64 0, AV.nilsl]] (AV.bool (isZ (l.getD j mD))) ((l.getD j mD).pend == true) (stOf 44 (z1 ++ [(5, .ptr 0 0), (25, marksV l), (26, .int .i64 (↑l.length : Int)), (27, .int .i64 (↑j : Int)), (28, .bool true), (33, .bool (decide ((l.getD j mD).ver < (1 : Int)))), (34, .ptr 0 3), (35, .bool (l.getD j mD).pend), (36, .bool (l.getD j mD).pend), (37, .cnd ((l.getD j mD).pend == true) (.ptr 0 4)), (38, .cnd ((l.getD j mD).pend == true) (.agg [.int .i64 (l.getD j mD).kind, .int .i64 (l.getD j mD).err, .str (l.getD j mD).path, .int .i64 (l.getD j mD).at', .int .i64 (l.getD j mD).score, .slv (l.getD j mD).verd.length 1 (List.map (.int .i64) (l.getD j mD).verd)])), (39, .cnd ((l.getD j mD).pend == true) (.agg [.int .i64 0, .int .i64 0, .str (ByteArray.mk #[]), .int .i64 0, .int .i64 0, .nilsl])), (40, .cnd ((l.getD j mD).pend == true) (.bool (isZ (l.getD j mD))))]) [.row 38 (encM (l.getD j mD))]) (by kernel_rfl) (by kernel_rfl) (by kernel_rfl) (by kernel_rfl) (by kernel_rfl) (((l.getD j mD).pend == true) = true ∧ ((l.getD j mD).pend == true) = true) (by kernel_rfl) (by first | exact fun h => h | (intro h; simp_all; done)) (fun hg => (same0_v (l.getD j mD) hm )) ?_
        refine N_run 2 ((((l.getD j mD).pend == true) = true → ((l.getD j mD).pend == true) = true) ∧ ((l.getD j mD).pend = true → ((l.getD j mD).pend == true) = true)) [] (stOf 44 (z1 ++ [(5, .ptr 0 0), (25, marksV l), (26, .int .i64 (↑l.length : Int)), (27, .int .i64 (↑j : Int)), (28, .bool true), (33, .bool (decide ((l.getD j mD).ver < (1 : Int)))), (34, .ptr 0 3), (35, .bool (l.getD j mD).pend), (36, .bool (l.getD j mD).pend), (37, .cnd ((l.getD j mD).pend == true) (.ptr 0 4)), (38, .cnd ((l.getD j mD).pend == true) (.agg [.int .i64 (l.getD j mD).kind, .int .i64 (l.getD j mD).err, .str (l.getD j mD).path, .int .i64 (l.getD j mD).at', .int .i64 (l.getD j mD).score, .slv (l.getD j mD).verd.length 1 (List.map (.int .i64) (l.getD j mD).verd)])), (39, .cnd ((l.getD j mD).pend == true) (.agg [.int .i64 0, .int .i64 0, .str (ByteArray.mk #[]), .int .i64 0, .int .i64 0, .nilsl])), (40, .cnd ((l.getD j mD).pend == true) (.bool (isZ (l.getD j mD)))), (41, .cnd ((l.getD j mD).pend == true) (.bool !isZ (l.getD j mD))), (42, .bool (bif (l.getD j mD).pend then !isZ (l.getD j mD) else false))]) [.row 38 (encM (l.getD j mD))]) (by exact ⟨fun h => h, by (simp; done)⟩) ?_
        refine N_sel [0, 2, 3, 5, 9, 24, 25, 26, 27, 28, 33, 42] (stOf 44 (z1 ++ [(5, .ptr 0 0), (25, marksV l), (26, .int .i64 (↑l.length : Int)), (27, .int .i64 (↑j : Int)), (28, .bool true), (33, .bool (decide ((l.getD j mD).ver < (1 : Int)))), (42, .bool (bif (l.getD j mD).pend then !isZ (l.getD j mD) else false))]) [.row 38 (encM (l.getD j mD))]) ?_
        refine k_then ?_
        refine q_cond (by kernel_rfl) (bif (l.getD j mD).pend then !isZ (l.getD j mD) else false) (by kernel_rfl) (fun h2 => ?_) (fun h2 => ?_)
        · skip
          refine Q_seq ?_
          refine Q_run [0, 2, 3, 5, 9, 24, 25, 26, 27, 28, 33, 42] (stOf 44 [(0, marksV l), (2, .int .i64 29), (5, .ptr 0 0), (25, marksV l), (26, .int .i64 (↑l.length : Int)), (27, .int .i64 (↑j : Int)), (28, .bool true), (33, .bool (decide ((l.getD j mD).ver < (1 : Int)))), (42, .bool (bif (l.getD j mD).pend then !isZ (l.getD j mD) else false))] [.row 38 (encM (l.getD j mD))]) ?_
          refine k_then ?_
          refine q_ret (by kernel_rfl) ?_
          refine k_blockr ?_
          refine k_thenr ?_
          refine k_loopr ?_
          refine k_blockr ?_
          refine k_thenr ?_
          refine k_fin (True) (AV.int .i64 29) [] [] (AV.int .i64 29) (by kernel_rfl) (by kernel_rfl) (by kernel_rfl) trivial (keep_nil _) ?_
          have e1 : decide ((l.getD j mD).ver < 1) = false := by assumption
          have e2 : (bif (l.getD j mD).pend then !isZ (l.getD j mD) else false) = true := by assumption
          exact ⟨by rw [chkL, hO, hF, hR, e1, e2]; rfl, rfl⟩
        · skip
          refine q_skip (by kernel_rfl) ?_
          refine k_block ?_
          refine k_then ?_
          refine Q_reg ?_
          refine N_run 1 (True) [1] (stOf 44 (z1 ++ [(5, .ptr 0 0), (25, marksV l), (26, .int .i64 (↑l.length : Int)), (27, .int .i64 (↑j : Int)), (28, .bool true), (33, .bool (decide ((l.getD j mD).ver < (1 : Int)))), (42, .bool (bif (l.getD j mD).pend then !isZ (l.getD j mD) else false)), (43, .int .i64 (IntKind.i64.wrap ((↑j : Int) + (1 : Int))))]) [.row 38 (encM (l.getD j mD))]) trivial ?_
          refine n_set 43 (AV.int .i64 (IntKind.i64.wrap ((↑j : Int) + (1 : Int)))) (AV.int .i64 ((↑j : Int) + (1 : Int))) (by kernel_rfl) (by rw [wrap_i64 (e := (↑j : Int) + (1 : Int)) (by omega) (by omega)]) ?_
          refine N_run 1 (True) [] (stOf 44 (z1 ++ [(5, .ptr 0 0), (25, marksV l), (26, .int .i64 (↑l.length : Int)), (27, .int .i64 ((↑j : Int) + (1 : Int))), (28, .bool true), (33, .bool (decide ((l.getD j mD).ver < (1 : Int)))), (42, .bool (bif (l.getD j mD).pend then !isZ (l.getD j mD) else false)), (43, .int .i64 ((↑j : Int) + (1 : Int)))]) [.row 38 (encM (l.getD j mD))]) trivial ?_
          refine N_sel [0, 2, 3, 5, 9, 24, 25, 26, 27, 28, 33, 42] (stOf 44 (z1 ++ [(5, .ptr 0 0), (25, marksV l), (26, .int .i64 (↑l.length : Int)), (27, .int .i64 ((↑j : Int) + (1 : Int))), (28, .bool true), (33, .bool (decide ((l.getD j mD).ver < (1 : Int)))), (42, .bool (bif (l.getD j mD).pend then !isZ (l.getD j mD) else false))]) [.row 38 (encM (l.getD j mD))]) ?_
          have e1 : decide ((l.getD j mD).ver < 1) = false := by assumption
          have e2 : (bif (l.getD j mD).pend then !isZ (l.getD j mD) else false) = false := by assumption
          refine k_loopd (l.length - (j + 1)) (by omega) ⟨j + 1, rfl, by omega, by rw [hF, hR, e1, e2]; rfl, by kernel_rfl⟩
    · have hc : decide ((j : Int) < (l.length : Int)) = false := by rw [decide_eq_false_iff_not]; omega
      refine Q_seq ?_
      refine Q_run [0, 2, 3, 5, 9, 24, 25, 26, 27, 28, 33, 42] (stOf 44 (z1 ++ [(25, marksV l), (26, .int .i64 (↑l.length : Int)), (27, .int .i64 (↑j : Int)), (28, .bool (decide ((↑j : Int) < (↑l.length : Int))))]) []) ?_
      refine k_then ?_
      refine q_set 28 (AV.bool (decide ((↑j : Int) < (↑l.length : Int)))) (AV.bool false) (by kernel_rfl) (by rw [hc] <;> rfl) ?_
      refine Q_seq ?_
      refine q_no (by kernel_rfl) false (by kernel_rfl) rfl ?_
      refine q_exit (by kernel_rfl) 2 (by kernel_rfl) ?_
      refine k_thenx ?_
      refine k_loopx ?_
      refine k_blockx (by kernel_rfl) ?_
      refine k_then ?_
      refine Q_seq ?_
      refine Q_run [0, 2, 3, 5, 9, 24, 25, 26, 27, 28, 33, 42] (stOf 44 (z1 ++ [(25, marksV l), (26, .int .i64 (↑l.length : Int)), (27, .int .i64 (↑j : Int)), (28, .bool false)]) []) ?_
      refine k_then ?_
      refine q_ret (by kernel_rfl) ?_
      refine k_fin (True) (AV.int .i64 0) [] [] (AV.int .i64 0) (by kernel_rfl) (by kernel_rfl) (by kernel_rfl) trivial (keep_nil _) ?_
      exact ⟨by rw [chkL, hO, hF, badL_end hge2]; rfl, rfl⟩
theorem refCheck_v (l : List Mk) (hl : OkL l) : CallsV Try.prog 22 [marksV l] [] (fun av H' => av = .int .i64 (chkL l) ∧ H' = []) := by
  refine callsV_at Try.func22 (by kernel_rfl) ?_
  have hB := hl.1
  refine Q_seq ?_
  let z2 : List (Nat × AV) := [(0, marksV l), (2, .int .i64 0)]
  refine Q_run [0, 2, 3, 4, 8, 23, 27, 35, 50] (stOf 51 z2 []) ?_
  refine k_then ?_
  refine Q_seq ?_
  refine Q_seq ?_
  refine Q_run [0, 2, 3, 4, 8, 23, 27, 35, 50] (stOf 51 (z2 ++ [(3, .int .i64 1)]) []) ?_
  refine k_then ?_
  refine q_block (by kernel_rfl) ?_
  refine q_loopd (by kernel_rfl) [0, 2, 3] l.length (fun n' s' => ∃ k : Nat, n' = l.length - k ∧ k ≤ l.length ∧ ordL l = ordL (l.drop k) ∧ s' = stOf 51 [(0, marksV l), (2, AV.int .i64 0), (3, AV.int .i64 ((k : Int) + 1))] []) ⟨0, rfl, by omega, rfl, by kernel_rfl⟩ ?_
  rintro n' _ ⟨k, rfl, hk, hE, rfl⟩
  rcases Nat.lt_or_ge (k + 1) l.length with hlt | hge
  · have hc : decide (((k : Int) + 1) < (l.length : Int)) = true := by rw [decide_eq_true_iff]; omega
    have hw : IntKind.i64.wrap (((k : Int) + 1) - 1) = (k : Int) := by rw [wrap_i64 (by omega) (by omega)]; omega
    have hd := marks_at l k (by omega)
    have hd1 : (flatA encM l).drop (((k : Int) + 1).toNat * 10) = _ := marks_at l (k + 1) hlt
    have hR := ordL_at hlt
    refine Q_seq ?_
    refine Q_seq ?_
    refine Q_run [0, 2, 3, 4, 8, 23, 27, 35, 50] (stOf 51 (z2 ++ [(3, .int .i64 ((↑k : Int) + (1 : Int))), (8, .bool (decide ((↑k : Int) + (1 : Int) < (↑l.length : Int))))]) []) ?_
    refine k_then ?_
    refine q_set 8 (AV.bool (decide ((↑k : Int) + (1 : Int) < (↑l.length : Int)))) (AV.bool true) (by kernel_rfl) (by rw [hc] <;> rfl) ?_
    refine q_yes (by kernel_rfl) true (by kernel_rfl) rfl ?_
    refine q_skip (by kernel_rfl) ?_
    refine k_then ?_
    refine Q_seq ?_
    refine q_block (by kernel_rfl) ?_
    refine Q_seq ?_
    refine q_draw (by kernel_rfl) (by kernel_rfl) ?_
    refine d_takes [0, 1, 2] (True) 10 #[true, true, true, false, false, false, false, false, false, false, false, false, false] (stOf 51 (z2 ++ [(3, .int .i64 ((↑k : Int) + (1 : Int))), (8, .bool true), (11, marksV l), (12, .int .i64 ((↑k : Int) + (1 : Int))), (13, .int .i64 (IntKind.i64.wrap ((↑k : Int) + (1 : Int) - (1 : Int))))]) []) (by kernel_rfl) (by kernel_rfl) (by kernel_rfl) trivial ?_
    refine d_set 13 (AV.int .i64 (IntKind.i64.wrap ((↑k : Int) + (1 : Int) - (1 : Int)))) (AV.int .i64 (↑k : Int)) (by kernel_rfl) (by rw [hw] <;> rfl) ?_
    refine d_takes [3] ((0 : Int) ≤ (↑k : Int) ∧ (↑k : Int) < (↑l.length : Int)) 9 #[true, true, true, true, false, false, false, false, false, false, false, false, false] (stOf 51 (z2 ++ [(3, .int .i64 ((↑k : Int) + (1 : Int))), (8, .bool true), (11, marksV l), (12, .int .i64 ((↑k : Int) + (1 : Int))), (13, .int .i64 (↑k : Int)), (14, .fptr (List.drop ((↑k : Int).toNat * 10) (flatA encM l)))]) []) (by kernel_rfl) (by kernel_rfl) (by kernel_rfl) (by exact ⟨by omega, by omega⟩) ?_
    refine d_set 14 (AV.fptr (List.drop ((↑k : Int).toNat * 10) (flatA encM l))) (AV.fptr (AV.str (l.getD k mD).st :: AV.str (l.getD k mD).tk :: AV.int .i64 (l.getD k mD).ver :: AV.bool (l.getD k mD).pend :: AV.int .i64 (l.getD k mD).kind :: AV.int .i64 (l.getD k mD).err :: AV.str (l.getD k mD).path :: AV.int .i64 (l.getD k mD).at' :: AV.int .i64 (l.getD k mD).score :: AV.slv (l.getD k mD).verd.length 1 (List.map (AV.int .i64) (l.getD k mD).verd) :: flatA encM (List.drop (k + 1) l))) (by kernel_rfl) (by rw [hd] <;> rfl) ?_
    refine d_takes [4, 5, 6, 7, 8] (2 ≤ (List.drop 0 (AV.str (l.getD k mD).st :: AV.str (l.getD k mD).tk :: AV.int .i64 (l.getD k mD).ver :: AV.bool (l.getD k mD).pend :: AV.int .i64 (l.getD k mD).kind :: AV.int .i64 (l.getD k mD).err :: AV.str (l.getD k mD).path :: AV.int .i64 (l.getD k mD).at' :: AV.int .i64 (l.getD k mD).score :: AV.slv (l.getD k mD).verd.length 1 (List.map (AV.int .i64) (l.getD k mD).verd) :: flatA encM (List.drop (k + 1) l))).length ∧ (0 : Int) ≤ (↑k : Int) + (1 : Int) ∧ (↑k : Int) + (1 : Int) < (↑l.length : Int)) 4 #[true, true, true, true, true, true, true, true, true, false, false, false, false] (stOf 51 (z2 ++ [(3, .int .i64 ((↑k : Int) + (1 : Int))), (8, .bool true), (11, marksV l), (12, .int .i64 ((↑k : Int) + (1 : Int))), (13, .int .i64 (↑k : Int)), (14, .fptr (encM (l.getD k mD) ++ flatA encM (List.drop (k + 1) l))), (15, .fptr (encM (l.getD k mD) ++ flatA encM (List.drop (k + 1) l))), (16, .agg [.str (l.getD k mD).st, .str (l.getD k mD).tk]), (17, marksV l), (18, .int .i64 ((↑k : Int) + (1 : Int))), (19, .fptr (List.drop (((↑k : Int) + (1 : Int)).toNat * 10) (flatA encM l)))]) []) (by kernel_rfl) (by kernel_rfl) (by kernel_rfl) (by exact ⟨by exact Nat.le_of_ble_eq_true (by kernel_rfl), by omega, by omega⟩) ?_
    refine d_set 19 (AV.fptr (List.drop (((↑k : Int) + (1 : Int)).toNat * 10) (flatA encM l))) (AV.fptr (AV.str (l.getD (k + 1) mD).st :: AV.str (l.getD (k + 1) mD).tk :: AV.int .i64 (l.getD (k + 1) mD).ver :: AV.bool (l.getD (k + 1) mD).pend :: AV.int .i64 (l.getD (k + 1) mD).kind :: AV.int .i64 (l.getD (k + 1) mD).err :: AV.str (l.getD (k + 1) mD).path :: AV.int .i64 (l.getD (k + 1) mD).at' :: AV.int .i64 (l.getD (k + 1) mD).score :: AV.slv (l.getD (k + 1) mD).verd.length 1 (List.map (AV.int .i64) (l.getD (k + 1) mD).verd) :: flatA encM (List.drop (k + 1 + 1) l))) (by kernel_rfl) (by rw [hd1] <;> rfl) ?_
    refine d_takes [9, 10] (2 ≤ (List.drop 0 (AV.str (l.getD (k + 1) mD).st :: AV.str (l.getD (k + 1) mD).tk :: AV.int .i64 (l.getD (k + 1) mD).ver :: AV.bool (l.getD (k + 1) mD).pend :: AV.int .i64 (l.getD (k + 1) mD).kind :: AV.int .i64 (l.getD (k + 1) mD).err :: AV.str (l.getD (k + 1) mD).path :: AV.int .i64 (l.getD (k + 1) mD).at' :: AV.int .i64 (l.getD (k + 1) mD).score :: AV.slv (l.getD (k + 1) mD).verd.length 1 (List.map (AV.int .i64) (l.getD (k + 1) mD).verd) :: flatA encM (List.drop (k + 1 + 1) l))).length) 2 #[true, true, true, true, true, true, true, true, true, true, true, false, false] (stOf 51 (z2 ++ [(3, .int .i64 ((↑k : Int) + (1 : Int))), (8, .bool true), (11, marksV l), (12, .int .i64 ((↑k : Int) + (1 : Int))), (13, .int .i64 (↑k : Int)), (14, .fptr (encM (l.getD k mD) ++ flatA encM (List.drop (k + 1) l))), (15, .fptr (encM (l.getD k mD) ++ flatA encM (List.drop (k + 1) l))), (16, .agg [.str (l.getD k mD).st, .str (l.getD k mD).tk]), (17, marksV l), (18, .int .i64 ((↑k : Int) + (1 : Int))), (19, .fptr (encM (l.getD (k + 1) mD) ++ flatA encM (List.drop (k + 1 + 1) l))), (20, .fptr (encM (l.getD (k + 1) mD) ++ flatA encM (List.drop (k + 1 + 1) l))), (21, .agg [.str (l.getD (k + 1) mD).st, .str (l.getD (k + 1) mD).tk])]) []) (by kernel_rfl) (by kernel_rfl) (by kernel_rfl) (by exact by exact Nat.le_of_ble_eq_true (by kernel_rfl)) ?_
    refine d_callp 11 33 [AV.agg [AV.str (l.getD k mD).st, AV.str (l.getD k mD).tk], AV.agg [AV.str (l.getD (k + 1) mD).st, AV.str (l.getD (k + 1) mD).tk]] (AV.bool (befP (l.getD k mD).st (l.getD k mD).tk (l.getD (k + 1) mD).st (l.getD (k + 1) mD).tk)) 1 #[true, true, true, true, true, true, true, true, true, true, true, true, false] (stOf 51 (z2 ++ [(3, .int .i64 ((↑k : Int) + (1 : Int))), (8, .bool true), (11, marksV l), (12, .int .i64 ((↑k : Int) + (1 : Int))), (13, .int .i64 (↑k : Int)), (14, .fptr (encM (l.getD k mD) ++ flatA encM (List.drop (k + 1) l))), (15, .fptr (encM (l.getD k mD) ++ flatA encM (List.drop (k + 1) l))), (16, .agg [.str (l.getD k mD).st, .str (l.getD k mD).tk]), (17, marksV l), (18, .int .i64 ((↑k : Int) + (1 : Int))), (19, .fptr (encM (l.getD (k + 1) mD) ++ flatA encM (List.drop (k + 1 + 1) l))), (20, .fptr (encM (l.getD (k + 1) mD) ++ flatA encM (List.drop (k + 1 + 1) l))), (21, .agg [.str (l.getD (k + 1) mD).st, .str (l.getD (k + 1) mD).tk]), (22, .bool (befP (l.getD k mD).st (l.getD k mD).tk (l.getD (k + 1) mD).st (l.getD (k + 1) mD).tk))]) []) (by kernel_rfl) (by kernel_rfl) (by kernel_rfl) (by kernel_rfl) (by kernel_rfl) (by kernel_rfl) (by kernel_rfl) (before_v (l.getD k mD).st (l.getD k mD).tk (l.getD (k + 1) mD).st (l.getD (k + 1) mD).tk ) ?_
    refine d_takes [12] (True) 0 #[true, true, true, true, true, true, true, true, true, true, true, true, true] (stOf 51 (z2 ++ [(3, .int .i64 ((↑k : Int) + (1 : Int))), (8, .bool true), (11, marksV l), (12, .int .i64 ((↑k : Int) + (1 : Int))), (13, .int .i64 (↑k : Int)), (14, .fptr (encM (l.getD k mD) ++ flatA encM (List.drop (k + 1) l))), (15, .fptr (encM (l.getD k mD) ++ flatA encM (List.drop (k + 1) l))), (16, .agg [.str (l.getD k mD).st, .str (l.getD k mD).tk]), (17, marksV l), (18, .int .i64 ((↑k : Int) + (1 : Int))), (19, .fptr (encM (l.getD (k + 1) mD) ++ flatA encM (List.drop (k + 1 + 1) l))), (20, .fptr (encM (l.getD (k + 1) mD) ++ flatA encM (List.drop (k + 1 + 1) l))), (21, .agg [.str (l.getD (k + 1) mD).st, .str (l.getD (k + 1) mD).tk]), (22, .bool (befP (l.getD k mD).st (l.getD k mD).tk (l.getD (k + 1) mD).st (l.getD (k + 1) mD).tk)), (23, .bool !befP (l.getD k mD).st (l.getD k mD).tk (l.getD (k + 1) mD).st (l.getD (k + 1) mD).tk)]) []) (by kernel_rfl) (by kernel_rfl) (by kernel_rfl) trivial ?_
    refine d_done [0, 2, 3, 4, 8, 23, 27, 35, 50] (stOf 51 (z2 ++ [(3, .int .i64 ((↑k : Int) + (1 : Int))), (8, .bool true), (23, .bool !befP (l.getD k mD).st (l.getD k mD).tk (l.getD (k + 1) mD).st (l.getD (k + 1) mD).tk)]) []) (by kernel_rfl) (by kernel_rfl) ?_
    refine k_then ?_
    refine q_cond (by kernel_rfl) (!befP (l.getD k mD).st (l.getD k mD).tk (l.getD (k + 1) mD).st (l.getD (k + 1) mD).tk) (by kernel_rfl) (fun h1 => ?_) (fun h1 => ?_)
    · skip
      refine Q_seq ?_
      refine Q_run [0, 2, 3, 4, 8, 23, 27, 35, 50] (stOf 51 [(0, marksV l), (2, .int .i64 9), (3, .int .i64 ((↑k : Int) + (1 : Int))), (8, .bool true), (23, .bool !befP (l.getD k mD).st (l.getD k mD).tk (l.getD (k + 1) mD).st (l.getD (k + 1) mD).tk)] []) ?_
      refine k_then ?_
      refine q_ret (by kernel_rfl) ?_
      refine k_blockr ?_
      refine k_thenr ?_
      refine k_loopr ?_
      refine k_blockr ?_
      refine k_thenr ?_
      refine k_fin (True) (AV.int .i64 9) [] [] (AV.int .i64 9) (by kernel_rfl) (by kernel_rfl) (by kernel_rfl) trivial (keep_nil _) ?_
      have hb : befM (l.getD k mD) (l.getD (k + 1) mD) = false := by simpa using h1
      exact ⟨by rw [chkL, hE, hR, hb]; rfl, rfl⟩
    · skip
      refine q_skip (by kernel_rfl) ?_
      refine k_block ?_
      refine k_then ?_
      refine Q_reg ?_
      refine N_run 2 (True) [2] (stOf 51 (z2 ++ [(3, .int .i64 ((↑k : Int) + (1 : Int))), (8, .bool true), (9, .int .i64 ((↑k : Int) + (1 : Int))), (10, .int .i64 (IntKind.i64.wrap ((↑k : Int) + (1 : Int) + (1 : Int)))), (23, .bool !befP (l.getD k mD).st (l.getD k mD).tk (l.getD (k + 1) mD).st (l.getD (k + 1) mD).tk)]) []) trivial ?_
      refine n_set 10 (AV.int .i64 (IntKind.i64.wrap ((↑k : Int) + (1 : Int) + (1 : Int)))) (AV.int .i64 ((↑k : Int) + (1 : Int) + (1 : Int))) (by kernel_rfl) (by rw [wrap_i64 (e := (↑k : Int) + (1 : Int) + (1 : Int)) (by omega) (by omega)]) ?_
      refine N_run 1 (True) [] (stOf 51 (z2 ++ [(3, .int .i64 ((↑k : Int) + (1 : Int) + (1 : Int))), (8, .bool true), (9, .int .i64 ((↑k : Int) + (1 : Int))), (10, .int .i64 ((↑k : Int) + (1 : Int) + (1 : Int))), (23, .bool !befP (l.getD k mD).st (l.getD k mD).tk (l.getD (k + 1) mD).st (l.getD (k + 1) mD).tk)]) []) trivial ?_
      refine N_sel [0, 2, 3, 4, 8, 23, 27, 35, 50] (stOf 51 (z2 ++ [(3, .int .i64 ((↑k : Int) + (1 : Int) + (1 : Int))), (8, .bool true), (23, .bool !befP (l.getD k mD).st (l.getD k mD).tk (l.getD (k + 1) mD).st (l.getD (k + 1) mD).tk)]) []) ?_
      have hb : befM (l.getD k mD) (l.getD (k + 1) mD) = true := by simpa using h1
      refine k_loopd (l.length - (k + 1)) (by omega) ⟨k + 1, rfl, by omega, by rw [hE, hR, hb]; rfl, by kernel_rfl⟩
  · have hc : decide (((k : Int) + 1) < (l.length : Int)) = false := by rw [decide_eq_false_iff_not]; omega
    have hO : ordL l = true := hE.trans (ordL_end (l := l) (k := k) hge)
    clear hE
    refine Q_seq ?_
    refine Q_seq ?_
    refine Q_run [0, 2, 3, 4, 8, 23, 27, 35, 50] (stOf 51 (z2 ++ [(3, .int .i64 ((↑k : Int) + (1 : Int))), (8, .bool (decide ((↑k : Int) + (1 : Int) < (↑l.length : Int))))]) []) ?_
    refine k_then ?_
    refine q_set 8 (AV.bool (decide ((↑k : Int) + (1 : Int) < (↑l.length : Int)))) (AV.bool false) (by kernel_rfl) (by rw [hc] <;> rfl) ?_
    refine q_no (by kernel_rfl) false (by kernel_rfl) rfl ?_
    refine q_exit (by kernel_rfl) 0 (by kernel_rfl) ?_
    refine k_thenx ?_
    refine k_loopx ?_
    refine k_blockx (by kernel_rfl) ?_
    refine k_then ?_
    refine Q_seq ?_
    refine Q_seq ?_
    refine Q_run [0, 2, 3, 4, 8, 23, 27, 35, 50] (stOf 51 (z2 ++ [(3, .int .i64 ((↑k : Int) + (1 : Int))), (4, .int .i64 0), (8, .bool false)]) []) ?_
    refine k_then ?_
    refine q_block (by kernel_rfl) ?_
    refine q_loopd (by kernel_rfl) [0, 2, 4] l.length (fun n' s' => ∃ j : Nat, n' = l.length - j ∧ j ≤ l.length ∧ badL l = badL (l.drop j) ∧ s' = stOf 51 [(0, marksV l), (2, AV.int .i64 0), (4, AV.int .i64 (j : Int))] []) ⟨0, rfl, by omega, rfl, by kernel_rfl⟩ ?_
    rintro n' _ ⟨j, rfl, hj, hF, rfl⟩
    rcases Nat.lt_or_ge j l.length with hlt | hge2
    · have hc : decide ((j : Int) < (l.length : Int)) = true := by rw [decide_eq_true_iff]; omega
      have hd := marks_at l j hlt
      have hR := badL_at hlt
      have hm := okM_at hl hlt
      refine Q_seq ?_
      refine Q_seq ?_
      refine Q_run [0, 2, 3, 4, 8, 23, 27, 35, 50] (stOf 51 (z2 ++ [(4, .int .i64 (↑j : Int)), (27, .bool (decide ((↑j : Int) < (↑l.length : Int))))]) []) ?_
      refine k_then ?_
      refine q_set 27 (AV.bool (decide ((↑j : Int) < (↑l.length : Int)))) (AV.bool true) (by kernel_rfl) (by rw [hc] <;> rfl) ?_
      refine q_yes (by kernel_rfl) true (by kernel_rfl) rfl ?_
      refine q_skip (by kernel_rfl) ?_
      refine k_then ?_
      refine Q_seq ?_
      refine q_block (by kernel_rfl) ?_
      refine Q_seq ?_
      refine Q_seq ?_
      refine Q_reg ?_
      refine N_run 3 ((0 : Int) ≤ (↑j : Int) ∧ (↑j : Int) < (↑l.length : Int)) [3, 4, 5] (stOf 51 (z2 ++ [(4, .int .i64 (↑j : Int)), (27, .bool true), (30, marksV l), (31, .int .i64 (↑j : Int)), (32, .fptr (List.drop ((↑j : Int).toNat * 10) (flatA encM l)))]) []) (by exact ⟨by omega, by omega⟩) ?_
      refine n_set 32 (AV.fptr (List.drop ((↑j : Int).toNat * 10) (flatA encM l))) (AV.fptr (AV.str (l.getD j mD).st :: AV.str (l.getD j mD).tk :: AV.int .i64 (l.getD j mD).ver :: AV.bool (l.getD j mD).pend :: AV.int .i64 (l.getD j mD).kind :: AV.int .i64 (l.getD j mD).err :: AV.str (l.getD j mD).path :: AV.int .i64 (l.getD j mD).at' :: AV.int .i64 (l.getD j mD).score :: AV.slv (l.getD j mD).verd.length 1 (List.map (AV.int .i64) (l.getD j mD).verd) :: flatA encM (List.drop (j + 1) l))) (by kernel_rfl) (by rw [hd] <;> rfl) ?_
      refine N_run 2 (1 ≤ (List.drop 2 (AV.str (l.getD j mD).st :: AV.str (l.getD j mD).tk :: AV.int .i64 (l.getD j mD).ver :: AV.bool (l.getD j mD).pend :: AV.int .i64 (l.getD j mD).kind :: AV.int .i64 (l.getD j mD).err :: AV.str (l.getD j mD).path :: AV.int .i64 (l.getD j mD).at' :: AV.int .i64 (l.getD j mD).score :: AV.slv (l.getD j mD).verd.length 1 (List.map (AV.int .i64) (l.getD j mD).verd) :: flatA encM (List.drop (j + 1) l))).length) [5] (stOf 51 (z2 ++ [(4, .int .i64 (↑j : Int)), (27, .bool true), (30, marksV l), (31, .int .i64 (↑j : Int)), (32, .fptr (encM (l.getD j mD) ++ flatA encM (List.drop (j + 1) l))), (33, .fptr (.int .i64 (l.getD j mD).ver :: .bool (l.getD j mD).pend :: .int .i64 (l.getD j mD).kind :: .int .i64 (l.getD j mD).err :: .str (l.getD j mD).path :: .int .i64 (l.getD j mD).at' :: .int .i64 (l.getD j mD).score :: .slv (l.getD j mD).verd.length 1 (List.map (.int .i64) (l.getD j mD).verd) :: flatA encM (List.drop (j + 1) l))), (34, .int .i64 (l.getD j mD).ver)]) []) (by exact by exact Nat.le_of_ble_eq_true (by kernel_rfl)) ?_
      refine N_run 1 (True) [] (stOf 51 (z2 ++ [(4, .int .i64 (↑j : Int)), (27, .bool true), (30, marksV l), (31, .int .i64 (↑j : Int)), (32, .fptr (encM (l.getD j mD) ++ flatA encM (List.drop (j + 1) l))), (33, .fptr (.int .i64 (l.getD j mD).ver :: .bool (l.getD j mD).pend :: .int .i64 (l.getD j mD).kind :: .int .i64 (l.getD j mD).err :: .str (l.getD j mD).path :: .int .i64 (l.getD j mD).at' :: .int .i64 (l.getD j mD).score :: .slv (l.getD j mD).verd.length 1 (List.map (.int .i64) (l.getD j mD).verd) :: flatA encM (List.drop (j + 1) l))), (34, .int .i64 (l.getD j mD).ver), (35, .bool (decide ((l.getD j mD).ver < (1 : Int))))]) []) trivial ?_
      refine N_sel [0, 2, 3, 4, 8, 23, 27, 35, 50] (stOf 51 (z2 ++ [(4, .int .i64 (↑j : Int)), (27, .bool true), (35, .bool (decide ((l.getD j mD).ver < (1 : Int))))]) []) ?_
      refine k_then ?_
      refine q_cond (by kernel_rfl) (decide ((l.getD j mD).ver < (1 : Int))) (by kernel_rfl) (fun h1 => ?_) (fun h1 => ?_)
      · (have g1 := of_decide_eq_true h1)
        refine Q_seq ?_
        refine Q_run [0, 2, 3, 4, 8, 23, 27, 35, 50] (stOf 51 [(0, marksV l), (2, .int .i64 1), (4, .int .i64 (↑j : Int)), (27, .bool true), (35, .bool (decide ((l.getD j mD).ver < (1 : Int))))] []) ?_
        refine k_then ?_
        refine q_ret (by kernel_rfl) ?_
        refine k_thenr ?_
        refine k_blockr ?_
        refine k_thenr ?_
        refine k_loopr ?_
        refine k_blockr ?_
        refine k_thenr ?_
        refine k_fin (True) (AV.int .i64 1) [] [] (AV.int .i64 1) (by kernel_rfl) (by kernel_rfl) (by kernel_rfl) trivial (keep_nil _) ?_
        have e1 : decide ((l.getD j mD).ver < 1) = true := by assumption
        exact ⟨by rw [chkL, hO, hF, hR, e1]; rfl, rfl⟩
      · (have g1 := of_decide_eq_false h1)
        refine q_skip (by kernel_rfl) ?_
        refine k_then ?_
        refine Q_seq ?_
        refine Q_reg ?_
        refine N_run 3 ((0 : Int) ≤ (↑j : Int) ∧ (↑j : Int) < (↑l.length : Int)) [3, 4, 5, 6, 7, 8, 9, 10, 11, 12, 13, 14] (stOf 51 (z2 ++ [(4, .int .i64 (↑j : Int)), (27, .bool true), (35, .bool (decide ((l.getD j mD).ver < (1 : Int)))), (36, marksV l), (37, .int .i64 (↑j : Int)), (38, .fptr (List.drop ((↑j : Int).toNat * 10) (flatA encM l)))]) []) (by exact ⟨by omega, by omega⟩) ?_
        refine n_set 38 (AV.fptr (List.drop ((↑j : Int).toNat * 10) (flatA encM l))) (AV.fptr (AV.str (l.getD j mD).st :: AV.str (l.getD j mD).tk :: AV.int .i64 (l.getD j mD).ver :: AV.bool (l.getD j mD).pend :: AV.int .i64 (l.getD j mD).kind :: AV.int .i64 (l.getD j mD).err :: AV.str (l.getD j mD).path :: AV.int .i64 (l.getD j mD).at' :: AV.int .i64 (l.getD j mD).score :: AV.slv (l.getD j mD).verd.length 1 (List.map (AV.int .i64) (l.getD j mD).verd) :: flatA encM (List.drop (j + 1) l))) (by kernel_rfl) (by rw [hd] <;> rfl) ?_
        refine N_run 2 (1 ≤ (List.drop 3 (AV.str (l.getD j mD).st :: AV.str (l.getD j mD).tk :: AV.int .i64 (l.getD j mD).ver :: AV.bool (l.getD j mD).pend :: AV.int .i64 (l.getD j mD).kind :: AV.int .i64 (l.getD j mD).err :: AV.str (l.getD j mD).path :: AV.int .i64 (l.getD j mD).at' :: AV.int .i64 (l.getD j mD).score :: AV.slv (l.getD j mD).verd.length 1 (List.map (AV.int .i64) (l.getD j mD).verd) :: flatA encM (List.drop (j + 1) l))).length) [5, 6, 7, 8, 9, 10, 11, 12, 13, 14] (stOf 51 (z2 ++ [(4, .int .i64 (↑j : Int)), (27, .bool true), (35, .bool (decide ((l.getD j mD).ver < (1 : Int)))), (36, marksV l), (37, .int .i64 (↑j : Int)), (38, .fptr (encM (l.getD j mD) ++ flatA encM (List.drop (j + 1) l))), (39, .fptr (.bool (l.getD j mD).pend :: .int .i64 (l.getD j mD).kind :: .int .i64 (l.getD j mD).err :: .str (l.getD j mD).path :: .int .i64 (l.getD j mD).at' :: .int .i64 (l.getD j mD).score :: .slv (l.getD j mD).verd.length 1 (List.map (.int .i64) (l.getD j mD).verd) :: flatA encM (List.drop (j + 1) l))), (40, .bool (l.getD j mD).pend)]) []) (by exact by exact Nat.le_of_ble_eq_true (by kernel_rfl)) ?_
        refine N_run 4 ((((l.getD j mD).pend == true) = true → ((l.getD j mD).pend == true) = true) ∧ (((l.getD j mD).pend == true) = true → ((l.getD j mD).pend == true) = true) ∧ (((l.getD j mD).pend == true) = true → (0 : Int) ≤ (↑j : Int) ∧ (↑j : Int) < (↑l.length : Int))) [9, 10, 11, 12, 13, 14] (stOf 51 (z2 ++ [(4, .int .i64 (↑j : Int)), (27, .bool true), (35, .bool (decide ((l.getD j mD).ver < (1 : Int)))), (36, marksV l), (37, .int .i64 (↑j : Int)), (38, .fptr (encM (l.getD j mD) ++ flatA encM (List.drop (j + 1) l))), (39, .fptr (.bool (l.getD j mD).pend :: .int .i64 (l.getD j mD).kind :: .int .i64 (l.getD j mD).err :: .str (l.getD j mD).path :: .int .i64 (l.getD j mD).at' :: .int .i64 (l.getD j mD).score :: .slv (l.getD j mD).verd.length 1 (List.map (.int .i64) (l.getD j mD).verd) :: flatA encM (List.drop (j + 1) l))), (40, .bool (l.getD j mD).pend), (41, .bool (l.getD j mD).pend), (42, .cnd ((l.getD j mD).pend == true) (marksV l)), (43, .cnd ((l.getD j mD).pend == true) (.int .i64 (↑j : Int))), (44, .cnd ((l.getD j mD).pend == true) (.fptr (List.drop ((↑j : Int).toNat * 10) (flatA encM l))))]) []) (by exact ⟨fun h => h, fun h => h, by omega⟩) ?_
        refine n_set 44 (AV.cnd ((l.getD j mD).pend == true) (AV.fptr (List.drop ((↑j : Int).toNat * 10) (flatA encM l)))) (AV.cnd ((l.getD j mD).pend == true) (AV.fptr (AV.str (l.getD j mD).st :: AV.str (l.getD j mD).tk :: AV.int .i64 (l.getD j mD).ver :: AV.bool (l.getD j mD).pend :: AV.int .i64 (l.getD j mD).kind :: AV.int .i64 (l.getD j mD).err :: AV.str (l.getD j mD).path :: AV.int .i64 (l.getD j mD).at' :: AV.int .i64 (l.getD j mD).score :: AV.slv (l.getD j mD).verd.length 1 (List.map (AV.int .i64) (l.getD j mD).verd) :: flatA encM (List.drop (j + 1) l)))) (by kernel_rfl) (by rw [hd] <;> rfl) ?_
        refine N_run 2 ((((l.getD j mD).pend == true) = true → ((l.getD j mD).pend == true) = true) ∧ (((l.getD j mD).pend == true) = true → ((l.getD j mD).pend == true) = true) ∧ (((l.getD j mD).pend == true) = true → 6 ≤ (List.drop 4 (AV.str (l.getD j mD).st :: AV.str (l.getD j mD).tk :: AV.int .i64 (l.getD j mD).ver :: AV.bool (l.getD j mD).pend :: AV.int .i64 (l.getD j mD).kind :: AV.int .i64 (l.getD j mD).err :: AV.str (l.getD j mD).path :: AV.int .i64 (l.getD j mD).at' :: AV.int .i64 (l.getD j mD).score :: AV.slv (l.getD j mD).verd.length 1 (List.map (AV.int .i64) (l.getD j mD).verd) :: flatA encM (List.drop (j + 1) l))).length)) [11, 12, 13, 14] (stOf 51 (z2 ++ [(4, .int .i64 (↑j : Int)), (27, .bool true), (35, .bool (decide ((l.getD j mD).ver < (1 : Int)))), (36, marksV l), (37, .int .i64 (↑j : Int)), (38, .fptr (encM (l.getD j mD) ++ flatA encM (List.drop (j + 1) l))), (39, .fptr (.bool (l.getD j mD).pend :: .int .i64 (l.getD j mD).kind :: .int .i64 (l.getD j mD).err :: .str (l.getD j mD).path :: .int .i64 (l.getD j mD).at' :: .int .i64 (l.getD j mD).score :: .slv (l.getD j mD).verd.length 1 (List.map (.int .i64) (l.getD j mD).verd) :: flatA encM (List.drop (j + 1) l))), (40, .bool (l.getD j mD).pend), (41, .bool (l.getD j mD).pend), (42, .cnd ((l.getD j mD).pend == true) (marksV l)), (43, .cnd ((l.getD j mD).pend == true) (.int .i64 (↑j : Int))), (44, .cnd ((l.getD j mD).pend == true) (.fptr (encM (l.getD j mD) ++ flatA encM (List.drop (j + 1) l)))), (45, .cnd ((l.getD j mD).pend == true) (.fptr (.int .i64 (l.getD j mD).kind :: .int .i64 (l.getD j mD).err :: .str (l.getD j mD).path :: .int .i64 (l.getD j mD).at' :: .int .i64 (l.getD j mD).score :: .slv (l.getD j mD).verd.length 1 (List.map (.int .i64) (l.getD j mD).verd) :: flatA encM (List.drop (j + 1) l)))), (46, .cnd ((l.getD j mD).pend == true) (.agg [.int .i64 (l.getD j mD).kind, .int .i64 (l.getD j mD).err, .str (l.getD j mD).path, .int .i64 (l.getD j mD).at', .int .i64 (l.getD j mD).score, .slv (l.getD j mD).verd.length 1 (List.map (.int .i64) (l.getD j mD).verd)]))]) []) (by exact ⟨fun h => h, fun h => h, by (simp; done)⟩) ?_
        refine N_run 1 (True) [12, 13, 14] (stOf 51 (z2 ++ [(4, .int .i64 (↑j : Int)), (27, .bool true), (35, .bool (decide ((l.getD j mD).ver < (1 : Int)))), (36, marksV l), (37, .int .i64 (↑j : Int)), (38, .fptr (encM (l.getD j mD) ++ flatA encM (List.drop (j + 1) l))), (39, .fptr (.bool (l.getD j mD).pend :: .int .i64 (l.getD j mD).kind :: .int .i64 (l.getD j mD).err :: .str (l.getD j mD).path :: .int .i64 (l.getD j mD).at' :: .int .i64 (l.getD j mD).score :: .slv (l.getD j mD).verd.length 1 (List.map (.int .i64) (l.getD j mD).verd) :: flatA encM (List.drop (j + 1) l))), (40, .bool (l.getD j mD).pend), (41, .bool (l.getD j mD).pend), (42, .cnd ((l.getD j mD).pend == true) (marksV l)), (43, .cnd ((l.getD j mD).pend == true) (.int .i64 (↑j : Int))), (44, .cnd ((l.getD j mD).pend == true) (.fptr (encM (l.getD j mD) ++ flatA encM (List.drop (j + 1) l)))), (45, .cnd ((l.getD j mD).pend == true) (.fptr (.int .i64 (l.getD j mD).kind :: .int .i64 (l.getD j mD).err :: .str (l.getD j mD).path :: .int .i64 (l.getD j mD).at' :: .int .i64 (l.getD j mD).score :: .slv (l.getD j mD).verd.length 1 (List.map (.int .i64) (l.getD j mD).verd) :: flatA encM (List.drop (j + 1) l)))), (46, .cnd ((l.getD j mD).pend == true) (.agg [.int .i64 (l.getD j mD).kind, .int .i64 (l.getD j mD).err, .str (l.getD j mD).path, .int .i64 (l.getD j mD).at', .int .i64 (l.getD j mD).score, .slv (l.getD j mD).verd.length 1 (List.map (.int .i64) (l.getD j mD).verd)])), (47, .cnd ((l.getD j mD).pend == true) (.agg [.int .i64 0, .int .i64 0, .str (ByteArray.mk #[]), .int .i64 0, .int .i64 0, .nilsl]))]) []) trivial ?_
        refine n_callg 26 [AV.agg [AV.int .i64 (l.getD j mD).kind, AV.int .i64 (l.getD j mD).err, AV.str (l.getD j mD).path, AV.int .i64 (l.getD j mD).at', AV.int .i64 (l.getD j mD).score, AV.slv (l.getD j mD).verd.length 1 (List.map (AV.int .i64) (l.getD j mD).verd)], AV.agg [AV.int .i64 0, AV.int .i64 0, AV.str (ByteArray.mk #[]), AV.int .i64 0, AV.int .i64 0, AV.nilsl]] (AV.bool (isZ (l.getD j mD))) ((l.getD j mD).pend == true) (stOf 51 (z2 ++ [(4, .int .i64 (↑j : Int)), (27, .bool true), (35, .bool (decide ((l.getD j mD).ver < (1 : Int)))), (36, marksV l), (37, .int .i64 (↑j : Int)), (38, .fptr (encM (l.getD j mD) ++ flatA encM (List.drop (j + 1) l))), (39, .fptr (.bool (l.getD j mD).pend :: .int .i64 (l.getD j mD).kind :: .int .i64 (l.getD j mD).err :: .str (l.getD j mD).path :: .int .i64 (l.getD j mD).at' :: .int .i64 (l.getD j mD).score :: .slv (l.getD j mD).verd.length 1 (List.map (.int .i64) (l.getD j mD).verd) :: flatA encM (List.drop (j + 1) l))), (40, .bool (l.getD j mD).pend), (41, .bool (l.getD j mD).pend), (42, .cnd ((l.getD j mD).pend == true) (marksV l)), (43, .cnd ((l.getD j mD).pend == true) (.int .i64 (↑j : Int))), (44, .cnd ((l.getD j mD).pend == true) (.fptr (encM (l.getD j mD) ++ flatA encM (List.drop (j + 1) l)))), (45, .cnd ((l.getD j mD).pend == true) (.fptr (.int .i64 (l.getD j mD).kind :: .int .i64 (l.getD j mD).err :: .str (l.getD j mD).path :: .int .i64 (l.getD j mD).at' :: .int .i64 (l.getD j mD).score :: .slv (l.getD j mD).verd.length 1 (List.map (.int .i64) (l.getD j mD).verd) :: flatA encM (List.drop (j + 1) l)))), (46, .cnd ((l.getD j mD).pend == true) (.agg [.int .i64 (l.getD j mD).kind, .int .i64 (l.getD j mD).err, .str (l.getD j mD).path, .int .i64 (l.getD j mD).at', .int .i64 (l.getD j mD).score, .slv (l.getD j mD).verd.length 1 (List.map (.int .i64) (l.getD j mD).verd)])), (47, .cnd ((l.getD j mD).pend == true) (.agg [.int .i64 0, .int .i64 0, .str (ByteArray.mk #[]), .int .i64 0, .int .i64 0, .nilsl])), (48, .cnd ((l.getD j mD).pend == true) (.bool (isZ (l.getD j mD))))]) []) (by kernel_rfl) (by kernel_rfl) (by kernel_rfl) (by kernel_rfl) (by kernel_rfl) (((l.getD j mD).pend == true) = true ∧ ((l.getD j mD).pend == true) = true) (by kernel_rfl) (by first | exact fun h => h | (intro h; simp_all; done)) (fun hg => (refSame0_v (l.getD j mD) hm )) ?_
        refine N_run 2 ((((l.getD j mD).pend == true) = true → ((l.getD j mD).pend == true) = true) ∧ ((l.getD j mD).pend = true → ((l.getD j mD).pend == true) = true)) [] (stOf 51 (z2 ++ [(4, .int .i64 (↑j : Int)), (27, .bool true), (35, .bool (decide ((l.getD j mD).ver < (1 : Int)))), (36, marksV l), (37, .int .i64 (↑j : Int)), (38, .fptr (encM (l.getD j mD) ++ flatA encM (List.drop (j + 1) l))), (39, .fptr (.bool (l.getD j mD).pend :: .int .i64 (l.getD j mD).kind :: .int .i64 (l.getD j mD).err :: .str (l.getD j mD).path :: .int .i64 (l.getD j mD).at' :: .int .i64 (l.getD j mD).score :: .slv (l.getD j mD).verd.length 1 (List.map (.int .i64) (l.getD j mD).verd) :: flatA encM (List.drop (j + 1) l))), (40, .bool (l.getD j mD).pend), (41, .bool (l.getD j mD).pend), (42, .cnd ((l.getD j mD).pend == true) (marksV l)), (43, .cnd ((l.getD j mD).pend == true) (.int .i64 (↑j : Int))), (44, .cnd ((l.getD j mD).pend == true) (.fptr (encM (l.getD j mD) ++ flatA encM (List.drop (j + 1) l)))), (45, .cnd ((l.getD j mD).pend == true) (.fptr (.int .i64 (l.getD j mD).kind :: .int .i64 (l.getD j mD).err :: .str (l.getD j mD).path :: .int .i64 (l.getD j mD).at' :: .int .i64 (l.getD j mD).score :: .slv (l.getD j mD).verd.length 1 (List.map (.int .i64) (l.getD j mD).verd) :: flatA encM (List.drop (j + 1) l)))), (46, .cnd ((l.getD j mD).pend == true) (.agg [.int .i64 (l.getD j mD).kind, .int .i64 (l.getD j mD).err, .str (l.getD j mD).path, .int .i64 (l.getD j mD).at', .int .i64 (l.getD j mD).score, .slv (l.getD j mD).verd.length 1 (List.map (.int .i64) (l.getD j mD).verd)])), (47, .cnd ((l.getD j mD).pend == true) (.agg [.int .i64 0, .int .i64 0, .str (ByteArray.mk #[]), .int .i64 0, .int .i64 0, .nilsl])), (48, .cnd ((l.getD j mD).pend == true) (.bool (isZ (l.getD j mD)))), (49, .cnd ((l.getD j mD).pend == true) (.bool !isZ (l.getD j mD))), (50, .bool (bif (l.getD j mD).pend then !isZ (l.getD j mD) else false))]) []) (by exact ⟨fun h => h, by (simp; done)⟩) ?_
        refine N_sel [0, 2, 3, 4, 8, 23, 27, 35, 50] (stOf 51 (z2 ++ [(4, .int .i64 (↑j : Int)), (27, .bool true), (35, .bool (decide ((l.getD j mD).ver < (1 : Int)))), (50, .bool (bif (l.getD j mD).pend then !isZ (l.getD j mD) else false))]) []) ?_
        refine k_then ?_
        refine q_cond (by kernel_rfl) (bif (l.getD j mD).pend then !isZ (l.getD j mD) else false) (by kernel_rfl) (fun h2 => ?_) (fun h2 => ?_)
        · skip
          refine Q_seq ?_
          refine Q_run [0, 2, 3, 4, 8, 23, 27, 35, 50] (stOf 51 [(0, marksV l), (2, .int .i64 29), (4, .int .i64 (↑j : Int)), (27, .bool true), (35, .bool (decide ((l.getD j mD).ver < (1 : Int)))), (50, .bool (bif (l.getD j mD).pend then !isZ (l.getD j mD) else false))] []) ?_
          refine k_then ?_
          refine q_ret (by kernel_rfl) ?_
          refine k_blockr ?_
          refine k_thenr ?_
          refine k_loopr ?_
          refine k_blockr ?_
          refine k_thenr ?_
          refine k_fin (True) (AV.int .i64 29) [] [] (AV.int .i64 29) (by kernel_rfl) (by kernel_rfl) (by kernel_rfl) trivial (keep_nil _) ?_
          have e1 : decide ((l.getD j mD).ver < 1) = false := by assumption
          have e2 : (bif (l.getD j mD).pend then !isZ (l.getD j mD) else false) = true := by assumption
          exact ⟨by rw [chkL, hO, hF, hR, e1, e2]; rfl, rfl⟩
        · skip
          refine q_skip (by kernel_rfl) ?_
          refine k_block ?_
          refine k_then ?_
          refine Q_reg ?_
          refine N_run 2 (True) [2] (stOf 51 (z2 ++ [(4, .int .i64 (↑j : Int)), (27, .bool true), (28, .int .i64 (↑j : Int)), (29, .int .i64 (IntKind.i64.wrap ((↑j : Int) + (1 : Int)))), (35, .bool (decide ((l.getD j mD).ver < (1 : Int)))), (50, .bool (bif (l.getD j mD).pend then !isZ (l.getD j mD) else false))]) []) trivial ?_
          refine n_set 29 (AV.int .i64 (IntKind.i64.wrap ((↑j : Int) + (1 : Int)))) (AV.int .i64 ((↑j : Int) + (1 : Int))) (by kernel_rfl) (by rw [wrap_i64 (e := (↑j : Int) + (1 : Int)) (by omega) (by omega)]) ?_
          refine N_run 1 (True) [] (stOf 51 (z2 ++ [(4, .int .i64 ((↑j : Int) + (1 : Int))), (27, .bool true), (28, .int .i64 (↑j : Int)), (29, .int .i64 ((↑j : Int) + (1 : Int))), (35, .bool (decide ((l.getD j mD).ver < (1 : Int)))), (50, .bool (bif (l.getD j mD).pend then !isZ (l.getD j mD) else false))]) []) trivial ?_
          refine N_sel [0, 2, 3, 4, 8, 23, 27, 35, 50] (stOf 51 (z2 ++ [(4, .int .i64 ((↑j : Int) + (1 : Int))), (27, .bool true), (35, .bool (decide ((l.getD j mD).ver < (1 : Int)))), (50, .bool (bif (l.getD j mD).pend then !isZ (l.getD j mD) else false))]) []) ?_
          have e1 : decide ((l.getD j mD).ver < 1) = false := by assumption
          have e2 : (bif (l.getD j mD).pend then !isZ (l.getD j mD) else false) = false := by assumption
          refine k_loopd (l.length - (j + 1)) (by omega) ⟨j + 1, rfl, by omega, by rw [hF, hR, e1, e2]; rfl, by kernel_rfl⟩
    · have hc : decide ((j : Int) < (l.length : Int)) = false := by rw [decide_eq_false_iff_not]; omega
      refine Q_seq ?_
      refine Q_seq ?_
      refine Q_run [0, 2, 3, 4, 8, 23, 27, 35, 50] (stOf 51 (z2 ++ [(4, .int .i64 (↑j : Int)), (27, .bool (decide ((↑j : Int) < (↑l.length : Int))))]) []) ?_
      refine k_then ?_
      refine q_set 27 (AV.bool (decide ((↑j : Int) < (↑l.length : Int)))) (AV.bool false) (by kernel_rfl) (by rw [hc] <;> rfl) ?_
      refine q_no (by kernel_rfl) false (by kernel_rfl) rfl ?_
      refine q_exit (by kernel_rfl) 2 (by kernel_rfl) ?_
      refine k_thenx ?_
      refine k_loopx ?_
      refine k_blockx (by kernel_rfl) ?_
      refine k_then ?_
      refine Q_seq ?_
      refine Q_run [0, 2, 3, 4, 8, 23, 27, 35, 50] (stOf 51 (z2 ++ [(4, .int .i64 (↑j : Int)), (27, .bool false)]) []) ?_
      refine k_then ?_
      refine q_ret (by kernel_rfl) ?_
      refine k_fin (True) (AV.int .i64 0) [] [] (AV.int .i64 0) (by kernel_rfl) (by kernel_rfl) (by kernel_rfl) trivial (keep_nil _) ?_
      exact ⟨by rw [chkL, hO, hF, badL_end hge2]; rfl, rfl⟩
end Go.Proofs.Ytlmkeoegammdjaa
