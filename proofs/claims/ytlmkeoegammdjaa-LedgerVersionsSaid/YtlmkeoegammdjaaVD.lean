/-
  The first mark of a pair, in the logic of values.
-/
import Derived.Test.YtlmkeoegammdjaaVC
namespace Go.Proofs.Ytlmkeoegammdjaa
open Go Go.RowKit V
set_option linter.unusedSimpArgs false
set_option linter.unusedVariables false
set_option maxHeartbeats 20000000
def isP (m : Mk) (st tk : ByteArray) : Bool := m.st.toList == st.toList && (m.tk.toList == tk.toList && true)
def ixL (st tk : ByteArray) : Nat → List Mk → Int
  | _, [] => -1
  | k, m :: r => bif isP m st tk then (k : Int) else ixL st tk (k + 1) r
theorem ixL_at {l : List Mk} {st tk : ByteArray} {k : Nat} (h : k < l.length) : ixL st tk k (l.drop k) = bif isP (l.getD k mD) st tk then (k : Int) else ixL st tk (k + 1) (l.drop (k + 1)) := by
  rw [List.drop_eq_getElem_cons h, ixL]; simp [List.getD_eq_getElem?_getD, h]
theorem ixL_end {l : List Mk} {st tk : ByteArray} {k : Nat} (h : l.length ≤ k) : ixL st tk k (l.drop k) = -1 := by
  rw [List.drop_eq_nil_of_le h]; rfl
theorem lit_v (m : Mk) (st tk : ByteArray) : CallsV Try.prog 41 [.agg (encM m), .fptr [.str st, .str tk]] [] (fun av H' => av = .bool (isP m st tk) ∧ H' = []) := by
  refine callsV_at Try.func41 (by kernel_rfl) ?_
  refine q_seq (by kernel_rfl) ?_
  refine q_run True [0, 1, 2, 3] (stOf 8 [(0, AV.agg [AV.str m.st, AV.str m.tk, AV.int IntKind.i64 m.ver, AV.bool m.pend, AV.int IntKind.i64 m.kind, AV.int IntKind.i64 m.err, AV.str m.path, AV.int IntKind.i64 m.at', AV.int IntKind.i64 m.score, AV.slv m.verd.length (nat_lit 1) (List.map (AV.int IntKind.i64) m.verd)]), (1, AV.fptr [AV.str st, AV.str tk]), (2, AV.ptr (0 : Nat) (nat_lit 0)), (3, AV.bool false)] [Blk.row (nat_lit 38) [AV.str m.st, AV.str m.tk, AV.int IntKind.i64 m.ver, AV.bool m.pend, AV.int IntKind.i64 m.kind, AV.int IntKind.i64 m.err, AV.str m.path, AV.int IntKind.i64 m.at', AV.int IntKind.i64 m.score, AV.slv m.verd.length (nat_lit 1) (List.map (AV.int IntKind.i64) m.verd)]]) (by kernel_rfl) (by kernel_rfl) (by kernel_rfl) (by kernel_rfl) trivial ?_
  refine k_then ?_
  refine q_seq (by kernel_rfl) ?_
  refine q_reg (by kernel_rfl) ?_
  refine n_run 2 ((2 : Nat) ≤ (10 : Nat)) [2, 3, 4] (stOf 8 [(0, AV.agg [AV.str m.st, AV.str m.tk, AV.int IntKind.i64 m.ver, AV.bool m.pend, AV.int IntKind.i64 m.kind, AV.int IntKind.i64 m.err, AV.str m.path, AV.int IntKind.i64 m.at', AV.int IntKind.i64 m.score, AV.slv m.verd.length (nat_lit 1) (List.map (AV.int IntKind.i64) m.verd)]), (1, AV.fptr [AV.str st, AV.str tk]), (2, AV.ptr (nat_lit 0) (nat_lit 0)), (3, AV.bool false), (4, AV.ptr (nat_lit 0) (nat_lit 0)), (5, AV.agg [AV.str m.st, AV.str m.tk])] [Blk.row (nat_lit 38) [AV.str m.st, AV.str m.tk, AV.int IntKind.i64 m.ver, AV.bool m.pend, AV.int IntKind.i64 m.kind, AV.int IntKind.i64 m.err, AV.str m.path, AV.int IntKind.i64 m.at', AV.int IntKind.i64 m.score, AV.slv m.verd.length (nat_lit 1) (List.map (AV.int IntKind.i64) m.verd)]]) (by kernel_rfl) (by kernel_rfl) (by exact by omega) ?_
  refine n_run 1 ((2 : Nat) ≤ (2 : Nat)) [3, 4] (stOf 8 [(0, AV.agg [AV.str m.st, AV.str m.tk, AV.int IntKind.i64 m.ver, AV.bool m.pend, AV.int IntKind.i64 m.kind, AV.int IntKind.i64 m.err, AV.str m.path, AV.int IntKind.i64 m.at', AV.int IntKind.i64 m.score, AV.slv m.verd.length (nat_lit 1) (List.map (AV.int IntKind.i64) m.verd)]), (1, AV.fptr [AV.str st, AV.str tk]), (2, AV.ptr (nat_lit 0) (nat_lit 0)), (3, AV.bool false), (4, AV.ptr (nat_lit 0) (nat_lit 0)), (5, AV.agg [AV.str m.st, AV.str m.tk]), (6, AV.agg [AV.str st, AV.str tk])] [Blk.row (nat_lit 38) [AV.str m.st, AV.str m.tk, AV.int IntKind.i64 m.ver, AV.bool m.pend, AV.int IntKind.i64 m.kind, AV.int IntKind.i64 m.err, AV.str m.path, AV.int IntKind.i64 m.at', AV.int IntKind.i64 m.score, AV.slv m.verd.length (nat_lit 1) (List.map (AV.int IntKind.i64) m.verd)]]) (by kernel_rfl) (by kernel_rfl) (by exact by omega) ?_
  refine n_run 2 (True) [] (stOf 8 [(0, AV.agg [AV.str m.st, AV.str m.tk, AV.int IntKind.i64 m.ver, AV.bool m.pend, AV.int IntKind.i64 m.kind, AV.int IntKind.i64 m.err, AV.str m.path, AV.int IntKind.i64 m.at', AV.int IntKind.i64 m.score, AV.slv m.verd.length (nat_lit 1) (List.map (AV.int IntKind.i64) m.verd)]), (1, AV.fptr [AV.str st, AV.str tk]), (2, AV.ptr (nat_lit 0) (nat_lit 0)), (3, AV.bool (m.st.toList == st.toList && (m.tk.toList == tk.toList && true))), (4, AV.ptr (nat_lit 0) (nat_lit 0)), (5, AV.agg [AV.str m.st, AV.str m.tk]), (6, AV.agg [AV.str st, AV.str tk]), (7, AV.bool (m.st.toList == st.toList && (m.tk.toList == tk.toList && true)))] [Blk.row (nat_lit 38) [AV.str m.st, AV.str m.tk, AV.int IntKind.i64 m.ver, AV.bool m.pend, AV.int IntKind.i64 m.kind, AV.int IntKind.i64 m.err, AV.str m.path, AV.int IntKind.i64 m.at', AV.int IntKind.i64 m.score, AV.slv m.verd.length (nat_lit 1) (List.map (AV.int IntKind.i64) m.verd)]]) (by kernel_rfl) (by kernel_rfl) trivial ?_
  refine n_sel [0, 1, 2, 3] (stOf 8 [(0, AV.agg [AV.str m.st, AV.str m.tk, AV.int IntKind.i64 m.ver, AV.bool m.pend, AV.int IntKind.i64 m.kind, AV.int IntKind.i64 m.err, AV.str m.path, AV.int IntKind.i64 m.at', AV.int IntKind.i64 m.score, AV.slv m.verd.length (nat_lit 1) (List.map (AV.int IntKind.i64) m.verd)]), (1, AV.fptr [AV.str st, AV.str tk]), (2, AV.ptr (nat_lit 0) (nat_lit 0)), (3, AV.bool (m.st.toList == st.toList && (m.tk.toList == tk.toList && true)))] [Blk.row (nat_lit 38) [AV.str m.st, AV.str m.tk, AV.int IntKind.i64 m.ver, AV.bool m.pend, AV.int IntKind.i64 m.kind, AV.int IntKind.i64 m.err, AV.str m.path, AV.int IntKind.i64 m.at', AV.int IntKind.i64 m.score, AV.slv m.verd.length (nat_lit 1) (List.map (AV.int IntKind.i64) m.verd)]]) (by kernel_rfl) (n_done ?_)
  refine k_then ?_
  refine q_ret (by kernel_rfl) ?_
  refine k_fin (True) (AV.bool (m.st.toList == st.toList && (m.tk.toList == tk.toList && true))) [] [] (AV.bool (m.st.toList == st.toList && (m.tk.toList == tk.toList && true))) (by kernel_rfl) (by kernel_rfl) (by kernel_rfl) trivial (keep_nil _) ?_
  exact ⟨rfl, rfl⟩
theorem indexFunc_v (l : List Mk) (st tk : ByteArray) (hl : OkL l) : CallsV Try.prog 34 [marksV l, .fn (.func 41) [] [.fptr [.str st, .str tk]]] [] (fun av H' => av = .int .i64 (ixL st tk 0 l) ∧ H' = []) := by
  refine callsV_at Try.func34 (by kernel_rfl) ?_
  refine q_seq (by kernel_rfl) ?_
  refine q_run True [0, 1, 4, 5, 7, 8, 9, 16] (stOf 19 [(0, AV.slv l.length (nat_lit 10) (flatA encM l)), (1, AV.fn (Fn.func (41 : FuncId)) [] [AV.fptr [AV.str st, AV.str tk]]), (4, AV.int IntKind.i64 (0 : Int))] []) (by kernel_rfl) (by kernel_rfl) (by kernel_rfl) (by kernel_rfl) trivial ?_
  refine k_then ?_
  refine q_seq (by kernel_rfl) ?_
  refine q_seq (by kernel_rfl) ?_
  refine q_run True [0, 1, 4, 5, 7, 8, 9, 16] (stOf 19 [(0, AV.slv l.length (nat_lit 10) (flatA encM l)), (1, AV.fn (Fn.func (41 : FuncId)) [] [AV.fptr [AV.str st, AV.str tk]]), (4, AV.int IntKind.i64 (0 : Int)), (7, AV.int IntKind.i64 (↑l.length : Int)), (8, AV.int IntKind.i64 (0 : Int))] []) (by kernel_rfl) (by kernel_rfl) (by kernel_rfl) (by kernel_rfl) trivial ?_
  refine k_then ?_
  refine q_block (by kernel_rfl) ?_
  refine q_loopd (by kernel_rfl) [0, 1, 7, 8] l.length (fun n' s' => ∃ k : Nat, n' = l.length - k ∧ k ≤ l.length ∧ ixL st tk 0 l = ixL st tk k (l.drop k) ∧ s' = stOf 19 [(0, marksV l), (1, AV.fn (.func 41) [] [.fptr [.str st, .str tk]]), (7, AV.int .i64 (l.length : Int)), (8, AV.int .i64 (k : Int))] []) ⟨0, rfl, by omega, rfl, by kernel_rfl⟩ ?_
  rintro n' _ ⟨k, rfl, hk, hE, rfl⟩
  rcases Nat.lt_or_ge k l.length with hlt | hge
  · have hc : decide ((k : Int) < (l.length : Int)) = true := by rw [decide_eq_true_iff]; omega
    have hd := marks_at l k hlt
    have hR := ixL_at (st := st) (tk := tk) hlt
    have hB := hl.1
    refine q_seq (by kernel_rfl) ?_
    refine q_run True [0, 1, 4, 5, 7, 8, 9, 16] (stOf 19 [(0, AV.slv l.length (nat_lit 10) (flatA encM l)), (1, AV.fn (Fn.func (41 : FuncId)) [] [AV.fptr [AV.str st, AV.str tk]]), (7, AV.int IntKind.i64 (↑l.length : Int)), (8, AV.int IntKind.i64 (↑k : Int)), (9, AV.bool (decide ((↑k : Int) < (↑l.length : Int))))] []) (by kernel_rfl) (by kernel_rfl) (by kernel_rfl) (by kernel_rfl) trivial ?_
    refine k_then ?_
    refine q_set 9 (AV.bool (decide ((↑k : Int) < (↑l.length : Int)))) (AV.bool true) (by kernel_rfl) (by rw [hc] <;> rfl) ?_
    refine q_seq (by kernel_rfl) ?_
    refine q_yes (by kernel_rfl) true (by kernel_rfl) rfl ?_
    refine q_skip (by kernel_rfl) ?_
    refine k_then ?_
    refine q_seq (by kernel_rfl) ?_
    refine q_block (by kernel_rfl) ?_
    refine q_seq (by kernel_rfl) ?_
    refine q_run True [0, 1, 4, 5, 7, 8, 9, 16] (stOf 19 [(0, AV.slv l.length (nat_lit 10) (flatA encM l)), (1, AV.fn (Fn.func (41 : FuncId)) [] [AV.fptr [AV.str st, AV.str tk]]), (5, AV.int IntKind.i64 (↑k : Int)), (7, AV.int IntKind.i64 (↑l.length : Int)), (8, AV.int IntKind.i64 (↑k : Int)), (9, AV.bool true)] []) (by kernel_rfl) (by kernel_rfl) (by kernel_rfl) (by kernel_rfl) trivial ?_
    refine k_then ?_
    refine q_seq (by kernel_rfl) ?_
    refine q_reg (by kernel_rfl) ?_
    refine n_run 4 ((0 : Int) ≤ (↑k : Int) ∧ (↑k : Int) < (↑l.length : Int)) [4, 5] (stOf 19 [(0, AV.slv l.length (nat_lit 10) (flatA encM l)), (1, AV.fn (Fn.func (41 : FuncId)) [] [AV.fptr [AV.str st, AV.str tk]]), (5, AV.int IntKind.i64 (↑k : Int)), (7, AV.int IntKind.i64 (↑l.length : Int)), (8, AV.int IntKind.i64 (↑k : Int)), (9, AV.bool true), (11, AV.fn (Fn.func (41 : FuncId)) [] [AV.fptr [AV.str st, AV.str tk]]), (12, AV.slv l.length (nat_lit 10) (flatA encM l)), (13, AV.int IntKind.i64 (↑k : Int)), (14, AV.fptr (List.drop ((↑k : Int).toNat * nat_lit 10) (flatA encM l)))] []) (by kernel_rfl) (by kernel_rfl) (by exact ⟨by omega, by omega⟩) ?_
    refine n_set 14 (AV.fptr (List.drop ((↑k : Int).toNat * nat_lit 10) (flatA encM l))) (AV.fptr (AV.str (l.getD k mD).st :: AV.str (l.getD k mD).tk :: AV.int IntKind.i64 (l.getD k mD).ver :: AV.bool (l.getD k mD).pend :: AV.int IntKind.i64 (l.getD k mD).kind :: AV.int IntKind.i64 (l.getD k mD).err :: AV.str (l.getD k mD).path :: AV.int IntKind.i64 (l.getD k mD).at' :: AV.int IntKind.i64 (l.getD k mD).score :: AV.slv (l.getD k mD).verd.length (nat_lit 1) (List.map (AV.int IntKind.i64) (l.getD k mD).verd) :: flatA encM (List.drop (k + (1 : Nat)) l))) (by kernel_rfl) (by rw [hd] <;> rfl) ?_
    refine n_run 1 ((10 : Nat) ≤ (AV.str (l.getD k mD).st :: AV.str (l.getD k mD).tk :: AV.int IntKind.i64 (l.getD k mD).ver :: AV.bool (l.getD k mD).pend :: AV.int IntKind.i64 (l.getD k mD).kind :: AV.int IntKind.i64 (l.getD k mD).err :: AV.str (l.getD k mD).path :: AV.int IntKind.i64 (l.getD k mD).at' :: AV.int IntKind.i64 (l.getD k mD).score :: AV.slv (l.getD k mD).verd.length (1 : Nat) (List.map (AV.int IntKind.i64) (l.getD k mD).verd) :: flatA encM (List.drop (k + (1 : Nat)) l)).length) [5] (stOf 19 [(0, AV.slv l.length (nat_lit 10) (flatA encM l)), (1, AV.fn (Fn.func (41 : FuncId)) [] [AV.fptr [AV.str st, AV.str tk]]), (5, AV.int IntKind.i64 (↑k : Int)), (7, AV.int IntKind.i64 (↑l.length : Int)), (8, AV.int IntKind.i64 (↑k : Int)), (9, AV.bool true), (11, AV.fn (Fn.func (41 : FuncId)) [] [AV.fptr [AV.str st, AV.str tk]]), (12, AV.slv l.length (nat_lit 10) (flatA encM l)), (13, AV.int IntKind.i64 (↑k : Int)), (14, AV.fptr (AV.str (l.getD k mD).st :: AV.str (l.getD k mD).tk :: AV.int IntKind.i64 (l.getD k mD).ver :: AV.bool (l.getD k mD).pend :: AV.int IntKind.i64 (l.getD k mD).kind :: AV.int IntKind.i64 (l.getD k mD).err :: AV.str (l.getD k mD).path :: AV.int IntKind.i64 (l.getD k mD).at' :: AV.int IntKind.i64 (l.getD k mD).score :: AV.slv (l.getD k mD).verd.length (nat_lit 1) (List.map (AV.int IntKind.i64) (l.getD k mD).verd) :: flatA encM (List.drop (k + (1 : Nat)) l))), (15, AV.agg [AV.str (l.getD k mD).st, AV.str (l.getD k mD).tk, AV.int IntKind.i64 (l.getD k mD).ver, AV.bool (l.getD k mD).pend, AV.int IntKind.i64 (l.getD k mD).kind, AV.int IntKind.i64 (l.getD k mD).err, AV.str (l.getD k mD).path, AV.int IntKind.i64 (l.getD k mD).at', AV.int IntKind.i64 (l.getD k mD).score, AV.slv (l.getD k mD).verd.length (nat_lit 1) (List.map (AV.int IntKind.i64) (l.getD k mD).verd)])] []) (by kernel_rfl) (by kernel_rfl) (by exact by exact Nat.le_of_ble_eq_true (by kernel_rfl)) ?_
    refine n_lendc 41 [.agg (encM (l.getD k mD)), .fptr [.str st, .str tk]] [.agg (encM (l.getD k mD)), .fptr [.str st, .str tk]] (.bool (isP (l.getD k mD) st tk)) [] _ (by kernel_rfl) (by kernel_rfl) (by kernel_rfl) (lit_v (l.getD k mD) st tk) (by kernel_rfl) rfl ?_
    refine n_sel [0, 1, 4, 5, 7, 8, 9, 16] (stOf 19 [(0, AV.slv l.length (nat_lit 10) (flatA encM l)), (1, AV.fn (Fn.func (41 : FuncId)) [] [AV.fptr [AV.str st, AV.str tk]]), (5, AV.int IntKind.i64 (↑k : Int)), (7, AV.int IntKind.i64 (↑l.length : Int)), (8, AV.int IntKind.i64 (↑k : Int)), (9, AV.bool true), (16, AV.bool (isP (l.getD k mD) st tk))] []) (by kernel_rfl) (n_done ?_)
    refine k_then ?_
    refine q_cond (by kernel_rfl) (isP (l.getD k mD) st tk) (by kernel_rfl) (fun h1 => ?_) (fun h1 => ?_)
    · refine q_seq (by kernel_rfl) ?_
      refine q_run True [0, 1, 4, 5, 7, 8, 9, 16] (stOf 19 [(0, AV.slv l.length (nat_lit 10) (flatA encM l)), (1, AV.fn (Fn.func (41 : FuncId)) [] [AV.fptr [AV.str st, AV.str tk]]), (4, AV.int IntKind.i64 (↑k : Int)), (5, AV.int IntKind.i64 (↑k : Int)), (7, AV.int IntKind.i64 (↑l.length : Int)), (8, AV.int IntKind.i64 (↑k : Int)), (9, AV.bool true), (16, AV.bool (isP (l.getD k mD) st tk))] []) (by kernel_rfl) (by kernel_rfl) (by kernel_rfl) (by kernel_rfl) trivial ?_
      refine k_then ?_
      refine q_ret (by kernel_rfl) ?_
      refine k_blockr ?_
      refine k_thenr ?_
      refine k_loopr ?_
      refine k_blockr ?_
      refine k_thenr ?_
      refine k_fin (True) (AV.int IntKind.i64 (↑k : Int)) [] [] (AV.int IntKind.i64 (↑k : Int)) (by kernel_rfl) (by kernel_rfl) (by kernel_rfl) trivial (keep_nil _) ?_
      exact ⟨by rw [hE, hR, h1]; rfl, rfl⟩
    · refine q_skip (by kernel_rfl) ?_
      refine k_block ?_
      refine k_then ?_
      refine q_reg (by kernel_rfl) ?_
      refine n_run 1 (True) [1] (stOf 19 [(0, AV.slv l.length (nat_lit 10) (flatA encM l)), (1, AV.fn (Fn.func (41 : FuncId)) [] [AV.fptr [AV.str st, AV.str tk]]), (5, AV.int IntKind.i64 (↑k : Int)), (7, AV.int IntKind.i64 (↑l.length : Int)), (8, AV.int IntKind.i64 (↑k : Int)), (9, AV.bool true), (16, AV.bool (isP (l.getD k mD) st tk)), (18, AV.int IntKind.i64 (IntKind.i64.wrap ((↑k : Int) + (1 : Int))))] []) (by kernel_rfl) (by kernel_rfl) trivial ?_
      refine n_set 18 (AV.int IntKind.i64 (IntKind.i64.wrap ((↑k : Int) + (1 : Int)))) (AV.int IntKind.i64 ((↑k : Int) + (1 : Int))) (by kernel_rfl) (by rw [wrap_i64 (e := (↑k : Int) + (1 : Int)) (by omega) (by omega)]) ?_
      refine n_run 1 (True) [] (stOf 19 [(0, AV.slv l.length (nat_lit 10) (flatA encM l)), (1, AV.fn (Fn.func (41 : FuncId)) [] [AV.fptr [AV.str st, AV.str tk]]), (5, AV.int IntKind.i64 (↑k : Int)), (7, AV.int IntKind.i64 (↑l.length : Int)), (8, AV.int IntKind.i64 ((↑k : Int) + (1 : Int))), (9, AV.bool true), (16, AV.bool (isP (l.getD k mD) st tk)), (18, AV.int IntKind.i64 ((↑k : Int) + (1 : Int)))] []) (by kernel_rfl) (by kernel_rfl) trivial ?_
      refine n_sel [0, 1, 4, 5, 7, 8, 9, 16] (stOf 19 [(0, AV.slv l.length (nat_lit 10) (flatA encM l)), (1, AV.fn (Fn.func (41 : FuncId)) [] [AV.fptr [AV.str st, AV.str tk]]), (5, AV.int IntKind.i64 (↑k : Int)), (7, AV.int IntKind.i64 (↑l.length : Int)), (8, AV.int IntKind.i64 ((↑k : Int) + (1 : Int))), (9, AV.bool true), (16, AV.bool (isP (l.getD k mD) st tk))] []) (by kernel_rfl) (n_done ?_)
      refine k_loopd (l.length - (k + 1)) (by omega) ⟨k + 1, rfl, by omega, by rw [hE, hR, h1]; rfl, by kernel_rfl⟩
  · have hc : decide ((k : Int) < (l.length : Int)) = false := by rw [decide_eq_false_iff_not]; omega
    refine q_seq (by kernel_rfl) ?_
    refine q_run True [0, 1, 4, 5, 7, 8, 9, 16] (stOf 19 [(0, AV.slv l.length (nat_lit 10) (flatA encM l)), (1, AV.fn (Fn.func (41 : FuncId)) [] [AV.fptr [AV.str st, AV.str tk]]), (7, AV.int IntKind.i64 (↑l.length : Int)), (8, AV.int IntKind.i64 (↑k : Int)), (9, AV.bool (decide ((↑k : Int) < (↑l.length : Int))))] []) (by kernel_rfl) (by kernel_rfl) (by kernel_rfl) (by kernel_rfl) trivial ?_
    refine k_then ?_
    refine q_set 9 (AV.bool (decide ((↑k : Int) < (↑l.length : Int)))) (AV.bool false) (by kernel_rfl) (by rw [hc] <;> rfl) ?_
    refine q_seq (by kernel_rfl) ?_
    refine q_no (by kernel_rfl) false (by kernel_rfl) rfl ?_
    refine q_exit (by kernel_rfl) 0 (by kernel_rfl) ?_
    refine k_thenx ?_
    refine k_loopx ?_
    refine k_blockx (by kernel_rfl) ?_
    refine k_then ?_
    refine q_seq (by kernel_rfl) ?_
    refine q_run True [0, 1, 4, 5, 7, 8, 9, 16] (stOf 19 [(0, AV.slv l.length (nat_lit 10) (flatA encM l)), (1, AV.fn (Fn.func (41 : FuncId)) [] [AV.fptr [AV.str st, AV.str tk]]), (4, AV.int IntKind.i64 (-1 : Int)), (7, AV.int IntKind.i64 (↑l.length : Int)), (8, AV.int IntKind.i64 (↑k : Int)), (9, AV.bool false)] []) (by kernel_rfl) (by kernel_rfl) (by kernel_rfl) (by kernel_rfl) trivial ?_
    refine k_then ?_
    refine q_ret (by kernel_rfl) ?_
    refine k_fin (True) (AV.int IntKind.i64 (-1 : Int)) [] [] (AV.int IntKind.i64 (-1 : Int)) (by kernel_rfl) (by kernel_rfl) (by kernel_rfl) trivial (keep_nil _) ?_
    exact ⟨by rw [hE, ixL_end hge], rfl⟩
theorem index_v (l : List Mk) (st tk : ByteArray) (hl : OkL l) : CallsV Try.prog 29 [marksV l, .agg [.str st, .str tk]] [] (fun av H' => av = .int .i64 (ixL st tk 0 l) ∧ H' = []) := by
  refine callsV_at Try.func29 (by kernel_rfl) ?_
  refine q_seq (by kernel_rfl) ?_
  refine q_run True [0, 1, 3, 4] (stOf 8 [(0, AV.slv l.length (nat_lit 10) (flatA encM l)), (1, AV.agg [AV.str st, AV.str tk]), (3, AV.ptr (0 : Nat) (nat_lit 0)), (4, AV.int IntKind.i64 (0 : Int))] [Blk.row (nat_lit 31) [AV.str st, AV.str tk]]) (by kernel_rfl) (by kernel_rfl) (by kernel_rfl) (by kernel_rfl) trivial ?_
  refine k_then ?_
  refine q_seq (by kernel_rfl) ?_
  refine q_reg (by kernel_rfl) ?_
  refine n_run 1 (True) [1, 2, 3] (stOf 8 [(0, AV.slv l.length (nat_lit 10) (flatA encM l)), (1, AV.agg [AV.str st, AV.str tk]), (3, AV.ptr (nat_lit 0) (nat_lit 0)), (4, AV.int IntKind.i64 (0 : Int)), (5, AV.slv l.length (nat_lit 10) (flatA encM l))] [Blk.row (nat_lit 31) [AV.str st, AV.str tk]]) (by kernel_rfl) (by kernel_rfl) trivial ?_
  refine n_evl (noX_ok _) 1 (AV.fn (.func 41) [] [.ptr 0 0]) [Blk.row 31 [.str st, .str tk]] _ (by kernel_rfl) (by kernel_rfl) rfl ?_
  refine n_lendc (34 : Nat) [AV.slv l.length (nat_lit 10) (flatA encM l), AV.fn (Fn.func (41 : FuncId)) [] [AV.ptr (nat_lit 0) (nat_lit 0)]] [AV.slv l.length (nat_lit 10) (flatA encM l), AV.fn (Fn.func (41 : FuncId)) [] [AV.fptr [AV.str st, AV.str tk]]] (AV.int IntKind.i64 (ixL st tk (0 : Nat) l)) ([]) (stOf 8 [(0, AV.slv l.length (nat_lit 10) (flatA encM l)), (1, AV.agg [AV.str st, AV.str tk]), (3, AV.ptr (nat_lit 0) (nat_lit 0)), (4, AV.int IntKind.i64 (0 : Int)), (5, AV.slv l.length (nat_lit 10) (flatA encM l)), (6, AV.fn (Fn.func (41 : FuncId)) [] [AV.ptr (nat_lit 0) (nat_lit 0)]), (7, AV.int IntKind.i64 (ixL st tk (0 : Nat) l))] [Blk.row (nat_lit 31) [AV.str st, AV.str tk]]) (by kernel_rfl) (by kernel_rfl) (by kernel_rfl) (indexFunc_v l st tk hl ) (by kernel_rfl) (by kernel_rfl) ?_
  refine n_run 1 (True) [] (stOf 8 [(0, AV.slv l.length (nat_lit 10) (flatA encM l)), (1, AV.agg [AV.str st, AV.str tk]), (3, AV.ptr (nat_lit 0) (nat_lit 0)), (4, AV.int IntKind.i64 (ixL st tk (0 : Nat) l)), (5, AV.slv l.length (nat_lit 10) (flatA encM l)), (6, AV.fn (Fn.func (41 : FuncId)) [] [AV.ptr (nat_lit 0) (nat_lit 0)]), (7, AV.int IntKind.i64 (ixL st tk (0 : Nat) l))] [Blk.row (nat_lit 31) [AV.str st, AV.str tk]]) (by kernel_rfl) (by kernel_rfl) trivial ?_
  refine n_sel [0, 1, 3, 4] (stOf 8 [(0, AV.slv l.length (nat_lit 10) (flatA encM l)), (1, AV.agg [AV.str st, AV.str tk]), (3, AV.ptr (nat_lit 0) (nat_lit 0)), (4, AV.int IntKind.i64 (ixL st tk (0 : Nat) l))] [Blk.row (nat_lit 31) [AV.str st, AV.str tk]]) (by kernel_rfl) (n_done ?_)
  refine k_then ?_
  refine q_ret (by kernel_rfl) ?_
  refine k_fin (True) (AV.int IntKind.i64 (ixL st tk (0 : Nat) l)) [] [] (AV.int IntKind.i64 (ixL st tk (0 : Nat) l)) (by kernel_rfl) (by kernel_rfl) (by kernel_rfl) trivial (keep_nil _) ?_
  exact ⟨rfl, rfl⟩
theorem place_v (l : List Mk) (st tk : ByteArray) (hl : OkL l) : CallsV Try.prog 31 [marksV l, .agg [.str st, .str tk]] [] (fun av H' => av = .int .i64 (ixL st tk 0 l) ∧ H' = []) := by
  refine callsV_at Try.func31 (by kernel_rfl) ?_
  refine q_seq (by kernel_rfl) ?_
  refine q_run True [0, 1, 3, 4, 5, 9, 18] (stOf 20 [(0, AV.slv l.length (nat_lit 10) (flatA encM l)), (1, AV.agg [AV.str st, AV.str tk]), (3, AV.ptr (0 : Nat) (nat_lit 0)), (4, AV.int IntKind.i64 (0 : Int))] [Blk.row (nat_lit 31) [AV.str st, AV.str tk]]) (by kernel_rfl) (by kernel_rfl) (by kernel_rfl) (by kernel_rfl) trivial ?_
  refine k_then ?_
  refine q_seq (by kernel_rfl) ?_
  refine q_seq (by kernel_rfl) ?_
  refine q_run True [0, 1, 3, 4, 5, 9, 18] (stOf 20 [(0, AV.slv l.length (nat_lit 10) (flatA encM l)), (1, AV.agg [AV.str st, AV.str tk]), (3, AV.ptr (nat_lit 0) (nat_lit 0)), (4, AV.int IntKind.i64 (0 : Int)), (5, AV.int IntKind.i64 (0 : Int))] [Blk.row (nat_lit 31) [AV.str st, AV.str tk]]) (by kernel_rfl) (by kernel_rfl) (by kernel_rfl) (by kernel_rfl) trivial ?_
  refine k_then ?_
  refine q_block (by kernel_rfl) ?_
  refine q_loop (by kernel_rfl) [0, 1, 3, 5] l.length (fun n' s' => ∃ k : Nat, n' = l.length - k ∧ k ≤ l.length ∧ ixL st tk 0 l = ixL st tk k (l.drop k) ∧ s' = stOf 20 [(0, marksV l), (1, AV.agg [.str st, .str tk]), (3, .ptr 0 0), (5, AV.int .i64 (k : Int))] [.row 31 [.str st, .str tk]]) ⟨0, rfl, by omega, rfl, by kernel_rfl⟩ ?_
  rintro n' _ ⟨k, rfl, hk, hE, rfl⟩
  rcases Nat.lt_or_ge k l.length with hlt | hge
  · have hc : decide ((k : Int) < (l.length : Int)) = true := by rw [decide_eq_true_iff]; omega
    have hd := marks_at l k hlt
    have hR := ixL_at (st := st) (tk := tk) hlt
    have hB := hl.1
    refine q_seq (by kernel_rfl) ?_
    refine q_seq (by kernel_rfl) ?_
    refine q_run True [0, 1, 3, 4, 5, 9, 18] (stOf 20 [(0, AV.slv l.length (nat_lit 10) (flatA encM l)), (1, AV.agg [AV.str st, AV.str tk]), (3, AV.ptr (nat_lit 0) (nat_lit 0)), (5, AV.int IntKind.i64 (↑k : Int)), (9, AV.bool (decide ((↑k : Int) < (↑l.length : Int))))] [Blk.row (nat_lit 31) [AV.str st, AV.str tk]]) (by kernel_rfl) (by kernel_rfl) (by kernel_rfl) (by kernel_rfl) trivial ?_
    refine k_then ?_
    refine q_set 9 (AV.bool (decide ((↑k : Int) < (↑l.length : Int)))) (AV.bool true) (by kernel_rfl) (by rw [hc] <;> rfl) ?_
    refine q_yes (by kernel_rfl) true (by kernel_rfl) rfl ?_
    refine q_skip (by kernel_rfl) ?_
    refine k_then ?_
    refine q_seq (by kernel_rfl) ?_
    refine q_block (by kernel_rfl) ?_
    refine q_seq (by kernel_rfl) ?_
    refine q_draw (by kernel_rfl) (by kernel_rfl) ?_
    refine d_takes [0, 1, 2] ((0 : Int) ≤ (↑k : Int) ∧ (↑k : Int) < (↑l.length : Int)) 4 #[true, true, true, false, false, false, false] (stOf 20 [(0, AV.slv l.length (nat_lit 10) (flatA encM l)), (1, AV.agg [AV.str st, AV.str tk]), (3, AV.ptr (nat_lit 0) (nat_lit 0)), (5, AV.int IntKind.i64 (↑k : Int)), (9, AV.bool true), (12, AV.slv l.length (nat_lit 10) (flatA encM l)), (13, AV.int IntKind.i64 (↑k : Int)), (14, AV.fptr (List.drop ((↑k : Int).toNat * nat_lit 10) (flatA encM l)))] [Blk.row (nat_lit 31) [AV.str st, AV.str tk]]) (by kernel_rfl) (by kernel_rfl) (by kernel_rfl) (by exact ⟨by omega, by omega⟩) ?_
    refine d_set 14 (AV.fptr (List.drop ((↑k : Int).toNat * nat_lit 10) (flatA encM l))) (AV.fptr (AV.str (l.getD k mD).st :: AV.str (l.getD k mD).tk :: AV.int IntKind.i64 (l.getD k mD).ver :: AV.bool (l.getD k mD).pend :: AV.int IntKind.i64 (l.getD k mD).kind :: AV.int IntKind.i64 (l.getD k mD).err :: AV.str (l.getD k mD).path :: AV.int IntKind.i64 (l.getD k mD).at' :: AV.int IntKind.i64 (l.getD k mD).score :: AV.slv (l.getD k mD).verd.length (nat_lit 1) (List.map (AV.int IntKind.i64) (l.getD k mD).verd) :: flatA encM (List.drop (k + (1 : Nat)) l))) (by kernel_rfl) (by rw [hd] <;> rfl) ?_
    refine d_takes [3, 4, 5, 6] ((2 : Nat) ≤ (List.drop (0 : Nat) (AV.str (l.getD k mD).st :: AV.str (l.getD k mD).tk :: AV.int IntKind.i64 (l.getD k mD).ver :: AV.bool (l.getD k mD).pend :: AV.int IntKind.i64 (l.getD k mD).kind :: AV.int IntKind.i64 (l.getD k mD).err :: AV.str (l.getD k mD).path :: AV.int IntKind.i64 (l.getD k mD).at' :: AV.int IntKind.i64 (l.getD k mD).score :: AV.slv (l.getD k mD).verd.length (1 : Nat) (List.map (AV.int IntKind.i64) (l.getD k mD).verd) :: flatA encM (List.drop (k + (1 : Nat)) l))).length ∧ (2 : Nat) ≤ (2 : Nat)) 0 #[true, true, true, true, true, true, true] (stOf 20 [(0, AV.slv l.length (nat_lit 10) (flatA encM l)), (1, AV.agg [AV.str st, AV.str tk]), (3, AV.ptr (nat_lit 0) (nat_lit 0)), (5, AV.int IntKind.i64 (↑k : Int)), (9, AV.bool true), (12, AV.slv l.length (nat_lit 10) (flatA encM l)), (13, AV.int IntKind.i64 (↑k : Int)), (14, AV.fptr (AV.str (l.getD k mD).st :: AV.str (l.getD k mD).tk :: AV.int IntKind.i64 (l.getD k mD).ver :: AV.bool (l.getD k mD).pend :: AV.int IntKind.i64 (l.getD k mD).kind :: AV.int IntKind.i64 (l.getD k mD).err :: AV.str (l.getD k mD).path :: AV.int IntKind.i64 (l.getD k mD).at' :: AV.int IntKind.i64 (l.getD k mD).score :: AV.slv (l.getD k mD).verd.length (nat_lit 1) (List.map (AV.int IntKind.i64) (l.getD k mD).verd) :: flatA encM (List.drop (k + (1 : Nat)) l))), (15, AV.fptr (AV.str (l.getD k mD).st :: AV.str (l.getD k mD).tk :: AV.int IntKind.i64 (l.getD k mD).ver :: AV.bool (l.getD k mD).pend :: AV.int IntKind.i64 (l.getD k mD).kind :: AV.int IntKind.i64 (l.getD k mD).err :: AV.str (l.getD k mD).path :: AV.int IntKind.i64 (l.getD k mD).at' :: AV.int IntKind.i64 (l.getD k mD).score :: AV.slv (l.getD k mD).verd.length (nat_lit 1) (List.map (AV.int IntKind.i64) (l.getD k mD).verd) :: flatA encM (List.drop (k + (1 : Nat)) l))), (16, AV.agg [AV.str (l.getD k mD).st, AV.str (l.getD k mD).tk]), (17, AV.agg [AV.str st, AV.str tk]), (18, AV.bool ((l.getD k mD).st.toList == st.toList && ((l.getD k mD).tk.toList == tk.toList && true)))] [Blk.row (nat_lit 31) [AV.str st, AV.str tk]]) (by kernel_rfl) (by kernel_rfl) (by kernel_rfl) (by exact ⟨by exact Nat.le_of_ble_eq_true (by kernel_rfl), by omega⟩) ?_
    refine d_done [0, 1, 3, 4, 5, 9, 18] (stOf 20 [(0, AV.slv l.length (nat_lit 10) (flatA encM l)), (1, AV.agg [AV.str st, AV.str tk]), (3, AV.ptr (nat_lit 0) (nat_lit 0)), (5, AV.int IntKind.i64 (↑k : Int)), (9, AV.bool true), (18, AV.bool ((l.getD k mD).st.toList == st.toList && ((l.getD k mD).tk.toList == tk.toList && true)))] [Blk.row (nat_lit 31) [AV.str st, AV.str tk]]) (by kernel_rfl) (by kernel_rfl) ?_
    refine k_then ?_
    refine q_cond (by kernel_rfl) ((l.getD k mD).st.toList == st.toList && ((l.getD k mD).tk.toList == tk.toList && true)) (by kernel_rfl) (fun h1 => ?_) (fun h1 => ?_)
    · (have g1 := h1; simp only [Bool.cond_true_left, Bool.cond_false_right, Bool.cond_false_left, Bool.cond_true_right, beq_true, beq_false, Bool.not_not, Bool.or_eq_true, Bool.and_eq_true, Bool.or_eq_false_iff, Bool.and_eq_false_iff, Bool.not_eq_true', Bool.not_eq_false', beq_iff_eq, beq_eq_false_iff_ne, bne_iff_ne, bne_eq_false_iff_eq, decide_eq_true_eq, decide_eq_false_iff_not, ne_eq] at g1)
      refine q_seq (by kernel_rfl) ?_
      refine q_run True [0, 1, 3, 4, 5, 9, 18] (stOf 20 [(0, AV.slv l.length (nat_lit 10) (flatA encM l)), (1, AV.agg [AV.str st, AV.str tk]), (3, AV.ptr (nat_lit 0) (nat_lit 0)), (4, AV.int IntKind.i64 (↑k : Int)), (5, AV.int IntKind.i64 (↑k : Int)), (9, AV.bool true), (18, AV.bool ((l.getD k mD).st.toList == st.toList && ((l.getD k mD).tk.toList == tk.toList && true)))] [Blk.row (nat_lit 31) [AV.str st, AV.str tk]]) (by kernel_rfl) (by kernel_rfl) (by kernel_rfl) (by kernel_rfl) trivial ?_
      refine k_then ?_
      refine q_ret (by kernel_rfl) ?_
      refine k_blockr ?_
      refine k_thenr ?_
      refine k_loopr ?_
      refine k_blockr ?_
      refine k_thenr ?_
      refine k_fin (True) (AV.int IntKind.i64 (↑k : Int)) [] [] (AV.int IntKind.i64 (↑k : Int)) (by kernel_rfl) (by kernel_rfl) (by kernel_rfl) trivial (keep_nil _) ?_
      exact ⟨by rw [hE, hR, isP, h1]; rfl, rfl⟩
    · (have g1 := h1; simp only [Bool.cond_true_left, Bool.cond_false_right, Bool.cond_false_left, Bool.cond_true_right, beq_true, beq_false, Bool.not_not, Bool.or_eq_true, Bool.and_eq_true, Bool.or_eq_false_iff, Bool.and_eq_false_iff, Bool.not_eq_true', Bool.not_eq_false', beq_iff_eq, beq_eq_false_iff_ne, bne_iff_ne, bne_eq_false_iff_eq, decide_eq_true_eq, decide_eq_false_iff_not, ne_eq] at g1)
      refine q_skip (by kernel_rfl) ?_
      refine k_block ?_
      refine k_then ?_
      refine q_reg (by kernel_rfl) ?_
      refine n_run 2 (True) [2] (stOf 20 [(0, AV.slv l.length (nat_lit 10) (flatA encM l)), (1, AV.agg [AV.str st, AV.str tk]), (3, AV.ptr (nat_lit 0) (nat_lit 0)), (5, AV.int IntKind.i64 (↑k : Int)), (9, AV.bool true), (10, AV.int IntKind.i64 (↑k : Int)), (11, AV.int IntKind.i64 (IntKind.i64.wrap ((↑k : Int) + (1 : Int)))), (18, AV.bool ((l.getD k mD).st.toList == st.toList && ((l.getD k mD).tk.toList == tk.toList && true)))] [Blk.row (nat_lit 31) [AV.str st, AV.str tk]]) (by kernel_rfl) (by kernel_rfl) trivial ?_
      refine n_set 11 (AV.int IntKind.i64 (IntKind.i64.wrap ((↑k : Int) + (1 : Int)))) (AV.int IntKind.i64 ((↑k : Int) + (1 : Int))) (by kernel_rfl) (by rw [wrap_i64 (e := (↑k : Int) + (1 : Int)) (by omega) (by omega)]) ?_
      refine n_run 1 (True) [] (stOf 20 [(0, AV.slv l.length (nat_lit 10) (flatA encM l)), (1, AV.agg [AV.str st, AV.str tk]), (3, AV.ptr (nat_lit 0) (nat_lit 0)), (5, AV.int IntKind.i64 ((↑k : Int) + (1 : Int))), (9, AV.bool true), (10, AV.int IntKind.i64 (↑k : Int)), (11, AV.int IntKind.i64 ((↑k : Int) + (1 : Int))), (18, AV.bool ((l.getD k mD).st.toList == st.toList && ((l.getD k mD).tk.toList == tk.toList && true)))] [Blk.row (nat_lit 31) [AV.str st, AV.str tk]]) (by kernel_rfl) (by kernel_rfl) trivial ?_
      refine n_sel [0, 1, 3, 4, 5, 9, 18] (stOf 20 [(0, AV.slv l.length (nat_lit 10) (flatA encM l)), (1, AV.agg [AV.str st, AV.str tk]), (3, AV.ptr (nat_lit 0) (nat_lit 0)), (5, AV.int IntKind.i64 ((↑k : Int) + (1 : Int))), (9, AV.bool true), (18, AV.bool ((l.getD k mD).st.toList == st.toList && ((l.getD k mD).tk.toList == tk.toList && true)))] [Blk.row (nat_lit 31) [AV.str st, AV.str tk]]) (by kernel_rfl) (n_done ?_)
      refine k_loop (l.length - (k + 1)) (by omega) ⟨k + 1, rfl, by omega, by rw [hE, hR, isP, h1]; rfl, by kernel_rfl⟩
  · have hc : decide ((k : Int) < (l.length : Int)) = false := by rw [decide_eq_false_iff_not]; omega
    refine q_seq (by kernel_rfl) ?_
    refine q_seq (by kernel_rfl) ?_
    refine q_run True [0, 1, 3, 4, 5, 9, 18] (stOf 20 [(0, AV.slv l.length (nat_lit 10) (flatA encM l)), (1, AV.agg [AV.str st, AV.str tk]), (3, AV.ptr (nat_lit 0) (nat_lit 0)), (5, AV.int IntKind.i64 (↑k : Int)), (9, AV.bool (decide ((↑k : Int) < (↑l.length : Int))))] [Blk.row (nat_lit 31) [AV.str st, AV.str tk]]) (by kernel_rfl) (by kernel_rfl) (by kernel_rfl) (by kernel_rfl) trivial ?_
    refine k_then ?_
    refine q_set 9 (AV.bool (decide ((↑k : Int) < (↑l.length : Int)))) (AV.bool false) (by kernel_rfl) (by rw [hc] <;> rfl) ?_
    refine q_no (by kernel_rfl) false (by kernel_rfl) rfl ?_
    refine q_exit (by kernel_rfl) 0 (by kernel_rfl) ?_
    refine k_thenx ?_
    refine k_loopx ?_
    refine k_blockx (by kernel_rfl) ?_
    refine k_then ?_
    refine q_seq (by kernel_rfl) ?_
    refine q_run True [0, 1, 3, 4, 5, 9, 18] (stOf 20 [(0, AV.slv l.length (nat_lit 10) (flatA encM l)), (1, AV.agg [AV.str st, AV.str tk]), (3, AV.ptr (nat_lit 0) (nat_lit 0)), (4, AV.int IntKind.i64 (-1 : Int)), (5, AV.int IntKind.i64 (↑k : Int)), (9, AV.bool false)] [Blk.row (nat_lit 31) [AV.str st, AV.str tk]]) (by kernel_rfl) (by kernel_rfl) (by kernel_rfl) (by kernel_rfl) trivial ?_
    refine k_then ?_
    refine q_ret (by kernel_rfl) ?_
    refine k_fin (True) (AV.int IntKind.i64 (-1 : Int)) [] [] (AV.int IntKind.i64 (-1 : Int)) (by kernel_rfl) (by kernel_rfl) (by kernel_rfl) trivial (keep_nil _) ?_
    exact ⟨by rw [hE, ixL_end hge], rfl⟩
end Go.Proofs.Ytlmkeoegammdjaa
