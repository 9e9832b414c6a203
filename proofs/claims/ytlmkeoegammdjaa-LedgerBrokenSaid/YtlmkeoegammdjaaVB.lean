/-
  Contracts of the functions on marks, in the logic of values.
-/
import Derived.Test.YtlmkeoegammdjaaVo
import Derived.Test.YtlmkeoegammdjaaVA
import Derived.Test.YtlmkeoegammdjaaVnq
namespace Go.Proofs.Ytlmkeoegammdjaa.V
open Go Go.RowKit
section
variable {P : Program} {Q : Exit → St → Prop} {c : Code} {s : St} {ops : Array Oper} {l : List Nat}
theorem Q_seq (k : WpV P (cL c) (thenV P (cR c) Q) s) (h : kd c = 3 := by kernel_rfl) : WpV P c Q s := q_seq h k
theorem Q_reg (k : RunN P (cO c) Q (List.range (cO c).size) s) (h : kd c = 1 := by kernel_rfl) : WpV P c Q s := q_reg h k
theorem Q_run (ks : List Nat) (s' : St) (k : Q .normal s') (h : kd c = 1 := by kernel_rfl) (h0 : selS ks (effN P (cO c) (cO c).size (List.range (cO c).size) s).2.2 = s' := by kernel_rfl) (hl : (effN P (cO c) (cO c).size (List.range (cO c).size) s).2.1 = [] := by kernel_rfl) (hC : allP (effN P (cO c) (cO c).size (List.range (cO c).size) s).1 = True := by kernel_rfl) : WpV P c Q s := q_run True ks s' h h0 hl hC trivial k
theorem N_run (k : Nat) (C : Prop) (l' : List Nat) (s' : St) (hok : C) (h : RunN P ops Q l' s') (h0 : (effN P ops k l s).2 = (l', s') := by kernel_rfl) (hC : allP (effN P ops k l s).1 = C := by kernel_rfl) : RunN P ops Q l s := n_run k C l' s' h0 hC hok h
theorem N_sel (ks : List Nat) (s' : St) (k : Q .normal s') (h : selS ks s = s' := by kernel_rfl) : RunN P ops Q [] s := n_sel ks s' h (n_done k)
end
section
variable {P : Program} {s : St} {Q : Exit → St → Prop} {ops : Array Oper} {qc : Bool} {n0 n : Nat} {listed : Array Bool}
theorem T_still (i : Nat) (m : Nat) (listed' : Array Bool) (s' : St) (k : RunT P ops Q (quietB qc ops) n0 m listed' s') (hn : m + 1 = n := by kernel_rfl) (hc : (decide (i < ops.size) && (Region.noSelect ops && (Region.free .any ops listed i && (Region.ready .any ops listed).contains i))) = true := by kernel_rfl) (hw : wantG ops s (opAt ops i) = some true := by kernel_rfl) (hp : stillB P s.ev (opAt ops i).op = true := by kernel_rfl)
    (hs : s.put (opAt ops i).dst (pureE P s.H s.ev (opAt ops i).op).2 = s' := by kernel_rfl) (hl : listed.setIfInBounds i true = listed' := by kernel_rfl) : RunT P ops Q (quietB qc ops) n0 n listed s := t_still i m listed' s' hn hc hw hp hs hl k
theorem T_take (i : Nat) (C : Prop) (m : Nat) (listed' : Array Bool) (s' : St) (hok : C) (k : RunT P ops Q (quietB qc ops) n0 m listed' s') (hn : m + 1 = n := by kernel_rfl) (hc : (decide (i < ops.size) && (Region.noSelect ops && (Region.free .any ops listed i && (Region.ready .any ops listed).contains i))) = true := by kernel_rfl) (hf : firstB ops (quietB qc ops) listed i = true := by kernel_rfl) (hw : wantG ops s (opAt ops i) = some true := by kernel_rfl)
    (hC : allP (pureE P s.H s.ev (opAt ops i).op).1 = C := by kernel_rfl) (hs : s.put (opAt ops i).dst (pureE P s.H s.ev (opAt ops i).op).2 = s' := by kernel_rfl) (hl : listed.setIfInBounds i true = listed' := by kernel_rfl) : RunT P ops Q (quietB qc ops) n0 n listed s := t_take i C m listed' s' hn hc hf hw hC hs hl hok k
end
end Go.Proofs.Ytlmkeoegammdjaa.V
namespace Go.Proofs.Ytlmkeoegammdjaa
open Go Go.RowKit V
set_option linter.unusedSimpArgs false
set_option linter.unusedVariables false

/-- a mark -/
structure Mk where
  st : ByteArray
  tk : ByteArray
  ver : Int
  pend : Bool
  kind : Int
  err : Int
  path : ByteArray
  at' : Int
  score : Int
  verd : List Int
instance : Inhabited Mk := ⟨⟨ByteArray.empty, ByteArray.empty, 0, false, 0, 0, ByteArray.empty, 0, 0, []⟩⟩
abbrev intsV (l : List Int) : AV := .slv l.length 1 (l.map (AV.int .i64))
def encM (m : Mk) : List AV := [.str m.st, .str m.tk, .int .i64 m.ver, .bool m.pend, .int .i64 m.kind, .int .i64 m.err, .str m.path, .int .i64 m.at', .int .i64 m.score, intsV m.verd]
theorem lenM (m : Mk) : (encM m).length = 10 := rfl
def OkM (m : Mk) : Prop := m.verd.length ≤ 1000000000
abbrev marksV (l : List Mk) : AV := .slv l.length 10 (flatA encM l)
theorem noidM (l : List Mk) : ∀ x ∈ flatA encM l, noid0 x = true := flatA_all (fun m a ha => by
  simp only [encM, List.mem_cons, List.not_mem_nil, or_false] at ha
  rcases ha with rfl | rfl | rfl | rfl | rfl | rfl | rfl | rfl | rfl | rfl <;> rfl) l
theorem noidI (l : List Int) : ∀ x ∈ l.map (AV.int .i64), noid0 x = true ∧ x ≠ .junk := by
  intro x hx
  obtain ⟨n, _, rfl⟩ := List.mem_map.1 hx
  exact ⟨rfl, by simp⟩
set_option maxHeartbeats 20000000 in
theorem cloneInts0_v (l : List Int) (hl : l.length ≤ 1000000000) : CallsV Try.prog 42 [intsV l] [] (fun av H' => (av = intsV l ∨ (l.length = 0 ∧ av = .nilsl)) ∧ H' = []) := by
  refine callsV_at Try.func42 (by kernel_rfl) ?_
  refine Q_seq ?_
  refine Q_run [0, 2, 4] (stOf 8 [(0, .slv l.length 1 (List.map (.int .i64) l)), (2, .nilsl)] []) ?_
  refine k_then ?_
  refine Q_seq ?_
  refine Q_seq ?_
  refine Q_reg ?_
  refine N_run 1 (True) [1] (stOf 8 [(0, .slv l.length 1 (List.map (.int .i64) l)), (2, .nilsl), (3, .slv l.length 1 (List.map (.int .i64) l))] []) trivial ?_
  refine n_nilq 34 (Operand.tmp 3) (Operand.const (Value.slice none 0 0)) true (l.length) 1 (List.map (.int .i64) l) (by kernel_rfl) (by kernel_rfl) (by kernel_rfl) (by kernel_rfl) (by kernel_rfl) (fun b1_1 hb1_1 => ?_)
  refine N_sel [0, 2, 4] (stOf 8 [(0, .slv l.length 1 (List.map (.int .i64) l)), (2, .nilsl), (4, .bool b1_1)] []) ?_
  refine k_then ?_
  refine q_cond (by kernel_rfl) (b1_1) (by kernel_rfl) (fun h1 => ?_) (fun h1 => ?_)
  · refine Q_seq ?_
    refine Q_run [0, 2, 4] (stOf 8 [(0, .slv l.length 1 (List.map (.int .i64) l)), (2, .nilsl), (4, .bool b1_1)] []) ?_
    refine k_then ?_
    refine q_ret (by kernel_rfl) ?_
    refine k_thenr ?_
    refine k_fin (True) (.nilsl) [] [] (.nilsl) (by kernel_rfl) (by kernel_rfl) (by kernel_rfl) trivial (keep_nil _) ?_
    exact ⟨Or.inr ⟨hb1_1 h1, rfl⟩, rfl⟩
  · refine q_skip (by kernel_rfl) ?_
    refine k_then ?_
    refine Q_seq ?_
    refine Q_reg ?_
    refine N_run 2 (True) [2, 3] (stOf 8 [(0, .slv l.length 1 (List.map (.int .i64) l)), (2, .nilsl), (4, .bool b1_1), (5, .sl 0 0 0 1), (6, .slv l.length 1 (List.map (.int .i64) l))] [.row 3 []]) trivial ?_
    refine n_append 34 3 1 8 0 l.length (k := some 0) [] (l.map (.int .i64)) (.tmp 5) (.tmp 6) _ (by kernel_rfl) (by kernel_rfl) (by kernel_rfl) (Or.inr ⟨0, _, rfl, rfl, rfl, rfl, by simp [lenM]⟩) (Or.inl rfl) (by omega) (by unfold maxLen; omega) rfl ?_
    refine n_frz 7 1 0 (0 + l.length) 1 _ (l.map (.int .i64)) rfl rfl (noidI l) (by simp) ?_
    have e1 : (List.map (AV.int .i64) l).take (l.length * 1) = l.map (AV.int .i64) := List.take_of_length_le (by simp)
    refine n_set 7 (.slv (0 + l.length) 1 (((l.map (.int .i64)).drop 0).take ((0 + l.length) * 1))) (intsV l) rfl (by rw [Nat.zero_add, List.drop_zero, e1]) ?_
    refine N_run 1 (True) [] (stOf 8 [(0, .slv l.length 1 (List.map (.int .i64) l)), (2, .slv l.length 1 (List.map (.int .i64) l)), (4, .bool b1_1), (5, .sl 0 0 0 1), (6, .slv l.length 1 (List.map (.int .i64) l)), (7, .slv l.length 1 (List.map (.int .i64) l))] [Blk.dead, Blk.dead]) trivial ?_
    refine N_sel [0, 2, 4] (stOf 8 [(0, .slv l.length 1 (List.map (.int .i64) l)), (2, .slv l.length 1 (List.map (.int .i64) l)), (4, .bool b1_1)] [Blk.dead, Blk.dead]) ?_
    refine k_then ?_
    refine q_ret (by kernel_rfl) ?_
    refine k_fin (True) (.slv l.length 1 (List.map (.int .i64) l)) [] [] (.slv l.length 1 (List.map (.int .i64) l)) (by kernel_rfl) (by kernel_rfl) (by kernel_rfl) trivial (keep_nil _) ?_
    exact ⟨Or.inl rfl, rfl⟩
theorem cloneInts_v (l : List Int) (hl : l.length ≤ 1000000000) : CallsV Try.prog 42 [intsV l] [] (fun av H' => av = intsV l ∧ H' = []) := (cloneInts0_v l hl).weakR fun av H' ⟨h, hH⟩ => by
  rcases h with rfl | ⟨h0, rfl⟩
  · exact ⟨_, fun _ _ _ h => h, rfl, hH⟩
  · obtain rfl := List.eq_nil_of_length_eq_zero h0
    exact ⟨_, fun p w v h => nil_slv 1 (by decide) p w v h, rfl, hH⟩
theorem clone_v (m : Mk) (hm : OkM m) : CallsV Try.prog 30 [.agg (encM m)] [] (fun av H' => av = .agg (encM m) ∧ H' = []) := by
  refine callsV_at Try.func30 (by kernel_rfl) ?_
  refine Q_seq ?_
  refine Q_run [0, 1, 2] (stOf 10 [(0, .agg (encM m)), (1, .ptr 0 0), (2, .ptr 1 0)] [.row 38 (encM m), .row 38 [.str (ByteArray.mk #[]), .str (ByteArray.mk #[]), .int .i64 0, .bool false, .int .i64 0, .int .i64 0, .str (ByteArray.mk #[]), .int .i64 0, .int .i64 0, .nilsl]]) ?_
  refine k_then ?_
  refine Q_seq ?_
  refine Q_reg ?_
  refine N_run 3 (1 ≤ 1) [3, 4, 5, 6] (stOf 10 [(0, .agg (encM m)), (1, .ptr 0 0), (2, .ptr 1 0), (3, .ptr 0 4), (4, .ptr 0 9), (5, .slv m.verd.length 1 (List.map (.int .i64) m.verd))] [.row 38 (encM m), .row 38 [.str (ByteArray.mk #[]), .str (ByteArray.mk #[]), .int .i64 0, .bool false, .int .i64 0, .int .i64 0, .str (ByteArray.mk #[]), .int .i64 0, .int .i64 0, .nilsl]]) (by exact by omega) ?_
  refine n_callp 42 [.slv m.verd.length 1 (List.map (.int .i64) m.verd)] (.slv m.verd.length 1 (List.map (.int .i64) m.verd)) (stOf 10 [(0, .agg (encM m)), (1, .ptr 0 0), (2, .ptr 1 0), (3, .ptr 0 4), (4, .ptr 0 9), (5, .slv m.verd.length 1 (List.map (.int .i64) m.verd)), (6, .slv m.verd.length 1 (List.map (.int .i64) m.verd))] [.row 38 (encM m), .row 38 [.str (ByteArray.mk #[]), .str (ByteArray.mk #[]), .int .i64 0, .bool false, .int .i64 0, .int .i64 0, .str (ByteArray.mk #[]), .int .i64 0, .int .i64 0, .nilsl]]) (by kernel_rfl) (by kernel_rfl) (by kernel_rfl) (by kernel_rfl) (cloneInts_v m.verd hm ) ?_
  refine N_run 3 (10 ≤ 10) [] (stOf 10 [(0, .agg (encM m)), (1, .ptr 0 0), (2, .ptr 1 0), (3, .ptr 0 4), (4, .ptr 0 9), (5, .slv m.verd.length 1 (List.map (.int .i64) m.verd)), (6, .slv m.verd.length 1 (List.map (.int .i64) m.verd)), (7, .ptr 0 4), (8, .ptr 0 9)] [.row 38 (encM m), .row 38 [.str (ByteArray.mk #[]), .str (ByteArray.mk #[]), .int .i64 0, .bool false, .int .i64 0, .int .i64 0, .str (ByteArray.mk #[]), .int .i64 0, .int .i64 0, .nilsl]]) (by exact by omega) ?_
  refine N_sel [0, 1, 2] (stOf 10 [(0, .agg (encM m)), (1, .ptr 0 0), (2, .ptr 1 0)] [.row 38 (encM m), .row 38 [.str (ByteArray.mk #[]), .str (ByteArray.mk #[]), .int .i64 0, .bool false, .int .i64 0, .int .i64 0, .str (ByteArray.mk #[]), .int .i64 0, .int .i64 0, .nilsl]]) ?_
  refine k_then ?_
  refine Q_seq ?_
  refine Q_reg ?_
  refine N_run 1 (10 ≤ 10) [1] (stOf 10 [(0, .agg (encM m)), (1, .ptr 0 0), (2, .ptr 1 0), (9, .agg (encM m))] [.row 38 (encM m), .row 38 [.str (ByteArray.mk #[]), .str (ByteArray.mk #[]), .int .i64 0, .bool false, .int .i64 0, .int .i64 0, .str (ByteArray.mk #[]), .int .i64 0, .int .i64 0, .nilsl]]) (by exact by omega) ?_
  refine N_run 1 (10 ≤ 10) [] (stOf 10 [(0, .agg (encM m)), (1, .ptr 0 0), (2, .ptr 1 0), (9, .agg (encM m))] [.row 38 (encM m), .row 38 (encM m)]) (by exact by omega) ?_
  refine N_sel [0, 1, 2] (stOf 10 [(0, .agg (encM m)), (1, .ptr 0 0), (2, .ptr 1 0)] [.row 38 (encM m), .row 38 (encM m)]) ?_
  refine k_then ?_
  refine q_ret (by kernel_rfl) ?_
  refine k_fin (10 ≤ 10) (.agg [.str m.st, .str m.tk, .int .i64 m.ver, .bool m.pend, .int .i64 m.kind, .int .i64 m.err, .str m.path, .int .i64 m.at', .int .i64 m.score, .slv m.verd.length 1 (List.map (.int .i64) m.verd)]) [] [] (.agg [.str m.st, .str m.tk, .int .i64 m.ver, .bool m.pend, .int .i64 m.kind, .int .i64 m.err, .str m.path, .int .i64 m.at', .int .i64 m.score, .slv m.verd.length 1 (List.map (.int .i64) m.verd)]) (by kernel_rfl) (by kernel_rfl) (by kernel_rfl) (by exact by omega) (keep_nil _) ?_
  exact ⟨rfl, rfl⟩
end Go.Proofs.Ytlmkeoegammdjaa
