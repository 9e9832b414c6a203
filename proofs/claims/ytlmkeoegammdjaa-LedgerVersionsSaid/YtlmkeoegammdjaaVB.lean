/-
  Contracts of the functions on marks, in the logic of values.
-/
import Derived.Test.YtlmkeoegammdjaaVo
import Derived.Test.YtlmkeoegammdjaaVA
import Derived.Test.YtlmkeoegammdjaaVnq
namespace Go.Proofs.Ytlmkeoegammdjaa
open Go Go.RowKit V
set_option linter.unusedSimpArgs false
set_option linter.unusedVariables false

/-- a mark -/
structure Mk where
  st : ByteArray
  tk : ByteArray
  ver : Int
  pend : Bool
  kind : Int
  err : Int
  path : ByteArray
  at' : Int
  score : Int
  verd : List Int
instance : Inhabited Mk := ⟨⟨ByteArray.empty, ByteArray.empty, 0, false, 0, 0, ByteArray.empty, 0, 0, []⟩⟩
abbrev intsV (l : List Int) : AV := .slv l.length 1 (l.map (AV.int .i64))
def encM (m : Mk) : List AV := [.str m.st, .str m.tk, .int .i64 m.ver, .bool m.pend, .int .i64 m.kind, .int .i64 m.err, .str m.path, .int .i64 m.at', .int .i64 m.score, intsV m.verd]
theorem lenM (m : Mk) : (encM m).length = 10 := rfl
def OkM (m : Mk) : Prop := m.verd.length ≤ 1000000000
abbrev marksV (l : List Mk) : AV := .slv l.length 10 (flatA encM l)
theorem noidM (l : List Mk) : ∀ x ∈ flatA encM l, noid0 x = true := flatA_all (fun m a ha => by
  simp only [encM, List.mem_cons, List.not_mem_nil, or_false] at ha
  rcases ha with rfl | rfl | rfl | rfl | rfl | rfl | rfl | rfl | rfl | rfl <;> rfl) l
theorem noidI (l : List Int) : ∀ x ∈ l.map (AV.int .i64), noid0 x = true ∧ x ≠ .junk := by
  intro x hx
  obtain ⟨n, _, rfl⟩ := List.mem_map.1 hx
  exact ⟨rfl, by simp⟩
set_option maxHeartbeats 20000000 in
theorem cloneInts0_v (l : List Int) (hl : l.length ≤ 1000000000) : CallsV Try.prog 42 [intsV l] [] (fun av H' => (av = intsV l ∨ (l.length = 0 ∧ av = .nilsl)) ∧ H' = []) := by
  refine callsV_at Try.func42 (by kernel_rfl) ?_
  refine q_seq (by kernel_rfl) ?_
  refine q_run True [0, 2, 4] (stOf 8 [(0, AV.slv l.length (nat_lit 1) (List.map (AV.int IntKind.i64) l)), (2, AV.nilsl)] []) (by kernel_rfl) (by kernel_rfl) (by kernel_rfl) (by kernel_rfl) trivial ?_
  refine k_then ?_
  refine q_seq (by kernel_rfl) ?_
  refine q_seq (by kernel_rfl) ?_
  refine q_reg (by kernel_rfl) ?_
  refine n_run 1 (True) [1] (stOf 8 [(0, AV.slv l.length (nat_lit 1) (List.map (AV.int IntKind.i64) l)), (2, AV.nilsl), (3, AV.slv l.length (nat_lit 1) (List.map (AV.int IntKind.i64) l))] []) (by kernel_rfl) (by kernel_rfl) trivial ?_
  refine n_nilq 34 (Operand.tmp (3 : Nat)) (Operand.const (Value.slice none (0 : Nat) (0 : Nat))) true (l.length) (nat_lit 1) (List.map (AV.int IntKind.i64) l) (by kernel_rfl) (by kernel_rfl) (by kernel_rfl) (by kernel_rfl) (by kernel_rfl) (fun b1_1 hb1_1 => ?_)
  refine n_sel [0, 2, 4] (stOf 8 [(0, AV.slv l.length (nat_lit 1) (List.map (AV.int IntKind.i64) l)), (2, AV.nilsl), (4, AV.bool b1_1)] []) (by kernel_rfl) (n_done ?_)
  refine k_then ?_
  refine q_cond (by kernel_rfl) (b1_1) (by kernel_rfl) (fun h1 => ?_) (fun h1 => ?_)
  · refine q_seq (by kernel_rfl) ?_
    refine q_run True [0, 2, 4] (stOf 8 [(0, AV.slv l.length (nat_lit 1) (List.map (AV.int IntKind.i64) l)), (2, AV.nilsl), (4, AV.bool b1_1)] []) (by kernel_rfl) (by kernel_rfl) (by kernel_rfl) (by kernel_rfl) trivial ?_
    refine k_then ?_
    refine q_ret (by kernel_rfl) ?_
    refine k_thenr ?_
    refine k_fin (True) (AV.nilsl) [] [] (AV.nilsl) (by kernel_rfl) (by kernel_rfl) (by kernel_rfl) trivial (keep_nil _) ?_
    exact ⟨Or.inr ⟨hb1_1 h1, rfl⟩, rfl⟩
  · refine q_skip (by kernel_rfl) ?_
    refine k_then ?_
    refine q_seq (by kernel_rfl) ?_
    refine q_reg (by kernel_rfl) ?_
    refine n_run 2 (True) [2, 3] (stOf 8 [(0, AV.slv l.length (nat_lit 1) (List.map (AV.int IntKind.i64) l)), (2, AV.nilsl), (4, AV.bool b1_1), (5, AV.sl (0 : Nat) (nat_lit 0) (nat_lit 0) (nat_lit 1)), (6, AV.slv l.length (nat_lit 1) (List.map (AV.int IntKind.i64) l))] [Blk.row (nat_lit 3) []]) (by kernel_rfl) (by kernel_rfl) trivial ?_
    refine n_append 34 3 1 8 0 l.length (k := some 0) [] (l.map (AV.int .i64)) (.tmp 5) (.tmp 6) _ (by kernel_rfl) (by kernel_rfl) (by kernel_rfl) (Or.inr ⟨0, _, rfl, rfl, rfl, rfl, by simp⟩) (Or.inl rfl) (by omega) (by unfold maxLen; omega) rfl ?_
    refine n_frz 7 1 0 (0 + l.length) 1 _ (l.map (AV.int .i64)) rfl rfl (noidI l) (by simp) ?_
    have e1 : (List.map (AV.int .i64) l).take (l.length * 1) = l.map (AV.int .i64) := List.take_of_length_le (by simp)
    refine n_set 7 (.slv (0 + l.length) 1 (((l.map (AV.int .i64)).drop 0).take ((0 + l.length) * 1))) (intsV l) rfl (by rw [Nat.zero_add, List.drop_zero, e1]) ?_
    refine n_run 1 (True) [] (stOf 8 [(0, AV.slv l.length (nat_lit 1) (List.map (AV.int IntKind.i64) l)), (2, AV.slv l.length (nat_lit 1) (List.map (AV.int IntKind.i64) l)), (4, AV.bool b1_1), (5, AV.sl (nat_lit 0) (nat_lit 0) (nat_lit 0) (nat_lit 1)), (6, AV.slv l.length (nat_lit 1) (List.map (AV.int IntKind.i64) l)), (7, AV.slv l.length (nat_lit 1) (List.map (AV.int IntKind.i64) l))] [Blk.dead, Blk.dead]) (by kernel_rfl) (by kernel_rfl) trivial ?_
    refine n_sel [0, 2, 4] (stOf 8 [(0, AV.slv l.length (nat_lit 1) (List.map (AV.int IntKind.i64) l)), (2, AV.slv l.length (nat_lit 1) (List.map (AV.int IntKind.i64) l)), (4, AV.bool b1_1)] [Blk.dead, Blk.dead]) (by kernel_rfl) (n_done ?_)
    refine k_then ?_
    refine q_ret (by kernel_rfl) ?_
    refine k_fin (True) (AV.slv l.length (nat_lit 1) (List.map (AV.int IntKind.i64) l)) [] [] (AV.slv l.length (nat_lit 1) (List.map (AV.int IntKind.i64) l)) (by kernel_rfl) (by kernel_rfl) (by kernel_rfl) trivial (keep_nil _) ?_
    exact ⟨Or.inl rfl, rfl⟩
theorem cloneInts_v (l : List Int) (hl : l.length ≤ 1000000000) : CallsV Try.prog 42 [intsV l] [] (fun av H' => av = intsV l ∧ H' = []) := (cloneInts0_v l hl).weakR fun av H' ⟨h, hH⟩ => by
  rcases h with rfl | ⟨h0, rfl⟩
  · exact ⟨_, fun _ _ _ h => h, rfl, hH⟩
  · obtain rfl := List.eq_nil_of_length_eq_zero h0
    exact ⟨_, fun p w v h => nil_slv 1 (by decide) p w v h, rfl, hH⟩
theorem clone_v (m : Mk) (hm : OkM m) : CallsV Try.prog 30 [.agg (encM m)] [] (fun av H' => av = .agg (encM m) ∧ H' = []) := by
  refine callsV_at Try.func30 (by kernel_rfl) ?_
  refine q_seq (by kernel_rfl) ?_
  refine q_run True [0, 1, 2] (stOf 10 [(0, AV.agg [AV.str m.st, AV.str m.tk, AV.int IntKind.i64 m.ver, AV.bool m.pend, AV.int IntKind.i64 m.kind, AV.int IntKind.i64 m.err, AV.str m.path, AV.int IntKind.i64 m.at', AV.int IntKind.i64 m.score, AV.slv m.verd.length (nat_lit 1) (List.map (AV.int IntKind.i64) m.verd)]), (1, AV.ptr (0 : Nat) (nat_lit 0)), (2, AV.ptr (1 : Nat) (nat_lit 0))] [Blk.row (nat_lit 38) [AV.str m.st, AV.str m.tk, AV.int IntKind.i64 m.ver, AV.bool m.pend, AV.int IntKind.i64 m.kind, AV.int IntKind.i64 m.err, AV.str m.path, AV.int IntKind.i64 m.at', AV.int IntKind.i64 m.score, AV.slv m.verd.length (nat_lit 1) (List.map (AV.int IntKind.i64) m.verd)], Blk.row (nat_lit 38) [AV.str (ByteArray.mk #[]), AV.str (ByteArray.mk #[]), AV.int IntKind.i64 (0 : Int), AV.bool false, AV.int IntKind.i64 (0 : Int), AV.int IntKind.i64 (0 : Int), AV.str (ByteArray.mk #[]), AV.int IntKind.i64 (0 : Int), AV.int IntKind.i64 (0 : Int), AV.nilsl]]) (by kernel_rfl) (by kernel_rfl) (by kernel_rfl) (by kernel_rfl) trivial ?_
  refine k_then ?_
  refine q_seq (by kernel_rfl) ?_
  refine q_reg (by kernel_rfl) ?_
  refine n_run 3 ((1 : Nat) ≤ (1 : Nat)) [3, 4, 5, 6] (stOf 10 [(0, AV.agg [AV.str m.st, AV.str m.tk, AV.int IntKind.i64 m.ver, AV.bool m.pend, AV.int IntKind.i64 m.kind, AV.int IntKind.i64 m.err, AV.str m.path, AV.int IntKind.i64 m.at', AV.int IntKind.i64 m.score, AV.slv m.verd.length (nat_lit 1) (List.map (AV.int IntKind.i64) m.verd)]), (1, AV.ptr (nat_lit 0) (nat_lit 0)), (2, AV.ptr (nat_lit 1) (nat_lit 0)), (3, AV.ptr (nat_lit 0) (nat_lit 4)), (4, AV.ptr (nat_lit 0) (nat_lit 9)), (5, AV.slv m.verd.length (nat_lit 1) (List.map (AV.int IntKind.i64) m.verd))] [Blk.row (nat_lit 38) [AV.str m.st, AV.str m.tk, AV.int IntKind.i64 m.ver, AV.bool m.pend, AV.int IntKind.i64 m.kind, AV.int IntKind.i64 m.err, AV.str m.path, AV.int IntKind.i64 m.at', AV.int IntKind.i64 m.score, AV.slv m.verd.length (nat_lit 1) (List.map (AV.int IntKind.i64) m.verd)], Blk.row (nat_lit 38) [AV.str (ByteArray.mk #[]), AV.str (ByteArray.mk #[]), AV.int IntKind.i64 (0 : Int), AV.bool false, AV.int IntKind.i64 (0 : Int), AV.int IntKind.i64 (0 : Int), AV.str (ByteArray.mk #[]), AV.int IntKind.i64 (0 : Int), AV.int IntKind.i64 (0 : Int), AV.nilsl]]) (by kernel_rfl) (by kernel_rfl) (by exact by omega) ?_
  refine n_callp (42 : Nat) [AV.slv m.verd.length (nat_lit 1) (List.map (AV.int IntKind.i64) m.verd)] (AV.slv m.verd.length (nat_lit 1) (List.map (AV.int IntKind.i64) m.verd)) (stOf 10 [(0, AV.agg [AV.str m.st, AV.str m.tk, AV.int IntKind.i64 m.ver, AV.bool m.pend, AV.int IntKind.i64 m.kind, AV.int IntKind.i64 m.err, AV.str m.path, AV.int IntKind.i64 m.at', AV.int IntKind.i64 m.score, AV.slv m.verd.length (nat_lit 1) (List.map (AV.int IntKind.i64) m.verd)]), (1, AV.ptr (nat_lit 0) (nat_lit 0)), (2, AV.ptr (nat_lit 1) (nat_lit 0)), (3, AV.ptr (nat_lit 0) (nat_lit 4)), (4, AV.ptr (nat_lit 0) (nat_lit 9)), (5, AV.slv m.verd.length (nat_lit 1) (List.map (AV.int IntKind.i64) m.verd)), (6, AV.slv m.verd.length (nat_lit 1) (List.map (AV.int IntKind.i64) m.verd))] [Blk.row (nat_lit 38) [AV.str m.st, AV.str m.tk, AV.int IntKind.i64 m.ver, AV.bool m.pend, AV.int IntKind.i64 m.kind, AV.int IntKind.i64 m.err, AV.str m.path, AV.int IntKind.i64 m.at', AV.int IntKind.i64 m.score, AV.slv m.verd.length (nat_lit 1) (List.map (AV.int IntKind.i64) m.verd)], Blk.row (nat_lit 38) [AV.str (ByteArray.mk #[]), AV.str (ByteArray.mk #[]), AV.int IntKind.i64 (0 : Int), AV.bool false, AV.int IntKind.i64 (0 : Int), AV.int IntKind.i64 (0 : Int), AV.str (ByteArray.mk #[]), AV.int IntKind.i64 (0 : Int), AV.int IntKind.i64 (0 : Int), AV.nilsl]]) (by kernel_rfl) (by kernel_rfl) (by kernel_rfl) (by kernel_rfl) (cloneInts_v m.verd hm ) ?_
  refine n_run 3 ((10 : Nat) ≤ (10 : Nat)) [] (stOf 10 [(0, AV.agg [AV.str m.st, AV.str m.tk, AV.int IntKind.i64 m.ver, AV.bool m.pend, AV.int IntKind.i64 m.kind, AV.int IntKind.i64 m.err, AV.str m.path, AV.int IntKind.i64 m.at', AV.int IntKind.i64 m.score, AV.slv m.verd.length (nat_lit 1) (List.map (AV.int IntKind.i64) m.verd)]), (1, AV.ptr (nat_lit 0) (nat_lit 0)), (2, AV.ptr (nat_lit 1) (nat_lit 0)), (3, AV.ptr (nat_lit 0) (nat_lit 4)), (4, AV.ptr (nat_lit 0) (nat_lit 9)), (5, AV.slv m.verd.length (nat_lit 1) (List.map (AV.int IntKind.i64) m.verd)), (6, AV.slv m.verd.length (nat_lit 1) (List.map (AV.int IntKind.i64) m.verd)), (7, AV.ptr (nat_lit 0) (nat_lit 4)), (8, AV.ptr (nat_lit 0) (nat_lit 9))] [Blk.row (nat_lit 38) [AV.str m.st, AV.str m.tk, AV.int IntKind.i64 m.ver, AV.bool m.pend, AV.int IntKind.i64 m.kind, AV.int IntKind.i64 m.err, AV.str m.path, AV.int IntKind.i64 m.at', AV.int IntKind.i64 m.score, AV.slv m.verd.length (nat_lit 1) (List.map (AV.int IntKind.i64) m.verd)], Blk.row (nat_lit 38) [AV.str (ByteArray.mk #[]), AV.str (ByteArray.mk #[]), AV.int IntKind.i64 (0 : Int), AV.bool false, AV.int IntKind.i64 (0 : Int), AV.int IntKind.i64 (0 : Int), AV.str (ByteArray.mk #[]), AV.int IntKind.i64 (0 : Int), AV.int IntKind.i64 (0 : Int), AV.nilsl]]) (by kernel_rfl) (by kernel_rfl) (by exact by omega) ?_
  refine n_sel [0, 1, 2] (stOf 10 [(0, AV.agg [AV.str m.st, AV.str m.tk, AV.int IntKind.i64 m.ver, AV.bool m.pend, AV.int IntKind.i64 m.kind, AV.int IntKind.i64 m.err, AV.str m.path, AV.int IntKind.i64 m.at', AV.int IntKind.i64 m.score, AV.slv m.verd.length (nat_lit 1) (List.map (AV.int IntKind.i64) m.verd)]), (1, AV.ptr (nat_lit 0) (nat_lit 0)), (2, AV.ptr (nat_lit 1) (nat_lit 0))] [Blk.row (nat_lit 38) [AV.str m.st, AV.str m.tk, AV.int IntKind.i64 m.ver, AV.bool m.pend, AV.int IntKind.i64 m.kind, AV.int IntKind.i64 m.err, AV.str m.path, AV.int IntKind.i64 m.at', AV.int IntKind.i64 m.score, AV.slv m.verd.length (nat_lit 1) (List.map (AV.int IntKind.i64) m.verd)], Blk.row (nat_lit 38) [AV.str (ByteArray.mk #[]), AV.str (ByteArray.mk #[]), AV.int IntKind.i64 (0 : Int), AV.bool false, AV.int IntKind.i64 (0 : Int), AV.int IntKind.i64 (0 : Int), AV.str (ByteArray.mk #[]), AV.int IntKind.i64 (0 : Int), AV.int IntKind.i64 (0 : Int), AV.nilsl]]) (by kernel_rfl) (n_done ?_)
  refine k_then ?_
  refine q_seq (by kernel_rfl) ?_
  refine q_reg (by kernel_rfl) ?_
  refine n_run 1 ((10 : Nat) ≤ (10 : Nat)) [1] (stOf 10 [(0, AV.agg [AV.str m.st, AV.str m.tk, AV.int IntKind.i64 m.ver, AV.bool m.pend, AV.int IntKind.i64 m.kind, AV.int IntKind.i64 m.err, AV.str m.path, AV.int IntKind.i64 m.at', AV.int IntKind.i64 m.score, AV.slv m.verd.length (nat_lit 1) (List.map (AV.int IntKind.i64) m.verd)]), (1, AV.ptr (nat_lit 0) (nat_lit 0)), (2, AV.ptr (nat_lit 1) (nat_lit 0)), (9, AV.agg [AV.str m.st, AV.str m.tk, AV.int IntKind.i64 m.ver, AV.bool m.pend, AV.int IntKind.i64 m.kind, AV.int IntKind.i64 m.err, AV.str m.path, AV.int IntKind.i64 m.at', AV.int IntKind.i64 m.score, AV.slv m.verd.length (nat_lit 1) (List.map (AV.int IntKind.i64) m.verd)])] [Blk.row (nat_lit 38) [AV.str m.st, AV.str m.tk, AV.int IntKind.i64 m.ver, AV.bool m.pend, AV.int IntKind.i64 m.kind, AV.int IntKind.i64 m.err, AV.str m.path, AV.int IntKind.i64 m.at', AV.int IntKind.i64 m.score, AV.slv m.verd.length (nat_lit 1) (List.map (AV.int IntKind.i64) m.verd)], Blk.row (nat_lit 38) [AV.str (ByteArray.mk #[]), AV.str (ByteArray.mk #[]), AV.int IntKind.i64 (0 : Int), AV.bool false, AV.int IntKind.i64 (0 : Int), AV.int IntKind.i64 (0 : Int), AV.str (ByteArray.mk #[]), AV.int IntKind.i64 (0 : Int), AV.int IntKind.i64 (0 : Int), AV.nilsl]]) (by kernel_rfl) (by kernel_rfl) (by exact by omega) ?_
  refine n_run 1 ((10 : Nat) ≤ (10 : Nat)) [] (stOf 10 [(0, AV.agg [AV.str m.st, AV.str m.tk, AV.int IntKind.i64 m.ver, AV.bool m.pend, AV.int IntKind.i64 m.kind, AV.int IntKind.i64 m.err, AV.str m.path, AV.int IntKind.i64 m.at', AV.int IntKind.i64 m.score, AV.slv m.verd.length (nat_lit 1) (List.map (AV.int IntKind.i64) m.verd)]), (1, AV.ptr (nat_lit 0) (nat_lit 0)), (2, AV.ptr (nat_lit 1) (nat_lit 0)), (9, AV.agg [AV.str m.st, AV.str m.tk, AV.int IntKind.i64 m.ver, AV.bool m.pend, AV.int IntKind.i64 m.kind, AV.int IntKind.i64 m.err, AV.str m.path, AV.int IntKind.i64 m.at', AV.int IntKind.i64 m.score, AV.slv m.verd.length (nat_lit 1) (List.map (AV.int IntKind.i64) m.verd)])] [Blk.row (nat_lit 38) [AV.str m.st, AV.str m.tk, AV.int IntKind.i64 m.ver, AV.bool m.pend, AV.int IntKind.i64 m.kind, AV.int IntKind.i64 m.err, AV.str m.path, AV.int IntKind.i64 m.at', AV.int IntKind.i64 m.score, AV.slv m.verd.length (nat_lit 1) (List.map (AV.int IntKind.i64) m.verd)], Blk.row (nat_lit 38) [AV.str m.st, AV.str m.tk, AV.int IntKind.i64 m.ver, AV.bool m.pend, AV.int IntKind.i64 m.kind, AV.int IntKind.i64 m.err, AV.str m.path, AV.int IntKind.i64 m.at', AV.int IntKind.i64 m.score, AV.slv m.verd.length (nat_lit 1) (List.map (AV.int IntKind.i64) m.verd)]]) (by kernel_rfl) (by kernel_rfl) (by exact by omega) ?_
  refine n_sel [0, 1, 2] (stOf 10 [(0, AV.agg [AV.str m.st, AV.str m.tk, AV.int IntKind.i64 m.ver, AV.bool m.pend, AV.int IntKind.i64 m.kind, AV.int IntKind.i64 m.err, AV.str m.path, AV.int IntKind.i64 m.at', AV.int IntKind.i64 m.score, AV.slv m.verd.length (nat_lit 1) (List.map (AV.int IntKind.i64) m.verd)]), (1, AV.ptr (nat_lit 0) (nat_lit 0)), (2, AV.ptr (nat_lit 1) (nat_lit 0))] [Blk.row (nat_lit 38) [AV.str m.st, AV.str m.tk, AV.int IntKind.i64 m.ver, AV.bool m.pend, AV.int IntKind.i64 m.kind, AV.int IntKind.i64 m.err, AV.str m.path, AV.int IntKind.i64 m.at', AV.int IntKind.i64 m.score, AV.slv m.verd.length (nat_lit 1) (List.map (AV.int IntKind.i64) m.verd)], Blk.row (nat_lit 38) [AV.str m.st, AV.str m.tk, AV.int IntKind.i64 m.ver, AV.bool m.pend, AV.int IntKind.i64 m.kind, AV.int IntKind.i64 m.err, AV.str m.path, AV.int IntKind.i64 m.at', AV.int IntKind.i64 m.score, AV.slv m.verd.length (nat_lit 1) (List.map (AV.int IntKind.i64) m.verd)]]) (by kernel_rfl) (n_done ?_)
  refine k_then ?_
  refine q_ret (by kernel_rfl) ?_
  refine k_fin ((10 : Nat) ≤ (10 : Nat)) (AV.agg [AV.str m.st, AV.str m.tk, AV.int IntKind.i64 m.ver, AV.bool m.pend, AV.int IntKind.i64 m.kind, AV.int IntKind.i64 m.err, AV.str m.path, AV.int IntKind.i64 m.at', AV.int IntKind.i64 m.score, AV.slv m.verd.length (nat_lit 1) (List.map (AV.int IntKind.i64) m.verd)]) [] [] (AV.agg [AV.str m.st, AV.str m.tk, AV.int IntKind.i64 m.ver, AV.bool m.pend, AV.int IntKind.i64 m.kind, AV.int IntKind.i64 m.err, AV.str m.path, AV.int IntKind.i64 m.at', AV.int IntKind.i64 m.score, AV.slv m.verd.length (nat_lit 1) (List.map (AV.int IntKind.i64) m.verd)]) (by kernel_rfl) (by kernel_rfl) (by kernel_rfl) (by exact by omega) (keep_nil _) ?_
  exact ⟨rfl, rfl⟩
end Go.Proofs.Ytlmkeoegammdjaa
