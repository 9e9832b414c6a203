/-
  Comparing pairs.
-/
import Derived.Test.YtlmkeoegammdjaaVN
namespace Go.Proofs.Ytlmkeoegammdjaa
open Go Go.RowKit V
set_option linter.unusedSimpArgs false
set_option linter.unusedVariables false
set_option maxHeartbeats 20000000
abbrev lt (a b : ByteArray) : Bool := Op.bytesLess a.toList b.toList
abbrev eqS (a b : ByteArray) : Bool := a.toList == b.toList
def cmpS (a b : ByteArray) : Int := bif lt a b then -1 else bif !(lt a b || eqS a b) then 1 else 0
theorem cmp_v (a b : ByteArray) : CallsV Try.prog 39 [.str a, .str b] [] (fun av H' => av = .int .i64 (cmpS a b) ∧ H' = []) := by
  refine callsV_at Try.func39 (by kernel_rfl) ?_
  refine Q_seq ?_
  refine Q_run [0, 1, 4, 5, 6, 11, 12, 13, 16, 19] (stOf 20 [(0, .str a), (1, .str b), (4, .int .i64 0)] []) ?_
  refine k_then ?_
  refine Q_seq ?_
  let z1 : List (Nat × AV) := [(0, .str a), (1, .str b), (4, .int .i64 0), (5, .bool !a.toList == a.toList)]
  refine q_ev (noX_ok _) 400 [0, 1, 4, 5, 6, 11, 12, 13, 16, 19] Exit.normal (stOf 20 z1 []) (by kernel_rfl) ?_
  refine k_then ?_
  refine Q_seq ?_
  refine q_ev (noX_ok _) 400 [0, 1, 4, 5, 6, 11, 12, 13, 16, 19] Exit.normal (stOf 20 (z1 ++ [(6, .bool !b.toList == b.toList)]) []) (by kernel_rfl) ?_
  refine k_then ?_
  refine Q_seq ?_
  refine Q_seq ?_
  refine Q_run [0, 1, 4, 5, 6, 11, 12, 13, 16, 19] (stOf 20 (z1 ++ [(6, .bool !b.toList == b.toList), (11, .bool !a.toList == a.toList)]) []) ?_
  refine k_then ?_
  refine q_cond (by kernel_rfl) (!a.toList == a.toList) (by kernel_rfl) (fun h1 => ?_) (fun h1 => ?_)
  · (have g1 := h1; simp only [Bool.cond_true_left, Bool.cond_false_right, Bool.cond_false_left, Bool.cond_true_right, beq_true, beq_false, Bool.not_not, Bool.or_eq_true, Bool.and_eq_true, Bool.or_eq_false_iff, Bool.and_eq_false_iff, Bool.not_eq_true', Bool.not_eq_false', beq_iff_eq, beq_eq_false_iff_ne, bne_iff_ne, bne_eq_false_iff_eq, decide_eq_true_eq, decide_eq_false_iff_not, ne_eq] at g1)
    refine Q_seq ?_
    refine Q_seq ?_
    refine Q_run [0, 1, 4, 5, 6, 11, 12, 13, 16, 19] (stOf 20 (z1 ++ [(6, .bool !b.toList == b.toList), (11, .bool !a.toList == a.toList), (12, .bool !b.toList == b.toList)]) []) ?_
    refine k_then ?_
    refine q_cond (by kernel_rfl) (!b.toList == b.toList) (by kernel_rfl) (fun h2 => ?_) (fun h2 => ?_)
    · (have g2 := h2; simp only [Bool.cond_true_left, Bool.cond_false_right, Bool.cond_false_left, Bool.cond_true_right, beq_true, beq_false, Bool.not_not, Bool.or_eq_true, Bool.and_eq_true, Bool.or_eq_false_iff, Bool.and_eq_false_iff, Bool.not_eq_true', Bool.not_eq_false', beq_iff_eq, beq_eq_false_iff_ne, bne_iff_ne, bne_eq_false_iff_eq, decide_eq_true_eq, decide_eq_false_iff_not, ne_eq] at g2)
      refine Q_seq ?_
      refine Q_run [0, 1, 4, 5, 6, 11, 12, 13, 16, 19] (stOf 20 (z1 ++ [(6, .bool !b.toList == b.toList), (11, .bool !a.toList == a.toList), (12, .bool !b.toList == b.toList)]) []) ?_
      refine k_then ?_
      refine q_ret (by kernel_rfl) ?_
      refine k_thenr ?_
      refine k_thenr ?_
      refine k_fin (True) (.int .i64 0) [] [] (.int .i64 0) (by kernel_rfl) (by kernel_rfl) (by kernel_rfl) trivial (keep_nil _) ?_
      simp at h1
    · (have g2 := h2; simp only [Bool.cond_true_left, Bool.cond_false_right, Bool.cond_false_left, Bool.cond_true_right, beq_true, beq_false, Bool.not_not, Bool.or_eq_true, Bool.and_eq_true, Bool.or_eq_false_iff, Bool.and_eq_false_iff, Bool.not_eq_true', Bool.not_eq_false', beq_iff_eq, beq_eq_false_iff_ne, bne_iff_ne, bne_eq_false_iff_eq, decide_eq_true_eq, decide_eq_false_iff_not, ne_eq] at g2)
      refine q_skip (by kernel_rfl) ?_
      refine k_then ?_
      refine Q_seq ?_
      refine Q_run [0, 1, 4, 5, 6, 11, 12, 13, 16, 19] (stOf 20 [(0, .str a), (1, .str b), (4, .int .i64 (-1)), (5, .bool !a.toList == a.toList), (6, .bool !b.toList == b.toList), (11, .bool !a.toList == a.toList), (12, .bool !b.toList == b.toList)] []) ?_
      refine k_then ?_
      refine q_ret (by kernel_rfl) ?_
      refine k_thenr ?_
      refine k_fin (True) (.int .i64 (-1)) [] [] (.int .i64 (-1)) (by kernel_rfl) (by kernel_rfl) (by kernel_rfl) trivial (keep_nil _) ?_
      simp at h1
  · (have g1 := h1; simp only [Bool.cond_true_left, Bool.cond_false_right, Bool.cond_false_left, Bool.cond_true_right, beq_true, beq_false, Bool.not_not, Bool.or_eq_true, Bool.and_eq_true, Bool.or_eq_false_iff, Bool.and_eq_false_iff, Bool.not_eq_true', Bool.not_eq_false', beq_iff_eq, beq_eq_false_iff_ne, bne_iff_ne, bne_eq_false_iff_eq, decide_eq_true_eq, decide_eq_false_iff_not, ne_eq] at g1)
    refine q_skip (by kernel_rfl) ?_
    refine k_then ?_
    refine Q_seq ?_
    refine Q_seq ?_
    refine Q_run [0, 1, 4, 5, 6, 11, 12, 13, 16, 19] (stOf 20 (z1 ++ [(6, .bool !b.toList == b.toList), (11, .bool !a.toList == a.toList), (13, .bool !b.toList == b.toList)]) []) ?_
    refine k_then ?_
    refine q_cond (by kernel_rfl) (!b.toList == b.toList) (by kernel_rfl) (fun h2 => ?_) (fun h2 => ?_)
    · (have g2 := h2; simp only [Bool.cond_true_left, Bool.cond_false_right, Bool.cond_false_left, Bool.cond_true_right, beq_true, beq_false, Bool.not_not, Bool.or_eq_true, Bool.and_eq_true, Bool.or_eq_false_iff, Bool.and_eq_false_iff, Bool.not_eq_true', Bool.not_eq_false', beq_iff_eq, beq_eq_false_iff_ne, bne_iff_ne, bne_eq_false_iff_eq, decide_eq_true_eq, decide_eq_false_iff_not, ne_eq] at g2)
      refine Q_seq ?_
      refine Q_run [0, 1, 4, 5, 6, 11, 12, 13, 16, 19] (stOf 20 [(0, .str a), (1, .str b), (4, .int .i64 1), (5, .bool !a.toList == a.toList), (6, .bool !b.toList == b.toList), (11, .bool !a.toList == a.toList), (13, .bool !b.toList == b.toList)] []) ?_
      refine k_then ?_
      refine q_ret (by kernel_rfl) ?_
      refine k_thenr ?_
      refine k_fin (True) (.int .i64 1) [] [] (.int .i64 1) (by kernel_rfl) (by kernel_rfl) (by kernel_rfl) trivial (keep_nil _) ?_
      simp at h2
    · (have g2 := h2; simp only [Bool.cond_true_left, Bool.cond_false_right, Bool.cond_false_left, Bool.cond_true_right, beq_true, beq_false, Bool.not_not, Bool.or_eq_true, Bool.and_eq_true, Bool.or_eq_false_iff, Bool.and_eq_false_iff, Bool.not_eq_true', Bool.not_eq_false', beq_iff_eq, beq_eq_false_iff_ne, bne_iff_ne, bne_eq_false_iff_eq, decide_eq_true_eq, decide_eq_false_iff_not, ne_eq] at g2)
      refine q_skip (by kernel_rfl) ?_
      refine k_then ?_
      refine Q_seq ?_
      refine Q_seq ?_
      refine Q_run [0, 1, 4, 5, 6, 11, 12, 13, 16, 19] (stOf 20 (z1 ++ [(6, .bool !b.toList == b.toList), (11, .bool !a.toList == a.toList), (13, .bool !b.toList == b.toList), (16, .bool (Op.bytesLess a.toList b.toList))]) []) ?_
      refine k_then ?_
      refine q_cond (by kernel_rfl) (Op.bytesLess a.toList b.toList) (by kernel_rfl) (fun h3 => ?_) (fun h3 => ?_)
      · refine Q_seq ?_
        refine Q_run [0, 1, 4, 5, 6, 11, 12, 13, 16, 19] (stOf 20 [(0, .str a), (1, .str b), (4, .int .i64 (-1)), (5, .bool !a.toList == a.toList), (6, .bool !b.toList == b.toList), (11, .bool !a.toList == a.toList), (13, .bool !b.toList == b.toList), (16, .bool (Op.bytesLess a.toList b.toList))] []) ?_
        refine k_then ?_
        refine q_ret (by kernel_rfl) ?_
        refine k_thenr ?_
        refine k_fin (True) (.int .i64 (-1)) [] [] (.int .i64 (-1)) (by kernel_rfl) (by kernel_rfl) (by kernel_rfl) trivial (keep_nil _) ?_
        exact ⟨by rw [cmpS, lt, h3]; rfl, rfl⟩
      · refine q_skip (by kernel_rfl) ?_
        refine k_then ?_
        refine Q_seq ?_
        refine Q_seq ?_
        refine Q_run [0, 1, 4, 5, 6, 11, 12, 13, 16, 19] (stOf 20 (z1 ++ [(6, .bool !b.toList == b.toList), (11, .bool !a.toList == a.toList), (13, .bool !b.toList == b.toList), (16, .bool (Op.bytesLess a.toList b.toList)), (19, .bool !(Op.bytesLess a.toList b.toList || a.toList == b.toList))]) []) ?_
        refine k_then ?_
        refine q_cond (by kernel_rfl) (!(Op.bytesLess a.toList b.toList || a.toList == b.toList)) (by kernel_rfl) (fun h4 => ?_) (fun h4 => ?_)
        · (have g4 := h4; simp only [Bool.cond_true_left, Bool.cond_false_right, Bool.cond_false_left, Bool.cond_true_right, beq_true, beq_false, Bool.not_not, Bool.or_eq_true, Bool.and_eq_true, Bool.or_eq_false_iff, Bool.and_eq_false_iff, Bool.not_eq_true', Bool.not_eq_false', beq_iff_eq, beq_eq_false_iff_ne, bne_iff_ne, bne_eq_false_iff_eq, decide_eq_true_eq, decide_eq_false_iff_not, ne_eq] at g4)
          refine Q_seq ?_
          refine Q_run [0, 1, 4, 5, 6, 11, 12, 13, 16, 19] (stOf 20 [(0, .str a), (1, .str b), (4, .int .i64 1), (5, .bool !a.toList == a.toList), (6, .bool !b.toList == b.toList), (11, .bool !a.toList == a.toList), (13, .bool !b.toList == b.toList), (16, .bool (Op.bytesLess a.toList b.toList)), (19, .bool !(Op.bytesLess a.toList b.toList || a.toList == b.toList))] []) ?_
          refine k_then ?_
          refine q_ret (by kernel_rfl) ?_
          refine k_thenr ?_
          refine k_fin (True) (.int .i64 1) [] [] (.int .i64 1) (by kernel_rfl) (by kernel_rfl) (by kernel_rfl) trivial (keep_nil _) ?_
          exact ⟨by have e : (a.toList == b.toList) = false := by simpa using g4.2
                    simp [cmpS, lt, eqS, h3, e], rfl⟩
        · (have g4 := h4; simp only [Bool.cond_true_left, Bool.cond_false_right, Bool.cond_false_left, Bool.cond_true_right, beq_true, beq_false, Bool.not_not, Bool.or_eq_true, Bool.and_eq_true, Bool.or_eq_false_iff, Bool.and_eq_false_iff, Bool.not_eq_true', Bool.not_eq_false', beq_iff_eq, beq_eq_false_iff_ne, bne_iff_ne, bne_eq_false_iff_eq, decide_eq_true_eq, decide_eq_false_iff_not, ne_eq] at g4)
          refine q_skip (by kernel_rfl) ?_
          refine k_then ?_
          refine Q_seq ?_
          refine Q_run [0, 1, 4, 5, 6, 11, 12, 13, 16, 19] (stOf 20 (z1 ++ [(6, .bool !b.toList == b.toList), (11, .bool !a.toList == a.toList), (13, .bool !b.toList == b.toList), (16, .bool (Op.bytesLess a.toList b.toList)), (19, .bool !(Op.bytesLess a.toList b.toList || a.toList == b.toList))]) []) ?_
          refine k_then ?_
          refine q_ret (by kernel_rfl) ?_
          refine k_fin (True) (.int .i64 0) [] [] (.int .i64 0) (by kernel_rfl) (by kernel_rfl) (by kernel_rfl) trivial (keep_nil _) ?_
          exact ⟨by have e : (a.toList == b.toList) = true := by simpa using g4.resolve_left (by rw [h3]; exact Bool.false_ne_true)
                    simp [cmpS, lt, eqS, h3, e], rfl⟩
def befP (a b c d : ByteArray) : Bool := bif lt b d then true else bif eqS b d then lt a c else false
theorem before_v (a b c d : ByteArray) : CallsV Try.prog 33 [.agg [.str a, .str b], .agg [.str c, .str d]] [] (fun av H' => av = .bool (befP a b c d) ∧ H' = []) := by
  refine callsV_at Try.func33 (by kernel_rfl) ?_
  refine Q_seq ?_
  let z2 : List (Nat × AV) := [(0, .agg [.str a, .str b]), (1, .agg [.str c, .str d]), (2, .ptr 0 0), (3, .ptr 1 0)]
  refine Q_run [0, 1, 2, 3, 4] (stOf 24 (z2 ++ [(4, .bool false)]) [.row 31 [.str a, .str b], .row 31 [.str c, .str d]]) ?_
  refine k_then ?_
  refine Q_seq ?_
  refine Q_reg ?_
  refine N_run 2 (1 ≤ 1) [2, 3, 4, 5, 6, 7, 8, 9, 10, 11, 12, 13, 14, 15, 16, 17, 18, 19] (stOf 24 (z2 ++ [(4, .bool false), (5, .ptr 0 1), (6, .str b)]) [.row 31 [.str a, .str b], .row 31 [.str c, .str d]]) (by exact by omega) ?_
  refine N_run 2 (1 ≤ 1) [4, 5, 6, 7, 8, 9, 10, 11, 12, 13, 14, 15, 16, 17, 18, 19] (stOf 24 (z2 ++ [(4, .bool false), (5, .ptr 0 1), (6, .str b), (7, .ptr 1 1), (8, .str d)]) [.row 31 [.str a, .str b], .row 31 [.str c, .str d]]) (by exact by omega) ?_
  refine N_run 4 (((Op.bytesLess b.toList d.toList == false) = true → (Op.bytesLess b.toList d.toList == false) = true) ∧ ((Op.bytesLess b.toList d.toList == false) = true → 1 ≤ 1)) [8, 9, 10, 11, 12, 13, 14, 15, 16, 17, 18, 19] (stOf 24 (z2 ++ [(4, .bool false), (5, .ptr 0 1), (6, .str b), (7, .ptr 1 1), (8, .str d), (9, .bool (Op.bytesLess b.toList d.toList)), (10, .bool (Op.bytesLess b.toList d.toList)), (11, .cnd (Op.bytesLess b.toList d.toList == false) (.ptr 0 1)), (12, .cnd (Op.bytesLess b.toList d.toList == false) (.str b))]) [.row 31 [.str a, .str b], .row 31 [.str c, .str d]]) (by exact ⟨fun h => h, by omega⟩) ?_
  refine N_run 2 (((Op.bytesLess b.toList d.toList == false) = true → (Op.bytesLess b.toList d.toList == false) = true) ∧ ((Op.bytesLess b.toList d.toList == false) = true → 1 ≤ 1)) [10, 11, 12, 13, 14, 15, 16, 17, 18, 19] (stOf 24 (z2 ++ [(4, .bool false), (5, .ptr 0 1), (6, .str b), (7, .ptr 1 1), (8, .str d), (9, .bool (Op.bytesLess b.toList d.toList)), (10, .bool (Op.bytesLess b.toList d.toList)), (11, .cnd (Op.bytesLess b.toList d.toList == false) (.ptr 0 1)), (12, .cnd (Op.bytesLess b.toList d.toList == false) (.str b)), (13, .cnd (Op.bytesLess b.toList d.toList == false) (.ptr 1 1)), (14, .cnd (Op.bytesLess b.toList d.toList == false) (.str d))]) [.row 31 [.str a, .str b], .row 31 [.str c, .str d]]) (by exact ⟨fun h => h, by omega⟩) ?_
  refine N_run 4 (((Op.bytesLess b.toList d.toList == false) = true → (Op.bytesLess b.toList d.toList == false) = true) ∧ ((Op.bytesLess b.toList d.toList == false) = true → (Op.bytesLess b.toList d.toList == false) = true) ∧ ((Op.bytesLess b.toList d.toList == false) = true → (Op.bytesLess b.toList d.toList == false) = true) ∧ ((Op.bytesLess b.toList d.toList == false && (b.toList == d.toList) == true) = true → (Op.bytesLess b.toList d.toList == false && (b.toList == d.toList) == true) = true) ∧ ((Op.bytesLess b.toList d.toList == false && (b.toList == d.toList) == true) = true → 1 ≤ 2)) [14, 15, 16, 17, 18, 19] (stOf 24 (z2 ++ [(4, .bool false), (5, .ptr 0 1), (6, .str b), (7, .ptr 1 1), (8, .str d), (9, .bool (Op.bytesLess b.toList d.toList)), (10, .bool (Op.bytesLess b.toList d.toList)), (11, .cnd (Op.bytesLess b.toList d.toList == false) (.ptr 0 1)), (12, .cnd (Op.bytesLess b.toList d.toList == false) (.str b)), (13, .cnd (Op.bytesLess b.toList d.toList == false) (.ptr 1 1)), (14, .cnd (Op.bytesLess b.toList d.toList == false) (.str d)), (15, .cnd (Op.bytesLess b.toList d.toList == false) (.bool (b.toList == d.toList))), (16, .cnd (Op.bytesLess b.toList d.toList == false) (.bool (b.toList == d.toList))), (17, .cnd (Op.bytesLess b.toList d.toList == false && (b.toList == d.toList) == true) (.ptr 0 0)), (18, .cnd (Op.bytesLess b.toList d.toList == false && (b.toList == d.toList) == true) (.str a))]) [.row 31 [.str a, .str b], .row 31 [.str c, .str d]]) (by exact ⟨fun h => h, fun h => h, fun h => h, fun h => h, by omega⟩) ?_
  refine N_run 2 (((Op.bytesLess b.toList d.toList == false && (b.toList == d.toList) == true) = true → (Op.bytesLess b.toList d.toList == false && (b.toList == d.toList) == true) = true) ∧ ((Op.bytesLess b.toList d.toList == false && (b.toList == d.toList) == true) = true → 1 ≤ 2)) [16, 17, 18, 19] (stOf 24 (z2 ++ [(4, .bool false), (5, .ptr 0 1), (6, .str b), (7, .ptr 1 1), (8, .str d), (9, .bool (Op.bytesLess b.toList d.toList)), (10, .bool (Op.bytesLess b.toList d.toList)), (11, .cnd (Op.bytesLess b.toList d.toList == false) (.ptr 0 1)), (12, .cnd (Op.bytesLess b.toList d.toList == false) (.str b)), (13, .cnd (Op.bytesLess b.toList d.toList == false) (.ptr 1 1)), (14, .cnd (Op.bytesLess b.toList d.toList == false) (.str d)), (15, .cnd (Op.bytesLess b.toList d.toList == false) (.bool (b.toList == d.toList))), (16, .cnd (Op.bytesLess b.toList d.toList == false) (.bool (b.toList == d.toList))), (17, .cnd (Op.bytesLess b.toList d.toList == false && (b.toList == d.toList) == true) (.ptr 0 0)), (18, .cnd (Op.bytesLess b.toList d.toList == false && (b.toList == d.toList) == true) (.str a)), (19, .cnd (Op.bytesLess b.toList d.toList == false && (b.toList == d.toList) == true) (.ptr 1 0)), (20, .cnd (Op.bytesLess b.toList d.toList == false && (b.toList == d.toList) == true) (.str c))]) [.row 31 [.str a, .str b], .row 31 [.str c, .str d]]) (by exact ⟨fun h => h, by omega⟩) ?_
  refine N_run 4 (((Op.bytesLess b.toList d.toList == false && (b.toList == d.toList) == true) = true → (Op.bytesLess b.toList d.toList == false && (b.toList == d.toList) == true) = true) ∧ ((Op.bytesLess b.toList d.toList == false && (b.toList == d.toList) == true) = true → (Op.bytesLess b.toList d.toList == false && (b.toList == d.toList) == true) = true) ∧ ((Op.bytesLess b.toList d.toList == false) = true → (Op.bytesLess b.toList d.toList == false) = true) ∧ ((Op.bytesLess b.toList d.toList == false) = true → (b.toList == d.toList) = true → (Op.bytesLess b.toList d.toList == false && (b.toList == d.toList) == true) = true) ∧ (Op.bytesLess b.toList d.toList = false → (Op.bytesLess b.toList d.toList == false) = true)) [] (stOf 24 (z2 ++ [(4, .bool (bif Op.bytesLess b.toList d.toList then true else bif b.toList == d.toList then Op.bytesLess a.toList c.toList else false)), (5, .ptr 0 1), (6, .str b), (7, .ptr 1 1), (8, .str d), (9, .bool (Op.bytesLess b.toList d.toList)), (10, .bool (Op.bytesLess b.toList d.toList)), (11, .cnd (Op.bytesLess b.toList d.toList == false) (.ptr 0 1)), (12, .cnd (Op.bytesLess b.toList d.toList == false) (.str b)), (13, .cnd (Op.bytesLess b.toList d.toList == false) (.ptr 1 1)), (14, .cnd (Op.bytesLess b.toList d.toList == false) (.str d)), (15, .cnd (Op.bytesLess b.toList d.toList == false) (.bool (b.toList == d.toList))), (16, .cnd (Op.bytesLess b.toList d.toList == false) (.bool (b.toList == d.toList))), (17, .cnd (Op.bytesLess b.toList d.toList == false && (b.toList == d.toList) == true) (.ptr 0 0)), (18, .cnd (Op.bytesLess b.toList d.toList == false && (b.toList == d.toList) == true) (.str a)), (19, .cnd (Op.bytesLess b.toList d.toList == false && (b.toList == d.toList) == true) (.ptr 1 0)), (20, .cnd (Op.bytesLess b.toList d.toList == false && (b.toList == d.toList) == true) (.str c)), (21, .cnd (Op.bytesLess b.toList d.toList == false && (b.toList == d.toList) == true) (.bool (Op.bytesLess a.toList c.toList))), (22, .cnd (Op.bytesLess b.toList d.toList == false) (.bool (bif b.toList == d.toList then Op.bytesLess a.toList c.toList else false))), (23, .bool (bif Op.bytesLess b.toList d.toList then true else bif b.toList == d.toList then Op.bytesLess a.toList c.toList else false))]) [.row 31 [.str a, .str b], .row 31 [.str c, .str d]]) (by exact ⟨fun h => h, fun h => h, fun h => h, by (intro h k; rw [h, k]; rfl), by (simp; done)⟩) ?_
  refine N_sel [0, 1, 2, 3, 4] (stOf 24 (z2 ++ [(4, .bool (bif Op.bytesLess b.toList d.toList then true else bif b.toList == d.toList then Op.bytesLess a.toList c.toList else false))]) [.row 31 [.str a, .str b], .row 31 [.str c, .str d]]) ?_
  refine k_then ?_
  refine q_ret (by kernel_rfl) ?_
  refine k_fin (True) (.bool (bif Op.bytesLess b.toList d.toList then true else bif b.toList == d.toList then Op.bytesLess a.toList c.toList else false)) [] [] (.bool (bif Op.bytesLess b.toList d.toList then true else bif b.toList == d.toList then Op.bytesLess a.toList c.toList else false)) (by kernel_rfl) (by kernel_rfl) (by kernel_rfl) trivial (keep_nil _) ?_
  exact ⟨rfl, rfl⟩
def orI (x y : Int) : Int := bif x == 0 then y else x
theorem or_v (x y : Int) : CallsV Try.prog 38 [.slv 2 1 [.int .i64 x, .int .i64 y]] [] (fun av H' => av = .int .i64 (orI x y) ∧ H' = []) := by
  refine callsV_at Try.func38 (by kernel_rfl) ?_
  refine Q_seq ?_
  let z3 : List (Nat × AV) := [(0, .slv 2 1 [.int .i64 x, .int .i64 y]), (2, .int .i64 0)]
  refine Q_run [0, 2, 3, 5, 6, 7, 8, 9, 14] (stOf 18 z3 []) ?_
  refine k_then ?_
  refine Q_seq ?_
  refine Q_run [0, 2, 3, 5, 6, 7, 8, 9, 14] (stOf 18 (z3 ++ [(3, .int .i64 0)]) []) ?_
  refine k_then ?_
  refine Q_seq ?_
  refine Q_seq ?_
  refine Q_run [0, 2, 3, 5, 6, 7, 8, 9, 14] (stOf 18 (z3 ++ [(3, .int .i64 0), (6, .slv 2 1 [.int .i64 x, .int .i64 y]), (7, .int .i64 2), (8, .int .i64 0)]) []) ?_
  refine k_then ?_
  refine q_block (by kernel_rfl) ?_
  refine q_loopd (by kernel_rfl) [0, 2, 3, 6, 7, 8] 2 (fun n' s' => (n' = 2 ∧ s' = stOf 18 [(0, .slv 2 1 [.int .i64 x, .int .i64 y]), (2, .int .i64 0), (3, .int .i64 0), (6, .slv 2 1 [.int .i64 x, .int .i64 y]), (7, .int .i64 2), (8, .int .i64 0)] []) ∨ (n' = 1 ∧ x = 0 ∧ s' = stOf 18 [(0, .slv 2 1 [.int .i64 x, .int .i64 y]), (2, .int .i64 0), (3, .int .i64 0), (6, .slv 2 1 [.int .i64 x, .int .i64 y]), (7, .int .i64 2), (8, .int .i64 1)] []) ∨ (n' = 0 ∧ x = 0 ∧ y = 0 ∧ s' = stOf 18 [(0, .slv 2 1 [.int .i64 x, .int .i64 y]), (2, .int .i64 0), (3, .int .i64 0), (6, .slv 2 1 [.int .i64 x, .int .i64 y]), (7, .int .i64 2), (8, .int .i64 2)] [])) (Or.inl ⟨rfl, by kernel_rfl⟩) ?_
  rintro n' _ (⟨rfl, rfl⟩ | ⟨rfl, hx0, rfl⟩ | ⟨rfl, hx0, hy0, rfl⟩)
  · skip
    refine Q_seq ?_
    refine Q_run [0, 2, 3, 5, 6, 7, 8, 9, 14] (stOf 18 (z3 ++ [(3, .int .i64 0), (6, .slv 2 1 [.int .i64 x, .int .i64 y]), (7, .int .i64 2), (8, .int .i64 0), (9, .bool true)]) []) ?_
    refine k_then ?_
    refine Q_seq ?_
    refine q_yes (by kernel_rfl) true (by kernel_rfl) rfl ?_
    refine q_skip (by kernel_rfl) ?_
    refine k_then ?_
    refine Q_seq ?_
    refine q_block (by kernel_rfl) ?_
    refine Q_seq ?_
    refine Q_reg ?_
    refine N_run 1 ((0 : Int) ≤ (0 : Int) ∧ (0 : Int) < (↑2 : Int)) [1, 2] (stOf 18 (z3 ++ [(3, .int .i64 0), (6, .slv 2 1 [.int .i64 x, .int .i64 y]), (7, .int .i64 2), (8, .int .i64 0), (9, .bool true), (10, .fptr [.int .i64 x, .int .i64 y])]) []) (by exact ⟨by omega, by omega⟩) ?_
    refine N_run 1 (1 ≤ 2) [2] (stOf 18 (z3 ++ [(3, .int .i64 0), (6, .slv 2 1 [.int .i64 x, .int .i64 y]), (7, .int .i64 2), (8, .int .i64 0), (9, .bool true), (10, .fptr [.int .i64 x, .int .i64 y]), (11, .int .i64 x)]) []) (by exact by omega) ?_
    refine N_run 1 (True) [] (stOf 18 (z3 ++ [(3, .int .i64 0), (5, .int .i64 x), (6, .slv 2 1 [.int .i64 x, .int .i64 y]), (7, .int .i64 2), (8, .int .i64 0), (9, .bool true), (10, .fptr [.int .i64 x, .int .i64 y]), (11, .int .i64 x)]) []) trivial ?_
    refine N_sel [0, 2, 3, 5, 6, 7, 8, 9, 14] (stOf 18 (z3 ++ [(3, .int .i64 0), (5, .int .i64 x), (6, .slv 2 1 [.int .i64 x, .int .i64 y]), (7, .int .i64 2), (8, .int .i64 0), (9, .bool true)]) []) ?_
    refine k_then ?_
    refine Q_seq ?_
    refine Q_run [0, 2, 3, 5, 6, 7, 8, 9, 14] (stOf 18 (z3 ++ [(3, .int .i64 0), (5, .int .i64 x), (6, .slv 2 1 [.int .i64 x, .int .i64 y]), (7, .int .i64 2), (8, .int .i64 0), (9, .bool true), (14, .bool (x != (0 : Int)))]) []) ?_
    refine k_then ?_
    refine q_cond (by kernel_rfl) (x != (0 : Int)) (by kernel_rfl) (fun h1 => ?_) (fun h1 => ?_)
    · (have g1 := h1; simp only [Bool.cond_true_left, Bool.cond_false_right, Bool.cond_false_left, Bool.cond_true_right, beq_true, beq_false, Bool.not_not, Bool.or_eq_true, Bool.and_eq_true, Bool.or_eq_false_iff, Bool.and_eq_false_iff, Bool.not_eq_true', Bool.not_eq_false', beq_iff_eq, beq_eq_false_iff_ne, bne_iff_ne, bne_eq_false_iff_eq, decide_eq_true_eq, decide_eq_false_iff_not, ne_eq] at g1)
      refine Q_seq ?_
      refine Q_run [0, 2, 3, 5, 6, 7, 8, 9, 14] (stOf 18 [(0, .slv 2 1 [.int .i64 x, .int .i64 y]), (2, .int .i64 x), (3, .int .i64 0), (5, .int .i64 x), (6, .slv 2 1 [.int .i64 x, .int .i64 y]), (7, .int .i64 2), (8, .int .i64 0), (9, .bool true), (14, .bool (x != (0 : Int)))] []) ?_
      refine k_then ?_
      refine q_ret (by kernel_rfl) ?_
      refine k_blockr ?_
      refine k_thenr ?_
      refine k_loopr ?_
      refine k_blockr ?_
      refine k_thenr ?_
      refine k_fin (True) (.int .i64 x) [] [] (.int .i64 x) (by kernel_rfl) (by kernel_rfl) (by kernel_rfl) trivial (keep_nil _) ?_
      exact ⟨by have hx : (x == 0) = false := by simpa using g1
                rw [orI, hx]; rfl, rfl⟩
    · (have g1 := h1; simp only [Bool.cond_true_left, Bool.cond_false_right, Bool.cond_false_left, Bool.cond_true_right, beq_true, beq_false, Bool.not_not, Bool.or_eq_true, Bool.and_eq_true, Bool.or_eq_false_iff, Bool.and_eq_false_iff, Bool.not_eq_true', Bool.not_eq_false', beq_iff_eq, beq_eq_false_iff_ne, bne_iff_ne, bne_eq_false_iff_eq, decide_eq_true_eq, decide_eq_false_iff_not, ne_eq] at g1)
      refine q_skip (by kernel_rfl) ?_
      refine k_block ?_
      refine k_then ?_
      refine Q_reg ?_
      refine N_run 1 (True) [1] (stOf 18 (z3 ++ [(3, .int .i64 0), (5, .int .i64 x), (6, .slv 2 1 [.int .i64 x, .int .i64 y]), (7, .int .i64 2), (8, .int .i64 0), (9, .bool true), (14, .bool (x != (0 : Int))), (16, .int .i64 1)]) []) trivial ?_
      refine N_run 1 (True) [] (stOf 18 (z3 ++ [(3, .int .i64 0), (5, .int .i64 x), (6, .slv 2 1 [.int .i64 x, .int .i64 y]), (7, .int .i64 2), (8, .int .i64 1), (9, .bool true), (14, .bool (x != (0 : Int))), (16, .int .i64 1)]) []) trivial ?_
      refine N_sel [0, 2, 3, 5, 6, 7, 8, 9, 14] (stOf 18 (z3 ++ [(3, .int .i64 0), (5, .int .i64 x), (6, .slv 2 1 [.int .i64 x, .int .i64 y]), (7, .int .i64 2), (8, .int .i64 1), (9, .bool true), (14, .bool (x != (0 : Int)))]) []) ?_
      have hx0 : x = 0 := by simpa using g1
      refine k_loopd 1 (by omega) (Or.inr (Or.inl ⟨rfl, hx0, by kernel_rfl⟩))
  · skip
    refine Q_seq ?_
    refine Q_run [0, 2, 3, 5, 6, 7, 8, 9, 14] (stOf 18 (z3 ++ [(3, .int .i64 0), (6, .slv 2 1 [.int .i64 x, .int .i64 y]), (7, .int .i64 2), (8, .int .i64 1), (9, .bool true)]) []) ?_
    refine k_then ?_
    refine Q_seq ?_
    refine q_yes (by kernel_rfl) true (by kernel_rfl) rfl ?_
    refine q_skip (by kernel_rfl) ?_
    refine k_then ?_
    refine Q_seq ?_
    refine q_block (by kernel_rfl) ?_
    refine Q_seq ?_
    refine Q_reg ?_
    refine N_run 1 ((0 : Int) ≤ (1 : Int) ∧ (1 : Int) < (↑2 : Int)) [1, 2] (stOf 18 (z3 ++ [(3, .int .i64 0), (6, .slv 2 1 [.int .i64 x, .int .i64 y]), (7, .int .i64 2), (8, .int .i64 1), (9, .bool true), (10, .fptr [.int .i64 y])]) []) (by exact ⟨by omega, by omega⟩) ?_
    refine N_run 1 (1 ≤ 1) [2] (stOf 18 (z3 ++ [(3, .int .i64 0), (6, .slv 2 1 [.int .i64 x, .int .i64 y]), (7, .int .i64 2), (8, .int .i64 1), (9, .bool true), (10, .fptr [.int .i64 y]), (11, .int .i64 y)]) []) (by exact by omega) ?_
    refine N_run 1 (True) [] (stOf 18 (z3 ++ [(3, .int .i64 0), (5, .int .i64 y), (6, .slv 2 1 [.int .i64 x, .int .i64 y]), (7, .int .i64 2), (8, .int .i64 1), (9, .bool true), (10, .fptr [.int .i64 y]), (11, .int .i64 y)]) []) trivial ?_
    refine N_sel [0, 2, 3, 5, 6, 7, 8, 9, 14] (stOf 18 (z3 ++ [(3, .int .i64 0), (5, .int .i64 y), (6, .slv 2 1 [.int .i64 x, .int .i64 y]), (7, .int .i64 2), (8, .int .i64 1), (9, .bool true)]) []) ?_
    refine k_then ?_
    refine Q_seq ?_
    refine Q_run [0, 2, 3, 5, 6, 7, 8, 9, 14] (stOf 18 (z3 ++ [(3, .int .i64 0), (5, .int .i64 y), (6, .slv 2 1 [.int .i64 x, .int .i64 y]), (7, .int .i64 2), (8, .int .i64 1), (9, .bool true), (14, .bool (y != (0 : Int)))]) []) ?_
    refine k_then ?_
    refine q_cond (by kernel_rfl) (y != (0 : Int)) (by kernel_rfl) (fun h1 => ?_) (fun h1 => ?_)
    · (have g1 := h1; simp only [Bool.cond_true_left, Bool.cond_false_right, Bool.cond_false_left, Bool.cond_true_right, beq_true, beq_false, Bool.not_not, Bool.or_eq_true, Bool.and_eq_true, Bool.or_eq_false_iff, Bool.and_eq_false_iff, Bool.not_eq_true', Bool.not_eq_false', beq_iff_eq, beq_eq_false_iff_ne, bne_iff_ne, bne_eq_false_iff_eq, decide_eq_true_eq, decide_eq_false_iff_not, ne_eq] at g1)
      refine Q_seq ?_
      refine Q_run [0, 2, 3, 5, 6, 7, 8, 9, 14] (stOf 18 [(0, .slv 2 1 [.int .i64 x, .int .i64 y]), (2, .int .i64 y), (3, .int .i64 0), (5, .int .i64 y), (6, .slv 2 1 [.int .i64 x, .int .i64 y]), (7, .int .i64 2), (8, .int .i64 1), (9, .bool true), (14, .bool (y != (0 : Int)))] []) ?_
      refine k_then ?_
      refine q_ret (by kernel_rfl) ?_
      refine k_blockr ?_
      refine k_thenr ?_
      refine k_loopr ?_
      refine k_blockr ?_
      refine k_thenr ?_
      refine k_fin (True) (.int .i64 y) [] [] (.int .i64 y) (by kernel_rfl) (by kernel_rfl) (by kernel_rfl) trivial (keep_nil _) ?_
      exact ⟨by rw [orI, hx0]; rfl, rfl⟩
    · (have g1 := h1; simp only [Bool.cond_true_left, Bool.cond_false_right, Bool.cond_false_left, Bool.cond_true_right, beq_true, beq_false, Bool.not_not, Bool.or_eq_true, Bool.and_eq_true, Bool.or_eq_false_iff, Bool.and_eq_false_iff, Bool.not_eq_true', Bool.not_eq_false', beq_iff_eq, beq_eq_false_iff_ne, bne_iff_ne, bne_eq_false_iff_eq, decide_eq_true_eq, decide_eq_false_iff_not, ne_eq] at g1)
      refine q_skip (by kernel_rfl) ?_
      refine k_block ?_
      refine k_then ?_
      refine Q_reg ?_
      refine N_run 1 (True) [1] (stOf 18 (z3 ++ [(3, .int .i64 0), (5, .int .i64 y), (6, .slv 2 1 [.int .i64 x, .int .i64 y]), (7, .int .i64 2), (8, .int .i64 1), (9, .bool true), (14, .bool (y != (0 : Int))), (16, .int .i64 2)]) []) trivial ?_
      refine N_run 1 (True) [] (stOf 18 (z3 ++ [(3, .int .i64 0), (5, .int .i64 y), (6, .slv 2 1 [.int .i64 x, .int .i64 y]), (7, .int .i64 2), (8, .int .i64 2), (9, .bool true), (14, .bool (y != (0 : Int))), (16, .int .i64 2)]) []) trivial ?_
      refine N_sel [0, 2, 3, 5, 6, 7, 8, 9, 14] (stOf 18 (z3 ++ [(3, .int .i64 0), (5, .int .i64 y), (6, .slv 2 1 [.int .i64 x, .int .i64 y]), (7, .int .i64 2), (8, .int .i64 2), (9, .bool true), (14, .bool (y != (0 : Int)))]) []) ?_
      have hy0 : y = 0 := by simpa using g1
      refine k_loopd 0 (by omega) (Or.inr (Or.inr ⟨rfl, hx0, hy0, by kernel_rfl⟩))
  · skip
    refine Q_seq ?_
    refine Q_run [0, 2, 3, 5, 6, 7, 8, 9, 14] (stOf 18 (z3 ++ [(3, .int .i64 0), (6, .slv 2 1 [.int .i64 x, .int .i64 y]), (7, .int .i64 2), (8, .int .i64 2), (9, .bool false)]) []) ?_
    refine k_then ?_
    refine Q_seq ?_
    refine q_no (by kernel_rfl) false (by kernel_rfl) rfl ?_
    refine q_exit (by kernel_rfl) 0 (by kernel_rfl) ?_
    refine k_thenx ?_
    refine k_loopx ?_
    refine k_blockx (by kernel_rfl) ?_
    refine k_then ?_
    refine Q_seq ?_
    refine Q_run [0, 2, 3, 5, 6, 7, 8, 9, 14] (stOf 18 (z3 ++ [(3, .int .i64 0), (6, .slv 2 1 [.int .i64 x, .int .i64 y]), (7, .int .i64 2), (8, .int .i64 2), (9, .bool false)]) []) ?_
    refine k_then ?_
    refine q_ret (by kernel_rfl) ?_
    refine k_fin (True) (.int .i64 0) [] [] (.int .i64 0) (by kernel_rfl) (by kernel_rfl) (by kernel_rfl) trivial (keep_nil _) ?_
    exact ⟨by rw [orI, hx0, hy0]; rfl, rfl⟩
theorem compare_v (a b c d : ByteArray) : CallsV Try.prog 27 [.agg [.str a, .str b], .agg [.str c, .str d]] [] (fun av H' => av = .int .i64 (orI (cmpS b d) (cmpS a c)) ∧ H' = []) := by
  refine callsV_at Try.func27 (by kernel_rfl) ?_
  refine Q_seq ?_
  let z4 : List (Nat × AV) := [(0, .agg [.str a, .str b]), (1, .agg [.str c, .str d]), (2, .ptr 0 0), (3, .ptr 1 0)]
  refine Q_run [0, 1, 2, 3, 4] (stOf 17 (z4 ++ [(4, .int .i64 0)]) [.row 31 [.str a, .str b], .row 31 [.str c, .str d]]) ?_
  refine k_then ?_
  refine Q_seq ?_
  refine q_draw (by kernel_rfl) (by kernel_rfl) ?_
  refine d_takes [0, 1, 2, 3, 5, 6, 7, 8] (1 ≤ 1 ∧ 1 ≤ 1 ∧ 1 ≤ 2 ∧ 1 ≤ 2) 5 #[true, true, true, true, false, true, true, true, true, false, false, false, false] (stOf 17 (z4 ++ [(4, .int .i64 0), (5, .ptr 0 1), (6, .str b), (7, .ptr 1 1), (8, .str d), (10, .ptr 0 0), (11, .str a), (12, .ptr 1 0), (13, .str c)]) [.row 31 [.str a, .str b], .row 31 [.str c, .str d]]) (by kernel_rfl) (by kernel_rfl) (by kernel_rfl) (by exact ⟨by omega, by omega, by omega, by omega⟩) ?_
  refine d_callp 4 39 [.str b, .str d] (.int .i64 (cmpS b d)) 4 #[true, true, true, true, true, true, true, true, true, false, false, false, false] (stOf 17 (z4 ++ [(4, .int .i64 0), (5, .ptr 0 1), (6, .str b), (7, .ptr 1 1), (8, .str d), (9, .int .i64 (cmpS b d)), (10, .ptr 0 0), (11, .str a), (12, .ptr 1 0), (13, .str c)]) [.row 31 [.str a, .str b], .row 31 [.str c, .str d]]) (by kernel_rfl) (by kernel_rfl) (by kernel_rfl) (by kernel_rfl) (by kernel_rfl) (by kernel_rfl) (by kernel_rfl) (cmp_v b d ) ?_
  refine d_callp 9 39 [.str a, .str c] (.int .i64 (cmpS a c)) 3 #[true, true, true, true, true, true, true, true, true, true, false, false, false] (stOf 17 (z4 ++ [(4, .int .i64 0), (5, .ptr 0 1), (6, .str b), (7, .ptr 1 1), (8, .str d), (9, .int .i64 (cmpS b d)), (10, .ptr 0 0), (11, .str a), (12, .ptr 1 0), (13, .str c), (14, .int .i64 (cmpS a c))]) [.row 31 [.str a, .str b], .row 31 [.str c, .str d]]) (by kernel_rfl) (by kernel_rfl) (by kernel_rfl) (by kernel_rfl) (by kernel_rfl) (by kernel_rfl) (by kernel_rfl) (cmp_v a c ) ?_
  refine d_new 10 2 #[true, true, true, true, true, true, true, true, true, true, true, false, false] (stOf 17 (z4 ++ [(4, .int .i64 0), (5, .ptr 0 1), (6, .str b), (7, .ptr 1 1), (8, .str d), (9, .int .i64 (cmpS b d)), (10, .ptr 0 0), (11, .str a), (12, .ptr 1 0), (13, .str c), (14, .int .i64 (cmpS a c)), (15, .sl 2 0 2 1)]) [.row 31 [.str a, .str b], .row 31 [.str c, .str d], .row 3 [.int .i64 (cmpS b d), .int .i64 (cmpS a c)]]) (by kernel_rfl) (by kernel_rfl) (True) (by kernel_rfl) (by kernel_rfl) trivial (by kernel_rfl) (by kernel_rfl) ?_
  refine d_lendo 11 38 2 2 1 3 [.int .i64 (cmpS b d), .int .i64 (cmpS a c)] [] (.slv 2 1 [.int .i64 (cmpS b d), .int .i64 (cmpS a c)]) (.int .i64 (orI (cmpS b d) (cmpS a c))) [] _ _ _ rfl (by kernel_rfl) (by kernel_rfl) (by kernel_rfl) rfl (by intro z hz; simp only [List.mem_cons, List.not_mem_nil, or_false] at hz; rcases hz with rfl | rfl <;> exact ⟨rfl, fun h => nomatch h⟩) (Nat.le_refl 2) rfl rfl (or_v _ _) rfl rfl rfl ?_
  refine d_takes [12] (True) 0 #[true, true, true, true, true, true, true, true, true, true, true, true, true] (stOf 17 (z4 ++ [(4, .int .i64 (orI (cmpS b d) (cmpS a c))), (5, .ptr 0 1), (6, .str b), (7, .ptr 1 1), (8, .str d), (9, .int .i64 (cmpS b d)), (10, .ptr 0 0), (11, .str a), (12, .ptr 1 0), (13, .str c), (14, .int .i64 (cmpS a c)), (15, .sl 2 0 2 1), (16, .int .i64 (orI (cmpS b d) (cmpS a c)))]) [.row 31 [.str a, .str b], .row 31 [.str c, .str d], .row 3 [.int .i64 (cmpS b d), .int .i64 (cmpS a c)]]) (by kernel_rfl) (by kernel_rfl) (by kernel_rfl) trivial ?_
  refine d_done [0, 1, 2, 3, 4] (stOf 17 (z4 ++ [(4, .int .i64 (orI (cmpS b d) (cmpS a c)))]) [.row 31 [.str a, .str b], .row 31 [.str c, .str d], .row 3 [.int .i64 (cmpS b d), .int .i64 (cmpS a c)]]) (by kernel_rfl) (by kernel_rfl) ?_
  refine k_then ?_
  refine q_ret (by kernel_rfl) ?_
  refine k_fin (True) (.int .i64 (orI (cmpS b d) (cmpS a c))) [] [] (.int .i64 (orI (cmpS b d) (cmpS a c))) (by kernel_rfl) (by kernel_rfl) (by kernel_rfl) trivial (keep_nil _) ?_
  exact ⟨rfl, rfl⟩
theorem bl_trans : ∀ (x y z : List UInt8), Op.bytesLess x y = true → Op.bytesLess y z = true → Op.bytesLess x z = true
  | _, [], _, h, _ => by cases ‹List UInt8› <;> simp [Op.bytesLess] at h
  | _, _ :: _, [], _, h => by simp [Op.bytesLess] at h
  | [], b :: y, c :: z, _, _ => by simp [Op.bytesLess]
  | a :: x, b :: y, c :: z, h, k => by
    simp only [Op.bytesLess, Bool.or_eq_true, Bool.and_eq_true, decide_eq_true_eq, beq_iff_eq] at h k ⊢
    rcases h with h | ⟨rfl, h⟩
    · rcases k with k | ⟨rfl, k⟩
      · exact Or.inl (UInt8.lt_trans h k)
      · exact Or.inl h
    · rcases k with k | ⟨rfl, k⟩
      · exact Or.inl k
      · exact Or.inr ⟨rfl, bl_trans x y z h k⟩
theorem bl_tri : ∀ (x y : List UInt8), Op.bytesLess x y = false → (x == y) = false → Op.bytesLess y x = true
  | [], [], _, h => by simp at h
  | a :: x, [], _, _ => by simp [Op.bytesLess]
  | [], b :: y, h, _ => by simp [Op.bytesLess] at h
  | a :: x, b :: y, h, k => by
    simp only [Op.bytesLess, Bool.or_eq_false_iff, Bool.and_eq_false_iff, decide_eq_false_iff_not, beq_eq_false_iff_ne, ne_eq, Bool.or_eq_true, Bool.and_eq_true, decide_eq_true_eq, beq_iff_eq] at h k ⊢
    by_cases hab : b = a
    · subst hab
      refine Or.inr ⟨rfl, bl_tri x y ?_ ?_⟩
      · rcases h.2 with h2 | h2
        · exact absurd rfl h2
        · exact h2
      · rw [beq_eq_false_iff_ne]
        intro e
        exact k (by rw [e])
    · rcases UInt8.lt_or_lt_of_ne hab with h1 | h1
      · exact Or.inl h1
      · exact absurd h1 h.1
theorem bl_asymm : ∀ (x y : List UInt8), Op.bytesLess x y = true → Op.bytesLess y x = false ∧ (y == x) = false
  | _, [], h => by cases ‹List UInt8› <;> simp [Op.bytesLess] at h
  | [], b :: y, _ => by simp [Op.bytesLess]
  | a :: x, b :: y, h => by
    simp only [Op.bytesLess, Bool.or_eq_true, Bool.and_eq_true, decide_eq_true_eq, beq_iff_eq, Bool.or_eq_false_iff, Bool.and_eq_false_iff, decide_eq_false_iff_not, beq_eq_false_iff_ne, ne_eq] at h ⊢
    rcases h with h | ⟨rfl, h⟩
    · exact ⟨⟨UInt8.lt_asymm h, Or.inl fun e => UInt8.lt_irrefl _ (e ▸ h)⟩, by rw [List.cons.injEq]; exact fun e => UInt8.lt_irrefl _ (e.1 ▸ h)⟩
    · have ih := bl_asymm x y h
      exact ⟨⟨UInt8.lt_irrefl _, Or.inr ih.1⟩, by rw [List.cons.injEq]; exact fun e => by have := ih.2; simp [e.2] at this⟩
/-- before, as the program compares: two ways -/
theorem cmp_lt (a b c d : ByteArray) : decide (0 ≤ orI (cmpS b d) (cmpS a c)) = !befP a b c d := by
  unfold orI befP cmpS
  cases h1 : lt b d with
  | true => rfl
  | false =>
    cases h2 : eqS b d with
    | true =>
      cases h3 : lt a c with
      | true => rfl
      | false => cases h4 : eqS a c <;> rfl
    | false => rfl
theorem cmp_gt (a b c d : ByteArray) : decide (0 < orI (cmpS b d) (cmpS a c)) = befP c d a b := by
  unfold orI befP cmpS
  cases h1 : lt b d with
  | true =>
    obtain ⟨e1, e2⟩ := bl_asymm _ _ h1
    simp only [lt, eqS, e1, e2]
    rfl
  | false =>
    cases h2 : eqS b d with
    | true =>
      have e0 : b.toList = d.toList := by simpa [eqS] using h2
      have e1 : lt d b = false := by simp only [lt] at h1 ⊢; rw [← e0] at h1 ⊢; exact h1
      have e2 : eqS d b = true := by simp [eqS, e0]
      rw [e1, e2]
      cases h3 : lt a c with
      | true =>
        obtain ⟨e3, e4⟩ := bl_asymm _ _ h3
        simp only [lt, e3]
        rfl
      | false =>
        cases h4 : eqS a c with
        | true =>
          have e5 : a.toList = c.toList := by simpa [eqS] using h4
          have e6 : lt c a = false := by simp only [lt] at h3 ⊢; rw [← e5] at h3 ⊢; exact h3
          rw [e6]; rfl
        | false =>
          have e5 : lt c a = true := bl_tri _ _ h3 h4
          rw [e5]; rfl
    | false =>
      have e1 : lt d b = true := bl_tri _ _ h1 h2
      rw [e1]; rfl
end Go.Proofs.Ytlmkeoegammdjaa
