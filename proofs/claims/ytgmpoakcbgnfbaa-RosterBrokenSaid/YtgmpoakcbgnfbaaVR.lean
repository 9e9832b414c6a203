/-
  Contracts of the functions on lists of users, in the logic of values.
-/
import Derived.Test.YtgmpoakcbgnfbaaVo
import Derived.Test.YtgmpoakcbgnfbaaUsers
namespace Go.Proofs.Ytgmpoakcbgnfbaa
open Go Go.RowKit V
set_option linter.unusedSimpArgs false
set_option linter.unusedVariables false

def encUA (u : U) : List AV := [.str u.1, .int .i64 u.2]
theorem pairU : PairE encU encUA := fun _ => rfl
theorem lenUA (u : U) : (encUA u).length = 2 := rfl
abbrev usersV (l : List U) : AV := .slv l.length 2 (flatA encUA l)
abbrev uD : U := (ByteArray.empty, 0)
theorem users_at (l : List U) (k : Nat) (hk : k < l.length) : (flatA encUA l).drop ((k : Int).toNat * 2) = AV.str (l.getD k uD).1 :: AV.int .i64 (l.getD k uD).2 :: flatA encUA (l.drop (k + 1)) := flatA_at lenUA l uD k hk
def roleL (s : ByteArray) : List U → Int × Bool
  | [] => (0, false)
  | u :: r => if u.1.toList == s.toList then (u.2, true) else roleL s r
theorem roleL_at {l : List U} {s : ByteArray} {k : Nat} (h : k < l.length) : roleL s (l.drop k) = if (l.getD k uD).1.toList == s.toList then ((l.getD k uD).2, true) else roleL s (l.drop (k + 1)) := by
  rw [List.drop_eq_getElem_cons h, roleL]; simp [List.getD_eq_getElem?_getD, h]
theorem role_v (l : List U) (s : ByteArray) (hl : l.length ≤ 1000000000) : CallsV Try.prog 11 [usersV l, .str s] [] (fun av H' => av = .tuple [.int .i64 (roleL s l).1, .bool (roleL s l).2] ∧ H' = []) := by
  refine callsV_at Try.func11 (by kernel_rfl) ?_
  refine q_seq (by kernel_rfl) ?_
  refine q_run True [0, 1, 4, 5, 7, 8, 9, 10, 11, 17] (stOf 21 [(0, AV.slv l.length (nat_lit 2) (flatA encUA l)), (1, AV.str s), (4, AV.int IntKind.i64 (0 : Int)), (5, AV.bool false)] []) (by kernel_rfl) (by kernel_rfl) (by kernel_rfl) (by kernel_rfl) trivial ?_
  refine k_then ?_
  refine q_seq (by kernel_rfl) ?_
  refine q_seq (by kernel_rfl) ?_
  refine q_run True [0, 1, 4, 5, 7, 8, 9, 10, 11, 17] (stOf 21 [(0, AV.slv l.length (nat_lit 2) (flatA encUA l)), (1, AV.str s), (4, AV.int IntKind.i64 (0 : Int)), (5, AV.bool false), (8, AV.slv l.length (nat_lit 2) (flatA encUA l)), (9, AV.int IntKind.i64 (↑l.length : Int)), (10, AV.int IntKind.i64 (0 : Int))] []) (by kernel_rfl) (by kernel_rfl) (by kernel_rfl) (by kernel_rfl) trivial ?_
  refine k_then ?_
  refine q_block (by kernel_rfl) ?_
  refine q_loopd (by kernel_rfl) [0, 1, 8, 9, 10] l.length (fun n s' => ∃ k : Nat, n = l.length - k ∧ k ≤ l.length ∧ roleL s l = roleL s (l.drop k) ∧ s' = stOf 21 [(0, usersV l), (1, AV.str s), (8, usersV l), (9, AV.int .i64 (l.length : Int)), (10, AV.int .i64 (k : Int))] []) ⟨0, rfl, by omega, rfl, by kernel_rfl⟩ ?_
  rintro n _ ⟨k, rfl, hk, hE, rfl⟩
  rcases Nat.lt_or_ge k l.length with hlt | hge
  · have hc : decide ((k : Int) < (l.length : Int)) = true := by rw [decide_eq_true_iff]; omega
    have hd := users_at l k hlt
    have hR := roleL_at (s := s) hlt
    refine q_seq (by kernel_rfl) ?_
    refine q_run True [0, 1, 4, 5, 7, 8, 9, 10, 11, 17] (stOf 21 [(0, AV.slv l.length (nat_lit 2) (flatA encUA l)), (1, AV.str s), (8, AV.slv l.length (nat_lit 2) (flatA encUA l)), (9, AV.int IntKind.i64 (↑l.length : Int)), (10, AV.int IntKind.i64 (↑k : Int)), (11, AV.bool (decide ((↑k : Int) < (↑l.length : Int))))] []) (by kernel_rfl) (by kernel_rfl) (by kernel_rfl) (by kernel_rfl) trivial ?_
    refine k_then ?_
    refine q_set 11 (AV.bool (decide ((↑k : Int) < (↑l.length : Int)))) (AV.bool true) (by kernel_rfl) (by rw [hc] <;> rfl) ?_
    refine q_seq (by kernel_rfl) ?_
    refine q_yes (by kernel_rfl) true (by kernel_rfl) rfl ?_
    refine q_skip (by kernel_rfl) ?_
    refine k_then ?_
    refine q_seq (by kernel_rfl) ?_
    refine q_block (by kernel_rfl) ?_
    refine q_seq (by kernel_rfl) ?_
    refine q_reg (by kernel_rfl) ?_
    refine n_run 1 ((0 : Int) ≤ (↑k : Int) ∧ (↑k : Int) < (↑l.length : Int)) [1, 2, 3] (stOf 21 [(0, AV.slv l.length (nat_lit 2) (flatA encUA l)), (1, AV.str s), (8, AV.slv l.length (nat_lit 2) (flatA encUA l)), (9, AV.int IntKind.i64 (↑l.length : Int)), (10, AV.int IntKind.i64 (↑k : Int)), (11, AV.bool true), (12, AV.fptr (List.drop ((↑k : Int).toNat * nat_lit 2) (flatA encUA l)))] []) (by kernel_rfl) (by kernel_rfl) (by exact ⟨by omega, by omega⟩) ?_
    refine n_set 12 (AV.fptr (List.drop ((↑k : Int).toNat * nat_lit 2) (flatA encUA l))) (AV.fptr (AV.str (l.getD k uD).fst :: AV.int IntKind.i64 (l.getD k uD).snd :: flatA encUA (List.drop (k + (1 : Nat)) l))) (by kernel_rfl) (by rw [hd] <;> rfl) ?_
    refine n_run 1 ((2 : Nat) ≤ (AV.str (l.getD k uD).fst :: AV.int IntKind.i64 (l.getD k uD).snd :: flatA encUA (List.drop (k + (1 : Nat)) l)).length) [2, 3] (stOf 21 [(0, AV.slv l.length (nat_lit 2) (flatA encUA l)), (1, AV.str s), (8, AV.slv l.length (nat_lit 2) (flatA encUA l)), (9, AV.int IntKind.i64 (↑l.length : Int)), (10, AV.int IntKind.i64 (↑k : Int)), (11, AV.bool true), (12, AV.fptr (AV.str (l.getD k uD).fst :: AV.int IntKind.i64 (l.getD k uD).snd :: flatA encUA (List.drop (k + (1 : Nat)) l))), (13, AV.agg [AV.str (l.getD k uD).fst, AV.int IntKind.i64 (l.getD k uD).snd])] []) (by kernel_rfl) (by kernel_rfl) (by exact by exact Nat.le_of_ble_eq_true (by kernel_rfl)) ?_
    refine n_run 2 ((2 : Nat) ≤ (2 : Nat)) [] (stOf 21 [(0, AV.slv l.length (nat_lit 2) (flatA encUA l)), (1, AV.str s), (7, AV.ptr (0 : Nat) (nat_lit 0)), (8, AV.slv l.length (nat_lit 2) (flatA encUA l)), (9, AV.int IntKind.i64 (↑l.length : Int)), (10, AV.int IntKind.i64 (↑k : Int)), (11, AV.bool true), (12, AV.fptr (AV.str (l.getD k uD).fst :: AV.int IntKind.i64 (l.getD k uD).snd :: flatA encUA (List.drop (k + (1 : Nat)) l))), (13, AV.agg [AV.str (l.getD k uD).fst, AV.int IntKind.i64 (l.getD k uD).snd])] [Blk.row (nat_lit 41) [AV.str (l.getD k uD).fst, AV.int IntKind.i64 (l.getD k uD).snd]]) (by kernel_rfl) (by kernel_rfl) (by exact by omega) ?_
    refine n_sel [0, 1, 4, 5, 7, 8, 9, 10, 11, 17] (stOf 21 [(0, AV.slv l.length (nat_lit 2) (flatA encUA l)), (1, AV.str s), (7, AV.ptr (nat_lit 0) (nat_lit 0)), (8, AV.slv l.length (nat_lit 2) (flatA encUA l)), (9, AV.int IntKind.i64 (↑l.length : Int)), (10, AV.int IntKind.i64 (↑k : Int)), (11, AV.bool true)] [Blk.row (nat_lit 41) [AV.str (l.getD k uD).fst, AV.int IntKind.i64 (l.getD k uD).snd]]) (by kernel_rfl) (n_done ?_)
    refine k_then ?_
    refine q_seq (by kernel_rfl) ?_
    refine q_reg (by kernel_rfl) ?_
    refine n_run 2 ((1 : Nat) ≤ (2 : Nat)) [2, 3] (stOf 21 [(0, AV.slv l.length (nat_lit 2) (flatA encUA l)), (1, AV.str s), (7, AV.ptr (nat_lit 0) (nat_lit 0)), (8, AV.slv l.length (nat_lit 2) (flatA encUA l)), (9, AV.int IntKind.i64 (↑l.length : Int)), (10, AV.int IntKind.i64 (↑k : Int)), (11, AV.bool true), (14, AV.ptr (nat_lit 0) (nat_lit 0)), (15, AV.str (l.getD k uD).fst)] [Blk.row (nat_lit 41) [AV.str (l.getD k uD).fst, AV.int IntKind.i64 (l.getD k uD).snd]]) (by kernel_rfl) (by kernel_rfl) (by exact by omega) ?_
    refine n_run 2 (True) [] (stOf 21 [(0, AV.slv l.length (nat_lit 2) (flatA encUA l)), (1, AV.str s), (7, AV.ptr (nat_lit 0) (nat_lit 0)), (8, AV.slv l.length (nat_lit 2) (flatA encUA l)), (9, AV.int IntKind.i64 (↑l.length : Int)), (10, AV.int IntKind.i64 (↑k : Int)), (11, AV.bool true), (14, AV.ptr (nat_lit 0) (nat_lit 0)), (15, AV.str (l.getD k uD).fst), (16, AV.str s), (17, AV.bool ((l.getD k uD).fst.toList == s.toList))] [Blk.row (nat_lit 41) [AV.str (l.getD k uD).fst, AV.int IntKind.i64 (l.getD k uD).snd]]) (by kernel_rfl) (by kernel_rfl) trivial ?_
    refine n_sel [0, 1, 4, 5, 7, 8, 9, 10, 11, 17] (stOf 21 [(0, AV.slv l.length (nat_lit 2) (flatA encUA l)), (1, AV.str s), (7, AV.ptr (nat_lit 0) (nat_lit 0)), (8, AV.slv l.length (nat_lit 2) (flatA encUA l)), (9, AV.int IntKind.i64 (↑l.length : Int)), (10, AV.int IntKind.i64 (↑k : Int)), (11, AV.bool true), (17, AV.bool ((l.getD k uD).fst.toList == s.toList))] [Blk.row (nat_lit 41) [AV.str (l.getD k uD).fst, AV.int IntKind.i64 (l.getD k uD).snd]]) (by kernel_rfl) (n_done ?_)
    refine k_then ?_
    refine q_cond (by kernel_rfl) ((l.getD k uD).fst.toList == s.toList) (by kernel_rfl) (fun h1 => ?_) (fun h1 => ?_)
    · (have g1 := h1; simp only [Bool.cond_true_left, Bool.cond_false_right, Bool.cond_false_left, Bool.cond_true_right, beq_true, beq_false, Bool.not_not, Bool.or_eq_true, Bool.and_eq_true, Bool.or_eq_false_iff, Bool.and_eq_false_iff, Bool.not_eq_true', Bool.not_eq_false', beq_iff_eq, beq_eq_false_iff_ne, bne_iff_ne, bne_eq_false_iff_eq, decide_eq_true_eq, decide_eq_false_iff_not, ne_eq] at g1)
      refine q_seq (by kernel_rfl) ?_
      refine q_reg (by kernel_rfl) ?_
      refine n_run 2 ((1 : Nat) ≤ (1 : Nat)) [2, 3] (stOf 21 [(0, AV.slv l.length (nat_lit 2) (flatA encUA l)), (1, AV.str s), (7, AV.ptr (nat_lit 0) (nat_lit 0)), (8, AV.slv l.length (nat_lit 2) (flatA encUA l)), (9, AV.int IntKind.i64 (↑l.length : Int)), (10, AV.int IntKind.i64 (↑k : Int)), (11, AV.bool true), (17, AV.bool ((l.getD k uD).fst.toList == s.toList)), (18, AV.ptr (nat_lit 0) (nat_lit 1)), (19, AV.int IntKind.i64 (l.getD k uD).snd)] [Blk.row (nat_lit 41) [AV.str (l.getD k uD).fst, AV.int IntKind.i64 (l.getD k uD).snd]]) (by kernel_rfl) (by kernel_rfl) (by exact by omega) ?_
      refine n_run 2 (True) [] (stOf 21 [(0, AV.slv l.length (nat_lit 2) (flatA encUA l)), (1, AV.str s), (4, AV.int IntKind.i64 (l.getD k uD).snd), (5, AV.bool true), (7, AV.ptr (nat_lit 0) (nat_lit 0)), (8, AV.slv l.length (nat_lit 2) (flatA encUA l)), (9, AV.int IntKind.i64 (↑l.length : Int)), (10, AV.int IntKind.i64 (↑k : Int)), (11, AV.bool true), (17, AV.bool ((l.getD k uD).fst.toList == s.toList)), (18, AV.ptr (nat_lit 0) (nat_lit 1)), (19, AV.int IntKind.i64 (l.getD k uD).snd)] [Blk.row (nat_lit 41) [AV.str (l.getD k uD).fst, AV.int IntKind.i64 (l.getD k uD).snd]]) (by kernel_rfl) (by kernel_rfl) trivial ?_
      refine n_sel [0, 1, 4, 5, 7, 8, 9, 10, 11, 17] (stOf 21 [(0, AV.slv l.length (nat_lit 2) (flatA encUA l)), (1, AV.str s), (4, AV.int IntKind.i64 (l.getD k uD).snd), (5, AV.bool true), (7, AV.ptr (nat_lit 0) (nat_lit 0)), (8, AV.slv l.length (nat_lit 2) (flatA encUA l)), (9, AV.int IntKind.i64 (↑l.length : Int)), (10, AV.int IntKind.i64 (↑k : Int)), (11, AV.bool true), (17, AV.bool ((l.getD k uD).fst.toList == s.toList))] [Blk.row (nat_lit 41) [AV.str (l.getD k uD).fst, AV.int IntKind.i64 (l.getD k uD).snd]]) (by kernel_rfl) (n_done ?_)
      refine k_then ?_
      refine q_ret (by kernel_rfl) ?_
      refine k_blockr ?_
      refine k_thenr ?_
      refine k_loopr ?_
      refine k_blockr ?_
      refine k_thenr ?_
      refine k_fin (True) (AV.tuple [AV.int IntKind.i64 (l.getD k uD).snd, AV.bool true]) [] [] (AV.tuple [AV.int IntKind.i64 (l.getD k uD).snd, AV.bool true]) (by kernel_rfl) (by kernel_rfl) (by kernel_rfl) trivial (keep_nil _) ?_
      exact ⟨by rw [hE, hR, if_pos h1], rfl⟩
    · (have g1 := h1; simp only [Bool.cond_true_left, Bool.cond_false_right, Bool.cond_false_left, Bool.cond_true_right, beq_true, beq_false, Bool.not_not, Bool.or_eq_true, Bool.and_eq_true, Bool.or_eq_false_iff, Bool.and_eq_false_iff, Bool.not_eq_true', Bool.not_eq_false', beq_iff_eq, beq_eq_false_iff_ne, bne_iff_ne, bne_eq_false_iff_eq, decide_eq_true_eq, decide_eq_false_iff_not, ne_eq] at g1)
      refine q_skip (by kernel_rfl) ?_
      refine k_block ?_
      refine k_then ?_
      refine q_reg (by kernel_rfl) ?_
      refine n_run 1 (True) [1] (stOf 21 [(0, AV.slv l.length (nat_lit 2) (flatA encUA l)), (1, AV.str s), (7, AV.ptr (nat_lit 0) (nat_lit 0)), (8, AV.slv l.length (nat_lit 2) (flatA encUA l)), (9, AV.int IntKind.i64 (↑l.length : Int)), (10, AV.int IntKind.i64 (↑k : Int)), (11, AV.bool true), (17, AV.bool ((l.getD k uD).fst.toList == s.toList)), (20, AV.int IntKind.i64 (IntKind.i64.wrap ((↑k : Int) + (1 : Int))))] [Blk.row (nat_lit 41) [AV.str (l.getD k uD).fst, AV.int IntKind.i64 (l.getD k uD).snd]]) (by kernel_rfl) (by kernel_rfl) trivial ?_
      refine n_set 20 (AV.int IntKind.i64 (IntKind.i64.wrap ((↑k : Int) + (1 : Int)))) (AV.int IntKind.i64 ((↑k : Int) + (1 : Int))) (by kernel_rfl) (by rw [wrap_i64 (e := (↑k : Int) + (1 : Int)) (by omega) (by omega)]) ?_
      refine n_run 1 (True) [] (stOf 21 [(0, AV.slv l.length (nat_lit 2) (flatA encUA l)), (1, AV.str s), (7, AV.ptr (nat_lit 0) (nat_lit 0)), (8, AV.slv l.length (nat_lit 2) (flatA encUA l)), (9, AV.int IntKind.i64 (↑l.length : Int)), (10, AV.int IntKind.i64 ((↑k : Int) + (1 : Int))), (11, AV.bool true), (17, AV.bool ((l.getD k uD).fst.toList == s.toList)), (20, AV.int IntKind.i64 ((↑k : Int) + (1 : Int)))] [Blk.row (nat_lit 41) [AV.str (l.getD k uD).fst, AV.int IntKind.i64 (l.getD k uD).snd]]) (by kernel_rfl) (by kernel_rfl) trivial ?_
      refine n_sel [0, 1, 4, 5, 7, 8, 9, 10, 11, 17] (stOf 21 [(0, AV.slv l.length (nat_lit 2) (flatA encUA l)), (1, AV.str s), (7, AV.ptr (nat_lit 0) (nat_lit 0)), (8, AV.slv l.length (nat_lit 2) (flatA encUA l)), (9, AV.int IntKind.i64 (↑l.length : Int)), (10, AV.int IntKind.i64 ((↑k : Int) + (1 : Int))), (11, AV.bool true), (17, AV.bool ((l.getD k uD).fst.toList == s.toList))] [Blk.row (nat_lit 41) [AV.str (l.getD k uD).fst, AV.int IntKind.i64 (l.getD k uD).snd]]) (by kernel_rfl) (n_done ?_)
      refine k_loopd (l.length - (k + 1)) (by omega) ⟨k + 1, rfl, by omega, by rw [hE, hR, if_neg (by rw [h1]; exact Bool.false_ne_true)], by kernel_rfl⟩
  · have hc : decide ((k : Int) < (l.length : Int)) = false := by rw [decide_eq_false_iff_not]; omega
    refine q_seq (by kernel_rfl) ?_
    refine q_run True [0, 1, 4, 5, 7, 8, 9, 10, 11, 17] (stOf 21 [(0, AV.slv l.length (nat_lit 2) (flatA encUA l)), (1, AV.str s), (8, AV.slv l.length (nat_lit 2) (flatA encUA l)), (9, AV.int IntKind.i64 (↑l.length : Int)), (10, AV.int IntKind.i64 (↑k : Int)), (11, AV.bool (decide ((↑k : Int) < (↑l.length : Int))))] []) (by kernel_rfl) (by kernel_rfl) (by kernel_rfl) (by kernel_rfl) trivial ?_
    refine k_then ?_
    refine q_set 11 (AV.bool (decide ((↑k : Int) < (↑l.length : Int)))) (AV.bool false) (by kernel_rfl) (by rw [hc] <;> rfl) ?_
    refine q_seq (by kernel_rfl) ?_
    refine q_no (by kernel_rfl) false (by kernel_rfl) rfl ?_
    refine q_exit (by kernel_rfl) 0 (by kernel_rfl) ?_
    refine k_thenx ?_
    refine k_loopx ?_
    refine k_blockx (by kernel_rfl) ?_
    refine k_then ?_
    refine q_seq (by kernel_rfl) ?_
    refine q_run True [0, 1, 4, 5, 7, 8, 9, 10, 11, 17] (stOf 21 [(0, AV.slv l.length (nat_lit 2) (flatA encUA l)), (1, AV.str s), (4, AV.int IntKind.i64 (0 : Int)), (5, AV.bool false), (8, AV.slv l.length (nat_lit 2) (flatA encUA l)), (9, AV.int IntKind.i64 (↑l.length : Int)), (10, AV.int IntKind.i64 (↑k : Int)), (11, AV.bool false)] []) (by kernel_rfl) (by kernel_rfl) (by kernel_rfl) (by kernel_rfl) trivial ?_
    refine k_then ?_
    refine q_ret (by kernel_rfl) ?_
    refine k_fin (True) (AV.tuple [AV.int IntKind.i64 (0 : Int), AV.bool false]) [] [] (AV.tuple [AV.int IntKind.i64 (0 : Int), AV.bool false]) (by kernel_rfl) (by kernel_rfl) (by kernel_rfl) trivial (keep_nil _) ?_
    exact ⟨by rw [hE, List.drop_eq_nil_of_le hge]; rfl, rfl⟩
theorem refRole_v (l : List U) (s : ByteArray) (hl : l.length ≤ 1000000000) : CallsV Try.prog 12 [usersV l, .str s] [] (fun av H' => av = .tuple [.int .i64 (roleL s l).1, .bool (roleL s l).2] ∧ H' = []) := by
  refine callsV_at Try.func12 (by kernel_rfl) ?_
  refine q_seq (by kernel_rfl) ?_
  refine q_run True [0, 1, 4, 5, 6, 10, 19] (stOf 25 [(0, AV.slv l.length (nat_lit 2) (flatA encUA l)), (1, AV.str s), (4, AV.int IntKind.i64 (0 : Int)), (5, AV.bool false)] []) (by kernel_rfl) (by kernel_rfl) (by kernel_rfl) (by kernel_rfl) trivial ?_
  refine k_then ?_
  refine q_seq (by kernel_rfl) ?_
  refine q_seq (by kernel_rfl) ?_
  refine q_run True [0, 1, 4, 5, 6, 10, 19] (stOf 25 [(0, AV.slv l.length (nat_lit 2) (flatA encUA l)), (1, AV.str s), (4, AV.int IntKind.i64 (0 : Int)), (5, AV.bool false), (6, AV.int IntKind.i64 (0 : Int))] []) (by kernel_rfl) (by kernel_rfl) (by kernel_rfl) (by kernel_rfl) trivial ?_
  refine k_then ?_
  refine q_block (by kernel_rfl) ?_
  refine q_loop (by kernel_rfl) [0, 1, 6] l.length (fun n s' => ∃ k : Nat, n = l.length - k ∧ k ≤ l.length ∧ roleL s l = roleL s (l.drop k) ∧ s' = stOf 25 [(0, usersV l), (1, AV.str s), (6, AV.int .i64 (k : Int))] []) ⟨0, rfl, by omega, rfl, by kernel_rfl⟩ ?_
  rintro n _ ⟨k, rfl, hk, hE, rfl⟩
  rcases Nat.lt_or_ge k l.length with hlt | hge
  · have hc : decide ((k : Int) < (l.length : Int)) = true := by rw [decide_eq_true_iff]; omega
    have hd := users_at l k hlt
    have hR := roleL_at (s := s) hlt
    refine q_seq (by kernel_rfl) ?_
    refine q_seq (by kernel_rfl) ?_
    refine q_run True [0, 1, 4, 5, 6, 10, 19] (stOf 25 [(0, AV.slv l.length (nat_lit 2) (flatA encUA l)), (1, AV.str s), (6, AV.int IntKind.i64 (↑k : Int)), (10, AV.bool (decide ((↑k : Int) < (↑l.length : Int))))] []) (by kernel_rfl) (by kernel_rfl) (by kernel_rfl) (by kernel_rfl) trivial ?_
    refine k_then ?_
    refine q_set 10 (AV.bool (decide ((↑k : Int) < (↑l.length : Int)))) (AV.bool true) (by kernel_rfl) (by rw [hc] <;> rfl) ?_
    refine q_yes (by kernel_rfl) true (by kernel_rfl) rfl ?_
    refine q_skip (by kernel_rfl) ?_
    refine k_then ?_
    refine q_seq (by kernel_rfl) ?_
    refine q_block (by kernel_rfl) ?_
    refine q_seq (by kernel_rfl) ?_
    refine q_reg (by kernel_rfl) ?_
    refine n_run 3 ((0 : Int) ≤ (↑k : Int) ∧ (↑k : Int) < (↑l.length : Int)) [3, 4, 5, 6] (stOf 25 [(0, AV.slv l.length (nat_lit 2) (flatA encUA l)), (1, AV.str s), (6, AV.int IntKind.i64 (↑k : Int)), (10, AV.bool true), (13, AV.slv l.length (nat_lit 2) (flatA encUA l)), (14, AV.int IntKind.i64 (↑k : Int)), (15, AV.fptr (List.drop ((↑k : Int).toNat * nat_lit 2) (flatA encUA l)))] []) (by kernel_rfl) (by kernel_rfl) (by exact ⟨by omega, by omega⟩) ?_
    refine n_set 15 (AV.fptr (List.drop ((↑k : Int).toNat * nat_lit 2) (flatA encUA l))) (AV.fptr (AV.str (l.getD k uD).fst :: AV.int IntKind.i64 (l.getD k uD).snd :: flatA encUA (List.drop (k + (1 : Nat)) l))) (by kernel_rfl) (by rw [hd] <;> rfl) ?_
    refine n_run 2 ((1 : Nat) ≤ (List.drop (0 : Nat) (AV.str (l.getD k uD).fst :: AV.int IntKind.i64 (l.getD k uD).snd :: flatA encUA (List.drop (k + (1 : Nat)) l))).length) [5, 6] (stOf 25 [(0, AV.slv l.length (nat_lit 2) (flatA encUA l)), (1, AV.str s), (6, AV.int IntKind.i64 (↑k : Int)), (10, AV.bool true), (13, AV.slv l.length (nat_lit 2) (flatA encUA l)), (14, AV.int IntKind.i64 (↑k : Int)), (15, AV.fptr (AV.str (l.getD k uD).fst :: AV.int IntKind.i64 (l.getD k uD).snd :: flatA encUA (List.drop (k + (1 : Nat)) l))), (16, AV.fptr (AV.str (l.getD k uD).fst :: AV.int IntKind.i64 (l.getD k uD).snd :: flatA encUA (List.drop (k + (1 : Nat)) l))), (17, AV.str (l.getD k uD).fst)] []) (by kernel_rfl) (by kernel_rfl) (by exact by exact Nat.le_of_ble_eq_true (by kernel_rfl)) ?_
    refine n_run 2 (True) [] (stOf 25 [(0, AV.slv l.length (nat_lit 2) (flatA encUA l)), (1, AV.str s), (6, AV.int IntKind.i64 (↑k : Int)), (10, AV.bool true), (13, AV.slv l.length (nat_lit 2) (flatA encUA l)), (14, AV.int IntKind.i64 (↑k : Int)), (15, AV.fptr (AV.str (l.getD k uD).fst :: AV.int IntKind.i64 (l.getD k uD).snd :: flatA encUA (List.drop (k + (1 : Nat)) l))), (16, AV.fptr (AV.str (l.getD k uD).fst :: AV.int IntKind.i64 (l.getD k uD).snd :: flatA encUA (List.drop (k + (1 : Nat)) l))), (17, AV.str (l.getD k uD).fst), (18, AV.str s), (19, AV.bool ((l.getD k uD).fst.toList == s.toList))] []) (by kernel_rfl) (by kernel_rfl) trivial ?_
    refine n_sel [0, 1, 4, 5, 6, 10, 19] (stOf 25 [(0, AV.slv l.length (nat_lit 2) (flatA encUA l)), (1, AV.str s), (6, AV.int IntKind.i64 (↑k : Int)), (10, AV.bool true), (19, AV.bool ((l.getD k uD).fst.toList == s.toList))] []) (by kernel_rfl) (n_done ?_)
    refine k_then ?_
    refine q_cond (by kernel_rfl) ((l.getD k uD).fst.toList == s.toList) (by kernel_rfl) (fun h1 => ?_) (fun h1 => ?_)
    · (have g1 := h1; simp only [Bool.cond_true_left, Bool.cond_false_right, Bool.cond_false_left, Bool.cond_true_right, beq_true, beq_false, Bool.not_not, Bool.or_eq_true, Bool.and_eq_true, Bool.or_eq_false_iff, Bool.and_eq_false_iff, Bool.not_eq_true', Bool.not_eq_false', beq_iff_eq, beq_eq_false_iff_ne, bne_iff_ne, bne_eq_false_iff_eq, decide_eq_true_eq, decide_eq_false_iff_not, ne_eq] at g1)
      refine q_seq (by kernel_rfl) ?_
      refine q_reg (by kernel_rfl) ?_
      refine n_run 3 ((0 : Int) ≤ (↑k : Int) ∧ (↑k : Int) < (↑l.length : Int)) [3, 4, 5, 6] (stOf 25 [(0, AV.slv l.length (nat_lit 2) (flatA encUA l)), (1, AV.str s), (6, AV.int IntKind.i64 (↑k : Int)), (10, AV.bool true), (19, AV.bool ((l.getD k uD).fst.toList == s.toList)), (20, AV.slv l.length (nat_lit 2) (flatA encUA l)), (21, AV.int IntKind.i64 (↑k : Int)), (22, AV.fptr (List.drop ((↑k : Int).toNat * nat_lit 2) (flatA encUA l)))] []) (by kernel_rfl) (by kernel_rfl) (by exact ⟨by omega, by omega⟩) ?_
      refine n_set 22 (AV.fptr (List.drop ((↑k : Int).toNat * nat_lit 2) (flatA encUA l))) (AV.fptr (AV.str (l.getD k uD).fst :: AV.int IntKind.i64 (l.getD k uD).snd :: flatA encUA (List.drop (k + (1 : Nat)) l))) (by kernel_rfl) (by rw [hd] <;> rfl) ?_
      refine n_run 2 ((1 : Nat) ≤ (List.drop (1 : Nat) (AV.str (l.getD k uD).fst :: AV.int IntKind.i64 (l.getD k uD).snd :: flatA encUA (List.drop (k + (1 : Nat)) l))).length) [5, 6] (stOf 25 [(0, AV.slv l.length (nat_lit 2) (flatA encUA l)), (1, AV.str s), (6, AV.int IntKind.i64 (↑k : Int)), (10, AV.bool true), (19, AV.bool ((l.getD k uD).fst.toList == s.toList)), (20, AV.slv l.length (nat_lit 2) (flatA encUA l)), (21, AV.int IntKind.i64 (↑k : Int)), (22, AV.fptr (AV.str (l.getD k uD).fst :: AV.int IntKind.i64 (l.getD k uD).snd :: flatA encUA (List.drop (k + (1 : Nat)) l))), (23, AV.fptr (AV.int IntKind.i64 (l.getD k uD).snd :: flatA encUA (List.drop (k + (1 : Nat)) l))), (24, AV.int IntKind.i64 (l.getD k uD).snd)] []) (by kernel_rfl) (by kernel_rfl) (by exact by exact Nat.le_of_ble_eq_true (by kernel_rfl)) ?_
      refine n_run 2 (True) [] (stOf 25 [(0, AV.slv l.length (nat_lit 2) (flatA encUA l)), (1, AV.str s), (4, AV.int IntKind.i64 (l.getD k uD).snd), (5, AV.bool true), (6, AV.int IntKind.i64 (↑k : Int)), (10, AV.bool true), (19, AV.bool ((l.getD k uD).fst.toList == s.toList)), (20, AV.slv l.length (nat_lit 2) (flatA encUA l)), (21, AV.int IntKind.i64 (↑k : Int)), (22, AV.fptr (AV.str (l.getD k uD).fst :: AV.int IntKind.i64 (l.getD k uD).snd :: flatA encUA (List.drop (k + (1 : Nat)) l))), (23, AV.fptr (AV.int IntKind.i64 (l.getD k uD).snd :: flatA encUA (List.drop (k + (1 : Nat)) l))), (24, AV.int IntKind.i64 (l.getD k uD).snd)] []) (by kernel_rfl) (by kernel_rfl) trivial ?_
      refine n_sel [0, 1, 4, 5, 6, 10, 19] (stOf 25 [(0, AV.slv l.length (nat_lit 2) (flatA encUA l)), (1, AV.str s), (4, AV.int IntKind.i64 (l.getD k uD).snd), (5, AV.bool true), (6, AV.int IntKind.i64 (↑k : Int)), (10, AV.bool true), (19, AV.bool ((l.getD k uD).fst.toList == s.toList))] []) (by kernel_rfl) (n_done ?_)
      refine k_then ?_
      refine q_ret (by kernel_rfl) ?_
      refine k_blockr ?_
      refine k_thenr ?_
      refine k_loopr ?_
      refine k_blockr ?_
      refine k_thenr ?_
      refine k_fin (True) (AV.tuple [AV.int IntKind.i64 (l.getD k uD).snd, AV.bool true]) [] [] (AV.tuple [AV.int IntKind.i64 (l.getD k uD).snd, AV.bool true]) (by kernel_rfl) (by kernel_rfl) (by kernel_rfl) trivial (keep_nil _) ?_
      exact ⟨by rw [hE, hR, if_pos h1], rfl⟩
    · (have g1 := h1; simp only [Bool.cond_true_left, Bool.cond_false_right, Bool.cond_false_left, Bool.cond_true_right, beq_true, beq_false, Bool.not_not, Bool.or_eq_true, Bool.and_eq_true, Bool.or_eq_false_iff, Bool.and_eq_false_iff, Bool.not_eq_true', Bool.not_eq_false', beq_iff_eq, beq_eq_false_iff_ne, bne_iff_ne, bne_eq_false_iff_eq, decide_eq_true_eq, decide_eq_false_iff_not, ne_eq] at g1)
      refine q_skip (by kernel_rfl) ?_
      refine k_block ?_
      refine k_then ?_
      refine q_reg (by kernel_rfl) ?_
      refine n_run 2 (True) [2] (stOf 25 [(0, AV.slv l.length (nat_lit 2) (flatA encUA l)), (1, AV.str s), (6, AV.int IntKind.i64 (↑k : Int)), (10, AV.bool true), (11, AV.int IntKind.i64 (↑k : Int)), (12, AV.int IntKind.i64 (IntKind.i64.wrap ((↑k : Int) + (1 : Int)))), (19, AV.bool ((l.getD k uD).fst.toList == s.toList))] []) (by kernel_rfl) (by kernel_rfl) trivial ?_
      refine n_set 12 (AV.int IntKind.i64 (IntKind.i64.wrap ((↑k : Int) + (1 : Int)))) (AV.int IntKind.i64 ((↑k : Int) + (1 : Int))) (by kernel_rfl) (by rw [wrap_i64 (e := (↑k : Int) + (1 : Int)) (by omega) (by omega)]) ?_
      refine n_run 1 (True) [] (stOf 25 [(0, AV.slv l.length (nat_lit 2) (flatA encUA l)), (1, AV.str s), (6, AV.int IntKind.i64 ((↑k : Int) + (1 : Int))), (10, AV.bool true), (11, AV.int IntKind.i64 (↑k : Int)), (12, AV.int IntKind.i64 ((↑k : Int) + (1 : Int))), (19, AV.bool ((l.getD k uD).fst.toList == s.toList))] []) (by kernel_rfl) (by kernel_rfl) trivial ?_
      refine n_sel [0, 1, 4, 5, 6, 10, 19] (stOf 25 [(0, AV.slv l.length (nat_lit 2) (flatA encUA l)), (1, AV.str s), (6, AV.int IntKind.i64 ((↑k : Int) + (1 : Int))), (10, AV.bool true), (19, AV.bool ((l.getD k uD).fst.toList == s.toList))] []) (by kernel_rfl) (n_done ?_)
      refine k_loop (l.length - (k + 1)) (by omega) ⟨k + 1, rfl, by omega, by rw [hE, hR, if_neg (by rw [h1]; exact Bool.false_ne_true)], by kernel_rfl⟩
  · have hc : decide ((k : Int) < (l.length : Int)) = false := by rw [decide_eq_false_iff_not]; omega
    refine q_seq (by kernel_rfl) ?_
    refine q_seq (by kernel_rfl) ?_
    refine q_run True [0, 1, 4, 5, 6, 10, 19] (stOf 25 [(0, AV.slv l.length (nat_lit 2) (flatA encUA l)), (1, AV.str s), (6, AV.int IntKind.i64 (↑k : Int)), (10, AV.bool (decide ((↑k : Int) < (↑l.length : Int))))] []) (by kernel_rfl) (by kernel_rfl) (by kernel_rfl) (by kernel_rfl) trivial ?_
    refine k_then ?_
    refine q_set 10 (AV.bool (decide ((↑k : Int) < (↑l.length : Int)))) (AV.bool false) (by kernel_rfl) (by rw [hc] <;> rfl) ?_
    refine q_no (by kernel_rfl) false (by kernel_rfl) rfl ?_
    refine q_exit (by kernel_rfl) 0 (by kernel_rfl) ?_
    refine k_thenx ?_
    refine k_loopx ?_
    refine k_blockx (by kernel_rfl) ?_
    refine k_then ?_
    refine q_seq (by kernel_rfl) ?_
    refine q_run True [0, 1, 4, 5, 6, 10, 19] (stOf 25 [(0, AV.slv l.length (nat_lit 2) (flatA encUA l)), (1, AV.str s), (4, AV.int IntKind.i64 (0 : Int)), (5, AV.bool false), (6, AV.int IntKind.i64 (↑k : Int)), (10, AV.bool false)] []) (by kernel_rfl) (by kernel_rfl) (by kernel_rfl) (by kernel_rfl) trivial ?_
    refine k_then ?_
    refine q_ret (by kernel_rfl) ?_
    refine k_fin (True) (AV.tuple [AV.int IntKind.i64 (0 : Int), AV.bool false]) [] [] (AV.tuple [AV.int IntKind.i64 (0 : Int), AV.bool false]) (by kernel_rfl) (by kernel_rfl) (by kernel_rfl) trivial (keep_nil _) ?_
    exact ⟨by rw [hE, List.drop_eq_nil_of_le hge]; rfl, rfl⟩
theorem same_v (l : List U) (hl : l.length ≤ 1000000000) : CallsV Try.prog 15 [usersV l, usersV l] [] (fun av H' => av = .bool true ∧ H' = []) := by
  refine callsV_at Try.func15 (by kernel_rfl) ?_
  have h0 : ((l.length : Int) != (l.length : Int)) = false := by simp
  refine q_seq (by kernel_rfl) ?_
  refine q_run True [0, 1, 4, 5, 10, 14, 25] (stOf 26 [(0, AV.slv l.length (nat_lit 2) (flatA encUA l)), (1, AV.slv l.length (nat_lit 2) (flatA encUA l)), (4, AV.bool false)] []) (by kernel_rfl) (by kernel_rfl) (by kernel_rfl) (by kernel_rfl) trivial ?_
  refine k_then ?_
  refine q_seq (by kernel_rfl) ?_
  refine q_seq (by kernel_rfl) ?_
  refine q_run True [0, 1, 4, 5, 10, 14, 25] (stOf 26 [(0, AV.slv l.length (nat_lit 2) (flatA encUA l)), (1, AV.slv l.length (nat_lit 2) (flatA encUA l)), (4, AV.bool false), (10, AV.bool ((↑l.length : Int) != (↑l.length : Int)))] []) (by kernel_rfl) (by kernel_rfl) (by kernel_rfl) (by kernel_rfl) trivial ?_
  refine k_then ?_
  refine q_set 10 (AV.bool ((↑l.length : Int) != (↑l.length : Int))) (AV.bool false) (by kernel_rfl) (by rw [h0] <;> rfl) ?_
  refine q_no (by kernel_rfl) false (by kernel_rfl) rfl ?_
  refine q_skip (by kernel_rfl) ?_
  refine k_then ?_
  refine q_seq (by kernel_rfl) ?_
  refine q_seq (by kernel_rfl) ?_
  refine q_run True [0, 1, 4, 5, 10, 14, 25] (stOf 26 [(0, AV.slv l.length (nat_lit 2) (flatA encUA l)), (1, AV.slv l.length (nat_lit 2) (flatA encUA l)), (4, AV.bool false), (5, AV.int IntKind.i64 (0 : Int)), (10, AV.bool false)] []) (by kernel_rfl) (by kernel_rfl) (by kernel_rfl) (by kernel_rfl) trivial ?_
  refine k_then ?_
  refine q_block (by kernel_rfl) ?_
  refine q_loop (by kernel_rfl) [0, 1, 5] l.length (fun n s' => ∃ k : Nat, n = l.length - k ∧ k ≤ l.length ∧ s' = stOf 26 [(0, usersV l), (1, usersV l), (5, AV.int .i64 (k : Int))] []) ⟨0, rfl, by omega, by kernel_rfl⟩ ?_
  rintro n _ ⟨k, rfl, hk, rfl⟩
  rcases Nat.lt_or_ge k l.length with hlt | hge
  · have hc : decide ((k : Int) < (l.length : Int)) = true := by rw [decide_eq_true_iff]; omega
    have hd := users_at l k hlt
    refine q_seq (by kernel_rfl) ?_
    refine q_seq (by kernel_rfl) ?_
    refine q_run True [0, 1, 4, 5, 10, 14, 25] (stOf 26 [(0, AV.slv l.length (nat_lit 2) (flatA encUA l)), (1, AV.slv l.length (nat_lit 2) (flatA encUA l)), (5, AV.int IntKind.i64 (↑k : Int)), (14, AV.bool (decide ((↑k : Int) < (↑l.length : Int))))] []) (by kernel_rfl) (by kernel_rfl) (by kernel_rfl) (by kernel_rfl) trivial ?_
    refine k_then ?_
    refine q_set 14 (AV.bool (decide ((↑k : Int) < (↑l.length : Int)))) (AV.bool true) (by kernel_rfl) (by rw [hc] <;> rfl) ?_
    refine q_yes (by kernel_rfl) true (by kernel_rfl) rfl ?_
    refine q_skip (by kernel_rfl) ?_
    refine k_then ?_
    refine q_seq (by kernel_rfl) ?_
    refine q_block (by kernel_rfl) ?_
    refine q_seq (by kernel_rfl) ?_
    refine q_draw (by kernel_rfl) (by kernel_rfl) ?_
    refine d_takes [0, 1, 2] ((0 : Int) ≤ (↑k : Int) ∧ (↑k : Int) < (↑l.length : Int)) 6 #[true, true, true, false, false, false, false, false, false] (stOf 26 [(0, AV.slv l.length (nat_lit 2) (flatA encUA l)), (1, AV.slv l.length (nat_lit 2) (flatA encUA l)), (5, AV.int IntKind.i64 (↑k : Int)), (14, AV.bool true), (17, AV.slv l.length (nat_lit 2) (flatA encUA l)), (18, AV.int IntKind.i64 (↑k : Int)), (19, AV.fptr (List.drop ((↑k : Int).toNat * nat_lit 2) (flatA encUA l)))] []) (by kernel_rfl) (by kernel_rfl) (by kernel_rfl) (by exact ⟨by omega, by omega⟩) ?_
    refine d_set 19 (AV.fptr (List.drop ((↑k : Int).toNat * nat_lit 2) (flatA encUA l))) (AV.fptr (AV.str (l.getD k uD).fst :: AV.int IntKind.i64 (l.getD k uD).snd :: flatA encUA (List.drop (k + (1 : Nat)) l))) (by kernel_rfl) (by rw [hd] <;> rfl) ?_
    refine d_takes [3, 4, 5, 6] ((2 : Nat) ≤ (AV.str (l.getD k uD).fst :: AV.int IntKind.i64 (l.getD k uD).snd :: flatA encUA (List.drop (k + (1 : Nat)) l)).length ∧ (0 : Int) ≤ (↑k : Int) ∧ (↑k : Int) < (↑l.length : Int)) 2 #[true, true, true, true, true, true, true, false, false] (stOf 26 [(0, AV.slv l.length (nat_lit 2) (flatA encUA l)), (1, AV.slv l.length (nat_lit 2) (flatA encUA l)), (5, AV.int IntKind.i64 (↑k : Int)), (14, AV.bool true), (17, AV.slv l.length (nat_lit 2) (flatA encUA l)), (18, AV.int IntKind.i64 (↑k : Int)), (19, AV.fptr (AV.str (l.getD k uD).fst :: AV.int IntKind.i64 (l.getD k uD).snd :: flatA encUA (List.drop (k + (1 : Nat)) l))), (20, AV.agg [AV.str (l.getD k uD).fst, AV.int IntKind.i64 (l.getD k uD).snd]), (21, AV.slv l.length (nat_lit 2) (flatA encUA l)), (22, AV.int IntKind.i64 (↑k : Int)), (23, AV.fptr (List.drop ((↑k : Int).toNat * nat_lit 2) (flatA encUA l)))] []) (by kernel_rfl) (by kernel_rfl) (by kernel_rfl) (by exact ⟨by exact Nat.le_of_ble_eq_true (by kernel_rfl), by omega, by omega⟩) ?_
    refine d_set 23 (AV.fptr (List.drop ((↑k : Int).toNat * nat_lit 2) (flatA encUA l))) (AV.fptr (AV.str (l.getD k uD).fst :: AV.int IntKind.i64 (l.getD k uD).snd :: flatA encUA (List.drop (k + (1 : Nat)) l))) (by kernel_rfl) (by rw [hd] <;> rfl) ?_
    refine d_takes [7, 8] ((2 : Nat) ≤ (AV.str (l.getD k uD).fst :: AV.int IntKind.i64 (l.getD k uD).snd :: flatA encUA (List.drop (k + (1 : Nat)) l)).length) 0 #[true, true, true, true, true, true, true, true, true] (stOf 26 [(0, AV.slv l.length (nat_lit 2) (flatA encUA l)), (1, AV.slv l.length (nat_lit 2) (flatA encUA l)), (5, AV.int IntKind.i64 (↑k : Int)), (14, AV.bool true), (17, AV.slv l.length (nat_lit 2) (flatA encUA l)), (18, AV.int IntKind.i64 (↑k : Int)), (19, AV.fptr (AV.str (l.getD k uD).fst :: AV.int IntKind.i64 (l.getD k uD).snd :: flatA encUA (List.drop (k + (1 : Nat)) l))), (20, AV.agg [AV.str (l.getD k uD).fst, AV.int IntKind.i64 (l.getD k uD).snd]), (21, AV.slv l.length (nat_lit 2) (flatA encUA l)), (22, AV.int IntKind.i64 (↑k : Int)), (23, AV.fptr (AV.str (l.getD k uD).fst :: AV.int IntKind.i64 (l.getD k uD).snd :: flatA encUA (List.drop (k + (1 : Nat)) l))), (24, AV.agg [AV.str (l.getD k uD).fst, AV.int IntKind.i64 (l.getD k uD).snd]), (25, AV.bool !((l.getD k uD).fst.toList == (l.getD k uD).fst.toList && ((l.getD k uD).snd == (l.getD k uD).snd && true)))] []) (by kernel_rfl) (by kernel_rfl) (by kernel_rfl) (by exact by exact Nat.le_of_ble_eq_true (by kernel_rfl)) ?_
    refine d_done [0, 1, 4, 5, 10, 14, 25] (stOf 26 [(0, AV.slv l.length (nat_lit 2) (flatA encUA l)), (1, AV.slv l.length (nat_lit 2) (flatA encUA l)), (5, AV.int IntKind.i64 (↑k : Int)), (14, AV.bool true), (25, AV.bool !((l.getD k uD).fst.toList == (l.getD k uD).fst.toList && ((l.getD k uD).snd == (l.getD k uD).snd && true)))] []) (by kernel_rfl) (by kernel_rfl) ?_
    refine k_then ?_
    refine q_cond (by kernel_rfl) (!((l.getD k uD).fst.toList == (l.getD k uD).fst.toList && ((l.getD k uD).snd == (l.getD k uD).snd && true))) (by kernel_rfl) (fun h1 => ?_) (fun h1 => ?_)
    · (have g1 := h1; simp only [Bool.cond_true_left, Bool.cond_false_right, Bool.cond_false_left, Bool.cond_true_right, beq_true, beq_false, Bool.not_not, Bool.or_eq_true, Bool.and_eq_true, Bool.or_eq_false_iff, Bool.and_eq_false_iff, Bool.not_eq_true', Bool.not_eq_false', beq_iff_eq, beq_eq_false_iff_ne, bne_iff_ne, bne_eq_false_iff_eq, decide_eq_true_eq, decide_eq_false_iff_not, ne_eq] at g1)
      refine q_seq (by kernel_rfl) ?_
      refine q_run True [0, 1, 4, 5, 10, 14, 25] (stOf 26 [(0, AV.slv l.length (nat_lit 2) (flatA encUA l)), (1, AV.slv l.length (nat_lit 2) (flatA encUA l)), (4, AV.bool false), (5, AV.int IntKind.i64 (↑k : Int)), (14, AV.bool true), (25, AV.bool !((l.getD k uD).fst.toList == (l.getD k uD).fst.toList && ((l.getD k uD).snd == (l.getD k uD).snd && true)))] []) (by kernel_rfl) (by kernel_rfl) (by kernel_rfl) (by kernel_rfl) trivial ?_
      refine k_then ?_
      refine q_ret (by kernel_rfl) ?_
      refine k_blockr ?_
      refine k_thenr ?_
      refine k_loopr ?_
      refine k_blockr ?_
      refine k_thenr ?_
      refine k_fin (True) (AV.bool false) [] [] (AV.bool false) (by kernel_rfl) (by kernel_rfl) (by kernel_rfl) trivial (keep_nil _) ?_
      simp at h1
    · (have g1 := h1; simp only [Bool.cond_true_left, Bool.cond_false_right, Bool.cond_false_left, Bool.cond_true_right, beq_true, beq_false, Bool.not_not, Bool.or_eq_true, Bool.and_eq_true, Bool.or_eq_false_iff, Bool.and_eq_false_iff, Bool.not_eq_true', Bool.not_eq_false', beq_iff_eq, beq_eq_false_iff_ne, bne_iff_ne, bne_eq_false_iff_eq, decide_eq_true_eq, decide_eq_false_iff_not, ne_eq] at g1)
      refine q_skip (by kernel_rfl) ?_
      refine k_block ?_
      refine k_then ?_
      refine q_reg (by kernel_rfl) ?_
      refine n_run 2 (True) [2] (stOf 26 [(0, AV.slv l.length (nat_lit 2) (flatA encUA l)), (1, AV.slv l.length (nat_lit 2) (flatA encUA l)), (5, AV.int IntKind.i64 (↑k : Int)), (14, AV.bool true), (15, AV.int IntKind.i64 (↑k : Int)), (16, AV.int IntKind.i64 (IntKind.i64.wrap ((↑k : Int) + (1 : Int)))), (25, AV.bool !((l.getD k uD).fst.toList == (l.getD k uD).fst.toList && ((l.getD k uD).snd == (l.getD k uD).snd && true)))] []) (by kernel_rfl) (by kernel_rfl) trivial ?_
      refine n_set 16 (AV.int IntKind.i64 (IntKind.i64.wrap ((↑k : Int) + (1 : Int)))) (AV.int IntKind.i64 ((↑k : Int) + (1 : Int))) (by kernel_rfl) (by rw [wrap_i64 (e := (↑k : Int) + (1 : Int)) (by omega) (by omega)]) ?_
      refine n_run 1 (True) [] (stOf 26 [(0, AV.slv l.length (nat_lit 2) (flatA encUA l)), (1, AV.slv l.length (nat_lit 2) (flatA encUA l)), (5, AV.int IntKind.i64 ((↑k : Int) + (1 : Int))), (14, AV.bool true), (15, AV.int IntKind.i64 (↑k : Int)), (16, AV.int IntKind.i64 ((↑k : Int) + (1 : Int))), (25, AV.bool !((l.getD k uD).fst.toList == (l.getD k uD).fst.toList && ((l.getD k uD).snd == (l.getD k uD).snd && true)))] []) (by kernel_rfl) (by kernel_rfl) trivial ?_
      refine n_sel [0, 1, 4, 5, 10, 14, 25] (stOf 26 [(0, AV.slv l.length (nat_lit 2) (flatA encUA l)), (1, AV.slv l.length (nat_lit 2) (flatA encUA l)), (5, AV.int IntKind.i64 ((↑k : Int) + (1 : Int))), (14, AV.bool true), (25, AV.bool !((l.getD k uD).fst.toList == (l.getD k uD).fst.toList && ((l.getD k uD).snd == (l.getD k uD).snd && true)))] []) (by kernel_rfl) (n_done ?_)
      refine k_loop (l.length - (k + 1)) (by omega) ⟨k + 1, rfl, by omega, by kernel_rfl⟩
  · have hc : decide ((k : Int) < (l.length : Int)) = false := by rw [decide_eq_false_iff_not]; omega
    refine q_seq (by kernel_rfl) ?_
    refine q_seq (by kernel_rfl) ?_
    refine q_run True [0, 1, 4, 5, 10, 14, 25] (stOf 26 [(0, AV.slv l.length (nat_lit 2) (flatA encUA l)), (1, AV.slv l.length (nat_lit 2) (flatA encUA l)), (5, AV.int IntKind.i64 (↑k : Int)), (14, AV.bool (decide ((↑k : Int) < (↑l.length : Int))))] []) (by kernel_rfl) (by kernel_rfl) (by kernel_rfl) (by kernel_rfl) trivial ?_
    refine k_then ?_
    refine q_set 14 (AV.bool (decide ((↑k : Int) < (↑l.length : Int)))) (AV.bool false) (by kernel_rfl) (by rw [hc] <;> rfl) ?_
    refine q_no (by kernel_rfl) false (by kernel_rfl) rfl ?_
    refine q_exit (by kernel_rfl) 0 (by kernel_rfl) ?_
    refine k_thenx ?_
    refine k_loopx ?_
    refine k_blockx (by kernel_rfl) ?_
    refine k_then ?_
    refine q_seq (by kernel_rfl) ?_
    refine q_run True [0, 1, 4, 5, 10, 14, 25] (stOf 26 [(0, AV.slv l.length (nat_lit 2) (flatA encUA l)), (1, AV.slv l.length (nat_lit 2) (flatA encUA l)), (4, AV.bool true), (5, AV.int IntKind.i64 (↑k : Int)), (14, AV.bool false)] []) (by kernel_rfl) (by kernel_rfl) (by kernel_rfl) (by kernel_rfl) trivial ?_
    refine k_then ?_
    refine q_ret (by kernel_rfl) ?_
    refine k_fin (True) (AV.bool true) [] [] (AV.bool true) (by kernel_rfl) (by kernel_rfl) (by kernel_rfl) trivial (keep_nil _) ?_
    exact ⟨rfl, rfl⟩
end Go.Proofs.Ytgmpoakcbgnfbaa
