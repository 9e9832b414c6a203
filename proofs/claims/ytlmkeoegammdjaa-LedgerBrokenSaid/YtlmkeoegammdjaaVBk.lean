/-
  LedgerBroken.
-/
import Derived.Test.YtlmkeoegammdjaaVBs
import Derived.Test.YtlmkeoegammdjaaVZb
namespace Go.Proofs.Ytlmkeoegammdjaa
open Go Go.RowKit V
set_option linter.unusedSimpArgs false
set_option linter.unusedVariables false
set_option maxHeartbeats 20000000
theorem frzAll (l : List Mk) : ∀ x ∈ flatA encM l, noid0 x = true ∧ x ≠ .junk := flatA_all (fun m a ha => by
  simp only [encM, List.mem_cons, List.not_mem_nil, or_false] at ha
  rcases ha with rfl | rfl | rfl | rfl | rfl | rfl | rfl | rfl | rfl | rfl <;> exact ⟨rfl, by simp [intsV]⟩) l
theorem q_frzM {P : Program} {s : St} {Q : Exit → St → Prop} {c : Code} (i id : Nat) (l : List Mk) (s' : St) (hi : s.t[i]? = some (.sl id 0 l.length 10)) (hb : s.H[id]? = some (.row 38 (flatA encM l))) (hs : St.mk (s.t.set i (marksV l)) (s.H.set id .dead) = s') (k : WpV P c Q s') : WpV P c Q s := by
  subst hs
  have e : (flatA encM l).length = l.length * 10 := flatA_length lenM l
  refine q_frz i id 0 l.length 10 38 (flatA encM l) hi hb (frzAll l) (by omega) ?_
  rw [List.drop_zero, List.take_of_length_le (by omega)]
  exact k
theorem n_frzM {P : Program} {s : St} {Q : Exit → St → Prop} {ops : Array Oper} {js : List Nat} (i id : Nat) (l : List Mk) (s' : St) (hi : s.t[i]? = some (.sl id 0 l.length 10)) (hb : s.H[id]? = some (.row 38 (flatA encM l))) (hs : St.mk (s.t.set i (marksV l)) (s.H.set id .dead) = s') (k : RunN P ops Q js s') : RunN P ops Q js s := by
  subst hs
  have e : (flatA encM l).length = l.length * 10 := flatA_length lenM l
  refine n_frz i id 0 l.length 10 38 (flatA encM l) hi hb (frzAll l) (by omega) ?_
  rw [List.drop_zero, List.take_of_length_le (by omega)]
  exact k
theorem n_frzN {P : Program} {s : St} {Q : Exit → St → Prop} {ops : Array Oper} {js : List Nat} (i id n : Nat) (l : List Mk) (s' : St) (hn : n = l.length) (hi : s.t[i]? = some (.sl id 0 n 10)) (hb : s.H[id]? = some (.row 38 (flatA encM l))) (hs : St.mk (s.t.set i (marksV l)) (s.H.set id .dead) = s') (k : RunN P ops Q js s') : RunN P ops Q js s := by
  subst hn
  exact n_frzM i id l s' hi hb hs k
theorem setL_ok (l : List Mk) (i : Nat) (m : Mk) (hi : i < l.length) (hl : OkL l) (hm : OkM m) : OkL (setL l i m) := ⟨by rw [setL_len _ _ _ hi]; exact hl.1, fun x hx => by
  rcases mem_set hx with h | rfl
  · exact hl.2 x h
  · exact hm⟩
theorem setA (l : List Mk) (i : Nat) (hi : i < l.length) (m : Mk) : List.take (0 + (i : Int).toNat * 10) (flatA encM l) ++ encM m ++ List.drop (0 + (i : Int).toNat * 10 + (encM m).length) (flatA encM l) = flatA encM (setL l i m) := by
  obtain ⟨A, B, hA, hmid, hset⟩ := mid_of l i hi
  have h1 : 0 + (i : Int).toNat * 10 = A.length + 0 := by rw [hA]; simp
  rw [hset m, hmid, lenM, h1, mid_take A (encM (l.getD i mD)) B 0 (by rw [lenM]; omega), Nat.add_zero, mid_drop A (encM (l.getD i mD)) B 10 (by rw [lenM]; omega)]
  rw [List.drop_of_length_le (show (encM (l.getD i mD)).length ≤ 10 from Nat.le_refl _)]
  simp
theorem swapA (l : List Mk) (I K : Nat) (hI : I < l.length) (hK : K < l.length) : List.take (0 + (K : Int).toNat * 10) (List.take (0 + (I : Int).toNat * 10) (flatA encM l) ++ encM (l.getD K mD) ++ List.drop (0 + (I : Int).toNat * 10 + (encM (l.getD K mD)).length) (flatA encM l)) ++ encM (l.getD I mD) ++ List.drop (0 + (K : Int).toNat * 10 + (encM (l.getD I mD)).length) (List.take (0 + (I : Int).toNat * 10) (flatA encM l) ++ encM (l.getD K mD) ++ List.drop (0 + (I : Int).toNat * 10 + (encM (l.getD K mD)).length) (flatA encM l)) = flatA encM (setL (setL l I (l.getD K mD)) K (l.getD I mD)) := by
  rw [setA l I hI]
  exact setA _ K (by rw [setL_len _ _ _ hI]; exact hK) _
theorem broken_v (ns : List (Int × Int)) (a1 a2 a3 : Int) (hS : ∀ z ∈ ns, (0 ≤ z.1 ∧ z.1 ≤ 255) ∧ (0 ≤ z.2 ∧ z.2 ≤ 255)) (hlen : ns.length ≤ 9223372036854775807) (ha : 0 ≤ a1 ∧ a1 ≤ 255) (ht : 0 ≤ a2 ∧ a2 ≤ 255) (hw : 0 ≤ a3 ∧ a3 ≤ 255) : CallsV Try.prog 5 [stepsV ns, .int .u8 a1, .int .u8 a2, .int .u8 a3] [] (fun av H' => av = .bool true ∧ H' = []) := by
  refine callsV_at Try.func5 (by kernel_rfl) ?_
  have noev := trivial
  refine Q_seq ?_
  let z1 : List (Nat × AV) := [(0, .slv ns.length 2 (flatA encS ns)), (1, .int .u8 a1), (2, .int .u8 a2), (3, .int .u8 a3), (8, .bool false)]
  refine Q_run [0, 1, 2, 3, 8, 9, 10, 11, 12, 20, 35, 53, 63, 79, 89] (stOf 109 z1 []) ?_
  refine k_then ?_
  refine Q_seq ?_
  refine Q_run [0, 1, 2, 3, 8, 9, 10, 11, 12, 20, 35, 53, 63, 79, 89] (stOf 109 (z1 ++ [(9, .nilsl)]) []) ?_
  refine k_then ?_
  refine Q_seq ?_
  refine Q_seq ?_
  refine Q_run [0, 1, 2, 3, 8, 9, 10, 11, 12, 20, 35, 53, 63, 79, 89] (stOf 109 (z1 ++ [(9, .nilsl), (10, .int .i64 0)]) []) ?_
  refine k_then ?_
  refine q_block (by kernel_rfl) ?_
  refine q_loopd (by kernel_rfl) [0, 1, 2, 3, 8, 9, 10] ns.length (fun n' s' => ∃ (i : Nat) (l : List Mk), n' = ns.length - i ∧ i ≤ ns.length ∧ i ≤ 20 ∧ l.length ≤ i ∧ (∀ m ∈ l, OkM m) ∧ ((l = [] ∧ s' = stOf 109 [(0, stepsV ns), (1, .int .u8 a1), (2, .int .u8 a2), (3, .int .u8 a3), (8, AV.bool false), (9, .nilsl), (10, AV.int .i64 (i : Int))] []) ∨ s' = stOf 109 [(0, stepsV ns), (1, .int .u8 a1), (2, .int .u8 a2), (3, .int .u8 a3), (8, AV.bool false), (9, .sl 0 0 l.length 10), (10, AV.int .i64 (i : Int))] [.row 38 (flatA encM l)])) ⟨0, [], rfl, by omega, by omega, by simp, (fun m hm => by cases hm), Or.inl ⟨rfl, by kernel_rfl⟩⟩ ?_
  rintro n' _ ⟨i, l, rfl, hi, hi20, hl1, hl2, ⟨hl0, rfl⟩ | rfl⟩
  · have hl : OkL l := ⟨by omega, hl2⟩
    refine q_weak 9 .nilsl (marksV l) (by kernel_rfl) (fun p w v h => by rw [hl0]; exact nil_slv 10 (by decide) p w v h) ?_
    by_cases hin : i < ns.length ∧ i < 20
    · obtain ⟨hlt, hlt2⟩ := hin
      have hc : decide ((i : Int) < (ns.length : Int)) = true := by rw [decide_eq_true_iff]; omega
      have hc2 : decide ((i : Int) < 20) = true := by rw [decide_eq_true_iff]; omega
      have hd := steps_at ns i hlt
      have hb := getD_all hS hlt (0, 0)
      refine Q_seq ?_
      refine Q_seq ?_
      refine q_run (((decide ((↑i : Int) < (↑ns.length : Int)) == true) = true → (decide ((↑i : Int) < (↑ns.length : Int)) == true) = true) ∧ (decide ((↑i : Int) < (↑ns.length : Int)) = true → (decide ((↑i : Int) < (↑ns.length : Int)) == true) = true)) [0, 1, 2, 3, 8, 9, 10, 11, 12, 20, 35, 53, 63, 79, 89] (stOf 109 (z1 ++ [(9, marksV l), (10, .int .i64 (↑i : Int)), (20, .bool (bif decide ((↑i : Int) < (↑ns.length : Int)) then decide ((↑i : Int) < (20 : Int)) else false))]) []) (by kernel_rfl) (by kernel_rfl) (by kernel_rfl) (by kernel_rfl) (by exact ⟨fun h => h, by (simp; done)⟩) ?_
      refine k_then ?_
      refine q_set 20 (AV.bool (bif decide ((↑i : Int) < (↑ns.length : Int)) then decide ((↑i : Int) < (20 : Int)) else false)) (AV.bool (bif true then decide ((↑i : Int) < (20 : Int)) else false)) (by kernel_rfl) (by rw [hc] <;> rfl) ?_
      refine q_set 20 (AV.bool (bif true then decide ((↑i : Int) < (20 : Int)) else false)) (AV.bool true) (by kernel_rfl) (by rw [hc2] <;> rfl) ?_
      refine q_yes (by kernel_rfl) true (by kernel_rfl) rfl ?_
      refine q_skip (by kernel_rfl) ?_
      refine k_then ?_
      refine Q_seq ?_
      refine q_block (by kernel_rfl) ?_
      refine Q_reg ?_
      refine N_run 4 ((0 : Int) ≤ (↑i : Int) ∧ (↑i : Int) < (↑ns.length : Int)) [4, 5, 6, 7, 8, 9, 10] (stOf 109 (z1 ++ [(9, marksV l), (10, .int .i64 (↑i : Int)), (20, .bool true), (24, marksV l), (25, .slv ns.length 2 (flatA encS ns)), (26, .int .i64 (↑i : Int)), (27, .fptr (List.drop ((↑i : Int).toNat * 2) (flatA encS ns)))]) []) (by exact ⟨by omega, by omega⟩) ?_
      refine n_set 27 (AV.fptr (List.drop ((↑i : Int).toNat * 2) (flatA encS ns))) (AV.fptr (AV.int .u8 (ns.getD i ((0 : Int), (0 : Int))).fst :: AV.int .u8 (ns.getD i ((0 : Int), (0 : Int))).snd :: flatA encS (List.drop (i + 1) ns))) (by kernel_rfl) (by rw [hd] <;> rfl) ?_
      refine N_run 1 (2 ≤ (AV.int .u8 (ns.getD i ((0 : Int), (0 : Int))).fst :: AV.int .u8 (ns.getD i ((0 : Int), (0 : Int))).snd :: flatA encS (List.drop (i + 1) ns)).length) [5, 6, 7, 8, 9, 10] (stOf 109 (z1 ++ [(9, marksV l), (10, .int .i64 (↑i : Int)), (20, .bool true), (24, marksV l), (25, .slv ns.length 2 (flatA encS ns)), (26, .int .i64 (↑i : Int)), (27, .fptr (.int .u8 (ns.getD i ((0 : Int), (0 : Int))).fst :: .int .u8 (ns.getD i ((0 : Int), (0 : Int))).snd :: flatA encS (List.drop (i + 1) ns))), (28, .agg [.int .u8 (ns.getD i ((0 : Int), (0 : Int))).fst, .int .u8 (ns.getD i ((0 : Int), (0 : Int))).snd])]) []) (by exact by exact Nat.le_of_ble_eq_true (by kernel_rfl)) ?_
      have hst := stepRow_v l (ns.getD i (0, 0)).1 (ns.getD i (0, 0)).2 hb.1 hl (by omega)
      obtain ⟨q1, q2⟩ := step_ok l (ns.getD i (0, 0)).1 (ns.getD i (0, 0)).2 hl2
      generalize hz : stepL l (ns.getD i (0, 0)).1 (ns.getD i (0, 0)).2 = z at hst q1 q2
      refine n_callo 8 [marksV l, .agg [.int .u8 (ns.getD i (0, 0)).1, .int .u8 (ns.getD i (0, 0)).2]] (.tuple [marksV z, .sl 0 0 z.length 10, .bool true]) 38 (flatA encM z) _ (by kernel_rfl) (by kernel_rfl) (by kernel_rfl) (plainM z) rfl hst ?_
      refine N_run 5 (True) [] (stOf 109 (z1 ++ [(9, .sl 0 0 z.length 10), (10, .int .i64 (↑i : Int)), (20, .bool true), (23, .tuple [marksV z, .sl 0 0 z.length 10, .bool true]), (24, marksV l), (25, .slv ns.length 2 (flatA encS ns)), (26, .int .i64 (↑i : Int)), (27, .fptr (.int .u8 (ns.getD i ((0 : Int), (0 : Int))).fst :: .int .u8 (ns.getD i ((0 : Int), (0 : Int))).snd :: flatA encS (List.drop (i + 1) ns))), (28, .agg [.int .u8 (ns.getD i ((0 : Int), (0 : Int))).fst, .int .u8 (ns.getD i ((0 : Int), (0 : Int))).snd]), (29, .tuple [marksV z, .sl 0 0 z.length 10, .bool true]), (30, marksV z), (31, .sl 0 0 z.length 10), (32, .bool true)]) [.row 38 (flatA encM z)]) trivial ?_
      refine N_sel [0, 1, 2, 3, 8, 9, 10, 11, 12, 20, 35, 53, 63, 79, 89] (stOf 109 (z1 ++ [(9, .sl 0 0 z.length 10), (10, .int .i64 (↑i : Int)), (20, .bool true)]) [.row 38 (flatA encM z)]) ?_
      refine k_block ?_
      refine k_then ?_
      refine Q_reg ?_
      refine N_run 2 (True) [2] (stOf 109 (z1 ++ [(9, .sl 0 0 z.length 10), (10, .int .i64 (↑i : Int)), (20, .bool true), (21, .int .i64 (↑i : Int)), (22, .int .i64 (IntKind.i64.wrap ((↑i : Int) + (1 : Int))))]) [.row 38 (flatA encM z)]) trivial ?_
      refine n_set 22 (AV.int .i64 (IntKind.i64.wrap ((↑i : Int) + (1 : Int)))) (AV.int .i64 ((↑i : Int) + (1 : Int))) (by kernel_rfl) (by rw [wrap_i64 (e := (↑i : Int) + (1 : Int)) (by omega) (by omega)]) ?_
      refine N_run 1 (True) [] (stOf 109 (z1 ++ [(9, .sl 0 0 z.length 10), (10, .int .i64 ((↑i : Int) + (1 : Int))), (20, .bool true), (21, .int .i64 (↑i : Int)), (22, .int .i64 ((↑i : Int) + (1 : Int)))]) [.row 38 (flatA encM z)]) trivial ?_
      refine N_sel [0, 1, 2, 3, 8, 9, 10, 11, 12, 20, 35, 53, 63, 79, 89] (stOf 109 (z1 ++ [(9, .sl 0 0 z.length 10), (10, .int .i64 ((↑i : Int) + (1 : Int))), (20, .bool true)]) [.row 38 (flatA encM z)]) ?_
      refine k_loopd1 (ns.length - (i + 1)) (by omega) 0 _ (flatA encM z) rfl (noidM _) ⟨i + 1, z, rfl, by omega, by omega, by omega, q2, Or.inr (by kernel_rfl)⟩
    · have hcc : (bif decide ((i : Int) < (ns.length : Int)) then decide ((i : Int) < 20) else false) = false := by
        by_cases h1 : i < ns.length
        · have h2 : ¬ i < 20 := fun h => hin ⟨h1, h⟩
          rw [show decide ((i : Int) < (ns.length : Int)) = true by rw [decide_eq_true_iff]; omega, show decide ((i : Int) < 20) = false by rw [decide_eq_false_iff_not]; omega]; rfl
        · rw [show decide ((i : Int) < (ns.length : Int)) = false by rw [decide_eq_false_iff_not]; omega]; rfl
      have hl0' : ((l.length : Int) == 0) = true := by rw [hl0]; rfl
      have hk := check_v l hl
      rw [show chkL l = 0 by rw [hl0]; rfl] at hk
      refine Q_seq ?_
      refine Q_seq ?_
      refine q_run (((decide ((↑i : Int) < (↑ns.length : Int)) == true) = true → (decide ((↑i : Int) < (↑ns.length : Int)) == true) = true) ∧ (decide ((↑i : Int) < (↑ns.length : Int)) = true → (decide ((↑i : Int) < (↑ns.length : Int)) == true) = true)) [0, 1, 2, 3, 8, 9, 10, 11, 12, 20, 35, 53, 63, 79, 89] (stOf 109 (z1 ++ [(9, marksV l), (10, .int .i64 (↑i : Int)), (20, .bool (bif decide ((↑i : Int) < (↑ns.length : Int)) then decide ((↑i : Int) < (20 : Int)) else false))]) []) (by kernel_rfl) (by kernel_rfl) (by kernel_rfl) (by kernel_rfl) (by exact ⟨fun h => h, by (simp; done)⟩) ?_
      refine k_then ?_
      refine q_set 20 (AV.bool (bif decide ((↑i : Int) < (↑ns.length : Int)) then decide ((↑i : Int) < (20 : Int)) else false)) (AV.bool false) (by kernel_rfl) (by rw [hcc] <;> rfl) ?_
      refine q_no (by kernel_rfl) false (by kernel_rfl) rfl ?_
      refine q_exit (by kernel_rfl) 0 (by kernel_rfl) ?_
      refine k_thenx ?_
      refine k_loopx ?_
      refine k_blockx (by kernel_rfl) ?_
      refine k_then ?_
      refine Q_seq ?_
      refine Q_seq ?_
      refine Q_run [0, 1, 2, 3, 8, 9, 10, 11, 12, 20, 35, 53, 63, 79, 89] (stOf 109 (z1 ++ [(9, marksV l), (10, .int .i64 (↑i : Int)), (20, .bool false), (35, .bool ((↑l.length : Int) == (0 : Int)))]) []) ?_
      refine k_then ?_
      refine q_set 35 (AV.bool ((↑l.length : Int) == (0 : Int))) (AV.bool true) (by kernel_rfl) (by rw [hl0'] <;> rfl) ?_
      refine q_yes (by kernel_rfl) true (by kernel_rfl) rfl ?_
      refine Q_seq ?_
      refine Q_reg ?_
      refine n_callp 16 [] (AV.bool true) (stOf 109 (z1 ++ [(9, marksV l), (10, .int .i64 (↑i : Int)), (20, .bool false), (35, .bool true), (36, .bool true)]) []) (by kernel_rfl) (by kernel_rfl) (by kernel_rfl) (by kernel_rfl) (awake_v ) ?_
      refine N_run 2 (True) [3, 4, 5, 6] (stOf 109 (z1 ++ [(9, marksV l), (10, .int .i64 (↑i : Int)), (20, .bool false), (35, .bool true), (36, .bool true), (37, .bool true), (38, .cnd true (marksV l))]) []) trivial ?_
      refine n_callg 10 [marksV l] (AV.int .i64 0) (true) (stOf 109 (z1 ++ [(9, marksV l), (10, .int .i64 (↑i : Int)), (20, .bool false), (35, .bool true), (36, .bool true), (37, .bool true), (38, .cnd true (marksV l)), (39, .cnd true (.int .i64 0))]) []) (by kernel_rfl) (by kernel_rfl) (by kernel_rfl) (by kernel_rfl) (by kernel_rfl) (true = true) (by kernel_rfl) (by first | exact fun h => h | (intro h; exact by kernel_rfl) | (intro h; simp_all; done)) (fun hg => (hk )) ?_
      refine N_run 3 (((true == true) = true → true = true) ∧ (true = true → (true == true) = true)) [] (stOf 109 [(0, .slv ns.length 2 (flatA encS ns)), (1, .int .u8 a1), (2, .int .u8 a2), (3, .int .u8 a3), (8, .bool true), (9, marksV l), (10, .int .i64 (↑i : Int)), (20, .bool false), (35, .bool true), (36, .bool true), (37, .bool true), (38, .cnd true (marksV l)), (39, .cnd true (.int .i64 0)), (40, .cnd true (.bool true)), (41, .bool true)] []) (by exact ⟨fun h => h, fun h => h⟩) ?_
      refine N_sel [0, 1, 2, 3, 8, 9, 10, 11, 12, 20, 35, 53, 63, 79, 89] (stOf 109 [(0, .slv ns.length 2 (flatA encS ns)), (1, .int .u8 a1), (2, .int .u8 a2), (3, .int .u8 a3), (8, .bool true), (9, marksV l), (10, .int .i64 (↑i : Int)), (20, .bool false), (35, .bool true)] []) ?_
      refine k_then ?_
      refine q_ret (by kernel_rfl) ?_
      refine k_thenr ?_
      refine k_fin (True) (AV.bool true) [] [] (AV.bool true) (by kernel_rfl) (by kernel_rfl) (by kernel_rfl) trivial (keep_nil _) ?_
      exact ⟨rfl, rfl⟩
  · have hl : OkL l := ⟨by omega, hl2⟩
    by_cases hin : i < ns.length ∧ i < 20
    · obtain ⟨hlt, hlt2⟩ := hin
      refine q_frzM 9 0 l (stOf 109 [(0, stepsV ns), (1, .int .u8 a1), (2, .int .u8 a2), (3, .int .u8 a3), (8, .bool false), (9, marksV l), (10, .int .i64 (i : Int))] [.dead]) (by kernel_rfl) (by kernel_rfl) (by kernel_rfl) ?_
      have hc : decide ((i : Int) < (ns.length : Int)) = true := by rw [decide_eq_true_iff]; omega
      have hc2 : decide ((i : Int) < 20) = true := by rw [decide_eq_true_iff]; omega
      have hd := steps_at ns i hlt
      have hb := getD_all hS hlt (0, 0)
      refine Q_seq ?_
      refine Q_seq ?_
      refine q_run (((decide ((↑i : Int) < (↑ns.length : Int)) == true) = true → (decide ((↑i : Int) < (↑ns.length : Int)) == true) = true) ∧ (decide ((↑i : Int) < (↑ns.length : Int)) = true → (decide ((↑i : Int) < (↑ns.length : Int)) == true) = true)) [0, 1, 2, 3, 8, 9, 10, 11, 12, 20, 35, 53, 63, 79, 89] (stOf 109 (z1 ++ [(9, marksV l), (10, .int .i64 (↑i : Int)), (20, .bool (bif decide ((↑i : Int) < (↑ns.length : Int)) then decide ((↑i : Int) < (20 : Int)) else false))]) [Blk.dead]) (by kernel_rfl) (by kernel_rfl) (by kernel_rfl) (by kernel_rfl) (by exact ⟨fun h => h, by (simp; done)⟩) ?_
      refine k_then ?_
      refine q_set 20 (AV.bool (bif decide ((↑i : Int) < (↑ns.length : Int)) then decide ((↑i : Int) < (20 : Int)) else false)) (AV.bool (bif true then decide ((↑i : Int) < (20 : Int)) else false)) (by kernel_rfl) (by rw [hc] <;> rfl) ?_
      refine q_set 20 (AV.bool (bif true then decide ((↑i : Int) < (20 : Int)) else false)) (AV.bool true) (by kernel_rfl) (by rw [hc2] <;> rfl) ?_
      refine q_yes (by kernel_rfl) true (by kernel_rfl) rfl ?_
      refine q_skip (by kernel_rfl) ?_
      refine k_then ?_
      refine Q_seq ?_
      refine q_block (by kernel_rfl) ?_
      refine Q_reg ?_
      refine N_run 4 ((0 : Int) ≤ (↑i : Int) ∧ (↑i : Int) < (↑ns.length : Int)) [4, 5, 6, 7, 8, 9, 10] (stOf 109 (z1 ++ [(9, marksV l), (10, .int .i64 (↑i : Int)), (20, .bool true), (24, marksV l), (25, .slv ns.length 2 (flatA encS ns)), (26, .int .i64 (↑i : Int)), (27, .fptr (List.drop ((↑i : Int).toNat * 2) (flatA encS ns)))]) [Blk.dead]) (by exact ⟨by omega, by omega⟩) ?_
      refine n_set 27 (AV.fptr (List.drop ((↑i : Int).toNat * 2) (flatA encS ns))) (AV.fptr (AV.int .u8 (ns.getD i ((0 : Int), (0 : Int))).fst :: AV.int .u8 (ns.getD i ((0 : Int), (0 : Int))).snd :: flatA encS (List.drop (i + 1) ns))) (by kernel_rfl) (by rw [hd] <;> rfl) ?_
      refine N_run 1 (2 ≤ (AV.int .u8 (ns.getD i ((0 : Int), (0 : Int))).fst :: AV.int .u8 (ns.getD i ((0 : Int), (0 : Int))).snd :: flatA encS (List.drop (i + 1) ns)).length) [5, 6, 7, 8, 9, 10] (stOf 109 (z1 ++ [(9, marksV l), (10, .int .i64 (↑i : Int)), (20, .bool true), (24, marksV l), (25, .slv ns.length 2 (flatA encS ns)), (26, .int .i64 (↑i : Int)), (27, .fptr (.int .u8 (ns.getD i ((0 : Int), (0 : Int))).fst :: .int .u8 (ns.getD i ((0 : Int), (0 : Int))).snd :: flatA encS (List.drop (i + 1) ns))), (28, .agg [.int .u8 (ns.getD i ((0 : Int), (0 : Int))).fst, .int .u8 (ns.getD i ((0 : Int), (0 : Int))).snd])]) [Blk.dead]) (by exact by exact Nat.le_of_ble_eq_true (by kernel_rfl)) ?_
      have hst := stepRow_v l (ns.getD i (0, 0)).1 (ns.getD i (0, 0)).2 hb.1 hl (by omega)
      obtain ⟨q1, q2⟩ := step_ok l (ns.getD i (0, 0)).1 (ns.getD i (0, 0)).2 hl2
      generalize hz : stepL l (ns.getD i (0, 0)).1 (ns.getD i (0, 0)).2 = z at hst q1 q2
      refine n_callo 8 [marksV l, .agg [.int .u8 (ns.getD i (0, 0)).1, .int .u8 (ns.getD i (0, 0)).2]] (.tuple [marksV z, .sl 0 0 z.length 10, .bool true]) 38 (flatA encM z) _ (by kernel_rfl) (by kernel_rfl) (by kernel_rfl) (plainM z) rfl hst ?_
      refine N_run 5 (True) [] (stOf 109 (z1 ++ [(9, .sl 1 0 z.length 10), (10, .int .i64 (↑i : Int)), (20, .bool true), (23, .tuple [marksV z, .sl 1 0 z.length 10, .bool true]), (24, marksV l), (25, .slv ns.length 2 (flatA encS ns)), (26, .int .i64 (↑i : Int)), (27, .fptr (.int .u8 (ns.getD i ((0 : Int), (0 : Int))).fst :: .int .u8 (ns.getD i ((0 : Int), (0 : Int))).snd :: flatA encS (List.drop (i + 1) ns))), (28, .agg [.int .u8 (ns.getD i ((0 : Int), (0 : Int))).fst, .int .u8 (ns.getD i ((0 : Int), (0 : Int))).snd]), (29, .tuple [marksV z, .sl 1 0 z.length 10, .bool true]), (30, marksV z), (31, .sl 1 0 z.length 10), (32, .bool true)]) [Blk.dead, .row 38 (flatA encM z)]) trivial ?_
      refine N_sel [0, 1, 2, 3, 8, 9, 10, 11, 12, 20, 35, 53, 63, 79, 89] (stOf 109 (z1 ++ [(9, .sl 1 0 z.length 10), (10, .int .i64 (↑i : Int)), (20, .bool true)]) [Blk.dead, .row 38 (flatA encM z)]) ?_
      refine k_block ?_
      refine k_then ?_
      refine Q_reg ?_
      refine N_run 2 (True) [2] (stOf 109 (z1 ++ [(9, .sl 1 0 z.length 10), (10, .int .i64 (↑i : Int)), (20, .bool true), (21, .int .i64 (↑i : Int)), (22, .int .i64 (IntKind.i64.wrap ((↑i : Int) + (1 : Int))))]) [Blk.dead, .row 38 (flatA encM z)]) trivial ?_
      refine n_set 22 (AV.int .i64 (IntKind.i64.wrap ((↑i : Int) + (1 : Int)))) (AV.int .i64 ((↑i : Int) + (1 : Int))) (by kernel_rfl) (by rw [wrap_i64 (e := (↑i : Int) + (1 : Int)) (by omega) (by omega)]) ?_
      refine N_run 1 (True) [] (stOf 109 (z1 ++ [(9, .sl 1 0 z.length 10), (10, .int .i64 ((↑i : Int) + (1 : Int))), (20, .bool true), (21, .int .i64 (↑i : Int)), (22, .int .i64 ((↑i : Int) + (1 : Int)))]) [Blk.dead, .row 38 (flatA encM z)]) trivial ?_
      refine N_sel [0, 1, 2, 3, 8, 9, 10, 11, 12, 20, 35, 53, 63, 79, 89] (stOf 109 (z1 ++ [(9, .sl 1 0 z.length 10), (10, .int .i64 ((↑i : Int) + (1 : Int))), (20, .bool true)]) [Blk.dead, .row 38 (flatA encM z)]) ?_
      refine k_loopd1 (ns.length - (i + 1)) (by omega) 1 _ (flatA encM z) rfl (noidM _) ⟨i + 1, z, rfl, by omega, by omega, by omega, q2, Or.inr (by kernel_rfl)⟩
    · have hcc : (bif decide ((i : Int) < (ns.length : Int)) then decide ((i : Int) < 20) else false) = false := by
        by_cases h1 : i < ns.length
        · have h2 : ¬ i < 20 := fun h => hin ⟨h1, h⟩
          rw [show decide ((i : Int) < (ns.length : Int)) = true by rw [decide_eq_true_iff]; omega, show decide ((i : Int) < 20) = false by rw [decide_eq_false_iff_not]; omega]; rfl
        · rw [show decide ((i : Int) < (ns.length : Int)) = false by rw [decide_eq_false_iff_not]; omega]; rfl
      by_cases hl0 : l = []
      · have hl0' : ((l.length : Int) == 0) = true := by rw [hl0]; rfl
        refine q_frzM 9 0 l (stOf 109 [(0, stepsV ns), (1, .int .u8 a1), (2, .int .u8 a2), (3, .int .u8 a3), (8, .bool false), (9, marksV l), (10, .int .i64 (i : Int))] [.dead]) (by kernel_rfl) (by kernel_rfl) (by kernel_rfl) ?_
        have hk := check_v l hl
        rw [show chkL l = 0 by rw [hl0]; rfl] at hk
        refine Q_seq ?_
        refine Q_seq ?_
        refine q_run (((decide ((↑i : Int) < (↑ns.length : Int)) == true) = true → (decide ((↑i : Int) < (↑ns.length : Int)) == true) = true) ∧ (decide ((↑i : Int) < (↑ns.length : Int)) = true → (decide ((↑i : Int) < (↑ns.length : Int)) == true) = true)) [0, 1, 2, 3, 8, 9, 10, 11, 12, 20, 35, 53, 63, 79, 89] (stOf 109 (z1 ++ [(9, marksV l), (10, .int .i64 (↑i : Int)), (20, .bool (bif decide ((↑i : Int) < (↑ns.length : Int)) then decide ((↑i : Int) < (20 : Int)) else false))]) [Blk.dead]) (by kernel_rfl) (by kernel_rfl) (by kernel_rfl) (by kernel_rfl) (by exact ⟨fun h => h, by (simp; done)⟩) ?_
        refine k_then ?_
        refine q_set 20 (AV.bool (bif decide ((↑i : Int) < (↑ns.length : Int)) then decide ((↑i : Int) < (20 : Int)) else false)) (AV.bool false) (by kernel_rfl) (by rw [hcc] <;> rfl) ?_
        refine q_no (by kernel_rfl) false (by kernel_rfl) rfl ?_
        refine q_exit (by kernel_rfl) 0 (by kernel_rfl) ?_
        refine k_thenx ?_
        refine k_loopx ?_
        refine k_blockx (by kernel_rfl) ?_
        refine k_then ?_
        refine Q_seq ?_
        refine Q_seq ?_
        refine Q_run [0, 1, 2, 3, 8, 9, 10, 11, 12, 20, 35, 53, 63, 79, 89] (stOf 109 (z1 ++ [(9, marksV l), (10, .int .i64 (↑i : Int)), (20, .bool false), (35, .bool ((↑l.length : Int) == (0 : Int)))]) [Blk.dead]) ?_
        refine k_then ?_
        refine q_set 35 (AV.bool ((↑l.length : Int) == (0 : Int))) (AV.bool true) (by kernel_rfl) (by rw [hl0'] <;> rfl) ?_
        refine q_yes (by kernel_rfl) true (by kernel_rfl) rfl ?_
        refine Q_seq ?_
        refine Q_reg ?_
        refine n_callp 16 [] (AV.bool true) (stOf 109 (z1 ++ [(9, marksV l), (10, .int .i64 (↑i : Int)), (20, .bool false), (35, .bool true), (36, .bool true)]) [Blk.dead]) (by kernel_rfl) (by kernel_rfl) (by kernel_rfl) (by kernel_rfl) (awake_v ) ?_
        refine N_run 2 (True) [3, 4, 5, 6] (stOf 109 (z1 ++ [(9, marksV l), (10, .int .i64 (↑i : Int)), (20, .bool false), (35, .bool true), (36, .bool true), (37, .bool true), (38, .cnd true (marksV l))]) [Blk.dead]) trivial ?_
        refine n_callg 10 [marksV l] (AV.int .i64 0) (true) (stOf 109 (z1 ++ [(9, marksV l), (10, .int .i64 (↑i : Int)), (20, .bool false), (35, .bool true), (36, .bool true), (37, .bool true), (38, .cnd true (marksV l)), (39, .cnd true (.int .i64 0))]) [Blk.dead]) (by kernel_rfl) (by kernel_rfl) (by kernel_rfl) (by kernel_rfl) (by kernel_rfl) (true = true) (by kernel_rfl) (by first | exact fun h => h | (intro h; exact by kernel_rfl) | (intro h; simp_all; done)) (fun hg => (hk )) ?_
        refine N_run 3 (((true == true) = true → true = true) ∧ (true = true → (true == true) = true)) [] (stOf 109 [(0, .slv ns.length 2 (flatA encS ns)), (1, .int .u8 a1), (2, .int .u8 a2), (3, .int .u8 a3), (8, .bool true), (9, marksV l), (10, .int .i64 (↑i : Int)), (20, .bool false), (35, .bool true), (36, .bool true), (37, .bool true), (38, .cnd true (marksV l)), (39, .cnd true (.int .i64 0)), (40, .cnd true (.bool true)), (41, .bool true)] [Blk.dead]) (by exact ⟨fun h => h, fun h => h⟩) ?_
        refine N_sel [0, 1, 2, 3, 8, 9, 10, 11, 12, 20, 35, 53, 63, 79, 89] (stOf 109 [(0, .slv ns.length 2 (flatA encS ns)), (1, .int .u8 a1), (2, .int .u8 a2), (3, .int .u8 a3), (8, .bool true), (9, marksV l), (10, .int .i64 (↑i : Int)), (20, .bool false), (35, .bool true)] [Blk.dead]) ?_
        refine k_then ?_
        refine q_ret (by kernel_rfl) ?_
        refine k_thenr ?_
        refine k_fin (True) (AV.bool true) [] [] (AV.bool true) (by kernel_rfl) (by kernel_rfl) (by kernel_rfl) trivial (keep_nil _) ?_
        exact ⟨rfl, rfl⟩
      · have hp : 0 < l.length := List.length_pos_iff.2 hl0
        have hl0' : ((l.length : Int) == 0) = false := by rw [beq_eq_false_iff_ne]; omega
        obtain ⟨I, hI, hIl⟩ : ∃ I : Nat, a1.tmod (l.length : Int) = (I : Int) ∧ I < l.length := by
          have q0 := Int.tmod_nonneg (l.length : Int) ha.1
          have q1 := Int.tmod_lt_of_pos a1 (show (0 : Int) < (l.length : Int) by omega)
          exact ⟨(a1.tmod (l.length : Int)).toNat, by omega, by omega⟩
        obtain ⟨K, hK, hKl⟩ : ∃ K : Nat, a2.tmod (l.length : Int) = (K : Int) ∧ K < l.length := by
          have q0 := Int.tmod_nonneg (l.length : Int) ht.1
          have q1 := Int.tmod_lt_of_pos a2 (show (0 : Int) < (l.length : Int) by omega)
          exact ⟨(a2.tmod (l.length : Int)).toNat, by omega, by omega⟩
        have hn : (l.length : Int) ≠ 0 := by omega
        have norow := trivial
        by_cases h0 : (a3.tmod 4 == 0) = true
        · skip
          obtain ⟨A2, B2, hA2, hmid2, hset2⟩ := mid_of l K hKl
          have hoff2 : ∀ k, 0 + (K : Int).toNat * 10 + k = A2.length + k := fun k => by rw [hA2]; simp
          obtain ⟨A, B, hA, hmid, hset⟩ := mid_of l I hIl
          have hoff : ∀ k, 0 + (I : Int).toNat * 10 + k = A.length + k := fun k => by rw [hA]; simp
          refine Q_seq ?_
          refine Q_seq ?_
          refine Q_reg ?_
          refine N_run 5 (True) [5, 6, 7] (stOf 109 (z1 ++ [(9, .sl 0 0 l.length 10), (10, .int .i64 (↑i : Int)), (13, .int .i64 (↑i : Int)), (14, .slv ns.length 2 (flatA encS ns)), (15, .int .i64 (↑ns.length : Int)), (16, .bool (decide ((↑i : Int) < (↑ns.length : Int)))), (17, .bool (decide ((↑i : Int) < (↑ns.length : Int))))]) [.row 38 (flatA encM l)]) trivial ?_
          refine N_run 1 (True) [6, 7] (stOf 109 (z1 ++ [(9, .sl 0 0 l.length 10), (10, .int .i64 (↑i : Int)), (13, .int .i64 (↑i : Int)), (14, .slv ns.length 2 (flatA encS ns)), (15, .int .i64 (↑ns.length : Int)), (16, .bool (decide ((↑i : Int) < (↑ns.length : Int)))), (17, .bool (decide ((↑i : Int) < (↑ns.length : Int)))), (18, .cnd (decide ((↑i : Int) < (↑ns.length : Int)) == true) (.int .i64 (↑i : Int)))]) [.row 38 (flatA encM l)]) trivial ?_
          refine N_run 2 (((decide ((↑i : Int) < (↑ns.length : Int)) == true) = true → (decide ((↑i : Int) < (↑ns.length : Int)) == true) = true) ∧ (decide ((↑i : Int) < (↑ns.length : Int)) = true → (decide ((↑i : Int) < (↑ns.length : Int)) == true) = true)) [] (stOf 109 (z1 ++ [(9, .sl 0 0 l.length 10), (10, .int .i64 (↑i : Int)), (13, .int .i64 (↑i : Int)), (14, .slv ns.length 2 (flatA encS ns)), (15, .int .i64 (↑ns.length : Int)), (16, .bool (decide ((↑i : Int) < (↑ns.length : Int)))), (17, .bool (decide ((↑i : Int) < (↑ns.length : Int)))), (18, .cnd (decide ((↑i : Int) < (↑ns.length : Int)) == true) (.int .i64 (↑i : Int))), (19, .cnd (decide ((↑i : Int) < (↑ns.length : Int)) == true) (.bool (decide ((↑i : Int) < (20 : Int))))), (20, .bool (bif decide ((↑i : Int) < (↑ns.length : Int)) then decide ((↑i : Int) < (20 : Int)) else false))]) [.row 38 (flatA encM l)]) (by exact ⟨fun h => h, by (simp; done)⟩) ?_
          refine n_set 20 (AV.bool (bif decide ((↑i : Int) < (↑ns.length : Int)) then decide ((↑i : Int) < (20 : Int)) else false)) (AV.bool false) (by kernel_rfl) (by rw [hcc] <;> rfl) ?_
          refine N_sel [0, 1, 2, 3, 8, 9, 10, 11, 12, 20, 35, 53, 63, 79, 89] (stOf 109 (z1 ++ [(9, .sl 0 0 l.length 10), (10, .int .i64 (↑i : Int)), (20, .bool false)]) [.row 38 (flatA encM l)]) ?_
          refine k_then ?_
          refine q_no (by kernel_rfl) false (by kernel_rfl) rfl ?_
          refine q_exit (by kernel_rfl) 0 (by kernel_rfl) ?_
          refine k_thenx ?_
          refine k_loopx ?_
          refine k_blockx (by kernel_rfl) ?_
          refine k_then ?_
          refine Q_seq ?_
          refine Q_seq ?_
          refine Q_reg ?_
          refine N_run 3 (True) [] (stOf 109 (z1 ++ [(9, .sl 0 0 l.length 10), (10, .int .i64 (↑i : Int)), (20, .bool false), (33, .sl 0 0 l.length 10), (34, .int .i64 (↑l.length : Int)), (35, .bool ((↑l.length : Int) == (0 : Int)))]) [.row 38 (flatA encM l)]) trivial ?_
          refine n_set 35 (AV.bool ((↑l.length : Int) == (0 : Int))) (AV.bool false) (by kernel_rfl) (by rw [hl0'] <;> rfl) ?_
          refine N_sel [0, 1, 2, 3, 8, 9, 10, 11, 12, 20, 35, 53, 63, 79, 89] (stOf 109 (z1 ++ [(9, .sl 0 0 l.length 10), (10, .int .i64 (↑i : Int)), (20, .bool false), (35, .bool false)]) [.row 38 (flatA encM l)]) ?_
          refine k_then ?_
          refine q_no (by kernel_rfl) false (by kernel_rfl) rfl ?_
          refine q_skip (by kernel_rfl) ?_
          refine k_then ?_
          refine Q_seq ?_
          refine q_draw (by kernel_rfl) (by kernel_rfl) ?_
          refine d_takes [0, 1, 2, 3, 4] ((↑l.length : Int) ≠ (0 : Int)) 7 #[true, true, true, true, true, false, false, false, false, false, false, false] (stOf 109 (z1 ++ [(9, .sl 0 0 l.length 10), (10, .int .i64 (↑i : Int)), (20, .bool false), (35, .bool false), (42, .int .u8 a1), (43, .int .i64 (IntKind.i64.wrap a1)), (44, .sl 0 0 l.length 10), (45, .int .i64 (↑l.length : Int)), (46, .int .i64 ((IntKind.i64.wrap a1).tmod (↑l.length : Int)))]) [.row 38 (flatA encM l)]) (by kernel_rfl) (by kernel_rfl) (by kernel_rfl) (by exact by omega) ?_
          refine d_set 43 (AV.int .i64 (IntKind.i64.wrap a1)) (AV.int .i64 a1) (by kernel_rfl) (by rw [wrap_i64 (e := a1) (by omega) (by omega)]) ?_
          refine d_set 46 (AV.int .i64 ((IntKind.i64.wrap a1).tmod (↑l.length : Int))) (AV.int .i64 (a1.tmod (↑l.length : Int))) (by kernel_rfl) (by rw [wrap_i64 (e := a1) (by omega) (by omega)]) ?_
          refine d_set 46 (AV.int .i64 (a1.tmod (↑l.length : Int))) (AV.int .i64 (↑I : Int)) (by kernel_rfl) (by rw [hI] <;> rfl) ?_
          refine d_takes [5, 6, 7, 8, 9] ((↑l.length : Int) ≠ (0 : Int)) 2 #[true, true, true, true, true, true, true, true, true, true, false, false] (stOf 109 (z1 ++ [(9, .sl 0 0 l.length 10), (10, .int .i64 (↑i : Int)), (20, .bool false), (35, .bool false), (42, .int .u8 a1), (43, .int .i64 a1), (44, .sl 0 0 l.length 10), (45, .int .i64 (↑l.length : Int)), (46, .int .i64 (↑I : Int)), (47, .int .u8 a2), (48, .int .i64 (IntKind.i64.wrap a2)), (49, .sl 0 0 l.length 10), (50, .int .i64 (↑l.length : Int)), (51, .int .i64 ((IntKind.i64.wrap a2).tmod (↑l.length : Int)))]) [.row 38 (flatA encM l)]) (by kernel_rfl) (by kernel_rfl) (by kernel_rfl) (by exact by omega) ?_
          refine d_set 48 (AV.int .i64 (IntKind.i64.wrap a2)) (AV.int .i64 a2) (by kernel_rfl) (by rw [wrap_i64 (e := a2) (by omega) (by omega)]) ?_
          refine d_set 51 (AV.int .i64 ((IntKind.i64.wrap a2).tmod (↑l.length : Int))) (AV.int .i64 (a2.tmod (↑l.length : Int))) (by kernel_rfl) (by rw [wrap_i64 (e := a2) (by omega) (by omega)]) ?_
          refine d_set 51 (AV.int .i64 (a2.tmod (↑l.length : Int))) (AV.int .i64 (↑K : Int)) (by kernel_rfl) (by rw [hK] <;> rfl) ?_
          refine d_takes [10, 11] (True) 0 #[true, true, true, true, true, true, true, true, true, true, true, true] (stOf 109 (z1 ++ [(9, .sl 0 0 l.length 10), (10, .int .i64 (↑i : Int)), (11, .int .i64 (↑I : Int)), (12, .int .i64 (↑K : Int)), (20, .bool false), (35, .bool false), (42, .int .u8 a1), (43, .int .i64 a1), (44, .sl 0 0 l.length 10), (45, .int .i64 (↑l.length : Int)), (46, .int .i64 (↑I : Int)), (47, .int .u8 a2), (48, .int .i64 a2), (49, .sl 0 0 l.length 10), (50, .int .i64 (↑l.length : Int)), (51, .int .i64 (↑K : Int))]) [.row 38 (flatA encM l)]) (by kernel_rfl) (by kernel_rfl) (by kernel_rfl) trivial ?_
          refine d_done [0, 1, 2, 3, 8, 9, 10, 11, 12, 20, 35, 53, 63, 79, 89] (stOf 109 (z1 ++ [(9, .sl 0 0 l.length 10), (10, .int .i64 (↑i : Int)), (11, .int .i64 (↑I : Int)), (12, .int .i64 (↑K : Int)), (20, .bool false), (35, .bool false)]) [.row 38 (flatA encM l)]) (by kernel_rfl) (by kernel_rfl) ?_
          refine k_then ?_
          refine Q_seq ?_
          refine Q_seq ?_
          refine Q_reg ?_
          refine N_run 2 ((4 : Int) ≠ (0 : Int)) [] (stOf 109 (z1 ++ [(9, .sl 0 0 l.length 10), (10, .int .i64 (↑i : Int)), (11, .int .i64 (↑I : Int)), (12, .int .i64 (↑K : Int)), (20, .bool false), (35, .bool false), (52, .int .u8 a3), (53, .int .u8 (a3.tmod (4 : Int)))]) [.row 38 (flatA encM l)]) (by exact by omega) ?_
          refine N_sel [0, 1, 2, 3, 8, 9, 10, 11, 12, 20, 35, 53, 63, 79, 89] (stOf 109 (z1 ++ [(9, .sl 0 0 l.length 10), (10, .int .i64 (↑i : Int)), (11, .int .i64 (↑I : Int)), (12, .int .i64 (↑K : Int)), (20, .bool false), (35, .bool false), (53, .int .u8 (a3.tmod (4 : Int)))]) [.row 38 (flatA encM l)]) ?_
          refine k_then ?_
          refine q_block (by kernel_rfl) ?_
          refine Q_seq ?_
          refine Q_reg ?_
          refine N_run 2 (True) [] (stOf 109 (z1 ++ [(9, .sl 0 0 l.length 10), (10, .int .i64 (↑i : Int)), (11, .int .i64 (↑I : Int)), (12, .int .i64 (↑K : Int)), (20, .bool false), (35, .bool false), (53, .int .u8 (a3.tmod (4 : Int))), (63, .bool (a3.tmod (4 : Int) == (0 : Int))), (64, .bool (a3.tmod (4 : Int) == (0 : Int)))]) [.row 38 (flatA encM l)]) trivial ?_
          refine n_set 63 (AV.bool (a3.tmod (4 : Int) == (0 : Int))) (AV.bool true) (by kernel_rfl) (by rw [h0] <;> rfl) ?_
          refine n_set 64 (AV.bool (a3.tmod (4 : Int) == (0 : Int))) (AV.bool true) (by kernel_rfl) (by rw [h0] <;> rfl) ?_
          refine N_sel [0, 1, 2, 3, 8, 9, 10, 11, 12, 20, 35, 53, 63, 79, 89] (stOf 109 (z1 ++ [(9, .sl 0 0 l.length 10), (10, .int .i64 (↑i : Int)), (11, .int .i64 (↑I : Int)), (12, .int .i64 (↑K : Int)), (20, .bool false), (35, .bool false), (53, .int .u8 (a3.tmod (4 : Int))), (63, .bool true)]) [.row 38 (flatA encM l)]) ?_
          refine k_then ?_
          refine q_yes (by kernel_rfl) true (by kernel_rfl) rfl ?_
          refine q_drawT false (by kernel_rfl) (by kernel_rfl) 1 (by kernel_rfl) ?_
          refine T_still 0 15 #[true, false, false, false, false, false, false, false, false, false, false, false, false, false, false, false] (stOf 109 (z1 ++ [(9, .sl 0 0 l.length 10), (10, .int .i64 (↑i : Int)), (11, .int .i64 (↑I : Int)), (12, .int .i64 (↑K : Int)), (20, .bool false), (35, .bool false), (53, .int .u8 (a3.tmod (4 : Int))), (63, .bool true), (65, .sl 0 0 l.length 10)]) [.row 38 (flatA encM l)]) ?_
          refine T_still 1 14 #[true, true, false, false, false, false, false, false, false, false, false, false, false, false, false, false] (stOf 109 (z1 ++ [(9, .sl 0 0 l.length 10), (10, .int .i64 (↑i : Int)), (11, .int .i64 (↑I : Int)), (12, .int .i64 (↑K : Int)), (20, .bool false), (35, .bool false), (53, .int .u8 (a3.tmod (4 : Int))), (63, .bool true), (65, .sl 0 0 l.length 10), (66, .int .i64 (↑I : Int))]) [.row 38 (flatA encM l)]) ?_
          refine T_still 2 13 #[true, true, true, false, false, false, false, false, false, false, false, false, false, false, false, false] (stOf 109 (z1 ++ [(9, .sl 0 0 l.length 10), (10, .int .i64 (↑i : Int)), (11, .int .i64 (↑I : Int)), (12, .int .i64 (↑K : Int)), (20, .bool false), (35, .bool false), (53, .int .u8 (a3.tmod (4 : Int))), (63, .bool true), (65, .sl 0 0 l.length 10), (66, .int .i64 (↑I : Int)), (67, .sl 0 0 l.length 10)]) [.row 38 (flatA encM l)]) ?_
          refine T_still 3 12 #[true, true, true, true, false, false, false, false, false, false, false, false, false, false, false, false] (stOf 109 (z1 ++ [(9, .sl 0 0 l.length 10), (10, .int .i64 (↑i : Int)), (11, .int .i64 (↑I : Int)), (12, .int .i64 (↑K : Int)), (20, .bool false), (35, .bool false), (53, .int .u8 (a3.tmod (4 : Int))), (63, .bool true), (65, .sl 0 0 l.length 10), (66, .int .i64 (↑I : Int)), (67, .sl 0 0 l.length 10), (68, .int .i64 (↑K : Int))]) [.row 38 (flatA encM l)]) ?_
          refine T_still 4 11 #[true, true, true, true, true, false, false, false, false, false, false, false, false, false, false, false] (stOf 109 (z1 ++ [(9, .sl 0 0 l.length 10), (10, .int .i64 (↑i : Int)), (11, .int .i64 (↑I : Int)), (12, .int .i64 (↑K : Int)), (20, .bool false), (35, .bool false), (53, .int .u8 (a3.tmod (4 : Int))), (63, .bool true), (65, .sl 0 0 l.length 10), (66, .int .i64 (↑I : Int)), (67, .sl 0 0 l.length 10), (68, .int .i64 (↑K : Int)), (69, .sl 0 0 l.length 10)]) [.row 38 (flatA encM l)]) ?_
          refine T_still 5 10 #[true, true, true, true, true, true, false, false, false, false, false, false, false, false, false, false] (stOf 109 (z1 ++ [(9, .sl 0 0 l.length 10), (10, .int .i64 (↑i : Int)), (11, .int .i64 (↑I : Int)), (12, .int .i64 (↑K : Int)), (20, .bool false), (35, .bool false), (53, .int .u8 (a3.tmod (4 : Int))), (63, .bool true), (65, .sl 0 0 l.length 10), (66, .int .i64 (↑I : Int)), (67, .sl 0 0 l.length 10), (68, .int .i64 (↑K : Int)), (69, .sl 0 0 l.length 10), (70, .int .i64 (↑K : Int))]) [.row 38 (flatA encM l)]) ?_
          refine T_take 6 ((0 : Int) ≤ (↑K : Int) ∧ (↑K : Int) < (↑l.length : Int)) 9 #[true, true, true, true, true, true, true, false, false, false, false, false, false, false, false, false] (stOf 109 (z1 ++ [(9, .sl 0 0 l.length 10), (10, .int .i64 (↑i : Int)), (11, .int .i64 (↑I : Int)), (12, .int .i64 (↑K : Int)), (20, .bool false), (35, .bool false), (53, .int .u8 (a3.tmod (4 : Int))), (63, .bool true), (65, .sl 0 0 l.length 10), (66, .int .i64 (↑I : Int)), (67, .sl 0 0 l.length 10), (68, .int .i64 (↑K : Int)), (69, .sl 0 0 l.length 10), (70, .int .i64 (↑K : Int)), (71, .ptr 0 (0 + (↑K : Int).toNat * 10))]) [.row 38 (flatA encM l)]) (by exact ⟨by omega, by omega⟩) ?_
          refine t_loadR 7 0 0 A2 (encM (l.getD K mD)) B2 38 (.tmp 71) (0 + (K : Int).toNat * 10) (.agg (encM (l.getD K mD))) 8 #[true, true, true, true, true, true, true, true, false, false, false, false, false, false, false, false] _ (by kernel_rfl) (by kernel_rfl) (by kernel_rfl) (by kernel_rfl) (by kernel_rfl) (by kernel_rfl) (Eq.trans (b := some (Blk.row 38 (flatA encM l))) (by kernel_rfl) (by rw [hmid2])) (hoff2 0) (by kernel_rfl) (by kernel_rfl) (by kernel_rfl) rfl (by kernel_rfl) ?_
          refine T_still 8 7 #[true, true, true, true, true, true, true, true, true, false, false, false, false, false, false, false] (stOf 109 (z1 ++ [(9, .sl 0 0 l.length 10), (10, .int .i64 (↑i : Int)), (11, .int .i64 (↑I : Int)), (12, .int .i64 (↑K : Int)), (20, .bool false), (35, .bool false), (53, .int .u8 (a3.tmod (4 : Int))), (63, .bool true), (65, .sl 0 0 l.length 10), (66, .int .i64 (↑I : Int)), (67, .sl 0 0 l.length 10), (68, .int .i64 (↑K : Int)), (69, .sl 0 0 l.length 10), (70, .int .i64 (↑K : Int)), (71, .ptr 0 (0 + (↑K : Int).toNat * 10)), (72, .agg (encM (l.getD K mD))), (73, .sl 0 0 l.length 10)]) [.row 38 (flatA encM l)]) ?_
          refine T_still 9 6 #[true, true, true, true, true, true, true, true, true, true, false, false, false, false, false, false] (stOf 109 (z1 ++ [(9, .sl 0 0 l.length 10), (10, .int .i64 (↑i : Int)), (11, .int .i64 (↑I : Int)), (12, .int .i64 (↑K : Int)), (20, .bool false), (35, .bool false), (53, .int .u8 (a3.tmod (4 : Int))), (63, .bool true), (65, .sl 0 0 l.length 10), (66, .int .i64 (↑I : Int)), (67, .sl 0 0 l.length 10), (68, .int .i64 (↑K : Int)), (69, .sl 0 0 l.length 10), (70, .int .i64 (↑K : Int)), (71, .ptr 0 (0 + (↑K : Int).toNat * 10)), (72, .agg (encM (l.getD K mD))), (73, .sl 0 0 l.length 10), (74, .int .i64 (↑I : Int))]) [.row 38 (flatA encM l)]) ?_
          refine T_take 10 ((0 : Int) ≤ (↑I : Int) ∧ (↑I : Int) < (↑l.length : Int)) 5 #[true, true, true, true, true, true, true, true, true, true, true, false, false, false, false, false] (stOf 109 (z1 ++ [(9, .sl 0 0 l.length 10), (10, .int .i64 (↑i : Int)), (11, .int .i64 (↑I : Int)), (12, .int .i64 (↑K : Int)), (20, .bool false), (35, .bool false), (53, .int .u8 (a3.tmod (4 : Int))), (63, .bool true), (65, .sl 0 0 l.length 10), (66, .int .i64 (↑I : Int)), (67, .sl 0 0 l.length 10), (68, .int .i64 (↑K : Int)), (69, .sl 0 0 l.length 10), (70, .int .i64 (↑K : Int)), (71, .ptr 0 (0 + (↑K : Int).toNat * 10)), (72, .agg (encM (l.getD K mD))), (73, .sl 0 0 l.length 10), (74, .int .i64 (↑I : Int)), (75, .ptr 0 (0 + (↑I : Int).toNat * 10))]) [.row 38 (flatA encM l)]) (by exact ⟨by omega, by omega⟩) ?_
          refine t_loadR 11 0 0 A (encM (l.getD I mD)) B 38 (.tmp 75) (0 + (I : Int).toNat * 10) (.agg (encM (l.getD I mD))) 4 #[true, true, true, true, true, true, true, true, true, true, true, true, false, false, false, false] _ (by kernel_rfl) (by kernel_rfl) (by kernel_rfl) (by kernel_rfl) (by kernel_rfl) (by kernel_rfl) (Eq.trans (b := some (Blk.row 38 (flatA encM l))) (by kernel_rfl) (by rw [hmid])) (hoff 0) (by kernel_rfl) (by kernel_rfl) (by kernel_rfl) rfl (by kernel_rfl) ?_
          refine T_take 12 ((0 : Int) ≤ (↑I : Int) ∧ (↑I : Int) < (↑l.length : Int)) 3 #[true, true, true, true, true, true, true, true, true, true, true, true, true, false, false, false] (stOf 109 (z1 ++ [(9, .sl 0 0 l.length 10), (10, .int .i64 (↑i : Int)), (11, .int .i64 (↑I : Int)), (12, .int .i64 (↑K : Int)), (20, .bool false), (35, .bool false), (53, .int .u8 (a3.tmod (4 : Int))), (63, .bool true), (65, .sl 0 0 l.length 10), (66, .int .i64 (↑I : Int)), (67, .sl 0 0 l.length 10), (68, .int .i64 (↑K : Int)), (69, .sl 0 0 l.length 10), (70, .int .i64 (↑K : Int)), (71, .ptr 0 (0 + (↑K : Int).toNat * 10)), (72, .agg (encM (l.getD K mD))), (73, .sl 0 0 l.length 10), (74, .int .i64 (↑I : Int)), (75, .ptr 0 (0 + (↑I : Int).toNat * 10)), (76, .agg (encM (l.getD I mD))), (77, .ptr 0 (0 + (↑I : Int).toNat * 10))]) [.row 38 (flatA encM l)]) (by exact ⟨by omega, by omega⟩) ?_
          refine t_one 13 2 (by kernel_rfl) (by kernel_rfl) ?_
          refine g_turn (0 + (↑I : Int).toNat * 10 + 10 ≤ (flatA encM l).length) #[true, true, true, true, true, true, true, true, true, true, true, true, true, true, false, false] (stOf 109 (z1 ++ [(9, .sl 0 0 l.length 10), (10, .int .i64 (↑i : Int)), (11, .int .i64 (↑I : Int)), (12, .int .i64 (↑K : Int)), (20, .bool false), (35, .bool false), (53, .int .u8 (a3.tmod (4 : Int))), (63, .bool true), (65, .sl 0 0 l.length 10), (66, .int .i64 (↑I : Int)), (67, .sl 0 0 l.length 10), (68, .int .i64 (↑K : Int)), (69, .sl 0 0 l.length 10), (70, .int .i64 (↑K : Int)), (71, .ptr 0 (0 + (↑K : Int).toNat * 10)), (72, .agg (encM (l.getD K mD))), (73, .sl 0 0 l.length 10), (74, .int .i64 (↑I : Int)), (75, .ptr 0 (0 + (↑I : Int).toNat * 10)), (76, .agg (encM (l.getD I mD))), (77, .ptr 0 (0 + (↑I : Int).toNat * 10))]) [.row 38 (List.take (0 + (↑I : Int).toNat * 10) (flatA encM l) ++ (encM (l.getD K mD)) ++ List.drop (0 + (↑I : Int).toNat * 10 + (encM (l.getD K mD)).length) (flatA encM l))]) (by kernel_rfl) (by kernel_rfl) (by kernel_rfl) (by kernel_rfl) (by kernel_rfl) (by exact by simp only [List.length_append, List.length_take, List.length_drop, flatA_length lenM, List.length_cons, List.length_nil]; omega) ?_
          refine T_take 14 ((0 : Int) ≤ (↑K : Int) ∧ (↑K : Int) < (↑l.length : Int)) 1 #[true, true, true, true, true, true, true, true, true, true, true, true, true, true, true, false] (stOf 109 (z1 ++ [(9, .sl 0 0 l.length 10), (10, .int .i64 (↑i : Int)), (11, .int .i64 (↑I : Int)), (12, .int .i64 (↑K : Int)), (20, .bool false), (35, .bool false), (53, .int .u8 (a3.tmod (4 : Int))), (63, .bool true), (65, .sl 0 0 l.length 10), (66, .int .i64 (↑I : Int)), (67, .sl 0 0 l.length 10), (68, .int .i64 (↑K : Int)), (69, .sl 0 0 l.length 10), (70, .int .i64 (↑K : Int)), (71, .ptr 0 (0 + (↑K : Int).toNat * 10)), (72, .agg (encM (l.getD K mD))), (73, .sl 0 0 l.length 10), (74, .int .i64 (↑I : Int)), (75, .ptr 0 (0 + (↑I : Int).toNat * 10)), (76, .agg (encM (l.getD I mD))), (77, .ptr 0 (0 + (↑I : Int).toNat * 10)), (78, .ptr 0 (0 + (↑K : Int).toNat * 10))]) [.row 38 (List.take (0 + (↑I : Int).toNat * 10) (flatA encM l) ++ (encM (l.getD K mD)) ++ List.drop (0 + (↑I : Int).toNat * 10 + (encM (l.getD K mD)).length) (flatA encM l))]) (by exact ⟨by omega, by omega⟩) ?_
          refine t_one 15 0 (by kernel_rfl) (by kernel_rfl) ?_
          refine g_turn (0 + (↑K : Int).toNat * 10 + 10 ≤ (List.take (0 + (↑I : Int).toNat * 10) (flatA encM l) ++ [AV.str (l.getD K mD).st, AV.str (l.getD K mD).tk, AV.int .i64 (l.getD K mD).ver, AV.bool (l.getD K mD).pend, AV.int .i64 (l.getD K mD).kind, AV.int .i64 (l.getD K mD).err, AV.str (l.getD K mD).path, AV.int .i64 (l.getD K mD).at', AV.int .i64 (l.getD K mD).score, AV.slv (l.getD K mD).verd.length 1 (List.map (AV.int .i64) (l.getD K mD).verd)] ++ List.drop (0 + (↑I : Int).toNat * 10 + 10) (flatA encM l)).length) #[true, true, true, true, true, true, true, true, true, true, true, true, true, true, true, true] (stOf 109 (z1 ++ [(9, .sl 0 0 l.length 10), (10, .int .i64 (↑i : Int)), (11, .int .i64 (↑I : Int)), (12, .int .i64 (↑K : Int)), (20, .bool false), (35, .bool false), (53, .int .u8 (a3.tmod (4 : Int))), (63, .bool true), (65, .sl 0 0 l.length 10), (66, .int .i64 (↑I : Int)), (67, .sl 0 0 l.length 10), (68, .int .i64 (↑K : Int)), (69, .sl 0 0 l.length 10), (70, .int .i64 (↑K : Int)), (71, .ptr 0 (0 + (↑K : Int).toNat * 10)), (72, .agg (encM (l.getD K mD))), (73, .sl 0 0 l.length 10), (74, .int .i64 (↑I : Int)), (75, .ptr 0 (0 + (↑I : Int).toNat * 10)), (76, .agg (encM (l.getD I mD))), (77, .ptr 0 (0 + (↑I : Int).toNat * 10)), (78, .ptr 0 (0 + (↑K : Int).toNat * 10))]) [.row 38 (List.take (0 + (↑K : Int).toNat * 10) (List.take (0 + (↑I : Int).toNat * 10) (flatA encM l) ++ (encM (l.getD K mD)) ++ List.drop (0 + (↑I : Int).toNat * 10 + (encM (l.getD K mD)).length) (flatA encM l)) ++ (encM (l.getD I mD)) ++ List.drop (0 + (↑K : Int).toNat * 10 + (encM (l.getD I mD)).length) (List.take (0 + (↑I : Int).toNat * 10) (flatA encM l) ++ (encM (l.getD K mD)) ++ List.drop (0 + (↑I : Int).toNat * 10 + (encM (l.getD K mD)).length) (flatA encM l)))]) (by kernel_rfl) (by kernel_rfl) (by kernel_rfl) (by kernel_rfl) (by kernel_rfl) (by exact by simp only [List.length_append, List.length_take, List.length_drop, flatA_length lenM, List.length_cons, List.length_nil]; omega) ?_
          refine t_done [0, 1, 2, 3, 8, 9, 10, 11, 12, 20, 35, 53, 63, 79, 89] (stOf 109 (z1 ++ [(9, .sl 0 0 l.length 10), (10, .int .i64 (↑i : Int)), (11, .int .i64 (↑I : Int)), (12, .int .i64 (↑K : Int)), (20, .bool false), (35, .bool false), (53, .int .u8 (a3.tmod (4 : Int))), (63, .bool true)]) [.row 38 (List.take (0 + (↑K : Int).toNat * 10) (List.take (0 + (↑I : Int).toNat * 10) (flatA encM l) ++ (encM (l.getD K mD)) ++ List.drop (0 + (↑I : Int).toNat * 10 + (encM (l.getD K mD)).length) (flatA encM l)) ++ (encM (l.getD I mD)) ++ List.drop (0 + (↑K : Int).toNat * 10 + (encM (l.getD I mD)).length) (List.take (0 + (↑I : Int).toNat * 10) (flatA encM l) ++ (encM (l.getD K mD)) ++ List.drop (0 + (↑I : Int).toNat * 10 + (encM (l.getD K mD)).length) (flatA encM l)))]) (by kernel_rfl) (by kernel_rfl) ?_
          refine k_block ?_
          refine k_then ?_
          refine Q_seq ?_
          refine Q_reg ?_
          have hz : OkL (setL (setL l I (l.getD K mD)) K (l.getD I mD)) := setL_ok _ K _ (by rw [setL_len _ _ _ hIl]; exact hKl) (setL_ok l I _ hIl hl (getD_all hl2 hKl mD)) (getD_all hl2 hIl mD)
          have hzl : (setL (setL l I (l.getD K mD)) K (l.getD I mD)).length = l.length := by rw [setL_len _ _ _ (by rw [setL_len _ _ _ hIl]; exact hKl), setL_len _ _ _ hIl]
          have hzs := swapA l I K hIl hKl
          generalize setL (setL l I (l.getD K mD)) K (l.getD I mD) = z at hz hzl hzs
          refine n_asH [Blk.row 38 (flatA encM z)] (by exact congrArg (fun x => [Blk.row 38 x]) hzs) ?_
          have hcz : (chkL z == chkL z) = true := beq_self_eq_true _
          refine n_frzN 9 0 l.length z _ hzl.symm (by kernel_rfl) (by kernel_rfl) rfl ?_
          refine n_callp 16 [] (AV.bool true) (stOf 109 (z1 ++ [(9, marksV z), (10, .int .i64 (↑i : Int)), (11, .int .i64 (↑I : Int)), (12, .int .i64 (↑K : Int)), (20, .bool false), (35, .bool false), (53, .int .u8 (a3.tmod (4 : Int))), (63, .bool true), (101, .bool true)]) [Blk.dead]) (by kernel_rfl) (by kernel_rfl) (by kernel_rfl) (by kernel_rfl) (awake_v ) ?_
          refine N_run 1 (True) [2, 3, 4, 5, 6, 7, 8] (stOf 109 (z1 ++ [(9, marksV z), (10, .int .i64 (↑i : Int)), (11, .int .i64 (↑I : Int)), (12, .int .i64 (↑K : Int)), (20, .bool false), (35, .bool false), (53, .int .u8 (a3.tmod (4 : Int))), (63, .bool true), (101, .bool true), (102, .bool true)]) [Blk.dead]) trivial ?_
          refine N_run 1 (True) [3, 4, 5, 6, 7, 8] (stOf 109 (z1 ++ [(9, marksV z), (10, .int .i64 (↑i : Int)), (11, .int .i64 (↑I : Int)), (12, .int .i64 (↑K : Int)), (20, .bool false), (35, .bool false), (53, .int .u8 (a3.tmod (4 : Int))), (63, .bool true), (101, .bool true), (102, .bool true), (103, .cnd true (marksV z))]) [Blk.dead]) trivial ?_
          refine n_callg 10 [marksV z] (AV.int .i64 (chkL z)) (true) (stOf 109 (z1 ++ [(9, marksV z), (10, .int .i64 (↑i : Int)), (11, .int .i64 (↑I : Int)), (12, .int .i64 (↑K : Int)), (20, .bool false), (35, .bool false), (53, .int .u8 (a3.tmod (4 : Int))), (63, .bool true), (101, .bool true), (102, .bool true), (103, .cnd true (marksV z)), (104, .cnd true (.int .i64 (chkL z)))]) [Blk.dead]) (by kernel_rfl) (by kernel_rfl) (by kernel_rfl) (by kernel_rfl) (by kernel_rfl) (true = true) (by kernel_rfl) (by first | exact fun h => h | (intro h; exact by kernel_rfl) | (intro h; simp_all; done)) (fun hg => (check_v z hz )) ?_
          refine N_run 1 (True) [5, 6, 7, 8] (stOf 109 (z1 ++ [(9, marksV z), (10, .int .i64 (↑i : Int)), (11, .int .i64 (↑I : Int)), (12, .int .i64 (↑K : Int)), (20, .bool false), (35, .bool false), (53, .int .u8 (a3.tmod (4 : Int))), (63, .bool true), (101, .bool true), (102, .bool true), (103, .cnd true (marksV z)), (104, .cnd true (.int .i64 (chkL z))), (105, .cnd true (marksV z))]) [Blk.dead]) trivial ?_
          refine n_callg 22 [marksV z] (AV.int .i64 (chkL z)) (true) (stOf 109 (z1 ++ [(9, marksV z), (10, .int .i64 (↑i : Int)), (11, .int .i64 (↑I : Int)), (12, .int .i64 (↑K : Int)), (20, .bool false), (35, .bool false), (53, .int .u8 (a3.tmod (4 : Int))), (63, .bool true), (101, .bool true), (102, .bool true), (103, .cnd true (marksV z)), (104, .cnd true (.int .i64 (chkL z))), (105, .cnd true (marksV z)), (106, .cnd true (.int .i64 (chkL z)))]) [Blk.dead]) (by kernel_rfl) (by kernel_rfl) (by kernel_rfl) (by kernel_rfl) (by kernel_rfl) (true = true) (by kernel_rfl) (by first | exact fun h => h | (intro h; exact by kernel_rfl) | (intro h; simp_all; done)) (fun hg => (refCheck_v z hz )) ?_
          refine N_run 3 (((true == true) = true → true = true) ∧ ((true == true) = true → true = true) ∧ (true = true → (true == true) = true)) [] (stOf 109 [(0, .slv ns.length 2 (flatA encS ns)), (1, .int .u8 a1), (2, .int .u8 a2), (3, .int .u8 a3), (8, .bool (bif true then chkL z == chkL z else false)), (9, marksV z), (10, .int .i64 (↑i : Int)), (11, .int .i64 (↑I : Int)), (12, .int .i64 (↑K : Int)), (20, .bool false), (35, .bool false), (53, .int .u8 (a3.tmod (4 : Int))), (63, .bool true), (101, .bool true), (102, .bool true), (103, .cnd true (marksV z)), (104, .cnd true (.int .i64 (chkL z))), (105, .cnd true (marksV z)), (106, .cnd true (.int .i64 (chkL z))), (107, .cnd true (.bool (chkL z == chkL z))), (108, .bool (bif true then chkL z == chkL z else false))] [Blk.dead]) (by exact ⟨fun h => h, fun h => h, fun h => h⟩) ?_
          refine n_set 8 (AV.bool (bif true then chkL z == chkL z else false)) (AV.bool true) (by kernel_rfl) (by rw [hcz] <;> rfl) ?_
          refine n_set 107 (AV.cnd true (AV.bool (chkL z == chkL z))) (AV.cnd true (AV.bool true)) (by kernel_rfl) (by rw [hcz] <;> rfl) ?_
          refine n_set 108 (AV.bool (bif true then chkL z == chkL z else false)) (AV.bool true) (by kernel_rfl) (by rw [hcz] <;> rfl) ?_
          refine N_sel [0, 1, 2, 3, 8, 9, 10, 11, 12, 20, 35, 53, 63, 79, 89] (stOf 109 [(0, .slv ns.length 2 (flatA encS ns)), (1, .int .u8 a1), (2, .int .u8 a2), (3, .int .u8 a3), (8, .bool true), (9, marksV z), (10, .int .i64 (↑i : Int)), (11, .int .i64 (↑I : Int)), (12, .int .i64 (↑K : Int)), (20, .bool false), (35, .bool false), (53, .int .u8 (a3.tmod (4 : Int))), (63, .bool true)] [Blk.dead]) ?_
          refine k_then ?_
          refine q_ret (by kernel_rfl) ?_
          refine k_fin (True) (AV.bool true) [] [] (AV.bool true) (by kernel_rfl) (by kernel_rfl) (by kernel_rfl) trivial (keep_nil _) ?_
          exact ⟨rfl, rfl⟩
        · rw [Bool.not_eq_true] at h0
          by_cases h1 : (a3.tmod 4 == 1) = true
          · obtain ⟨A, B, hA, hmid, hset⟩ := mid_of l I hIl
            have hoff : ∀ k, 0 + (I : Int).toNat * 10 + k = A.length + k := fun k => by rw [hA]; simp
            generalize hv : IntKind.i64.wrap (IntKind.i64.wrap (a2.tmod 3) - 1) = v
            refine Q_seq ?_
            refine Q_seq ?_
            refine Q_reg ?_
            refine N_run 5 (True) [5, 6, 7] (stOf 109 (z1 ++ [(9, .sl 0 0 l.length 10), (10, .int .i64 (↑i : Int)), (13, .int .i64 (↑i : Int)), (14, .slv ns.length 2 (flatA encS ns)), (15, .int .i64 (↑ns.length : Int)), (16, .bool (decide ((↑i : Int) < (↑ns.length : Int)))), (17, .bool (decide ((↑i : Int) < (↑ns.length : Int))))]) [.row 38 (flatA encM l)]) trivial ?_
            refine N_run 1 (True) [6, 7] (stOf 109 (z1 ++ [(9, .sl 0 0 l.length 10), (10, .int .i64 (↑i : Int)), (13, .int .i64 (↑i : Int)), (14, .slv ns.length 2 (flatA encS ns)), (15, .int .i64 (↑ns.length : Int)), (16, .bool (decide ((↑i : Int) < (↑ns.length : Int)))), (17, .bool (decide ((↑i : Int) < (↑ns.length : Int)))), (18, .cnd (decide ((↑i : Int) < (↑ns.length : Int)) == true) (.int .i64 (↑i : Int)))]) [.row 38 (flatA encM l)]) trivial ?_
            refine N_run 2 (((decide ((↑i : Int) < (↑ns.length : Int)) == true) = true → (decide ((↑i : Int) < (↑ns.length : Int)) == true) = true) ∧ (decide ((↑i : Int) < (↑ns.length : Int)) = true → (decide ((↑i : Int) < (↑ns.length : Int)) == true) = true)) [] (stOf 109 (z1 ++ [(9, .sl 0 0 l.length 10), (10, .int .i64 (↑i : Int)), (13, .int .i64 (↑i : Int)), (14, .slv ns.length 2 (flatA encS ns)), (15, .int .i64 (↑ns.length : Int)), (16, .bool (decide ((↑i : Int) < (↑ns.length : Int)))), (17, .bool (decide ((↑i : Int) < (↑ns.length : Int)))), (18, .cnd (decide ((↑i : Int) < (↑ns.length : Int)) == true) (.int .i64 (↑i : Int))), (19, .cnd (decide ((↑i : Int) < (↑ns.length : Int)) == true) (.bool (decide ((↑i : Int) < (20 : Int))))), (20, .bool (bif decide ((↑i : Int) < (↑ns.length : Int)) then decide ((↑i : Int) < (20 : Int)) else false))]) [.row 38 (flatA encM l)]) (by exact ⟨fun h => h, by (simp; done)⟩) ?_
            refine n_set 20 (AV.bool (bif decide ((↑i : Int) < (↑ns.length : Int)) then decide ((↑i : Int) < (20 : Int)) else false)) (AV.bool false) (by kernel_rfl) (by rw [hcc] <;> rfl) ?_
            refine N_sel [0, 1, 2, 3, 8, 9, 10, 11, 12, 20, 35, 53, 63, 79, 89] (stOf 109 (z1 ++ [(9, .sl 0 0 l.length 10), (10, .int .i64 (↑i : Int)), (20, .bool false)]) [.row 38 (flatA encM l)]) ?_
            refine k_then ?_
            refine q_no (by kernel_rfl) false (by kernel_rfl) rfl ?_
            refine q_exit (by kernel_rfl) 0 (by kernel_rfl) ?_
            refine k_thenx ?_
            refine k_loopx ?_
            refine k_blockx (by kernel_rfl) ?_
            refine k_then ?_
            refine Q_seq ?_
            refine Q_seq ?_
            refine Q_reg ?_
            refine N_run 3 (True) [] (stOf 109 (z1 ++ [(9, .sl 0 0 l.length 10), (10, .int .i64 (↑i : Int)), (20, .bool false), (33, .sl 0 0 l.length 10), (34, .int .i64 (↑l.length : Int)), (35, .bool ((↑l.length : Int) == (0 : Int)))]) [.row 38 (flatA encM l)]) trivial ?_
            refine n_set 35 (AV.bool ((↑l.length : Int) == (0 : Int))) (AV.bool false) (by kernel_rfl) (by rw [hl0'] <;> rfl) ?_
            refine N_sel [0, 1, 2, 3, 8, 9, 10, 11, 12, 20, 35, 53, 63, 79, 89] (stOf 109 (z1 ++ [(9, .sl 0 0 l.length 10), (10, .int .i64 (↑i : Int)), (20, .bool false), (35, .bool false)]) [.row 38 (flatA encM l)]) ?_
            refine k_then ?_
            refine q_no (by kernel_rfl) false (by kernel_rfl) rfl ?_
            refine q_skip (by kernel_rfl) ?_
            refine k_then ?_
            refine Q_seq ?_
            refine q_draw (by kernel_rfl) (by kernel_rfl) ?_
            refine d_takes [0, 1, 2, 3, 4] ((↑l.length : Int) ≠ (0 : Int)) 7 #[true, true, true, true, true, false, false, false, false, false, false, false] (stOf 109 (z1 ++ [(9, .sl 0 0 l.length 10), (10, .int .i64 (↑i : Int)), (20, .bool false), (35, .bool false), (42, .int .u8 a1), (43, .int .i64 (IntKind.i64.wrap a1)), (44, .sl 0 0 l.length 10), (45, .int .i64 (↑l.length : Int)), (46, .int .i64 ((IntKind.i64.wrap a1).tmod (↑l.length : Int)))]) [.row 38 (flatA encM l)]) (by kernel_rfl) (by kernel_rfl) (by kernel_rfl) (by exact by omega) ?_
            refine d_set 43 (AV.int .i64 (IntKind.i64.wrap a1)) (AV.int .i64 a1) (by kernel_rfl) (by rw [wrap_i64 (e := a1) (by omega) (by omega)]) ?_
            refine d_set 46 (AV.int .i64 ((IntKind.i64.wrap a1).tmod (↑l.length : Int))) (AV.int .i64 (a1.tmod (↑l.length : Int))) (by kernel_rfl) (by rw [wrap_i64 (e := a1) (by omega) (by omega)]) ?_
            refine d_set 46 (AV.int .i64 (a1.tmod (↑l.length : Int))) (AV.int .i64 (↑I : Int)) (by kernel_rfl) (by rw [hI] <;> rfl) ?_
            refine d_takes [5, 6, 7, 8, 9] ((↑l.length : Int) ≠ (0 : Int)) 2 #[true, true, true, true, true, true, true, true, true, true, false, false] (stOf 109 (z1 ++ [(9, .sl 0 0 l.length 10), (10, .int .i64 (↑i : Int)), (20, .bool false), (35, .bool false), (42, .int .u8 a1), (43, .int .i64 a1), (44, .sl 0 0 l.length 10), (45, .int .i64 (↑l.length : Int)), (46, .int .i64 (↑I : Int)), (47, .int .u8 a2), (48, .int .i64 (IntKind.i64.wrap a2)), (49, .sl 0 0 l.length 10), (50, .int .i64 (↑l.length : Int)), (51, .int .i64 ((IntKind.i64.wrap a2).tmod (↑l.length : Int)))]) [.row 38 (flatA encM l)]) (by kernel_rfl) (by kernel_rfl) (by kernel_rfl) (by exact by omega) ?_
            refine d_set 48 (AV.int .i64 (IntKind.i64.wrap a2)) (AV.int .i64 a2) (by kernel_rfl) (by rw [wrap_i64 (e := a2) (by omega) (by omega)]) ?_
            refine d_set 51 (AV.int .i64 ((IntKind.i64.wrap a2).tmod (↑l.length : Int))) (AV.int .i64 (a2.tmod (↑l.length : Int))) (by kernel_rfl) (by rw [wrap_i64 (e := a2) (by omega) (by omega)]) ?_
            refine d_set 51 (AV.int .i64 (a2.tmod (↑l.length : Int))) (AV.int .i64 (↑K : Int)) (by kernel_rfl) (by rw [hK] <;> rfl) ?_
            refine d_takes [10, 11] (True) 0 #[true, true, true, true, true, true, true, true, true, true, true, true] (stOf 109 (z1 ++ [(9, .sl 0 0 l.length 10), (10, .int .i64 (↑i : Int)), (11, .int .i64 (↑I : Int)), (12, .int .i64 (↑K : Int)), (20, .bool false), (35, .bool false), (42, .int .u8 a1), (43, .int .i64 a1), (44, .sl 0 0 l.length 10), (45, .int .i64 (↑l.length : Int)), (46, .int .i64 (↑I : Int)), (47, .int .u8 a2), (48, .int .i64 a2), (49, .sl 0 0 l.length 10), (50, .int .i64 (↑l.length : Int)), (51, .int .i64 (↑K : Int))]) [.row 38 (flatA encM l)]) (by kernel_rfl) (by kernel_rfl) (by kernel_rfl) trivial ?_
            refine d_done [0, 1, 2, 3, 8, 9, 10, 11, 12, 20, 35, 53, 63, 79, 89] (stOf 109 (z1 ++ [(9, .sl 0 0 l.length 10), (10, .int .i64 (↑i : Int)), (11, .int .i64 (↑I : Int)), (12, .int .i64 (↑K : Int)), (20, .bool false), (35, .bool false)]) [.row 38 (flatA encM l)]) (by kernel_rfl) (by kernel_rfl) ?_
            refine k_then ?_
            refine Q_seq ?_
            refine Q_seq ?_
            refine Q_reg ?_
            refine N_run 2 ((4 : Int) ≠ (0 : Int)) [] (stOf 109 (z1 ++ [(9, .sl 0 0 l.length 10), (10, .int .i64 (↑i : Int)), (11, .int .i64 (↑I : Int)), (12, .int .i64 (↑K : Int)), (20, .bool false), (35, .bool false), (52, .int .u8 a3), (53, .int .u8 (a3.tmod (4 : Int)))]) [.row 38 (flatA encM l)]) (by exact by omega) ?_
            refine N_sel [0, 1, 2, 3, 8, 9, 10, 11, 12, 20, 35, 53, 63, 79, 89] (stOf 109 (z1 ++ [(9, .sl 0 0 l.length 10), (10, .int .i64 (↑i : Int)), (11, .int .i64 (↑I : Int)), (12, .int .i64 (↑K : Int)), (20, .bool false), (35, .bool false), (53, .int .u8 (a3.tmod (4 : Int)))]) [.row 38 (flatA encM l)]) ?_
            refine k_then ?_
            refine q_block (by kernel_rfl) ?_
            refine Q_seq ?_
            refine Q_reg ?_
            refine N_run 2 (True) [] (stOf 109 (z1 ++ [(9, .sl 0 0 l.length 10), (10, .int .i64 (↑i : Int)), (11, .int .i64 (↑I : Int)), (12, .int .i64 (↑K : Int)), (20, .bool false), (35, .bool false), (53, .int .u8 (a3.tmod (4 : Int))), (63, .bool (a3.tmod (4 : Int) == (0 : Int))), (64, .bool (a3.tmod (4 : Int) == (0 : Int)))]) [.row 38 (flatA encM l)]) trivial ?_
            refine n_set 63 (AV.bool (a3.tmod (4 : Int) == (0 : Int))) (AV.bool false) (by kernel_rfl) (by rw [h0] <;> rfl) ?_
            refine n_set 64 (AV.bool (a3.tmod (4 : Int) == (0 : Int))) (AV.bool false) (by kernel_rfl) (by rw [h0] <;> rfl) ?_
            refine N_sel [0, 1, 2, 3, 8, 9, 10, 11, 12, 20, 35, 53, 63, 79, 89] (stOf 109 (z1 ++ [(9, .sl 0 0 l.length 10), (10, .int .i64 (↑i : Int)), (11, .int .i64 (↑I : Int)), (12, .int .i64 (↑K : Int)), (20, .bool false), (35, .bool false), (53, .int .u8 (a3.tmod (4 : Int))), (63, .bool false)]) [.row 38 (flatA encM l)]) ?_
            refine k_then ?_
            refine q_no (by kernel_rfl) false (by kernel_rfl) rfl ?_
            refine Q_seq ?_
            refine Q_reg ?_
            refine N_run 2 (True) [] (stOf 109 (z1 ++ [(9, .sl 0 0 l.length 10), (10, .int .i64 (↑i : Int)), (11, .int .i64 (↑I : Int)), (12, .int .i64 (↑K : Int)), (20, .bool false), (35, .bool false), (53, .int .u8 (a3.tmod (4 : Int))), (63, .bool false), (79, .bool (a3.tmod (4 : Int) == (1 : Int))), (80, .bool (a3.tmod (4 : Int) == (1 : Int)))]) [.row 38 (flatA encM l)]) trivial ?_
            refine n_set 79 (AV.bool (a3.tmod (4 : Int) == (1 : Int))) (AV.bool true) (by kernel_rfl) (by rw [h1] <;> rfl) ?_
            refine n_set 80 (AV.bool (a3.tmod (4 : Int) == (1 : Int))) (AV.bool true) (by kernel_rfl) (by rw [h1] <;> rfl) ?_
            refine N_sel [0, 1, 2, 3, 8, 9, 10, 11, 12, 20, 35, 53, 63, 79, 89] (stOf 109 (z1 ++ [(9, .sl 0 0 l.length 10), (10, .int .i64 (↑i : Int)), (11, .int .i64 (↑I : Int)), (12, .int .i64 (↑K : Int)), (20, .bool false), (35, .bool false), (53, .int .u8 (a3.tmod (4 : Int))), (63, .bool false), (79, .bool true)]) [.row 38 (flatA encM l)]) ?_
            refine k_then ?_
            refine q_yes (by kernel_rfl) true (by kernel_rfl) rfl ?_
            refine Q_reg ?_
            refine N_run 5 ((3 : Int) ≠ (0 : Int)) [5, 6, 7, 8] (stOf 109 (z1 ++ [(9, .sl 0 0 l.length 10), (10, .int .i64 (↑i : Int)), (11, .int .i64 (↑I : Int)), (12, .int .i64 (↑K : Int)), (20, .bool false), (35, .bool false), (53, .int .u8 (a3.tmod (4 : Int))), (63, .bool false), (79, .bool true), (81, .sl 0 0 l.length 10), (82, .int .i64 (↑I : Int)), (83, .int .u8 a2), (84, .int .u8 (a2.tmod (3 : Int))), (85, .int .i64 (IntKind.i64.wrap (a2.tmod (3 : Int))))]) [.row 38 (flatA encM l)]) (by exact by omega) ?_
            refine N_run 1 (True) [6, 7, 8] (stOf 109 (z1 ++ [(9, .sl 0 0 l.length 10), (10, .int .i64 (↑i : Int)), (11, .int .i64 (↑I : Int)), (12, .int .i64 (↑K : Int)), (20, .bool false), (35, .bool false), (53, .int .u8 (a3.tmod (4 : Int))), (63, .bool false), (79, .bool true), (81, .sl 0 0 l.length 10), (82, .int .i64 (↑I : Int)), (83, .int .u8 a2), (84, .int .u8 (a2.tmod (3 : Int))), (85, .int .i64 (IntKind.i64.wrap (a2.tmod (3 : Int)))), (86, .int .i64 (IntKind.i64.wrap (IntKind.i64.wrap (a2.tmod (3 : Int)) - (1 : Int))))]) [.row 38 (flatA encM l)]) trivial ?_
            refine n_set 86 (AV.int .i64 (IntKind.i64.wrap (IntKind.i64.wrap (a2.tmod (3 : Int)) - (1 : Int)))) (AV.int .i64 v) (by kernel_rfl) (by rw [hv] <;> rfl) ?_
            refine N_run 1 ((0 : Int) ≤ (↑I : Int) ∧ (↑I : Int) < (↑l.length : Int)) [7, 8] (stOf 109 (z1 ++ [(9, .sl 0 0 l.length 10), (10, .int .i64 (↑i : Int)), (11, .int .i64 (↑I : Int)), (12, .int .i64 (↑K : Int)), (20, .bool false), (35, .bool false), (53, .int .u8 (a3.tmod (4 : Int))), (63, .bool false), (79, .bool true), (81, .sl 0 0 l.length 10), (82, .int .i64 (↑I : Int)), (83, .int .u8 a2), (84, .int .u8 (a2.tmod (3 : Int))), (85, .int .i64 (IntKind.i64.wrap (a2.tmod (3 : Int)))), (86, .int .i64 v), (87, .ptr 0 (0 + (↑I : Int).toNat * 10))]) [.row 38 (flatA encM l)]) (by exact ⟨by omega, by omega⟩) ?_
            refine N_run 1 (True) [8] (stOf 109 (z1 ++ [(9, .sl 0 0 l.length 10), (10, .int .i64 (↑i : Int)), (11, .int .i64 (↑I : Int)), (12, .int .i64 (↑K : Int)), (20, .bool false), (35, .bool false), (53, .int .u8 (a3.tmod (4 : Int))), (63, .bool false), (79, .bool true), (81, .sl 0 0 l.length 10), (82, .int .i64 (↑I : Int)), (83, .int .u8 a2), (84, .int .u8 (a2.tmod (3 : Int))), (85, .int .i64 (IntKind.i64.wrap (a2.tmod (3 : Int)))), (86, .int .i64 v), (87, .ptr 0 (0 + (↑I : Int).toNat * 10)), (88, .ptr 0 (0 + (↑I : Int).toNat * 10 + 2))]) [.row 38 (flatA encM l)]) trivial ?_
            refine n_asH [Blk.row 38 (A ++ (encM (l.getD I mD) ++ B))] (by show [_] = _; rw [hmid]) ?_
            refine n_storeR (t' := 38) 0 2 A (encM (l.getD I mD)) B [.int .i64 v] (encM { l.getD I mD with ver := v }) 3 (.tmp 88) (.tmp 86) (0 + (I : Int).toNat * 10 + 2) _ (by kernel_rfl) (by kernel_rfl) (by kernel_rfl) (by kernel_rfl) (hoff 2) (by kernel_rfl) (by kernel_rfl) (by kernel_rfl) (by kernel_rfl) rfl ?_
            have hz : OkL (setL l I { l.getD I mD with ver := v }) := setL_ok l I _ hIl hl (getD_all hl2 hIl mD)
            have hzl := setL_len l I { l.getD I mD with ver := v } hIl
            have hzs := hset { l.getD I mD with ver := v }
            generalize setL l I { l.getD I mD with ver := v } = z at hz hzl hzs
            refine n_asH [Blk.row 38 (flatA encM z)] (by show [_] = _; rw [hzs]) ?_
            refine n_frzN 9 0 l.length z _ hzl.symm (by kernel_rfl) (by kernel_rfl) rfl ?_
            have hcz : (chkL z == chkL z) = true := beq_self_eq_true _
            refine N_sel [0, 1, 2, 3, 8, 9, 10, 11, 12, 20, 35, 53, 63, 79, 89] (stOf 109 (z1 ++ [(9, marksV z), (10, .int .i64 (↑i : Int)), (11, .int .i64 (↑I : Int)), (12, .int .i64 (↑K : Int)), (20, .bool false), (35, .bool false), (53, .int .u8 (a3.tmod (4 : Int))), (63, .bool false), (79, .bool true)]) [Blk.dead]) ?_
            refine k_block ?_
            refine k_then ?_
            refine Q_seq ?_
            refine Q_reg ?_
            refine n_callp 16 [] (AV.bool true) (stOf 109 (z1 ++ [(9, marksV z), (10, .int .i64 (↑i : Int)), (11, .int .i64 (↑I : Int)), (12, .int .i64 (↑K : Int)), (20, .bool false), (35, .bool false), (53, .int .u8 (a3.tmod (4 : Int))), (63, .bool false), (79, .bool true), (101, .bool true)]) [Blk.dead]) (by kernel_rfl) (by kernel_rfl) (by kernel_rfl) (by kernel_rfl) (awake_v ) ?_
            refine N_run 1 (True) [2, 3, 4, 5, 6, 7, 8] (stOf 109 (z1 ++ [(9, marksV z), (10, .int .i64 (↑i : Int)), (11, .int .i64 (↑I : Int)), (12, .int .i64 (↑K : Int)), (20, .bool false), (35, .bool false), (53, .int .u8 (a3.tmod (4 : Int))), (63, .bool false), (79, .bool true), (101, .bool true), (102, .bool true)]) [Blk.dead]) trivial ?_
            refine N_run 1 (True) [3, 4, 5, 6, 7, 8] (stOf 109 (z1 ++ [(9, marksV z), (10, .int .i64 (↑i : Int)), (11, .int .i64 (↑I : Int)), (12, .int .i64 (↑K : Int)), (20, .bool false), (35, .bool false), (53, .int .u8 (a3.tmod (4 : Int))), (63, .bool false), (79, .bool true), (101, .bool true), (102, .bool true), (103, .cnd true (marksV z))]) [Blk.dead]) trivial ?_
            refine n_callg 10 [marksV z] (AV.int .i64 (chkL z)) (true) (stOf 109 (z1 ++ [(9, marksV z), (10, .int .i64 (↑i : Int)), (11, .int .i64 (↑I : Int)), (12, .int .i64 (↑K : Int)), (20, .bool false), (35, .bool false), (53, .int .u8 (a3.tmod (4 : Int))), (63, .bool false), (79, .bool true), (101, .bool true), (102, .bool true), (103, .cnd true (marksV z)), (104, .cnd true (.int .i64 (chkL z)))]) [Blk.dead]) (by kernel_rfl) (by kernel_rfl) (by kernel_rfl) (by kernel_rfl) (by kernel_rfl) (true = true) (by kernel_rfl) (by first | exact fun h => h | (intro h; exact by kernel_rfl) | (intro h; simp_all; done)) (fun hg => (check_v z hz )) ?_
            refine N_run 1 (True) [5, 6, 7, 8] (stOf 109 (z1 ++ [(9, marksV z), (10, .int .i64 (↑i : Int)), (11, .int .i64 (↑I : Int)), (12, .int .i64 (↑K : Int)), (20, .bool false), (35, .bool false), (53, .int .u8 (a3.tmod (4 : Int))), (63, .bool false), (79, .bool true), (101, .bool true), (102, .bool true), (103, .cnd true (marksV z)), (104, .cnd true (.int .i64 (chkL z))), (105, .cnd true (marksV z))]) [Blk.dead]) trivial ?_
            refine n_callg 22 [marksV z] (AV.int .i64 (chkL z)) (true) (stOf 109 (z1 ++ [(9, marksV z), (10, .int .i64 (↑i : Int)), (11, .int .i64 (↑I : Int)), (12, .int .i64 (↑K : Int)), (20, .bool false), (35, .bool false), (53, .int .u8 (a3.tmod (4 : Int))), (63, .bool false), (79, .bool true), (101, .bool true), (102, .bool true), (103, .cnd true (marksV z)), (104, .cnd true (.int .i64 (chkL z))), (105, .cnd true (marksV z)), (106, .cnd true (.int .i64 (chkL z)))]) [Blk.dead]) (by kernel_rfl) (by kernel_rfl) (by kernel_rfl) (by kernel_rfl) (by kernel_rfl) (true = true) (by kernel_rfl) (by first | exact fun h => h | (intro h; exact by kernel_rfl) | (intro h; simp_all; done)) (fun hg => (refCheck_v z hz )) ?_
            refine N_run 3 (((true == true) = true → true = true) ∧ ((true == true) = true → true = true) ∧ (true = true → (true == true) = true)) [] (stOf 109 [(0, .slv ns.length 2 (flatA encS ns)), (1, .int .u8 a1), (2, .int .u8 a2), (3, .int .u8 a3), (8, .bool (bif true then chkL z == chkL z else false)), (9, marksV z), (10, .int .i64 (↑i : Int)), (11, .int .i64 (↑I : Int)), (12, .int .i64 (↑K : Int)), (20, .bool false), (35, .bool false), (53, .int .u8 (a3.tmod (4 : Int))), (63, .bool false), (79, .bool true), (101, .bool true), (102, .bool true), (103, .cnd true (marksV z)), (104, .cnd true (.int .i64 (chkL z))), (105, .cnd true (marksV z)), (106, .cnd true (.int .i64 (chkL z))), (107, .cnd true (.bool (chkL z == chkL z))), (108, .bool (bif true then chkL z == chkL z else false))] [Blk.dead]) (by exact ⟨fun h => h, fun h => h, fun h => h⟩) ?_
            refine n_set 8 (AV.bool (bif true then chkL z == chkL z else false)) (AV.bool true) (by kernel_rfl) (by rw [hcz] <;> rfl) ?_
            refine n_set 107 (AV.cnd true (AV.bool (chkL z == chkL z))) (AV.cnd true (AV.bool true)) (by kernel_rfl) (by rw [hcz] <;> rfl) ?_
            refine n_set 108 (AV.bool (bif true then chkL z == chkL z else false)) (AV.bool true) (by kernel_rfl) (by rw [hcz] <;> rfl) ?_
            refine N_sel [0, 1, 2, 3, 8, 9, 10, 11, 12, 20, 35, 53, 63, 79, 89] (stOf 109 [(0, .slv ns.length 2 (flatA encS ns)), (1, .int .u8 a1), (2, .int .u8 a2), (3, .int .u8 a3), (8, .bool true), (9, marksV z), (10, .int .i64 (↑i : Int)), (11, .int .i64 (↑I : Int)), (12, .int .i64 (↑K : Int)), (20, .bool false), (35, .bool false), (53, .int .u8 (a3.tmod (4 : Int))), (63, .bool false), (79, .bool true)] [Blk.dead]) ?_
            refine k_then ?_
            refine q_ret (by kernel_rfl) ?_
            refine k_fin (True) (AV.bool true) [] [] (AV.bool true) (by kernel_rfl) (by kernel_rfl) (by kernel_rfl) trivial (keep_nil _) ?_
            exact ⟨rfl, rfl⟩
          · rw [Bool.not_eq_true] at h1
            by_cases h2 : (a3.tmod 4 == 2) = true
            · skip
              obtain ⟨A, B, hA, hmid, hset⟩ := mid_of l I hIl
              have hoff : ∀ k, 0 + (I : Int).toNat * 10 + k = A.length + k := fun k => by rw [hA]; simp
              have hgr := grade_v a2 ht.1
              generalize hgg : gOf a2 = gg at hgr
              refine Q_seq ?_
              refine Q_seq ?_
              refine Q_reg ?_
              refine N_run 5 (True) [5, 6, 7] (stOf 109 (z1 ++ [(9, .sl 0 0 l.length 10), (10, .int .i64 (↑i : Int)), (13, .int .i64 (↑i : Int)), (14, .slv ns.length 2 (flatA encS ns)), (15, .int .i64 (↑ns.length : Int)), (16, .bool (decide ((↑i : Int) < (↑ns.length : Int)))), (17, .bool (decide ((↑i : Int) < (↑ns.length : Int))))]) [.row 38 (flatA encM l)]) trivial ?_
              refine N_run 1 (True) [6, 7] (stOf 109 (z1 ++ [(9, .sl 0 0 l.length 10), (10, .int .i64 (↑i : Int)), (13, .int .i64 (↑i : Int)), (14, .slv ns.length 2 (flatA encS ns)), (15, .int .i64 (↑ns.length : Int)), (16, .bool (decide ((↑i : Int) < (↑ns.length : Int)))), (17, .bool (decide ((↑i : Int) < (↑ns.length : Int)))), (18, .cnd (decide ((↑i : Int) < (↑ns.length : Int)) == true) (.int .i64 (↑i : Int)))]) [.row 38 (flatA encM l)]) trivial ?_
              refine N_run 2 (((decide ((↑i : Int) < (↑ns.length : Int)) == true) = true → (decide ((↑i : Int) < (↑ns.length : Int)) == true) = true) ∧ (decide ((↑i : Int) < (↑ns.length : Int)) = true → (decide ((↑i : Int) < (↑ns.length : Int)) == true) = true)) [] (stOf 109 (z1 ++ [(9, .sl 0 0 l.length 10), (10, .int .i64 (↑i : Int)), (13, .int .i64 (↑i : Int)), (14, .slv ns.length 2 (flatA encS ns)), (15, .int .i64 (↑ns.length : Int)), (16, .bool (decide ((↑i : Int) < (↑ns.length : Int)))), (17, .bool (decide ((↑i : Int) < (↑ns.length : Int)))), (18, .cnd (decide ((↑i : Int) < (↑ns.length : Int)) == true) (.int .i64 (↑i : Int))), (19, .cnd (decide ((↑i : Int) < (↑ns.length : Int)) == true) (.bool (decide ((↑i : Int) < (20 : Int))))), (20, .bool (bif decide ((↑i : Int) < (↑ns.length : Int)) then decide ((↑i : Int) < (20 : Int)) else false))]) [.row 38 (flatA encM l)]) (by exact ⟨fun h => h, by (simp; done)⟩) ?_
              refine n_set 20 (AV.bool (bif decide ((↑i : Int) < (↑ns.length : Int)) then decide ((↑i : Int) < (20 : Int)) else false)) (AV.bool false) (by kernel_rfl) (by rw [hcc] <;> rfl) ?_
              refine N_sel [0, 1, 2, 3, 8, 9, 10, 11, 12, 20, 35, 53, 63, 79, 89] (stOf 109 (z1 ++ [(9, .sl 0 0 l.length 10), (10, .int .i64 (↑i : Int)), (20, .bool false)]) [.row 38 (flatA encM l)]) ?_
              refine k_then ?_
              refine q_no (by kernel_rfl) false (by kernel_rfl) rfl ?_
              refine q_exit (by kernel_rfl) 0 (by kernel_rfl) ?_
              refine k_thenx ?_
              refine k_loopx ?_
              refine k_blockx (by kernel_rfl) ?_
              refine k_then ?_
              refine Q_seq ?_
              refine Q_seq ?_
              refine Q_reg ?_
              refine N_run 3 (True) [] (stOf 109 (z1 ++ [(9, .sl 0 0 l.length 10), (10, .int .i64 (↑i : Int)), (20, .bool false), (33, .sl 0 0 l.length 10), (34, .int .i64 (↑l.length : Int)), (35, .bool ((↑l.length : Int) == (0 : Int)))]) [.row 38 (flatA encM l)]) trivial ?_
              refine n_set 35 (AV.bool ((↑l.length : Int) == (0 : Int))) (AV.bool false) (by kernel_rfl) (by rw [hl0'] <;> rfl) ?_
              refine N_sel [0, 1, 2, 3, 8, 9, 10, 11, 12, 20, 35, 53, 63, 79, 89] (stOf 109 (z1 ++ [(9, .sl 0 0 l.length 10), (10, .int .i64 (↑i : Int)), (20, .bool false), (35, .bool false)]) [.row 38 (flatA encM l)]) ?_
              refine k_then ?_
              refine q_no (by kernel_rfl) false (by kernel_rfl) rfl ?_
              refine q_skip (by kernel_rfl) ?_
              refine k_then ?_
              refine Q_seq ?_
              refine q_draw (by kernel_rfl) (by kernel_rfl) ?_
              refine d_takes [0, 1, 2, 3, 4] ((↑l.length : Int) ≠ (0 : Int)) 7 #[true, true, true, true, true, false, false, false, false, false, false, false] (stOf 109 (z1 ++ [(9, .sl 0 0 l.length 10), (10, .int .i64 (↑i : Int)), (20, .bool false), (35, .bool false), (42, .int .u8 a1), (43, .int .i64 (IntKind.i64.wrap a1)), (44, .sl 0 0 l.length 10), (45, .int .i64 (↑l.length : Int)), (46, .int .i64 ((IntKind.i64.wrap a1).tmod (↑l.length : Int)))]) [.row 38 (flatA encM l)]) (by kernel_rfl) (by kernel_rfl) (by kernel_rfl) (by exact by omega) ?_
              refine d_set 43 (AV.int .i64 (IntKind.i64.wrap a1)) (AV.int .i64 a1) (by kernel_rfl) (by rw [wrap_i64 (e := a1) (by omega) (by omega)]) ?_
              refine d_set 46 (AV.int .i64 ((IntKind.i64.wrap a1).tmod (↑l.length : Int))) (AV.int .i64 (a1.tmod (↑l.length : Int))) (by kernel_rfl) (by rw [wrap_i64 (e := a1) (by omega) (by omega)]) ?_
              refine d_set 46 (AV.int .i64 (a1.tmod (↑l.length : Int))) (AV.int .i64 (↑I : Int)) (by kernel_rfl) (by rw [hI] <;> rfl) ?_
              refine d_takes [5, 6, 7, 8, 9] ((↑l.length : Int) ≠ (0 : Int)) 2 #[true, true, true, true, true, true, true, true, true, true, false, false] (stOf 109 (z1 ++ [(9, .sl 0 0 l.length 10), (10, .int .i64 (↑i : Int)), (20, .bool false), (35, .bool false), (42, .int .u8 a1), (43, .int .i64 a1), (44, .sl 0 0 l.length 10), (45, .int .i64 (↑l.length : Int)), (46, .int .i64 (↑I : Int)), (47, .int .u8 a2), (48, .int .i64 (IntKind.i64.wrap a2)), (49, .sl 0 0 l.length 10), (50, .int .i64 (↑l.length : Int)), (51, .int .i64 ((IntKind.i64.wrap a2).tmod (↑l.length : Int)))]) [.row 38 (flatA encM l)]) (by kernel_rfl) (by kernel_rfl) (by kernel_rfl) (by exact by omega) ?_
              refine d_set 48 (AV.int .i64 (IntKind.i64.wrap a2)) (AV.int .i64 a2) (by kernel_rfl) (by rw [wrap_i64 (e := a2) (by omega) (by omega)]) ?_
              refine d_set 51 (AV.int .i64 ((IntKind.i64.wrap a2).tmod (↑l.length : Int))) (AV.int .i64 (a2.tmod (↑l.length : Int))) (by kernel_rfl) (by rw [wrap_i64 (e := a2) (by omega) (by omega)]) ?_
              refine d_set 51 (AV.int .i64 (a2.tmod (↑l.length : Int))) (AV.int .i64 (↑K : Int)) (by kernel_rfl) (by rw [hK] <;> rfl) ?_
              refine d_takes [10, 11] (True) 0 #[true, true, true, true, true, true, true, true, true, true, true, true] (stOf 109 (z1 ++ [(9, .sl 0 0 l.length 10), (10, .int .i64 (↑i : Int)), (11, .int .i64 (↑I : Int)), (12, .int .i64 (↑K : Int)), (20, .bool false), (35, .bool false), (42, .int .u8 a1), (43, .int .i64 a1), (44, .sl 0 0 l.length 10), (45, .int .i64 (↑l.length : Int)), (46, .int .i64 (↑I : Int)), (47, .int .u8 a2), (48, .int .i64 a2), (49, .sl 0 0 l.length 10), (50, .int .i64 (↑l.length : Int)), (51, .int .i64 (↑K : Int))]) [.row 38 (flatA encM l)]) (by kernel_rfl) (by kernel_rfl) (by kernel_rfl) trivial ?_
              refine d_done [0, 1, 2, 3, 8, 9, 10, 11, 12, 20, 35, 53, 63, 79, 89] (stOf 109 (z1 ++ [(9, .sl 0 0 l.length 10), (10, .int .i64 (↑i : Int)), (11, .int .i64 (↑I : Int)), (12, .int .i64 (↑K : Int)), (20, .bool false), (35, .bool false)]) [.row 38 (flatA encM l)]) (by kernel_rfl) (by kernel_rfl) ?_
              refine k_then ?_
              refine Q_seq ?_
              refine Q_seq ?_
              refine Q_reg ?_
              refine N_run 2 ((4 : Int) ≠ (0 : Int)) [] (stOf 109 (z1 ++ [(9, .sl 0 0 l.length 10), (10, .int .i64 (↑i : Int)), (11, .int .i64 (↑I : Int)), (12, .int .i64 (↑K : Int)), (20, .bool false), (35, .bool false), (52, .int .u8 a3), (53, .int .u8 (a3.tmod (4 : Int)))]) [.row 38 (flatA encM l)]) (by exact by omega) ?_
              refine N_sel [0, 1, 2, 3, 8, 9, 10, 11, 12, 20, 35, 53, 63, 79, 89] (stOf 109 (z1 ++ [(9, .sl 0 0 l.length 10), (10, .int .i64 (↑i : Int)), (11, .int .i64 (↑I : Int)), (12, .int .i64 (↑K : Int)), (20, .bool false), (35, .bool false), (53, .int .u8 (a3.tmod (4 : Int)))]) [.row 38 (flatA encM l)]) ?_
              refine k_then ?_
              refine q_block (by kernel_rfl) ?_
              refine Q_seq ?_
              refine Q_reg ?_
              refine N_run 2 (True) [] (stOf 109 (z1 ++ [(9, .sl 0 0 l.length 10), (10, .int .i64 (↑i : Int)), (11, .int .i64 (↑I : Int)), (12, .int .i64 (↑K : Int)), (20, .bool false), (35, .bool false), (53, .int .u8 (a3.tmod (4 : Int))), (63, .bool (a3.tmod (4 : Int) == (0 : Int))), (64, .bool (a3.tmod (4 : Int) == (0 : Int)))]) [.row 38 (flatA encM l)]) trivial ?_
              refine n_set 63 (AV.bool (a3.tmod (4 : Int) == (0 : Int))) (AV.bool false) (by kernel_rfl) (by rw [h0] <;> rfl) ?_
              refine n_set 64 (AV.bool (a3.tmod (4 : Int) == (0 : Int))) (AV.bool false) (by kernel_rfl) (by rw [h0] <;> rfl) ?_
              refine N_sel [0, 1, 2, 3, 8, 9, 10, 11, 12, 20, 35, 53, 63, 79, 89] (stOf 109 (z1 ++ [(9, .sl 0 0 l.length 10), (10, .int .i64 (↑i : Int)), (11, .int .i64 (↑I : Int)), (12, .int .i64 (↑K : Int)), (20, .bool false), (35, .bool false), (53, .int .u8 (a3.tmod (4 : Int))), (63, .bool false)]) [.row 38 (flatA encM l)]) ?_
              refine k_then ?_
              refine q_no (by kernel_rfl) false (by kernel_rfl) rfl ?_
              refine Q_seq ?_
              refine Q_reg ?_
              refine N_run 2 (True) [] (stOf 109 (z1 ++ [(9, .sl 0 0 l.length 10), (10, .int .i64 (↑i : Int)), (11, .int .i64 (↑I : Int)), (12, .int .i64 (↑K : Int)), (20, .bool false), (35, .bool false), (53, .int .u8 (a3.tmod (4 : Int))), (63, .bool false), (79, .bool (a3.tmod (4 : Int) == (1 : Int))), (80, .bool (a3.tmod (4 : Int) == (1 : Int)))]) [.row 38 (flatA encM l)]) trivial ?_
              refine n_set 79 (AV.bool (a3.tmod (4 : Int) == (1 : Int))) (AV.bool false) (by kernel_rfl) (by rw [h1] <;> rfl) ?_
              refine n_set 80 (AV.bool (a3.tmod (4 : Int) == (1 : Int))) (AV.bool false) (by kernel_rfl) (by rw [h1] <;> rfl) ?_
              refine N_sel [0, 1, 2, 3, 8, 9, 10, 11, 12, 20, 35, 53, 63, 79, 89] (stOf 109 (z1 ++ [(9, .sl 0 0 l.length 10), (10, .int .i64 (↑i : Int)), (11, .int .i64 (↑I : Int)), (12, .int .i64 (↑K : Int)), (20, .bool false), (35, .bool false), (53, .int .u8 (a3.tmod (4 : Int))), (63, .bool false), (79, .bool false)]) [.row 38 (flatA encM l)]) ?_
              refine k_then ?_
              refine q_no (by kernel_rfl) false (by kernel_rfl) rfl ?_
              refine Q_seq ?_
              refine Q_reg ?_
              refine N_run 2 (True) [] (stOf 109 (z1 ++ [(9, .sl 0 0 l.length 10), (10, .int .i64 (↑i : Int)), (11, .int .i64 (↑I : Int)), (12, .int .i64 (↑K : Int)), (20, .bool false), (35, .bool false), (53, .int .u8 (a3.tmod (4 : Int))), (63, .bool false), (79, .bool false), (89, .bool (a3.tmod (4 : Int) == (2 : Int))), (90, .bool (a3.tmod (4 : Int) == (2 : Int)))]) [.row 38 (flatA encM l)]) trivial ?_
              refine n_set 89 (AV.bool (a3.tmod (4 : Int) == (2 : Int))) (AV.bool true) (by kernel_rfl) (by rw [h2] <;> rfl) ?_
              refine n_set 90 (AV.bool (a3.tmod (4 : Int) == (2 : Int))) (AV.bool true) (by kernel_rfl) (by rw [h2] <;> rfl) ?_
              refine N_sel [0, 1, 2, 3, 8, 9, 10, 11, 12, 20, 35, 53, 63, 79, 89] (stOf 109 (z1 ++ [(9, .sl 0 0 l.length 10), (10, .int .i64 (↑i : Int)), (11, .int .i64 (↑I : Int)), (12, .int .i64 (↑K : Int)), (20, .bool false), (35, .bool false), (53, .int .u8 (a3.tmod (4 : Int))), (63, .bool false), (79, .bool false), (89, .bool true)]) [.row 38 (flatA encM l)]) ?_
              refine k_then ?_
              refine q_yes (by kernel_rfl) true (by kernel_rfl) rfl ?_
              refine Q_reg ?_
              refine N_run 5 (True) [5, 6, 7, 8, 9, 10, 11] (stOf 109 (z1 ++ [(9, .sl 0 0 l.length 10), (10, .int .i64 (↑i : Int)), (11, .int .i64 (↑I : Int)), (12, .int .i64 (↑K : Int)), (20, .bool false), (35, .bool false), (53, .int .u8 (a3.tmod (4 : Int))), (63, .bool false), (79, .bool false), (89, .bool true), (91, .sl 0 0 l.length 10), (92, .int .i64 (↑I : Int)), (93, .sl 0 0 l.length 10), (94, .int .i64 (↑I : Int)), (95, .int .u8 a2)]) [.row 38 (flatA encM l)]) trivial ?_
              refine n_callp 25 [AV.int .u8 a2] (AV.agg [AV.int .i64 gg.kind, AV.int .i64 gg.err, AV.str gg.path, AV.int .i64 gg.at', AV.int .i64 gg.score, AV.slv gg.verd.length 1 (List.map (AV.int .i64) gg.verd)]) (stOf 109 (z1 ++ [(9, .sl 0 0 l.length 10), (10, .int .i64 (↑i : Int)), (11, .int .i64 (↑I : Int)), (12, .int .i64 (↑K : Int)), (20, .bool false), (35, .bool false), (53, .int .u8 (a3.tmod (4 : Int))), (63, .bool false), (79, .bool false), (89, .bool true), (91, .sl 0 0 l.length 10), (92, .int .i64 (↑I : Int)), (93, .sl 0 0 l.length 10), (94, .int .i64 (↑I : Int)), (95, .int .u8 a2), (96, .agg [.int .i64 gg.kind, .int .i64 gg.err, .str gg.path, .int .i64 gg.at', .int .i64 gg.score, .slv gg.verd.length 1 (List.map (.int .i64) gg.verd)])]) [.row 38 (flatA encM l)]) (by kernel_rfl) (by kernel_rfl) (by kernel_rfl) (by kernel_rfl) (hgr ) ?_
              refine N_run 1 ((0 : Int) ≤ (↑I : Int) ∧ (↑I : Int) < (↑l.length : Int)) [7, 8, 9, 10, 11] (stOf 109 (z1 ++ [(9, .sl 0 0 l.length 10), (10, .int .i64 (↑i : Int)), (11, .int .i64 (↑I : Int)), (12, .int .i64 (↑K : Int)), (20, .bool false), (35, .bool false), (53, .int .u8 (a3.tmod (4 : Int))), (63, .bool false), (79, .bool false), (89, .bool true), (91, .sl 0 0 l.length 10), (92, .int .i64 (↑I : Int)), (93, .sl 0 0 l.length 10), (94, .int .i64 (↑I : Int)), (95, .int .u8 a2), (96, .agg [.int .i64 gg.kind, .int .i64 gg.err, .str gg.path, .int .i64 gg.at', .int .i64 gg.score, .slv gg.verd.length 1 (List.map (.int .i64) gg.verd)]), (97, .ptr 0 (0 + (↑I : Int).toNat * 10))]) [.row 38 (flatA encM l)]) (by exact ⟨by omega, by omega⟩) ?_
              refine N_run 1 (True) [8, 9, 10, 11] (stOf 109 (z1 ++ [(9, .sl 0 0 l.length 10), (10, .int .i64 (↑i : Int)), (11, .int .i64 (↑I : Int)), (12, .int .i64 (↑K : Int)), (20, .bool false), (35, .bool false), (53, .int .u8 (a3.tmod (4 : Int))), (63, .bool false), (79, .bool false), (89, .bool true), (91, .sl 0 0 l.length 10), (92, .int .i64 (↑I : Int)), (93, .sl 0 0 l.length 10), (94, .int .i64 (↑I : Int)), (95, .int .u8 a2), (96, .agg [.int .i64 gg.kind, .int .i64 gg.err, .str gg.path, .int .i64 gg.at', .int .i64 gg.score, .slv gg.verd.length 1 (List.map (.int .i64) gg.verd)]), (97, .ptr 0 (0 + (↑I : Int).toNat * 10)), (98, .ptr 0 (0 + (↑I : Int).toNat * 10 + 3))]) [.row 38 (flatA encM l)]) trivial ?_
              refine n_asH [Blk.row 38 (A ++ (encM (l.getD I mD) ++ B))] (by show [_] = _; rw [hmid]) ?_
              refine n_storeR (t' := 38) 0 3 A (encM (l.getD I mD)) B [.bool true] (encM { l.getD I mD with pend := true }) 4 (.tmp 98) (.const (.bool true)) (0 + (I : Int).toNat * 10 + 3) _ (by kernel_rfl) (by kernel_rfl) (by kernel_rfl) (by kernel_rfl) (hoff 3) (by kernel_rfl) (by kernel_rfl) (by kernel_rfl) (by kernel_rfl) rfl ?_
              refine N_run 1 ((0 : Int) ≤ (↑I : Int) ∧ (↑I : Int) < (↑l.length : Int)) [10, 11] (stOf 109 (z1 ++ [(9, .sl 0 0 l.length 10), (10, .int .i64 (↑i : Int)), (11, .int .i64 (↑I : Int)), (12, .int .i64 (↑K : Int)), (20, .bool false), (35, .bool false), (53, .int .u8 (a3.tmod (4 : Int))), (63, .bool false), (79, .bool false), (89, .bool true), (91, .sl 0 0 l.length 10), (92, .int .i64 (↑I : Int)), (93, .sl 0 0 l.length 10), (94, .int .i64 (↑I : Int)), (95, .int .u8 a2), (96, .agg [.int .i64 gg.kind, .int .i64 gg.err, .str gg.path, .int .i64 gg.at', .int .i64 gg.score, .slv gg.verd.length 1 (List.map (.int .i64) gg.verd)]), (97, .ptr 0 (0 + (↑I : Int).toNat * 10)), (98, .ptr 0 (0 + (↑I : Int).toNat * 10 + 3)), (99, .ptr 0 (0 + (↑I : Int).toNat * 10))]) [.row 38     (A ++       (encM           (let __src := l.getD I mD;           Mk.mk __src.st __src.tk __src.ver true __src.kind __src.err __src.path __src.at' __src.score __src.verd) ++         B))]) (by exact ⟨by omega, by omega⟩) ?_
              refine N_run 1 (True) [11] (stOf 109 (z1 ++ [(9, .sl 0 0 l.length 10), (10, .int .i64 (↑i : Int)), (11, .int .i64 (↑I : Int)), (12, .int .i64 (↑K : Int)), (20, .bool false), (35, .bool false), (53, .int .u8 (a3.tmod (4 : Int))), (63, .bool false), (79, .bool false), (89, .bool true), (91, .sl 0 0 l.length 10), (92, .int .i64 (↑I : Int)), (93, .sl 0 0 l.length 10), (94, .int .i64 (↑I : Int)), (95, .int .u8 a2), (96, .agg [.int .i64 gg.kind, .int .i64 gg.err, .str gg.path, .int .i64 gg.at', .int .i64 gg.score, .slv gg.verd.length 1 (List.map (.int .i64) gg.verd)]), (97, .ptr 0 (0 + (↑I : Int).toNat * 10)), (98, .ptr 0 (0 + (↑I : Int).toNat * 10 + 3)), (99, .ptr 0 (0 + (↑I : Int).toNat * 10)), (100, .ptr 0 (0 + (↑I : Int).toNat * 10 + 4))]) [.row 38     (A ++       (encM           (let __src := l.getD I mD;           Mk.mk __src.st __src.tk __src.ver true __src.kind __src.err __src.path __src.at' __src.score __src.verd) ++         B))]) trivial ?_
              refine n_storeR (t' := 38) 0 4 A (encM { l.getD I mD with pend := true }) B [.int .i64 gg.kind, .int .i64 gg.err, .str gg.path, .int .i64 gg.at', .int .i64 gg.score, intsV gg.verd] (encM (Mk.mk (l.getD I mD).st (l.getD I mD).tk (l.getD I mD).ver true gg.kind gg.err gg.path gg.at' gg.score gg.verd)) 36 (.tmp 100) (.tmp 96) (0 + (I : Int).toNat * 10 + 4) _ (by kernel_rfl) (by kernel_rfl) (by kernel_rfl) (by kernel_rfl) (hoff 4) (by kernel_rfl) (by kernel_rfl) (by kernel_rfl) (by kernel_rfl) rfl ?_
              have hz : OkL (setL l I (Mk.mk (l.getD I mD).st (l.getD I mD).tk (l.getD I mD).ver true gg.kind gg.err gg.path gg.at' gg.score gg.verd)) := setL_ok l I _ hIl hl (by show gg.verd.length ≤ 1000000000; rw [← hgg]; exact gOf_len a2)
              have hzl := setL_len l I (Mk.mk (l.getD I mD).st (l.getD I mD).tk (l.getD I mD).ver true gg.kind gg.err gg.path gg.at' gg.score gg.verd) hIl
              have hzs := hset (Mk.mk (l.getD I mD).st (l.getD I mD).tk (l.getD I mD).ver true gg.kind gg.err gg.path gg.at' gg.score gg.verd)
              generalize setL l I (Mk.mk (l.getD I mD).st (l.getD I mD).tk (l.getD I mD).ver true gg.kind gg.err gg.path gg.at' gg.score gg.verd) = z at hz hzl hzs
              refine n_asH [Blk.row 38 (flatA encM z)] (by show [_] = _; rw [hzs]) ?_
              refine n_frzN 9 0 l.length z _ hzl.symm (by kernel_rfl) (by kernel_rfl) rfl ?_
              have hcz : (chkL z == chkL z) = true := beq_self_eq_true _
              refine N_sel [0, 1, 2, 3, 8, 9, 10, 11, 12, 20, 35, 53, 63, 79, 89] (stOf 109 (z1 ++ [(9, marksV z), (10, .int .i64 (↑i : Int)), (11, .int .i64 (↑I : Int)), (12, .int .i64 (↑K : Int)), (20, .bool false), (35, .bool false), (53, .int .u8 (a3.tmod (4 : Int))), (63, .bool false), (79, .bool false), (89, .bool true)]) [Blk.dead]) ?_
              refine k_block ?_
              refine k_then ?_
              refine Q_seq ?_
              refine Q_reg ?_
              refine n_callp 16 [] (AV.bool true) (stOf 109 (z1 ++ [(9, marksV z), (10, .int .i64 (↑i : Int)), (11, .int .i64 (↑I : Int)), (12, .int .i64 (↑K : Int)), (20, .bool false), (35, .bool false), (53, .int .u8 (a3.tmod (4 : Int))), (63, .bool false), (79, .bool false), (89, .bool true), (101, .bool true)]) [Blk.dead]) (by kernel_rfl) (by kernel_rfl) (by kernel_rfl) (by kernel_rfl) (awake_v ) ?_
              refine N_run 1 (True) [2, 3, 4, 5, 6, 7, 8] (stOf 109 (z1 ++ [(9, marksV z), (10, .int .i64 (↑i : Int)), (11, .int .i64 (↑I : Int)), (12, .int .i64 (↑K : Int)), (20, .bool false), (35, .bool false), (53, .int .u8 (a3.tmod (4 : Int))), (63, .bool false), (79, .bool false), (89, .bool true), (101, .bool true), (102, .bool true)]) [Blk.dead]) trivial ?_
              refine N_run 1 (True) [3, 4, 5, 6, 7, 8] (stOf 109 (z1 ++ [(9, marksV z), (10, .int .i64 (↑i : Int)), (11, .int .i64 (↑I : Int)), (12, .int .i64 (↑K : Int)), (20, .bool false), (35, .bool false), (53, .int .u8 (a3.tmod (4 : Int))), (63, .bool false), (79, .bool false), (89, .bool true), (101, .bool true), (102, .bool true), (103, .cnd true (marksV z))]) [Blk.dead]) trivial ?_
              refine n_callg 10 [marksV z] (AV.int .i64 (chkL z)) (true) (stOf 109 (z1 ++ [(9, marksV z), (10, .int .i64 (↑i : Int)), (11, .int .i64 (↑I : Int)), (12, .int .i64 (↑K : Int)), (20, .bool false), (35, .bool false), (53, .int .u8 (a3.tmod (4 : Int))), (63, .bool false), (79, .bool false), (89, .bool true), (101, .bool true), (102, .bool true), (103, .cnd true (marksV z)), (104, .cnd true (.int .i64 (chkL z)))]) [Blk.dead]) (by kernel_rfl) (by kernel_rfl) (by kernel_rfl) (by kernel_rfl) (by kernel_rfl) (true = true) (by kernel_rfl) (by first | exact fun h => h | (intro h; exact by kernel_rfl) | (intro h; simp_all; done)) (fun hg => (check_v z hz )) ?_
              refine N_run 1 (True) [5, 6, 7, 8] (stOf 109 (z1 ++ [(9, marksV z), (10, .int .i64 (↑i : Int)), (11, .int .i64 (↑I : Int)), (12, .int .i64 (↑K : Int)), (20, .bool false), (35, .bool false), (53, .int .u8 (a3.tmod (4 : Int))), (63, .bool false), (79, .bool false), (89, .bool true), (101, .bool true), (102, .bool true), (103, .cnd true (marksV z)), (104, .cnd true (.int .i64 (chkL z))), (105, .cnd true (marksV z))]) [Blk.dead]) trivial ?_
              refine n_callg 22 [marksV z] (AV.int .i64 (chkL z)) (true) (stOf 109 (z1 ++ [(9, marksV z), (10, .int .i64 (↑i : Int)), (11, .int .i64 (↑I : Int)), (12, .int .i64 (↑K : Int)), (20, .bool false), (35, .bool false), (53, .int .u8 (a3.tmod (4 : Int))), (63, .bool false), (79, .bool false), (89, .bool true), (101, .bool true), (102, .bool true), (103, .cnd true (marksV z)), (104, .cnd true (.int .i64 (chkL z))), (105, .cnd true (marksV z)), (106, .cnd true (.int .i64 (chkL z)))]) [Blk.dead]) (by kernel_rfl) (by kernel_rfl) (by kernel_rfl) (by kernel_rfl) (by kernel_rfl) (true = true) (by kernel_rfl) (by first | exact fun h => h | (intro h; exact by kernel_rfl) | (intro h; simp_all; done)) (fun hg => (refCheck_v z hz )) ?_
              refine N_run 3 (((true == true) = true → true = true) ∧ ((true == true) = true → true = true) ∧ (true = true → (true == true) = true)) [] (stOf 109 [(0, .slv ns.length 2 (flatA encS ns)), (1, .int .u8 a1), (2, .int .u8 a2), (3, .int .u8 a3), (8, .bool (bif true then chkL z == chkL z else false)), (9, marksV z), (10, .int .i64 (↑i : Int)), (11, .int .i64 (↑I : Int)), (12, .int .i64 (↑K : Int)), (20, .bool false), (35, .bool false), (53, .int .u8 (a3.tmod (4 : Int))), (63, .bool false), (79, .bool false), (89, .bool true), (101, .bool true), (102, .bool true), (103, .cnd true (marksV z)), (104, .cnd true (.int .i64 (chkL z))), (105, .cnd true (marksV z)), (106, .cnd true (.int .i64 (chkL z))), (107, .cnd true (.bool (chkL z == chkL z))), (108, .bool (bif true then chkL z == chkL z else false))] [Blk.dead]) (by exact ⟨fun h => h, fun h => h, fun h => h⟩) ?_
              refine n_set 8 (AV.bool (bif true then chkL z == chkL z else false)) (AV.bool true) (by kernel_rfl) (by rw [hcz] <;> rfl) ?_
              refine n_set 107 (AV.cnd true (AV.bool (chkL z == chkL z))) (AV.cnd true (AV.bool true)) (by kernel_rfl) (by rw [hcz] <;> rfl) ?_
              refine n_set 108 (AV.bool (bif true then chkL z == chkL z else false)) (AV.bool true) (by kernel_rfl) (by rw [hcz] <;> rfl) ?_
              refine N_sel [0, 1, 2, 3, 8, 9, 10, 11, 12, 20, 35, 53, 63, 79, 89] (stOf 109 [(0, .slv ns.length 2 (flatA encS ns)), (1, .int .u8 a1), (2, .int .u8 a2), (3, .int .u8 a3), (8, .bool true), (9, marksV z), (10, .int .i64 (↑i : Int)), (11, .int .i64 (↑I : Int)), (12, .int .i64 (↑K : Int)), (20, .bool false), (35, .bool false), (53, .int .u8 (a3.tmod (4 : Int))), (63, .bool false), (79, .bool false), (89, .bool true)] [Blk.dead]) ?_
              refine k_then ?_
              refine q_ret (by kernel_rfl) ?_
              refine k_fin (True) (AV.bool true) [] [] (AV.bool true) (by kernel_rfl) (by kernel_rfl) (by kernel_rfl) trivial (keep_nil _) ?_
              exact ⟨rfl, rfl⟩
            · rw [Bool.not_eq_true] at h2
              obtain ⟨A2, B2, hA2, hmid2, hset2⟩ := mid_of l K hKl
              have hoff2 : ∀ k, 0 + (K : Int).toNat * 10 + k = A2.length + k := fun k => by rw [hA2]; simp
              obtain ⟨A, B, hA, hmid, hset⟩ := mid_of l I hIl
              have hoff : ∀ k, 0 + (I : Int).toNat * 10 + k = A.length + k := fun k => by rw [hA]; simp
              refine Q_seq ?_
              refine Q_seq ?_
              refine Q_reg ?_
              refine N_run 5 (True) [5, 6, 7] (stOf 109 (z1 ++ [(9, .sl 0 0 l.length 10), (10, .int .i64 (↑i : Int)), (13, .int .i64 (↑i : Int)), (14, .slv ns.length 2 (flatA encS ns)), (15, .int .i64 (↑ns.length : Int)), (16, .bool (decide ((↑i : Int) < (↑ns.length : Int)))), (17, .bool (decide ((↑i : Int) < (↑ns.length : Int))))]) [.row 38 (flatA encM l)]) trivial ?_
              refine N_run 1 (True) [6, 7] (stOf 109 (z1 ++ [(9, .sl 0 0 l.length 10), (10, .int .i64 (↑i : Int)), (13, .int .i64 (↑i : Int)), (14, .slv ns.length 2 (flatA encS ns)), (15, .int .i64 (↑ns.length : Int)), (16, .bool (decide ((↑i : Int) < (↑ns.length : Int)))), (17, .bool (decide ((↑i : Int) < (↑ns.length : Int)))), (18, .cnd (decide ((↑i : Int) < (↑ns.length : Int)) == true) (.int .i64 (↑i : Int)))]) [.row 38 (flatA encM l)]) trivial ?_
              refine N_run 2 (((decide ((↑i : Int) < (↑ns.length : Int)) == true) = true → (decide ((↑i : Int) < (↑ns.length : Int)) == true) = true) ∧ (decide ((↑i : Int) < (↑ns.length : Int)) = true → (decide ((↑i : Int) < (↑ns.length : Int)) == true) = true)) [] (stOf 109 (z1 ++ [(9, .sl 0 0 l.length 10), (10, .int .i64 (↑i : Int)), (13, .int .i64 (↑i : Int)), (14, .slv ns.length 2 (flatA encS ns)), (15, .int .i64 (↑ns.length : Int)), (16, .bool (decide ((↑i : Int) < (↑ns.length : Int)))), (17, .bool (decide ((↑i : Int) < (↑ns.length : Int)))), (18, .cnd (decide ((↑i : Int) < (↑ns.length : Int)) == true) (.int .i64 (↑i : Int))), (19, .cnd (decide ((↑i : Int) < (↑ns.length : Int)) == true) (.bool (decide ((↑i : Int) < (20 : Int))))), (20, .bool (bif decide ((↑i : Int) < (↑ns.length : Int)) then decide ((↑i : Int) < (20 : Int)) else false))]) [.row 38 (flatA encM l)]) (by exact ⟨fun h => h, by (simp; done)⟩) ?_
              refine n_set 20 (AV.bool (bif decide ((↑i : Int) < (↑ns.length : Int)) then decide ((↑i : Int) < (20 : Int)) else false)) (AV.bool false) (by kernel_rfl) (by rw [hcc] <;> rfl) ?_
              refine N_sel [0, 1, 2, 3, 8, 9, 10, 11, 12, 20, 35, 53, 63, 79, 89] (stOf 109 (z1 ++ [(9, .sl 0 0 l.length 10), (10, .int .i64 (↑i : Int)), (20, .bool false)]) [.row 38 (flatA encM l)]) ?_
              refine k_then ?_
              refine q_no (by kernel_rfl) false (by kernel_rfl) rfl ?_
              refine q_exit (by kernel_rfl) 0 (by kernel_rfl) ?_
              refine k_thenx ?_
              refine k_loopx ?_
              refine k_blockx (by kernel_rfl) ?_
              refine k_then ?_
              refine Q_seq ?_
              refine Q_seq ?_
              refine Q_reg ?_
              refine N_run 3 (True) [] (stOf 109 (z1 ++ [(9, .sl 0 0 l.length 10), (10, .int .i64 (↑i : Int)), (20, .bool false), (33, .sl 0 0 l.length 10), (34, .int .i64 (↑l.length : Int)), (35, .bool ((↑l.length : Int) == (0 : Int)))]) [.row 38 (flatA encM l)]) trivial ?_
              refine n_set 35 (AV.bool ((↑l.length : Int) == (0 : Int))) (AV.bool false) (by kernel_rfl) (by rw [hl0'] <;> rfl) ?_
              refine N_sel [0, 1, 2, 3, 8, 9, 10, 11, 12, 20, 35, 53, 63, 79, 89] (stOf 109 (z1 ++ [(9, .sl 0 0 l.length 10), (10, .int .i64 (↑i : Int)), (20, .bool false), (35, .bool false)]) [.row 38 (flatA encM l)]) ?_
              refine k_then ?_
              refine q_no (by kernel_rfl) false (by kernel_rfl) rfl ?_
              refine q_skip (by kernel_rfl) ?_
              refine k_then ?_
              refine Q_seq ?_
              refine q_draw (by kernel_rfl) (by kernel_rfl) ?_
              refine d_takes [0, 1, 2, 3, 4] ((↑l.length : Int) ≠ (0 : Int)) 7 #[true, true, true, true, true, false, false, false, false, false, false, false] (stOf 109 (z1 ++ [(9, .sl 0 0 l.length 10), (10, .int .i64 (↑i : Int)), (20, .bool false), (35, .bool false), (42, .int .u8 a1), (43, .int .i64 (IntKind.i64.wrap a1)), (44, .sl 0 0 l.length 10), (45, .int .i64 (↑l.length : Int)), (46, .int .i64 ((IntKind.i64.wrap a1).tmod (↑l.length : Int)))]) [.row 38 (flatA encM l)]) (by kernel_rfl) (by kernel_rfl) (by kernel_rfl) (by exact by omega) ?_
              refine d_set 43 (AV.int .i64 (IntKind.i64.wrap a1)) (AV.int .i64 a1) (by kernel_rfl) (by rw [wrap_i64 (e := a1) (by omega) (by omega)]) ?_
              refine d_set 46 (AV.int .i64 ((IntKind.i64.wrap a1).tmod (↑l.length : Int))) (AV.int .i64 (a1.tmod (↑l.length : Int))) (by kernel_rfl) (by rw [wrap_i64 (e := a1) (by omega) (by omega)]) ?_
              refine d_set 46 (AV.int .i64 (a1.tmod (↑l.length : Int))) (AV.int .i64 (↑I : Int)) (by kernel_rfl) (by rw [hI] <;> rfl) ?_
              refine d_takes [5, 6, 7, 8, 9] ((↑l.length : Int) ≠ (0 : Int)) 2 #[true, true, true, true, true, true, true, true, true, true, false, false] (stOf 109 (z1 ++ [(9, .sl 0 0 l.length 10), (10, .int .i64 (↑i : Int)), (20, .bool false), (35, .bool false), (42, .int .u8 a1), (43, .int .i64 a1), (44, .sl 0 0 l.length 10), (45, .int .i64 (↑l.length : Int)), (46, .int .i64 (↑I : Int)), (47, .int .u8 a2), (48, .int .i64 (IntKind.i64.wrap a2)), (49, .sl 0 0 l.length 10), (50, .int .i64 (↑l.length : Int)), (51, .int .i64 ((IntKind.i64.wrap a2).tmod (↑l.length : Int)))]) [.row 38 (flatA encM l)]) (by kernel_rfl) (by kernel_rfl) (by kernel_rfl) (by exact by omega) ?_
              refine d_set 48 (AV.int .i64 (IntKind.i64.wrap a2)) (AV.int .i64 a2) (by kernel_rfl) (by rw [wrap_i64 (e := a2) (by omega) (by omega)]) ?_
              refine d_set 51 (AV.int .i64 ((IntKind.i64.wrap a2).tmod (↑l.length : Int))) (AV.int .i64 (a2.tmod (↑l.length : Int))) (by kernel_rfl) (by rw [wrap_i64 (e := a2) (by omega) (by omega)]) ?_
              refine d_set 51 (AV.int .i64 (a2.tmod (↑l.length : Int))) (AV.int .i64 (↑K : Int)) (by kernel_rfl) (by rw [hK] <;> rfl) ?_
              refine d_takes [10, 11] (True) 0 #[true, true, true, true, true, true, true, true, true, true, true, true] (stOf 109 (z1 ++ [(9, .sl 0 0 l.length 10), (10, .int .i64 (↑i : Int)), (11, .int .i64 (↑I : Int)), (12, .int .i64 (↑K : Int)), (20, .bool false), (35, .bool false), (42, .int .u8 a1), (43, .int .i64 a1), (44, .sl 0 0 l.length 10), (45, .int .i64 (↑l.length : Int)), (46, .int .i64 (↑I : Int)), (47, .int .u8 a2), (48, .int .i64 a2), (49, .sl 0 0 l.length 10), (50, .int .i64 (↑l.length : Int)), (51, .int .i64 (↑K : Int))]) [.row 38 (flatA encM l)]) (by kernel_rfl) (by kernel_rfl) (by kernel_rfl) trivial ?_
              refine d_done [0, 1, 2, 3, 8, 9, 10, 11, 12, 20, 35, 53, 63, 79, 89] (stOf 109 (z1 ++ [(9, .sl 0 0 l.length 10), (10, .int .i64 (↑i : Int)), (11, .int .i64 (↑I : Int)), (12, .int .i64 (↑K : Int)), (20, .bool false), (35, .bool false)]) [.row 38 (flatA encM l)]) (by kernel_rfl) (by kernel_rfl) ?_
              refine k_then ?_
              refine Q_seq ?_
              refine Q_seq ?_
              refine Q_reg ?_
              refine N_run 2 ((4 : Int) ≠ (0 : Int)) [] (stOf 109 (z1 ++ [(9, .sl 0 0 l.length 10), (10, .int .i64 (↑i : Int)), (11, .int .i64 (↑I : Int)), (12, .int .i64 (↑K : Int)), (20, .bool false), (35, .bool false), (52, .int .u8 a3), (53, .int .u8 (a3.tmod (4 : Int)))]) [.row 38 (flatA encM l)]) (by exact by omega) ?_
              refine N_sel [0, 1, 2, 3, 8, 9, 10, 11, 12, 20, 35, 53, 63, 79, 89] (stOf 109 (z1 ++ [(9, .sl 0 0 l.length 10), (10, .int .i64 (↑i : Int)), (11, .int .i64 (↑I : Int)), (12, .int .i64 (↑K : Int)), (20, .bool false), (35, .bool false), (53, .int .u8 (a3.tmod (4 : Int)))]) [.row 38 (flatA encM l)]) ?_
              refine k_then ?_
              refine q_block (by kernel_rfl) ?_
              refine Q_seq ?_
              refine Q_reg ?_
              refine N_run 2 (True) [] (stOf 109 (z1 ++ [(9, .sl 0 0 l.length 10), (10, .int .i64 (↑i : Int)), (11, .int .i64 (↑I : Int)), (12, .int .i64 (↑K : Int)), (20, .bool false), (35, .bool false), (53, .int .u8 (a3.tmod (4 : Int))), (63, .bool (a3.tmod (4 : Int) == (0 : Int))), (64, .bool (a3.tmod (4 : Int) == (0 : Int)))]) [.row 38 (flatA encM l)]) trivial ?_
              refine n_set 63 (AV.bool (a3.tmod (4 : Int) == (0 : Int))) (AV.bool false) (by kernel_rfl) (by rw [h0] <;> rfl) ?_
              refine n_set 64 (AV.bool (a3.tmod (4 : Int) == (0 : Int))) (AV.bool false) (by kernel_rfl) (by rw [h0] <;> rfl) ?_
              refine N_sel [0, 1, 2, 3, 8, 9, 10, 11, 12, 20, 35, 53, 63, 79, 89] (stOf 109 (z1 ++ [(9, .sl 0 0 l.length 10), (10, .int .i64 (↑i : Int)), (11, .int .i64 (↑I : Int)), (12, .int .i64 (↑K : Int)), (20, .bool false), (35, .bool false), (53, .int .u8 (a3.tmod (4 : Int))), (63, .bool false)]) [.row 38 (flatA encM l)]) ?_
              refine k_then ?_
              refine q_no (by kernel_rfl) false (by kernel_rfl) rfl ?_
              refine Q_seq ?_
              refine Q_reg ?_
              refine N_run 2 (True) [] (stOf 109 (z1 ++ [(9, .sl 0 0 l.length 10), (10, .int .i64 (↑i : Int)), (11, .int .i64 (↑I : Int)), (12, .int .i64 (↑K : Int)), (20, .bool false), (35, .bool false), (53, .int .u8 (a3.tmod (4 : Int))), (63, .bool false), (79, .bool (a3.tmod (4 : Int) == (1 : Int))), (80, .bool (a3.tmod (4 : Int) == (1 : Int)))]) [.row 38 (flatA encM l)]) trivial ?_
              refine n_set 79 (AV.bool (a3.tmod (4 : Int) == (1 : Int))) (AV.bool false) (by kernel_rfl) (by rw [h1] <;> rfl) ?_
              refine n_set 80 (AV.bool (a3.tmod (4 : Int) == (1 : Int))) (AV.bool false) (by kernel_rfl) (by rw [h1] <;> rfl) ?_
              refine N_sel [0, 1, 2, 3, 8, 9, 10, 11, 12, 20, 35, 53, 63, 79, 89] (stOf 109 (z1 ++ [(9, .sl 0 0 l.length 10), (10, .int .i64 (↑i : Int)), (11, .int .i64 (↑I : Int)), (12, .int .i64 (↑K : Int)), (20, .bool false), (35, .bool false), (53, .int .u8 (a3.tmod (4 : Int))), (63, .bool false), (79, .bool false)]) [.row 38 (flatA encM l)]) ?_
              refine k_then ?_
              refine q_no (by kernel_rfl) false (by kernel_rfl) rfl ?_
              refine Q_seq ?_
              refine Q_reg ?_
              refine N_run 2 (True) [] (stOf 109 (z1 ++ [(9, .sl 0 0 l.length 10), (10, .int .i64 (↑i : Int)), (11, .int .i64 (↑I : Int)), (12, .int .i64 (↑K : Int)), (20, .bool false), (35, .bool false), (53, .int .u8 (a3.tmod (4 : Int))), (63, .bool false), (79, .bool false), (89, .bool (a3.tmod (4 : Int) == (2 : Int))), (90, .bool (a3.tmod (4 : Int) == (2 : Int)))]) [.row 38 (flatA encM l)]) trivial ?_
              refine n_set 89 (AV.bool (a3.tmod (4 : Int) == (2 : Int))) (AV.bool false) (by kernel_rfl) (by rw [h2] <;> rfl) ?_
              refine n_set 90 (AV.bool (a3.tmod (4 : Int) == (2 : Int))) (AV.bool false) (by kernel_rfl) (by rw [h2] <;> rfl) ?_
              refine N_sel [0, 1, 2, 3, 8, 9, 10, 11, 12, 20, 35, 53, 63, 79, 89] (stOf 109 (z1 ++ [(9, .sl 0 0 l.length 10), (10, .int .i64 (↑i : Int)), (11, .int .i64 (↑I : Int)), (12, .int .i64 (↑K : Int)), (20, .bool false), (35, .bool false), (53, .int .u8 (a3.tmod (4 : Int))), (63, .bool false), (79, .bool false), (89, .bool false)]) [.row 38 (flatA encM l)]) ?_
              refine k_then ?_
              refine q_no (by kernel_rfl) false (by kernel_rfl) rfl ?_
              refine Q_reg ?_
              refine N_run 5 ((0 : Int) ≤ (↑K : Int) ∧ (↑K : Int) < (↑l.length : Int)) [5, 6, 7, 8, 9] (stOf 109 (z1 ++ [(9, .sl 0 0 l.length 10), (10, .int .i64 (↑i : Int)), (11, .int .i64 (↑I : Int)), (12, .int .i64 (↑K : Int)), (20, .bool false), (35, .bool false), (53, .int .u8 (a3.tmod (4 : Int))), (54, .sl 0 0 l.length 10), (55, .int .i64 (↑I : Int)), (56, .sl 0 0 l.length 10), (57, .int .i64 (↑K : Int)), (58, .ptr 0 (0 + (↑K : Int).toNat * 10)), (63, .bool false), (79, .bool false), (89, .bool false)]) [.row 38 (flatA encM l)]) (by exact ⟨by omega, by omega⟩) ?_
              refine N_run 1 (True) [6, 7, 8, 9] (stOf 109 (z1 ++ [(9, .sl 0 0 l.length 10), (10, .int .i64 (↑i : Int)), (11, .int .i64 (↑I : Int)), (12, .int .i64 (↑K : Int)), (20, .bool false), (35, .bool false), (53, .int .u8 (a3.tmod (4 : Int))), (54, .sl 0 0 l.length 10), (55, .int .i64 (↑I : Int)), (56, .sl 0 0 l.length 10), (57, .int .i64 (↑K : Int)), (58, .ptr 0 (0 + (↑K : Int).toNat * 10)), (59, .ptr 0 (0 + (↑K : Int).toNat * 10 + 0)), (63, .bool false), (79, .bool false), (89, .bool false)]) [.row 38 (flatA encM l)]) trivial ?_
              refine n_asH [Blk.row 38 (A2 ++ (encM (l.getD K mD) ++ B2))] (by show [_] = _; rw [hmid2]) ?_
              refine n_loadR (t' := 38) 0 0 A2 (encM (l.getD K mD)) B2 31 (.tmp 59) (0 + (K : Int).toNat * 10 + 0) (.agg [.str (l.getD K mD).st, .str (l.getD K mD).tk]) _ (by kernel_rfl) (by kernel_rfl) (by kernel_rfl) (by kernel_rfl) (hoff2 0) (by kernel_rfl) (by kernel_rfl) (by kernel_rfl) rfl ?_
              refine n_asH [Blk.row 38 (A ++ (encM (l.getD I mD) ++ B))] (by show [_] = _; rw [← hmid2, hmid]) ?_
              refine N_run 1 ((0 : Int) ≤ (↑I : Int) ∧ (↑I : Int) < (↑l.length : Int)) [8, 9] (stOf 109 (z1 ++ [(9, .sl 0 0 l.length 10), (10, .int .i64 (↑i : Int)), (11, .int .i64 (↑I : Int)), (12, .int .i64 (↑K : Int)), (20, .bool false), (35, .bool false), (53, .int .u8 (a3.tmod (4 : Int))), (54, .sl 0 0 l.length 10), (55, .int .i64 (↑I : Int)), (56, .sl 0 0 l.length 10), (57, .int .i64 (↑K : Int)), (58, .ptr 0 (0 + (↑K : Int).toNat * 10)), (59, .ptr 0 (0 + (↑K : Int).toNat * 10 + 0)), (60, .agg [.str (l.getD K mD).st, .str (l.getD K mD).tk]), (61, .ptr 0 (0 + (↑I : Int).toNat * 10)), (63, .bool false), (79, .bool false), (89, .bool false)]) [.row 38 (A ++ (encM (l.getD I mD) ++ B))]) (by exact ⟨by omega, by omega⟩) ?_
              refine N_run 1 (True) [9] (stOf 109 (z1 ++ [(9, .sl 0 0 l.length 10), (10, .int .i64 (↑i : Int)), (11, .int .i64 (↑I : Int)), (12, .int .i64 (↑K : Int)), (20, .bool false), (35, .bool false), (53, .int .u8 (a3.tmod (4 : Int))), (54, .sl 0 0 l.length 10), (55, .int .i64 (↑I : Int)), (56, .sl 0 0 l.length 10), (57, .int .i64 (↑K : Int)), (58, .ptr 0 (0 + (↑K : Int).toNat * 10)), (59, .ptr 0 (0 + (↑K : Int).toNat * 10 + 0)), (60, .agg [.str (l.getD K mD).st, .str (l.getD K mD).tk]), (61, .ptr 0 (0 + (↑I : Int).toNat * 10)), (62, .ptr 0 (0 + (↑I : Int).toNat * 10 + 0)), (63, .bool false), (79, .bool false), (89, .bool false)]) [.row 38 (A ++ (encM (l.getD I mD) ++ B))]) trivial ?_
              refine n_storeR (t' := 38) 0 0 A (encM (l.getD I mD)) B [.str (l.getD K mD).st, .str (l.getD K mD).tk] (encM { l.getD I mD with st := (l.getD K mD).st, tk := (l.getD K mD).tk }) 31 (.tmp 62) (.tmp 60) (0 + (I : Int).toNat * 10 + 0) _ (by kernel_rfl) (by kernel_rfl) (by kernel_rfl) (by kernel_rfl) (hoff 0) (by kernel_rfl) (by kernel_rfl) (by kernel_rfl) (by kernel_rfl) rfl ?_
              have hz : OkL (setL l I { l.getD I mD with st := (l.getD K mD).st, tk := (l.getD K mD).tk }) := setL_ok l I _ hIl hl (getD_all hl2 hIl mD)
              have hzl := setL_len l I { l.getD I mD with st := (l.getD K mD).st, tk := (l.getD K mD).tk } hIl
              have hzs := hset { l.getD I mD with st := (l.getD K mD).st, tk := (l.getD K mD).tk }
              generalize setL l I { l.getD I mD with st := (l.getD K mD).st, tk := (l.getD K mD).tk } = z at hz hzl hzs
              refine n_asH [Blk.row 38 (flatA encM z)] (by show [_] = _; rw [hzs]) ?_
              refine n_frzN 9 0 l.length z _ hzl.symm (by kernel_rfl) (by kernel_rfl) rfl ?_
              have hcz : (chkL z == chkL z) = true := beq_self_eq_true _
              refine N_sel [0, 1, 2, 3, 8, 9, 10, 11, 12, 20, 35, 53, 63, 79, 89] (stOf 109 (z1 ++ [(9, marksV z), (10, .int .i64 (↑i : Int)), (11, .int .i64 (↑I : Int)), (12, .int .i64 (↑K : Int)), (20, .bool false), (35, .bool false), (53, .int .u8 (a3.tmod (4 : Int))), (63, .bool false), (79, .bool false), (89, .bool false)]) [Blk.dead]) ?_
              refine k_block ?_
              refine k_then ?_
              refine Q_seq ?_
              refine Q_reg ?_
              refine n_callp 16 [] (AV.bool true) (stOf 109 (z1 ++ [(9, marksV z), (10, .int .i64 (↑i : Int)), (11, .int .i64 (↑I : Int)), (12, .int .i64 (↑K : Int)), (20, .bool false), (35, .bool false), (53, .int .u8 (a3.tmod (4 : Int))), (63, .bool false), (79, .bool false), (89, .bool false), (101, .bool true)]) [Blk.dead]) (by kernel_rfl) (by kernel_rfl) (by kernel_rfl) (by kernel_rfl) (awake_v ) ?_
              refine N_run 1 (True) [2, 3, 4, 5, 6, 7, 8] (stOf 109 (z1 ++ [(9, marksV z), (10, .int .i64 (↑i : Int)), (11, .int .i64 (↑I : Int)), (12, .int .i64 (↑K : Int)), (20, .bool false), (35, .bool false), (53, .int .u8 (a3.tmod (4 : Int))), (63, .bool false), (79, .bool false), (89, .bool false), (101, .bool true), (102, .bool true)]) [Blk.dead]) trivial ?_
              refine N_run 1 (True) [3, 4, 5, 6, 7, 8] (stOf 109 (z1 ++ [(9, marksV z), (10, .int .i64 (↑i : Int)), (11, .int .i64 (↑I : Int)), (12, .int .i64 (↑K : Int)), (20, .bool false), (35, .bool false), (53, .int .u8 (a3.tmod (4 : Int))), (63, .bool false), (79, .bool false), (89, .bool false), (101, .bool true), (102, .bool true), (103, .cnd true (marksV z))]) [Blk.dead]) trivial ?_
              refine n_callg 10 [marksV z] (AV.int .i64 (chkL z)) (true) (stOf 109 (z1 ++ [(9, marksV z), (10, .int .i64 (↑i : Int)), (11, .int .i64 (↑I : Int)), (12, .int .i64 (↑K : Int)), (20, .bool false), (35, .bool false), (53, .int .u8 (a3.tmod (4 : Int))), (63, .bool false), (79, .bool false), (89, .bool false), (101, .bool true), (102, .bool true), (103, .cnd true (marksV z)), (104, .cnd true (.int .i64 (chkL z)))]) [Blk.dead]) (by kernel_rfl) (by kernel_rfl) (by kernel_rfl) (by kernel_rfl) (by kernel_rfl) (true = true) (by kernel_rfl) (by first | exact fun h => h | (intro h; exact by kernel_rfl) | (intro h; simp_all; done)) (fun hg => (check_v z hz )) ?_
              refine N_run 1 (True) [5, 6, 7, 8] (stOf 109 (z1 ++ [(9, marksV z), (10, .int .i64 (↑i : Int)), (11, .int .i64 (↑I : Int)), (12, .int .i64 (↑K : Int)), (20, .bool false), (35, .bool false), (53, .int .u8 (a3.tmod (4 : Int))), (63, .bool false), (79, .bool false), (89, .bool false), (101, .bool true), (102, .bool true), (103, .cnd true (marksV z)), (104, .cnd true (.int .i64 (chkL z))), (105, .cnd true (marksV z))]) [Blk.dead]) trivial ?_
              refine n_callg 22 [marksV z] (AV.int .i64 (chkL z)) (true) (stOf 109 (z1 ++ [(9, marksV z), (10, .int .i64 (↑i : Int)), (11, .int .i64 (↑I : Int)), (12, .int .i64 (↑K : Int)), (20, .bool false), (35, .bool false), (53, .int .u8 (a3.tmod (4 : Int))), (63, .bool false), (79, .bool false), (89, .bool false), (101, .bool true), (102, .bool true), (103, .cnd true (marksV z)), (104, .cnd true (.int .i64 (chkL z))), (105, .cnd true (marksV z)), (106, .cnd true (.int .i64 (chkL z)))]) [Blk.dead]) (by kernel_rfl) (by kernel_rfl) (by kernel_rfl) (by kernel_rfl) (by kernel_rfl) (true = true) (by kernel_rfl) (by first | exact fun h => h | (intro h; exact by kernel_rfl) | (intro h; simp_all; done)) (fun hg => (refCheck_v z hz )) ?_
              refine N_run 3 (((true == true) = true → true = true) ∧ ((true == true) = true → true = true) ∧ (true = true → (true == true) = true)) [] (stOf 109 [(0, .slv ns.length 2 (flatA encS ns)), (1, .int .u8 a1), (2, .int .u8 a2), (3, .int .u8 a3), (8, .bool (bif true then chkL z == chkL z else false)), (9, marksV z), (10, .int .i64 (↑i : Int)), (11, .int .i64 (↑I : Int)), (12, .int .i64 (↑K : Int)), (20, .bool false), (35, .bool false), (53, .int .u8 (a3.tmod (4 : Int))), (63, .bool false), (79, .bool false), (89, .bool false), (101, .bool true), (102, .bool true), (103, .cnd true (marksV z)), (104, .cnd true (.int .i64 (chkL z))), (105, .cnd true (marksV z)), (106, .cnd true (.int .i64 (chkL z))), (107, .cnd true (.bool (chkL z == chkL z))), (108, .bool (bif true then chkL z == chkL z else false))] [Blk.dead]) (by exact ⟨fun h => h, fun h => h, fun h => h⟩) ?_
              refine n_set 8 (AV.bool (bif true then chkL z == chkL z else false)) (AV.bool true) (by kernel_rfl) (by rw [hcz] <;> rfl) ?_
              refine n_set 107 (AV.cnd true (AV.bool (chkL z == chkL z))) (AV.cnd true (AV.bool true)) (by kernel_rfl) (by rw [hcz] <;> rfl) ?_
              refine n_set 108 (AV.bool (bif true then chkL z == chkL z else false)) (AV.bool true) (by kernel_rfl) (by rw [hcz] <;> rfl) ?_
              refine N_sel [0, 1, 2, 3, 8, 9, 10, 11, 12, 20, 35, 53, 63, 79, 89] (stOf 109 [(0, .slv ns.length 2 (flatA encS ns)), (1, .int .u8 a1), (2, .int .u8 a2), (3, .int .u8 a3), (8, .bool true), (9, marksV z), (10, .int .i64 (↑i : Int)), (11, .int .i64 (↑I : Int)), (12, .int .i64 (↑K : Int)), (20, .bool false), (35, .bool false), (53, .int .u8 (a3.tmod (4 : Int))), (63, .bool false), (79, .bool false), (89, .bool false)] [Blk.dead]) ?_
              refine k_then ?_
              refine q_ret (by kernel_rfl) ?_
              refine k_fin (True) (AV.bool true) [] [] (AV.bool true) (by kernel_rfl) (by kernel_rfl) (by kernel_rfl) trivial (keep_nil _) ?_
              exact ⟨rfl, rfl⟩
end Go.Proofs.Ytlmkeoegammdjaa
