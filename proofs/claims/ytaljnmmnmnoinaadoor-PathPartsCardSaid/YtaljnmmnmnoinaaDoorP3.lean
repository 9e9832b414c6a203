/-
  Paths: more of the library's functions on strings; elements.
-/
import Derived.Test.YtaljnmmnmnoinaaDoorP2
import Derived.Test.YtaljnmmnmnoinaaDoorSh
namespace Go.Proofs.YtaljnmmnmnoinaaDoor
open Go Go.RowKit V
set_option linter.unusedSimpArgs false
set_option linter.unusedVariables false
set_option maxHeartbeats 20000000
/-! prefixes -/
def hpF (s t : ByteArray) : Bool := bif decide ((t.size : Int) ≤ (s.size : Int)) then (s.extract 0 t.size).toList == t.toList else false
theorem liteHP (s t : ByteArray) (hs : s.size ≤ 9223372036854775807) : CallsV Tryd.prog 32 [.str s, .str t] [] (fun av H' => av = .bool (hpF s t) ∧ H' = []) := by
  refine callsG_at Tryd.func32 (by kernel_rfl) ?_
  unfold hpF
  by_cases h : (t.size : Int) ≤ (s.size : Int)
  · rw [decide_eq_true h, cond_true]
    have hb : 0 ≤ (0 : Int) ∧ (0 : Int) ≤ (t.size : Int) ∧ (t.size : Int) ≤ (s.size : Int) := by omega
    have e1' := (Eq.trans (congrArg (fun z => AV.str (s.extract z (↑t.size : Int).toNat)) (Int.toNat_natCast (0))) (congrArg (fun z => AV.str (s.extract 0 z)) (Int.toNat_natCast (t.size))))
    refine g_q [⟨7, [.tm 10 (.bool true)], .no⟩, ⟨10, [], .as (rhsOf e1')⟩] [.sel [4]] Exit.ret (stOf 18 [(4, AV.bool (bif true then (s.extract 0 t.size).toList == t.toList else false))] []) (And.intro (congrArg AV.bool (show decide ((↑s.size : Int) ≥ (↑t.size : Int)) = true from (by rw [decide_eq_true_iff]; omega))) (And.intro (show (0 : Int) ≤ (0 : Int) ∧ (0 : Int) ≤ (↑t.size : Int) ∧ (↑t.size : Int) ≤ (↑s.size : Int) from (by omega)) e1')) ?_
    refine g_f [] [] (AV.bool (bif true then (s.extract 0 t.size).toList == t.toList else false)) ([]) trivial ?_
    exact ⟨rfl, rfl⟩
  · rw [decide_eq_false h, cond_false]
    refine g_q [⟨7, [.tm 10 (.bool false)], .no⟩] [.sel [4]] Exit.ret (stOf 18 [(4, AV.bool false)] []) (And.intro (congrArg AV.bool (show decide ((↑s.size : Int) ≥ (↑t.size : Int)) = false from (by rw [decide_eq_false_iff_not]; omega))) (show false = true → false = true from (fun h => h))) ?_
    refine g_f [] [] (AV.bool false) ([]) trivial ?_
    exact ⟨rfl, rfl⟩
theorem hasPrefix_v (s t : ByteArray) (hs : s.size ≤ 9223372036854775807) : CallsV Tryd.prog 22 [.str s, .str t] [] (fun av H' => av = .bool (hpF s t) ∧ H' = []) := by
  refine callsG_at Tryd.func22 (by kernel_rfl) ?_
  have e1' := liteHP s t hs
  refine g_q [⟨3, [], .call (avOf e1') (blOf e1') []⟩] [.sel [4]] Exit.ret (stOf 8 [(4, AV.bool (hpF s t))] []) e1' ?_
  refine g_f [] [] (AV.bool (hpF s t)) ([]) trivial ?_
  exact ⟨rfl, rfl⟩
theorem liteCP (s t : ByteArray) (hs : s.size ≤ 9223372036854775807) : CallsV Tryd.prog 39 [.str s, .str t] [] (fun av H' => av = .tuple [.str (bif hpF s t then s.extract t.size s.size else s), .bool (hpF s t)] ∧ H' = []) := by
  refine callsG_at Tryd.func39 (by kernel_rfl) ?_
  have hp := liteHP s t hs
  cases h : hpF s t with
  | true =>
    rw [h] at hp
    have hb : 0 ≤ (t.size : Int) ∧ (t.size : Int) ≤ (s.size : Int) ∧ (s.size : Int) ≤ (s.size : Int) := by
      unfold hpF at h
      by_cases h1 : (t.size : Int) ≤ (s.size : Int)
      · omega
      · rw [decide_eq_false h1] at h; cases h
    have e1' := hp
    have e2' := (Eq.trans (congrArg (fun z => AV.str (s.extract z (↑s.size : Int).toNat)) (Int.toNat_natCast (t.size))) (congrArg (fun z => AV.str (s.extract t.size z)) (Int.toNat_natCast (s.size))))
    refine g_q [⟨4, [], .call (avOf e1') (blOf e1') []⟩, ⟨10, [], .as (rhsOf e2')⟩] [.sel [4, 5]] Exit.ret (stOf 15 [(4, AV.str (s.extract t.size s.size)), (5, AV.bool true)] []) (And.intro e1' (And.intro (show (0 : Int) ≤ (↑t.size : Int) ∧ (↑t.size : Int) ≤ (↑s.size : Int) ∧ (↑s.size : Int) ≤ (↑s.size : Int) from (by omega)) e2')) ?_
    refine g_f [] [] (AV.tuple [AV.str (s.extract t.size s.size), AV.bool true]) ([]) trivial ?_
    exact ⟨rfl, rfl⟩
  | false =>
    rw [h] at hp
    have e1' := hp
    refine g_q [⟨4, [], .call (avOf e1') (blOf e1') []⟩] [.sel [4, 5]] Exit.ret (stOf 15 [(4, AV.str s), (5, AV.bool false)] []) e1' ?_
    refine g_f [] [] (AV.tuple [AV.str s, AV.bool false]) ([]) trivial ?_
    exact ⟨rfl, rfl⟩
theorem cutPrefix_v (s t : ByteArray) (hs : s.size ≤ 9223372036854775807) : CallsV Tryd.prog 31 [.str s, .str t] [] (fun av H' => av = .tuple [.str (bif hpF s t then s.extract t.size s.size else s), .bool (hpF s t)] ∧ H' = []) := by
  refine callsG_at Tryd.func31 (by kernel_rfl) ?_
  have e1' := liteCP s t hs
  refine g_q [⟨4, [], .call (avOf e1') (blOf e1') []⟩] [.sel [4, 5]] Exit.ret (stOf 11 [(4, AV.str (bif hpF s t then s.extract t.size s.size else s)), (5, AV.bool (hpF s t))] []) e1' ?_
  refine g_f [] [] (AV.tuple [AV.str (bif hpF s t then s.extract t.size s.size else s), AV.bool (hpF s t)]) ([]) trivial ?_
  exact ⟨rfl, rfl⟩
/-! the last slash -/
def slF (s : ByteArray) : Nat → Int
  | 0 => -1
  | i + 1 => if byteAt s (i : Int) = 47 then (i : Int) else slF s i
theorem slF_lt (s : ByteArray) : ∀ n, -1 ≤ slF s n ∧ slF s n < (n : Int)
  | 0 => by simp [slF]
  | n + 1 => by
    have := slF_lt s n
    unfold slF
    split <;> omega
theorem slF_or (s : ByteArray) : ∀ n, (slF s n = -1 ∧ ∀ k, k < n → byteAt s (k : Int) ≠ 47) ∨ ∃ j, j < n ∧ slF s n = (j : Int) ∧ byteAt s (j : Int) = 47 ∧ ∀ k, j < k → k < n → byteAt s (k : Int) ≠ 47
  | 0 => Or.inl ⟨rfl, fun k h => absurd h (by omega)⟩
  | n + 1 => by
    unfold slF
    by_cases h : byteAt s (n : Int) = 47
    · rw [if_pos h]
      exact Or.inr ⟨n, by omega, rfl, h, fun k h1 h2 => by omega⟩
    · rw [if_neg h]
      rcases slF_or s n with ⟨h1, h2⟩ | ⟨j, h1, h2, h3, h4⟩
      · refine Or.inl ⟨h1, fun k hk => ?_⟩
        rcases Nat.lt_succ_iff_lt_or_eq.1 hk with hk | rfl
        · exact h2 k hk
        · exact h
      · refine Or.inr ⟨j, by omega, h2, h3, fun k h5 h6 => ?_⟩
        rcases Nat.lt_succ_iff_lt_or_eq.1 h6 with hk | rfl
        · exact h4 k h5 hk
        · exact h
theorem slash_v (s : ByteArray) (hs : s.size ≤ 1000000) : CallsV Tryd.prog 30 [.str s] [] (fun av H' => av = .int .i64 (slF s s.size) ∧ H' = []) := by
  refine callsG_at Tryd.func30 (by kernel_rfl) ?_
  have hL : LoopG Tryd.prog 0 Tryd.f30 0 (.exit 0) (stOf 17 [(3, .int .i64 (slF s s.size))] []) (stOf 17 [(0, .str s), (3, .int .i64 (-1)), (4, .int .i64 ((0 : Nat) : Int))] []) := by
    refine loopG_of s.size (fun i => stOf 17 [(0, .str s), (3, .int .i64 (slF s i)), (4, .int .i64 (i : Int))] []) (by kernel_rfl) (by simp) ?_ ?_
    · intro i hi
      by_cases hq : byteAt s (i : Int) = 47
      · rw [show slF s (i + 1) = (i : Int) by unfold slF; rw [if_pos hq]]
        have hq' : (byteAt s (i : Int) == 47) = true := by rw [hq]; rfl
        have e1' := (congrArg (fun z => AV.int .i64 z) (wrap_i64 (e := (↑i : Int) + (1 : Int)) (by omega) (by omega)))
        exact g_x [⟨4, [], .br true .no⟩, ⟨9, [], .br true .no⟩, ⟨13, [], .as (rhsOf e1')⟩] [.sel [0, 3, 4]] (And.intro (show decide ((↑i : Int) < (↑s.size : Int)) = true from (by rw [decide_eq_true_iff]; omega)) (And.intro (show (0 : Int) ≤ (↑i : Int) ∧ (↑i : Int) < (↑s.size : Int) from (by omega)) (And.intro (show (byteAt s (↑i : Int) == (47 : Int)) = true from (by assumption)) e1')))
      · rw [show slF s (i + 1) = slF s i by rw [slF, if_neg hq]]
        have hq' : (byteAt s (i : Int) == 47) = false := beq_eq_false_iff_ne.2 hq
        have e1' := (congrArg (fun z => AV.int .i64 z) (wrap_i64 (e := (↑i : Int) + (1 : Int)) (by omega) (by omega)))
        exact g_x [⟨4, [], .br true .no⟩, ⟨9, [], .br false .no⟩, ⟨11, [], .as (rhsOf e1')⟩] [.sel [0, 3, 4]] (And.intro (show decide ((↑i : Int) < (↑s.size : Int)) = true from (by rw [decide_eq_true_iff]; omega)) (And.intro (show (0 : Int) ≤ (↑i : Int) ∧ (↑i : Int) < (↑s.size : Int) from (by omega)) (And.intro (show (byteAt s (↑i : Int) == (47 : Int)) = false from (by assumption)) e1')))
    · exact g_x [⟨4, [], .br false .no⟩] [.sel [3]] (show decide ((↑s.size : Int) < (↑s.size : Int)) = false from (by rw [decide_eq_false_iff_not]; omega))
  have e1' := hL
  refine g_q [⟨3, [.sel [0, 3, 4]], .loop (exOf e1') (endOf e1')⟩] [.sel [2]] Exit.ret (stOf 17 [(2, AV.int .i64 (slF s s.size))] []) e1' ?_
  refine g_f [] [] (AV.int .i64 (slF s s.size)) ([]) trivial ?_
  exact ⟨rfl, rfl⟩
theorem lastIdxL (s : ByteArray) (hs : s.size ≤ 1000000) : CallsV Tryd.prog 38 [.str s, .int .u8 47] [] (fun av H' => av = .int .i64 (slF s s.size) ∧ H' = []) := by
  refine callsG_at Tryd.func38 (by kernel_rfl) ?_
  rcases slF_or s s.size with ⟨h1, h2⟩ | ⟨j, hj, h1, h2, h3⟩
  · have hL : LoopG Tryd.prog 0 Tryd.f38 0 (.exit 0) (stOf 19 [] []) (stOf 19 [(0, .str s), (1, .int .u8 47), (5, .int .i64 ((s.size : Int) - 1))] []) := by
      refine loopG_of s.size (fun k => stOf 19 [(0, .str s), (1, .int .u8 47), (5, .int .i64 ((s.size : Int) - 1 - (k : Int)))] []) (by simp) (by simp) ?_ ?_
      · intro k hk
        have hb := h2 (s.size - 1 - k) (by omega)
        have e : (((s.size - 1 - k : Nat) : Nat) : Int) = (s.size : Int) - 1 - (k : Int) := by omega
        rw [e] at hb
        have hq : (byteAt s ((s.size : Int) - 1 - (k : Int)) == 47) = false := beq_eq_false_iff_ne.2 hb
        rw [show ((s.size : Int) - 1 - ((k + 1 : Nat) : Int)) = (s.size : Int) - 1 - (k : Int) - 1 by omega]
        have e1' := (congrArg (fun z => AV.int .i64 z) (wrap_i64 (e := (↑s.size : Int) - (1 : Int) - (↑k : Int) - (1 : Int)) (by omega) (by omega)))
        exact g_x [⟨2, [], .br true .no⟩, ⟨8, [], .br false .no⟩, ⟨10, [], .as (rhsOf e1')⟩] [.sel [0, 1, 5]] (And.intro (show decide ((↑s.size : Int) - (1 : Int) - (↑k : Int) ≥ (0 : Int)) = true from (by rw [decide_eq_true_iff]; omega)) (And.intro (show (0 : Int) ≤ (↑s.size : Int) - (1 : Int) - (↑k : Int) ∧ (↑s.size : Int) - (1 : Int) - (↑k : Int) < (↑s.size : Int) from (by omega)) (And.intro (show (byteAt s ((↑s.size : Int) - (1 : Int) - (↑k : Int)) == (47 : Int)) = false from (by assumption)) e1')))
      · exact g_x [⟨2, [], .br false .no⟩] [.sel []] (show decide ((↑s.size : Int) - (1 : Int) - (↑s.size : Int) ≥ (0 : Int)) = false from (by rw [decide_eq_false_iff_not]; omega))
    rw [h1]
    have e1' := (congrArg (fun z => AV.int .i64 z) (wrap_i64 (e := (↑s.size : Int) - (1 : Int)) (by omega) (by omega)))
    have e2' := hL
    refine g_q [⟨3, [], .as (rhsOf e1')⟩, ⟨5, [.sel [0, 1, 5]], .loop (exOf e2') (endOf e2')⟩] [] Exit.ret (stOf 19 [(4, AV.int .i64 (-1 : Int))] []) (And.intro e1' e2') ?_
    refine g_f [] [] (AV.int .i64 (-1 : Int)) ([]) trivial ?_
    exact ⟨rfl, rfl⟩
  · have hL : LoopG Tryd.prog 0 Tryd.f38 0 .ret (stOf 19 [(4, .int .i64 (j : Int))] []) (stOf 19 [(0, .str s), (1, .int .u8 47), (5, .int .i64 ((s.size : Int) - 1))] []) := by
      refine loopG_of (s.size - 1 - j) (fun k => stOf 19 [(0, .str s), (1, .int .u8 47), (5, .int .i64 ((s.size : Int) - 1 - (k : Int)))] []) (by simp) (by simp) ?_ ?_
      · intro k hk
        have hb := h3 (s.size - 1 - k) (by omega) (by omega)
        have e : (((s.size - 1 - k : Nat) : Nat) : Int) = (s.size : Int) - 1 - (k : Int) := by omega
        rw [e] at hb
        have hq : (byteAt s ((s.size : Int) - 1 - (k : Int)) == 47) = false := beq_eq_false_iff_ne.2 hb
        rw [show ((s.size : Int) - 1 - ((k + 1 : Nat) : Int)) = (s.size : Int) - 1 - (k : Int) - 1 by omega]
        have e1' := (congrArg (fun z => AV.int .i64 z) (wrap_i64 (e := (↑s.size : Int) - (1 : Int) - (↑k : Int) - (1 : Int)) (by omega) (by omega)))
        exact g_x [⟨2, [], .br true .no⟩, ⟨8, [], .br false .no⟩, ⟨10, [], .as (rhsOf e1')⟩] [.sel [0, 1, 5]] (And.intro (show decide ((↑s.size : Int) - (1 : Int) - (↑k : Int) ≥ (0 : Int)) = true from (by rw [decide_eq_true_iff]; omega)) (And.intro (show (0 : Int) ≤ (↑s.size : Int) - (1 : Int) - (↑k : Int) ∧ (↑s.size : Int) - (1 : Int) - (↑k : Int) < (↑s.size : Int) from (by omega)) (And.intro (show (byteAt s ((↑s.size : Int) - (1 : Int) - (↑k : Int)) == (47 : Int)) = false from (by assumption)) e1')))
      · rw [show ((s.size : Int) - 1 - ((s.size - 1 - j : Nat) : Int)) = (j : Int) by omega]
        have hq : (byteAt s (j : Int) == 47) = true := by rw [h2]; rfl
        exact g_x [⟨8, [], .br true .no⟩] [.sel [4]] (And.intro (show (0 : Int) ≤ (↑j : Int) ∧ (↑j : Int) < (↑s.size : Int) from (by omega)) (show (byteAt s (↑j : Int) == (47 : Int)) = true from (by assumption)))
    rw [h1]
    have e1' := (congrArg (fun z => AV.int .i64 z) (wrap_i64 (e := (↑s.size : Int) - (1 : Int)) (by omega) (by omega)))
    have e2' := hL
    refine g_q [⟨3, [], .as (rhsOf e1')⟩, ⟨5, [.sel [0, 1, 5]], .loop (exOf e2') (endOf e2')⟩] [] Exit.ret (stOf 19 [(4, AV.int .i64 (↑j : Int))] []) (And.intro e1' e2') ?_
    refine g_f [] [] (AV.int .i64 (↑j : Int)) ([]) trivial ?_
    exact ⟨rfl, rfl⟩
theorem lastIndex_v (s : ByteArray) (hs : s.size ≤ 1000000) : CallsV Tryd.prog 29 [.str s, .int .u8 47] [] (fun av H' => av = .int .i64 (slF s s.size) ∧ H' = []) := by
  refine callsG_at Tryd.func29 (by kernel_rfl) ?_
  have e1' := lastIdxL s hs
  refine g_q [⟨3, [], .call (avOf e1') (blOf e1') []⟩] [.sel [4]] Exit.ret (stOf 8 [(4, AV.int .i64 (slF s s.size))] []) e1' ?_
  refine g_f [] [] (AV.int .i64 (slF s s.size)) ([]) trivial ?_
  exact ⟨rfl, rfl⟩
/-! elements -/
def okB (c : Int) : Bool := bif bif bif bif bif decide (97 ≤ c) then decide (c ≤ 122) else false then true else bif decide (48 ≤ c) then decide (c ≤ 57) else false then true else c == 45 then true else c == 95 then true else c == 46
theorem elB_v (c : Int) : CallsV Tryd.prog 34 [.int .u8 c] [] (fun av H' => av = .bool (okB c) ∧ H' = []) := by
  refine callsG_at Tryd.func34 (by kernel_rfl) ?_
  refine g_q [⟨4, [], .gd⟩, ⟨5, [], .gd⟩, ⟨8, [], .gd⟩, ⟨9, [], .gd⟩, ⟨10, [], .gd⟩, ⟨11, [], .gd⟩, ⟨12, [], .gd⟩, ⟨13, [], .gd⟩, ⟨16, [], .gd⟩, ⟨17, [], .gd⟩, ⟨20, [], .gd⟩, ⟨21, [], .gd⟩, ⟨24, [], .gd⟩, ⟨25, [], .gd⟩] [.sel [2]] Exit.ret (stOf 29 [(2, AV.bool (bif bif bif bif bif decide ((97 : Int) ≤ c) then decide (c ≤ (122 : Int)) else false then true else bif decide ((48 : Int) ≤ c) then decide (c ≤ (57 : Int)) else false then true else c == (45 : Int) then true else c == (95 : Int) then true else c == (46 : Int)))] []) (And.intro (show (decide ((97 : Int) ≤ c) == true) = true → (decide ((97 : Int) ≤ c) == true) = true from (fun h => h)) (And.intro (show decide ((97 : Int) ≤ c) = true → (decide ((97 : Int) ≤ c) == true) = true from (by (simp; done))) (And.intro (show ((bif decide ((97 : Int) ≤ c) then decide (c ≤ (122 : Int)) else false) == false) = true → ((bif decide ((97 : Int) ≤ c) then decide (c ≤ (122 : Int)) else false) == false) = true from (fun h => h)) (And.intro (show ((bif decide ((97 : Int) ≤ c) then decide (c ≤ (122 : Int)) else false) == false) = true → ((bif decide ((97 : Int) ≤ c) then decide (c ≤ (122 : Int)) else false) == false) = true from (fun h => h)) (And.intro (show ((bif decide ((97 : Int) ≤ c) then decide (c ≤ (122 : Int)) else false) == false && decide ((48 : Int) ≤ c) == true) = true → ((bif decide ((97 : Int) ≤ c) then decide (c ≤ (122 : Int)) else false) == false && decide ((48 : Int) ≤ c) == true) = true from (fun h => h)) (And.intro (show ((bif decide ((97 : Int) ≤ c) then decide (c ≤ (122 : Int)) else false) == false) = true → ((bif decide ((97 : Int) ≤ c) then decide (c ≤ (122 : Int)) else false) == false) = true from (fun h => h)) (And.intro (show ((bif decide ((97 : Int) ≤ c) then decide (c ≤ (122 : Int)) else false) == false) = true → decide ((48 : Int) ≤ c) = true → ((bif decide ((97 : Int) ≤ c) then decide (c ≤ (122 : Int)) else false) == false && decide ((48 : Int) ≤ c) == true) = true from (by (simp; omega))) (And.intro (show (bif decide ((97 : Int) ≤ c) then decide (c ≤ (122 : Int)) else false) = false → ((bif decide ((97 : Int) ≤ c) then decide (c ≤ (122 : Int)) else false) == false) = true from (by (simp; omega))) (And.intro (show ((bif bif decide ((97 : Int) ≤ c) then decide (c ≤ (122 : Int)) else false then true else bif decide ((48 : Int) ≤ c) then decide (c ≤ (57 : Int)) else false) == false) = true → ((bif bif decide ((97 : Int) ≤ c) then decide (c ≤ (122 : Int)) else false then true else bif decide ((48 : Int) ≤ c) then decide (c ≤ (57 : Int)) else false) == false) = true from (fun h => h)) (And.intro (show (bif bif decide ((97 : Int) ≤ c) then decide (c ≤ (122 : Int)) else false then true else bif decide ((48 : Int) ≤ c) then decide (c ≤ (57 : Int)) else false) = false → ((bif bif decide ((97 : Int) ≤ c) then decide (c ≤ (122 : Int)) else false then true else bif decide ((48 : Int) ≤ c) then decide (c ≤ (57 : Int)) else false) == false) = true from (by (simp; omega))) (And.intro (show ((bif bif bif decide ((97 : Int) ≤ c) then decide (c ≤ (122 : Int)) else false then true else bif decide ((48 : Int) ≤ c) then decide (c ≤ (57 : Int)) else false then true else c == (45 : Int)) == false) = true → ((bif bif bif decide ((97 : Int) ≤ c) then decide (c ≤ (122 : Int)) else false then true else bif decide ((48 : Int) ≤ c) then decide (c ≤ (57 : Int)) else false then true else c == (45 : Int)) == false) = true from (fun h => h)) (And.intro (show (bif bif bif decide ((97 : Int) ≤ c) then decide (c ≤ (122 : Int)) else false then true else bif decide ((48 : Int) ≤ c) then decide (c ≤ (57 : Int)) else false then true else c == (45 : Int)) = false → ((bif bif bif decide ((97 : Int) ≤ c) then decide (c ≤ (122 : Int)) else false then true else bif decide ((48 : Int) ≤ c) then decide (c ≤ (57 : Int)) else false then true else c == (45 : Int)) == false) = true from (by (simp; omega))) (And.intro (show ((bif bif bif bif decide ((97 : Int) ≤ c) then decide (c ≤ (122 : Int)) else false then true else bif decide ((48 : Int) ≤ c) then decide (c ≤ (57 : Int)) else false then true else c == (45 : Int) then true else c == (95 : Int)) == false) = true → ((bif bif bif bif decide ((97 : Int) ≤ c) then decide (c ≤ (122 : Int)) else false then true else bif decide ((48 : Int) ≤ c) then decide (c ≤ (57 : Int)) else false then true else c == (45 : Int) then true else c == (95 : Int)) == false) = true from (fun h => h)) (show (bif bif bif bif decide ((97 : Int) ≤ c) then decide (c ≤ (122 : Int)) else false then true else bif decide ((48 : Int) ≤ c) then decide (c ≤ (57 : Int)) else false then true else c == (45 : Int) then true else c == (95 : Int)) = false → ((bif bif bif bif decide ((97 : Int) ≤ c) then decide (c ≤ (122 : Int)) else false then true else bif decide ((48 : Int) ≤ c) then decide (c ≤ (57 : Int)) else false then true else c == (45 : Int) then true else c == (95 : Int)) == false) = true from (by (simp; omega)))))))))))))))) ?_
  refine g_f [] [] (AV.bool (bif bif bif bif bif decide ((97 : Int) ≤ c) then decide (c ≤ (122 : Int)) else false then true else bif decide ((48 : Int) ≤ c) then decide (c ≤ (57 : Int)) else false then true else c == (45 : Int) then true else c == (95 : Int) then true else c == (46 : Int))) ([]) trivial ?_
  exact ⟨rfl, rfl⟩
def okN (s : ByteArray) : Bool := allN (fun k => okB (byteAt s (k : Int))) s.size
def elF (s : ByteArray) : Bool := decide (1 ≤ s.size ∧ s.size ≤ 24) && okN s
theorem isEl_v (s : ByteArray) (hs : s.size ≤ 1000000) : CallsV Tryd.prog 24 [.str s] [] (fun av H' => av = .bool (elF s) ∧ H' = []) := by
  refine callsG_at Tryd.func24 (by kernel_rfl) ?_
  unfold elF okN
  have hS : ∀ k, stOf 23 [(0, .str s), (13, .int .i64 (s.size : Int)), (14, .int .i64 (k : Int))] [] = stOf 23 [(0, .str s), (13, .int .i64 (s.size : Int)), (14, .int .i64 (k : Int))] [] := fun _ => rfl
  rcases allN_or (fun k => okB (byteAt s (k : Int))) s.size with ⟨h1, h2⟩ | ⟨h1, m, hm, h2, h3⟩
  · have hL : LoopG Tryd.prog 0 Tryd.f24 0 (.exit 0) (stOf 23 [] []) (stOf 23 [(0, .str s), (13, .int .i64 (s.size : Int)), (14, .int .i64 ((0 : Nat) : Int))] []) := by
      refine loopG_of s.size (fun k => stOf 23 [(0, .str s), (13, .int .i64 (s.size : Int)), (14, .int .i64 (k : Int))] []) (by kernel_rfl) (by simp) ?_ ?_
      · intro k hk
        have h2 : okB (byteAt s (k : Int)) = true := h2 k hk
        have e1' := (elB_v (byteAt s (↑k : Int)))
        have e2' := (congrArg (fun z => AV.int .i64 z) (wrap_i64 (e := (↑k : Int) + (1 : Int)) (by omega) (by omega)))
        exact g_x [⟨1, [], .br true .no⟩, ⟨7, [], .call (avOf e1') (blOf e1') []⟩, ⟨9, [], .br false .no⟩, ⟨10, [], .as (rhsOf e2')⟩] [.sel [0, 13, 14]] (And.intro (show decide ((↑k : Int) < (↑s.size : Int)) = true from (by rw [decide_eq_true_iff]; omega)) (And.intro (show (0 : Int) ≤ (↑k : Int) ∧ (↑k : Int) < (↑s.size : Int) from (by omega)) (And.intro e1' (And.intro (congrArg (fun z => !z) h2) e2'))))
      · exact g_x [⟨1, [], .br false .no⟩] [.sel []] (show decide ((↑s.size : Int) < (↑s.size : Int)) = false from (by rw [decide_eq_false_iff_not]; omega))
    rw [h1]
    refine g_split (bif (↑s.size : Int) == (0 : Int) then true else decide ((↑s.size : Int) > (24 : Int))) (fun hq1 => ?_) (fun hq1 => ?_)
    · (have gq1 := hq1; simp only [Bool.cond_true_left, Bool.cond_false_right, Bool.cond_false_left, Bool.cond_true_right, beq_true, beq_false, Bool.not_not, Bool.or_eq_true, Bool.and_eq_true, Bool.or_eq_false_iff, Bool.and_eq_false_iff, Bool.not_eq_true', Bool.not_eq_false', beq_iff_eq, beq_eq_false_iff_ne, bne_iff_ne, bne_eq_false_iff_eq, decide_eq_true_eq, decide_eq_false_iff_not, ne_eq] at gq1)
      refine g_q [⟨5, [], .gd⟩, ⟨6, [], .gd⟩, ⟨7, [], .gd⟩, ⟨9, [], .br true .no⟩] [.sel [2]] Exit.ret (stOf 23 [(2, AV.bool false)] []) (And.intro (show (((↑s.size : Int) == (0 : Int)) == false) = true → (((↑s.size : Int) == (0 : Int)) == false) = true from (fun h => h)) (And.intro (show (((↑s.size : Int) == (0 : Int)) == false) = true → (((↑s.size : Int) == (0 : Int)) == false) = true from (fun h => h)) (And.intro (show ((↑s.size : Int) == (0 : Int)) = false → (((↑s.size : Int) == (0 : Int)) == false) = true from (by (simp; done))) (show (bif (↑s.size : Int) == (0 : Int) then true else decide ((↑s.size : Int) > (24 : Int))) = true from (by assumption))))) ?_
      refine g_f [] [] (AV.bool false) ([]) trivial ?_
      exact ⟨by simp; omega, rfl⟩
    · (have gq1 := hq1; simp only [Bool.cond_true_left, Bool.cond_false_right, Bool.cond_false_left, Bool.cond_true_right, beq_true, beq_false, Bool.not_not, Bool.or_eq_true, Bool.and_eq_true, Bool.or_eq_false_iff, Bool.and_eq_false_iff, Bool.not_eq_true', Bool.not_eq_false', beq_iff_eq, beq_eq_false_iff_ne, bne_iff_ne, bne_eq_false_iff_eq, decide_eq_true_eq, decide_eq_false_iff_not, ne_eq] at gq1)
      have e1' := hL
      refine g_q [⟨5, [], .gd⟩, ⟨6, [], .gd⟩, ⟨7, [], .gd⟩, ⟨9, [], .br false .no⟩, ⟨13, [.sel [0, 13, 14]], .loop (exOf e1') (endOf e1')⟩] [] Exit.ret (stOf 23 [(2, AV.bool true)] []) (And.intro (show (((↑s.size : Int) == (0 : Int)) == false) = true → (((↑s.size : Int) == (0 : Int)) == false) = true from (fun h => h)) (And.intro (show (((↑s.size : Int) == (0 : Int)) == false) = true → (((↑s.size : Int) == (0 : Int)) == false) = true from (fun h => h)) (And.intro (show ((↑s.size : Int) == (0 : Int)) = false → (((↑s.size : Int) == (0 : Int)) == false) = true from (by (simp; done))) (And.intro (show (bif (↑s.size : Int) == (0 : Int) then true else decide ((↑s.size : Int) > (24 : Int))) = false from (by assumption)) e1')))) ?_
      refine g_f [] [] (AV.bool true) ([]) trivial ?_
      exact ⟨by simp; omega, rfl⟩
  · have hL : LoopG Tryd.prog 0 Tryd.f24 0 .ret (stOf 23 [(2, .bool false)] []) (stOf 23 [(0, .str s), (13, .int .i64 (s.size : Int)), (14, .int .i64 ((0 : Nat) : Int))] []) := by
      refine loopG_of m (fun k => stOf 23 [(0, .str s), (13, .int .i64 (s.size : Int)), (14, .int .i64 (k : Int))] []) (by kernel_rfl) (by simp) ?_ ?_
      · intro k hk
        have h2 : okB (byteAt s (k : Int)) = true := h2 k hk
        have e1' := (elB_v (byteAt s (↑k : Int)))
        have e2' := (congrArg (fun z => AV.int .i64 z) (wrap_i64 (e := (↑k : Int) + (1 : Int)) (by omega) (by omega)))
        exact g_x [⟨1, [], .br true .no⟩, ⟨7, [], .call (avOf e1') (blOf e1') []⟩, ⟨9, [], .br false .no⟩, ⟨10, [], .as (rhsOf e2')⟩] [.sel [0, 13, 14]] (And.intro (show decide ((↑k : Int) < (↑s.size : Int)) = true from (by rw [decide_eq_true_iff]; omega)) (And.intro (show (0 : Int) ≤ (↑k : Int) ∧ (↑k : Int) < (↑s.size : Int) from (by omega)) (And.intro e1' (And.intro (congrArg (fun z => !z) h2) e2'))))
      · have h3 : okB (byteAt s (m : Int)) = false := h3
        have e1' := (elB_v (byteAt s (↑m : Int)))
        exact g_x [⟨1, [], .br true .no⟩, ⟨7, [], .call (avOf e1') (blOf e1') []⟩, ⟨9, [], .br true .no⟩] [.sel [2]] (And.intro (show decide ((↑m : Int) < (↑s.size : Int)) = true from (by rw [decide_eq_true_iff]; omega)) (And.intro (show (0 : Int) ≤ (↑m : Int) ∧ (↑m : Int) < (↑s.size : Int) from (by omega)) (And.intro e1' (congrArg (fun z => !z) h3))))
    rw [h1, Bool.and_false]
    refine g_split (bif false then true else decide ((↑s.size : Int) > (24 : Int))) (fun hq1 => ?_) (fun hq1 => ?_)
    · (have gq1 := hq1; simp only [Bool.cond_true_left, Bool.cond_false_right, Bool.cond_false_left, Bool.cond_true_right, beq_true, beq_false, Bool.not_not, Bool.or_eq_true, Bool.and_eq_true, Bool.or_eq_false_iff, Bool.and_eq_false_iff, Bool.not_eq_true', Bool.not_eq_false', beq_iff_eq, beq_eq_false_iff_ne, bne_iff_ne, bne_eq_false_iff_eq, decide_eq_true_eq, decide_eq_false_iff_not, ne_eq] at gq1)
      refine g_q [⟨5, [.tm 7 (.bool false)], .no⟩, ⟨9, [], .br true .no⟩] [.sel [2]] Exit.ret (stOf 23 [(2, AV.bool false)] []) (And.intro (congrArg AV.bool (show ((↑s.size : Int) == (0 : Int)) = false from (by rw [beq_eq_false_iff_ne]; omega))) (show (bif false then true else decide ((↑s.size : Int) > (24 : Int))) = true from (by assumption))) ?_
      refine g_f [] [] (AV.bool false) ([]) trivial ?_
      exact ⟨by simp, rfl⟩
    · (have gq1 := hq1; simp only [Bool.cond_true_left, Bool.cond_false_right, Bool.cond_false_left, Bool.cond_true_right, beq_true, beq_false, Bool.not_not, Bool.or_eq_true, Bool.and_eq_true, Bool.or_eq_false_iff, Bool.and_eq_false_iff, Bool.not_eq_true', Bool.not_eq_false', beq_iff_eq, beq_eq_false_iff_ne, bne_iff_ne, bne_eq_false_iff_eq, decide_eq_true_eq, decide_eq_false_iff_not, ne_eq] at gq1)
      have e1' := hL
      refine g_q [⟨5, [.tm 7 (.bool false)], .no⟩, ⟨9, [], .br false .no⟩, ⟨13, [.sel [0, 13, 14]], .loop (exOf e1') (endOf e1')⟩] [] Exit.ret (stOf 23 [(2, AV.bool false)] []) (And.intro (congrArg AV.bool (show ((↑s.size : Int) == (0 : Int)) = false from (by rw [beq_eq_false_iff_ne]; omega))) (And.intro (show (bif false then true else decide ((↑s.size : Int) > (24 : Int))) = false from (by assumption)) e1')) ?_
      refine g_f [] [] (AV.bool false) ([]) trivial ?_
      exact ⟨by simp, rfl⟩
abbrev dB : ByteArray := ByteArray.mk #[46]
abbrev ddB : ByteArray := ByteArray.mk #[46, 46]
theorem elfin (s : ByteArray) (h1 : (s.toList == dB.toList) = false) (h2 : (s.toList == ddB.toList) = false) : AV.bool (bif bif bif decide ((s.size : Int) ≥ 1) then decide ((s.size : Int) ≤ 24) else false then !(s.toList == dB.toList) else false then !(s.toList == ddB.toList) else false) = AV.bool (decide (1 ≤ s.size ∧ s.size ≤ 24) && true) := by
  rw [h1, h2]
  by_cases a : 1 ≤ s.size <;> by_cases b : s.size ≤ 24 <;> simp [a, b] <;> omega
theorem el_v (s : ByteArray) (hs : s.size ≤ 1000000) (hd1 : (s.toList == dB.toList) = false) (hd2 : (s.toList == ddB.toList) = false) : CallsV Tryd.prog 27 [.str s] [] (fun av H' => av = .bool (elF s) ∧ H' = []) := by
  refine callsG_at Tryd.func27 (by kernel_rfl) ?_
  unfold elF okN
  rcases allN_or (fun k => okB (byteAt s (k : Int))) s.size with ⟨h1, h2⟩ | ⟨h1, m, hm, h2, h3⟩
  · have hL : LoopG Tryd.prog 0 Tryd.f27 0 (.exit 0) (stOf 57 [(0, .str s)] []) (stOf 57 [(0, .str s), (3, .int .i64 ((0 : Nat) : Int))] []) := by
      refine loopG_of s.size (fun k => stOf 57 [(0, .str s), (3, .int .i64 (k : Int))] []) (by kernel_rfl) (by simp) ?_ ?_
      · intro k hk
        have h2 : okB (byteAt s (k : Int)) = true := h2 k hk
        unfold okB at h2
        generalize hc : byteAt s (k : Int) = c at h2
        have e1' := (congrArg (fun z => AV.int .u8 z) hc)
        have e2' := (congrArg (fun z => AV.int .i64 z) (wrap_i64 (e := (↑k : Int) + (1 : Int)) (by omega) (by omega)))
        exact g_x [⟨4, [], .br true .no⟩, ⟨7, [], .as (rhsOf e1')⟩, ⟨12, [], .gd⟩, ⟨13, [], .gd⟩, ⟨16, [], .gd⟩, ⟨17, [], .gd⟩, ⟨18, [], .gd⟩, ⟨19, [], .gd⟩, ⟨20, [], .gd⟩, ⟨21, [], .gd⟩, ⟨24, [], .gd⟩, ⟨25, [], .gd⟩, ⟨28, [], .gd⟩, ⟨29, [], .gd⟩, ⟨32, [], .gd⟩, ⟨33, [], .gd⟩, ⟨36, [], .br false .no⟩, ⟨38, [], .as (rhsOf e2')⟩] [.sel [0, 3]] (And.intro (show decide ((↑k : Int) < (↑s.size : Int)) = true from (by rw [decide_eq_true_iff]; omega)) (And.intro (show (0 : Int) ≤ (↑k : Int) ∧ (↑k : Int) < (↑s.size : Int) from (by omega)) (And.intro e1' (And.intro (show (decide (c ≥ (97 : Int)) == true) = true → (decide (c ≥ (97 : Int)) == true) = true from (fun h => h)) (And.intro (show decide (c ≥ (97 : Int)) = true → (decide (c ≥ (97 : Int)) == true) = true from (by (simp; done))) (And.intro (show ((bif decide (c ≥ (97 : Int)) then decide (c ≤ (122 : Int)) else false) == false) = true → ((bif decide (c ≥ (97 : Int)) then decide (c ≤ (122 : Int)) else false) == false) = true from (fun h => h)) (And.intro (show ((bif decide (c ≥ (97 : Int)) then decide (c ≤ (122 : Int)) else false) == false) = true → ((bif decide (c ≥ (97 : Int)) then decide (c ≤ (122 : Int)) else false) == false) = true from (fun h => h)) (And.intro (show ((bif decide (c ≥ (97 : Int)) then decide (c ≤ (122 : Int)) else false) == false && decide (c ≥ (48 : Int)) == true) = true → ((bif decide (c ≥ (97 : Int)) then decide (c ≤ (122 : Int)) else false) == false && decide (c ≥ (48 : Int)) == true) = true from (fun h => h)) (And.intro (show ((bif decide (c ≥ (97 : Int)) then decide (c ≤ (122 : Int)) else false) == false) = true → ((bif decide (c ≥ (97 : Int)) then decide (c ≤ (122 : Int)) else false) == false) = true from (fun h => h)) (And.intro (show ((bif decide (c ≥ (97 : Int)) then decide (c ≤ (122 : Int)) else false) == false) = true → decide (c ≥ (48 : Int)) = true → ((bif decide (c ≥ (97 : Int)) then decide (c ≤ (122 : Int)) else false) == false && decide (c ≥ (48 : Int)) == true) = true from (by (simp; omega))) (And.intro (show (bif decide (c ≥ (97 : Int)) then decide (c ≤ (122 : Int)) else false) = false → ((bif decide (c ≥ (97 : Int)) then decide (c ≤ (122 : Int)) else false) == false) = true from (by (simp; omega))) (And.intro (show ((bif bif decide (c ≥ (97 : Int)) then decide (c ≤ (122 : Int)) else false then true else bif decide (c ≥ (48 : Int)) then decide (c ≤ (57 : Int)) else false) == false) = true → ((bif bif decide (c ≥ (97 : Int)) then decide (c ≤ (122 : Int)) else false then true else bif decide (c ≥ (48 : Int)) then decide (c ≤ (57 : Int)) else false) == false) = true from (fun h => h)) (And.intro (show (bif bif decide (c ≥ (97 : Int)) then decide (c ≤ (122 : Int)) else false then true else bif decide (c ≥ (48 : Int)) then decide (c ≤ (57 : Int)) else false) = false → ((bif bif decide (c ≥ (97 : Int)) then decide (c ≤ (122 : Int)) else false then true else bif decide (c ≥ (48 : Int)) then decide (c ≤ (57 : Int)) else false) == false) = true from (by (simp; omega))) (And.intro (show ((bif bif bif decide (c ≥ (97 : Int)) then decide (c ≤ (122 : Int)) else false then true else bif decide (c ≥ (48 : Int)) then decide (c ≤ (57 : Int)) else false then true else c == (45 : Int)) == false) = true → ((bif bif bif decide (c ≥ (97 : Int)) then decide (c ≤ (122 : Int)) else false then true else bif decide (c ≥ (48 : Int)) then decide (c ≤ (57 : Int)) else false then true else c == (45 : Int)) == false) = true from (fun h => h)) (And.intro (show (bif bif bif decide (c ≥ (97 : Int)) then decide (c ≤ (122 : Int)) else false then true else bif decide (c ≥ (48 : Int)) then decide (c ≤ (57 : Int)) else false then true else c == (45 : Int)) = false → ((bif bif bif decide (c ≥ (97 : Int)) then decide (c ≤ (122 : Int)) else false then true else bif decide (c ≥ (48 : Int)) then decide (c ≤ (57 : Int)) else false then true else c == (45 : Int)) == false) = true from (by (simp; omega))) (And.intro (show ((bif bif bif bif decide (c ≥ (97 : Int)) then decide (c ≤ (122 : Int)) else false then true else bif decide (c ≥ (48 : Int)) then decide (c ≤ (57 : Int)) else false then true else c == (45 : Int) then true else c == (95 : Int)) == false) = true → ((bif bif bif bif decide (c ≥ (97 : Int)) then decide (c ≤ (122 : Int)) else false then true else bif decide (c ≥ (48 : Int)) then decide (c ≤ (57 : Int)) else false then true else c == (45 : Int) then true else c == (95 : Int)) == false) = true from (fun h => h)) (And.intro (show (bif bif bif bif decide (c ≥ (97 : Int)) then decide (c ≤ (122 : Int)) else false then true else bif decide (c ≥ (48 : Int)) then decide (c ≤ (57 : Int)) else false then true else c == (45 : Int) then true else c == (95 : Int)) = false → ((bif bif bif bif decide (c ≥ (97 : Int)) then decide (c ≤ (122 : Int)) else false then true else bif decide (c ≥ (48 : Int)) then decide (c ≤ (57 : Int)) else false then true else c == (45 : Int) then true else c == (95 : Int)) == false) = true from (by (simp; omega))) (And.intro (congrArg (fun z => !z) h2) e2'))))))))))))))))))
      · exact g_x [⟨4, [], .br false .no⟩] [.sel [0]] (show decide ((↑s.size : Int) < (↑s.size : Int)) = false from (by rw [decide_eq_false_iff_not]; omega))
    rw [h1]
    have e1' := hL
    refine g_q [⟨2, [.sel [0, 3]], .loop (exOf e1') (endOf e1')⟩, ⟨7, [], .gd⟩, ⟨8, [], .gd⟩, ⟨9, [], .gd⟩, ⟨12, [], .gd⟩, ⟨13, [], .gd⟩, ⟨16, [], .gd⟩, ⟨17, [], .gd⟩] [.sel [2]] Exit.ret (stOf 57 [(2, AV.bool (bif bif bif decide ((↑s.size : Int) ≥ (1 : Int)) then decide ((↑s.size : Int) ≤ (24 : Int)) else false then !s.toList == (ByteArray.mk #[(46 : UInt8)]).toList else false then !s.toList == (ByteArray.mk #[(46 : UInt8), (46 : UInt8)]).toList else false))] []) (And.intro e1' (And.intro (show (decide ((↑s.size : Int) ≥ (1 : Int)) == true) = true → (decide ((↑s.size : Int) ≥ (1 : Int)) == true) = true from (fun h => h)) (And.intro (show (decide ((↑s.size : Int) ≥ (1 : Int)) == true) = true → (decide ((↑s.size : Int) ≥ (1 : Int)) == true) = true from (fun h => h)) (And.intro (show decide ((↑s.size : Int) ≥ (1 : Int)) = true → (decide ((↑s.size : Int) ≥ (1 : Int)) == true) = true from (by (simp; done))) (And.intro (show ((bif decide ((↑s.size : Int) ≥ (1 : Int)) then decide ((↑s.size : Int) ≤ (24 : Int)) else false) == true) = true → ((bif decide ((↑s.size : Int) ≥ (1 : Int)) then decide ((↑s.size : Int) ≤ (24 : Int)) else false) == true) = true from (fun h => h)) (And.intro (show (bif decide ((↑s.size : Int) ≥ (1 : Int)) then decide ((↑s.size : Int) ≤ (24 : Int)) else false) = true → ((bif decide ((↑s.size : Int) ≥ (1 : Int)) then decide ((↑s.size : Int) ≤ (24 : Int)) else false) == true) = true from (by (simp; done))) (And.intro (show ((bif bif decide ((↑s.size : Int) ≥ (1 : Int)) then decide ((↑s.size : Int) ≤ (24 : Int)) else false then !s.toList == (ByteArray.mk #[(46 : UInt8)]).toList else false) == true) = true → ((bif bif decide ((↑s.size : Int) ≥ (1 : Int)) then decide ((↑s.size : Int) ≤ (24 : Int)) else false then !s.toList == (ByteArray.mk #[(46 : UInt8)]).toList else false) == true) = true from (fun h => h)) (show (bif bif decide ((↑s.size : Int) ≥ (1 : Int)) then decide ((↑s.size : Int) ≤ (24 : Int)) else false then !s.toList == (ByteArray.mk #[(46 : UInt8)]).toList else false) = true → ((bif bif decide ((↑s.size : Int) ≥ (1 : Int)) then decide ((↑s.size : Int) ≤ (24 : Int)) else false then !s.toList == (ByteArray.mk #[(46 : UInt8)]).toList else false) == true) = true from (by (simp; done)))))))))) ?_
    refine g_f [] [] (AV.bool (bif bif bif decide ((↑s.size : Int) ≥ (1 : Int)) then decide ((↑s.size : Int) ≤ (24 : Int)) else false then !s.toList == (ByteArray.mk #[(46 : UInt8)]).toList else false then !s.toList == (ByteArray.mk #[(46 : UInt8), (46 : UInt8)]).toList else false)) ([]) trivial ?_
    exact ⟨elfin s hd1 hd2, rfl⟩
  · have hL : LoopG Tryd.prog 0 Tryd.f27 0 .ret (stOf 57 [(2, .bool false)] []) (stOf 57 [(0, .str s), (3, .int .i64 ((0 : Nat) : Int))] []) := by
      refine loopG_of m (fun k => stOf 57 [(0, .str s), (3, .int .i64 (k : Int))] []) (by kernel_rfl) (by simp) ?_ ?_
      · intro k hk
        have h2 : okB (byteAt s (k : Int)) = true := h2 k hk
        unfold okB at h2
        generalize hc : byteAt s (k : Int) = c at h2
        have e1' := (congrArg (fun z => AV.int .u8 z) hc)
        have e2' := (congrArg (fun z => AV.int .i64 z) (wrap_i64 (e := (↑k : Int) + (1 : Int)) (by omega) (by omega)))
        exact g_x [⟨4, [], .br true .no⟩, ⟨7, [], .as (rhsOf e1')⟩, ⟨12, [], .gd⟩, ⟨13, [], .gd⟩, ⟨16, [], .gd⟩, ⟨17, [], .gd⟩, ⟨18, [], .gd⟩, ⟨19, [], .gd⟩, ⟨20, [], .gd⟩, ⟨21, [], .gd⟩, ⟨24, [], .gd⟩, ⟨25, [], .gd⟩, ⟨28, [], .gd⟩, ⟨29, [], .gd⟩, ⟨32, [], .gd⟩, ⟨33, [], .gd⟩, ⟨36, [], .br false .no⟩, ⟨38, [], .as (rhsOf e2')⟩] [.sel [0, 3]] (And.intro (show decide ((↑k : Int) < (↑s.size : Int)) = true from (by rw [decide_eq_true_iff]; omega)) (And.intro (show (0 : Int) ≤ (↑k : Int) ∧ (↑k : Int) < (↑s.size : Int) from (by omega)) (And.intro e1' (And.intro (show (decide (c ≥ (97 : Int)) == true) = true → (decide (c ≥ (97 : Int)) == true) = true from (fun h => h)) (And.intro (show decide (c ≥ (97 : Int)) = true → (decide (c ≥ (97 : Int)) == true) = true from (by (simp; done))) (And.intro (show ((bif decide (c ≥ (97 : Int)) then decide (c ≤ (122 : Int)) else false) == false) = true → ((bif decide (c ≥ (97 : Int)) then decide (c ≤ (122 : Int)) else false) == false) = true from (fun h => h)) (And.intro (show ((bif decide (c ≥ (97 : Int)) then decide (c ≤ (122 : Int)) else false) == false) = true → ((bif decide (c ≥ (97 : Int)) then decide (c ≤ (122 : Int)) else false) == false) = true from (fun h => h)) (And.intro (show ((bif decide (c ≥ (97 : Int)) then decide (c ≤ (122 : Int)) else false) == false && decide (c ≥ (48 : Int)) == true) = true → ((bif decide (c ≥ (97 : Int)) then decide (c ≤ (122 : Int)) else false) == false && decide (c ≥ (48 : Int)) == true) = true from (fun h => h)) (And.intro (show ((bif decide (c ≥ (97 : Int)) then decide (c ≤ (122 : Int)) else false) == false) = true → ((bif decide (c ≥ (97 : Int)) then decide (c ≤ (122 : Int)) else false) == false) = true from (fun h => h)) (And.intro (show ((bif decide (c ≥ (97 : Int)) then decide (c ≤ (122 : Int)) else false) == false) = true → decide (c ≥ (48 : Int)) = true → ((bif decide (c ≥ (97 : Int)) then decide (c ≤ (122 : Int)) else false) == false && decide (c ≥ (48 : Int)) == true) = true from (by (simp; omega))) (And.intro (show (bif decide (c ≥ (97 : Int)) then decide (c ≤ (122 : Int)) else false) = false → ((bif decide (c ≥ (97 : Int)) then decide (c ≤ (122 : Int)) else false) == false) = true from (by (simp; omega))) (And.intro (show ((bif bif decide (c ≥ (97 : Int)) then decide (c ≤ (122 : Int)) else false then true else bif decide (c ≥ (48 : Int)) then decide (c ≤ (57 : Int)) else false) == false) = true → ((bif bif decide (c ≥ (97 : Int)) then decide (c ≤ (122 : Int)) else false then true else bif decide (c ≥ (48 : Int)) then decide (c ≤ (57 : Int)) else false) == false) = true from (fun h => h)) (And.intro (show (bif bif decide (c ≥ (97 : Int)) then decide (c ≤ (122 : Int)) else false then true else bif decide (c ≥ (48 : Int)) then decide (c ≤ (57 : Int)) else false) = false → ((bif bif decide (c ≥ (97 : Int)) then decide (c ≤ (122 : Int)) else false then true else bif decide (c ≥ (48 : Int)) then decide (c ≤ (57 : Int)) else false) == false) = true from (by (simp; omega))) (And.intro (show ((bif bif bif decide (c ≥ (97 : Int)) then decide (c ≤ (122 : Int)) else false then true else bif decide (c ≥ (48 : Int)) then decide (c ≤ (57 : Int)) else false then true else c == (45 : Int)) == false) = true → ((bif bif bif decide (c ≥ (97 : Int)) then decide (c ≤ (122 : Int)) else false then true else bif decide (c ≥ (48 : Int)) then decide (c ≤ (57 : Int)) else false then true else c == (45 : Int)) == false) = true from (fun h => h)) (And.intro (show (bif bif bif decide (c ≥ (97 : Int)) then decide (c ≤ (122 : Int)) else false then true else bif decide (c ≥ (48 : Int)) then decide (c ≤ (57 : Int)) else false then true else c == (45 : Int)) = false → ((bif bif bif decide (c ≥ (97 : Int)) then decide (c ≤ (122 : Int)) else false then true else bif decide (c ≥ (48 : Int)) then decide (c ≤ (57 : Int)) else false then true else c == (45 : Int)) == false) = true from (by (simp; omega))) (And.intro (show ((bif bif bif bif decide (c ≥ (97 : Int)) then decide (c ≤ (122 : Int)) else false then true else bif decide (c ≥ (48 : Int)) then decide (c ≤ (57 : Int)) else false then true else c == (45 : Int) then true else c == (95 : Int)) == false) = true → ((bif bif bif bif decide (c ≥ (97 : Int)) then decide (c ≤ (122 : Int)) else false then true else bif decide (c ≥ (48 : Int)) then decide (c ≤ (57 : Int)) else false then true else c == (45 : Int) then true else c == (95 : Int)) == false) = true from (fun h => h)) (And.intro (show (bif bif bif bif decide (c ≥ (97 : Int)) then decide (c ≤ (122 : Int)) else false then true else bif decide (c ≥ (48 : Int)) then decide (c ≤ (57 : Int)) else false then true else c == (45 : Int) then true else c == (95 : Int)) = false → ((bif bif bif bif decide (c ≥ (97 : Int)) then decide (c ≤ (122 : Int)) else false then true else bif decide (c ≥ (48 : Int)) then decide (c ≤ (57 : Int)) else false then true else c == (45 : Int) then true else c == (95 : Int)) == false) = true from (by (simp; omega))) (And.intro (congrArg (fun z => !z) h2) e2'))))))))))))))))))
      · have h3 : okB (byteAt s (m : Int)) = false := h3
        unfold okB at h3
        generalize hc : byteAt s (m : Int) = c at h3
        have e1' := (congrArg (fun z => AV.int .u8 z) hc)
        exact g_x [⟨4, [], .br true .no⟩, ⟨7, [], .as (rhsOf e1')⟩, ⟨12, [], .gd⟩, ⟨13, [], .gd⟩, ⟨16, [.tm 20 (.bool false)], .no⟩, ⟨19, [], .gd⟩, ⟨20, [], .gd⟩, ⟨24, [.tm 28 (.bool false)], .no⟩, ⟨28, [.tm 32 (.bool false)], .no⟩, ⟨32, [.tm 36 (.bool false)], .no⟩, ⟨36, [], .br true .no⟩] [.sel [2]] (And.intro (show decide ((↑m : Int) < (↑s.size : Int)) = true from (by rw [decide_eq_true_iff]; omega)) (And.intro (show (0 : Int) ≤ (↑m : Int) ∧ (↑m : Int) < (↑s.size : Int) from (by omega)) (And.intro e1' (And.intro (show (decide (c ≥ (97 : Int)) == true) = true → (decide (c ≥ (97 : Int)) == true) = true from (fun h => h)) (And.intro (show decide (c ≥ (97 : Int)) = true → (decide (c ≥ (97 : Int)) == true) = true from (by (simp; done))) (And.intro (congrArg AV.bool (show (bif decide (c ≥ (97 : Int)) then decide (c ≤ (122 : Int)) else false) = false from (by simp_all; done))) (And.intro (show (decide (c ≥ (48 : Int)) == true) = true → (decide (c ≥ (48 : Int)) == true) = true from (fun h => h)) (And.intro (show decide (c ≥ (48 : Int)) = true → (decide (c ≥ (48 : Int)) == true) = true from (by (simp; done))) (And.intro (congrArg AV.bool (show (bif false then true else bif decide (c ≥ (48 : Int)) then decide (c ≤ (57 : Int)) else false) = false from (by simp_all; done))) (And.intro (congrArg AV.bool (show (bif false then true else c == (45 : Int)) = false from (by simp_all; done))) (And.intro (congrArg AV.bool (show (bif false then true else c == (95 : Int)) = false from (by simp_all; done))) (show (!bif false then true else c == (46 : Int)) = true from (by simp_all; done)))))))))))))
    rw [h1, Bool.and_false]
    have e1' := hL
    refine g_q [⟨2, [.sel [0, 3]], .loop (exOf e1') (endOf e1')⟩] [] Exit.ret (stOf 57 [(2, AV.bool false)] []) e1' ?_
    refine g_f [] [] (AV.bool false) ([]) trivial ?_
    exact ⟨rfl, rfl⟩
def jnF (l : List ByteArray) : Nat → ByteArray
  | 0 => ByteArray.empty
  | i + 1 => (if 0 < i then jnF l i ++ slB else jnF l i) ++ l.getD i bE
theorem joinedL (l : List ByteArray) (hl : l.length ≤ 1000000) (hJ : ∀ k, k ≤ l.length → (jnF l k).size ≤ 1000000) : LoopG Tryd.prog 0 Tryd.f28 0 (.exit 0) (stOf 22 [(3, .str (jnF l l.length))] []) (stOf 22 [(0, .slv l.length 1 (flatA encS l)), (3, .str (jnF l 0)), (4, .int .i64 ((0 : Nat) : Int))] []) := by
  refine loopG_of l.length (fun k => stOf 22 [(0, .slv l.length 1 (flatA encS l)), (3, .str (jnF l k)), (4, .int .i64 (k : Int))] []) (by kernel_rfl) (by simp) ?_ ?_
  · intro k hk
    have hj1 := hJ (k + 1) (by omega)
    have hj0 := hJ k (by omega)
    by_cases h0 : 0 < k
    · have e : jnF l (k + 1) = (jnF l k ++ slB) ++ l.getD k bE := by rw [jnF, if_pos h0]
      rw [e, ByteArray.size_append, ByteArray.size_append] at hj1
      have hj2 : (jnF l k).size + 1 ≤ 1000000 := by have : slB.size = 1 := rfl; omega
      have hj3 : (jnF l k ++ ByteArray.mk #[47]).size + (l.getD k ByteArray.empty).size ≤ 9223372036854775807 := by rw [ByteArray.size_append]; exact Nat.le_trans hj1 (by omega)
      rw [e]
      have e1' := (congrArg (fun z => AV.fptr z) (encS_at (l) (k) (by assumption)))
      have e2' := (congrArg (fun z => AV.int .i64 z) (wrap_i64 (e := (↑k : Int) + (1 : Int)) (by omega) (by omega)))
      exact g_x [⟨4, [], .br true .no⟩, ⟨7, [], .br true .no⟩, ⟨14, [], .as (rhsOf e1')⟩, ⟨19, [], .as (rhsOf e2')⟩] [.sel [0, 3, 4]] (And.intro (show decide ((↑k : Int) < (↑l.length : Int)) = true from (by rw [decide_eq_true_iff]; omega)) (And.intro (show decide ((↑k : Int) > (0 : Int)) = true from (by rw [decide_eq_true_iff]; omega)) (And.intro (show (jnF l k).size + 1 ≤ 9223372036854775807 from (by omega)) (And.intro (show (0 : Int) ≤ (↑k : Int) ∧ (↑k : Int) < (↑l.length : Int) from (by omega)) (And.intro e1' (And.intro (show 1 ≤ (AV.str (l.getD k ByteArray.empty) :: flatA encS (List.drop (k + 1) l)).length from (by exact Nat.le_of_ble_eq_true (by kernel_rfl))) (And.intro (show (jnF l k ++ ByteArray.mk #[(47 : UInt8)]).size + (l.getD k ByteArray.empty).size ≤ 9223372036854775807 from (by omega)) e2')))))))
    · have e : jnF l (k + 1) = jnF l k ++ l.getD k bE := by rw [jnF, if_neg h0]
      rw [e, ByteArray.size_append] at hj1
      rw [e]
      have e1' := (congrArg (fun z => AV.fptr z) (encS_at (l) (k) (by assumption)))
      have e2' := (congrArg (fun z => AV.int .i64 z) (wrap_i64 (e := (↑k : Int) + (1 : Int)) (by omega) (by omega)))
      exact g_x [⟨4, [], .br true .no⟩, ⟨7, [], .br false .no⟩, ⟨11, [], .as (rhsOf e1')⟩, ⟨16, [], .as (rhsOf e2')⟩] [.sel [0, 3, 4]] (And.intro (show decide ((↑k : Int) < (↑l.length : Int)) = true from (by rw [decide_eq_true_iff]; omega)) (And.intro (show decide ((↑k : Int) > (0 : Int)) = false from (by rw [decide_eq_false_iff_not]; omega)) (And.intro (show (0 : Int) ≤ (↑k : Int) ∧ (↑k : Int) < (↑l.length : Int) from (by omega)) (And.intro e1' (And.intro (show 1 ≤ (AV.str (l.getD k ByteArray.empty) :: flatA encS (List.drop (k + 1) l)).length from (by exact Nat.le_of_ble_eq_true (by kernel_rfl))) (And.intro (show (jnF l k).size + (l.getD k ByteArray.empty).size ≤ 9223372036854775807 from (by ((try intro h); simp_all; omega))) e2'))))))
  · exact g_x [⟨4, [], .br false .no⟩] [.sel [3]] (show decide ((↑l.length : Int) < (↑l.length : Int)) = false from (by rw [decide_eq_false_iff_not]; omega))
theorem joined_v (l : List ByteArray) (hl : l.length ≤ 1000000) (hJ : ∀ k, k ≤ l.length → (jnF l k).size ≤ 1000000) : CallsV Tryd.prog 28 [.slv l.length 1 (flatA encS l)] [] (fun av H' => av = .str (jnF l l.length) ∧ H' = []) := by
  refine callsG_at Tryd.func28 (by kernel_rfl) ?_
  have hL := joinedL l hl hJ
  rw [show jnF l 0 = ByteArray.empty from rfl] at hL
  have e1' := hL
  refine g_q [⟨3, [.sel [0, 3, 4]], .loop (exOf e1') (endOf e1')⟩] [.sel [2]] Exit.ret (stOf 22 [(2, AV.str (jnF l l.length))] []) e1' ?_
  refine g_f [] [] (AV.str (jnF l l.length)) ([]) trivial ?_
  exact ⟨rfl, rfl⟩
/-- what the library joins -/
theorem jnF_bytes (l : List ByteArray) : ∀ k, k ≤ l.length → bytes (jnF l k) = Lib.join ((l.take k).map bytes) [47]
  | 0, _ => by simp [jnF, Lib.join_nil]; rfl
  | k + 1, h => by
    have ih := jnF_bytes l k (by omega)
    have hk : k < l.length := h
    have eb : ∀ a b : ByteArray, bytes (a ++ b) = bytes a ++ bytes b := fun a b => by simp [bytes, ByteArray.data_append]
    have et : l.take (k + 1) = l.take k ++ [l.getD k bE] := by
      rw [List.take_succ_eq_append_getElem hk, List.getD_eq_getElem?_getD, List.getElem?_eq_getElem hk]; rfl
    rw [et]
    unfold jnF
    by_cases h0 : 0 < k
    · rw [if_pos h0, eb, eb, ih]
      have hne : l.take k ≠ [] := by
        intro he
        have : (l.take k).length = 0 := by rw [he]; rfl
        rw [List.length_take] at this
        omega
      cases hl : l.take k with
      | nil => exact absurd hl hne
      | cons a t =>
        rw [List.cons_append, List.map_cons, List.map_cons, Lib.join_cons, Lib.join_cons, List.map_append, Lib.joinTail, Lib.joinTail]
        simp [List.append_assoc, bytes]
    · obtain rfl : k = 0 := by omega
      rw [if_neg (by omega), eb]
      simp [jnF, Lib.join_one, bytes]
theorem join_v (l : List ByteArray) (hl : l.length ≤ 1000000) (hJ : (jnF l l.length).size ≤ 1000000) : CallsV Tryd.prog 25 [.slv l.length 1 (flatA encS l), .str slB] [] (fun av H' => av = .str (jnF l l.length) ∧ H' = []) := by
  refine CallsV.of_calls (R := fun av => av = .str (jnF l l.length)) fun p w vals hM hv => ?_
  obtain ⟨u, v, rfl, hu, hv2⟩ := two_rep hv
  have hv3 : RepF p.M w v (.str slB) := hv2
  cases hv3
  have hu' : RepF p.M w u (.slv l.length 1 (flatA encS l)) := hu
  have hjb := jnF_bytes l l.length (Nat.le_refl _)
  rw [List.take_length] at hjb
  have hsz : (Lib.join (l.map bytes) [47]).length ≤ 140737488355328 := by rw [← hjb, bytes_len]; omega
  generalize hcells : flatA encS l = cells at hu'
  cases hu' with
  | slv oa a len cap sz cells vs ho hll hcap hcm hsz1 hc hr =>
    have hat : ∀ (j : Nat) x, l[j]? = some x → w.cell? ⟨a.block, a.off + j, none⟩ = some (.string x) ∧ a.block < w.heap.size ∧ a.spot = none := fun j x hx => by
      obtain ⟨hj, rfl⟩ := List.getElem?_eq_some_iff.1 hx
      have hjc : j < cells.length := by rw [hll]; omega
      obtain ⟨h1, h2, _, h4, _⟩ := hc j hjc
      have h5 := hr j hjc
      have e : cells.getD j .junk = .str l[j] := by
        subst hcells
        have := encS_at l j hj
        rw [Int.toNat_natCast, Nat.mul_one] at this
        rw [List.getD_eq_getElem?_getD, ← List.head?_drop, this]
        simp [List.getD_eq_getElem?_getD, hj]
      rw [e] at h5
      generalize vs j = q at h4 h5
      cases h5
      exact ⟨h4, h2, h1⟩
    rcases Nat.eq_zero_or_pos l.length with h0 | h0
    · obtain rfl := List.eq_nil_of_length_eq_zero h0
      refine (Tryd.strings_Join_none oa cap slB w).mono ?_
      rintro e w' ⟨rfl, rfl⟩
      exact ⟨_, rfl, Below.refl _ _, .str (jnF [] 0), RepF.str _, rfl⟩
    · obtain ⟨_, hb, hsp⟩ := hat 0 l[0] (by simp [h0])
      rcases ho with rfl | ⟨_, rfl⟩
      · obtain ⟨bk, o, spot⟩ := a
        simp only at hsp hb hat
        subst hsp
        refine (Tryd.strings_Join bk o cap l slB w (fun j x hx => (hat j x hx).1) hb (by omega) hcap hsz).mono ?_
        rintro e w' ⟨rfl, hB⟩
        refine ⟨_, rfl, hB, .str (jnF l l.length), ?_, rfl⟩
        have e : (⟨(Lib.join (l.map (·.data.toList)) slB.data.toList).toArray⟩ : ByteArray) = jnF l l.length := bytes_inj hjb.symm
        rw [e]
        exact RepF.str _
      · omega
end Go.Proofs.YtaljnmmnmnoinaaDoor
