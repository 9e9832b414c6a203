/-
  Caches: the definition.
-/
import Derived.Test.YtcmbhebgpboepaaG9
namespace Go.Proofs.Ytcmbhebgpboepaa
open Go Go.RowKit V
set_option linter.unusedSimpArgs false
set_option linter.unusedVariables false
set_option maxHeartbeats 20000000
/-- a held object -/
def encD (e : Ent) : List AV := [.str e.1, .str sM, sigO e.2, codO e.2, namO]
/-- the definition's cache -/
def refH (r : Int) (l : List Ent) : List Blk := [.row 35 [.int .i64 r, .sl 1 0 l.length 5], .row 89 (flatA encD l)]
def refD (r : Int) (l : List Ent) : List Blk := [.row 35 [.int .i64 r, .sl 2 0 l.length 5], .dead, .row 89 (flatA encD l)]
theorem lenD (x : Ent) : (encD x).length = 5 := rfl
theorem held_at (l : List Ent) (k : Nat) (hk : k < l.length) : (flatA encD l).drop (0 + (k : Int).toNat * 5) = AV.str (l.getD k eD).1 :: AV.str sM :: sigO (l.getD k eD).2 :: codO (l.getD k eD).2 :: namO :: flatA encD (l.drop (k + 1)) := by
  rw [Nat.zero_add]; exact flatA_at lenD l eD k hk
theorem held_ge (l : List Ent) (k : Nat) (hk : k < l.length) : 5 ≤ ((flatA encD l).drop (0 + (k : Int).toNat * 5)).length := by
  rw [held_at l k hk]; simp
theorem held_noid (l : List Ent) : ∀ x ∈ flatA encD l, noid0 x = true := by
  induction l with
  | nil => intro x hx; cases hx
  | cons e l ih =>
    intro x hx
    rcases List.mem_append.1 (show x ∈ encD e ++ flatA encD l from hx) with h | h
    · simp only [encD, List.mem_cons, List.not_mem_nil, or_false] at h
      rcases h with rfl | rfl | rfl | rfl | rfl <;> rfl
    · exact ih x h
theorem held_len (l : List Ent) : (flatA encD l).length = l.length * 5 := flatA_length lenD l
theorem held_snoc (l : List Ent) (e : Ent) : (flatA encD l).take (l.length * 5) ++ [AV.str e.1, AV.str sM, sigO e.2, codO e.2, namO] = flatA encD (l ++ [e]) := by
  rw [List.take_of_length_le (Nat.le_of_eq (held_len l)), flatA_append]; rfl
theorem newR (n r : Int) (hn : 1 ≤ n ∧ n ≤ 32) (hr : 0 ≤ r ∧ r ≤ 32) : CallsV Try.prog 10 [.int .i64 n, .int .i64 r] [] (fun av H' => av = .tuple [.ptr 0 0, .int .i64 0] ∧ H' = refH r []) := by
  refine CallsV.post (R := fun av H' => av = .tuple [.ptr 0 0, .int .i64 0] ∧ H' = [.row 35 [.int .i64 r, .nilsl]]) ?_ ?_
  · refine callsG_at Try.func10 (by kernel_rfl) ?_
    refine g_q [⟨5, [.tm 8 (.bool false)], .no⟩, ⟨9, [.tm 12 (.bool false)], .no⟩, ⟨13, [.tm 16 (.bool false)], .no⟩, ⟨16, [], .br false .no⟩] [.sel [4, 5]] Exit.ret (stOf 23 [(4, AV.ptr 0 0), (5, AV.int .i64 (0 : Int))] [Blk.row 35 [AV.int .i64 r, AV.nilsl]]) (And.intro (congrArg AV.bool (show decide (n < (1 : Int)) = false from (by rw [decide_eq_false_iff_not]; omega))) (And.intro (congrArg AV.bool (show (bif false then true else decide (n > (32 : Int))) = false from (by simp_all; done))) (And.intro (congrArg AV.bool (show (bif false then true else decide (r < (0 : Int))) = false from (by simp_all; done))) (show (bif false then true else decide (r > (32 : Int))) = false from (by simp_all; done))))) ?_
    refine g_f [0] [false] (AV.tuple [AV.ptr 0 0, AV.int .i64 (0 : Int)]) ([Blk.row 35 [AV.int .i64 r, AV.nilsl]]) trivial ?_
    exact ⟨rfl, rfl⟩
  · rintro _ _ ⟨rfl, rfl⟩
    exact ⟨_, _, preL_ok (l := [.ownc 0 1 89 5]) rfl trivial, rfl, rfl⟩
theorem newR_no (n r : Int) (h : n < 1 ∨ 32 < n ∨ r < 0 ∨ 32 < r) : CallsV Try.prog 10 [.int .i64 n, .int .i64 r] [] (fun av H' => av = .tuple [.nilptr, .int .i64 1] ∧ H' = []) := by
  refine callsG_at Try.func10 (by kernel_rfl) ?_
  refine g_q [⟨5, [], .gd⟩, ⟨6, [], .gd⟩, ⟨9, [], .gd⟩, ⟨10, [], .gd⟩, ⟨13, [], .gd⟩, ⟨14, [], .gd⟩, ⟨16, [], .br true .no⟩] [.sel [4, 5]] Exit.ret (stOf 23 [(4, AV.nilptr), (5, AV.int .i64 (1 : Int))] []) (And.intro (show (decide (n < (1 : Int)) == false) = true → (decide (n < (1 : Int)) == false) = true from (fun h => h)) (And.intro (show decide (n < (1 : Int)) = false → (decide (n < (1 : Int)) == false) = true from (by (simp; done))) (And.intro (show ((bif decide (n < (1 : Int)) then true else decide (n > (32 : Int))) == false) = true → ((bif decide (n < (1 : Int)) then true else decide (n > (32 : Int))) == false) = true from (fun h => h)) (And.intro (show (bif decide (n < (1 : Int)) then true else decide (n > (32 : Int))) = false → ((bif decide (n < (1 : Int)) then true else decide (n > (32 : Int))) == false) = true from (by (simp; done))) (And.intro (show ((bif bif decide (n < (1 : Int)) then true else decide (n > (32 : Int)) then true else decide (r < (0 : Int))) == false) = true → ((bif bif decide (n < (1 : Int)) then true else decide (n > (32 : Int)) then true else decide (r < (0 : Int))) == false) = true from (fun h => h)) (And.intro (show (bif bif decide (n < (1 : Int)) then true else decide (n > (32 : Int)) then true else decide (r < (0 : Int))) = false → ((bif bif decide (n < (1 : Int)) then true else decide (n > (32 : Int)) then true else decide (r < (0 : Int))) == false) = true from (by (simp; done))) (show (bif bif bif decide (n < (1 : Int)) then true else decide (n > (32 : Int)) then true else decide (r < (0 : Int)) then true else decide (r > (32 : Int))) = true from (by simp_all; omega)))))))) ?_
  refine g_f [] [] (AV.tuple [AV.nilptr, AV.int .i64 (1 : Int)]) ([]) trivial ?_
  exact ⟨rfl, rfl⟩
theorem ev_minR (m : Int) (a : Nat) : (if (if (a : Int) < m then (a : Int) else m) > 0 then if (a : Int) < m then (a : Int) else m else 0) = ((min m.toNat a : Nat) : Int) := by
  split <;> split at * <;> omega
theorem held_sl (l : List Ent) (j s : Nat) (hs : s = 5) : [] ++ List.take (((l.length : Int).toNat - (j : Int).toNat) * s) (List.drop (0 + (j : Int).toNat * 5) (flatA encD l)) = flatA encD (l.drop j) := by
  subst hs
  rw [List.nil_append, Int.toNat_natCast, Int.toNat_natCast, Nat.zero_add, flatA_drop lenD, List.take_of_length_le]
  rw [held_len, List.length_drop]
  exact Nat.le_refl _
theorem evictR (r : Int) (l : List Ent) (m : Int) (hl : l.length ≤ 1000) : CallsV Try.prog 25 [.ptr 0 0, .int .i64 m] (refH r l) (fun av H' => av = .int .i64 (min m.toNat l.length : Nat) ∧ H' = refD r (l.drop (min m.toNat l.length))) := by
  refine callsG_at Try.func25 (by kernel_rfl) ?_
  have hle : min m.toNat l.length ≤ l.length := Nat.min_le_right _ _
  have hm := ev_minR m l.length
  generalize hj : min m.toNat l.length = j at hle hm ⊢
  have hge : l.length * 5 ≤ (flatA encD l).length := Nat.le_of_eq (held_len l).symm
  unfold refH refD
  rw [List.length_drop]
  have e1' := (congrArg (fun z => AV.int .i64 z) hm)
  have e2' := (congrArg (fun z => Blk.row 89 z) (held_sl (l) (j) (sizeT Try.prog (elemTy Try.prog 33)) (by kernel_rfl)))
  refine g_q [⟨8, [], .as (rhsOf e1')⟩, ⟨18, [.hp 2 (rhsOf e2')], .no⟩] [.sel [4], .place [some 0, none, some 2] [false, false, true]] Exit.ret (stOf 24 [(4, AV.int .i64 (↑j : Int))] [Blk.row 35 [AV.int .i64 r, AV.sl 2 0 (0 + ((↑l.length : Int).toNat - (↑j : Int).toNat)) 5], Blk.dead, Blk.row 89 (flatA encD (List.drop j l))]) (And.intro (show 1 ≤ 1 from (by omega)) (And.intro e1' (And.intro (show 1 ≤ 1 from (by omega)) (And.intro (show (0 : Int) ≤ (↑j : Int) ∧ (↑j : Int) ≤ (↑l.length : Int) ∧ (↑l.length : Int) ≤ (↑l.length : Int) from (by omega)) (And.intro (show 0 + (↑j : Int).toNat * 5 + ((↑l.length : Int).toNat - (↑j : Int).toNat) * 5 ≤ (flatA encD l).length from (by omega)) (And.intro (show (0 + ((↑l.length : Int).toNat - (↑j : Int).toNat)) * 104 ≤ 140737488355328 from (by omega)) (And.intro (show 0 + ((↑l.length : Int).toNat - (↑j : Int).toNat) ≤ maxLen from (by (unfold maxLen; omega))) (And.intro (congrArg some e2') (And.intro (show 2 ≤ 2 from (by omega)) (show ∀ (x : AV), x ∈ flatA encD (List.drop j l) → noid0 x = true from held_noid (l.drop j))))))))))) ?_
  refine g_f [0, 1, 2] [false, false, true] (AV.int .i64 (↑j : Int)) ([Blk.row 35 [AV.int .i64 r, AV.sl 2 0 (0 + ((↑l.length : Int).toNat - (↑j : Int).toNat)) 5], Blk.dead, Blk.row 89 (flatA encD (List.drop j l))]) (show ∀ (x : AV), x ∈ flatA encD (List.drop j l) → noid0 x = true from held_noid (l.drop j)) ?_
  exact ⟨rfl, by rw [Nat.zero_add]; rfl⟩
theorem held_del (l : List Ent) (i s1 s2 s3 : Nat) (hi : i < l.length) (h1 : s1 = 5) (h2 : s2 = 5) (h3 : s3 = 5) : List.take ((0 + ((i : Int).toNat - Int.toNat 0)) * s1) ([] ++ List.take (((i : Int).toNat - Int.toNat 0) * s2) (List.drop 0 (flatA encD l))) ++ List.take (((l.length : Int).toNat - ((i : Int) + 1).toNat) * s3) (List.drop (0 + ((i : Int) + 1).toNat * 5) (flatA encD l)) = flatA encD (l.eraseIdx i) := by
  subst h1 h2 h3
  have e1 : ((i : Int) + 1).toNat = i + 1 := by omega
  rw [e1, Int.toNat_natCast, Int.toNat_natCast, Int.toNat_zero, Nat.sub_zero, Nat.zero_add, Nat.zero_add, List.nil_append, List.drop_zero, List.take_take, Nat.min_self, flatA_take lenD, flatA_drop lenD, List.take_of_length_le (l := flatA encD (l.drop (i + 1))), ← flatA_append, ← List.eraseIdx_eq_take_drop_succ]
  rw [held_len, List.length_drop]
  exact Nat.le_refl _
theorem held_dl (l : List Ent) (i : Nat) (hi : i < l.length) : 0 + ((i : Int).toNat - Int.toNat 0) + ((l.length : Int).toNat - ((i : Int) + 1).toNat) = (l.eraseIdx i).length := by
  rw [List.length_eraseIdx_of_lt hi]; omega
def takR (r : Int) (l : List Ent) (key : ByteArray) (k : Nat) : St := stOf 54 [(0, .ptr 0 0), (1, .str key), (4, .ptr 2 0), (6, .int .i64 (k : Int))] [.row 35 [.int .i64 r, .sl 1 0 l.length 5], .row 89 (flatA encD l), .row 89 [.str ByteArray.empty, .str ByteArray.empty, .nilsl, .nilsl, .nilsl]]
theorem takeRL_F (r : Int) (l : List Ent) (key : ByteArray) (hl : l.length ≤ 1000) (h1 : ∀ k, k < l.length → ((l.getD k eD).1.toList == key.toList) = false) : LoopG Try.prog 2 Try.f38 0 (.exit 0) (stOf 54 [(0, .ptr 0 0), (1, .str key), (4, .ptr 2 0)] [.row 35 [.int .i64 r, .sl 1 0 l.length 5], .row 89 (flatA encD l), .row 89 [.str ByteArray.empty, .str ByteArray.empty, .nilsl, .nilsl, .nilsl]]) (takR r l key 0) := by
  refine loopG_of l.length (fun k => takR r l key k) (by kernel_rfl) (by simp) ?_ ?_
  · intro k hk
    have h1 := h1 k hk
    unfold takR
    have e1' := (drop_hd (o := 0) (v := AV.str (l.getD k eD).fst) (held_at (l) (k) (by assumption)) rfl)
    have e2' := (congrArg (fun z => AV.int .i64 z) (wrap_i64 (e := (↑k : Int) + (1 : Int)) (by omega) (by omega)))
    exact g_x [⟨7, [], .br true .no⟩, ⟨15, [], .as (rhsOf e1')⟩, ⟨18, [], .br false .no⟩, ⟨20, [], .as (rhsOf e2')⟩] [.sel [0, 1, 4, 6]] (And.intro (show 1 ≤ 1 from (by omega)) (And.intro (show decide ((↑k : Int) < (↑l.length : Int)) = true from (by rw [decide_eq_true_iff]; omega)) (And.intro (show 1 ≤ 1 from (by omega)) (And.intro (show (0 : Int) ≤ (↑k : Int) ∧ (↑k : Int) < (↑l.length : Int) from (by omega)) (And.intro (show 1 ≤ (List.drop (0 + (↑k : Int).toNat * 5 + 0) (flatA encD l)).length from (drop_le (o := 0) (n := 1) (held_at (l) (k) (by assumption)) (by simp))) (And.intro e1' (And.intro (show ((l.getD k eD).fst.toList == key.toList) = false from (by assumption)) e2')))))))
  · unfold takR
    exact g_x [⟨7, [], .br false .no⟩] [.sel [0, 1, 4]] (And.intro (show 1 ≤ 1 from (by omega)) (show decide ((↑l.length : Int) < (↑l.length : Int)) = false from (by rw [decide_eq_false_iff_not]; omega)))
theorem takeRL_T (r : Int) (l : List Ent) (key : ByteArray) (hl : l.length ≤ 1000) (i : Nat) (hi : i < l.length) (h1 : ∀ k, k < i → ((l.getD k eD).1.toList == key.toList) = false) (h2 : (l.getD i eD).1 = key) : LoopG Try.prog 2 Try.f38 0 .ret (stOf 54 [(4, .ptr 2 0), (5, .bool true)] [.row 35 [.int .i64 r, .sl 3 0 (l.eraseIdx i).length 5], .row 89 (flatA encD l), .row 89 (encD (l.getD i eD)), .row 89 (flatA encD (l.eraseIdx i))]) (takR r l key 0) := by
  refine loopG_of i (fun k => takR r l key k) (by kernel_rfl) (by simp) ?_ ?_
  · intro k hk
    have h1 := h1 k hk
    have hk : k < l.length := by omega
    unfold takR
    have e1' := (drop_hd (o := 0) (v := AV.str (l.getD k eD).fst) (held_at (l) (k) (by assumption)) rfl)
    have e2' := (congrArg (fun z => AV.int .i64 z) (wrap_i64 (e := (↑k : Int) + (1 : Int)) (by omega) (by omega)))
    exact g_x [⟨7, [], .br true .no⟩, ⟨15, [], .as (rhsOf e1')⟩, ⟨18, [], .br false .no⟩, ⟨20, [], .as (rhsOf e2')⟩] [.sel [0, 1, 4, 6]] (And.intro (show 1 ≤ 1 from (by omega)) (And.intro (show decide ((↑k : Int) < (↑l.length : Int)) = true from (by rw [decide_eq_true_iff]; omega)) (And.intro (show 1 ≤ 1 from (by omega)) (And.intro (show (0 : Int) ≤ (↑k : Int) ∧ (↑k : Int) < (↑l.length : Int) from (by omega)) (And.intro (show 1 ≤ (List.drop (0 + (↑k : Int).toNat * 5 + 0) (flatA encD l)).length from (drop_le (o := 0) (n := 1) (held_at (l) (k) (by assumption)) (by simp))) (And.intro e1' (And.intro (show ((l.getD k eD).fst.toList == key.toList) = false from (by assumption)) e2')))))))
  · have h3 : ((l.getD i eD).1.toList == key.toList) = true := by rw [h2]; exact beq_self_eq_true _
    have hge : l.length * 5 ≤ (flatA encD l).length := Nat.le_of_eq (held_len l).symm
    unfold takR
    have e1' := (drop_hd (o := 0) (v := AV.str (l.getD i eD).fst) (held_at (l) (i) (by assumption)) rfl)
    have e2' := (drop_ag0 (n := 5) (v := AV.agg [AV.str (l.getD i eD).fst, AV.str sM, AV.slv 1 3 [AV.str sF, AV.nilsl, AV.int .i64 (resO (l.getD i eD).snd)], AV.slv 1 5 [AV.str sMF, AV.nilsl, AV.int .i64 (resO (l.getD i eD).snd), AV.nilsl, AV.slv 2 2 [AV.int .i64 (1 : Int), AV.int .i64 (IntKind.i64.wrap (l.getD i eD).snd), AV.int .i64 (16 : Int), AV.int .i64 (0 : Int)]], AV.slv 1 1 [AV.str sMF]]) (held_at (l) (i) (by assumption)) rfl)
    have e3' := (congrArg (fun z => AV.int .i64 z) (wrap_i64 (e := (↑i : Int) + (1 : Int)) (by omega) (by omega)))
    have e4' := (congrArg (fun z => AV.sl 5 0 z 5) (held_dl (l) (i) (by assumption)))
    have e5' := (congrArg (fun z => Blk.row 89 z) (held_del (l) (i) (sizeT Try.prog (elemTy Try.prog 33)) (sizeT Try.prog (elemTy Try.prog 33)) (sizeT Try.prog (elemTy Try.prog 33)) (by assumption) (by kernel_rfl) (by kernel_rfl) (by kernel_rfl)))
    exact g_xB [⟨7, [], .br true .no⟩, ⟨15, [], .as (rhsOf e1')⟩, ⟨18, [], .br true .no⟩, ⟨25, [], .as (rhsOf e2')⟩, ⟨41, [], .as (rhsOf e3')⟩, ⟨43, [], .as (rhsOf e4')⟩, ⟨44, [.hp 5 (rhsOf e5')], .no⟩] [.sel [4, 5], .keep [0, 1, 2, 5] [false, true, false, true]] (And.intro (show 1 ≤ 1 from (by omega)) (And.intro (show decide ((↑i : Int) < (↑l.length : Int)) = true from (by rw [decide_eq_true_iff]; omega)) (And.intro (show 1 ≤ 1 from (by omega)) (And.intro (show (0 : Int) ≤ (↑i : Int) ∧ (↑i : Int) < (↑l.length : Int) from (by omega)) (And.intro (show 1 ≤ (List.drop (0 + (↑i : Int).toNat * 5 + 0) (flatA encD l)).length from (drop_le (o := 0) (n := 1) (held_at (l) (i) (by assumption)) (by simp))) (And.intro e1' (And.intro (show ((l.getD i eD).fst.toList == key.toList) = true from (by assumption)) (And.intro (show 1 ≤ 1 from (by omega)) (And.intro (show (0 : Int) ≤ (↑i : Int) ∧ (↑i : Int) < (↑l.length : Int) from (by omega)) (And.intro (show 5 ≤ (List.drop (0 + (↑i : Int).toNat * 5) (flatA encD l)).length from (drop_le0 (n := 5) (held_at (l) (i) (by assumption)) (by simp))) (And.intro e2' (And.intro (show 5 ≤ 5 from (by omega)) (And.intro (show 1 ≤ 1 from (by omega)) (And.intro (show (0 : Int) ≤ (0 : Int) ∧ (0 : Int) ≤ (↑i : Int) ∧ (↑i : Int) ≤ (↑l.length : Int) from (by omega)) (And.intro e3' (And.intro (show 0 + ((↑i : Int).toNat - 0) * 5 ≤ (flatA encD l).length from (by omega)) (And.intro (show (0 + ((↑i : Int).toNat - 0)) * 104 ≤ 140737488355328 from (by omega)) (And.intro (show 0 + ((↑i : Int).toNat - 0) ≤ maxLen from (by (unfold maxLen; omega))) (And.intro (show 0 + ((↑i : Int).toNat - 0) * 5 ≤ (flatA encD l).length from (by omega)) (And.intro (show (0 + ((↑i : Int).toNat - 0)) * 104 ≤ 140737488355328 from (by omega)) (And.intro (show 0 + ((↑i : Int).toNat - 0) ≤ maxLen from (by (unfold maxLen; omega))) (And.intro (show 0 + ((↑i : Int).toNat - 0) * 5 ≤ (flatA encD l).length from (by omega)) (And.intro (show (0 + ((↑i : Int).toNat - 0)) * 104 ≤ 140737488355328 from (by omega)) (And.intro (show 0 + ((↑i : Int).toNat - 0) ≤ maxLen from (by (unfold maxLen; omega))) (And.intro (show 1 ≤ 1 from (by omega)) (And.intro (show 1 ≤ 1 from (by omega)) (And.intro (show 0 + ((↑i : Int).toNat - 0) * 5 ≤ (flatA encD l).length from (by omega)) (And.intro (show (0 + ((↑i : Int).toNat - 0)) * 104 ≤ 140737488355328 from (by omega)) (And.intro (show 0 + ((↑i : Int).toNat - 0) ≤ maxLen from (by (unfold maxLen; omega))) (And.intro (show (0 : Int) ≤ (↑i : Int) + (1 : Int) ∧ (↑i : Int) + (1 : Int) ≤ (↑l.length : Int) ∧ (↑l.length : Int) ≤ (↑l.length : Int) from (by omega)) (And.intro (show (0 : Int) ≤ (↑i : Int) + (1 : Int) ∧ (↑i : Int) + (1 : Int) ≤ (↑l.length : Int) ∧ (↑l.length : Int) ≤ (↑l.length : Int) from (by omega)) (And.intro (show 0 + ((↑i : Int).toNat - 0) * 5 ≤ (flatA encD l).length from (by omega)) (And.intro (show (0 + ((↑i : Int).toNat - 0)) * 104 ≤ 140737488355328 from (by omega)) (And.intro (show 0 + ((↑i : Int).toNat - 0) ≤ maxLen from (by (unfold maxLen; omega))) (And.intro (show (0 + ((↑i : Int).toNat - 0)) * 5 ≤ ([] ++ List.take (((↑i : Int).toNat - 0) * 5) (List.drop 0 (flatA encD l))).length from (by (simp; omega))) (And.intro (show 0 + ((↑i : Int) + (1 : Int)).toNat * 5 + ((↑l.length : Int).toNat - ((↑i : Int) + (1 : Int)).toNat) * 5 ≤ (flatA encD l).length from (by omega)) (And.intro (show (0 + ((↑i : Int).toNat - 0) + ((↑l.length : Int).toNat - ((↑i : Int) + (1 : Int)).toNat)) * 104 ≤ 140737488355328 from (by omega)) (And.intro (show 0 + ((↑i : Int).toNat - 0) + ((↑l.length : Int).toNat - ((↑i : Int) + (1 : Int)).toNat) ≤ maxLen from (by (unfold maxLen; omega))) (And.intro e4' (And.intro (congrArg some e5') (And.intro (show 2 ≤ 2 from (by omega)) (And.intro (show 5 ≤ 5 from (by omega)) (And.intro (show 5 ≤ 5 from (by omega)) (And.intro (show ∀ (x : AV), x ∈ flatA encD l → noid0 x = true from held_noid l) (show ∀ (x : AV), x ∈ flatA encD (l.eraseIdx i) → noid0 x = true from held_noid (l.eraseIdx i))))))))))))))))))))))))))))))))))))))))))))))
theorem takeR_F (r : Int) (l : List Ent) (key : ByteArray) (hl : l.length ≤ 1000) (h1 : ∀ k, k < l.length → ((l.getD k eD).1.toList == key.toList) = false) : CallsV Try.prog 38 [.ptr 0 0, .str key] (refH r l) (fun av H' => av = .tuple [.agg [.str ByteArray.empty, .str ByteArray.empty, .nilsl, .nilsl, .nilsl], .bool false] ∧ H' = refD r l) := by
  refine callsG_at Try.func38 (by kernel_rfl) ?_
  have hL := takeRL_F r l key hl h1
  unfold takR at hL
  unfold refH refD
  have e1' := hL
  refine g_q [⟨3, [.sel [0, 1, 4, 6]], .loop (exOf e1') (endOf e1')⟩] [.sel [4, 5], .place [some 0, none, some 1, some 2] [false, false, true, false]] Exit.ret (stOf 54 [(4, AV.ptr 3 0), (5, AV.bool false)] [Blk.row 35 [AV.int .i64 r, AV.sl 2 0 l.length 5], Blk.dead, Blk.row 89 (flatA encD l), Blk.row 89 [AV.str (ByteArray.mk #[]), AV.str (ByteArray.mk #[]), AV.nilsl, AV.nilsl, AV.nilsl]]) (And.intro e1' (And.intro (show 5 ≤ 5 from (by omega)) (show ∀ (x : AV), x ∈ flatA encD l → noid0 x = true from held_noid l))) ?_
  refine g_f [0, 1, 2] [false, false, true] (AV.tuple [AV.agg [AV.str (ByteArray.mk #[]), AV.str (ByteArray.mk #[]), AV.nilsl, AV.nilsl, AV.nilsl], AV.bool false]) ([Blk.row 35 [AV.int .i64 r, AV.sl 2 0 l.length 5], Blk.dead, Blk.row 89 (flatA encD l)]) (And.intro (show 5 ≤ 5 from (by omega)) (show ∀ (x : AV), x ∈ flatA encD l → noid0 x = true from held_noid l)) ?_
  exact ⟨rfl, rfl⟩
theorem takeR_T (r : Int) (l : List Ent) (key : ByteArray) (hl : l.length ≤ 1000) (i : Nat) (hi : i < l.length) (h1 : ∀ k, k < i → ((l.getD k eD).1.toList == key.toList) = false) (h2 : (l.getD i eD).1 = key) : CallsV Try.prog 38 [.ptr 0 0, .str key] (refH r l) (fun av H' => av = .tuple [.agg (encD (l.getD i eD)), .bool true] ∧ H' = refD r (l.eraseIdx i)) := by
  refine callsG_at Try.func38 (by kernel_rfl) ?_
  have hL := takeRL_T r l key hl i hi h1 h2
  unfold takR at hL
  unfold refH refD
  have e1' := hL
  refine g_q [⟨3, [.sel [0, 1, 4, 6]], .loop (exOf e1') (endOf e1')⟩] [.place [some 0, none, some 3, some 2] [false, false, true, false]] Exit.ret (stOf 54 [(4, AV.ptr 3 0), (5, AV.bool true)] [Blk.row 35 [AV.int .i64 r, AV.sl 2 0 (l.eraseIdx i).length 5], Blk.dead, Blk.row 89 (flatA encD (l.eraseIdx i)), Blk.row 89 [AV.str (l.getD i eD).fst, AV.str sM, AV.slv 1 3 [AV.str sF, AV.nilsl, AV.int .i64 (resO (l.getD i eD).snd)], AV.slv 1 5 [AV.str sMF, AV.nilsl, AV.int .i64 (resO (l.getD i eD).snd), AV.nilsl, AV.slv 2 2 [AV.int .i64 (1 : Int), AV.int .i64 (IntKind.i64.wrap (l.getD i eD).snd), AV.int .i64 (16 : Int), AV.int .i64 (0 : Int)]], AV.slv 1 1 [AV.str sMF]]]) (And.intro e1' (show ∀ (x : AV), x ∈ flatA encD (l.eraseIdx i) → noid0 x = true from held_noid (l.eraseIdx i))) ?_
  refine g_f [0, 1, 2] [false, false, true] (AV.tuple [AV.agg [AV.str (l.getD i eD).fst, AV.str sM, AV.slv 1 3 [AV.str sF, AV.nilsl, AV.int .i64 (resO (l.getD i eD).snd)], AV.slv 1 5 [AV.str sMF, AV.nilsl, AV.int .i64 (resO (l.getD i eD).snd), AV.nilsl, AV.slv 2 2 [AV.int .i64 (1 : Int), AV.int .i64 (IntKind.i64.wrap (l.getD i eD).snd), AV.int .i64 (16 : Int), AV.int .i64 (0 : Int)]], AV.slv 1 1 [AV.str sMF]], AV.bool true]) ([Blk.row 35 [AV.int .i64 r, AV.sl 2 0 (l.eraseIdx i).length 5], Blk.dead, Blk.row 89 (flatA encD (l.eraseIdx i))]) (And.intro (show 5 ≤ 5 from (by omega)) (show ∀ (x : AV), x ∈ flatA encD (l.eraseIdx i) → noid0 x = true from held_noid (l.eraseIdx i))) ?_
  exact ⟨rfl, rfl⟩
theorem getR_F (r : Int) (l : List Ent) (key : ByteArray) (hl : l.length ≤ 1000) (h1 : ∀ k, k < l.length → ((l.getD k eD).1.toList == key.toList) = false) : CallsV Try.prog 24 [.ptr 0 0, .str key] (refH r l) (fun av H' => av = .tuple [.agg [.str ByteArray.empty, .nilsl, .nilsl, .nilsl], .bool false] ∧ H' = refD r l) := by
  refine callsG_at Try.func24 (by kernel_rfl) ?_
  have h := takeR_F r l key hl h1
  unfold refH refD at h
  unfold refH refD
  have e1' := h
  refine g_q [⟨4, [], .callS [0, 1] [false, true] (avOf e1') (blOf e1') [false, false, true]⟩] [.sel [4, 5]] Exit.ret (stOf 28 [(4, AV.ptr 2 0), (5, AV.bool false)] [Blk.row 35 [AV.int .i64 r, AV.sl 3 0 l.length 5], Blk.dead, Blk.row 49 [AV.str ByteArray.empty, AV.nilsl, AV.nilsl, AV.nilsl], Blk.row 89 (flatA encD l), Blk.row 89 [AV.str ByteArray.empty, AV.str ByteArray.empty, AV.nilsl, AV.nilsl, AV.nilsl]]) (And.intro (show ∀ (x : AV), x ∈ flatA encD l → noid0 x = true from held_noid l) (And.intro (show ∀ (x : AV), x ∈ flatA encD l → noid0 x = true from held_noid l) (And.intro e1' (And.intro (show 5 ≤ 5 from (by omega)) (And.intro (show 4 ≤ 4 from (by omega)) (show 4 ≤ 4 from (by omega))))))) ?_
  refine g_f [0, 1, 3] [false, false, true] (AV.tuple [AV.agg [AV.str ByteArray.empty, AV.nilsl, AV.nilsl, AV.nilsl], AV.bool false]) ([Blk.row 35 [AV.int .i64 r, AV.sl 2 0 l.length 5], Blk.dead, Blk.row 89 (flatA encD l)]) (And.intro (show 4 ≤ 4 from (by omega)) (show ∀ (x : AV), x ∈ flatA encD l → noid0 x = true from held_noid l)) ?_
  exact ⟨rfl, rfl⟩
theorem getR_T (r : Int) (l : List Ent) (key : ByteArray) (hl : l.length ≤ 1000) (i : Nat) (hi : i < l.length) (h1 : ∀ k, k < i → ((l.getD k eD).1.toList == key.toList) = false) (h2 : (l.getD i eD).1 = key) : CallsV Try.prog 24 [.ptr 0 0, .str key] (refH r l) (fun av H' => av = .tuple [.agg (obV (l.getD i eD).2), .bool true] ∧ H' = refD r (l.eraseIdx i ++ [l.getD i eD])) := by
  refine callsG_at Try.func24 (by kernel_rfl) ?_
  have h := takeR_T r l key hl i hi h1 h2
  have hle : (l.eraseIdx i).length = l.length - 1 := List.length_eraseIdx_of_lt hi
  have hge : (l.eraseIdx i).length * 5 ≤ (flatA encD (l.eraseIdx i)).length := Nat.le_of_eq (held_len _).symm
  unfold refH refD at h
  unfold refH refD
  rw [snoc_len]
  have e1' := h
  have e2' := (congrArg (fun z => Blk.row 89 z) (held_snoc (l.eraseIdx i) (l.getD i eD)))
  refine g_q [⟨4, [], .callS [0, 1] [false, true] (avOf e1') (blOf e1') [false, false, true]⟩, ⟨21, [.hp 6 (rhsOf e2')], .no⟩] [.sel [4, 5]] Exit.ret (stOf 28 [(4, AV.ptr 2 0), (5, AV.bool true)] [Blk.row 35 [AV.int .i64 r, AV.sl 6 0 ((l.eraseIdx i).length + 1) 5], Blk.dead, Blk.row 49 [AV.str sM, AV.slv 1 3 [AV.str sF, AV.nilsl, AV.int .i64 (resO (l.getD i eD).snd)], AV.slv 1 5 [AV.str sMF, AV.nilsl, AV.int .i64 (resO (l.getD i eD).snd), AV.nilsl, AV.slv 2 2 [AV.int .i64 (1 : Int), AV.int .i64 (IntKind.i64.wrap (l.getD i eD).snd), AV.int .i64 (16 : Int), AV.int .i64 (0 : Int)]], AV.slv 1 1 [AV.str sMF]], Blk.dead, Blk.row 89 [AV.str (l.getD i eD).fst, AV.str sM, AV.slv 1 3 [AV.str sF, AV.nilsl, AV.int .i64 (resO (l.getD i eD).snd)], AV.slv 1 5 [AV.str sMF, AV.nilsl, AV.int .i64 (resO (l.getD i eD).snd), AV.nilsl, AV.slv 2 2 [AV.int .i64 (1 : Int), AV.int .i64 (IntKind.i64.wrap (l.getD i eD).snd), AV.int .i64 (16 : Int), AV.int .i64 (0 : Int)]], AV.slv 1 1 [AV.str sMF]], Blk.row 89 [AV.str (l.getD i eD).fst, AV.str sM, AV.slv 1 3 [AV.str sF, AV.nilsl, AV.int .i64 (resO (l.getD i eD).snd)], AV.slv 1 5 [AV.str sMF, AV.nilsl, AV.int .i64 (resO (l.getD i eD).snd), AV.nilsl, AV.slv 2 2 [AV.int .i64 (1 : Int), AV.int .i64 (IntKind.i64.wrap (l.getD i eD).snd), AV.int .i64 (16 : Int), AV.int .i64 (0 : Int)]], AV.slv 1 1 [AV.str sMF]], Blk.row 89 (flatA encD (l.eraseIdx i ++ [l.getD i eD]))]) (And.intro (show ∀ (x : AV), x ∈ flatA encD l → noid0 x = true from held_noid l) (And.intro (show ∀ (x : AV), x ∈ flatA encD (l.eraseIdx i) → noid0 x = true from held_noid (l.eraseIdx i)) (And.intro e1' (And.intro (show 5 ≤ 5 from (by omega)) (And.intro (show 1 ≤ 1 from (by omega)) (And.intro (show 5 ≤ 5 from (by omega)) (And.intro (show (l.eraseIdx i).length * 5 ≤ (flatA encD (l.eraseIdx i)).length from (by omega)) (And.intro (show 5 ≤ 5 from (by omega)) (And.intro (show ((l.eraseIdx i).length + 1) * 104 ≤ 140737488355328 from (by omega)) (And.intro (show (l.eraseIdx i).length + 1 ≤ maxLen from (by (unfold maxLen; omega))) (And.intro (congrArg some e2') (And.intro (show 2 ≤ 2 from (by omega)) (And.intro (show 4 ≤ 4 from (by omega)) (show 4 ≤ 4 from (by omega))))))))))))))) ?_
  refine g_f [0, 1, 6] [false, false, true] (AV.tuple [AV.agg [AV.str sM, AV.slv 1 3 [AV.str sF, AV.nilsl, AV.int .i64 (resO (l.getD i eD).snd)], AV.slv 1 5 [AV.str sMF, AV.nilsl, AV.int .i64 (resO (l.getD i eD).snd), AV.nilsl, AV.slv 2 2 [AV.int .i64 (1 : Int), AV.int .i64 (IntKind.i64.wrap (l.getD i eD).snd), AV.int .i64 (16 : Int), AV.int .i64 (0 : Int)]], AV.slv 1 1 [AV.str sMF]], AV.bool true]) ([Blk.row 35 [AV.int .i64 r, AV.sl 2 0 ((l.eraseIdx i).length + 1) 5], Blk.dead, Blk.row 89 (flatA encD (l.eraseIdx i ++ [l.getD i eD]))]) (And.intro (show 4 ≤ 4 from (by omega)) (show ∀ (x : AV), x ∈ flatA encD (l.eraseIdx i ++ [l.getD i eD]) → noid0 x = true from held_noid (l.eraseIdx i ++ [l.getD i eD]))) ?_
  exact ⟨rfl, rfl⟩
theorem putR_T (R : Nat) (l : List Ent) (key : ByteArray) (v : Int) (hl : l.length ≤ 1000) (i : Nat) (hi : i < l.length) (h1 : ∀ k, k < i → ((l.getD k eD).1.toList == key.toList) = false) (h2 : (l.getD i eD).1 = key) : CallsV Try.prog 23 [.ptr 0 0, .str key, .agg (obV v)] (refH (R : Int) l) (fun av H' => av = .tuple [] ∧ H' = refD (R : Int) (l.eraseIdx i ++ [(key, v)])) := by
  refine callsG_at Try.func23 (by kernel_rfl) ?_
  have h := takeR_T (R : Int) l key hl i hi h1 h2
  have hle : (l.eraseIdx i).length = l.length - 1 := List.length_eraseIdx_of_lt hi
  have hge : (l.eraseIdx i).length * 5 ≤ (flatA encD (l.eraseIdx i)).length := Nat.le_of_eq (held_len _).symm
  have hsn := held_snoc (l.eraseIdx i) (key, v)
  unfold refH refD at h
  unfold refH refD
  rw [snoc_len]
  have e1' := h
  have e2' := (congrArg (fun z => Blk.row 89 z) hsn)
  refine g_q [⟨3, [], .callS [0, 1] [false, true] (avOf e1') (blOf e1') [false, false, true]⟩, ⟨35, [.hp 6 (rhsOf e2')], .no⟩] [.sel []] Exit.normal (stOf 54 [] [Blk.row 35 [AV.int .i64 (↑R : Int), AV.sl 6 0 ((l.eraseIdx i).length + 1) 5], Blk.dead, Blk.row 49 [AV.str sM, AV.slv 1 3 [AV.str sF, AV.nilsl, AV.int .i64 (resO v)], AV.slv 1 5 [AV.str sMF, AV.nilsl, AV.int .i64 (resO v), AV.nilsl, AV.slv 2 2 [AV.int .i64 (1 : Int), AV.int .i64 (IntKind.i64.wrap v), AV.int .i64 (16 : Int), AV.int .i64 (0 : Int)]], AV.slv 1 1 [AV.str sMF]], Blk.dead, Blk.row 89 [AV.str (l.getD i eD).fst, AV.str sM, AV.slv 1 3 [AV.str sF, AV.nilsl, AV.int .i64 (resO (l.getD i eD).snd)], AV.slv 1 5 [AV.str sMF, AV.nilsl, AV.int .i64 (resO (l.getD i eD).snd), AV.nilsl, AV.slv 2 2 [AV.int .i64 (1 : Int), AV.int .i64 (IntKind.i64.wrap (l.getD i eD).snd), AV.int .i64 (16 : Int), AV.int .i64 (0 : Int)]], AV.slv 1 1 [AV.str sMF]], Blk.row 89 [AV.str key, AV.str sM, AV.slv 1 3 [AV.str sF, AV.nilsl, AV.int .i64 (resO v)], AV.slv 1 5 [AV.str sMF, AV.nilsl, AV.int .i64 (resO v), AV.nilsl, AV.slv 2 2 [AV.int .i64 (1 : Int), AV.int .i64 (IntKind.i64.wrap v), AV.int .i64 (16 : Int), AV.int .i64 (0 : Int)]], AV.slv 1 1 [AV.str sMF]], Blk.row 89 (flatA encD (l.eraseIdx i ++ [(key, v)]))]) (And.intro (show ∀ (x : AV), x ∈ flatA encD l → noid0 x = true from held_noid l) (And.intro (show ∀ (x : AV), x ∈ flatA encD (l.eraseIdx i) → noid0 x = true from held_noid (l.eraseIdx i)) (And.intro e1' (And.intro (show 5 ≤ 5 from (by omega)) (And.intro (show false = true → false = true from (fun h => h)) (And.intro (show 1 ≤ 1 from (by omega)) (And.intro (show 4 ≤ 4 from (by omega)) (And.intro (show (l.eraseIdx i).length * 5 ≤ (flatA encD (l.eraseIdx i)).length from (by omega)) (And.intro (show 5 ≤ 5 from (by omega)) (And.intro (show ((l.eraseIdx i).length + 1) * 104 ≤ 140737488355328 from (by omega)) (And.intro (show (l.eraseIdx i).length + 1 ≤ maxLen from (by (unfold maxLen; omega))) (And.intro (congrArg some e2') (show 2 ≤ 2 from (by omega)))))))))))))) ?_
  refine g_finn ?_
  refine g_f [0, 1, 6] [false, false, true] (AV.tuple []) ([Blk.row 35 [AV.int .i64 (↑R : Int), AV.sl 2 0 ((l.eraseIdx i).length + 1) 5], Blk.dead, Blk.row 89 (flatA encD (l.eraseIdx i ++ [(key, v)]))]) (show ∀ (x : AV), x ∈ flatA encD (l.eraseIdx i ++ [(key, v)]) → noid0 x = true from held_noid (l.eraseIdx i ++ [(key, v)])) ?_
  exact ⟨rfl, rfl⟩
theorem putR_F (R : Nat) (l : List Ent) (key : ByteArray) (v : Int) (hl : l.length ≤ 1000) (hR : l.length < R) (h1 : ∀ k, k < l.length → ((l.getD k eD).1.toList == key.toList) = false) : CallsV Try.prog 23 [.ptr 0 0, .str key, .agg (obV v)] (refH (R : Int) l) (fun av H' => av = .tuple [] ∧ H' = refD (R : Int) (l ++ [(key, v)])) := by
  refine callsG_at Try.func23 (by kernel_rfl) ?_
  have h := takeR_F (R : Int) l key hl h1
  have hge : l.length * 5 ≤ (flatA encD l).length := Nat.le_of_eq (held_len _).symm
  have hsn := held_snoc l (key, v)
  unfold refH refD at h
  unfold refH refD
  rw [snoc_len]
  have e1' := h
  have e2' := (congrArg (fun z => Blk.row 89 z) hsn)
  refine g_q [⟨3, [], .callS [0, 1] [false, true] (avOf e1') (blOf e1') [false, false, true]⟩, ⟨24, [], .br false .no⟩, ⟨35, [.hp 6 (rhsOf e2')], .no⟩] [.sel []] Exit.normal (stOf 54 [] [Blk.row 35 [AV.int .i64 (↑R : Int), AV.sl 6 0 (l.length + 1) 5], Blk.dead, Blk.row 49 [AV.str sM, AV.slv 1 3 [AV.str sF, AV.nilsl, AV.int .i64 (resO v)], AV.slv 1 5 [AV.str sMF, AV.nilsl, AV.int .i64 (resO v), AV.nilsl, AV.slv 2 2 [AV.int .i64 (1 : Int), AV.int .i64 (IntKind.i64.wrap v), AV.int .i64 (16 : Int), AV.int .i64 (0 : Int)]], AV.slv 1 1 [AV.str sMF]], Blk.dead, Blk.row 89 [AV.str ByteArray.empty, AV.str ByteArray.empty, AV.nilsl, AV.nilsl, AV.nilsl], Blk.row 89 [AV.str key, AV.str sM, AV.slv 1 3 [AV.str sF, AV.nilsl, AV.int .i64 (resO v)], AV.slv 1 5 [AV.str sMF, AV.nilsl, AV.int .i64 (resO v), AV.nilsl, AV.slv 2 2 [AV.int .i64 (1 : Int), AV.int .i64 (IntKind.i64.wrap v), AV.int .i64 (16 : Int), AV.int .i64 (0 : Int)]], AV.slv 1 1 [AV.str sMF]], Blk.row 89 (flatA encD (l ++ [(key, v)]))]) (And.intro (show ∀ (x : AV), x ∈ flatA encD l → noid0 x = true from held_noid l) (And.intro (show ∀ (x : AV), x ∈ flatA encD l → noid0 x = true from held_noid l) (And.intro e1' (And.intro (show 5 ≤ 5 from (by omega)) (And.intro (show 1 ≤ 1 from (by omega)) (And.intro (show 1 ≤ 2 from (by omega)) (And.intro (show (bif true then decide ((↑l.length : Int) ≥ (↑R : Int)) else false) = false from (by simp_all; done)) (And.intro (show 1 ≤ 1 from (by omega)) (And.intro (show 4 ≤ 4 from (by omega)) (And.intro (show l.length * 5 ≤ (flatA encD l).length from (by omega)) (And.intro (show 5 ≤ 5 from (by omega)) (And.intro (show (l.length + 1) * 104 ≤ 140737488355328 from (by omega)) (And.intro (show l.length + 1 ≤ maxLen from (by (unfold maxLen; omega))) (And.intro (congrArg some e2') (show 2 ≤ 2 from (by omega)))))))))))))))) ?_
  refine g_finn ?_
  refine g_f [0, 1, 6] [false, false, true] (AV.tuple []) ([Blk.row 35 [AV.int .i64 (↑R : Int), AV.sl 2 0 (l.length + 1) 5], Blk.dead, Blk.row 89 (flatA encD (l ++ [(key, v)]))]) (show ∀ (x : AV), x ∈ flatA encD (l ++ [(key, v)]) → noid0 x = true from held_noid (l ++ [(key, v)])) ?_
  exact ⟨rfl, rfl⟩
theorem putR_0 (key : ByteArray) (v : Int) : CallsV Try.prog 23 [.ptr 0 0, .str key, .agg (obV v)] (refH 0 []) (fun av H' => av = .tuple [] ∧ H' = refD 0 []) := by
  refine callsG_at Try.func23 (by kernel_rfl) ?_
  have h := takeR_F 0 [] key (by simp) (fun k hk => absurd hk (by simp))
  unfold refH refD at h
  unfold refH refD
  have e1' := h
  refine g_q [⟨3, [], .callS [0, 1] [false, false] (avOf e1') (blOf e1') [false, false, false]⟩] [.sel []] Exit.ret (stOf 54 [] [Blk.row 35 [AV.int .i64 (0 : Int), AV.sl 3 0 0 5], Blk.dead, Blk.row 49 [AV.str sM, AV.slv 1 3 [AV.str sF, AV.nilsl, AV.int .i64 (resO v)], AV.slv 1 5 [AV.str sMF, AV.nilsl, AV.int .i64 (resO v), AV.nilsl, AV.slv 2 2 [AV.int .i64 (1 : Int), AV.int .i64 (IntKind.i64.wrap v), AV.int .i64 (16 : Int), AV.int .i64 (0 : Int)]], AV.slv 1 1 [AV.str sMF]], Blk.row 89 [], Blk.row 89 [AV.str ByteArray.empty, AV.str ByteArray.empty, AV.nilsl, AV.nilsl, AV.nilsl]]) (And.intro e1' (And.intro (show 5 ≤ 5 from (by omega)) (And.intro (show 1 ≤ 1 from (by omega)) (And.intro (show 1 ≤ 2 from (by omega)) (show 1 ≤ 2 from (by omega)))))) ?_
  refine g_f [0, 1, 3] [false, false, false] (AV.tuple []) ([Blk.row 35 [AV.int .i64 (0 : Int), AV.sl 2 0 0 5], Blk.dead, Blk.row 89 []]) trivial ?_
  exact ⟨rfl, rfl⟩
theorem held_d1 (l : List Ent) (s : Nat) (hs : s = 5) : [] ++ List.take (((l.length : Int).toNat - Int.toNat 1) * s) (List.drop 5 (flatA encD l)) = flatA encD (l.drop 1) := by
  subst hs
  rw [List.nil_append, Int.toNat_natCast, show Int.toNat 1 = 1 from rfl]
  have e : List.drop 5 (flatA encD l) = flatA encD (l.drop 1) := flatA_drop lenD l 1
  rw [e, List.take_of_length_le]
  rw [held_len, List.length_drop]
  exact Nat.le_refl _
theorem held_l1 (l : List Ent) : 0 + ((l.length : Int).toNat - Int.toNat 1) = (l.drop 1).length := by
  rw [List.length_drop]; omega
theorem putR_E (l : List Ent) (key : ByteArray) (v : Int) (hl : l.length ≤ 1000) (h0 : 0 < l.length) (h1 : ∀ k, k < l.length → ((l.getD k eD).1.toList == key.toList) = false) : CallsV Try.prog 23 [.ptr 0 0, .str key, .agg (obV v)] (refH (l.length : Int) l) (fun av H' => av = .tuple [] ∧ H' = refD (l.length : Int) (l.drop 1 ++ [(key, v)])) := by
  refine callsG_at Try.func23 (by kernel_rfl) ?_
  have h := takeR_F (l.length : Int) l key hl h1
  have hle : (l.drop 1).length = l.length - 1 := List.length_drop
  have hge : l.length * 5 ≤ (flatA encD l).length := Nat.le_of_eq (held_len _).symm
  have hge2 : (l.drop 1).length * 5 ≤ (flatA encD (l.drop 1)).length := Nat.le_of_eq (held_len _).symm
  have hsn := held_snoc (l.drop 1) (key, v)
  unfold refH refD at h
  unfold refH refD
  rw [snoc_len]
  have e1' := h
  have e2' := (congrArg (fun z => AV.sl 5 0 z 5) (held_l1 (l)))
  have e3' := (congrArg (fun z => Blk.row 89 z) (held_d1 (l) (sizeT Try.prog (elemTy Try.prog 33)) (by kernel_rfl)))
  have e4' := (congrArg (fun z => Blk.row 89 z) hsn)
  refine g_q [⟨3, [], .callS [0, 1] [false, true] (avOf e1') (blOf e1') [false, false, true]⟩, ⟨24, [], .br true .no⟩, ⟨30, [], .br false .no⟩, ⟨37, [], .as (rhsOf e2')⟩, ⟨38, [.hp 5 (rhsOf e3')], .no⟩, ⟨51, [.hp 7 (rhsOf e4')], .no⟩] [.sel []] Exit.normal (stOf 54 [] [Blk.row 35 [AV.int .i64 (↑l.length : Int), AV.sl 7 0 ((List.drop 1 l).length + 1) 5], Blk.dead, Blk.row 49 [AV.str sM, AV.slv 1 3 [AV.str sF, AV.nilsl, AV.int .i64 (resO v)], AV.slv 1 5 [AV.str sMF, AV.nilsl, AV.int .i64 (resO v), AV.nilsl, AV.slv 2 2 [AV.int .i64 (1 : Int), AV.int .i64 (IntKind.i64.wrap v), AV.int .i64 (16 : Int), AV.int .i64 (0 : Int)]], AV.slv 1 1 [AV.str sMF]], Blk.row 89 (flatA encD l), Blk.row 89 [AV.str ByteArray.empty, AV.str ByteArray.empty, AV.nilsl, AV.nilsl, AV.nilsl], Blk.dead, Blk.row 89 [AV.str key, AV.str sM, AV.slv 1 3 [AV.str sF, AV.nilsl, AV.int .i64 (resO v)], AV.slv 1 5 [AV.str sMF, AV.nilsl, AV.int .i64 (resO v), AV.nilsl, AV.slv 2 2 [AV.int .i64 (1 : Int), AV.int .i64 (IntKind.i64.wrap v), AV.int .i64 (16 : Int), AV.int .i64 (0 : Int)]], AV.slv 1 1 [AV.str sMF]], Blk.row 89 (flatA encD (List.drop 1 l ++ [(key, v)]))]) (And.intro (show ∀ (x : AV), x ∈ flatA encD l → noid0 x = true from held_noid l) (And.intro (show ∀ (x : AV), x ∈ flatA encD l → noid0 x = true from held_noid l) (And.intro e1' (And.intro (show 5 ≤ 5 from (by omega)) (And.intro (show 1 ≤ 1 from (by omega)) (And.intro (show 1 ≤ 2 from (by omega)) (And.intro (show (bif true then decide ((↑l.length : Int) ≥ (↑l.length : Int)) else false) = true from (by simp_all; done)) (And.intro (show 1 ≤ 2 from (by omega)) (And.intro (show ((↑l.length : Int) == (0 : Int)) = false from (by rw [beq_eq_false_iff_ne]; omega)) (And.intro (show 1 ≤ 1 from (by omega)) (And.intro (show (0 : Int) ≤ (1 : Int) ∧ (1 : Int) ≤ (↑l.length : Int) ∧ (↑l.length : Int) ≤ (↑l.length : Int) from (by omega)) (And.intro (show 5 + ((↑l.length : Int).toNat - 1) * 5 ≤ (flatA encD l).length from (by omega)) (And.intro (show (0 + ((↑l.length : Int).toNat - 1)) * 104 ≤ 140737488355328 from (by omega)) (And.intro (show 0 + ((↑l.length : Int).toNat - 1) ≤ maxLen from (by (unfold maxLen; omega))) (And.intro e2' (And.intro (congrArg some e3') (And.intro (show 2 ≤ 2 from (by omega)) (And.intro (show 1 ≤ 1 from (by omega)) (And.intro (show 4 ≤ 4 from (by omega)) (And.intro (show (List.drop 1 l).length * 5 ≤ (flatA encD (List.drop 1 l)).length from (by omega)) (And.intro (show 5 ≤ 5 from (by omega)) (And.intro (show ((List.drop 1 l).length + 1) * 104 ≤ 140737488355328 from (by omega)) (And.intro (show (List.drop 1 l).length + 1 ≤ maxLen from (by (unfold maxLen; omega))) (And.intro (congrArg some e4') (show 2 ≤ 2 from (by omega)))))))))))))))))))))))))) ?_
  refine g_finn ?_
  refine g_f [0, 1, 7] [false, false, true] (AV.tuple []) ([Blk.row 35 [AV.int .i64 (↑l.length : Int), AV.sl 2 0 ((List.drop 1 l).length + 1) 5], Blk.dead, Blk.row 89 (flatA encD (List.drop 1 l ++ [(key, v)]))]) (show ∀ (x : AV), x ∈ flatA encD (List.drop 1 l ++ [(key, v)]) → noid0 x = true from held_noid (l.drop 1 ++ [(key, v)])) ?_
  exact ⟨rfl, rfl⟩
end Go.Proofs.Ytcmbhebgpboepaa
