/-
  Stores: the definition's Put.
-/
import Derived.Test.YtkdgnjoofhckeaaC9
namespace Go.Proofs.Ytkdgnjoofhckeaa
open Go Go.RowKit V
set_option linter.unusedSimpArgs false
set_option linter.unusedVariables false
set_option maxHeartbeats 20000000
def puS (n r : Int) (l : List It) (A : List Int) (b : ByteArray) (k : Nat) : St := stOf 107 [(0, .ptr 0 0), (1, bv b), (4, .ptr 3 0), (6, .int .i64 (k : Int))] (refH n r l A ++ [kRow 0 0])
theorem puL_F (n r : Int) (l : List It) (A : List Int) (b : ByteArray) (hl : l.length ≤ 1000) (h1 : ∀ k, k < l.length → ((l.getD k iD).1.toList == b.toList) = false) : LoopG Try.prog 3 Try.f19 0 (.exit 0) (stOf 107 [(0, .ptr 0 0), (1, bv b), (4, .ptr 3 0)] (refH n r l A ++ [kRow 0 0])) (puS n r l A b 0) := by
  refine loopG_of l.length (fun k => puS n r l A b k) (by kernel_rfl) (by simp) ?_ ?_
  · intro k hk
    have h1 := h1 k hk
    unfold puS refH
    have e1' := (drop_hd (o := 2) (v := AV.str (l.getD k iD).fst) (rts_at n (l) (k) (by assumption)) rfl)
    have e2' := (congrArg (fun z => AV.str z) (str_bytes (b)))
    have e3' := (congrArg (fun z => AV.int .i64 z) (wrap_i64 (e := (↑k : Int) + (1 : Int)) (by omega) (by omega)))
    exact g_x [⟨7, [], .br true .no⟩, ⟨15, [], .as (rhsOf e1')⟩, ⟨17, [], .as (rhsOf e2')⟩, ⟨19, [], .br false .no⟩, ⟨21, [], .as (rhsOf e3')⟩] [.sel [0, 1, 4, 6]] (And.intro (show 1 ≤ 2 from (by omega)) (And.intro (show decide ((↑k : Int) < (↑l.length : Int)) = true from (by rw [decide_eq_true_iff]; omega)) (And.intro (show 1 ≤ 2 from (by omega)) (And.intro (show (0 : Int) ≤ (↑k : Int) ∧ (↑k : Int) < (↑l.length : Int) from (by omega)) (And.intro (show 1 ≤ (List.drop (0 + (↑k : Int).toNat * 3 + 2) (flatA (encR n) l)).length from (drop_le (o := 2) (n := 1) (rts_at n (l) (k) (by assumption)) (by simp))) (And.intro e1' (And.intro (show (bytesAV b).all isU8 = true from bytes_u8 b) (And.intro e2' (And.intro (show ((l.getD k iD).fst.toList == b.toList) = false from (by assumption)) e3')))))))))
  · unfold puS refH
    exact g_x [⟨7, [], .br false .no⟩] [.sel [0, 1, 4]] (And.intro (show 1 ≤ 2 from (by omega)) (show decide ((↑l.length : Int) < (↑l.length : Int)) = false from (by rw [decide_eq_false_iff_not]; omega)))
theorem puL_T (n r : Int) (l : List It) (A : List Int) (b : ByteArray) (hl : l.length ≤ 1000) (i : Nat) (hi : i < l.length) (h1 : ∀ k, k < i → ((l.getD k iD).1.toList == b.toList) = false) (h2 : (l.getD i iD).1 = b) : LoopG Try.prog 3 Try.f19 0 .ret (stOf 107 [(4, .ptr 3 0), (5, .bool true)] [.row 38 [.int .i64 n, .int .i64 r, .sl 4 0 (l.eraseIdx i ++ [l.getD i iD]).length 3, .sl 5 0 A.length 1], .dead, .dead, kRow (textF (l.getD i iD).1 n) (l.getD i iD).2, .row 74 (flatA (encR n) (l.eraseIdx i ++ [l.getD i iD])), .row 42 (flatA encA A)]) (puS n r l A b 0) := by
  refine loopG_of i (fun k => puS n r l A b k) (by kernel_rfl) (by simp) ?_ ?_
  · intro k hk
    have h1 := h1 k hk
    have hk : k < l.length := by omega
    unfold puS refH
    have e1' := (drop_hd (o := 2) (v := AV.str (l.getD k iD).fst) (rts_at n (l) (k) (by assumption)) rfl)
    have e2' := (congrArg (fun z => AV.str z) (str_bytes (b)))
    have e3' := (congrArg (fun z => AV.int .i64 z) (wrap_i64 (e := (↑k : Int) + (1 : Int)) (by omega) (by omega)))
    exact g_x [⟨7, [], .br true .no⟩, ⟨15, [], .as (rhsOf e1')⟩, ⟨17, [], .as (rhsOf e2')⟩, ⟨19, [], .br false .no⟩, ⟨21, [], .as (rhsOf e3')⟩] [.sel [0, 1, 4, 6]] (And.intro (show 1 ≤ 2 from (by omega)) (And.intro (show decide ((↑k : Int) < (↑l.length : Int)) = true from (by rw [decide_eq_true_iff]; omega)) (And.intro (show 1 ≤ 2 from (by omega)) (And.intro (show (0 : Int) ≤ (↑k : Int) ∧ (↑k : Int) < (↑l.length : Int) from (by omega)) (And.intro (show 1 ≤ (List.drop (0 + (↑k : Int).toNat * 3 + 2) (flatA (encR n) l)).length from (drop_le (o := 2) (n := 1) (rts_at n (l) (k) (by assumption)) (by simp))) (And.intro e1' (And.intro (show (bytesAV b).all isU8 = true from bytes_u8 b) (And.intro e2' (And.intro (show ((l.getD k iD).fst.toList == b.toList) = false from (by assumption)) e3')))))))))
  · have h3 : ((l.getD i iD).1.toList == b.toList) = true := by rw [h2]; exact beq_self_eq_true _
    have hu := useR n r l A hl i hi
    unfold refH refD at hu
    unfold puS refH
    have e1' := (drop_hd (o := 2) (v := AV.str (l.getD i iD).fst) (rts_at n (l) (i) (by assumption)) rfl)
    have e2' := (congrArg (fun z => AV.str z) (str_bytes (b)))
    have e3' := hu
    exact g_x [⟨7, [], .br true .no⟩, ⟨15, [], .as (rhsOf e1')⟩, ⟨17, [], .as (rhsOf e2')⟩, ⟨19, [], .br true .no⟩, ⟨22, [], .callS [0, 1, 2] [false, true, true] (avOf e3') (blOf e3') [false, false, false, true, true]⟩] [.sel [4, 5]] (And.intro (show 1 ≤ 2 from (by omega)) (And.intro (show decide ((↑i : Int) < (↑l.length : Int)) = true from (by rw [decide_eq_true_iff]; omega)) (And.intro (show 1 ≤ 2 from (by omega)) (And.intro (show (0 : Int) ≤ (↑i : Int) ∧ (↑i : Int) < (↑l.length : Int) from (by omega)) (And.intro (show 1 ≤ (List.drop (0 + (↑i : Int).toNat * 3 + 2) (flatA (encR n) l)).length from (drop_le (o := 2) (n := 1) (rts_at n (l) (i) (by assumption)) (by simp))) (And.intro e1' (And.intro (show (bytesAV b).all isU8 = true from bytes_u8 b) (And.intro e2' (And.intro (show ((l.getD i iD).fst.toList == b.toList) = true from (by assumption)) (And.intro (show ∀ (x : AV), x ∈ flatA (encR n) l → noid0 x = true from rts_noid n l) (And.intro (show ∀ (x : AV), x ∈ flatA encA A → noid0 x = true from encA_noid A) (And.intro (show ∀ (x : AV), x ∈ flatA (encR n) (l.eraseIdx i ++ [l.getD i iD]) → noid0 x = true from rts_noid n (l.eraseIdx i ++ [l.getD i iD])) (And.intro (show ∀ (x : AV), x ∈ flatA encA A → noid0 x = true from encA_noid A) (And.intro e3' (And.intro (show 0 < 3 from (by omega)) (show 2 ≤ 2 from (by omega)))))))))))))))))
theorem putR_T (n r : Int) (l : List It) (A : List Int) (b : ByteArray) (hl : l.length ≤ 1000) (i : Nat) (hi : i < l.length) (h1 : ∀ k, k < i → ((l.getD k iD).1.toList == b.toList) = false) (h2 : (l.getD i iD).1 = b) : CallsV Try.prog 19 [.ptr 0 0, bv b] (refH n r l A) (fun av H' => av = .tuple [keyV n (l.getD i iD), .bool true] ∧ H' = refD n r (l.eraseIdx i ++ [l.getD i iD]) A) := by
  refine callsG_at Try.func19 (by kernel_rfl) ?_
  have hL := puL_T n r l A b hl i hi h1 h2
  unfold puS refH at hL
  unfold refH refD
  have e1' := hL
  refine g_q [⟨3, [.sel [0, 1, 4, 6]], .loop (exOf e1') (endOf e1')⟩] [] Exit.ret (stOf 107 [(4, AV.ptr 3 0), (5, AV.bool true)] [Blk.row 38 [AV.int .i64 n, AV.int .i64 r, AV.sl 4 0 (l.eraseIdx i ++ [l.getD i iD]).length 3, AV.sl 5 0 A.length 1], Blk.dead, Blk.dead, Blk.row 44 [AV.int .u32 (textF (l.getD i iD).fst n), AV.int .i64 (l.getD i iD).snd], Blk.row 74 (flatA (encR n) (l.eraseIdx i ++ [l.getD i iD])), Blk.row 42 (flatA encA A)]) e1' ?_
  refine g_f [0, 1, 2, 4, 5] [false, false, false, true, true] (AV.tuple [AV.agg [AV.int .u32 (textF (l.getD i iD).fst n), AV.int .i64 (l.getD i iD).snd], AV.bool true]) ([Blk.row 38 [AV.int .i64 n, AV.int .i64 r, AV.sl 3 0 (l.eraseIdx i ++ [l.getD i iD]).length 3, AV.sl 4 0 A.length 1], Blk.dead, Blk.dead, Blk.row 74 (flatA (encR n) (l.eraseIdx i ++ [l.getD i iD])), Blk.row 42 (flatA encA A)]) (And.intro (show 2 ≤ 2 from (by omega)) (And.intro (show ∀ (x : AV), x ∈ flatA (encR n) (l.eraseIdx i ++ [l.getD i iD]) → noid0 x = true from rts_noid n (l.eraseIdx i ++ [l.getD i iD])) (show ∀ (x : AV), x ∈ flatA encA A → noid0 x = true from encA_noid A))) ?_
  exact ⟨rfl, rfl⟩
/-- how many of the first keys have this digest -/
def cntK (A : List Int) (d : Int) (k : Nat) : Nat := (A.take k).count d
theorem cntK_le (A : List Int) (d : Int) (k : Nat) : cntK A d k ≤ k := Nat.le_trans List.count_le_length (by rw [List.length_take]; omega)
theorem cntK_next (A : List Int) (d : Int) (k : Nat) (hk : k < A.length) : cntK A d (k + 1) = cntK A d k + if A.getD k 0 = d then 1 else 0 := by
  unfold cntK
  rw [List.take_succ_eq_append_getElem hk, List.count_append, List.getD_eq_getElem?_getD, List.getElem?_eq_getElem hk]
  by_cases h : A[k] = d
  · simp [h]
  · simp [h]
def nuS (n r : Int) (l : List It) (A : List Int) (b : ByteArray) (d : Int) (k : Nat) : St := stOf 107 [(0, .ptr 0 0), (1, bv b), (4, .ptr 3 0), (7, .ptr 4 0), (8, .int .i64 (k : Int))] (refH n r l A ++ [kRow 0 0, kRow d (cntK A d k : Nat)])
theorem nuL (n r : Int) (l : List It) (A : List Int) (b : ByteArray) (d : Int) (hA : A.length ≤ 1000) : LoopG Try.prog 3 Try.f19 1 (.exit 2) (stOf 107 [(0, .ptr 0 0), (1, bv b), (4, .ptr 3 0), (7, .ptr 4 0)] (refH n r l A ++ [kRow 0 0, kRow d (A.count d : Nat)])) (nuS n r l A b d 0) := by
  refine loopG_of A.length (fun k => nuS n r l A b d k) (by kernel_rfl) (by simp) ?_ ?_
  · intro k hk
    have hc := cntK_next A d k hk
    have hle := cntK_le A d k
    have hgk := encA_gk A k hk
    have hat := encA_at0 A k hk
    unfold nuS refH
    rw [hc]
    generalize cntK A d k = c at hle ⊢
    generalize A.getD k 0 = z at *
    by_cases hz : z = d
    · have hq : (z == d) = true := by rw [hz]; exact beq_self_eq_true _
      rw [if_pos hz]
      have e1' := (drop_hd0 (v := AV.int .u32 z) hat rfl)
      have e2' := (congrArg (fun z => AV.int .i64 z) (wrap_i64 (e := (↑c : Int) + (1 : Int)) (by omega) (by omega)))
      have e3' := (congrArg (fun z => AV.int .i64 z) (wrap_i64 (e := (↑k : Int) + (1 : Int)) (by omega) (by omega)))
      exact g_x [⟨7, [], .br true .no⟩, ⟨14, [], .as (rhsOf e1')⟩, ⟨18, [], .br true .no⟩, ⟨21, [], .as (rhsOf e2')⟩, ⟨25, [], .as (rhsOf e3')⟩] [.sel [0, 1, 4, 7, 8]] (And.intro (show 1 ≤ 1 from (by omega)) (And.intro (show decide ((↑k : Int) < (↑A.length : Int)) = true from (by rw [decide_eq_true_iff]; omega)) (And.intro (show 1 ≤ 1 from (by omega)) (And.intro (show (0 : Int) ≤ (↑k : Int) ∧ (↑k : Int) < (↑A.length : Int) from (by omega)) (And.intro (show 1 ≤ (List.drop (0 + (↑k : Int).toNat * 1) (flatA encA A)).length from (drop_le0 (n := 1) hat (by simp))) (And.intro e1' (And.intro (show 1 ≤ 2 from (by omega)) (And.intro (show (z == d) = true from (by assumption)) (And.intro (show 1 ≤ 1 from (by omega)) (And.intro e2' (And.intro (show 2 ≤ 2 from (by omega)) e3')))))))))))
    · have hq : (z == d) = false := beq_eq_false_iff_ne.2 hz
      rw [if_neg hz, Nat.add_zero]
      have e1' := (drop_hd0 (v := AV.int .u32 z) hat rfl)
      have e2' := (congrArg (fun z => AV.int .i64 z) (wrap_i64 (e := (↑k : Int) + (1 : Int)) (by omega) (by omega)))
      exact g_x [⟨7, [], .br true .no⟩, ⟨14, [], .as (rhsOf e1')⟩, ⟨18, [], .br false .no⟩, ⟨20, [], .as (rhsOf e2')⟩] [.sel [0, 1, 4, 7, 8]] (And.intro (show 1 ≤ 1 from (by omega)) (And.intro (show decide ((↑k : Int) < (↑A.length : Int)) = true from (by rw [decide_eq_true_iff]; omega)) (And.intro (show 1 ≤ 1 from (by omega)) (And.intro (show (0 : Int) ≤ (↑k : Int) ∧ (↑k : Int) < (↑A.length : Int) from (by omega)) (And.intro (show 1 ≤ (List.drop (0 + (↑k : Int).toNat * 1) (flatA encA A)).length from (drop_le0 (n := 1) hat (by simp))) (And.intro e1' (And.intro (show 1 ≤ 2 from (by omega)) (And.intro (show (z == d) = false from (by assumption)) e2'))))))))
  · have e : cntK A d A.length = A.count d := by unfold cntK; rw [List.take_length]
    unfold nuS refH
    rw [e]
    exact g_x [⟨7, [], .br false .no⟩] [.sel [0, 1, 4, 7]] (And.intro (show 1 ≤ 1 from (by omega)) (show decide ((↑A.length : Int) < (↑A.length : Int)) = false from (by rw [decide_eq_false_iff_not]; omega)))
theorem rts_d1 (n : Int) (l : List It) (s : Nat) (hs : s = 3) : [] ++ List.take (((l.length : Int).toNat - Int.toNat 1) * s) (List.drop 3 (flatA (encR n) l)) = flatA (encR n) (l.drop 1) := by
  subst hs
  rw [List.nil_append, Int.toNat_natCast, show Int.toNat 1 = 1 from rfl]
  have e : List.drop 3 (flatA (encR n) l) = flatA (encR n) (l.drop 1) := flatA_drop (lenR n) l 1
  rw [e, List.take_of_length_le]
  rw [rts_len, List.length_drop]
  exact Nat.le_refl _
theorem rts_l1 (l : List It) : 0 + ((l.length : Int).toNat - Int.toNat 1) = (l.drop 1).length := by
  rw [List.length_drop]; omega
theorem cnt0 (A : List Int) (d : Int) : cntK A d 0 = 0 := rfl
theorem putR_F (n : Int) (R : Nat) (l : List It) (A : List Int) (b : ByteArray) (hn : 1 ≤ n ∧ n ≤ 32) (hb : b.size ≤ 1000000) (hl : l.length ≤ 1000) (hA : A.length ≤ 1000) (hR : l.length < R) (h1 : ∀ k, k < l.length → ((l.getD k iD).1.toList == b.toList) = false) : CallsV Try.prog 19 [.ptr 0 0, bv b] (refH n (R : Int) l A) (fun av H' => av = .tuple [keyV n (b, ((A.count (textF b n) : Nat) : Int)), .bool true] ∧ H' = refD n (R : Int) (l ++ [(b, ((A.count (textF b n) : Nat) : Int))]) (A ++ [textF b n])) := by
  refine callsG_at Try.func19 (by kernel_rfl) ?_
  have hL := puL_F n R l A b hl h1
  have hN := nuL n R l A b (textF b n) hA
  have sv := refSum_v b n hb hn
  have hmx : b.size ≤ maxLen := by unfold maxLen; omega
  have hge : l.length * 3 ≤ (flatA (encR n) l).length := Nat.le_of_eq (rts_len n l).symm
  have hgA := encA_ge A
  have hsn := rts_snoc n l (b, ((A.count (textF b n) : Nat) : Int))
  have hsA := encA_snoc A (textF b n)
  have hlA : (A ++ [textF b n]).length = A.length + 1 := by simp
  have e0 : (cntK A (textF b n) 0 : Int) = 0 := rfl
  unfold puS refH at hL
  unfold nuS refH at hN
  unfold refH refD
  rw [snoc_len, hlA]
  rw [e0] at hN
  simp only [keyV]
  generalize textF b n = d at *
  have e1' := hL
  have e2' := sv
  have e3' := hN
  have e4' := (congrArg (fun z => Blk.row 42 z) hsA)
  have e5' := (congrArg (fun z => AV.str z) (str_bytes (b)))
  have e6' := (congrArg (fun z => Blk.row 74 z) hsn)
  refine g_q [⟨3, [.sel [0, 1, 4, 6]], .loop (exOf e1') (endOf e1')⟩, ⟨9, [], .call (avOf e2') (blOf e2') []⟩, ⟨14, [.sel [0, 1, 4, 7, 8]], .loop (exOf e3') (endOf e3')⟩, ⟨24, [.hp 6 (rhsOf e4')], .no⟩, ⟨37, [], .br false .no⟩, ⟨45, [], .as (rhsOf e5')⟩, ⟨49, [.hp 8 (rhsOf e6')], .no⟩] [.sel [4, 5]] Exit.ret (stOf 107 [(4, AV.ptr 3 0), (5, AV.bool true)] [Blk.row 38 [AV.int .i64 n, AV.int .i64 (↑R : Int), AV.sl 8 0 (l.length + 1) 3, AV.sl 6 0 (A.length + 1) 1], Blk.dead, Blk.dead, Blk.row 44 [AV.int .u32 d, AV.int .i64 (↑(List.count d A) : Int)], Blk.row 44 [AV.int .u32 d, AV.int .i64 (↑(List.count d A) : Int)], Blk.row 42 [AV.int .u32 d], Blk.row 42 (flatA encA (A ++ [d])), Blk.row 74 [AV.int .u32 d, AV.int .i64 (↑(List.count d A) : Int), AV.str b], Blk.row 74 (flatA (encR n) (l ++ [(b, (↑(List.count d A) : Int))]))]) (And.intro e1' (And.intro (show 1 ≤ 4 from (by omega)) (And.intro e2' (And.intro (show 2 ≤ 2 from (by omega)) (And.intro e3' (And.intro (show 1 ≤ 1 from (by omega)) (And.intro (show 1 ≤ 2 from (by omega)) (And.intro (show A.length * 1 ≤ (flatA encA A).length from (by omega)) (And.intro (show 1 ≤ 1 from (by omega)) (And.intro (show (A.length + 1) * 4 ≤ 140737488355328 from (by omega)) (And.intro (show A.length + 1 ≤ maxLen from (by (unfold maxLen; omega))) (And.intro (congrArg some e4') (And.intro (show 4 ≤ 4 from (by omega)) (And.intro (show 1 ≤ 2 from (by omega)) (And.intro (show 1 ≤ 3 from (by omega)) (And.intro (show decide ((↑l.length : Int) ≥ (↑R : Int)) = false from (by rw [decide_eq_false_iff_not]; omega)) (And.intro (show 1 ≤ 2 from (by omega)) (And.intro (show 2 ≤ 2 from (by omega)) (And.intro (show (bytesAV b).all isU8 = true from bytes_u8 b) (And.intro e5' (And.intro (show l.length * 3 ≤ (flatA (encR n) l).length from (by omega)) (And.intro (show 3 ≤ 3 from (by omega)) (And.intro (show (l.length + 1) * 32 ≤ 140737488355328 from (by omega)) (And.intro (show l.length + 1 ≤ maxLen from (by (unfold maxLen; omega))) (And.intro (congrArg some e6') (And.intro (show 3 ≤ 4 from (by omega)) (And.intro (show 2 ≤ 2 from (by omega)) (show 2 ≤ 2 from (by omega))))))))))))))))))))))))))))) ?_
  refine g_f [0, 1, 2, 8, 6] [false, false, false, true, true] (AV.tuple [AV.agg [AV.int .u32 d, AV.int .i64 (↑(List.count d A) : Int)], AV.bool true]) ([Blk.row 38 [AV.int .i64 n, AV.int .i64 (↑R : Int), AV.sl 3 0 (l.length + 1) 3, AV.sl 4 0 (A.length + 1) 1], Blk.dead, Blk.dead, Blk.row 74 (flatA (encR n) (l ++ [(b, (↑(List.count d A) : Int))])), Blk.row 42 (flatA encA (A ++ [d]))]) (And.intro (show 2 ≤ 2 from (by omega)) (And.intro (show ∀ (x : AV), x ∈ flatA (encR n) (l ++ [(b, (↑(List.count d A) : Int))]) → noid0 x = true from rts_noid n (l ++ [(b, ((A.count d : Nat) : Int))])) (show ∀ (x : AV), x ∈ flatA encA (A ++ [d]) → noid0 x = true from encA_noid (A ++ [d])))) ?_
  exact ⟨rfl, rfl⟩
theorem putR_E (n : Int) (l : List It) (A : List Int) (b : ByteArray) (hn : 1 ≤ n ∧ n ≤ 32) (hb : b.size ≤ 1000000) (hl : l.length ≤ 1000) (hA : A.length ≤ 1000) (h0 : 0 < l.length) (h1 : ∀ k, k < l.length → ((l.getD k iD).1.toList == b.toList) = false) : CallsV Try.prog 19 [.ptr 0 0, bv b] (refH n (l.length : Int) l A) (fun av H' => av = .tuple [keyV n (b, ((A.count (textF b n) : Nat) : Int)), .bool true] ∧ H' = refD n (l.length : Int) (l.drop 1 ++ [(b, ((A.count (textF b n) : Nat) : Int))]) (A ++ [textF b n])) := by
  refine callsG_at Try.func19 (by kernel_rfl) ?_
  have hL := puL_F n l.length l A b hl h1
  have hN := nuL n l.length l A b (textF b n) hA
  have sv := refSum_v b n hb hn
  have hmx : b.size ≤ maxLen := by unfold maxLen; omega
  have hle : (l.drop 1).length = l.length - 1 := List.length_drop
  have hge2 : (l.drop 1).length * 3 ≤ (flatA (encR n) (l.drop 1)).length := Nat.le_of_eq (rts_len n _).symm
  have hge : l.length * 3 ≤ (flatA (encR n) l).length := Nat.le_of_eq (rts_len n l).symm
  have hgA := encA_ge A
  have hsn := rts_snoc n (l.drop 1) (b, ((A.count (textF b n) : Nat) : Int))
  have hsA := encA_snoc A (textF b n)
  have hlA : (A ++ [textF b n]).length = A.length + 1 := by simp
  have e0 : (cntK A (textF b n) 0 : Int) = 0 := rfl
  unfold puS refH at hL
  unfold nuS refH at hN
  unfold refH refD
  rw [snoc_len, hlA]
  rw [e0] at hN
  simp only [keyV]
  generalize textF b n = d at *
  have e1' := hL
  have e2' := sv
  have e3' := hN
  have e4' := (congrArg (fun z => Blk.row 42 z) hsA)
  have e5' := (congrArg (fun z => AV.sl 7 0 z 3) (rts_l1 (l)))
  have e6' := (congrArg (fun z => Blk.row 74 z) (rts_d1 n (l) (3) (by omega)))
  have e7' := (congrArg (fun z => AV.str z) (str_bytes (b)))
  have e8' := (congrArg (fun z => Blk.row 74 z) hsn)
  refine g_q [⟨3, [.sel [0, 1, 4, 6]], .loop (exOf e1') (endOf e1')⟩, ⟨9, [], .call (avOf e2') (blOf e2') []⟩, ⟨14, [.sel [0, 1, 4, 7, 8]], .loop (exOf e3') (endOf e3')⟩, ⟨24, [.hp 6 (rhsOf e4')], .no⟩, ⟨37, [], .br true .no⟩, ⟨44, [], .as (rhsOf e5')⟩, ⟨45, [.hp 7 (rhsOf e6')], .no⟩, ⟨55, [], .as (rhsOf e7')⟩, ⟨59, [.hp 9 (rhsOf e8')], .no⟩] [.sel [4, 5], .place [some 0, none, none, some 9, some 6, some 3] [false, false, false, true, true, false]] Exit.ret (stOf 107 [(4, AV.ptr 5 0), (5, AV.bool true)] [Blk.row 38 [AV.int .i64 n, AV.int .i64 (↑l.length : Int), AV.sl 3 0 ((List.drop 1 l).length + 1) 3, AV.sl 4 0 (A.length + 1) 1], Blk.dead, Blk.dead, Blk.row 74 (flatA (encR n) (List.drop 1 l ++ [(b, (↑(List.count d A) : Int))])), Blk.row 42 (flatA encA (A ++ [d])), Blk.row 44 [AV.int .u32 d, AV.int .i64 (↑(List.count d A) : Int)]]) (And.intro e1' (And.intro (show 1 ≤ 4 from (by omega)) (And.intro e2' (And.intro (show 2 ≤ 2 from (by omega)) (And.intro e3' (And.intro (show 1 ≤ 1 from (by omega)) (And.intro (show 1 ≤ 2 from (by omega)) (And.intro (show A.length * 1 ≤ (flatA encA A).length from (by omega)) (And.intro (show 1 ≤ 1 from (by omega)) (And.intro (show (A.length + 1) * 4 ≤ 140737488355328 from (by omega)) (And.intro (show A.length + 1 ≤ maxLen from (by (unfold maxLen; omega))) (And.intro (congrArg some e4') (And.intro (show 4 ≤ 4 from (by omega)) (And.intro (show 1 ≤ 2 from (by omega)) (And.intro (show 1 ≤ 3 from (by omega)) (And.intro (show decide ((↑l.length : Int) ≥ (↑l.length : Int)) = true from (by rw [decide_eq_true_iff]; omega)) (And.intro (show 1 ≤ 2 from (by omega)) (And.intro (show (0 : Int) ≤ (1 : Int) ∧ (1 : Int) ≤ (↑l.length : Int) ∧ (↑l.length : Int) ≤ (↑l.length : Int) from (by omega)) (And.intro (show 3 + ((↑l.length : Int).toNat - 1) * 3 ≤ (flatA (encR n) l).length from (by omega)) (And.intro (show (0 + ((↑l.length : Int).toNat - 1)) * 32 ≤ 140737488355328 from (by omega)) (And.intro (show 0 + ((↑l.length : Int).toNat - 1) ≤ maxLen from (by (unfold maxLen; omega))) (And.intro e5' (And.intro (congrArg some e6') (And.intro (show 3 ≤ 4 from (by omega)) (And.intro (show 1 ≤ 2 from (by omega)) (And.intro (show 2 ≤ 2 from (by omega)) (And.intro (show (bytesAV b).all isU8 = true from bytes_u8 b) (And.intro e7' (And.intro (show (List.drop 1 l).length * 3 ≤ (flatA (encR n) (List.drop 1 l)).length from (by omega)) (And.intro (show 3 ≤ 3 from (by omega)) (And.intro (show ((List.drop 1 l).length + 1) * 32 ≤ 140737488355328 from (by omega)) (And.intro (show (List.drop 1 l).length + 1 ≤ maxLen from (by (unfold maxLen; omega))) (And.intro (congrArg some e8') (And.intro (show 3 ≤ 4 from (by omega)) (And.intro (show 2 ≤ 2 from (by omega)) (And.intro (show 2 ≤ 2 from (by omega)) (And.intro (show ∀ (x : AV), x ∈ flatA (encR n) (List.drop 1 l ++ [(b, (↑(List.count d A) : Int))]) → noid0 x = true from rts_noid n (l.drop 1 ++ [(b, ((A.count d : Nat) : Int))])) (show ∀ (x : AV), x ∈ flatA encA (A ++ [d]) → noid0 x = true from encA_noid (A ++ [d]))))))))))))))))))))))))))))))))))))))) ?_
  refine g_f [0, 1, 2, 3, 4] [false, false, false, true, true] (AV.tuple [AV.agg [AV.int .u32 d, AV.int .i64 (↑(List.count d A) : Int)], AV.bool true]) ([Blk.row 38 [AV.int .i64 n, AV.int .i64 (↑l.length : Int), AV.sl 3 0 ((List.drop 1 l).length + 1) 3, AV.sl 4 0 (A.length + 1) 1], Blk.dead, Blk.dead, Blk.row 74 (flatA (encR n) (List.drop 1 l ++ [(b, (↑(List.count d A) : Int))])), Blk.row 42 (flatA encA (A ++ [d]))]) (And.intro (show 2 ≤ 2 from (by omega)) (And.intro (show ∀ (x : AV), x ∈ flatA (encR n) (List.drop 1 l ++ [(b, (↑(List.count d A) : Int))]) → noid0 x = true from rts_noid n (l.drop 1 ++ [(b, ((A.count d : Nat) : Int))])) (show ∀ (x : AV), x ∈ flatA encA (A ++ [d]) → noid0 x = true from encA_noid (A ++ [d])))) ?_
  exact ⟨rfl, rfl⟩
end Go.Proofs.Ytkdgnjoofhckeaa
