/-
  What the law leans on.
-/
import Derived.Test.YtjgpojglgfddiaaDoorK4
namespace Go.Proofs.YtjgpojglgfddiaaDoor
open Go Go.RowKit V
set_option linter.unusedSimpArgs false
set_option linter.unusedVariables false
set_option maxHeartbeats 20000000
theorem b_round_ne (l o : List TE) (i : Nat) (hi : i < l.length) (hl : l.length ≤ 1000) (ho : o.length ≤ 1000) (hok : ∀ x ∈ l, OkT x) (h : bsE o (l.getD i tD) ≠ 0) : GoV Tryd.prog 0 (loopB Tryd.f19 0) (isX .ret (bRet (bsE o (l.getD i tD)))) (b0S l o i) := by
  have at1 : (flatA encT l).drop ((i : Int).toNat * 2) = AV.str (l.getD i tD).1 :: AV.str (l.getD i tD).2 :: flatA encT (l.drop (i + 1)) := encT_at l i hi
  have vr := (valid_v (l.getD i tD).1 (hok _ (getD_mem' hi tD)).1).2
  have bl := bkL l o i hi hl ho
  have hle := kF_le o (l.getD i tD)
  unfold bsE cfF twF at h ⊢
  cases hv : vaF (l.getD i tD).1 with
  | false =>
    rw [hv] at vr
    rw [if_neg (show ¬ (false = true) by decide), if_neg (show ¬ ((8 : Int) = 0) by decide)]
    unfold b0S bRet
    generalize l.getD i tD = x at *
    clear h bl
    have e1' := (congrArg (fun z => AV.fptr z) at1)
    have e2' := vr
    exact g_x [⟨4, [], .br true .no⟩, ⟨7, [], .as (rhsOf e1')⟩, ⟨10, [], .call (avOf e2') (blOf e2') []⟩] [.sel [2, 3], .keep [0] [false]] (And.intro (show decide ((↑i : Int) < (↑l.length : Int)) = true from (by rw [decide_eq_true_iff]; omega)) (And.intro (show (0 : Int) ≤ (↑i : Int) ∧ (↑i : Int) < (↑l.length : Int) from (by omega)) (And.intro e1' (And.intro (show 1 ≤ (AV.str x.fst :: AV.str x.snd :: flatA encT (List.drop (i + 1) l)).length from (by exact Nat.le_of_ble_eq_true (by kernel_rfl))) (And.intro e2' (show 1 ≤ 1 from (by omega)))))))
  | true =>
    rw [hv] at vr h
    by_cases h4 : (l.getD i tD).2.size ≤ 4096
    · rw [if_pos rfl, if_pos h4, if_pos rfl] at h ⊢
      unfold bkS at bl
      unfold b0S bRet
      rcases Nat.lt_or_ge (kF o (l.getD i tD)) o.length with hk2 | hk2
      · rw [decide_eq_true hk2, Bool.true_and] at h ⊢
        have hgk := encT_gk o (kF o (l.getD i tD)) hk2
        generalize kF o (l.getD i tD) = k at *
        have at2 : (flatA encT o).drop (0 + (k : Int).toNat * 2) = AV.str (o.getD k tD).1 :: AV.str (o.getD k tD).2 :: flatA encT (o.drop (k + 1)) := encT_at0 o k hk2
        generalize l.getD i tD = x at *
        generalize o.getD k tD = y at *
        cases hh : (y.1.toList == x.1.toList) with
        | false => rw [hh] at h; simp at h
        | true =>
          rw [if_pos rfl]
          clear h
          have e1' := (congrArg (fun z => AV.fptr z) at1)
          have e2' := vr
          have e3' := bl
          have e4' := (drop_hd (o := 0) (v := AV.str y.fst) at2 rfl)
          exact g_x [⟨4, [], .br true .no⟩, ⟨7, [], .as (rhsOf e1')⟩, ⟨10, [], .call (avOf e2') (blOf e2') []⟩, ⟨15, [], .as (rhsOf e1')⟩, ⟨20, [], .br false .no⟩, ⟨22, [.sel [0, 2, 4, 5, 6]], .loop (exOf e3') (endOf e3')⟩, ⟨28, [], .br true .no⟩, ⟨29, [], .br true .no⟩, ⟨30, [], .br true .no⟩, ⟨31, [], .br true .no⟩, ⟨32, [], .br true (.as (rhsOf e4'))⟩, ⟨33, [], .br true .no⟩, ⟨34, [], .br true .no⟩, ⟨35, [], .br true (.as (rhsOf e1'))⟩, ⟨36, [], .br true .no⟩, ⟨37, [], .br true .no⟩, ⟨38, [], .br true .no⟩, ⟨40, [], .br true .no⟩] [.sel [2, 3], .keep [0] [false]] (And.intro (show decide ((↑i : Int) < (↑l.length : Int)) = true from (by rw [decide_eq_true_iff]; omega)) (And.intro (show (0 : Int) ≤ (↑i : Int) ∧ (↑i : Int) < (↑l.length : Int) from (by omega)) (And.intro e1' (And.intro (show 1 ≤ (AV.str x.fst :: AV.str x.snd :: flatA encT (List.drop (i + 1) l)).length from (by exact Nat.le_of_ble_eq_true (by kernel_rfl))) (And.intro e2' (And.intro (show (0 : Int) ≤ (↑i : Int) ∧ (↑i : Int) < (↑l.length : Int) from (by omega)) (And.intro e1' (And.intro (show 1 ≤ (AV.str x.snd :: flatA encT (List.drop (i + 1) l)).length from (by exact Nat.le_of_ble_eq_true (by kernel_rfl))) (And.intro (show decide ((↑x.snd.size : Int) > (4096 : Int)) = false from (by rw [decide_eq_false_iff_not]; omega)) (And.intro e3' (And.intro (show (decide ((↑k : Int) < (↑o.length : Int)) == true) = true from (by simp_all; done)) (And.intro (show (decide ((↑k : Int) < (↑o.length : Int)) == true) = true from (by simp_all; done)) (And.intro (show (decide ((↑k : Int) < (↑o.length : Int)) == true) = true from (by simp_all; done)) (And.intro (show (0 : Int) ≤ (↑k : Int) ∧ (↑k : Int) < (↑o.length : Int) from (by omega)) (And.intro (show (decide ((↑k : Int) < (↑o.length : Int)) == true) = true from (by simp_all; done)) (And.intro (show (decide ((↑k : Int) < (↑o.length : Int)) == true) = true from (by simp_all; done)) (And.intro (show 1 ≤ (List.drop (0 + (↑k : Int).toNat * 2 + 0) (flatA encT o)).length from (drop_le (o := 0) (n := 1) at2 (by simp))) (And.intro e4' (And.intro (show (decide ((↑k : Int) < (↑o.length : Int)) == true) = true from (by simp_all; done)) (And.intro (show (decide ((↑k : Int) < (↑o.length : Int)) == true) = true from (by simp_all; done)) (And.intro (show (decide ((↑k : Int) < (↑o.length : Int)) == true) = true from (by simp_all; done)) (And.intro (show (0 : Int) ≤ (↑i : Int) ∧ (↑i : Int) < (↑l.length : Int) from (by omega)) (And.intro e1' (And.intro (show (decide ((↑k : Int) < (↑o.length : Int)) == true) = true from (by simp_all; done)) (And.intro (show (decide ((↑k : Int) < (↑o.length : Int)) == true) = true from (by simp_all; done)) (And.intro (show 1 ≤ (AV.str x.fst :: AV.str x.snd :: flatA encT (List.drop (i + 1) l)).length from (by exact Nat.le_of_ble_eq_true (by kernel_rfl))) (And.intro (show (decide ((↑k : Int) < (↑o.length : Int)) == true) = true from (by simp_all; done)) (And.intro (show (bif decide ((↑k : Int) < (↑o.length : Int)) then y.fst.toList == x.fst.toList else false) = true from (by simp_all; done)) (show 1 ≤ 1 from (by omega))))))))))))))))))))))))))))))
      · rw [decide_eq_false (by omega), Bool.false_and] at h
        simp at h
    · rw [if_pos rfl, if_neg h4, if_neg (by decide)]
      unfold b0S bRet
      generalize l.getD i tD = x at *
      clear h bl
      have e1' := (congrArg (fun z => AV.fptr z) at1)
      have e2' := vr
      exact g_x [⟨4, [], .br true .no⟩, ⟨7, [], .as (rhsOf e1')⟩, ⟨10, [], .call (avOf e2') (blOf e2') []⟩, ⟨15, [], .as (rhsOf e1')⟩, ⟨20, [], .br true .no⟩] [.sel [2, 3], .keep [0] [false]] (And.intro (show decide ((↑i : Int) < (↑l.length : Int)) = true from (by rw [decide_eq_true_iff]; omega)) (And.intro (show (0 : Int) ≤ (↑i : Int) ∧ (↑i : Int) < (↑l.length : Int) from (by omega)) (And.intro e1' (And.intro (show 1 ≤ (AV.str x.fst :: AV.str x.snd :: flatA encT (List.drop (i + 1) l)).length from (by exact Nat.le_of_ble_eq_true (by kernel_rfl))) (And.intro e2' (And.intro (show (0 : Int) ≤ (↑i : Int) ∧ (↑i : Int) < (↑l.length : Int) from (by omega)) (And.intro e1' (And.intro (show 1 ≤ (AV.str x.snd :: flatA encT (List.drop (i + 1) l)).length from (by exact Nat.le_of_ble_eq_true (by kernel_rfl))) (And.intro (show decide ((↑x.snd.size : Int) > (4096 : Int)) = true from (by rw [decide_eq_true_iff]; omega)) (show 1 ≤ 1 from (by omega)))))))))))
theorem sortR_take (l : List TE) (i : Nat) (h : i < l.length) : sortR (l.take (i + 1)) = insR (l.getD i tD) (sortR (l.take i)) := by
  unfold sortR
  rw [List.take_succ_eq_append_getElem h, List.foldl_append, List.getD_eq_getElem?_getD, List.getElem?_eq_getElem h]
  rfl
theorem sortR_len (l : List TE) : (sortR l).length = l.length := (sortR_perm l).length_eq
def bdE (l : List TE) (i : Nat) : Int := bsE (sortR (l.take i)) (l.getD i tD)
def bdM (l : List TE) : Nat := fstN (fun i => bdE l i == 0) l.length
/-- Build's error, and the files -/
def bdF (l : List TE) : Int := if 64 < l.length then 2 else if bdM l < l.length then bdE l (bdM l) else bif clF (sortR l) then 0 else 10
theorem sortR_ok {l : List TE} (h : ∀ x ∈ l, OkT x) : ∀ x ∈ sortR l, OkT x := fun x hx => h x ((sortR_perm l).mem_iff.1 hx)
theorem buildR (l : List TE) (hl : l.length ≤ 1000) (hok : ∀ x ∈ l, OkT x) : CallsV Tryd.prog 19 [filesV l] [] (fun av H' => (bdF l = 0 ∧ av = .tuple [.agg [.sl 0 0 (sortR l).length 2], .int .i64 0] ∧ H' = [.row 31 (flatA encT (sortR l))]) ∨ (bdF l ≠ 0 ∧ av = .tuple [.agg [.nilsl], .int .i64 (bdF l)] ∧ H' = [])) := by
  refine callsG_at Tryd.func19 (by kernel_rfl) ?_
  unfold bdF
  by_cases h64 : 64 < l.length
  · rw [if_pos h64]
    refine g_q [⟨5, [], .br true .no⟩] [.sel [2, 3]] Exit.ret (stOf 89 [(2, AV.ptr 0 0), (3, AV.int .i64 (2 : Int))] [Blk.row 24 [AV.nilsl]]) (And.intro (show decide ((↑l.length : Int) > (64 : Int)) = true from (by rw [decide_eq_true_iff]; omega)) (show 1 ≤ 1 from (by omega))) ?_
    refine g_f [] [] (AV.tuple [AV.agg [AV.nilsl], AV.int .i64 (2 : Int)]) ([]) (show 1 ≤ 1 from (by omega)) ?_
    exact .inr ⟨by decide, rfl, rfl⟩
  · rw [if_neg h64]
    have step : ∀ i, i < l.length → bdE l i = 0 → GoV Tryd.prog 0 (loopB Tryd.f19 0) (isX .normal (b0S l (sortR (l.take (i + 1))) (i + 1))) (b0S l (sortR (l.take i)) i) := fun i hi h => by
      rw [sortR_take l i hi]
      exact b_round_ok l _ i hi hl (by rw [sortR_len, List.length_take]; omega) hok h
    rcases fstN_or (fun i => bdE l i == 0) l.length with ⟨h1, h2⟩ | ⟨h1, h2, h3⟩
    · have hL : LoopG Tryd.prog 0 Tryd.f19 0 (.exit 0) (stOf 89 [(2, .ptr 0 0), (4, .sl 1 0 (sortR l).length 2)] [.row 24 [.nilsl], .row 31 (flatA encT (sortR l))]) (b0S l [] 0) := by
        refine loopG_of l.length (fun i => b0S l (sortR (l.take i)) i) (by kernel_rfl) (by simp [sortR]) ?_ ?_
        · intro i hi
          exact step i hi (eq_of_beq (h2 i hi))
        · rw [List.take_length]
          generalize sortR l = o
          unfold b0S
          exact g_x [⟨4, [], .br false .no⟩] [.sel [2, 4]] (show decide ((↑l.length : Int) < (↑l.length : Int)) = false from (by rw [decide_eq_false_iff_not]; omega))
      have cl := clashR (sortR l) (by rw [sortR_len]; exact hl) (sortR_ok hok)
      have hn : (sortR l).length ≤ 1000 := by rw [sortR_len]; exact hl
      have hge := encT_ge (sortR l)
      have tk := flatA_all_take encT_l (sortR l)
      unfold bdM
      rw [h1, if_neg (by omega)]
      generalize sortR l = o at *
      unfold b0S at hL
      cases hc : clF o with
      | true =>
        rw [hc] at cl
        have e1' := hL
        have e2' := (show Reads [Blk.row 24 [AV.nilsl], Blk.row 31 (flatA encT o)] [AV.sl 1 0 o.length 2] [AV.slv o.length 2 (flatA encT o)] from (Reads.cons (Reads1.sl (t := 31) (xs := flatA encT o) (by kernel_rfl) (show ∀ (x : AV), x ∈ flatA encT o → noid0 x = true ∧ x ≠ AV.junk from encT_lend o) (show 0 + o.length * 2 ≤ (flatA encT o).length from (by omega)) tk) Reads.nil))
        have e3' := cl
        refine g_q [⟨5, [], .br false .no⟩, ⟨8, [.sel [0, 2, 4, 5], .own 4 31 2], .loop (exOf e1') (endOf e1')⟩, ⟨10, [], .lend (rdOf e2') (avOf e3') (blOf e3') []⟩] [.sel [2, 3]] Exit.ret (stOf 89 [(2, AV.ptr 0 0), (3, AV.int .i64 (0 : Int))] [Blk.row 24 [AV.sl 1 0 o.length 2], Blk.row 31 (flatA encT o)]) (And.intro (show decide ((↑l.length : Int) > (64 : Int)) = false from (by rw [decide_eq_false_iff_not]; omega)) (And.intro e1' (And.intro e2' (And.intro (show (novR (AV.bool false) && [].all novB) = true from (by kernel_rfl)) (And.intro e3' (show 1 ≤ 1 from (by omega))))))) ?_
        refine g_f [1] [true] (AV.tuple [AV.agg [AV.sl 0 0 o.length 2], AV.int .i64 (0 : Int)]) ([Blk.row 31 (flatA encT o)]) (And.intro (show 1 ≤ 1 from (by omega)) (show ∀ (x : AV), x ∈ flatA encT o → noid0 x = true from encT_noid o)) ?_
        exact .inl ⟨rfl, rfl, rfl⟩
      | false =>
        rw [hc] at cl
        have e1' := hL
        have e2' := (show Reads [Blk.row 24 [AV.nilsl], Blk.row 31 (flatA encT o)] [AV.sl 1 0 o.length 2] [AV.slv o.length 2 (flatA encT o)] from (Reads.cons (Reads1.sl (t := 31) (xs := flatA encT o) (by kernel_rfl) (show ∀ (x : AV), x ∈ flatA encT o → noid0 x = true ∧ x ≠ AV.junk from encT_lend o) (show 0 + o.length * 2 ≤ (flatA encT o).length from (by omega)) tk) Reads.nil))
        have e3' := cl
        refine g_q [⟨5, [], .br false .no⟩, ⟨8, [.sel [0, 2, 4, 5], .own 4 31 2], .loop (exOf e1') (endOf e1')⟩, ⟨10, [], .lend (rdOf e2') (avOf e3') (blOf e3') []⟩] [.sel [2, 3]] Exit.ret (stOf 89 [(2, AV.ptr 0 0), (3, AV.int .i64 (10 : Int))] [Blk.row 24 [AV.nilsl], Blk.row 31 (flatA encT o)]) (And.intro (show decide ((↑l.length : Int) > (64 : Int)) = false from (by rw [decide_eq_false_iff_not]; omega)) (And.intro e1' (And.intro e2' (And.intro (show (novR (AV.bool true) && [].all novB) = true from (by kernel_rfl)) (And.intro e3' (show 1 ≤ 1 from (by omega))))))) ?_
        refine g_f [] [] (AV.tuple [AV.agg [AV.nilsl], AV.int .i64 (10 : Int)]) ([]) (show 1 ≤ 1 from (by omega)) ?_
        exact .inr ⟨by decide, rfl, rfl⟩
    · have hne : bdE l (bdM l) ≠ 0 := fun h => by
        unfold bdM at h
        rw [h] at h3; cases h3
      have hL : LoopG Tryd.prog 0 Tryd.f19 0 .ret (bRet (bdE l (bdM l))) (b0S l [] 0) := by
        refine loopG_of (bdM l) (fun i => b0S l (sortR (l.take i)) i) (by kernel_rfl) (by simp [sortR]) ?_ ?_
        · intro i hi
          have : bdM l < l.length := h1
          exact step i (by omega) (eq_of_beq (h2 i hi))
        · exact b_round_ne l _ _ h1 hl (by rw [sortR_len, List.length_take]; omega) hok hne
      rw [if_pos (show bdM l < l.length from h1)]
      generalize bdE l (bdM l) = e at *
      unfold b0S bRet at hL
      have e1' := hL
      refine g_q [⟨5, [], .br false .no⟩, ⟨8, [.sel [0, 2, 4, 5], .own 4 31 2], .loop (exOf e1') (endOf e1')⟩] [] Exit.ret (stOf 89 [(2, AV.ptr 0 0), (3, AV.int .i64 e)] [Blk.row 24 [AV.nilsl]]) (And.intro (show decide ((↑l.length : Int) > (64 : Int)) = false from (by rw [decide_eq_false_iff_not]; omega)) e1') ?_
      refine g_f [] [] (AV.tuple [AV.agg [AV.nilsl], AV.int .i64 e]) ([]) (show 1 ≤ 1 from (by omega)) ?_
      exact .inr ⟨hne, rfl, rfl⟩
end Go.Proofs.YtjgpojglgfddiaaDoor
namespace Go.Proofs.YtjgpojglgfddiaaDoor
open Go Go.RowKit V
set_option linter.unusedSimpArgs false
set_option linter.unusedVariables false
set_option maxHeartbeats 20000000
theorem buildR_ok (l : List TE) (hl : l.length ≤ 1000) (hok : ∀ x ∈ l, OkT x) (h : bdF l = 0) : CallsV Tryd.prog 19 [filesV l] [] (fun av H' => av = .tuple [.agg [.sl 0 0 (sortR l).length 2], .int .i64 0] ∧ H' = [.row 31 (flatA encT (sortR l))]) := (buildR l hl hok).mono fun av H' q => by
  rcases q with ⟨_, q⟩ | ⟨q, _⟩
  · exact q
  · exact absurd h q
theorem buildR_ne (l : List TE) (hl : l.length ≤ 1000) (hok : ∀ x ∈ l, OkT x) (h : bdF l ≠ 0) : CallsV Tryd.prog 19 [filesV l] [] (fun av H' => av = .tuple [.agg [.nilsl], .int .i64 (bdF l)] ∧ H' = []) := (buildR l hl hok).mono fun av H' q => by
  rcases q with ⟨q, _⟩ | ⟨_, q⟩
  · exact absurd q h
  · exact q
theorem encT_nov (v : List TE) (t : TypeId) (r : AV) (hr : novR r = true) : (novR r && [Blk.row t (flatA encT v)].all novB) = true := by
  rw [hr, Bool.true_and, List.all_cons, List.all_nil, Bool.and_true]
  show (flatA encT v).all nov0 = true
  rw [List.all_eq_true]
  exact flatA_all (p := fun x => nov0 x = true) (fun a x hx => by
    simp only [encT, List.mem_cons, List.not_mem_nil, or_false] at hx
    rcases hx with rfl | rfl <;> rfl) v
def ptL (l : List TE) (x : TE) : List TE := insR x (woK l x.1 l.length)
def ptF (l : List TE) (x : TE) : Int := if ckF l = 0 then bdF (ptL l x) else ckF l
def ptS (x : TE) (o : List TE) (k : Nat) : St := stOf 52 [(1, .str x.1), (2, .str x.2), (6, .ptr 0 0), (9, .sl 1 0 o.length 2), (10, .int .i64 (k : Int))] [.row 24 [.nilsl], .row 31 (flatA encT o)]
theorem ptk (o : List TE) (x : TE) (ho : o.length ≤ 1000) : LoopG Tryd.prog 0 Tryd.f25 0 (.exit 0) (ptS x o (kF o x)) (ptS x o 0) := by
  have hle := kF_le o x
  refine loopG_of (kF o x) (fun k => ptS x o k) (by kernel_rfl) (by simp) ?_ ?_
  · intro k hk
    have h := kF_lt o _ k hk
    have hk2 : k < o.length := by omega
    have at2 : (flatA encT o).drop (0 + (k : Int).toNat * 2) = AV.str (o.getD k tD).1 :: AV.str (o.getD k tD).2 :: flatA encT (o.drop (k + 1)) := encT_at0 o k hk2
    have hgk := encT_gk o k hk2
    unfold ptS
    generalize o.getD k tD = y at *
    have h' : Op.bytesLess y.1.toList x.1.toList = true := h
    have e1' := (drop_hd (o := 0) (v := AV.str y.fst) at2 rfl)
    have e2' := (congrArg (fun z => AV.int .i64 z) (wrap_i64 (e := (↑k : Int) + (1 : Int)) (by omega) (by omega)))
    exact g_x [⟨5, [.tm 24 (.bool true)], .no⟩, ⟨9, [], .as (rhsOf e1')⟩, ⟨13, [], .br true .no⟩, ⟨15, [], .as (rhsOf e2')⟩] [.sel [1, 2, 6, 9, 10]] (And.intro (congrArg AV.bool (show decide ((↑k : Int) < (↑o.length : Int)) = true from (by rw [decide_eq_true_iff]; omega))) (And.intro (show (0 : Int) ≤ (↑k : Int) ∧ (↑k : Int) < (↑o.length : Int) from (by omega)) (And.intro (show 1 ≤ (List.drop (0 + (↑k : Int).toNat * 2 + 0) (flatA encT o)).length from (drop_le (o := 0) (n := 1) at2 (by simp))) (And.intro e1' (And.intro (congrArg (fun z => bif true then z else false) h') e2')))))
  · rcases Nat.lt_or_ge (kF o x) o.length with hk2 | hk2
    · have h := kF_at o _ hk2
      generalize kF o x = k at *
      have at2 : (flatA encT o).drop (0 + (k : Int).toNat * 2) = AV.str (o.getD k tD).1 :: AV.str (o.getD k tD).2 :: flatA encT (o.drop (k + 1)) := encT_at0 o k hk2
      have hgk := encT_gk o k hk2
      unfold ptS
      generalize o.getD k tD = y at *
      have h' : Op.bytesLess y.1.toList x.1.toList = false := h
      have e1' := (drop_hd (o := 0) (v := AV.str y.fst) at2 rfl)
      exact g_x [⟨5, [.tm 24 (.bool true)], .no⟩, ⟨9, [], .as (rhsOf e1')⟩, ⟨13, [], .br false .no⟩] [.sel [1, 2, 6, 9, 10]] (And.intro (congrArg AV.bool (show decide ((↑k : Int) < (↑o.length : Int)) = true from (by rw [decide_eq_true_iff]; omega))) (And.intro (show (0 : Int) ≤ (↑k : Int) ∧ (↑k : Int) < (↑o.length : Int) from (by omega)) (And.intro (show 1 ≤ (List.drop (0 + (↑k : Int).toNat * 2 + 0) (flatA encT o)).length from (drop_le (o := 0) (n := 1) at2 (by simp))) (And.intro e1' (congrArg (fun z => bif true then z else false) h')))))
    · generalize kF o x = k at *
      obtain rfl : k = o.length := by omega
      unfold ptS
      exact g_x [⟨5, [.tm 24 (.bool false)], .no⟩] [.sel [1, 2, 6, 9, 10]] (And.intro (congrArg AV.bool (show decide ((↑o.length : Int) < (↑o.length : Int)) = false from (by rw [decide_eq_false_iff_not]; omega))) (show false = true → false = true from (fun h => h)))
theorem putR (l : List TE) (x : TE) (hl : l.length ≤ 900) (hok : ∀ x ∈ l, OkT x) (hx : OkT x) : CallsV Tryd.prog 25 [treeV l, .str x.1, .str x.2] [] (fun av H' => (ptF l x = 0 ∧ av = .tuple [.agg [.sl 0 0 (sortR (ptL l x)).length 2], .int .i64 0] ∧ H' = [.row 31 (flatA encT (sortR (ptL l x)))]) ∨ (ptF l x ≠ 0 ∧ av = .tuple [.agg [.nilsl], .int .i64 (ptF l x)] ∧ H' = [])) := by
  refine callsG_at Tryd.func25 (by kernel_rfl) ?_
  have ck := checkR l (by omega) hok
  unfold ptF
  by_cases hc : ckF l = 0
  · rw [hc] at ck
    rw [if_pos hc]
    have wo := withoutR l x.1 (by omega)
    have hwl := woK_len l x.1 l.length
    have hok2 : ∀ y ∈ insR x (woK l x.1 l.length), OkT y := fun y hy => by
      rcases insR_mem.1 hy with rfl | h
      · exact hx
      · exact hok y (List.mem_of_mem_take (List.mem_filter.1 h |>.1))
    unfold ptL
    generalize woK l x.1 l.length = o at *
    have pk := ptk o x (by omega)
    have hn : (insR x o).length ≤ 1000 := by rw [(insR_perm x o).length_eq, List.length_cons]; omega
    have hle := kF_le o x
    have hge := encT_ge o
    rw [insR_split] at *
    unfold ptS at pk
    generalize kF o x = k at *
    have r1 := insRow o x k hle
    have r2 := insLen o x k hle
    have n1 := insNo o k
    have n2 := encT_noid (o.take k ++ x :: o.drop k)
    have n4 := encT_lend (o.take k ++ x :: o.drop k)
    have n5 := encT_plain (o.take k ++ x :: o.drop k)
    have hge2 := encT_ge (o.take k ++ x :: o.drop k)
    have tk := flatA_all_take encT_l (o.take k ++ x :: o.drop k)
    have n3 := n2
    rw [← r1] at n3
    generalize o.take k ++ x :: o.drop k = w at *
    by_cases hb : bdF w = 0
    · have bd := buildR_ok w hn hok2 hb
      rw [hb]
      generalize sortR w = v at *
      have hnv := encT_nov v 31 (AV.tuple [AV.agg [AV.sl 0 0 v.length 2], AV.int .i64 (0 : Int)]) rfl
      have e1' := ck
      have e2' := wo
      have e3' := pk
      have e4' := (congrArg (fun z => AV.sl 5 0 z 2) r2)
      have e5' := (congrArg (fun z => Blk.row 31 z) r1)
      have e6' := (show Reads [Blk.row 24 [AV.nilsl], Blk.row 31 (flatA encT o), Blk.dead, Blk.row 31 [AV.str x.fst, AV.str x.snd], Blk.dead, Blk.row 31 (flatA encT w)] [AV.sl 5 0 w.length 2] [AV.slv w.length 2 (flatA encT w)] from (Reads.cons (Reads1.sl (t := 31) (xs := flatA encT w) (by kernel_rfl) (show ∀ (x : AV), x ∈ flatA encT w → noid0 x = true ∧ x ≠ AV.junk from n4) (show 0 + w.length * 2 ≤ (flatA encT w).length from (by omega)) tk) Reads.nil))
      have e7' := bd
      refine g_qB [⟨4, [], .call (avOf e1') (blOf e1') []⟩, ⟨11, [], .call (avOf e2') (blOf e2') [true]⟩, ⟨14, [.sel [1, 2, 6, 9, 10], .keep [1, 2] [false, true]], .loop (exOf e3') (endOf e3')⟩, ⟨18, [.flags [false, true] true], .no⟩, ⟨22, [.flags [false, true] false], .no⟩, ⟨23, [.flags [false, true] true], .no⟩, ⟨27, [.flags [false, true] true], .as (rhsOf e4')⟩, ⟨28, [.hp 5 (rhsOf e5')], .no⟩, ⟨30, [], .lend (rdOf e6') (avOf e7') (blOf e7') [true]⟩] [.sel [6, 7]] Exit.ret (stOf 52 [(6, AV.ptr 0 0), (7, AV.int .i64 (0 : Int))] [Blk.row 24 [AV.sl 6 0 v.length 2], Blk.row 31 (flatA encT o), Blk.dead, Blk.row 31 [AV.str x.fst, AV.str x.snd], Blk.dead, Blk.row 31 (flatA encT w), Blk.row 31 (flatA encT v)]) (And.intro (show 1 ≤ 1 from (by omega)) (And.intro e1' (And.intro (show 1 ≤ 1 from (by omega)) (And.intro (show ∀ (x : AV), x ∈ flatA encT o → plain0 x = true from encT_plain o) (And.intro e2' (And.intro (show ∀ (x : AV), x ∈ flatA encT o → noid0 x = true from encT_noid o) (And.intro e3' (And.intro (show (0 : Int) ≤ (0 : Int) ∧ (0 : Int) ≤ (↑k : Int) ∧ (↑k : Int) ≤ (↑o.length : Int) from (by omega)) (And.intro (show 0 + ((↑k : Int).toNat - 0) * 2 ≤ (flatA encT o).length from (by omega)) (And.intro (show (0 + ((↑k : Int).toNat - 0)) * 32 ≤ 140737488355328 from (by omega)) (And.intro (show 0 + ((↑k : Int).toNat - 0) ≤ maxLen from (by (unfold maxLen; omega))) (And.intro (show (0 : Int) ≤ (↑k : Int) ∧ (↑k : Int) ≤ (↑o.length : Int) ∧ (↑o.length : Int) ≤ (↑o.length : Int) from (by omega)) (And.intro (show 0 + ((↑k : Int).toNat - 0) * 2 ≤ (flatA encT o).length from (by omega)) (And.intro (show (0 + ((↑k : Int).toNat - 0)) * 32 ≤ 140737488355328 from (by omega)) (And.intro (show 0 + ((↑k : Int).toNat - 0) ≤ maxLen from (by (unfold maxLen; omega))) (And.intro (show (0 : Int) ≤ (↑k : Int) ∧ (↑k : Int) ≤ (↑o.length : Int) ∧ (↑o.length : Int) ≤ (↑o.length : Int) from (by omega)) (And.intro (show 0 + ((↑k : Int).toNat - 0) * 2 ≤ (flatA encT o).length from (by omega)) (And.intro (show (0 + ((↑k : Int).toNat - 0)) * 32 ≤ 140737488355328 from (by omega)) (And.intro (show 0 + ((↑k : Int).toNat - 0) ≤ maxLen from (by (unfold maxLen; omega))) (And.intro (show (0 : Int) ≤ (↑k : Int) ∧ (↑k : Int) ≤ (↑o.length : Int) ∧ (↑o.length : Int) ≤ (↑o.length : Int) from (by omega)) (And.intro (show 0 + ((↑k : Int).toNat - 0) * 2 ≤ (flatA encT o).length from (by omega)) (And.intro (show (0 + ((↑k : Int).toNat - 0)) * 32 ≤ 140737488355328 from (by omega)) (And.intro (show 0 + ((↑k : Int).toNat - 0) ≤ maxLen from (by (unfold maxLen; omega))) (And.intro (show ∀ (x : AV), x ∈ flatA encT o → noid0 x = true from encT_noid o) (And.intro (show ∀ (x : AV), x ∈ [] ++ List.take (((↑k : Int).toNat - 0) * 2) (List.drop 0 (flatA encT o)) → noid0 x = true from n1) (And.intro (show (0 : Int) ≤ (↑k : Int) ∧ (↑k : Int) ≤ (↑o.length : Int) ∧ (↑o.length : Int) ≤ (↑o.length : Int) from (by omega)) (And.intro (show 0 + ((↑k : Int).toNat - 0) * 2 ≤ (flatA encT o).length from (by omega)) (And.intro (show (0 + ((↑k : Int).toNat - 0)) * 32 ≤ 140737488355328 from (by omega)) (And.intro (show 0 + ((↑k : Int).toNat - 0) ≤ maxLen from (by (unfold maxLen; omega))) (And.intro (show (0 + ((↑k : Int).toNat - 0)) * 2 ≤ ([] ++ List.take (((↑k : Int).toNat - 0) * 2) (List.drop 0 (flatA encT o))).length from (by (simp; omega))) (And.intro (show 2 ≤ 2 from (by omega)) (And.intro (show (0 + ((↑k : Int).toNat - 0) + 1) * 32 ≤ 140737488355328 from (by omega)) (And.intro (show 0 + ((↑k : Int).toNat - 0) + 1 ≤ maxLen from (by (unfold maxLen; omega))) (And.intro (show (0 : Int) ≤ (↑k : Int) ∧ (↑k : Int) ≤ (↑o.length : Int) ∧ (↑o.length : Int) ≤ (↑o.length : Int) from (by omega)) (And.intro (show 0 + ((↑k : Int).toNat - 0) * 2 ≤ (flatA encT o).length from (by omega)) (And.intro (show (0 + ((↑k : Int).toNat - 0)) * 32 ≤ 140737488355328 from (by omega)) (And.intro (show 0 + ((↑k : Int).toNat - 0) ≤ maxLen from (by (unfold maxLen; omega))) (And.intro (show ∀ (x : AV), x ∈ flatA encT o → noid0 x = true from encT_noid o) (And.intro (show ∀ (x : AV), x ∈ [] ++ List.take (((↑k : Int).toNat - 0) * 2) (List.drop 0 (flatA encT o)) → noid0 x = true from n1) (And.intro (show (0 : Int) ≤ (↑k : Int) ∧ (↑k : Int) ≤ (↑o.length : Int) ∧ (↑o.length : Int) ≤ (↑o.length : Int) from (by omega)) (And.intro (show (0 + ((↑k : Int).toNat - 0)) * 2 ≤ ([] ++ List.take (((↑k : Int).toNat - 0) * 2) (List.drop 0 (flatA encT o))).length from (by (simp; omega))) (And.intro (show 2 ≤ 2 from (by omega)) (And.intro (show (0 + ((↑k : Int).toNat - 0) + 1) * 32 ≤ 140737488355328 from (by omega)) (And.intro (show 0 + ((↑k : Int).toNat - 0) + 1 ≤ maxLen from (by (unfold maxLen; omega))) (And.intro (show (0 + ((↑k : Int).toNat - 0) + 1) * 2 ≤ (List.take ((0 + ((↑k : Int).toNat - 0)) * 2) ([] ++ List.take (((↑k : Int).toNat - 0) * 2) (List.drop 0 (flatA encT o))) ++ [AV.str x.fst, AV.str x.snd]).length from (by (simp; omega))) (And.intro (show 0 + (↑k : Int).toNat * 2 + ((↑o.length : Int).toNat - (↑k : Int).toNat) * 2 ≤ (flatA encT o).length from (by omega)) (And.intro (show (0 + ((↑k : Int).toNat - 0) + 1 + ((↑o.length : Int).toNat - (↑k : Int).toNat)) * 32 ≤ 140737488355328 from (by omega)) (And.intro (show 0 + ((↑k : Int).toNat - 0) + 1 + ((↑o.length : Int).toNat - (↑k : Int).toNat) ≤ maxLen from (by (unfold maxLen; omega))) (And.intro e4' (And.intro (congrArg some e5') (And.intro (show ∀ (x : AV), x ∈ flatA encT v → plain0 x = true from encT_plain v) (And.intro e6' (And.intro (show (novR (AV.tuple [AV.agg [AV.sl 0 0 v.length 2], AV.int .i64 (0 : Int)]) && [Blk.row 31 (flatA encT v)].all novB) = true from (by omega)) (And.intro e7' (show 1 ≤ 1 from (by omega)))))))))))))))))))))))))))))))))))))))))))))))))))))))) ?_
      refine g_f [6] [true] (AV.tuple [AV.agg [AV.sl 0 0 v.length 2], AV.int .i64 (0 : Int)]) ([Blk.row 31 (flatA encT v)]) (And.intro (show 1 ≤ 1 from (by omega)) (show ∀ (x : AV), x ∈ flatA encT v → noid0 x = true from encT_noid v)) ?_
      exact .inl ⟨rfl, rfl, rfl⟩
    · have bd := buildR_ne w hn hok2 hb
      generalize bdF w = e at *
      have e1' := ck
      have e2' := wo
      have e3' := pk
      have e4' := (congrArg (fun z => AV.sl 5 0 z 2) r2)
      have e5' := (congrArg (fun z => Blk.row 31 z) r1)
      have e6' := (show Reads [Blk.row 24 [AV.nilsl], Blk.row 31 (flatA encT o), Blk.dead, Blk.row 31 [AV.str x.fst, AV.str x.snd], Blk.dead, Blk.row 31 (flatA encT w)] [AV.sl 5 0 w.length 2] [AV.slv w.length 2 (flatA encT w)] from (Reads.cons (Reads1.sl (t := 31) (xs := flatA encT w) (by kernel_rfl) (show ∀ (x : AV), x ∈ flatA encT w → noid0 x = true ∧ x ≠ AV.junk from n4) (show 0 + w.length * 2 ≤ (flatA encT w).length from (by omega)) tk) Reads.nil))
      have e7' := bd
      refine g_qB [⟨4, [], .call (avOf e1') (blOf e1') []⟩, ⟨11, [], .call (avOf e2') (blOf e2') [true]⟩, ⟨14, [.sel [1, 2, 6, 9, 10], .keep [1, 2] [false, true]], .loop (exOf e3') (endOf e3')⟩, ⟨18, [.flags [false, true] true], .no⟩, ⟨22, [.flags [false, true] false], .no⟩, ⟨23, [.flags [false, true] true], .no⟩, ⟨27, [.flags [false, true] true], .as (rhsOf e4')⟩, ⟨28, [.hp 5 (rhsOf e5')], .no⟩, ⟨30, [], .lend (rdOf e6') (avOf e7') (blOf e7') []⟩] [.sel [6, 7]] Exit.ret (stOf 52 [(6, AV.ptr 0 0), (7, AV.int .i64 e)] [Blk.row 24 [AV.nilsl], Blk.row 31 (flatA encT o), Blk.dead, Blk.row 31 [AV.str x.fst, AV.str x.snd], Blk.dead, Blk.row 31 (flatA encT w)]) (And.intro (show 1 ≤ 1 from (by omega)) (And.intro e1' (And.intro (show 1 ≤ 1 from (by omega)) (And.intro (show ∀ (x : AV), x ∈ flatA encT o → plain0 x = true from encT_plain o) (And.intro e2' (And.intro (show ∀ (x : AV), x ∈ flatA encT o → noid0 x = true from encT_noid o) (And.intro e3' (And.intro (show (0 : Int) ≤ (0 : Int) ∧ (0 : Int) ≤ (↑k : Int) ∧ (↑k : Int) ≤ (↑o.length : Int) from (by omega)) (And.intro (show 0 + ((↑k : Int).toNat - 0) * 2 ≤ (flatA encT o).length from (by omega)) (And.intro (show (0 + ((↑k : Int).toNat - 0)) * 32 ≤ 140737488355328 from (by omega)) (And.intro (show 0 + ((↑k : Int).toNat - 0) ≤ maxLen from (by (unfold maxLen; omega))) (And.intro (show (0 : Int) ≤ (↑k : Int) ∧ (↑k : Int) ≤ (↑o.length : Int) ∧ (↑o.length : Int) ≤ (↑o.length : Int) from (by omega)) (And.intro (show 0 + ((↑k : Int).toNat - 0) * 2 ≤ (flatA encT o).length from (by omega)) (And.intro (show (0 + ((↑k : Int).toNat - 0)) * 32 ≤ 140737488355328 from (by omega)) (And.intro (show 0 + ((↑k : Int).toNat - 0) ≤ maxLen from (by (unfold maxLen; omega))) (And.intro (show (0 : Int) ≤ (↑k : Int) ∧ (↑k : Int) ≤ (↑o.length : Int) ∧ (↑o.length : Int) ≤ (↑o.length : Int) from (by omega)) (And.intro (show 0 + ((↑k : Int).toNat - 0) * 2 ≤ (flatA encT o).length from (by omega)) (And.intro (show (0 + ((↑k : Int).toNat - 0)) * 32 ≤ 140737488355328 from (by omega)) (And.intro (show 0 + ((↑k : Int).toNat - 0) ≤ maxLen from (by (unfold maxLen; omega))) (And.intro (show (0 : Int) ≤ (↑k : Int) ∧ (↑k : Int) ≤ (↑o.length : Int) ∧ (↑o.length : Int) ≤ (↑o.length : Int) from (by omega)) (And.intro (show 0 + ((↑k : Int).toNat - 0) * 2 ≤ (flatA encT o).length from (by omega)) (And.intro (show (0 + ((↑k : Int).toNat - 0)) * 32 ≤ 140737488355328 from (by omega)) (And.intro (show 0 + ((↑k : Int).toNat - 0) ≤ maxLen from (by (unfold maxLen; omega))) (And.intro (show ∀ (x : AV), x ∈ flatA encT o → noid0 x = true from encT_noid o) (And.intro (show ∀ (x : AV), x ∈ [] ++ List.take (((↑k : Int).toNat - 0) * 2) (List.drop 0 (flatA encT o)) → noid0 x = true from n1) (And.intro (show (0 : Int) ≤ (↑k : Int) ∧ (↑k : Int) ≤ (↑o.length : Int) ∧ (↑o.length : Int) ≤ (↑o.length : Int) from (by omega)) (And.intro (show 0 + ((↑k : Int).toNat - 0) * 2 ≤ (flatA encT o).length from (by omega)) (And.intro (show (0 + ((↑k : Int).toNat - 0)) * 32 ≤ 140737488355328 from (by omega)) (And.intro (show 0 + ((↑k : Int).toNat - 0) ≤ maxLen from (by (unfold maxLen; omega))) (And.intro (show (0 + ((↑k : Int).toNat - 0)) * 2 ≤ ([] ++ List.take (((↑k : Int).toNat - 0) * 2) (List.drop 0 (flatA encT o))).length from (by (simp; omega))) (And.intro (show 2 ≤ 2 from (by omega)) (And.intro (show (0 + ((↑k : Int).toNat - 0) + 1) * 32 ≤ 140737488355328 from (by omega)) (And.intro (show 0 + ((↑k : Int).toNat - 0) + 1 ≤ maxLen from (by (unfold maxLen; omega))) (And.intro (show (0 : Int) ≤ (↑k : Int) ∧ (↑k : Int) ≤ (↑o.length : Int) ∧ (↑o.length : Int) ≤ (↑o.length : Int) from (by omega)) (And.intro (show 0 + ((↑k : Int).toNat - 0) * 2 ≤ (flatA encT o).length from (by omega)) (And.intro (show (0 + ((↑k : Int).toNat - 0)) * 32 ≤ 140737488355328 from (by omega)) (And.intro (show 0 + ((↑k : Int).toNat - 0) ≤ maxLen from (by (unfold maxLen; omega))) (And.intro (show ∀ (x : AV), x ∈ flatA encT o → noid0 x = true from encT_noid o) (And.intro (show ∀ (x : AV), x ∈ [] ++ List.take (((↑k : Int).toNat - 0) * 2) (List.drop 0 (flatA encT o)) → noid0 x = true from n1) (And.intro (show (0 : Int) ≤ (↑k : Int) ∧ (↑k : Int) ≤ (↑o.length : Int) ∧ (↑o.length : Int) ≤ (↑o.length : Int) from (by omega)) (And.intro (show (0 + ((↑k : Int).toNat - 0)) * 2 ≤ ([] ++ List.take (((↑k : Int).toNat - 0) * 2) (List.drop 0 (flatA encT o))).length from (by (simp; omega))) (And.intro (show 2 ≤ 2 from (by omega)) (And.intro (show (0 + ((↑k : Int).toNat - 0) + 1) * 32 ≤ 140737488355328 from (by omega)) (And.intro (show 0 + ((↑k : Int).toNat - 0) + 1 ≤ maxLen from (by (unfold maxLen; omega))) (And.intro (show (0 + ((↑k : Int).toNat - 0) + 1) * 2 ≤ (List.take ((0 + ((↑k : Int).toNat - 0)) * 2) ([] ++ List.take (((↑k : Int).toNat - 0) * 2) (List.drop 0 (flatA encT o))) ++ [AV.str x.fst, AV.str x.snd]).length from (by (simp; omega))) (And.intro (show 0 + (↑k : Int).toNat * 2 + ((↑o.length : Int).toNat - (↑k : Int).toNat) * 2 ≤ (flatA encT o).length from (by omega)) (And.intro (show (0 + ((↑k : Int).toNat - 0) + 1 + ((↑o.length : Int).toNat - (↑k : Int).toNat)) * 32 ≤ 140737488355328 from (by omega)) (And.intro (show 0 + ((↑k : Int).toNat - 0) + 1 + ((↑o.length : Int).toNat - (↑k : Int).toNat) ≤ maxLen from (by (unfold maxLen; omega))) (And.intro e4' (And.intro (congrArg some e5') (And.intro e6' (And.intro (show (novR (AV.tuple [AV.agg [AV.nilsl], AV.int .i64 e]) && [].all novB) = true from (by kernel_rfl)) (And.intro e7' (show 1 ≤ 1 from (by omega))))))))))))))))))))))))))))))))))))))))))))))))))))))) ?_
      refine g_f [] [] (AV.tuple [AV.agg [AV.nilsl], AV.int .i64 e]) ([]) (show 1 ≤ 1 from (by omega)) ?_
      exact .inr ⟨hb, rfl, rfl⟩
  · rw [if_neg hc]
    have hq : (ckF l == 0) = false := beq_eq_false_iff_ne.2 hc
    generalize ckF l = e at *
    have e1' := ck
    refine g_q [⟨4, [], .call (avOf e1') (blOf e1') []⟩, ⟨8, [], .br true .no⟩] [.sel [6, 7]] Exit.ret (stOf 52 [(6, AV.ptr 1 0), (7, AV.int .i64 e)] [Blk.row 24 [AV.slv l.length 2 (flatA encT l)], Blk.row 24 [AV.nilsl]]) (And.intro (show 1 ≤ 1 from (by omega)) (And.intro e1' (And.intro (show (e != (0 : Int)) = true from (by simp_all; done)) (show 1 ≤ 1 from (by omega))))) ?_
    refine g_f [] [] (AV.tuple [AV.agg [AV.nilsl], AV.int .i64 e]) ([]) (show 1 ≤ 1 from (by omega)) ?_
    exact .inr ⟨hc, rfl, rfl⟩
end Go.Proofs.YtjgpojglgfddiaaDoor
namespace Go.Proofs.YtjgpojglgfddiaaDoor
open Go Go.RowKit V
set_option linter.unusedSimpArgs false
set_option linter.unusedVariables false
set_option maxHeartbeats 20000000
def smS (l : List TE) (i : Nat) : St := stOf 31 [(2, .ptr 0 0), (3, .ptr 1 0), (5, .int .i64 (i : Int))] [.row 24 [filesV l], .row 24 [filesV l]]
theorem sameR (l : List TE) (hl : l.length ≤ 1000) : CallsV Tryd.prog 21 [treeV l, treeV l] [] (fun av H' => av = .bool true ∧ H' = []) := by
  refine callsG_at Tryd.func21 (by kernel_rfl) ?_
  have hL : LoopG Tryd.prog 0 Tryd.f21 0 (.exit 0) (stOf 31 [] []) (smS l 0) := by
    refine loopG_of l.length (fun i => smS l i) (by kernel_rfl) (by simp) ?_ ?_
    · intro k hk
      have at1 : (flatA encT l).drop ((k : Int).toNat * 2) = AV.str (l.getD k tD).1 :: AV.str (l.getD k tD).2 :: flatA encT (l.drop (k + 1)) := encT_at l k hk
      generalize l.getD k tD = x at *
      have b1 : (x.1.toList == x.1.toList) = true := beq_self_eq_true _
      have b2 : (x.2.toList == x.2.toList) = true := beq_self_eq_true _
      unfold smS
      have e1' := (congrArg (fun z => AV.fptr z) at1)
      have e2' := (congrArg (fun z => AV.int .i64 z) (wrap_i64 (e := (↑k : Int) + (1 : Int)) (by omega) (by omega)))
      exact g_x [⟨5, [], .br true .no⟩, ⟨9, [], .as (rhsOf e1')⟩, ⟨14, [], .as (rhsOf e1')⟩, ⟨17, [], .br false .no⟩, ⟨19, [], .as (rhsOf e2')⟩] [.sel [2, 3, 5]] (And.intro (show 1 ≤ 1 from (by omega)) (And.intro (show decide ((↑k : Int) < (↑l.length : Int)) = true from (by rw [decide_eq_true_iff]; omega)) (And.intro (show 1 ≤ 1 from (by omega)) (And.intro (show (0 : Int) ≤ (↑k : Int) ∧ (↑k : Int) < (↑l.length : Int) from (by omega)) (And.intro e1' (And.intro (show 2 ≤ (AV.str x.fst :: AV.str x.snd :: flatA encT (List.drop (k + 1) l)).length from (by exact Nat.le_of_ble_eq_true (by kernel_rfl))) (And.intro (show 1 ≤ 1 from (by omega)) (And.intro (show (0 : Int) ≤ (↑k : Int) ∧ (↑k : Int) < (↑l.length : Int) from (by omega)) (And.intro e1' (And.intro (show 2 ≤ (AV.str x.fst :: AV.str x.snd :: flatA encT (List.drop (k + 1) l)).length from (by exact Nat.le_of_ble_eq_true (by kernel_rfl))) (And.intro (Eq.trans (congrArg (fun z => !(z && (x.snd.toList == x.snd.toList && true))) b1) (congrArg (fun z => !(true && (z && true))) b2)) e2')))))))))))
    · unfold smS
      exact g_x [⟨5, [], .br false .no⟩] [.sel [], .keep [] []] (And.intro (show 1 ≤ 1 from (by omega)) (show decide ((↑l.length : Int) < (↑l.length : Int)) = false from (by rw [decide_eq_false_iff_not]; omega)))
  unfold smS at hL
  have e1' := hL
  refine g_q [⟨10, [], .br false .no⟩, ⟨12, [.sel [2, 3, 5]], .loop (exOf e1') (endOf e1')⟩] [] Exit.ret (stOf 31 [(4, AV.bool true)] []) (And.intro (show 1 ≤ 1 from (by omega)) (And.intro (show 1 ≤ 1 from (by omega)) (And.intro (show ((↑l.length : Int) != (↑l.length : Int)) = false from (by simp_all; done)) e1'))) ?_
  refine g_f [] [] (AV.bool true) ([]) trivial ?_
  exact ⟨rfl, rfl⟩
def gtI (l : List TE) (p : ByteArray) : Nat := fstN (fun k => !((l.getD k tD).1.toList == p.toList)) l.length
def gtF (l : List TE) (p : ByteArray) : ByteArray × Bool := if gtI l p < l.length then ((l.getD (gtI l p) tD).2, true) else (ByteArray.empty, false)
end Go.Proofs.YtjgpojglgfddiaaDoor
namespace Go.Proofs.YtjgpojglgfddiaaDoor
open Go Go.RowKit V
set_option linter.unusedSimpArgs false
set_option linter.unusedVariables false
set_option maxHeartbeats 20000000
end Go.Proofs.YtjgpojglgfddiaaDoor
namespace Go.Proofs.YtjgpojglgfddiaaDoor
open Go Go.RowKit V
set_option linter.unusedSimpArgs false
set_option linter.unusedVariables false
set_option maxHeartbeats 20000000
def ovK (a b : List TE) (k : Nat) : List TE := b ++ (a.take k).filter fun x => !(gtF b x.1).2
theorem ovK_next (a b : List TE) (k : Nat) (hk : k < a.length) : ovK a b (k + 1) = if (gtF b (a.getD k tD).1).2 = true then ovK a b k else ovK a b k ++ [a.getD k tD] := by
  unfold ovK
  rw [List.take_succ_eq_append_getElem hk, List.filter_append, List.getD_eq_getElem?_getD, List.getElem?_eq_getElem hk]
  simp only [Option.getD_some]
  cases h : (gtF b a[k].1).2 <;> simp [h]
theorem ovK_len (a b : List TE) (k : Nat) : (ovK a b k).length ≤ a.length + b.length := by
  unfold ovK
  have := List.length_filter_le (fun x => !(gtF b x.1).2) (a.take k)
  have h2 : (a.take k).length ≤ a.length := by rw [List.length_take]; omega
  rw [List.length_append]; omega
theorem ovK_ok {a b : List TE} {k : Nat} (hoa : ∀ x ∈ a, OkT x) (hob : ∀ x ∈ b, OkT x) : ∀ x ∈ ovK a b k, OkT x := fun x hx => by
  rcases List.mem_append.1 hx with h | h
  · exact hob x h
  · exact hoa x (List.mem_of_mem_take (List.mem_filter.1 h).1)
def ovF (a b : List TE) : Int := if ckF a = 0 then (if ckF b = 0 then bdF (ovK a b a.length) else ckF b) else ckF a
end Go.Proofs.YtjgpojglgfddiaaDoor
namespace Go.Proofs.YtjgpojglgfddiaaDoor
open Go Go.RowKit V
set_option linter.unusedSimpArgs false
set_option linter.unusedVariables false
set_option maxHeartbeats 20000000
abbrev fdH (p : ByteArray) : List Blk := [.row 9 [.str p]]
abbrev fdV : AV := .fn (.func 50) [] [.ptr 0 0]
theorem find1_v (x : TE) (p : ByteArray) : CallsV Tryd.prog 50 [.agg (encT x), .ptr 0 0] (fdH p) (fun av H' => av = .bool (x.1.toList == p.toList) ∧ H' = fdH p) := by
  refine callsG_at Tryd.func50 (by kernel_rfl) ?_
  unfold encT
  refine g_q [] [.sel [3]] Exit.ret (stOf 8 [(3, AV.bool (x.fst.toList == p.toList))] [Blk.row 9 [AV.str p], Blk.row 31 [AV.str x.fst, AV.str x.snd]]) (And.intro (show 1 ≤ 2 from (by omega)) (show 1 ≤ 1 from (by omega))) ?_
  refine g_f [0] [false] (AV.bool (x.fst.toList == p.toList)) ([Blk.row 9 [AV.str p]]) trivial ?_
  exact ⟨rfl, rfl⟩
def fdS (l : List TE) (p : ByteArray) (k : Nat) : St := stOf 19 [(0, filesV l), (1, fdV), (7, .int .i64 (l.length : Int)), (8, .int .i64 (k : Int))] (fdH p)
theorem ixStep (l : List TE) (p : ByteArray) (hl : l.length ≤ 1000) (k : Nat) (hk : k < l.length) (h : (!((l.getD k tD).1.toList == p.toList)) = true) : GoV Tryd.prog 1 (loopB Tryd.f49 0) (isX .normal (fdS l p (k + 1))) (fdS l p k) := by
  have at1 : (flatA encT l).drop ((k : Int).toNat * 2) = AV.str (l.getD k tD).1 :: AV.str (l.getD k tD).2 :: flatA encT (l.drop (k + 1)) := encT_at l k hk
  have hc := find1_v (l.getD k tD) p
  generalize l.getD k tD = x at *
  rw [Bool.not_eq_true'] at h
  rw [h] at hc
  unfold encT at hc
  unfold fdS
  have e1' := (congrArg (fun z => AV.fptr z) at1)
  have e2' := hc
  have e3' := (congrArg (fun z => AV.int .i64 z) (wrap_i64 (e := (↑k : Int) + (1 : Int)) (by omega) (by omega)))
  exact g_x [⟨1, [], .br true .no⟩, ⟨7, [], .as (rhsOf e1')⟩, ⟨9, [], .callS [0] [false] (avOf e2') (blOf e2') [false]⟩, ⟨11, [], .as (rhsOf e3')⟩] [.sel [0, 1, 7, 8]] (And.intro (show decide ((↑k : Int) < (↑l.length : Int)) = true from (by rw [decide_eq_true_iff]; omega)) (And.intro (show (0 : Int) ≤ (↑k : Int) ∧ (↑k : Int) < (↑l.length : Int) from (by omega)) (And.intro e1' (And.intro (show 2 ≤ (AV.str x.fst :: AV.str x.snd :: flatA encT (List.drop (k + 1) l)).length from (by exact Nat.le_of_ble_eq_true (by kernel_rfl))) (And.intro e2' e3')))))
theorem idx_v (l : List TE) (p : ByteArray) (hl : l.length ≤ 1000) : CallsV Tryd.prog 49 [filesV l, fdV] (fdH p) (fun av H' => av = .int .i64 (if gtI l p < l.length then (gtI l p : Int) else -1) ∧ H' = fdH p) := by
  refine callsG_at Tryd.func49 (by kernel_rfl) ?_
  unfold gtI
  rcases fstN_or (fun k => !((l.getD k tD).1.toList == p.toList)) l.length with ⟨h1, h2⟩ | ⟨h1, h2, h3⟩
  · have hL : LoopG Tryd.prog 1 Tryd.f49 0 (.exit 0) (stOf 19 [] (fdH p)) (fdS l p 0) := by
      refine loopG_of l.length (fun i => fdS l p i) (by kernel_rfl) (by simp) (fun i hi => ixStep l p hl i hi (h2 i hi)) ?_
      unfold fdS
      exact g_x [⟨1, [], .br false .no⟩] [.sel []] (show decide ((↑l.length : Int) < (↑l.length : Int)) = false from (by rw [decide_eq_false_iff_not]; omega))
    rw [h1, if_neg (by omega)]
    unfold fdS at hL
    have e1' := hL
    refine g_q [⟨4, [.sel [0, 1, 7, 8]], .loop (exOf e1') (endOf e1')⟩] [] Exit.ret (stOf 19 [(4, AV.int .i64 (-1 : Int))] [Blk.row 9 [AV.str p]]) e1' ?_
    refine g_f [0] [false] (AV.int .i64 (-1 : Int)) ([Blk.row 9 [AV.str p]]) trivial ?_
    exact ⟨rfl, rfl⟩
  · generalize fstN (fun k => !((l.getD k tD).1.toList == p.toList)) l.length = m at *
    have hL : LoopG Tryd.prog 1 Tryd.f49 0 .ret (stOf 19 [(4, .int .i64 (m : Int))] (fdH p)) (fdS l p 0) := by
      refine loopG_of m (fun i => fdS l p i) (by kernel_rfl) (by simp) (fun i hi => ixStep l p hl i (by omega) (h2 i hi)) ?_
      have at1 : (flatA encT l).drop ((m : Int).toNat * 2) = AV.str (l.getD m tD).1 :: AV.str (l.getD m tD).2 :: flatA encT (l.drop (m + 1)) := encT_at l m h1
      have hc := find1_v (l.getD m tD) p
      generalize l.getD m tD = x at *
      rw [Bool.not_eq_false'] at h3
      rw [h3] at hc
      unfold encT at hc
      unfold fdS
      have e1' := (congrArg (fun z => AV.fptr z) at1)
      have e2' := hc
      exact g_x [⟨1, [], .br true .no⟩, ⟨7, [], .as (rhsOf e1')⟩, ⟨9, [], .callS [0] [false] (avOf e2') (blOf e2') [false]⟩] [.sel [4]] (And.intro (show decide ((↑m : Int) < (↑l.length : Int)) = true from (by rw [decide_eq_true_iff]; omega)) (And.intro (show (0 : Int) ≤ (↑m : Int) ∧ (↑m : Int) < (↑l.length : Int) from (by omega)) (And.intro e1' (And.intro (show 2 ≤ (AV.str x.fst :: AV.str x.snd :: flatA encT (List.drop (m + 1) l)).length from (by exact Nat.le_of_ble_eq_true (by kernel_rfl))) e2'))))
    rw [if_pos h1]
    unfold fdS at hL
    have e1' := hL
    refine g_q [⟨4, [.sel [0, 1, 7, 8]], .loop (exOf e1') (endOf e1')⟩] [] Exit.ret (stOf 19 [(4, AV.int .i64 (↑m : Int))] [Blk.row 9 [AV.str p]]) e1' ?_
    refine g_f [0] [false] (AV.int .i64 (↑m : Int)) ([Blk.row 9 [AV.str p]]) trivial ?_
    exact ⟨rfl, rfl⟩
theorem find_v (l : List TE) (p : ByteArray) (hl : l.length ≤ 1000) : CallsV Tryd.prog 39 [filesV l, .str p] [] (fun av H' => av = .int .i64 (if gtI l p < l.length then (gtI l p : Int) else -1) ∧ H' = []) := by
  refine callsG_at Tryd.func39 (by kernel_rfl) ?_
  have ix := idx_v l p hl
  generalize (if gtI l p < l.length then (gtI l p : Int) else -1) = r at *
  have e1' := ix
  refine g_q [⟨4, [], .callS [0] [false] (avOf e1') (blOf e1') [false]⟩] [.sel [4]] Exit.ret (stOf 8 [(4, AV.int .i64 r)] [Blk.row 9 [AV.str p]]) e1' ?_
  refine g_f [] [] (AV.int .i64 r) ([]) trivial ?_
  exact ⟨rfl, rfl⟩
end Go.Proofs.YtjgpojglgfddiaaDoor
namespace Go.Proofs.YtjgpojglgfddiaaDoor
open Go Go.RowKit V
set_option linter.unusedSimpArgs false
set_option linter.unusedVariables false
set_option maxHeartbeats 20000000
theorem get_v (l : List TE) (p : ByteArray) (hl : l.length ≤ 1000) : CallsV Tryd.prog 22 [treeV l, .str p] [] (fun av H' => av = .tuple [.str (gtF l p).1, .bool (gtF l p).2] ∧ H' = []) := by
  refine callsG_at Tryd.func22 (by kernel_rfl) ?_
  have fd := find_v l p hl
  unfold gtF
  by_cases h : gtI l p < l.length
  · rw [if_pos h] at fd ⊢
    generalize gtI l p = m at *
    have at1 : (flatA encT l).drop ((m : Int).toNat * 2) = AV.str (l.getD m tD).1 :: AV.str (l.getD m tD).2 :: flatA encT (l.drop (m + 1)) := encT_at l m h
    generalize l.getD m tD = x at *
    have e1' := fd
    have e2' := (congrArg (fun z => AV.fptr z) at1)
    refine g_q [⟨6, [], .call (avOf e1') (blOf e1') []⟩, ⟨14, [], .as (rhsOf e2')⟩] [.sel [4, 5]] Exit.ret (stOf 19 [(4, AV.str x.snd), (5, AV.bool true)] [Blk.row 24 [AV.slv l.length 2 (flatA encT l)]]) (And.intro (show 1 ≤ 1 from (by omega)) (And.intro e1' (And.intro (show 1 ≤ 1 from (by omega)) (And.intro (show (0 : Int) ≤ (↑m : Int) ∧ (↑m : Int) < (↑l.length : Int) from (by omega)) (And.intro e2' (show 1 ≤ (AV.str x.snd :: flatA encT (List.drop (m + 1) l)).length from (by exact Nat.le_of_ble_eq_true (by kernel_rfl)))))))) ?_
    refine g_f [] [] (AV.tuple [AV.str x.snd, AV.bool true]) ([]) trivial ?_
    exact ⟨rfl, rfl⟩
  · rw [if_neg h] at fd ⊢
    have e1' := fd
    refine g_q [⟨6, [], .call (avOf e1') (blOf e1') []⟩] [.sel [4, 5]] Exit.ret (stOf 19 [(4, AV.str (ByteArray.mk #[])), (5, AV.bool false)] [Blk.row 24 [AV.slv l.length 2 (flatA encT l)]]) (And.intro (show 1 ≤ 1 from (by omega)) e1') ?_
    refine g_f [] [] (AV.tuple [AV.str (ByteArray.mk #[]), AV.bool false]) ([]) trivial ?_
    exact ⟨rfl, rfl⟩
end Go.Proofs.YtjgpojglgfddiaaDoor
namespace Go.Proofs.YtjgpojglgfddiaaDoor
open Go Go.RowKit V
set_option linter.unusedSimpArgs false
set_option linter.unusedVariables false
set_option maxHeartbeats 20000000
abbrev CE := ByteArray × Int
def encC (x : (ByteArray × Int)) : List AV := [AV.str x.1, AV.int .i64 x.2]
theorem encC_l (x : (ByteArray × Int)) : (encC x).length = 2 := rfl
theorem encC_at (l : List (ByteArray × Int)) (k : Nat) (hk : k < l.length) : (flatA encC l).drop ((k : Int).toNat * 2) = AV.str (l.getD k (ByteArray.empty, 0)).1 :: AV.int .i64 (l.getD k (ByteArray.empty, 0)).2 :: flatA encC (l.drop (k + 1)) := flatA_at encC_l l (ByteArray.empty, 0) k hk
theorem encC_len (l : List (ByteArray × Int)) : (flatA encC l).length = l.length * 2 := flatA_length (n := 2) encC_l l
theorem encC_ge (l : List (ByteArray × Int)) : l.length * 2 ≤ (flatA encC l).length := Nat.le_of_eq (encC_len l).symm
theorem encC_noid (l : List (ByteArray × Int)) : ∀ x ∈ flatA encC l, noid0 x = true := flatA_noid _ (fun a x hx => by
  simp only [encC, List.mem_cons, List.not_mem_nil, or_false] at hx
  rcases hx with rfl | rfl <;> rfl) l
theorem encC_lend (l : List (ByteArray × Int)) : ∀ x ∈ flatA encC l, noid0 x = true ∧ x ≠ .junk := flatA_all (p := fun x => noid0 x = true ∧ x ≠ .junk) (fun a x hx => by
  simp only [encC, List.mem_cons, List.not_mem_nil, or_false] at hx
  rcases hx with rfl | rfl <;> exact ⟨rfl, by simp⟩) l
theorem encC_snoc (l : List (ByteArray × Int)) (x : (ByteArray × Int)) : (flatA encC l).take (l.length * 2) ++ [AV.str x.1, AV.int .i64 x.2] = flatA encC (l ++ [x]) := flatA_snoc encC_l l x
end Go.Proofs.YtjgpojglgfddiaaDoor
namespace Go.Proofs.YtjgpojglgfddiaaDoor
open Go Go.RowKit V
set_option linter.unusedSimpArgs false
set_option linter.unusedVariables false
set_option maxHeartbeats 20000000
/-- what is still to be said, from two places on -/
def dfR (a b : List TE) : Nat → Nat → Nat → List CE
  | 0, _, _ => []
  | n + 1, i, k =>
    if i = a.length ∧ k = b.length then [] else
    if k = b.length ∨ (i < a.length ∧ ltE (a.getD i tD) (b.getD k tD) = true) then ((a.getD i tD).1, 2) :: dfR a b n (i + 1) k else
    if i = a.length ∨ ltE (b.getD k tD) (a.getD i tD) = true then ((b.getD k tD).1, 1) :: dfR a b n i (k + 1) else
    if ((a.getD i tD).2.toList == (b.getD k tD).2.toList) = true then dfR a b n (i + 1) (k + 1) else ((a.getD i tD).1, 3) :: dfR a b n (i + 1) (k + 1)
def dfD (a b : List TE) : List CE := dfR a b (a.length + b.length) 0 0
end Go.Proofs.YtjgpojglgfddiaaDoor
namespace Go.Proofs.YtjgpojglgfddiaaDoor
open Go Go.RowKit V
set_option linter.unusedSimpArgs false
set_option linter.unusedVariables false
set_option maxHeartbeats 20000000
def dvS (x y : List TE) (o : List CE) : St := stOf 97 [(5, .sl 0 0 o.length 2), (6, filesV x), (7, filesV y)] [.row 61 (flatA encC o)]
theorem dv_rem0 (x : TE) (xs : List TE) (o : List CE) (ha : xs.length ≤ 1000) (ho : o.length ≤ 5000) : GoV Tryd.prog 0 (loopB Tryd.f32 0) (isX .normal (dvS xs [] (o ++ [(x.1, 2)]))) (dvS (x :: xs) [] o) := by
  have hsn := encC_snoc o (x.1, 2)
  have hno := encC_noid (o ++ [(x.1, (2 : Int))])
  have hge := encC_ge o
  have tk := flatA_all_take encT_l xs
  have hw : flatA encT (x :: xs) = AV.str x.1 :: AV.str x.2 :: flatA encT xs := rfl
  unfold dvS filesV
  rw [hw, List.length_append, List.length_singleton, List.length_cons]
  generalize flatA encT xs = r at *
  generalize xs.length = m at *
  have e1' := (congrArg (fun z => Blk.row 61 z) hsn)
  have e2' := (congrArg (fun z => AV.slv ((↑(m + 1) : Int).toNat - Int.toNat (1 : Int)) 2 z) tk)
  exact g_x [⟨4, [.tm 15 (.bool true)], .no⟩, ⟨38, [.hp 2 (rhsOf e1')], .no⟩, ⟨40, [], .as (rhsOf e2')⟩] [.sel [5, 6, 7], .keep [2] [true]] (And.intro (congrArg AV.bool (show decide ((↑(m + 1) : Int) > (0 : Int)) = true from (by rw [decide_eq_true_iff]; omega))) (And.intro (show true = false → false = true from (by decide)) (And.intro (show true = false → false = true from (by decide)) (And.intro (show (0 : Int) ≤ (0 : Int) ∧ (0 : Int) < (↑(m + 1) : Int) from (by omega)) (And.intro (show 1 ≤ (AV.str x.fst :: AV.str x.snd :: r).length from (by exact Nat.le_of_ble_eq_true (by kernel_rfl))) (And.intro (show o.length * 2 ≤ (flatA encC o).length from (by omega)) (And.intro (show 2 ≤ 2 from (by omega)) (And.intro (show (o.length + 1) * 24 ≤ 140737488355328 from (by omega)) (And.intro (show o.length + 1 ≤ maxLen from (by (unfold maxLen; omega))) (And.intro (congrArg some e1') (And.intro (show (0 : Int) ≤ (1 : Int) ∧ (1 : Int) ≤ (↑(m + 1) : Int) ∧ (↑(m + 1) : Int) ≤ (↑(m + 1) : Int) from (by omega)) (And.intro e2' (show ∀ (x_1 : AV), x_1 ∈ flatA encC (o ++ [(x.fst, (2 : Int))]) → noid0 x_1 = true from hno)))))))))))))

theorem dv_rem (x : TE) (xs : List TE) (y : TE) (ys : List TE) (o : List CE) (ha : xs.length ≤ 1000) (hb : ys.length ≤ 1000) (h : ltE x y = true) (ho : o.length ≤ 5000) : GoV Tryd.prog 0 (loopB Tryd.f32 0) (isX .normal (dvS xs (y :: ys) (o ++ [(x.1, 2)]))) (dvS (x :: xs) (y :: ys) o) := by
  have hsn := encC_snoc o (x.1, 2)
  have hno := encC_noid (o ++ [(x.1, (2 : Int))])
  have hge := encC_ge o
  have tkx := flatA_all_take encT_l xs
  have hwx : flatA encT (x :: xs) = AV.str x.1 :: AV.str x.2 :: flatA encT xs := rfl
  have tky := flatA_all_take encT_l ys
  have hwy : flatA encT (y :: ys) = AV.str y.1 :: AV.str y.2 :: flatA encT ys := rfl
  have h' : Op.bytesLess x.1.toList y.1.toList = true := h
  unfold dvS filesV
  rw [hwx, hwy, List.length_append, List.length_singleton]
  simp only [List.length_cons]
  generalize flatA encT xs = r at *
  generalize xs.length = m at *
  generalize flatA encT ys = r' at *
  generalize ys.length = m' at *
  have e1' := (congrArg (fun z => Blk.row 61 z) hsn)
  have e2' := (congrArg (fun z => AV.slv ((↑(m + 1) : Int).toNat - Int.toNat (1 : Int)) 2 z) tkx)
  exact g_x [⟨4, [.tm 15 (.bool true)], .no⟩, ⟨17, [], .br true .no⟩, ⟨18, [], .br true .no⟩, ⟨19, [], .br true .no⟩, ⟨20, [], .br true .no⟩, ⟨21, [], .br true .no⟩, ⟨22, [], .br true .no⟩, ⟨23, [], .br true .no⟩, ⟨24, [], .br true .no⟩, ⟨25, [], .br true .no⟩, ⟨29, [], .br true .no⟩, ⟨38, [.hp 2 (rhsOf e1')], .no⟩, ⟨40, [], .as (rhsOf e2')⟩] [.sel [5, 6, 7], .keep [2] [true]] (And.intro (congrArg AV.bool (show decide ((↑(m + 1) : Int) > (0 : Int)) = true from (by rw [decide_eq_true_iff]; omega))) (And.intro (show true = false → false = true from (by decide)) (And.intro (show (decide ((↑(m + 1) : Int) > (0 : Int)) == true) = true from (by simp_all; done)) (And.intro (show (decide ((↑(m + 1) : Int) > (0 : Int)) == true) = true from (by simp_all; done)) (And.intro (show (0 : Int) ≤ (0 : Int) ∧ (0 : Int) < (↑(m + 1) : Int) from (by omega)) (And.intro (show (decide ((↑(m + 1) : Int) > (0 : Int)) == true) = true from (by simp_all; done)) (And.intro (show (decide ((↑(m + 1) : Int) > (0 : Int)) == true) = true from (by simp_all; done)) (And.intro (show 1 ≤ (AV.str x.fst :: AV.str x.snd :: r).length from (by exact Nat.le_of_ble_eq_true (by kernel_rfl))) (And.intro (show (decide ((↑(m + 1) : Int) > (0 : Int)) == true) = true from (by simp_all; done)) (And.intro (show (decide ((↑(m + 1) : Int) > (0 : Int)) == true) = true from (by simp_all; done)) (And.intro (show (0 : Int) ≤ (0 : Int) ∧ (0 : Int) < (↑(m' + 1) : Int) from (by omega)) (And.intro (show (decide ((↑(m + 1) : Int) > (0 : Int)) == true) = true from (by simp_all; done)) (And.intro (show (decide ((↑(m + 1) : Int) > (0 : Int)) == true) = true from (by simp_all; done)) (And.intro (show 1 ≤ (AV.str y.fst :: AV.str y.snd :: r').length from (by exact Nat.le_of_ble_eq_true (by kernel_rfl))) (And.intro (show (decide ((↑(m + 1) : Int) > (0 : Int)) == true) = true from (by simp_all; done)) (And.intro (show (bif (↑(m' + 1) : Int) == (0 : Int) then true else bif decide ((↑(m + 1) : Int) > (0 : Int)) then Op.bytesLess x.fst.toList y.fst.toList else false) = true from (by simp_all; done)) (And.intro (show (0 : Int) ≤ (0 : Int) ∧ (0 : Int) < (↑(m + 1) : Int) from (by omega)) (And.intro (show 1 ≤ (AV.str x.fst :: AV.str x.snd :: r).length from (by exact Nat.le_of_ble_eq_true (by kernel_rfl))) (And.intro (show o.length * 2 ≤ (flatA encC o).length from (by omega)) (And.intro (show 2 ≤ 2 from (by omega)) (And.intro (show (o.length + 1) * 24 ≤ 140737488355328 from (by omega)) (And.intro (show o.length + 1 ≤ maxLen from (by (unfold maxLen; omega))) (And.intro (congrArg some e1') (And.intro (show (0 : Int) ≤ (1 : Int) ∧ (1 : Int) ≤ (↑(m + 1) : Int) ∧ (↑(m + 1) : Int) ≤ (↑(m + 1) : Int) from (by omega)) (And.intro e2' (show ∀ (x_1 : AV), x_1 ∈ flatA encC (o ++ [(x.fst, (2 : Int))]) → noid0 x_1 = true from hno))))))))))))))))))))))))))
theorem dv_add0 (y : TE) (ys : List TE) (o : List CE) (hb : ys.length ≤ 1000) (ho : o.length ≤ 5000) : GoV Tryd.prog 0 (loopB Tryd.f32 0) (isX .normal (dvS [] ys (o ++ [(y.1, 1)]))) (dvS [] (y :: ys) o) := by
  have hsn := encC_snoc o (y.1, 1)
  have hno := encC_noid (o ++ [(y.1, (1 : Int))])
  have hge := encC_ge o
  have tky := flatA_all_take encT_l ys
  have hwy : flatA encT (y :: ys) = AV.str y.1 :: AV.str y.2 :: flatA encT ys := rfl
  unfold dvS filesV
  rw [hwy, List.length_append, List.length_singleton]
  simp only [List.length_cons]
  generalize flatA encT ys = r' at *
  generalize ys.length = m' at *
  have e1' := (congrArg (fun z => Blk.row 61 z) hsn)
  have e2' := (congrArg (fun z => AV.slv ((↑(m' + 1) : Int).toNat - Int.toNat (1 : Int)) 2 z) tky)
  exact g_x [⟨8, [], .br true .no⟩, ⟨54, [.hp 2 (rhsOf e1')], .no⟩, ⟨56, [], .as (rhsOf e2')⟩] [.sel [5, 6, 7], .keep [2] [true]] (And.intro (show (bif false then true else decide ((↑(m' + 1) : Int) > (0 : Int))) = true from (by simp_all; done)) (And.intro (show false = true → false = true from (fun h => h)) (And.intro (show true = false → false = true from (by decide)) (And.intro (show (0 : Int) ≤ (0 : Int) ∧ (0 : Int) < (↑(m' + 1) : Int) from (by omega)) (And.intro (show 1 ≤ (AV.str y.fst :: AV.str y.snd :: r').length from (by exact Nat.le_of_ble_eq_true (by kernel_rfl))) (And.intro (show o.length * 2 ≤ (flatA encC o).length from (by omega)) (And.intro (show 2 ≤ 2 from (by omega)) (And.intro (show (o.length + 1) * 24 ≤ 140737488355328 from (by omega)) (And.intro (show o.length + 1 ≤ maxLen from (by (unfold maxLen; omega))) (And.intro (congrArg some e1') (And.intro (show (0 : Int) ≤ (1 : Int) ∧ (1 : Int) ≤ (↑(m' + 1) : Int) ∧ (↑(m' + 1) : Int) ≤ (↑(m' + 1) : Int) from (by omega)) (And.intro e2' (show ∀ (x : AV), x ∈ flatA encC (o ++ [(y.fst, (1 : Int))]) → noid0 x = true from hno)))))))))))))
theorem dv_add (x : TE) (xs : List TE) (y : TE) (ys : List TE) (o : List CE) (ha : xs.length ≤ 1000) (hb : ys.length ≤ 1000) (h : ltE x y = false) (h2 : ltE y x = true) (ho : o.length ≤ 5000) : GoV Tryd.prog 0 (loopB Tryd.f32 0) (isX .normal (dvS (x :: xs) ys (o ++ [(y.1, 1)]))) (dvS (x :: xs) (y :: ys) o) := by
  have hsn := encC_snoc o (y.1, 1)
  have hno := encC_noid (o ++ [(y.1, (1 : Int))])
  have hge := encC_ge o
  have tkx := flatA_all_take encT_l xs
  have hwx : flatA encT (x :: xs) = AV.str x.1 :: AV.str x.2 :: flatA encT xs := rfl
  have tky := flatA_all_take encT_l ys
  have hwy : flatA encT (y :: ys) = AV.str y.1 :: AV.str y.2 :: flatA encT ys := rfl
  have h' : Op.bytesLess x.1.toList y.1.toList = false := h
  have h2' : Op.bytesLess y.1.toList x.1.toList = true := h2
  unfold dvS filesV
  rw [hwx, hwy, List.length_append, List.length_singleton]
  simp only [List.length_cons]
  generalize flatA encT xs = r at *
  generalize xs.length = m at *
  generalize flatA encT ys = r' at *
  generalize ys.length = m' at *
  have e1' := (congrArg (fun z => Blk.row 61 z) hsn)
  have e2' := (congrArg (fun z => AV.slv ((↑(m' + 1) : Int).toNat - Int.toNat (1 : Int)) 2 z) tky)
  exact g_x [⟨4, [.tm 15 (.bool true)], .no⟩, ⟨17, [], .br true .no⟩, ⟨18, [], .br true .no⟩, ⟨19, [], .br true .no⟩, ⟨20, [], .br true .no⟩, ⟨21, [], .br true .no⟩, ⟨22, [], .br true .no⟩, ⟨23, [], .br true .no⟩, ⟨24, [], .br true .no⟩, ⟨25, [], .br true .no⟩, ⟨29, [], .br false .no⟩, ⟨45, [], .br true .no⟩, ⟨54, [.hp 2 (rhsOf e1')], .no⟩, ⟨56, [], .as (rhsOf e2')⟩] [.sel [5, 6, 7], .keep [2] [true]] (And.intro (congrArg AV.bool (show decide ((↑(m + 1) : Int) > (0 : Int)) = true from (by rw [decide_eq_true_iff]; omega))) (And.intro (show true = false → false = true from (by decide)) (And.intro (show (decide ((↑(m + 1) : Int) > (0 : Int)) == true) = true from (by simp_all; done)) (And.intro (show (decide ((↑(m + 1) : Int) > (0 : Int)) == true) = true from (by simp_all; done)) (And.intro (show (0 : Int) ≤ (0 : Int) ∧ (0 : Int) < (↑(m + 1) : Int) from (by omega)) (And.intro (show (decide ((↑(m + 1) : Int) > (0 : Int)) == true) = true from (by simp_all; done)) (And.intro (show (decide ((↑(m + 1) : Int) > (0 : Int)) == true) = true from (by simp_all; done)) (And.intro (show 1 ≤ (AV.str x.fst :: AV.str x.snd :: r).length from (by exact Nat.le_of_ble_eq_true (by kernel_rfl))) (And.intro (show (decide ((↑(m + 1) : Int) > (0 : Int)) == true) = true from (by simp_all; done)) (And.intro (show (decide ((↑(m + 1) : Int) > (0 : Int)) == true) = true from (by simp_all; done)) (And.intro (show (0 : Int) ≤ (0 : Int) ∧ (0 : Int) < (↑(m' + 1) : Int) from (by omega)) (And.intro (show (decide ((↑(m + 1) : Int) > (0 : Int)) == true) = true from (by simp_all; done)) (And.intro (show (decide ((↑(m + 1) : Int) > (0 : Int)) == true) = true from (by simp_all; done)) (And.intro (show 1 ≤ (AV.str y.fst :: AV.str y.snd :: r').length from (by exact Nat.le_of_ble_eq_true (by kernel_rfl))) (And.intro (show (decide ((↑(m + 1) : Int) > (0 : Int)) == true) = true from (by simp_all; done)) (And.intro (show (bif (↑(m' + 1) : Int) == (0 : Int) then true else bif decide ((↑(m + 1) : Int) > (0 : Int)) then Op.bytesLess x.fst.toList y.fst.toList else false) = false from (by simp_all; omega)) (And.intro (show (0 : Int) ≤ (0 : Int) ∧ (0 : Int) < (↑(m' + 1) : Int) from (by omega)) (And.intro (show 1 ≤ (AV.str y.fst :: AV.str y.snd :: r').length from (by exact Nat.le_of_ble_eq_true (by kernel_rfl))) (And.intro (show (0 : Int) ≤ (0 : Int) ∧ (0 : Int) < (↑(m + 1) : Int) from (by omega)) (And.intro (show 1 ≤ (AV.str x.fst :: AV.str x.snd :: r).length from (by exact Nat.le_of_ble_eq_true (by kernel_rfl))) (And.intro (congrArg (fun z => bif (↑(m + 1) : Int) == (0 : Int) then true else z) h2') (And.intro (show (0 : Int) ≤ (0 : Int) ∧ (0 : Int) < (↑(m' + 1) : Int) from (by omega)) (And.intro (show 1 ≤ (AV.str y.fst :: AV.str y.snd :: r').length from (by exact Nat.le_of_ble_eq_true (by kernel_rfl))) (And.intro (show o.length * 2 ≤ (flatA encC o).length from (by omega)) (And.intro (show 2 ≤ 2 from (by omega)) (And.intro (show (o.length + 1) * 24 ≤ 140737488355328 from (by omega)) (And.intro (show o.length + 1 ≤ maxLen from (by (unfold maxLen; omega))) (And.intro (congrArg some e1') (And.intro (show (0 : Int) ≤ (1 : Int) ∧ (1 : Int) ≤ (↑(m' + 1) : Int) ∧ (↑(m' + 1) : Int) ≤ (↑(m' + 1) : Int) from (by omega)) (And.intro e2' (show ∀ (x : AV), x ∈ flatA encC (o ++ [(y.fst, (1 : Int))]) → noid0 x = true from hno)))))))))))))))))))))))))))))))
theorem dv_same (x : TE) (xs : List TE) (y : TE) (ys : List TE) (o : List CE) (ha : xs.length ≤ 1000) (hb : ys.length ≤ 1000) (h : ltE x y = false) (h2 : ltE y x = false) (h3 : (x.2.toList == y.2.toList) = true) (ho : o.length ≤ 5000) : GoV Tryd.prog 0 (loopB Tryd.f32 0) (isX .normal (dvS xs ys (o))) (dvS (x :: xs) (y :: ys) o) := by
  have hge := encC_ge o
  have tkx := flatA_all_take encT_l xs
  have hwx : flatA encT (x :: xs) = AV.str x.1 :: AV.str x.2 :: flatA encT xs := rfl
  have tky := flatA_all_take encT_l ys
  have hwy : flatA encT (y :: ys) = AV.str y.1 :: AV.str y.2 :: flatA encT ys := rfl
  have h' : Op.bytesLess x.1.toList y.1.toList = false := h
  have h2' : Op.bytesLess y.1.toList x.1.toList = false := h2
  unfold dvS filesV
  rw [hwx, hwy]
  simp only [List.length_cons]
  generalize flatA encT xs = r at *
  generalize xs.length = m at *
  generalize flatA encT ys = r' at *
  generalize ys.length = m' at *
  have e1' := (congrArg (fun z => AV.slv ((↑(m + 1) : Int).toNat - Int.toNat (1 : Int)) 2 z) tkx)
  have e2' := (congrArg (fun z => AV.slv ((↑(m' + 1) : Int).toNat - Int.toNat (1 : Int)) 2 z) tky)
  exact g_x [⟨4, [.tm 15 (.bool true)], .no⟩, ⟨17, [], .br true .no⟩, ⟨18, [], .br true .no⟩, ⟨19, [], .br true .no⟩, ⟨20, [], .br true .no⟩, ⟨21, [], .br true .no⟩, ⟨22, [], .br true .no⟩, ⟨23, [], .br true .no⟩, ⟨24, [], .br true .no⟩, ⟨25, [], .br true .no⟩, ⟨29, [], .br false .no⟩, ⟨45, [], .br false .no⟩, ⟨55, [], .br false .no⟩, ⟨57, [], .as (rhsOf e1')⟩, ⟨59, [], .as (rhsOf e2')⟩] [.sel [5, 6, 7]] (And.intro (congrArg AV.bool (show decide ((↑(m + 1) : Int) > (0 : Int)) = true from (by rw [decide_eq_true_iff]; omega))) (And.intro (show true = false → false = true from (by decide)) (And.intro (show (decide ((↑(m + 1) : Int) > (0 : Int)) == true) = true from (by simp_all; done)) (And.intro (show (decide ((↑(m + 1) : Int) > (0 : Int)) == true) = true from (by simp_all; done)) (And.intro (show (0 : Int) ≤ (0 : Int) ∧ (0 : Int) < (↑(m + 1) : Int) from (by omega)) (And.intro (show (decide ((↑(m + 1) : Int) > (0 : Int)) == true) = true from (by simp_all; done)) (And.intro (show (decide ((↑(m + 1) : Int) > (0 : Int)) == true) = true from (by simp_all; done)) (And.intro (show 1 ≤ (AV.str x.fst :: AV.str x.snd :: r).length from (by exact Nat.le_of_ble_eq_true (by kernel_rfl))) (And.intro (show (decide ((↑(m + 1) : Int) > (0 : Int)) == true) = true from (by simp_all; done)) (And.intro (show (decide ((↑(m + 1) : Int) > (0 : Int)) == true) = true from (by simp_all; done)) (And.intro (show (0 : Int) ≤ (0 : Int) ∧ (0 : Int) < (↑(m' + 1) : Int) from (by omega)) (And.intro (show (decide ((↑(m + 1) : Int) > (0 : Int)) == true) = true from (by simp_all; done)) (And.intro (show (decide ((↑(m + 1) : Int) > (0 : Int)) == true) = true from (by simp_all; done)) (And.intro (show 1 ≤ (AV.str y.fst :: AV.str y.snd :: r').length from (by exact Nat.le_of_ble_eq_true (by kernel_rfl))) (And.intro (show (decide ((↑(m + 1) : Int) > (0 : Int)) == true) = true from (by simp_all; done)) (And.intro (show (bif (↑(m' + 1) : Int) == (0 : Int) then true else bif decide ((↑(m + 1) : Int) > (0 : Int)) then Op.bytesLess x.fst.toList y.fst.toList else false) = false from (by simp_all; omega)) (And.intro (show (0 : Int) ≤ (0 : Int) ∧ (0 : Int) < (↑(m' + 1) : Int) from (by omega)) (And.intro (show 1 ≤ (AV.str y.fst :: AV.str y.snd :: r').length from (by exact Nat.le_of_ble_eq_true (by kernel_rfl))) (And.intro (show (0 : Int) ≤ (0 : Int) ∧ (0 : Int) < (↑(m + 1) : Int) from (by omega)) (And.intro (show 1 ≤ (AV.str x.fst :: AV.str x.snd :: r).length from (by exact Nat.le_of_ble_eq_true (by kernel_rfl))) (And.intro (congrArg (fun z => bif (↑(m + 1) : Int) == (0 : Int) then true else z) h2') (And.intro (show (0 : Int) ≤ (0 : Int) ∧ (0 : Int) < (↑(m + 1) : Int) from (by omega)) (And.intro (show 1 ≤ (AV.str x.snd :: r).length from (by exact Nat.le_of_ble_eq_true (by kernel_rfl))) (And.intro (show (0 : Int) ≤ (0 : Int) ∧ (0 : Int) < (↑(m' + 1) : Int) from (by omega)) (And.intro (show 1 ≤ (AV.str y.snd :: r').length from (by exact Nat.le_of_ble_eq_true (by kernel_rfl))) (And.intro (congrArg (fun z => !z) h3) (And.intro (show (0 : Int) ≤ (1 : Int) ∧ (1 : Int) ≤ (↑(m + 1) : Int) ∧ (↑(m + 1) : Int) ≤ (↑(m + 1) : Int) from (by omega)) (And.intro e1' (And.intro (show (0 : Int) ≤ (1 : Int) ∧ (1 : Int) ≤ (↑(m' + 1) : Int) ∧ (↑(m' + 1) : Int) ≤ (↑(m' + 1) : Int) from (by omega)) e2')))))))))))))))))))))))))))))
theorem dv_both (x : TE) (xs : List TE) (y : TE) (ys : List TE) (o : List CE) (ha : xs.length ≤ 1000) (hb : ys.length ≤ 1000) (h : ltE x y = false) (h2 : ltE y x = false) (h3 : (x.2.toList == y.2.toList) = false) (ho : o.length ≤ 5000) : GoV Tryd.prog 0 (loopB Tryd.f32 0) (isX .normal (dvS xs ys (o ++ [(x.1, 3)]))) (dvS (x :: xs) (y :: ys) o) := by
  have hsn := encC_snoc o (x.1, 3)
  have hno := encC_noid (o ++ [(x.1, (3 : Int))])
  have hge := encC_ge o
  have tkx := flatA_all_take encT_l xs
  have hwx : flatA encT (x :: xs) = AV.str x.1 :: AV.str x.2 :: flatA encT xs := rfl
  have tky := flatA_all_take encT_l ys
  have hwy : flatA encT (y :: ys) = AV.str y.1 :: AV.str y.2 :: flatA encT ys := rfl
  have h' : Op.bytesLess x.1.toList y.1.toList = false := h
  have h2' : Op.bytesLess y.1.toList x.1.toList = false := h2
  unfold dvS filesV
  rw [hwx, hwy, List.length_append, List.length_singleton]
  simp only [List.length_cons]
  generalize flatA encT xs = r at *
  generalize xs.length = m at *
  generalize flatA encT ys = r' at *
  generalize ys.length = m' at *
  have e1' := (congrArg (fun z => Blk.row 61 z) hsn)
  have e2' := (congrArg (fun z => AV.slv ((↑(m + 1) : Int).toNat - Int.toNat (1 : Int)) 2 z) tkx)
  have e3' := (congrArg (fun z => AV.slv ((↑(m' + 1) : Int).toNat - Int.toNat (1 : Int)) 2 z) tky)
  exact g_x [⟨4, [.tm 15 (.bool true)], .no⟩, ⟨17, [], .br true .no⟩, ⟨18, [], .br true .no⟩, ⟨19, [], .br true .no⟩, ⟨20, [], .br true .no⟩, ⟨21, [], .br true .no⟩, ⟨22, [], .br true .no⟩, ⟨23, [], .br true .no⟩, ⟨24, [], .br true .no⟩, ⟨25, [], .br true .no⟩, ⟨29, [], .br false .no⟩, ⟨45, [], .br false .no⟩, ⟨55, [], .br true .no⟩, ⟨64, [.hp 2 (rhsOf e1')], .no⟩, ⟨66, [], .as (rhsOf e2')⟩, ⟨68, [], .as (rhsOf e3')⟩] [.sel [5, 6, 7], .keep [2] [true]] (And.intro (congrArg AV.bool (show decide ((↑(m + 1) : Int) > (0 : Int)) = true from (by rw [decide_eq_true_iff]; omega))) (And.intro (show true = false → false = true from (by decide)) (And.intro (show (decide ((↑(m + 1) : Int) > (0 : Int)) == true) = true from (by simp_all; done)) (And.intro (show (decide ((↑(m + 1) : Int) > (0 : Int)) == true) = true from (by simp_all; done)) (And.intro (show (0 : Int) ≤ (0 : Int) ∧ (0 : Int) < (↑(m + 1) : Int) from (by omega)) (And.intro (show (decide ((↑(m + 1) : Int) > (0 : Int)) == true) = true from (by simp_all; done)) (And.intro (show (decide ((↑(m + 1) : Int) > (0 : Int)) == true) = true from (by simp_all; done)) (And.intro (show 1 ≤ (AV.str x.fst :: AV.str x.snd :: r).length from (by exact Nat.le_of_ble_eq_true (by kernel_rfl))) (And.intro (show (decide ((↑(m + 1) : Int) > (0 : Int)) == true) = true from (by simp_all; done)) (And.intro (show (decide ((↑(m + 1) : Int) > (0 : Int)) == true) = true from (by simp_all; done)) (And.intro (show (0 : Int) ≤ (0 : Int) ∧ (0 : Int) < (↑(m' + 1) : Int) from (by omega)) (And.intro (show (decide ((↑(m + 1) : Int) > (0 : Int)) == true) = true from (by simp_all; done)) (And.intro (show (decide ((↑(m + 1) : Int) > (0 : Int)) == true) = true from (by simp_all; done)) (And.intro (show 1 ≤ (AV.str y.fst :: AV.str y.snd :: r').length from (by exact Nat.le_of_ble_eq_true (by kernel_rfl))) (And.intro (show (decide ((↑(m + 1) : Int) > (0 : Int)) == true) = true from (by simp_all; done)) (And.intro (show (bif (↑(m' + 1) : Int) == (0 : Int) then true else bif decide ((↑(m + 1) : Int) > (0 : Int)) then Op.bytesLess x.fst.toList y.fst.toList else false) = false from (by simp_all; omega)) (And.intro (show (0 : Int) ≤ (0 : Int) ∧ (0 : Int) < (↑(m' + 1) : Int) from (by omega)) (And.intro (show 1 ≤ (AV.str y.fst :: AV.str y.snd :: r').length from (by exact Nat.le_of_ble_eq_true (by kernel_rfl))) (And.intro (show (0 : Int) ≤ (0 : Int) ∧ (0 : Int) < (↑(m + 1) : Int) from (by omega)) (And.intro (show 1 ≤ (AV.str x.fst :: AV.str x.snd :: r).length from (by exact Nat.le_of_ble_eq_true (by kernel_rfl))) (And.intro (congrArg (fun z => bif (↑(m + 1) : Int) == (0 : Int) then true else z) h2') (And.intro (show (0 : Int) ≤ (0 : Int) ∧ (0 : Int) < (↑(m + 1) : Int) from (by omega)) (And.intro (show 1 ≤ (AV.str x.snd :: r).length from (by exact Nat.le_of_ble_eq_true (by kernel_rfl))) (And.intro (show (0 : Int) ≤ (0 : Int) ∧ (0 : Int) < (↑(m' + 1) : Int) from (by omega)) (And.intro (show 1 ≤ (AV.str y.snd :: r').length from (by exact Nat.le_of_ble_eq_true (by kernel_rfl))) (And.intro (congrArg (fun z => !z) h3) (And.intro (show (0 : Int) ≤ (0 : Int) ∧ (0 : Int) < (↑(m + 1) : Int) from (by omega)) (And.intro (show 1 ≤ (AV.str x.fst :: AV.str x.snd :: r).length from (by exact Nat.le_of_ble_eq_true (by kernel_rfl))) (And.intro (show o.length * 2 ≤ (flatA encC o).length from (by omega)) (And.intro (show 2 ≤ 2 from (by omega)) (And.intro (show (o.length + 1) * 24 ≤ 140737488355328 from (by omega)) (And.intro (show o.length + 1 ≤ maxLen from (by (unfold maxLen; omega))) (And.intro (congrArg some e1') (And.intro (show (0 : Int) ≤ (1 : Int) ∧ (1 : Int) ≤ (↑(m + 1) : Int) ∧ (↑(m + 1) : Int) ≤ (↑(m + 1) : Int) from (by omega)) (And.intro e2' (And.intro (show (0 : Int) ≤ (1 : Int) ∧ (1 : Int) ≤ (↑(m' + 1) : Int) ∧ (↑(m' + 1) : Int) ≤ (↑(m' + 1) : Int) from (by omega)) (And.intro e3' (show ∀ (x_1 : AV), x_1 ∈ flatA encC (o ++ [(x.fst, (3 : Int))]) → noid0 x_1 = true from hno))))))))))))))))))))))))))))))))))))))
end Go.Proofs.YtjgpojglgfddiaaDoor
namespace Go.Proofs.YtjgpojglgfddiaaDoor
open Go Go.RowKit V
set_option linter.unusedSimpArgs false
set_option linter.unusedVariables false
set_option maxHeartbeats 20000000
theorem drop_cons (l : List TE) (i : Nat) (h : i < l.length) : l.drop i = l.getD i tD :: l.drop (i + 1) := by
  rw [List.drop_eq_getElem_cons h, List.getD_eq_getElem?_getD, List.getElem?_eq_getElem h]
  rfl
def dvI (a b : List TE) (n : Nat) (s : St) : Prop := ∃ i k o, i ≤ a.length ∧ k ≤ b.length ∧ (a.length - i) + (b.length - k) ≤ n ∧ o.length + n ≤ 2000 ∧ o ++ dfR a b n i k = dfD a b ∧ s = dvS (a.drop i) (b.drop k) o
theorem diff_v (a b : List TE) (ha : a.length ≤ 1000) (hb : b.length ≤ 1000) : CallsV Tryd.prog 32 [treeV a, treeV b] [] (fun av H' => av = .sl 0 0 (dfD a b).length 2 ∧ H' = [.row 61 (flatA encC (dfD a b))]) := by
  refine callsG_at Tryd.func32 (by kernel_rfl) ?_
  have hL : LoopG Tryd.prog 0 Tryd.f32 0 (.exit 0) (stOf 97 [(5, .sl 0 0 (dfD a b).length 2)] [.row 61 (flatA encC (dfD a b))]) (dvS a b []) := by
    refine loopG_inv (a.length + b.length) (dvI a b) ⟨0, 0, [], Nat.zero_le _, Nat.zero_le _, by omega, by simp; omega, rfl, rfl⟩ (by simp) ?_
    rintro n _ ⟨i, k, o, hi, hk, hn, ho, hD, rfl⟩
    by_cases he : i = a.length ∧ k = b.length
    · obtain ⟨rfl, rfl⟩ := he
      have hO : o = dfD a b := by
        rw [← hD]
        cases n with
        | zero => simp [dfR]
        | succ n => simp [dfR]
      subst hO
      rw [List.drop_length, List.drop_length]
      have hX : GoV Tryd.prog 0 (loopB Tryd.f32 0) (isX (.exit 0) (stOf 97 [(5, .sl 0 0 (dfD a b).length 2)] [.row 61 (flatA encC (dfD a b))])) (dvS [] [] (dfD a b)) := by
        generalize dfD a b = o at *
        clear hD
        unfold dvS
        exact g_x [] [.sel [5]] trivial
      exact hX.mono fun e2 s2 h => Or.inr h
    · cases n with
      | zero => omega
      | succ n =>
        rw [dfR, if_neg he] at hD
        have lx : ∀ j, (a.drop j).length ≤ 1000 := fun j => by rw [List.length_drop]; omega
        have ly : ∀ j, (b.drop j).length ≤ 1000 := fun j => by rw [List.length_drop]; omega
        by_cases h1 : k = b.length ∨ (i < a.length ∧ ltE (a.getD i tD) (b.getD k tD) = true)
        · rw [if_pos h1] at hD
          have hia : i < a.length := by rcases h1 with h | h <;> omega
          have hg : GoV Tryd.prog 0 (loopB Tryd.f32 0) (isX .normal (dvS (a.drop (i + 1)) (b.drop k) (o ++ [((a.getD i tD).1, 2)]))) (dvS (a.drop i) (b.drop k) o) := by
            rw [drop_cons a i hia]
            rcases Nat.lt_or_ge k b.length with q | q
            · rw [drop_cons b k q]
              have hlt : ltE (a.getD i tD) (b.getD k tD) = true := by
                rcases h1 with h | h
                · omega
                · exact h.2
              exact dv_rem _ _ _ _ o (lx _) (ly _) hlt (by omega)
            · obtain rfl : k = b.length := by omega
              rw [List.drop_length]
              exact dv_rem0 _ _ o (lx _) (by omega)
          refine hg.mono ?_
          rintro _ _ ⟨rfl, rfl⟩
          exact .inl ⟨rfl, n, by omega, i + 1, k, _, by omega, hk, by omega, by rw [List.length_append, List.length_singleton]; omega, by rw [List.append_assoc]; exact hD, rfl⟩
        · rw [if_neg h1] at hD
          have hkb : k < b.length := by
            have : k ≠ b.length := fun h => h1 (.inl h)
            omega
          have q1 : i < a.length → ltE (a.getD i tD) (b.getD k tD) = false := fun hia => by
            cases h : ltE (a.getD i tD) (b.getD k tD)
            · rfl
            · exact absurd (.inr ⟨hia, h⟩) h1
          by_cases h2 : i = a.length ∨ ltE (b.getD k tD) (a.getD i tD) = true
          · rw [if_pos h2] at hD
            have hg : GoV Tryd.prog 0 (loopB Tryd.f32 0) (isX .normal (dvS (a.drop i) (b.drop (k + 1)) (o ++ [((b.getD k tD).1, 1)]))) (dvS (a.drop i) (b.drop k) o) := by
              rw [drop_cons b k hkb]
              rcases Nat.lt_or_ge i a.length with q | q
              · rw [drop_cons a i q]
                have hlt : ltE (b.getD k tD) (a.getD i tD) = true := by
                  rcases h2 with h | h
                  · omega
                  · exact h
                exact dv_add _ _ _ _ o (lx _) (ly _) (q1 q) hlt (by omega)
              · obtain rfl : i = a.length := by omega
                rw [List.drop_length]
                exact dv_add0 _ _ o (ly _) (by omega)
            refine hg.mono ?_
            rintro _ _ ⟨rfl, rfl⟩
            exact .inl ⟨rfl, n, by omega, i, k + 1, _, hi, by omega, by omega, by rw [List.length_append, List.length_singleton]; omega, by rw [List.append_assoc]; exact hD, rfl⟩
          · rw [if_neg h2] at hD
            have hia : i < a.length := by
              have : i ≠ a.length := fun h => h2 (.inl h)
              omega
            have q2 : ltE (b.getD k tD) (a.getD i tD) = false := by
              cases h : ltE (b.getD k tD) (a.getD i tD)
              · rfl
              · exact absurd (.inr h) h2
            by_cases hq : ((a.getD i tD).2.toList == (b.getD k tD).2.toList) = true
            · rw [if_pos hq] at hD
              have hg := dv_same _ _ _ _ o (lx (i + 1)) (ly (k + 1)) (q1 hia) q2 hq (by omega)
              rw [← drop_cons a i hia, ← drop_cons b k hkb] at hg
              refine hg.mono ?_
              rintro _ _ ⟨rfl, rfl⟩
              exact .inl ⟨rfl, n, by omega, i + 1, k + 1, o, by omega, by omega, by omega, by omega, hD, rfl⟩
            · rw [if_neg hq] at hD
              have hg := dv_both _ _ _ _ o (lx (i + 1)) (ly (k + 1)) (q1 hia) q2 (Bool.eq_false_iff.2 hq) (by omega)
              rw [← drop_cons a i hia, ← drop_cons b k hkb] at hg
              refine hg.mono ?_
              rintro _ _ ⟨rfl, rfl⟩
              exact .inl ⟨rfl, n, by omega, i + 1, k + 1, _, by omega, by omega, by omega, by rw [List.length_append, List.length_singleton]; omega, by rw [List.append_assoc]; exact hD, rfl⟩
  generalize dfD a b = o at *
  unfold dvS at hL
  have e1' := hL
  refine g_q [⟨10, [.sel [5, 6, 7], .keep [] [], .own 5 61 2], .loop (exOf e1') (endOf e1')⟩] [.sel [4]] Exit.ret (stOf 97 [(4, AV.sl 0 0 o.length 2)] [Blk.row 61 (flatA encC o)]) (And.intro (show 1 ≤ 1 from (by omega)) (And.intro (show 1 ≤ 1 from (by omega)) e1')) ?_
  refine g_f [0] [true] (AV.sl 0 0 o.length 2) ([Blk.row 61 (flatA encC o)]) (show ∀ (x : AV), x ∈ flatA encC o → noid0 x = true from encC_noid o) ?_
  exact ⟨rfl, rfl⟩
end Go.Proofs.YtjgpojglgfddiaaDoor
namespace Go.Proofs.YtjgpojglgfddiaaDoor
open Go Go.RowKit V
set_option linter.unusedSimpArgs false
set_option linter.unusedVariables false
set_option maxHeartbeats 20000000
theorem clone_v (x : TE) (xs : List TE) (hl : xs.length ≤ 1000) : CallsV Tryd.prog 41 [filesV (x :: xs)] [] (fun av H' => av = .sl 0 0 (xs.length + 1) 2 ∧ H' = [.row 31 (flatA encT (x :: xs))]) := by
  refine callsG_at Tryd.func41 (by kernel_rfl) ?_
  have tk := flatA_all_take encT_l (x :: xs)
  have h1 := encT_noid (x :: xs)
  have h2 := encT_plain (x :: xs)
  have h3 := encT_lend (x :: xs)
  have hge := encT_ge (x :: xs)
  unfold filesV
  rw [List.length_cons] at *
  generalize flatA encT (x :: xs) = r at *
  generalize xs.length = m at *
  refine g_q [] [.sel [2]] Exit.ret (stOf 8 [(2, AV.sl 1 0 (0 + (m + 1)) 2)] [Blk.dead, Blk.row 31 r]) (And.intro (show 0 ≤ 0 from (by omega)) (And.intro (show (0 + (m + 1)) * 32 ≤ 140737488355328 from (by omega)) (show 0 + (m + 1) ≤ maxLen from (by (unfold maxLen; omega))))) ?_
  refine g_f [1] [true] (AV.sl 0 0 (0 + (m + 1)) 2) ([Blk.row 31 r]) (show ∀ (x : AV), x ∈ r → noid0 x = true from h1) ?_
  exact ⟨by rw [Nat.zero_add], rfl⟩
end Go.Proofs.YtjgpojglgfddiaaDoor
namespace Go.Proofs.YtjgpojglgfddiaaDoor
open Go Go.RowKit V
set_option linter.unusedSimpArgs false
set_option linter.unusedVariables false
set_option maxHeartbeats 20000000
theorem pick_eq (k n : Nat) (hn : 0 < n) (hn2 : n ≤ 1000) : (IntKind.i64.wrap (((k : Int).tmod (n : Int)) + (n : Int))).tmod (n : Int) = ((k % n : Nat) : Int) := by
  have h1 : (k : Int).tmod (n : Int) = ((k % n : Nat) : Int) := (Int.ofNat_tmod k n).symm
  have h2 : k % n < n := Nat.mod_lt _ hn
  have h3 : ((k % n : Nat) : Int) + (n : Int) = ((k % n + n : Nat) : Int) := (Int.natCast_add _ _).symm
  rw [h1, h3, wrap_i64 (by omega) (by omega), ← Int.ofNat_tmod, Nat.add_mod_right, Nat.mod_mod]
theorem pick_v (k n : Nat) (hk : k ≤ 255) (hn : 0 < n) (hn2 : n ≤ 1000) : CallsV Tryd.prog 34 [.int .i64 (k : Int), .int .i64 (n : Int)] [] (fun av H' => av = .int .i64 ((k % n : Nat) : Int) ∧ H' = []) := by
  refine callsG_at Tryd.func34 (by kernel_rfl) ?_
  refine g_q [⟨3, [], .br false .no⟩] [.sel [4]] Exit.ret (stOf 14 [(4, AV.int .i64 ((IntKind.i64.wrap ((↑k : Int).tmod (↑n : Int) + (↑n : Int))).tmod (↑n : Int)))] []) (And.intro (show decide ((↑n : Int) ≤ (0 : Int)) = false from (by rw [decide_eq_false_iff_not]; omega)) (And.intro (show (↑n : Int) ≠ (0 : Int) from (by omega)) (show (↑n : Int) ≠ (0 : Int) from (by omega)))) ?_
  refine g_f [] [] (AV.int .i64 ((IntKind.i64.wrap ((↑k : Int).tmod (↑n : Int) + (↑n : Int))).tmod (↑n : Int))) ([]) trivial ?_
  exact ⟨congrArg (AV.int .i64) (pick_eq k n hn hn2), rfl⟩
end Go.Proofs.YtjgpojglgfddiaaDoor
namespace Go.Proofs.YtjgpojglgfddiaaDoor
open Go Go.RowKit V
set_option linter.unusedSimpArgs false
set_option linter.unusedVariables false
set_option maxHeartbeats 20000000
def ptT : List ByteArray := [.mk #[97], .mk #[98], .mk #[97, 47, 120], .mk #[108, 105, 98, 47, 97, 46, 109], .mk #[108, 105, 98, 47, 98, 46, 109], .mk #[119, 111, 114, 107, 47, 97, 46, 109], .mk #[119, 111, 114, 107, 47, 98, 46, 109], .mk #[119, 111, 114, 107, 47, 99], .mk #[116, 101, 115, 116, 115, 47, 97, 46, 109], .mk #[100, 111, 99, 47, 114, 101, 97, 100, 109, 101], .mk #[108, 105, 98, 47, 120, 47, 99, 46, 109], .mk #[122, 46, 109]]
theorem ptT_lit : ([AV.str (.mk #[97]), .str (.mk #[98]), .str (.mk #[97, 47, 120]), .str (.mk #[108, 105, 98, 47, 97, 46, 109]), .str (.mk #[108, 105, 98, 47, 98, 46, 109]), .str (.mk #[119, 111, 114, 107, 47, 97, 46, 109]), .str (.mk #[119, 111, 114, 107, 47, 98, 46, 109]), .str (.mk #[119, 111, 114, 107, 47, 99]), .str (.mk #[116, 101, 115, 116, 115, 47, 97, 46, 109]), .str (.mk #[100, 111, 99, 47, 114, 101, 97, 100, 109, 101]), .str (.mk #[108, 105, 98, 47, 120, 47, 99, 46, 109]), .str (.mk #[122, 46, 109])] : List AV) = flatA encS ptT := rfl
theorem path_v (k : Nat) (hk : k ≤ 255) : CallsV Tryd.prog 14 [.int .i64 (k : Int)] [] (fun av H' => av = .str (ptT.getD (k % 12) bE) ∧ H' = []) := by
  refine callsG_at Tryd.func14 (by kernel_rfl) ?_
  have pv := pick_v k 12 hk (by omega) (by omega)
  have hlt : k % 12 < 12 := Nat.mod_lt _ (by omega)
  generalize k % 12 = j at *
  have at2 := encS_at0 ptT j hlt
  have hgk := encS_gk ptT j hlt
  have lit := ptT_lit
  have ns := encS_noid ptT
  generalize ptT = Q at *
  have e1' := (congrArg (fun z => Blk.row 9 z) lit)
  have e2' := pv
  have e3' := (drop_hd0 (v := AV.str (Q.getD j ByteArray.empty)) at2 rfl)
  refine g_q [⟨2, [.hp 0 (rhsOf e1')], .no⟩, ⟨7, [], .call (avOf e2') (blOf e2') []⟩, ⟨9, [], .as (rhsOf e3')⟩] [.sel [2]] Exit.ret (stOf 12 [(2, AV.str (Q.getD j ByteArray.empty))] [Blk.row 9 (flatA encS Q)]) (And.intro (congrArg some e1') (And.intro e2' (And.intro (show (0 : Int) ≤ (↑j : Int) ∧ (↑j : Int) < (↑12 : Int) from (by omega)) (And.intro (show 1 ≤ (List.drop (0 + (↑j : Int).toNat * 1) (flatA encS Q)).length from (drop_le0 (n := 1) at2 (by simp))) e3')))) ?_
  refine g_f [] [] (AV.str (Q.getD j ByteArray.empty)) ([]) trivial ?_
  exact ⟨rfl, rfl⟩
def txT : List ByteArray := [.mk #[], .mk #[120], .mk #[120, 121], .mk #[102, 117, 110, 99, 32, 102, 40, 41, 32, 105, 110, 116, 32, 123, 32, 114, 101, 116, 117, 114, 110, 32, 49, 59, 32, 125], .mk #[121, 120], .mk #[105, 109, 112, 111, 114, 116, 32, 34, 108, 105, 98, 34, 59], .mk #[108, 111, 110, 103, 32, 108, 111, 110, 103, 32, 116, 101, 120, 116], .mk #[120, 10]]
theorem txT_lit : ([AV.str (.mk #[]), .str (.mk #[120]), .str (.mk #[120, 121]), .str (.mk #[102, 117, 110, 99, 32, 102, 40, 41, 32, 105, 110, 116, 32, 123, 32, 114, 101, 116, 117, 114, 110, 32, 49, 59, 32, 125]), .str (.mk #[121, 120]), .str (.mk #[105, 109, 112, 111, 114, 116, 32, 34, 108, 105, 98, 34, 59]), .str (.mk #[108, 111, 110, 103, 32, 108, 111, 110, 103, 32, 116, 101, 120, 116]), .str (.mk #[120, 10])] : List AV) = flatA encS txT := rfl
theorem text_v (k : Nat) (hk : k ≤ 255) : CallsV Tryd.prog 15 [.int .i64 (k : Int)] [] (fun av H' => av = .str (txT.getD (k % 8) bE) ∧ H' = []) := by
  refine callsG_at Tryd.func15 (by kernel_rfl) ?_
  have pv := pick_v k 8 hk (by omega) (by omega)
  have hlt : k % 8 < 8 := Nat.mod_lt _ (by omega)
  generalize k % 8 = j at *
  have at2 := encS_at0 txT j hlt
  have hgk := encS_gk txT j hlt
  have lit := txT_lit
  have ns := encS_noid txT
  generalize txT = Q at *
  have e1' := (congrArg (fun z => Blk.row 9 z) lit)
  have e2' := pv
  have e3' := (drop_hd0 (v := AV.str (Q.getD j ByteArray.empty)) at2 rfl)
  refine g_q [⟨2, [.hp 0 (rhsOf e1')], .no⟩, ⟨7, [], .call (avOf e2') (blOf e2') []⟩, ⟨9, [], .as (rhsOf e3')⟩] [.sel [2]] Exit.ret (stOf 12 [(2, AV.str (Q.getD j ByteArray.empty))] [Blk.row 9 (flatA encS Q)]) (And.intro (congrArg some e1') (And.intro e2' (And.intro (show (0 : Int) ≤ (↑j : Int) ∧ (↑j : Int) < (↑8 : Int) from (by omega)) (And.intro (show 1 ≤ (List.drop (0 + (↑j : Int).toNat * 1) (flatA encS Q)).length from (drop_le0 (n := 1) at2 (by simp))) e3')))) ?_
  refine g_f [] [] (AV.str (Q.getD j ByteArray.empty)) ([]) trivial ?_
  exact ⟨rfl, rfl⟩
end Go.Proofs.YtjgpojglgfddiaaDoor
namespace Go.Proofs.YtjgpojglgfddiaaDoor
open Go Go.RowKit V
set_option linter.unusedSimpArgs false
set_option linter.unusedVariables false
set_option maxHeartbeats 20000000
def encB (x : (Int × Int)) : List AV := [AV.int .u8 x.1, AV.int .u8 x.2]
theorem encB_l (x : (Int × Int)) : (encB x).length = 2 := rfl
theorem encB_at (l : List (Int × Int)) (k : Nat) (hk : k < l.length) : (flatA encB l).drop ((k : Int).toNat * 2) = AV.int .u8 (l.getD k (0, 0)).1 :: AV.int .u8 (l.getD k (0, 0)).2 :: flatA encB (l.drop (k + 1)) := flatA_at encB_l l (0, 0) k hk
def enE (x : Int × Int) : TE := (ptT.getD (x.1.toNat % 12) bE, txT.getD (x.2.toNat % 8) bE)
def enK (l : List (Int × Int)) (k : Nat) : List TE := (l.take k).map enE
def enN (l : List (Int × Int)) : Nat := min l.length 20
theorem enK_next (l : List (Int × Int)) (k : Nat) (hk : k < l.length) : enK l (k + 1) = enK l k ++ [enE (l.getD k (0, 0))] := by
  unfold enK
  rw [List.take_succ_eq_append_getElem hk, List.map_append, List.getD_eq_getElem?_getD, List.getElem?_eq_getElem hk]
  rfl
theorem enK_len (l : List (Int × Int)) (k : Nat) (hk : k ≤ l.length) : (enK l k).length = k := by
  unfold enK
  rw [List.length_map, List.length_take]; omega
def enS (l : List (Int × Int)) (k : Nat) (o : List TE) : St := stOf 34 [(0, .slv l.length 2 (flatA encB l)), (3, .sl 0 0 o.length 2), (4, .int .i64 (k : Int))] [.row 31 (flatA encT o)]
theorem entries_v (l : List (Int × Int)) (hl : l.length ≤ 9223372036854775807) (hz : ∀ x ∈ l, (0 ≤ x.1 ∧ x.1 ≤ 255) ∧ 0 ≤ x.2 ∧ x.2 ≤ 255) : CallsV Tryd.prog 20 [.slv l.length 2 (flatA encB l)] [] (fun av H' => av = .sl 0 0 (enK l (enN l)).length 2 ∧ H' = [.row 31 (flatA encT (enK l (enN l)))]) := by
  refine callsG_at Tryd.func20 (by kernel_rfl) ?_
  have hL : LoopG Tryd.prog 0 Tryd.f20 0 (.exit 0) (stOf 34 [(3, .sl 0 0 (enK l (enN l)).length 2)] [.row 31 (flatA encT (enK l (enN l)))]) (enS l 0 []) := by
    refine loopG_of (enN l) (fun k => enS l k (enK l k)) (by kernel_rfl) (by simp) ?_ ?_
    · intro k hk
      have hk1 : k < l.length := by unfold enN at hk; omega
      have hk2 : k < 20 := by unfold enN at hk; omega
      have at1 : (flatA encB l).drop ((k : Int).toNat * 2) = AV.int .u8 (l.getD k (0, 0)).1 :: AV.int .u8 (l.getD k (0, 0)).2 :: flatA encB (l.drop (k + 1)) := encB_at l k hk1
      obtain ⟨⟨a0, a1⟩, b0, b1⟩ := hz _ (getD_mem' hk1 (0, 0))
      have pt := path_v (l.getD k (0, 0)).1.toNat (by omega)
      have tx := text_v (l.getD k (0, 0)).2.toNat (by omega)
      have hn := enK_len l k (by omega)
      rw [enK_next l k hk1]
      unfold enE
      rw [Int.toNat_of_nonneg a0] at pt
      rw [Int.toNat_of_nonneg b0] at tx
      generalize enK l k = o at *
      generalize l.getD k (0, 0) = z at *
      generalize ptT.getD (z.1.toNat % 12) bE = u at *
      generalize txT.getD (z.2.toNat % 8) bE = v at *
      have hsn := encT_snoc o (u, v)
      have hge := encT_ge o
      unfold enS
      rw [List.length_append, List.length_singleton]
      have e1' := (congrArg (fun z => AV.fptr z) at1)
      have e2' := (congrArg (fun z => AV.int .i64 z) (wrap_i64 (e := z.fst) (by omega) (by omega)))
      have e3' := (congrArg (fun z => AV.int .i64 z) (wrap_i64 (e := z.snd) (by omega) (by omega)))
      have e4' := pt
      have e5' := tx
      have e6' := (congrArg (fun z => Blk.row 31 z) hsn)
      have e7' := (congrArg (fun z => AV.int .i64 z) (wrap_i64 (e := (↑k : Int) + (1 : Int)) (by omega) (by omega)))
      exact g_x [⟨5, [.tm 9 (.bool true)], .no⟩, ⟨8, [], .br true .no⟩, ⟨12, [], .as (rhsOf e1')⟩, ⟨15, [], .as (rhsOf e2')⟩, ⟨19, [], .as (rhsOf e1')⟩, ⟨22, [], .as (rhsOf e3')⟩, ⟨16, [], .call (avOf e4') (blOf e4') []⟩, ⟨23, [], .call (avOf e5') (blOf e5') []⟩, ⟨27, [.hp 2 (rhsOf e6')], .no⟩, ⟨29, [], .as (rhsOf e7')⟩] [.sel [0, 3, 4], .keep [2] [true]] (And.intro (congrArg AV.bool (show decide ((↑k : Int) < (↑l.length : Int)) = true from (by rw [decide_eq_true_iff]; omega))) (And.intro (show (bif true then decide ((↑k : Int) < (20 : Int)) else false) = true from (by simp_all; omega)) (And.intro (show (0 : Int) ≤ (↑k : Int) ∧ (↑k : Int) < (↑l.length : Int) from (by omega)) (And.intro e1' (And.intro (show (0 : Int) ≤ (0 : Int) ∧ (0 : Int) < (↑2 : Int) from (by omega)) (And.intro (show 1 ≤ (AV.int .u8 z.fst :: AV.int .u8 z.snd :: flatA encB (List.drop (k + 1) l)).length from (by exact Nat.le_of_ble_eq_true (by kernel_rfl))) (And.intro e2' (And.intro (show (0 : Int) ≤ (↑k : Int) ∧ (↑k : Int) < (↑l.length : Int) from (by omega)) (And.intro e1' (And.intro (show (0 : Int) ≤ (1 : Int) ∧ (1 : Int) < (↑2 : Int) from (by omega)) (And.intro (show 1 ≤ (AV.int .u8 z.snd :: flatA encB (List.drop (k + 1) l)).length from (by exact Nat.le_of_ble_eq_true (by kernel_rfl))) (And.intro e3' (And.intro e4' (And.intro e5' (And.intro (show o.length * 2 ≤ (flatA encT o).length from (by omega)) (And.intro (show 2 ≤ 2 from (by omega)) (And.intro (show (o.length + 1) * 32 ≤ 140737488355328 from (by omega)) (And.intro (show o.length + 1 ≤ maxLen from (by (unfold maxLen; omega))) (And.intro (congrArg some e6') (And.intro e7' (show ∀ (x : AV), x ∈ flatA encT (o ++ [(u, v)]) → noid0 x = true from encT_noid (o ++ [(u, v)]))))))))))))))))))))))
    · have hx : (decide ((enN l : Int) < (l.length : Int)) && decide ((enN l : Int) < 20)) = false := by
        unfold enN
        rcases Nat.lt_or_ge l.length 20 with h | h
        · rw [Nat.min_eq_left (by omega)]; simp
        · rw [Nat.min_eq_right (by omega)]; simp
      generalize enK l (enN l) = o at *
      generalize enN l = n at *
      unfold enS
      exact g_x [⟨5, [], .gd⟩, ⟨6, [], .gd⟩, ⟨8, [], .br false .no⟩] [.sel [3]] (And.intro (show (decide ((↑n : Int) < (↑l.length : Int)) == true) = true → (decide ((↑n : Int) < (↑l.length : Int)) == true) = true from (fun h => h)) (And.intro (show decide ((↑n : Int) < (↑l.length : Int)) = true → (decide ((↑n : Int) < (↑l.length : Int)) == true) = true from (by (simp; done))) (show (bif decide ((↑n : Int) < (↑l.length : Int)) then decide ((↑n : Int) < (20 : Int)) else false) = false from (by simp_all; done))))
  generalize enK l (enN l) = o at *
  unfold enS at hL
  have e1' := hL
  refine g_q [⟨3, [.sel [0, 3, 4], .own 3 31 2], .loop (exOf e1') (endOf e1')⟩] [.sel [2]] Exit.ret (stOf 34 [(2, AV.sl 0 0 o.length 2)] [Blk.row 31 (flatA encT o)]) e1' ?_
  refine g_f [0] [true] (AV.sl 0 0 o.length 2) ([Blk.row 31 (flatA encT o)]) (show ∀ (x : AV), x ∈ flatA encT o → noid0 x = true from encT_noid o) ?_
  exact ⟨rfl, rfl⟩
end Go.Proofs.YtjgpojglgfddiaaDoor
namespace Go.Proofs.YtjgpojglgfddiaaDoor
open Go Go.RowKit V
set_option linter.unusedSimpArgs false
set_option linter.unusedVariables false
set_option maxHeartbeats 20000000
/-- the sum of the lengths, as the machine reckons it -/
def fwK (l : List TE) : Nat → Int
  | 0 => 0
  | k + 1 => IntKind.i64.wrap (fwK l k + IntKind.i64.wrap (((l.getD k tD).1.size : Int) + ((l.getD k tD).2.size : Int)))
end Go.Proofs.YtjgpojglgfddiaaDoor
namespace Go.Proofs.YtjgpojglgfddiaaDoor
open Go Go.RowKit V
set_option linter.unusedSimpArgs false
set_option linter.unusedVariables false
set_option maxHeartbeats 20000000
/-- two elements exchanged -/
def swp (d : List TE) (i j : Nat) : List TE := (d.set i (d.getD j tD)).set j (d.getD i tD)
theorem swp_len (d : List TE) (i j : Nat) : (swp d i j).length = d.length := by
  unfold swp; rw [List.length_set, List.length_set]
theorem swp_two (P Q R : List TE) (x y : TE) (i j : Nat) (hi : i = P.length) (hj : j = P.length + 1 + Q.length) : swp (P ++ x :: (Q ++ y :: R)) i j = P ++ y :: (Q ++ x :: R) := by
  subst hi; subst hj
  unfold swp
  have e1 : (P ++ x :: (Q ++ y :: R)).getD P.length tD = x := by
    rw [List.getD_eq_getElem?_getD, List.getElem?_append_right (Nat.le_refl _), Nat.sub_self]; rfl
  have e2 : (P ++ x :: (Q ++ y :: R)).getD (P.length + 1 + Q.length) tD = y := by
    rw [List.getD_eq_getElem?_getD, List.getElem?_append_right (by omega), show P.length + 1 + Q.length - P.length = Q.length + 1 by omega, List.getElem?_cons_succ, List.getElem?_append_right (Nat.le_refl _), Nat.sub_self]; rfl
  rw [e1, e2, List.set_append_right _ _ (Nat.le_refl _), Nat.sub_self, List.set_cons_zero, List.set_append_right _ _ (by omega), show P.length + 1 + Q.length - P.length = Q.length + 1 by omega, List.set_cons_succ, List.set_append_right _ _ (Nat.le_refl _), Nat.sub_self, List.set_cons_zero]
theorem swp_comm (d : List TE) (i j : Nat) (h : i ≠ j) : swp d i j = swp d j i := by
  unfold swp; rw [List.set_comm _ _ h]
theorem at_split (X : List TE) (k : Nat) (h : k < X.length) : ∃ X1 x X2, X = X1 ++ x :: X2 ∧ X1.length = k ∧ X.take k = X1 ∧ X.drop k = x :: X2 ∧ X.take (k + 1) = X1 ++ [x] ∧ X.drop (k + 1) = X2 ∧ X.getD k tD = x := by
  have hd := List.drop_eq_getElem_cons h
  refine ⟨X.take k, X[k], X.drop (k + 1), ?_, by rw [List.length_take]; omega, rfl, hd, List.take_succ_eq_append_getElem h, rfl, by rw [List.getD_eq_getElem?_getD, List.getElem?_eq_getElem h]; rfl⟩
  rw [← hd, List.take_append_drop]
def swR (A X M Y B : List TE) (k : Nat) : List TE := A ++ ((Y.take k ++ X.drop k) ++ (M ++ ((X.take k ++ Y.drop k) ++ B)))
theorem swR_0 (A X M Y B : List TE) : swR A X M Y B 0 = A ++ (X ++ (M ++ (Y ++ B))) := by simp [swR]
theorem swR_end (A X M Y B : List TE) (h : Y.length = X.length) : swR A X M Y B X.length = A ++ (Y ++ (M ++ (X ++ B))) := by
  unfold swR
  rw [List.take_of_length_le (Nat.le_of_eq h), List.drop_of_length_le (Nat.le_refl X.length), List.take_of_length_le (Nat.le_refl X.length), List.drop_of_length_le (Nat.le_of_eq h)]
  simp
theorem swR_len (A X M Y B : List TE) (h : Y.length = X.length) (k : Nat) (hk : k ≤ X.length) : (swR A X M Y B k).length = A.length + X.length + M.length + X.length + B.length := by
  unfold swR
  simp only [List.length_append, List.length_take, List.length_drop]; omega
theorem swR_next (A X M Y B : List TE) (h : Y.length = X.length) (k : Nat) (hk : k < X.length) : swR A X M Y B (k + 1) = swp (swR A X M Y B k) (A.length + k) (A.length + X.length + M.length + k) := by
  obtain ⟨X1, x, X2, e0, e1, e2, e3, e4, e5, _⟩ := at_split X k hk
  obtain ⟨Y1, y, Y2, f0, f1, f2, f3, f4, f5, _⟩ := at_split Y k (by omega)
  unfold swR
  rw [e2, e3, e4, e5, f2, f3, f4, f5]
  have g : A ++ ((Y1 ++ x :: X2) ++ (M ++ ((X1 ++ y :: Y2) ++ B))) = (A ++ Y1) ++ x :: ((X2 ++ M ++ X1) ++ y :: (Y2 ++ B)) := by simp
  have hl : X.length = k + 1 + X2.length := by rw [e0]; simp; omega
  rw [g, swp_two (A ++ Y1) (X2 ++ M ++ X1) (Y2 ++ B) x y _ _ (by simp; omega) (by simp; omega)]
  simp
def mvR (A : List TE) (x : TE) (Y B : List TE) (k : Nat) : List TE := A ++ (Y.take k ++ x :: (Y.drop k ++ B))
theorem mvR_0 (A : List TE) (x : TE) (Y B : List TE) : mvR A x Y B 0 = A ++ x :: (Y ++ B) := by simp [mvR]
theorem mvR_len (A : List TE) (x : TE) (Y B : List TE) (k : Nat) : (mvR A x Y B k).length = A.length + 1 + Y.length + B.length := by
  unfold mvR; simp only [List.length_append, List.length_cons, List.length_take, List.length_drop]; omega
theorem mvR_next (A : List TE) (x : TE) (Y B : List TE) (k : Nat) (hk : k < Y.length) : mvR A x Y B (k + 1) = swp (mvR A x Y B k) (A.length + k) (A.length + k + 1) := by
  obtain ⟨Y1, y, Y2, f0, f1, f2, f3, f4, f5, _⟩ := at_split Y k hk
  unfold mvR
  rw [f2, f3, f4, f5]
  have g : A ++ (Y1 ++ x :: ((y :: Y2) ++ B)) = (A ++ Y1) ++ x :: ([] ++ y :: (Y2 ++ B)) := by simp
  rw [g, swp_two (A ++ Y1) [] (Y2 ++ B) x y _ _ (by simp; omega) (by simp; omega)]
  simp
theorem mvR_prev (A : List TE) (x : TE) (Y B : List TE) (k : Nat) (hk : k < Y.length) : mvR A x Y B k = swp (mvR A x Y B (k + 1)) (A.length + k + 1) (A.length + k) := by
  obtain ⟨Y1, y, Y2, f0, f1, f2, f3, f4, f5, _⟩ := at_split Y k hk
  rw [swp_comm _ _ _ (by omega)]
  unfold mvR
  rw [f2, f3, f4, f5]
  have g : A ++ ((Y1 ++ [y]) ++ x :: (Y2 ++ B)) = (A ++ Y1) ++ y :: ([] ++ x :: (Y2 ++ B)) := by simp
  rw [g, swp_two (A ++ Y1) [] (Y2 ++ B) y x _ _ (by simp; omega) (by simp; omega)]
  simp
/-- where halving ends -/
def bsF (p : Nat → Bool) (i j : Nat) : Nat := if h : i < j then (bif p ((i + j) / 2) then bsF p ((i + j) / 2 + 1) j else bsF p i ((i + j) / 2)) else i
termination_by j - i
decreasing_by all_goals omega
theorem bsF_ge (p : Nat → Bool) (i j : Nat) (h : ¬ i < j) : bsF p i j = i := by rw [bsF]; rw [dif_neg h]
theorem bsF_t (p : Nat → Bool) (i j : Nat) (h : i < j) (hp : p ((i + j) / 2) = true) : bsF p i j = bsF p ((i + j) / 2 + 1) j := by rw [bsF]; rw [dif_pos h, hp]; rfl
theorem bsF_f (p : Nat → Bool) (i j : Nat) (h : i < j) (hp : p ((i + j) / 2) = false) : bsF p i j = bsF p i ((i + j) / 2) := by rw [bsF]; rw [dif_pos h, hp]; rfl
theorem bsF_spec (p : Nat → Bool) (a b : Nat) : ∀ (n i j : Nat), j - i ≤ n → a ≤ i → i ≤ j → j ≤ b → (a < i → p (i - 1) = true) → (j < b → p j = false) → a ≤ bsF p i j ∧ bsF p i j ≤ b ∧ (a < bsF p i j → p (bsF p i j - 1) = true) ∧ (bsF p i j < b → p (bsF p i j) = false)
  | 0, i, j, hn, h1, h2, h3, h4, h5 => by
    have : i = j := by omega
    subst this
    rw [bsF_ge p i i (by omega)]
    exact ⟨h1, h3, h4, h5⟩
  | n + 1, i, j, hn, h1, h2, h3, h4, h5 => by
    by_cases hij : i < j
    · cases hp : p ((i + j) / 2) with
      | true =>
        rw [bsF_t p i j hij hp]
        exact bsF_spec p a b n _ j (by omega) (by omega) (by omega) h3 (fun _ => by rw [Nat.add_sub_cancel]; exact hp) h5
      | false =>
        rw [bsF_f p i j hij hp]
        exact bsF_spec p a b n i _ (by omega) h1 (by omega) (by omega) h4 (fun _ => hp)
    · have : i = j := by omega
      subst this
      rw [bsF_ge p i i (by omega)]
      exact ⟨h1, h3, h4, h5⟩
theorem srt_get {l : List TE} (h : Srt l) {i j : Nat} (hij : i < j) (hj : j < l.length) : ltE (l.getD i tD) (l.getD j tD) = true := by
  have := (List.pairwise_iff_getElem.1 h) i j (by omega) hj hij
  rw [List.getD_eq_getElem?_getD, List.getD_eq_getElem?_getD, List.getElem?_eq_getElem hj, List.getElem?_eq_getElem (by omega)]
  exact this
theorem mem_getD {l : List TE} {x : TE} (h : x ∈ l) : ∃ i, i < l.length ∧ l.getD i tD = x := by
  obtain ⟨i, hi, e⟩ := List.getElem_of_mem h
  exact ⟨i, hi, by rw [List.getD_eq_getElem?_getD, List.getElem?_eq_getElem hi]; exact e⟩
theorem srt_last {l : List TE} (h : Srt l) {x y : TE} (hx : x ∈ l) (hy : ltE (l.getD (l.length - 1) tD) y = true) : ltE x y = true := by
  obtain ⟨i, hi, rfl⟩ := mem_getD hx
  rcases Nat.lt_or_ge i (l.length - 1) with h1 | h1
  · exact ltE_trans (srt_get h h1 (by omega)) hy
  · obtain rfl : i = l.length - 1 := by omega
    exact hy
theorem srt_head {l : List TE} (h : Srt l) {x y : TE} (hx : x ∈ l) (hy : ltE y (l.getD 0 tD) = true) : ltE y x = true := by
  obtain ⟨i, hi, rfl⟩ := mem_getD hx
  rcases Nat.eq_zero_or_pos i with h1 | h1
  · subst h1; exact hy
  · exact ltE_trans hy (srt_get h h1 hi)
/-- four parts: those of the first two lie before those of the last two -/
theorem four_eq {X1 X2 Y1 Y2 : List TE} (hX : Srt (X1 ++ X2)) (hY : Srt (Y1 ++ Y2)) (hd : Dst ((X1 ++ X2) ++ (Y1 ++ Y2))) (h1 : Y1 ≠ [] → X2 ≠ [] → ltE (Y1.getD (Y1.length - 1) tD) (X2.getD 0 tD) = true) (h2 : X1 ≠ [] → Y2 ≠ [] → ltE (X1.getD (X1.length - 1) tD) (Y2.getD 0 tD) = true) :
    sortR (X1 ++ Y1) ++ sortR (X2 ++ Y2) = sortR ((X1 ++ X2) ++ (Y1 ++ Y2)) := by
  obtain ⟨a1, a2, a3⟩ := List.pairwise_append.1 hX
  obtain ⟨b1, b2, b3⟩ := List.pairwise_append.1 hY
  have hp : (X1 ++ Y1 ++ (X2 ++ Y2)).Perm ((X1 ++ X2) ++ (Y1 ++ Y2)) := by
    simp only [List.append_assoc]
    refine List.Perm.append_left _ ?_
    rw [← List.append_assoc, ← List.append_assoc]
    exact List.Perm.append_right _ List.perm_append_comm
  have hd2 := dst_perm hd hp.symm
  obtain ⟨d1, d2, _⟩ := List.pairwise_append.1 hd2
  refine sort_eq hd ?_ (((sortR_perm _).append (sortR_perm _)).trans hp)
  refine List.pairwise_append.2 ⟨sortR_srt d1, sortR_srt d2, fun x hx y hy => ?_⟩
  have hx := (sortR_perm _).mem_iff.1 hx
  have hy := (sortR_perm _).mem_iff.1 hy
  rcases List.mem_append.1 hx with hx | hx <;> rcases List.mem_append.1 hy with hy | hy
  · exact a3 x hx y hy
  · exact srt_last a1 hx (srt_head b2 hy (h2 (List.ne_nil_of_mem hx) (List.ne_nil_of_mem hy)))
  · exact srt_last b1 hx (srt_head a2 hy (h1 (List.ne_nil_of_mem hx) (List.ne_nil_of_mem hy)))
  · exact b3 x hx y hy
theorem srt_sortR {l : List TE} (h : Srt l) : sortR l = l := (sort_eq h.dst h (List.Perm.refl _)).symm
/-- one element, and those behind it -/
theorem one_left {x : TE} {Y : List TE} (hY : Srt Y) (hd : Dst (x :: Y)) (t : Nat) (ht : t ≤ Y.length) (h1 : 0 < t → ltE (Y.getD (t - 1) tD) x = true) (h2 : t < Y.length → ltE (Y.getD t tD) x = false) : Y.take t ++ x :: Y.drop t = sortR (x :: Y) := by
  have hY' : Srt (Y.take t ++ Y.drop t) := by rw [List.take_append_drop]; exact hY
  obtain ⟨b1, b2, b3⟩ := List.pairwise_append.1 hY'
  have hp : (Y.take t ++ x :: Y.drop t).Perm (x :: Y) := by
    refine List.perm_middle.trans ?_
    rw [List.take_append_drop]
  have hx : ∀ z ∈ Y.drop t, ltE x z = true := fun z hz => by
    have hl : t < Y.length := by
      rcases Nat.lt_or_ge t Y.length with h | h
      · exact h
      · rw [List.drop_of_length_le h] at hz; cases hz
    refine srt_head b2 hz ?_
    rw [List.getD_eq_getElem?_getD, List.getElem?_drop, Nat.add_zero, ← List.getD_eq_getElem?_getD]
    refine ltE_tri (h2 hl) fun e => ?_
    have hm : Y.getD t tD ∈ Y := by rw [List.getD_eq_getElem?_getD, List.getElem?_eq_getElem hl]; exact List.getElem_mem hl
    exact (List.pairwise_cons.1 hd).1 _ hm e.symm
  have hy : ∀ z ∈ Y.take t, ltE z x = true := fun z hz => by
    rcases Nat.eq_zero_or_pos t with h | h
    · subst h; simp at hz
    · have e : (Y.take t).getD ((Y.take t).length - 1) tD = Y.getD (t - 1) tD := by
        rw [List.length_take, Nat.min_eq_left ht, List.getD_eq_getElem?_getD, List.getElem?_take_of_lt (by omega), ← List.getD_eq_getElem?_getD]
      exact srt_last b1 hz (by rw [e]; exact h1 h)
  refine sort_eq hd ?_ hp
  exact List.pairwise_append.2 ⟨b1, List.pairwise_cons.2 ⟨hx, b2⟩, fun a ha b hb => by
    rcases List.mem_cons.1 hb with rfl | hb
    · exact hy a ha
    · exact b3 a ha b hb⟩
theorem one_right {y : TE} {X : List TE} (hX : Srt X) (hd : Dst (X ++ [y])) (t : Nat) (ht : t ≤ X.length) (h1 : 0 < t → ltE y (X.getD (t - 1) tD) = false) (h2 : t < X.length → ltE y (X.getD t tD) = true) : X.take t ++ y :: X.drop t = sortR (X ++ [y]) := by
  have hd' : Dst (y :: X) := dst_perm hd (List.perm_append_singleton y X)
  have hne : ∀ k, k < X.length → (X.getD k tD).1 ≠ y.1 := fun k hk e => by
    have hm : X.getD k tD ∈ X := by rw [List.getD_eq_getElem?_getD, List.getElem?_eq_getElem hk]; exact List.getElem_mem hk
    exact (List.pairwise_cons.1 hd').1 _ hm e.symm
  rw [one_left hX hd' t ht (fun h => ltE_tri (h1 h) fun e => hne (t - 1) (by omega) e.symm) (fun h => ltE_asymm (h2 h))]
  exact sort_eq hd (sortR_srt hd') ((sortR_perm _).trans (List.perm_append_singleton y X).symm)
end Go.Proofs.YtjgpojglgfddiaaDoor
namespace Go.Proofs.YtjgpojglgfddiaaDoor
open Go Go.RowKit V
set_option linter.unusedSimpArgs false
set_option linter.unusedVariables false
set_option maxHeartbeats 20000000
/-- what the comparison of two paths says -/
def coS (a b : ByteArray) : Int := Lib.compareBytes a.data.toList b.data.toList
theorem co_pure : ∀ (x y : List UInt8), decide (Lib.compareBytes x y < 0) = Op.bytesLess x y
  | [], [] => by simp [Lib.compareBytes, Op.bytesLess]
  | [], _ :: _ => by simp [Lib.compareBytes, Op.bytesLess]
  | _ :: _, [] => by simp [Lib.compareBytes, Op.bytesLess]
  | a :: x, b :: y => by
    have ih := co_pure x y
    unfold Lib.compareBytes Op.bytesLess
    by_cases h1 : a < b
    · simp [h1]
    · by_cases h2 : b < a
      · have hne : ¬ a = b := fun e => by subst e; exact h1 h2
        simp [h1, h2, hne]
      · have e : a = b := by
          rcases UInt8.lt_or_lt_of_ne (a := a) (b := b) |> fun f => Classical.em (a = b) with e | e
          · exact e
          · rcases UInt8.lt_or_lt_of_ne e with h | h
            · exact absurd h h1
            · exact absurd h h2
        subst e
        simp [h1, ih]
theorem co_lt (a b : ByteArray) : decide (coS a b < 0) = lt a b := by
  unfold coS lt
  rw [ByteArray.toList_eq, ByteArray.toList_eq]
  exact co_pure _ _
theorem cmp_v (a b : ByteArray) : CallsV Tryd.prog 53 [.str a, .str b] [] (fun av H' => av = .int .i64 (coS a b) ∧ H' = []) := by
  have h1 : CallsV Tryd.prog 60 [.str a, .str b] [] (fun av H' => av = .int .i64 (coS a b) ∧ H' = []) := by
    refine callsG_at Tryd.func60 (by kernel_rfl) ?_
    unfold coS
    refine g_q [] [.sel [4]] Exit.ret (stOf 8 [(4, AV.int .i64 (Lib.compareBytes a.data.toList b.data.toList))] []) trivial ?_
    refine g_f [] [] (AV.int .i64 (Lib.compareBytes a.data.toList b.data.toList)) ([]) trivial ?_
    exact ⟨rfl, rfl⟩
  refine callsG_at Tryd.func53 (by kernel_rfl) ?_
  have e1' := h1
  refine g_q [⟨3, [], .call (avOf e1') (blOf e1') []⟩] [.sel [4]] Exit.ret (stOf 8 [(4, AV.int .i64 (coS a b))] []) e1' ?_
  refine g_f [] [] (AV.int .i64 (coS a b)) ([]) trivial ?_
  exact ⟨rfl, rfl⟩
abbrev soV : AV := .fn (.func 52) [] []
theorem sorted1_v (x y : TE) : CallsV Tryd.prog 52 [.agg (encT x), .agg (encT y)] [] (fun av H' => av = .int .i64 (coS x.1 y.1) ∧ H' = []) := by
  have h1 := cmp_v x.1 y.1
  refine callsG_at Tryd.func52 (by kernel_rfl) ?_
  unfold encT
  have e1' := h1
  refine g_q [⟨7, [], .call (avOf e1') (blOf e1') []⟩] [.sel [4]] Exit.ret (stOf 10 [(4, AV.int .i64 (coS x.fst y.fst))] [Blk.row 31 [AV.str x.fst, AV.str x.snd], Blk.row 31 [AV.str y.fst, AV.str y.snd]]) (And.intro (show 1 ≤ 2 from (by omega)) (And.intro (show 1 ≤ 2 from (by omega)) e1')) ?_
  refine g_f [] [] (AV.int .i64 (coS x.fst y.fst)) ([]) trivial ?_
  exact ⟨rfl, rfl⟩
def iO (d : List TE) (a b i : Nat) : St := stOf 53 [(0, .sl 0 0 d.length 2), (1, .int .i64 (a : Int)), (2, .int .i64 (b : Int)), (3, soV), (8, .int .i64 (i : Int))] [.row 31 (flatA encT d)]
def iS (d : List TE) (a b i j : Nat) : St := stOf 53 [(0, .sl 0 0 d.length 2), (1, .int .i64 (a : Int)), (2, .int .i64 (b : Int)), (3, soV), (8, .int .i64 (i : Int)), (9, .int .i64 (j : Int))] [.row 31 (flatA encT d)]
theorem i_step (d : List TE) (a b i m : Nat) (hm : m + 1 < d.length) (hd : d.length ≤ 1000) (ha : a ≤ m) (h : ltE (d.getD (m + 1) tD) (d.getD m tD) = true) : GoV Tryd.prog 1 (loopB Tryd.f66 1) (isX .normal (iS (swp d (m + 1) m) a b i m)) (iS d a b i (m + 1)) := by
  have at1 : (flatA encT d).drop (0 + ((m + 1 : Nat) : Int).toNat * 2) = AV.str (d.getD (m + 1) tD).1 :: AV.str (d.getD (m + 1) tD).2 :: flatA encT (d.drop (m + 1 + 1)) := encT_at0 d (m + 1) hm
  have at2 : (flatA encT d).drop (0 + (m : Int).toNat * 2) = AV.str (d.getD m tD).1 :: AV.str (d.getD m tD).2 :: flatA encT (d.drop (m + 1)) := encT_at0 d m (by omega)
  have g1 := encT_gk d (m + 1) hm
  have g2 := encT_gk d m (by omega)
  have co := sorted1_v (d.getD (m + 1) tD) (d.getD m tD)
  have hc : decide (coS (d.getD (m + 1) tD).1 (d.getD m tD).1 < 0) = true := by rw [co_lt]; exact h
  have e1 : ((m + 1 : Nat) : Int) - 1 = (m : Int) := by omega
  unfold iS
  rw [swp_len]
  unfold swp
  clear h
  generalize d.getD (m + 1) tD = x at *
  generalize d.getD m tD = y at *
  have s1 := encT_set d (m + 1) hm y
  have s2 := encT_set (d.set (m + 1) y) m (by rw [List.length_set]; omega) x
  have g3 := encT_gk (d.set (m + 1) y) m (by rw [List.length_set]; omega)
  unfold encT at co
  have e1' := (drop_ag0 (n := 2) (v := AV.agg [AV.str x.fst, AV.str x.snd]) at1 rfl)
  have e2' := (Eq.trans (congrArg (fun z => AV.int .i64 (IntKind.i64.wrap z)) e1) (congrArg (fun z => AV.int .i64 z) (wrap_i64 (e := (↑m : Int)) (by omega) (by omega))))
  have e3' := (drop_ag0 (n := 2) (v := AV.agg [AV.str y.fst, AV.str y.snd]) at2 rfl)
  have e4' := co
  have e5' := (congrArg (fun z => Blk.row 31 z) s1)
  have e6' := (congrArg (fun z => Blk.row 31 z) s2)
  exact g_x [⟨4, [], .br true .no⟩, ⟨5, [], .br true .no⟩, ⟨6, [], .br true .no⟩, ⟨7, [], .br true .no⟩, ⟨8, [], .br true (.as (rhsOf e1'))⟩, ⟨9, [], .br true .no⟩, ⟨10, [], .br true .no⟩, ⟨11, [], .br true (.as (rhsOf e2'))⟩, ⟨12, [], .br true .no⟩, ⟨13, [], .br true (.as (rhsOf e3'))⟩, ⟨14, [], .br true (.call (avOf e4') (blOf e4') [])⟩, ⟨15, [], .br true .no⟩, ⟨17, [], .br true .no⟩, ⟨22, [], .as (rhsOf e2')⟩, ⟨25, [], .as (rhsOf e2')⟩, ⟨27, [], .as (rhsOf e3')⟩, ⟨31, [], .as (rhsOf e1')⟩, ⟨34, [.hp 0 (rhsOf e5')], .no⟩, ⟨36, [.hp 0 (rhsOf e6')], .no⟩, ⟨37, [], .as (rhsOf e2')⟩] [.sel [0, 1, 2, 3, 8, 9]] (And.intro (show (decide ((↑(m + 1) : Int) > (↑a : Int)) == true) = true from (by simp_all; omega)) (And.intro (show (decide ((↑(m + 1) : Int) > (↑a : Int)) == true) = true from (by simp_all; omega)) (And.intro (show (decide ((↑(m + 1) : Int) > (↑a : Int)) == true) = true from (by simp_all; omega)) (And.intro (show (decide ((↑(m + 1) : Int) > (↑a : Int)) == true) = true from (by simp_all; omega)) (And.intro (show (0 : Int) ≤ (↑(m + 1) : Int) ∧ (↑(m + 1) : Int) < (↑d.length : Int) from (by omega)) (And.intro (show (decide ((↑(m + 1) : Int) > (↑a : Int)) == true) = true from (by simp_all; omega)) (And.intro (show 2 ≤ (List.drop (0 + (↑(m + 1) : Int).toNat * 2) (flatA encT d)).length from (drop_le0 (n := 2) at1 (by simp))) (And.intro e1' (And.intro (show (decide ((↑(m + 1) : Int) > (↑a : Int)) == true) = true from (by simp_all; omega)) (And.intro (show (decide ((↑(m + 1) : Int) > (↑a : Int)) == true) = true from (by simp_all; omega)) (And.intro (show (decide ((↑(m + 1) : Int) > (↑a : Int)) == true) = true from (by simp_all; omega)) (And.intro e2' (And.intro (show (decide ((↑(m + 1) : Int) > (↑a : Int)) == true) = true from (by simp_all; omega)) (And.intro (show (0 : Int) ≤ (↑m : Int) ∧ (↑m : Int) < (↑d.length : Int) from (by omega)) (And.intro (show (decide ((↑(m + 1) : Int) > (↑a : Int)) == true) = true from (by simp_all; omega)) (And.intro (show 2 ≤ (List.drop (0 + (↑m : Int).toNat * 2) (flatA encT d)).length from (drop_le0 (n := 2) at2 (by simp))) (And.intro e3' (And.intro (show (decide ((↑(m + 1) : Int) > (↑a : Int)) == true) = true from (by simp_all; omega)) (And.intro e4' (And.intro (show (decide ((↑(m + 1) : Int) > (↑a : Int)) == true) = true from (by simp_all; omega)) (And.intro (show (bif decide ((↑(m + 1) : Int) > (↑a : Int)) then decide (coS x.fst y.fst < (0 : Int)) else false) = true from (by simp_all; omega)) (And.intro e2' (And.intro e2' (And.intro (show (0 : Int) ≤ (↑m : Int) ∧ (↑m : Int) < (↑d.length : Int) from (by omega)) (And.intro (show 2 ≤ (List.drop (0 + (↑m : Int).toNat * 2) (flatA encT d)).length from (drop_le0 (n := 2) at2 (by simp))) (And.intro e3' (And.intro (show (0 : Int) ≤ (↑(m + 1) : Int) ∧ (↑(m + 1) : Int) < (↑d.length : Int) from (by omega)) (And.intro (show 2 ≤ (List.drop (0 + (↑(m + 1) : Int).toNat * 2) (flatA encT d)).length from (drop_le0 (n := 2) at1 (by simp))) (And.intro e1' (And.intro (show (0 : Int) ≤ (↑(m + 1) : Int) ∧ (↑(m + 1) : Int) < (↑d.length : Int) from (by omega)) (And.intro (show 0 + (↑(m + 1) : Int).toNat * 2 + 2 ≤ (flatA encT d).length from (by ((try intro h); simp_all; omega))) (And.intro (congrArg some e5') (And.intro (show (0 : Int) ≤ (↑m : Int) ∧ (↑m : Int) < (↑d.length : Int) from (by omega)) (And.intro (show 0 + (↑m : Int).toNat * 2 + 2 ≤ (flatA encT (d.set (m + 1) y)).length from (by ((try intro h); simp_all; omega))) (And.intro (congrArg some e6') e2')))))))))))))))))))))))))))))))))))
theorem i_exit (d : List TE) (a b i j : Nat) (hj : j < d.length) (hd : d.length ≤ 1000) (ha : a ≤ j) (h : j = a ∨ ltE (d.getD j tD) (d.getD (j - 1) tD) = false) : GoV Tryd.prog 1 (loopB Tryd.f66 1) (isX (.exit 2) (iO d a b i)) (iS d a b i j) := by
  rcases Nat.eq_or_lt_of_le ha with h0 | h0
  · subst h0
    unfold iS iO
    exact g_x [⟨4, [], .br false .no⟩, ⟨5, [], .br false .no⟩, ⟨6, [], .br false .no⟩, ⟨7, [], .br false .no⟩, ⟨8, [], .br false .no⟩, ⟨9, [], .br false .no⟩, ⟨10, [], .br false .no⟩, ⟨11, [], .br false .no⟩, ⟨12, [], .br false .no⟩, ⟨13, [], .br false .no⟩, ⟨14, [], .br false .no⟩, ⟨15, [], .br false .no⟩, ⟨17, [], .br false .no⟩] [.sel [0, 1, 2, 3, 8]] (And.intro (show (decide ((↑a : Int) > (↑a : Int)) == true) = false from (by simp_all; done)) (And.intro (show (decide ((↑a : Int) > (↑a : Int)) == true) = false from (by simp_all; done)) (And.intro (show (decide ((↑a : Int) > (↑a : Int)) == true) = false from (by simp_all; done)) (And.intro (show (decide ((↑a : Int) > (↑a : Int)) == true) = false from (by simp_all; done)) (And.intro (show (decide ((↑a : Int) > (↑a : Int)) == true) = false from (by simp_all; done)) (And.intro (show (decide ((↑a : Int) > (↑a : Int)) == true) = false from (by simp_all; done)) (And.intro (show (decide ((↑a : Int) > (↑a : Int)) == true) = false from (by simp_all; done)) (And.intro (show (decide ((↑a : Int) > (↑a : Int)) == true) = false from (by simp_all; done)) (And.intro (show (decide ((↑a : Int) > (↑a : Int)) == true) = false from (by simp_all; done)) (And.intro (show (decide ((↑a : Int) > (↑a : Int)) == true) = false from (by simp_all; done)) (And.intro (show (decide ((↑a : Int) > (↑a : Int)) == true) = false from (by simp_all; done)) (And.intro (show (decide ((↑a : Int) > (↑a : Int)) == true) = false from (by simp_all; done)) (And.intro (show decide ((↑a : Int) > (↑a : Int)) = true → false = true from (by (simp; done))) (show (bif decide ((↑a : Int) > (↑a : Int)) then false else false) = false from (by simp_all; done)))))))))))))))
  · obtain ⟨m, rfl⟩ : ∃ m, j = m + 1 := ⟨j - 1, by omega⟩
    have h := h.resolve_left (by omega)
    rw [Nat.add_sub_cancel] at h
    have at1 : (flatA encT d).drop (0 + ((m + 1 : Nat) : Int).toNat * 2) = AV.str (d.getD (m + 1) tD).1 :: AV.str (d.getD (m + 1) tD).2 :: flatA encT (d.drop (m + 1 + 1)) := encT_at0 d (m + 1) hj
    have at2 : (flatA encT d).drop (0 + (m : Int).toNat * 2) = AV.str (d.getD m tD).1 :: AV.str (d.getD m tD).2 :: flatA encT (d.drop (m + 1)) := encT_at0 d m (by omega)
    have g1 := encT_gk d (m + 1) hj
    have g2 := encT_gk d m (by omega)
    have co := sorted1_v (d.getD (m + 1) tD) (d.getD m tD)
    have hc : decide (coS (d.getD (m + 1) tD).1 (d.getD m tD).1 < 0) = false := by rw [co_lt]; exact h
    have e1 : ((m + 1 : Nat) : Int) - 1 = (m : Int) := by omega
    unfold iS iO
    clear h
    generalize d.getD (m + 1) tD = x at *
    generalize d.getD m tD = y at *
    unfold encT at co
    have e1' := (drop_ag0 (n := 2) (v := AV.agg [AV.str x.fst, AV.str x.snd]) at1 rfl)
    have e2' := (Eq.trans (congrArg (fun z => AV.int .i64 (IntKind.i64.wrap z)) e1) (congrArg (fun z => AV.int .i64 z) (wrap_i64 (e := (↑m : Int)) (by omega) (by omega))))
    have e3' := (drop_ag0 (n := 2) (v := AV.agg [AV.str y.fst, AV.str y.snd]) at2 rfl)
    have e4' := co
    exact g_x [⟨4, [], .br true .no⟩, ⟨5, [], .br true .no⟩, ⟨6, [], .br true .no⟩, ⟨7, [], .br true .no⟩, ⟨8, [], .br true (.as (rhsOf e1'))⟩, ⟨9, [], .br true .no⟩, ⟨10, [], .br true .no⟩, ⟨11, [], .br true (.as (rhsOf e2'))⟩, ⟨12, [], .br true .no⟩, ⟨13, [], .br true (.as (rhsOf e3'))⟩, ⟨14, [], .br true (.call (avOf e4') (blOf e4') [])⟩, ⟨15, [], .br true .no⟩, ⟨17, [], .br false .no⟩] [.sel [0, 1, 2, 3, 8]] (And.intro (show (decide ((↑(m + 1) : Int) > (↑a : Int)) == true) = true from (by simp_all; omega)) (And.intro (show (decide ((↑(m + 1) : Int) > (↑a : Int)) == true) = true from (by simp_all; omega)) (And.intro (show (decide ((↑(m + 1) : Int) > (↑a : Int)) == true) = true from (by simp_all; omega)) (And.intro (show (decide ((↑(m + 1) : Int) > (↑a : Int)) == true) = true from (by simp_all; omega)) (And.intro (show (0 : Int) ≤ (↑(m + 1) : Int) ∧ (↑(m + 1) : Int) < (↑d.length : Int) from (by omega)) (And.intro (show (decide ((↑(m + 1) : Int) > (↑a : Int)) == true) = true from (by simp_all; omega)) (And.intro (show 2 ≤ (List.drop (0 + (↑(m + 1) : Int).toNat * 2) (flatA encT d)).length from (drop_le0 (n := 2) at1 (by simp))) (And.intro e1' (And.intro (show (decide ((↑(m + 1) : Int) > (↑a : Int)) == true) = true from (by simp_all; omega)) (And.intro (show (decide ((↑(m + 1) : Int) > (↑a : Int)) == true) = true from (by simp_all; omega)) (And.intro (show (decide ((↑(m + 1) : Int) > (↑a : Int)) == true) = true from (by simp_all; omega)) (And.intro e2' (And.intro (show (decide ((↑(m + 1) : Int) > (↑a : Int)) == true) = true from (by simp_all; omega)) (And.intro (show (0 : Int) ≤ (↑m : Int) ∧ (↑m : Int) < (↑d.length : Int) from (by omega)) (And.intro (show (decide ((↑(m + 1) : Int) > (↑a : Int)) == true) = true from (by simp_all; omega)) (And.intro (show 2 ≤ (List.drop (0 + (↑m : Int).toNat * 2) (flatA encT d)).length from (drop_le0 (n := 2) at2 (by simp))) (And.intro e3' (And.intro (show (decide ((↑(m + 1) : Int) > (↑a : Int)) == true) = true from (by simp_all; omega)) (And.intro e4' (And.intro (show (decide ((↑(m + 1) : Int) > (↑a : Int)) == true) = true from (by simp_all; omega)) (show (bif decide ((↑(m + 1) : Int) > (↑a : Int)) then decide (coS x.fst y.fst < (0 : Int)) else false) = false from (by simp_all; done))))))))))))))))))))))
theorem getD_mid (A M B : List TE) (j : Nat) (hj : j < M.length) : (A ++ (M ++ B)).getD (A.length + j) tD = M.getD j tD := by
  rw [List.getD_eq_getElem?_getD, List.getElem?_append_right (by omega), show A.length + j - A.length = j by omega, List.getElem?_append_left hj, ← List.getD_eq_getElem?_getD]
theorem setMid (A M B : List TE) (j : Nat) (hj : j < M.length) (x : TE) : (A ++ (M ++ B)).set (A.length + j) x = A ++ (M.set j x ++ B) := by
  rw [List.set_append_right _ _ (by omega), show A.length + j - A.length = j by omega, List.set_append_left _ _ hj]
theorem swp_mid (A M B : List TE) (i j : Nat) (hi : i < M.length) (hj : j < M.length) : swp (A ++ (M ++ B)) (A.length + i) (A.length + j) = A ++ (swp M i j ++ B) := by
  unfold swp
  rw [getD_mid A M B i hi, getD_mid A M B j hj, setMid A M B i hi, setMid A _ B j (by rw [List.length_set]; exact hj)]
/-- one element goes to its place -/
theorem i_loop (A L B : List TE) (i : Nat) (hi : i < L.length) (hd : (A ++ (L ++ B)).length ≤ 1000) (b : Nat) : LoopG Tryd.prog 1 Tryd.f66 1 (.exit 2) (iO (A ++ (mvL L i (mOf L i) ++ B)) A.length b (A.length + i)) (iS (A ++ (L ++ B)) A.length b (A.length + i) (A.length + i)) := by
  have hm := mOf_le L i
  have hlen : ∀ k, k ≤ i → (A ++ (mvL L i k ++ B)).length = (A ++ (L ++ B)).length := fun k hk => by
    simp only [List.length_append, mvL_len L i k hi hk]
  refine loopG_of (mOf L i) (fun k => iS (A ++ (mvL L i k ++ B)) A.length b (A.length + i) (A.length + i - k)) (by rw [mvL_0 L i hi]; rfl) (by simp) ?_ ?_
  · intro k hk
    have hl := mvL_len L i k hi (by omega)
    have hL : (A ++ (L ++ B)).length = A.length + (L.length + B.length) := by simp
    have st := i_step (A ++ (mvL L i k ++ B)) A.length b (A.length + i) (A.length + (i - k - 1)) (by rw [hlen k (by omega)]; omega) (by rw [hlen k (by omega)]; exact hd) (by omega) (by
      rw [show A.length + (i - k - 1) + 1 = A.length + (i - k) by omega, getD_mid _ _ _ _ (by omega), getD_mid _ _ _ _ (by omega), mvL_at L i k hi (by omega), mvL_before L i k hi (by omega)]
      have := mOf_lt L i k hk
      rwa [show i - 1 - k = i - k - 1 by omega] at this)
    rw [show A.length + (i - k - 1) + 1 = A.length + (i - k) by omega, swp_mid _ _ _ _ _ (by omega) (by omega)] at st
    rw [show A.length + i - (k + 1) = A.length + (i - k - 1) by omega, show A.length + i - k = A.length + (i - k) by omega, mvL_next L i k hi (by omega)]
    exact st
  · refine i_exit _ _ _ _ _ (by rw [hlen _ hm]; simp; omega) (by rw [hlen _ hm]; exact hd) (by omega) ?_
    rcases mOf_eq L i with h | h
    · exact .inl (by omega)
    · by_cases h0 : mOf L i = i
      · exact .inl (by omega)
      · refine .inr ?_
        have hl := mvL_len L i (mOf L i) hi hm
        rw [show A.length + i - mOf L i - 1 = A.length + (i - mOf L i - 1) by omega, show A.length + i - mOf L i = A.length + (i - mOf L i) by omega, getD_mid _ _ _ _ (by omega), getD_mid _ _ _ _ (by omega), mvL_at L i _ hi hm, mvL_before L i _ hi (by omega)]
        exact h
theorem insN_len' (L : List TE) : ∀ k, k < L.length → (insN L k).length = L.length
  | 0, _ => rfl
  | k + 1, h => by
    have ih := insN_len' L k (by omega)
    show (mvL (insN L k) (k + 1) (mOf (insN L k) (k + 1))).length = _
    rw [mvL_len _ _ _ (by omega) (mOf_le _ _), ih]
theorem ins_v (A L B : List TE) (a b n : Nat) (ha : a = A.length) (hb : b = A.length + L.length) (hn : n = (A ++ (L ++ B)).length) (hd : n ≤ 1000) : CallsV Tryd.prog 66 [.sl 0 0 n 2, .int .i64 (a : Int), .int .i64 (b : Int), soV] [.row 31 (flatA encT (A ++ (L ++ B)))] (fun av H' => av = .tuple [] ∧ H' = [.row 31 (flatA encT (A ++ (insN L (L.length - 1) ++ B)))]) := by
  subst ha hb hn
  refine callsG_at Tryd.func66 (by kernel_rfl) ?_
  have hlen : ∀ k, k ≤ L.length - 1 → (A ++ (insN L k ++ B)).length = (A ++ (L ++ B)).length := fun k hk => by
    rcases Nat.eq_zero_or_pos k with h | h
    · subst h; rfl
    · simp only [List.length_append, insN_len' L k (by omega)]
  have hL : LoopG Tryd.prog 1 Tryd.f66 0 (.exit 0) (stOf 53 [] [.row 31 (flatA encT (A ++ (insN L (L.length - 1) ++ B)))]) (iO (A ++ (L ++ B)) A.length (A.length + L.length) (A.length + 1)) := by
    refine loopG_of (L.length - 1) (fun k => iO (A ++ (insN L k ++ B)) A.length (A.length + L.length) (A.length + 1 + k)) (by rfl) (by simp) ?_ ?_
    · intro k hk
      have hl := insN_len' L k (by omega)
      have il := i_loop A (insN L k) B (k + 1) (by omega) (by rw [hlen k (by omega)]; exact hd) (A.length + L.length)
      have e : mvL (insN L k) (k + 1) (mOf (insN L k) (k + 1)) = insN L (k + 1) := rfl
      rw [e] at il
      have hl1 := hlen k (by omega)
      have hl2 := hlen (k + 1) (by omega)
      have hall : (A ++ (L ++ B)).length = A.length + (L.length + B.length) := by simp
      rw [show A.length + 1 + (k + 1) = (A.length + (k + 1)) + 1 by omega, show A.length + 1 + k = A.length + (k + 1) by omega]
      generalize A ++ (insN L (k + 1) ++ B) = d2 at *
      generalize A ++ (insN L k ++ B) = d at *
      have h1 : d2.length = d.length := by omega
      have h2 : A.length + (k + 1) < A.length + L.length := by omega
      have h3 : A.length + (k + 1) < 1000 := by omega
      generalize A.length + (k + 1) = i at *
      generalize A.length + L.length = b at *
      generalize A.length = a at *
      unfold iO iS at *
      rw [h1] at il ⊢
      clear hl1 hl2 h1 e hlen
      have e1' := il
      have e2' := (congrArg (fun z => AV.int .i64 z) (wrap_i64 (e := (↑i : Int) + (1 : Int)) (by omega) (by omega)))
      exact g_x [⟨3, [], .br true .no⟩, ⟨6, [.sel [0, 1, 2, 3, 8, 9]], .loop (exOf e1') (endOf e1')⟩, ⟨8, [], .as (rhsOf e2')⟩] [.sel [0, 1, 2, 3, 8]] (And.intro (show decide ((↑i : Int) < (↑b : Int)) = true from (by rw [decide_eq_true_iff]; omega)) (And.intro e1' e2'))
    · have hl1 := hlen (L.length - 1) (Nat.le_refl _)
      have hb : A.length + L.length ≤ A.length + 1 + (L.length - 1) := by omega
      have hb2 : A.length + 1 + (L.length - 1) ≤ 1001 := by simp at hd; omega
      generalize A ++ (insN L (L.length - 1) ++ B) = d at *
      generalize A.length + 1 + (L.length - 1) = i at *
      generalize A.length + L.length = b at *
      unfold iO
      exact g_x [⟨3, [], .br false .no⟩] [.sel []] (show decide ((↑i : Int) < (↑b : Int)) = false from (by rw [decide_eq_false_iff_not]; omega))
  have hb2 : A.length ≤ 1000 := by simp at hd; omega
  generalize A ++ (insN L (L.length - 1) ++ B) = d2 at *
  generalize A ++ (L ++ B) = d at *
  generalize A.length + L.length = b at *
  generalize A.length = a at *
  unfold iO at hL
  have e1' := (congrArg (fun z => AV.int .i64 z) (wrap_i64 (e := (↑a : Int) + (1 : Int)) (by omega) (by omega)))
  have e2' := hL
  refine g_q [⟨1, [], .as (rhsOf e1')⟩, ⟨3, [.sel [0, 1, 2, 3, 8]], .loop (exOf e2') (endOf e2')⟩] [] Exit.normal (stOf 53 [] [Blk.row 31 (flatA encT d2)]) (And.intro e1' e2') ?_
  refine g_finn ?_
  refine g_f [0] [true] (AV.tuple []) ([Blk.row 31 (flatA encT d2)]) (show ∀ (x : AV), x ∈ flatA encT d2 → noid0 x = true from encT_noid d2) ?_
  exact ⟨rfl, rfl⟩
end Go.Proofs.YtjgpojglgfddiaaDoor
namespace Go.Proofs.YtjgpojglgfddiaaDoor
open Go Go.RowKit V
set_option linter.unusedSimpArgs false
set_option linter.unusedVariables false
set_option maxHeartbeats 20000000
def wS (d : List TE) (a b n i : Nat) : St := stOf 38 [(0, .sl 0 0 d.length 2), (1, .int .i64 (a : Int)), (2, .int .i64 (b : Int)), (3, .int .i64 (n : Int)), (10, .int .i64 (i : Int))] [.row 31 (flatA encT d)]
theorem w_step (d : List TE) (a b n i : Nat) (hi : i < n) (ha : a + i < d.length) (hb : b + i < d.length) (hd : d.length ≤ 1000) (hn : n ≤ 1000) : GoV Tryd.prog 1 (loopB Tryd.f81 0) (isX .normal (wS (swp d (a + i) (b + i)) a b n (i + 1))) (wS d a b n i) := by
  have at1 : (flatA encT d).drop (0 + ((a + i : Nat) : Int).toNat * 2) = AV.str (d.getD (a + i) tD).1 :: AV.str (d.getD (a + i) tD).2 :: flatA encT (d.drop (a + i + 1)) := encT_at0 d (a + i) ha
  have at2 : (flatA encT d).drop (0 + ((b + i : Nat) : Int).toNat * 2) = AV.str (d.getD (b + i) tD).1 :: AV.str (d.getD (b + i) tD).2 :: flatA encT (d.drop (b + i + 1)) := encT_at0 d (b + i) hb
  have g1 := encT_gk d (a + i) ha
  have g2 := encT_gk d (b + i) hb
  have e1 : (a : Int) + (i : Int) = ((a + i : Nat) : Int) := by omega
  have e2 : (b : Int) + (i : Int) = ((b + i : Nat) : Int) := by omega
  have b1 : ((a + i : Nat) : Int) ≤ 1000 := by omega
  have b2 : ((b + i : Nat) : Int) ≤ 1000 := by omega
  unfold wS
  rw [swp_len]
  unfold swp
  generalize hj : a + i = j at *
  generalize hk : b + i = k at *
  generalize d.getD j tD = x at *
  generalize d.getD k tD = y at *
  have s1 := encT_set d j ha y
  have s2 := encT_set (d.set j y) k (by rw [List.length_set]; omega) x
  have g3 := encT_gk (d.set j y) k (by rw [List.length_set]; omega)
  have n1 := encT_noid (d.set j y)
  have n2 := encT_noid ((d.set j y).set k x)
  have e1' := (Eq.trans (congrArg (fun z => AV.int .i64 (IntKind.i64.wrap z)) e1) (congrArg (fun z => AV.int .i64 z) (wrap_i64 (e := (↑j : Int)) (by omega) (by omega))))
  have e2' := (Eq.trans (congrArg (fun z => AV.int .i64 (IntKind.i64.wrap z)) e2) (congrArg (fun z => AV.int .i64 z) (wrap_i64 (e := (↑k : Int)) (by omega) (by omega))))
  have e3' := (drop_ag0 (n := 2) (v := AV.agg [AV.str y.fst, AV.str y.snd]) at2 rfl)
  have e4' := (drop_ag0 (n := 2) (v := AV.agg [AV.str x.fst, AV.str x.snd]) at1 rfl)
  have e5' := (congrArg (fun z => Blk.row 31 z) s1)
  have e6' := (congrArg (fun z => Blk.row 31 z) s2)
  have e7' := (congrArg (fun z => AV.int .i64 z) (wrap_i64 (e := (↑i : Int) + (1 : Int)) (by omega) (by omega)))
  exact g_x [⟨3, [], .br true .no⟩, ⟨7, [], .as (rhsOf e1')⟩, ⟨11, [], .as (rhsOf e2')⟩, ⟨15, [], .as (rhsOf e2')⟩, ⟨17, [], .as (rhsOf e3')⟩, ⟨21, [], .as (rhsOf e1')⟩, ⟨23, [], .as (rhsOf e4')⟩, ⟨26, [.hp 0 (rhsOf e5')], .no⟩, ⟨28, [.hp 0 (rhsOf e6')], .no⟩, ⟨29, [], .as (rhsOf e7')⟩] [.sel [0, 1, 2, 3, 10]] (And.intro (show decide ((↑i : Int) < (↑n : Int)) = true from (by rw [decide_eq_true_iff]; omega)) (And.intro e1' (And.intro e2' (And.intro e2' (And.intro (show (0 : Int) ≤ (↑k : Int) ∧ (↑k : Int) < (↑d.length : Int) from (by omega)) (And.intro (show 2 ≤ (List.drop (0 + (↑k : Int).toNat * 2) (flatA encT d)).length from (drop_le0 (n := 2) at2 (by simp))) (And.intro e3' (And.intro e1' (And.intro (show (0 : Int) ≤ (↑j : Int) ∧ (↑j : Int) < (↑d.length : Int) from (by omega)) (And.intro (show 2 ≤ (List.drop (0 + (↑j : Int).toNat * 2) (flatA encT d)).length from (drop_le0 (n := 2) at1 (by simp))) (And.intro e4' (And.intro (show (0 : Int) ≤ (↑j : Int) ∧ (↑j : Int) < (↑d.length : Int) from (by omega)) (And.intro (show 0 + (↑j : Int).toNat * 2 + 2 ≤ (flatA encT d).length from (by ((try intro h); simp_all; omega))) (And.intro (congrArg some e5') (And.intro (show (0 : Int) ≤ (↑k : Int) ∧ (↑k : Int) < (↑d.length : Int) from (by omega)) (And.intro (show 0 + (↑k : Int).toNat * 2 + 2 ≤ (flatA encT (d.set j y)).length from (by ((try intro h); simp_all; omega))) (And.intro (congrArg some e6') e7')))))))))))))))))
theorem swap_v (A X M Y B : List TE) (a b n N : Nat) (ha : a = A.length) (hb : b = A.length + X.length + M.length) (hn : n = X.length) (hy : Y.length = X.length) (hN : N = A.length + X.length + M.length + X.length + B.length) (hd : N ≤ 1000) : CallsV Tryd.prog 81 [.sl 0 0 N 2, .int .i64 (a : Int), .int .i64 (b : Int), .int .i64 (n : Int), soV] [.row 31 (flatA encT (A ++ (X ++ (M ++ (Y ++ B)))))] (fun av H' => av = .tuple [] ∧ H' = [.row 31 (flatA encT (A ++ (Y ++ (M ++ (X ++ B)))))]) := by
  refine callsG_at Tryd.func81 (by kernel_rfl) ?_
  have hL : LoopG Tryd.prog 1 Tryd.f81 0 (.exit 0) (stOf 38 [] [.row 31 (flatA encT (A ++ (Y ++ (M ++ (X ++ B)))))]) (wS (A ++ (X ++ (M ++ (Y ++ B)))) a b n 0) := by
    refine loopG_of n (fun k => wS (swR A X M Y B k) a b n k) (by rw [swR_0]) (by simp) ?_ ?_
    · intro k hk
      have hl := swR_len A X M Y B hy k (by omega)
      have st := w_step (swR A X M Y B k) a b n k hk (by omega) (by omega) (by omega) (by omega)
      have e := swR_next A X M Y B hy k (by omega)
      rw [← hb, ← ha] at e
      rw [e]
      exact st
    · have hl := swR_len A X M Y B hy n (by omega)
      rw [show swR A X M Y B n = A ++ (Y ++ (M ++ (X ++ B))) by rw [hn]; exact swR_end A X M Y B hy] at hl ⊢
      generalize A ++ (Y ++ (M ++ (X ++ B))) = d at *
      unfold wS
      exact g_x [⟨3, [], .br false .no⟩] [.sel []] (show decide ((↑n : Int) < (↑n : Int)) = false from (by rw [decide_eq_false_iff_not]; omega))
  have hl : (A ++ (X ++ (M ++ (Y ++ B)))).length = N := by simp; omega
  have b1 : a ≤ 1000 := by omega
  have b2 : b ≤ 1000 := by omega
  have b3 : n ≤ 1000 := by omega
  unfold wS at hL
  rw [hl] at hL
  generalize A ++ (Y ++ (M ++ (X ++ B))) = d2 at *
  generalize A ++ (X ++ (M ++ (Y ++ B))) = d at *
  clear ha hb hn hN
  have e1' := hL
  refine g_q [⟨1, [.sel [0, 1, 2, 3, 10]], .loop (exOf e1') (endOf e1')⟩] [] Exit.normal (stOf 38 [] [Blk.row 31 (flatA encT d2)]) e1' ?_
  refine g_finn ?_
  refine g_f [0] [true] (AV.tuple []) ([Blk.row 31 (flatA encT d2)]) (show ∀ (x : AV), x ∈ flatA encT d2 → noid0 x = true from encT_noid d2) ?_
  exact ⟨rfl, rfl⟩
def rotF : Nat → List TE → List TE → List TE → List TE → List TE × List TE × List TE × List TE
  | 0, P, X, Y, S => (P, X, Y, S)
  | n + 1, P, X, Y, S => if X.length = Y.length then (P, X, Y, S) else if Y.length < X.length then rotF n (P ++ Y) (X.drop Y.length) (X.take Y.length) S else rotF n P (Y.drop (Y.length - X.length)) (Y.take (Y.length - X.length)) (X ++ S)
theorem rotF_spec : ∀ (n : Nat) (P X Y S : List TE), X.length + Y.length ≤ n → 0 < X.length → 0 < Y.length → (rotF n P X Y S).2.1.length = (rotF n P X Y S).2.2.1.length ∧ (rotF n P X Y S).1.length + (rotF n P X Y S).2.1.length = P.length + X.length ∧ 0 < (rotF n P X Y S).2.1.length ∧ (rotF n P X Y S).1 ++ ((rotF n P X Y S).2.2.1 ++ ((rotF n P X Y S).2.1 ++ (rotF n P X Y S).2.2.2)) = P ++ (Y ++ (X ++ S))
  | 0, P, X, Y, S, h, h1, h2 => by omega
  | n + 1, P, X, Y, S, h, h1, h2 => by
    unfold rotF
    by_cases he : X.length = Y.length
    · rw [if_pos he]; exact ⟨he, rfl, h1, rfl⟩
    · rw [if_neg he]
      by_cases hl : Y.length < X.length
      · rw [if_pos hl]
        obtain ⟨a1, a2, a3, a4⟩ := rotF_spec n (P ++ Y) (X.drop Y.length) (X.take Y.length) S (by rw [List.length_drop, List.length_take]; omega) (by rw [List.length_drop]; omega) (by rw [List.length_take]; omega)
        refine ⟨a1, by rw [a2, List.length_append, List.length_drop]; omega, a3, ?_⟩
        rw [a4, List.append_assoc, ← List.append_assoc (X.take _), List.take_append_drop]
      · rw [if_neg hl]
        obtain ⟨a1, a2, a3, a4⟩ := rotF_spec n P (Y.drop (Y.length - X.length)) (Y.take (Y.length - X.length)) (X ++ S) (by rw [List.length_drop, List.length_take]; omega) (by rw [List.length_drop]; omega) (by rw [List.length_take]; omega)
        refine ⟨a1, by rw [a2, List.length_drop]; omega, a3, ?_⟩
        rw [a4, ← List.append_assoc (Y.take _), List.take_append_drop]
def roS (N : Nat) (d : List TE) (m i j : Nat) : St := stOf 58 [(0, .sl 0 0 N 2), (2, .int .i64 (m : Int)), (4, soV), (10, .int .i64 (i : Int)), (11, .int .i64 (j : Int))] [.row 31 (flatA encT d)]
theorem ro_lt (P X Y S : List TE) (N m i j : Nat) (hi : i = X.length) (hj : j = Y.length) (hm : m = P.length + X.length) (hN : N = P.length + X.length + Y.length + S.length) (hd : N ≤ 1000) (h : i < j) : GoV Tryd.prog 1 (loopB Tryd.f75 0) (isX .normal (roS N (P ++ (Y.drop (j - i) ++ (Y.take (j - i) ++ (X ++ S)))) m i (j - i))) (roS N (P ++ (X ++ (Y ++ S))) m i j) := by
  have l1 : (Y.take (j - i)).length = j - i := by rw [List.length_take]; omega
  have l2 : (Y.drop (j - i)).length = i := by rw [List.length_drop]; omega
  have sw := swap_v P X (Y.take (j - i)) (Y.drop (j - i)) S (m - i) (m + j - i) i N (by omega) (by rw [l1]; omega) hi (by rw [l2, hi]) (by rw [l1]; omega) hd
  rw [show X ++ (Y.take (j - i) ++ (Y.drop (j - i) ++ S)) = X ++ (Y ++ S) by rw [← List.append_assoc (Y.take _), List.take_append_drop]] at sw
  have b1 : m ≤ 1000 := by omega
  have b2 : j ≤ 1000 := by omega
  have b3 : i ≤ m := by omega
  have e1 : (m : Int) - (i : Int) = ((m - i : Nat) : Int) := by omega
  have e2 : (m : Int) + (j : Int) - (i : Int) = ((m + j - i : Nat) : Int) := by omega
  have e3 : (j : Int) - (i : Int) = ((j - i : Nat) : Int) := by omega
  generalize P ++ (Y.drop (j - i) ++ (Y.take (j - i) ++ (X ++ S))) = d2 at *
  generalize P ++ (X ++ (Y ++ S)) = d at *
  generalize m - i = u at *
  generalize m + j - i = v at *
  generalize j - i = z at *
  have hne : ((i : Int) == (j : Int)) = false := beq_eq_false_iff_ne.2 (by omega)
  clear l1 l2 hi hj hm hN
  unfold roS
  have e1' := (Eq.trans (congrArg (fun z => AV.int .i64 (IntKind.i64.wrap z)) e1) (congrArg (fun z => AV.int .i64 z) (wrap_i64 (e := (↑u : Int)) (by omega) (by omega))))
  have e2' := (congrArg (fun z => AV.int .i64 z) (wrap_i64 (e := (↑m : Int) + (↑j : Int)) (by omega) (by omega)))
  have e3' := (Eq.trans (congrArg (fun z => AV.int .i64 (IntKind.i64.wrap z)) e2) (congrArg (fun z => AV.int .i64 z) (wrap_i64 (e := (↑v : Int)) (by omega) (by omega))))
  have e4' := sw
  have e5' := (Eq.trans (congrArg (fun z => AV.int .i64 (IntKind.i64.wrap z)) e3) (congrArg (fun z => AV.int .i64 z) (wrap_i64 (e := (↑z : Int)) (by omega) (by omega))))
  exact g_x [⟨3, [], .br true .no⟩, ⟨7, [], .br false .no⟩, ⟨11, [], .as (rhsOf e1')⟩, ⟨14, [], .as (rhsOf e2')⟩, ⟨16, [], .as (rhsOf e3')⟩, ⟨19, [], .callS [0] [true] (avOf e4') (blOf e4') [true]⟩, ⟨22, [], .as (rhsOf e5')⟩] [.sel [0, 2, 4, 10, 11]] (And.intro (show ((↑i : Int) != (↑j : Int)) = true from (by simp_all; done)) (And.intro (show decide ((↑i : Int) > (↑j : Int)) = false from (by rw [decide_eq_false_iff_not]; omega)) (And.intro e1' (And.intro e2' (And.intro e3' (And.intro (show ∀ (x : AV), x ∈ flatA encT d → noid0 x = true from encT_noid d) (And.intro (show ∀ (x : AV), x ∈ flatA encT d2 → noid0 x = true from encT_noid d2) (And.intro e4' e5'))))))))
theorem ro_gt (P X Y S : List TE) (N m i j : Nat) (hi : i = X.length) (hj : j = Y.length) (hm : m = P.length + X.length) (hN : N = P.length + X.length + Y.length + S.length) (hd : N ≤ 1000) (h : j < i) : GoV Tryd.prog 1 (loopB Tryd.f75 0) (isX .normal (roS N ((P ++ Y) ++ (X.drop j ++ (X.take j ++ S))) m (i - j) j)) (roS N (P ++ (X ++ (Y ++ S))) m i j) := by
  have l1 : (X.take j).length = j := by rw [List.length_take]; omega
  have l2 : (X.drop j).length = i - j := by rw [List.length_drop]; omega
  have sw := swap_v P (X.take j) (X.drop j) Y S (m - i) m j N (by omega) (by rw [l1, l2]; omega) l1.symm (by rw [l1, hj]) (by rw [l1, l2]; omega) hd
  rw [show X.take j ++ (X.drop j ++ (Y ++ S)) = X ++ (Y ++ S) by rw [← List.append_assoc (X.take _), List.take_append_drop], show P ++ (Y ++ (X.drop j ++ (X.take j ++ S))) = (P ++ Y) ++ (X.drop j ++ (X.take j ++ S)) by rw [List.append_assoc P]] at sw
  have b1 : m ≤ 1000 := by omega
  have b2 : j ≤ 1000 := by omega
  have b3 : i ≤ m := by omega
  have e1 : (m : Int) - (i : Int) = ((m - i : Nat) : Int) := by omega
  have e3 : (i : Int) - (j : Int) = ((i - j : Nat) : Int) := by omega
  generalize (P ++ Y) ++ (X.drop j ++ (X.take j ++ S)) = d2 at *
  generalize P ++ (X ++ (Y ++ S)) = d at *
  generalize m - i = u at *
  generalize i - j = z at *
  have hne : ((i : Int) == (j : Int)) = false := beq_eq_false_iff_ne.2 (by omega)
  clear l1 l2 hi hj hm hN
  unfold roS
  have e1' := (Eq.trans (congrArg (fun z => AV.int .i64 (IntKind.i64.wrap z)) e1) (congrArg (fun z => AV.int .i64 z) (wrap_i64 (e := (↑u : Int)) (by omega) (by omega))))
  have e2' := sw
  have e3' := (Eq.trans (congrArg (fun z => AV.int .i64 (IntKind.i64.wrap z)) e3) (congrArg (fun z => AV.int .i64 z) (wrap_i64 (e := (↑z : Int)) (by omega) (by omega))))
  exact g_x [⟨3, [], .br true .no⟩, ⟨7, [], .br true .no⟩, ⟨11, [], .as (rhsOf e1')⟩, ⟨15, [], .callS [0] [true] (avOf e2') (blOf e2') [true]⟩, ⟨18, [], .as (rhsOf e3')⟩] [.sel [0, 2, 4, 10, 11]] (And.intro (show ((↑i : Int) != (↑j : Int)) = true from (by simp_all; done)) (And.intro (show decide ((↑i : Int) > (↑j : Int)) = true from (by rw [decide_eq_true_iff]; omega)) (And.intro e1' (And.intro (show ∀ (x : AV), x ∈ flatA encT d → noid0 x = true from encT_noid d) (And.intro (show ∀ (x : AV), x ∈ flatA encT d2 → noid0 x = true from encT_noid d2) (And.intro e2' e3'))))))
theorem ro_end (d : List TE) (N m i : Nat) : GoV Tryd.prog 1 (loopB Tryd.f75 0) (isX (.exit 0) (stOf 58 [(0, .sl 0 0 N 2), (2, .int .i64 (m : Int)), (4, soV), (10, .int .i64 (i : Int))] [.row 31 (flatA encT d)])) (roS N d m i i) := by
  unfold roS
  exact g_x [⟨3, [], .br false .no⟩] [.sel [0, 2, 4, 10]] (show ((↑i : Int) != (↑i : Int)) = false from (by simp_all; done))
def roI (N m n0 : Nat) (E : List TE × List TE × List TE × List TE) (n : Nat) (s : St) : Prop := ∃ P X Y S, X.length + Y.length ≤ n ∧ 0 < X.length ∧ 0 < Y.length ∧ m = P.length + X.length ∧ N = P.length + X.length + Y.length + S.length ∧ rotF n P X Y S = E ∧ s = roS N (P ++ (X ++ (Y ++ S))) m X.length Y.length
theorem rotF_eq (n : Nat) (P X Y S : List TE) (h : X.length = Y.length) : rotF n P X Y S = (P, X, Y, S) := by
  cases n with
  | zero => rfl
  | succ n => unfold rotF; rw [if_pos h]
theorem ro_loop (P X Y S : List TE) (N m n : Nat) (h0 : X.length + Y.length ≤ n) (h1 : 0 < X.length) (h2 : 0 < Y.length) (hm : m = P.length + X.length) (hN : N = P.length + X.length + Y.length + S.length) (hd : N ≤ 1000) (E : List TE × List TE × List TE × List TE) (hE : rotF n P X Y S = E) : LoopG Tryd.prog 1 Tryd.f75 0 (.exit 0) (stOf 58 [(0, .sl 0 0 N 2), (2, .int .i64 (m : Int)), (4, soV), (10, .int .i64 (E.2.1.length : Int))] [.row 31 (flatA encT (E.1 ++ (E.2.1 ++ (E.2.2.1 ++ E.2.2.2))))]) (roS N (P ++ (X ++ (Y ++ S))) m X.length Y.length) := by
  refine loopG_inv n (roI N m n E) ⟨P, X, Y, S, h0, h1, h2, hm, hN, hE, rfl⟩ (by simp) ?_
  rintro k _ ⟨P, X, Y, S, h0, h1, h2, hm, hN, hE, rfl⟩
  rcases Nat.lt_trichotomy X.length Y.length with q | q | q
  · cases k with
    | zero => omega
    | succ k =>
      refine (ro_lt P X Y S N m _ _ rfl rfl hm hN hd q).mono ?_
      rintro _ _ ⟨rfl, rfl⟩
      have l1 : (Y.take (Y.length - X.length)).length = Y.length - X.length := by rw [List.length_take]; omega
      have l2 : (Y.drop (Y.length - X.length)).length = X.length := by rw [List.length_drop]; omega
      unfold rotF at hE
      rw [if_neg (by omega), if_neg (by omega)] at hE
      refine .inl ⟨rfl, k, by omega, P, _, _, X ++ S, by rw [l1, l2]; omega, by rw [l2]; exact h1, by rw [l1]; omega, by rw [l2]; exact hm, by rw [l1, l2, List.length_append]; omega, hE, ?_⟩
      rw [l1, l2]
  · rw [rotF_eq k P X Y S q] at hE
    subst hE
    rw [← q]
    refine (ro_end _ N m X.length).mono ?_
    rintro _ _ ⟨rfl, rfl⟩
    exact .inr ⟨rfl, rfl⟩
  · cases k with
    | zero => omega
    | succ k =>
      refine (ro_gt P X Y S N m _ _ rfl rfl hm hN hd q).mono ?_
      rintro _ _ ⟨rfl, rfl⟩
      have l1 : (X.take Y.length).length = Y.length := by rw [List.length_take]; omega
      have l2 : (X.drop Y.length).length = X.length - Y.length := by rw [List.length_drop]
      unfold rotF at hE
      rw [if_neg (by omega), if_pos q] at hE
      refine .inl ⟨rfl, k, by omega, P ++ Y, _, _, S, by rw [l1, l2]; omega, by rw [l2]; omega, by rw [l1]; exact h2, by rw [l2, List.length_append]; omega, by rw [l1, l2, List.length_append]; omega, hE, ?_⟩
      rw [l1, l2]
theorem rot_v (P X Y S : List TE) (a m b N : Nat) (ha : a = P.length) (hm : m = P.length + X.length) (hb : b = P.length + X.length + Y.length) (hN : N = P.length + X.length + Y.length + S.length) (hd : N ≤ 1000) (h1 : 0 < X.length) (h2 : 0 < Y.length) : CallsV Tryd.prog 75 [.sl 0 0 N 2, .int .i64 (a : Int), .int .i64 (m : Int), .int .i64 (b : Int), soV] [.row 31 (flatA encT (P ++ (X ++ (Y ++ S))))] (fun av H' => av = .tuple [] ∧ H' = [.row 31 (flatA encT (P ++ (Y ++ (X ++ S))))]) := by
  refine callsG_at Tryd.func75 (by kernel_rfl) ?_
  have lo := ro_loop P X Y S N m _ (Nat.le_refl _) h1 h2 hm hN hd _ rfl
  obtain ⟨a1, a2, a3, a4⟩ := rotF_spec _ P X Y S (Nat.le_refl _) h1 h2
  have hlen : (P ++ (Y ++ (X ++ S))).length = N := by simp; omega
  rw [← a4] at hlen
  generalize rotF (X.length + Y.length) P X Y S = E at *
  obtain ⟨E1, E2, E3, E4⟩ := E
  simp only at a1 a2 a3 a4 lo hlen
  have hl2 : E1.length + E2.length + E2.length + E4.length = N := by rw [← hlen]; simp; omega
  have sw := swap_v E1 E2 [] E3 E4 (m - E2.length) m E2.length N (by omega) (by simp; omega) rfl a1.symm (by simp; omega) hd
  simp only [List.nil_append] at sw
  rw [a4] at sw
  have b1 : m ≤ 1000 := by omega
  have b3 : E2.length ≤ m := by omega
  have e1 : (m : Int) - (E2.length : Int) = ((m - E2.length : Nat) : Int) := by omega
  have e2 : (m : Int) - (a : Int) = (X.length : Int) := by omega
  have e3 : (b : Int) - (m : Int) = (Y.length : Int) := by omega
  have b2 : b ≤ 1000 := by omega
  generalize E1 ++ (E2 ++ (E3 ++ E4)) = d3 at *
  generalize P ++ (Y ++ (X ++ S)) = d2 at *
  generalize P ++ (X ++ (Y ++ S)) = d at *
  generalize m - E2.length = u at *
  generalize E2.length = i at *
  unfold roS at lo
  have b4 : a ≤ m := by omega
  have b5 : m ≤ b := by omega
  clear a1 a2 a3 a4 hl2 hlen ha hm hb hN
  have e1' := (Eq.trans (congrArg (fun z => AV.int .i64 (IntKind.i64.wrap z)) e2) (congrArg (fun z => AV.int .i64 z) (wrap_i64 (e := (↑X.length : Int)) (by omega) (by omega))))
  have e2' := (Eq.trans (congrArg (fun z => AV.int .i64 (IntKind.i64.wrap z)) e3) (congrArg (fun z => AV.int .i64 z) (wrap_i64 (e := (↑Y.length : Int)) (by omega) (by omega))))
  have e3' := lo
  have e4' := (Eq.trans (congrArg (fun z => AV.int .i64 (IntKind.i64.wrap z)) e1) (congrArg (fun z => AV.int .i64 z) (wrap_i64 (e := (↑u : Int)) (by omega) (by omega))))
  have e5' := sw
  refine g_q [⟨2, [], .as (rhsOf e1')⟩, ⟨6, [], .as (rhsOf e2')⟩, ⟨8, [.sel [0, 2, 4, 10, 11]], .loop (exOf e3') (endOf e3')⟩, ⟨12, [], .as (rhsOf e4')⟩, ⟨16, [], .callS [0] [true] (avOf e5') (blOf e5') [true]⟩] [.sel []] Exit.normal (stOf 58 [] [Blk.row 31 (flatA encT d2)]) (And.intro e1' (And.intro e2' (And.intro e3' (And.intro e4' (And.intro (show ∀ (x : AV), x ∈ flatA encT d3 → noid0 x = true from encT_noid d3) (And.intro (show ∀ (x : AV), x ∈ flatA encT d2 → noid0 x = true from encT_noid d2) e5')))))) ?_
  refine g_finn ?_
  refine g_f [0] [true] (AV.tuple []) ([Blk.row 31 (flatA encT d2)]) (show ∀ (x : AV), x ∈ flatA encT d2 → noid0 x = true from encT_noid d2) ?_
  exact ⟨rfl, rfl⟩
end Go.Proofs.YtjgpojglgfddiaaDoor
namespace Go.Proofs.YtjgpojglgfddiaaDoor
open Go Go.RowKit V
set_option linter.unusedSimpArgs false
set_option linter.unusedVariables false
set_option maxHeartbeats 20000000
theorem halve (i j : Nat) : ((i : Int) + (j : Int)).fdiv (2 ^ min (Int.toNat 1) IntKind.u64.bits) = (((i + j) / 2 : Nat) : Int) := by
  have e : (2 : Int) ^ min (Int.toNat 1) IntKind.u64.bits = ((2 : Nat) : Int) := by decide
  rw [e, show (i : Int) + (j : Int) = ((i + j : Nat) : Int) by omega, Int.fdiv_eq_ediv_of_nonneg _ (by omega), ← Int.natCast_ediv]
def haS (N : Nat) (d : List TE) (a : Nat) (i j : Nat) : St := stOf 220 [(0, .sl 0 0 N 2), (1, .int .i64 (a : Int)), (4, soV), (10, .int .i64 (i : Int)), (11, .int .i64 (j : Int))] [.row 31 (flatA encT d)]
def haP (d : List TE) (a : Nat) (h : Nat) : Bool := ltE (d.getD h tD) (d.getD a tD)
theorem ha_t (N : Nat) (d : List TE) (a : Nat) (i j h : Nat) (hN : d.length = N) (hd : N ≤ 1000) (hij : i < j) (hj : j ≤ N) (hh : (i + j) / 2 = h) (ha : a < N) (hp : haP d a h = true) : GoV Tryd.prog 1 (loopB Tryd.f67 0) (isX .normal (haS N d a (h + 1) j)) (haS N d a i j) := by
  subst hN
  have hv := halve i j
  rw [hh] at hv
  have hb1 : i ≤ h := by omega
  have hb2 : h < j := by omega
  have hb3 : j ≤ 1000 := by omega
  have at1 : (flatA encT d).drop (0 + (h : Int).toNat * 2) = AV.str (d.getD h tD).1 :: AV.str (d.getD h tD).2 :: flatA encT (d.drop (h + 1)) := encT_at0 d h (by omega)
  have at2 : (flatA encT d).drop (0 + (a : Int).toNat * 2) = AV.str (d.getD a tD).1 :: AV.str (d.getD a tD).2 :: flatA encT (d.drop (a + 1)) := encT_at0 d a (by omega)
  have g1 := encT_gk d h (by omega)
  have g2 := encT_gk d a (by omega)
  have co := sorted1_v (d.getD h tD) (d.getD a tD)
  have hc : decide (coS (d.getD h tD).1 (d.getD a tD).1 < 0) = true := by
    rw [co_lt]
    exact hp
  unfold haS
  clear hp hh
  generalize d.getD h tD = x at *
  generalize d.getD a tD = y at *
  unfold encT at co
  have e1' := (congrArg (fun z => AV.int .i64 z) (wrap_i64 (e := (↑i : Int) + (↑j : Int)) (by omega) (by omega)))
  have e2' := (congrArg (fun z => AV.int .u64 z) (wrap_u64 (e := (↑i : Int) + (↑j : Int)) (by omega) (by omega)))
  have e3' := (congrArg (fun z => AV.int .u64 z) hv)
  have e4' := (congrArg (fun z => AV.int .i64 z) (wrap_i64 (e := (↑h : Int)) (by omega) (by omega)))
  have e5' := (drop_ag0 (n := 2) (v := AV.agg [AV.str x.fst, AV.str x.snd]) at1 rfl)
  have e6' := (drop_ag0 (n := 2) (v := AV.agg [AV.str y.fst, AV.str y.snd]) at2 rfl)
  have e7' := co
  have e8' := (congrArg (fun z => AV.int .i64 z) (wrap_i64 (e := (↑h : Int) + (1 : Int)) (by omega) (by omega)))
  exact g_x [⟨3, [], .br true .no⟩, ⟨6, [], .as (rhsOf e1')⟩, ⟨7, [], .as (rhsOf e2')⟩, ⟨8, [], .as (rhsOf e3')⟩, ⟨9, [], .as (rhsOf e4')⟩, ⟨15, [], .as (rhsOf e5')⟩, ⟨19, [], .as (rhsOf e6')⟩, ⟨20, [], .call (avOf e7') (blOf e7') []⟩, ⟨22, [], .br true .no⟩, ⟨24, [], .as (rhsOf e8')⟩] [.sel [0, 1, 4, 10, 11]] (And.intro (show decide ((↑i : Int) < (↑j : Int)) = true from (by rw [decide_eq_true_iff]; omega)) (And.intro e1' (And.intro e2' (And.intro (show (0 : Int) ≤ (1 : Int) from (by omega)) (And.intro e3' (And.intro e4' (And.intro (show (0 : Int) ≤ (↑h : Int) ∧ (↑h : Int) < (↑d.length : Int) from (by omega)) (And.intro (show 2 ≤ (List.drop (0 + (↑h : Int).toNat * 2) (flatA encT d)).length from (drop_le0 (n := 2) at1 (by simp))) (And.intro e5' (And.intro (show (0 : Int) ≤ (↑a : Int) ∧ (↑a : Int) < (↑d.length : Int) from (by omega)) (And.intro (show 2 ≤ (List.drop (0 + (↑a : Int).toNat * 2) (flatA encT d)).length from (drop_le0 (n := 2) at2 (by simp))) (And.intro e6' (And.intro e7' (And.intro (show decide (coS x.fst y.fst < (0 : Int)) = true from (by assumption)) e8'))))))))))))))
theorem ha_f (N : Nat) (d : List TE) (a : Nat) (i j h : Nat) (hN : d.length = N) (hd : N ≤ 1000) (hij : i < j) (hj : j ≤ N) (hh : (i + j) / 2 = h) (ha : a < N) (hp : haP d a h = false) : GoV Tryd.prog 1 (loopB Tryd.f67 0) (isX .normal (haS N d a i h)) (haS N d a i j) := by
  subst hN
  have hv := halve i j
  rw [hh] at hv
  have hb1 : i ≤ h := by omega
  have hb2 : h < j := by omega
  have hb3 : j ≤ 1000 := by omega
  have at1 : (flatA encT d).drop (0 + (h : Int).toNat * 2) = AV.str (d.getD h tD).1 :: AV.str (d.getD h tD).2 :: flatA encT (d.drop (h + 1)) := encT_at0 d h (by omega)
  have at2 : (flatA encT d).drop (0 + (a : Int).toNat * 2) = AV.str (d.getD a tD).1 :: AV.str (d.getD a tD).2 :: flatA encT (d.drop (a + 1)) := encT_at0 d a (by omega)
  have g1 := encT_gk d h (by omega)
  have g2 := encT_gk d a (by omega)
  have co := sorted1_v (d.getD h tD) (d.getD a tD)
  have hc : decide (coS (d.getD h tD).1 (d.getD a tD).1 < 0) = false := by
    rw [co_lt]
    exact hp
  unfold haS
  clear hp hh
  generalize d.getD h tD = x at *
  generalize d.getD a tD = y at *
  unfold encT at co
  have e1' := (congrArg (fun z => AV.int .i64 z) (wrap_i64 (e := (↑i : Int) + (↑j : Int)) (by omega) (by omega)))
  have e2' := (congrArg (fun z => AV.int .u64 z) (wrap_u64 (e := (↑i : Int) + (↑j : Int)) (by omega) (by omega)))
  have e3' := (congrArg (fun z => AV.int .u64 z) hv)
  have e4' := (congrArg (fun z => AV.int .i64 z) (wrap_i64 (e := (↑h : Int)) (by omega) (by omega)))
  have e5' := (drop_ag0 (n := 2) (v := AV.agg [AV.str x.fst, AV.str x.snd]) at1 rfl)
  have e6' := (drop_ag0 (n := 2) (v := AV.agg [AV.str y.fst, AV.str y.snd]) at2 rfl)
  have e7' := co
  exact g_x [⟨3, [], .br true .no⟩, ⟨6, [], .as (rhsOf e1')⟩, ⟨7, [], .as (rhsOf e2')⟩, ⟨8, [], .as (rhsOf e3')⟩, ⟨9, [], .as (rhsOf e4')⟩, ⟨15, [], .as (rhsOf e5')⟩, ⟨19, [], .as (rhsOf e6')⟩, ⟨20, [], .call (avOf e7') (blOf e7') []⟩, ⟨22, [], .br false .no⟩] [.sel [0, 1, 4, 10, 11]] (And.intro (show decide ((↑i : Int) < (↑j : Int)) = true from (by rw [decide_eq_true_iff]; omega)) (And.intro e1' (And.intro e2' (And.intro (show (0 : Int) ≤ (1 : Int) from (by omega)) (And.intro e3' (And.intro e4' (And.intro (show (0 : Int) ≤ (↑h : Int) ∧ (↑h : Int) < (↑d.length : Int) from (by omega)) (And.intro (show 2 ≤ (List.drop (0 + (↑h : Int).toNat * 2) (flatA encT d)).length from (drop_le0 (n := 2) at1 (by simp))) (And.intro e5' (And.intro (show (0 : Int) ≤ (↑a : Int) ∧ (↑a : Int) < (↑d.length : Int) from (by omega)) (And.intro (show 2 ≤ (List.drop (0 + (↑a : Int).toNat * 2) (flatA encT d)).length from (drop_le0 (n := 2) at2 (by simp))) (And.intro e6' (And.intro e7' (show decide (coS x.fst y.fst < (0 : Int)) = false from (by assumption)))))))))))))))
def haX (N : Nat) (d : List TE) (a : Nat) (i : Nat) : St := stOf 220 [(0, .sl 0 0 N 2), (1, .int .i64 (a : Int)), (10, .int .i64 (i : Int))] [.row 31 (flatA encT d)]
theorem ha_x (N : Nat) (d : List TE) (a : Nat) (i : Nat) : GoV Tryd.prog 1 (loopB Tryd.f67 0) (isX (.exit 0) (haX N d a i)) (haS N d a i i) := by
  unfold haS haX
  exact g_x [⟨3, [], .br false .no⟩] [.sel [0, 1, 10]] (show decide ((↑i : Int) < (↑i : Int)) = false from (by rw [decide_eq_false_iff_not]; omega))
theorem ha_loop (N : Nat) (d : List TE) (a : Nat) (lo hi i j : Nat) (hN : d.length = N) (hd : N ≤ 1000) (hlo : lo ≤ i) (hij : i ≤ j) (hj : j ≤ hi) (hhi : hi ≤ N) (ha : a < N) : LoopG Tryd.prog 1 Tryd.f67 0 (.exit 0) (haX N d a (bsF (haP d a) i j)) (haS N d a i j) := by
  refine loopG_inv (j - i) (fun n s => ∃ i' j', n = j' - i' ∧ lo ≤ i' ∧ i' ≤ j' ∧ j' ≤ hi ∧ bsF (haP d a) i' j' = bsF (haP d a) i j ∧ s = haS N d a i' j') ⟨i, j, rfl, hlo, hij, hj, rfl, rfl⟩ (by simp) ?_
  rintro n _ ⟨i', j', rfl, h1, h2, h3, h4, rfl⟩
  rcases Nat.lt_or_ge i' j' with q | q
  · cases hp : haP d a ((i' + j') / 2) with
    | true =>
      refine (ha_t N d a i' j' _ hN hd q (by omega) rfl ha hp).mono ?_
      rintro _ _ ⟨rfl, rfl⟩
      exact .inl ⟨rfl, _, by omega, _, _, rfl, by omega, by omega, h3, by rw [← h4, bsF_t _ _ _ q hp], rfl⟩
    | false =>
      refine (ha_f N d a i' j' _ hN hd q (by omega) rfl ha hp).mono ?_
      rintro _ _ ⟨rfl, rfl⟩
      exact .inl ⟨rfl, _, by omega, _, _, rfl, h1, by omega, by omega, by rw [← h4, bsF_f _ _ _ q hp], rfl⟩
  · obtain rfl : i' = j' := by omega
    rw [bsF_ge _ _ _ (by omega)] at h4
    rw [← h4]
    refine (ha_x N d a i').mono ?_
    rintro _ _ ⟨rfl, rfl⟩
    exact .inr ⟨rfl, rfl⟩
def hbS (N : Nat) (d : List TE) (m : Nat) (i j : Nat) : St := stOf 220 [(0, .sl 0 0 N 2), (2, .int .i64 (m : Int)), (4, soV), (14, .int .i64 (i : Int)), (15, .int .i64 (j : Int))] [.row 31 (flatA encT d)]
def hbP (d : List TE) (m : Nat) (h : Nat) : Bool := !ltE (d.getD m tD) (d.getD h tD)
theorem hb_t (N : Nat) (d : List TE) (m : Nat) (i j h : Nat) (hN : d.length = N) (hd : N ≤ 1000) (hij : i < j) (hj : j ≤ N) (hh : (i + j) / 2 = h) (ha : m < N) (hp : hbP d m h = true) : GoV Tryd.prog 1 (loopB Tryd.f67 2) (isX .normal (hbS N d m (h + 1) j)) (hbS N d m i j) := by
  subst hN
  have hv := halve i j
  rw [hh] at hv
  have hb1 : i ≤ h := by omega
  have hb2 : h < j := by omega
  have hb3 : j ≤ 1000 := by omega
  have at1 : (flatA encT d).drop (0 + (m : Int).toNat * 2) = AV.str (d.getD m tD).1 :: AV.str (d.getD m tD).2 :: flatA encT (d.drop (m + 1)) := encT_at0 d m (by omega)
  have at2 : (flatA encT d).drop (0 + (h : Int).toNat * 2) = AV.str (d.getD h tD).1 :: AV.str (d.getD h tD).2 :: flatA encT (d.drop (h + 1)) := encT_at0 d h (by omega)
  have g1 := encT_gk d m (by omega)
  have g2 := encT_gk d h (by omega)
  have co := sorted1_v (d.getD m tD) (d.getD h tD)
  have hc : decide (coS (d.getD m tD).1 (d.getD h tD).1 < 0) = false := by
    rw [co_lt]
    simpa [hbP] using hp
  unfold hbS
  clear hp hh
  generalize d.getD m tD = x at *
  generalize d.getD h tD = y at *
  unfold encT at co
  have e1' := (congrArg (fun z => AV.int .i64 z) (wrap_i64 (e := (↑i : Int) + (↑j : Int)) (by omega) (by omega)))
  have e2' := (congrArg (fun z => AV.int .u64 z) (wrap_u64 (e := (↑i : Int) + (↑j : Int)) (by omega) (by omega)))
  have e3' := (congrArg (fun z => AV.int .u64 z) hv)
  have e4' := (congrArg (fun z => AV.int .i64 z) (wrap_i64 (e := (↑h : Int)) (by omega) (by omega)))
  have e5' := (drop_ag0 (n := 2) (v := AV.agg [AV.str x.fst, AV.str x.snd]) at1 rfl)
  have e6' := (drop_ag0 (n := 2) (v := AV.agg [AV.str y.fst, AV.str y.snd]) at2 rfl)
  have e7' := co
  have e8' := (congrArg (fun z => AV.int .i64 z) (wrap_i64 (e := (↑h : Int) + (1 : Int)) (by omega) (by omega)))
  exact g_x [⟨3, [], .br true .no⟩, ⟨6, [], .as (rhsOf e1')⟩, ⟨7, [], .as (rhsOf e2')⟩, ⟨8, [], .as (rhsOf e3')⟩, ⟨9, [], .as (rhsOf e4')⟩, ⟨15, [], .as (rhsOf e5')⟩, ⟨19, [], .as (rhsOf e6')⟩, ⟨20, [], .call (avOf e7') (blOf e7') []⟩, ⟨23, [], .br true .no⟩, ⟨25, [], .as (rhsOf e8')⟩] [.sel [0, 2, 4, 14, 15]] (And.intro (show decide ((↑i : Int) < (↑j : Int)) = true from (by rw [decide_eq_true_iff]; omega)) (And.intro e1' (And.intro e2' (And.intro (show (0 : Int) ≤ (1 : Int) from (by omega)) (And.intro e3' (And.intro e4' (And.intro (show (0 : Int) ≤ (↑m : Int) ∧ (↑m : Int) < (↑d.length : Int) from (by omega)) (And.intro (show 2 ≤ (List.drop (0 + (↑m : Int).toNat * 2) (flatA encT d)).length from (drop_le0 (n := 2) at1 (by simp))) (And.intro e5' (And.intro (show (0 : Int) ≤ (↑h : Int) ∧ (↑h : Int) < (↑d.length : Int) from (by omega)) (And.intro (show 2 ≤ (List.drop (0 + (↑h : Int).toNat * 2) (flatA encT d)).length from (drop_le0 (n := 2) at2 (by simp))) (And.intro e6' (And.intro e7' (And.intro (congrArg (fun z => !z) hc) e8'))))))))))))))
theorem hb_f (N : Nat) (d : List TE) (m : Nat) (i j h : Nat) (hN : d.length = N) (hd : N ≤ 1000) (hij : i < j) (hj : j ≤ N) (hh : (i + j) / 2 = h) (ha : m < N) (hp : hbP d m h = false) : GoV Tryd.prog 1 (loopB Tryd.f67 2) (isX .normal (hbS N d m i h)) (hbS N d m i j) := by
  subst hN
  have hv := halve i j
  rw [hh] at hv
  have hb1 : i ≤ h := by omega
  have hb2 : h < j := by omega
  have hb3 : j ≤ 1000 := by omega
  have at1 : (flatA encT d).drop (0 + (m : Int).toNat * 2) = AV.str (d.getD m tD).1 :: AV.str (d.getD m tD).2 :: flatA encT (d.drop (m + 1)) := encT_at0 d m (by omega)
  have at2 : (flatA encT d).drop (0 + (h : Int).toNat * 2) = AV.str (d.getD h tD).1 :: AV.str (d.getD h tD).2 :: flatA encT (d.drop (h + 1)) := encT_at0 d h (by omega)
  have g1 := encT_gk d m (by omega)
  have g2 := encT_gk d h (by omega)
  have co := sorted1_v (d.getD m tD) (d.getD h tD)
  have hc : decide (coS (d.getD m tD).1 (d.getD h tD).1 < 0) = true := by
    rw [co_lt]
    simpa [hbP] using hp
  unfold hbS
  clear hp hh
  generalize d.getD m tD = x at *
  generalize d.getD h tD = y at *
  unfold encT at co
  have e1' := (congrArg (fun z => AV.int .i64 z) (wrap_i64 (e := (↑i : Int) + (↑j : Int)) (by omega) (by omega)))
  have e2' := (congrArg (fun z => AV.int .u64 z) (wrap_u64 (e := (↑i : Int) + (↑j : Int)) (by omega) (by omega)))
  have e3' := (congrArg (fun z => AV.int .u64 z) hv)
  have e4' := (congrArg (fun z => AV.int .i64 z) (wrap_i64 (e := (↑h : Int)) (by omega) (by omega)))
  have e5' := (drop_ag0 (n := 2) (v := AV.agg [AV.str x.fst, AV.str x.snd]) at1 rfl)
  have e6' := (drop_ag0 (n := 2) (v := AV.agg [AV.str y.fst, AV.str y.snd]) at2 rfl)
  have e7' := co
  exact g_x [⟨3, [], .br true .no⟩, ⟨6, [], .as (rhsOf e1')⟩, ⟨7, [], .as (rhsOf e2')⟩, ⟨8, [], .as (rhsOf e3')⟩, ⟨9, [], .as (rhsOf e4')⟩, ⟨15, [], .as (rhsOf e5')⟩, ⟨19, [], .as (rhsOf e6')⟩, ⟨20, [], .call (avOf e7') (blOf e7') []⟩, ⟨23, [], .br false .no⟩] [.sel [0, 2, 4, 14, 15]] (And.intro (show decide ((↑i : Int) < (↑j : Int)) = true from (by rw [decide_eq_true_iff]; omega)) (And.intro e1' (And.intro e2' (And.intro (show (0 : Int) ≤ (1 : Int) from (by omega)) (And.intro e3' (And.intro e4' (And.intro (show (0 : Int) ≤ (↑m : Int) ∧ (↑m : Int) < (↑d.length : Int) from (by omega)) (And.intro (show 2 ≤ (List.drop (0 + (↑m : Int).toNat * 2) (flatA encT d)).length from (drop_le0 (n := 2) at1 (by simp))) (And.intro e5' (And.intro (show (0 : Int) ≤ (↑h : Int) ∧ (↑h : Int) < (↑d.length : Int) from (by omega)) (And.intro (show 2 ≤ (List.drop (0 + (↑h : Int).toNat * 2) (flatA encT d)).length from (drop_le0 (n := 2) at2 (by simp))) (And.intro e6' (And.intro e7' (congrArg (fun z => !z) hc))))))))))))))
def hbX (N : Nat) (d : List TE) (m : Nat) (i : Nat) : St := stOf 220 [(0, .sl 0 0 N 2), (2, .int .i64 (m : Int)), (14, .int .i64 (i : Int))] [.row 31 (flatA encT d)]
theorem hb_x (N : Nat) (d : List TE) (m : Nat) (i : Nat) : GoV Tryd.prog 1 (loopB Tryd.f67 2) (isX (.exit 4) (hbX N d m i)) (hbS N d m i i) := by
  unfold hbS hbX
  exact g_x [⟨3, [], .br false .no⟩] [.sel [0, 2, 14]] (show decide ((↑i : Int) < (↑i : Int)) = false from (by rw [decide_eq_false_iff_not]; omega))
theorem hb_loop (N : Nat) (d : List TE) (m : Nat) (lo hi i j : Nat) (hN : d.length = N) (hd : N ≤ 1000) (hlo : lo ≤ i) (hij : i ≤ j) (hj : j ≤ hi) (hhi : hi ≤ N) (ha : m < N) : LoopG Tryd.prog 1 Tryd.f67 2 (.exit 4) (hbX N d m (bsF (hbP d m) i j)) (hbS N d m i j) := by
  refine loopG_inv (j - i) (fun n s => ∃ i' j', n = j' - i' ∧ lo ≤ i' ∧ i' ≤ j' ∧ j' ≤ hi ∧ bsF (hbP d m) i' j' = bsF (hbP d m) i j ∧ s = hbS N d m i' j') ⟨i, j, rfl, hlo, hij, hj, rfl, rfl⟩ (by simp) ?_
  rintro n _ ⟨i', j', rfl, h1, h2, h3, h4, rfl⟩
  rcases Nat.lt_or_ge i' j' with q | q
  · cases hp : hbP d m ((i' + j') / 2) with
    | true =>
      refine (hb_t N d m i' j' _ hN hd q (by omega) rfl ha hp).mono ?_
      rintro _ _ ⟨rfl, rfl⟩
      exact .inl ⟨rfl, _, by omega, _, _, rfl, by omega, by omega, h3, by rw [← h4, bsF_t _ _ _ q hp], rfl⟩
    | false =>
      refine (hb_f N d m i' j' _ hN hd q (by omega) rfl ha hp).mono ?_
      rintro _ _ ⟨rfl, rfl⟩
      exact .inl ⟨rfl, _, by omega, _, _, rfl, h1, by omega, by omega, by rw [← h4, bsF_f _ _ _ q hp], rfl⟩
  · obtain rfl : i' = j' := by omega
    rw [bsF_ge _ _ _ (by omega)] at h4
    rw [← h4]
    refine (hb_x N d m i').mono ?_
    rintro _ _ ⟨rfl, rfl⟩
    exact .inr ⟨rfl, rfl⟩
def hcS (N : Nat) (d : List TE) (a : Nat) (m : Nat) (b : Nat) (c : Nat) (n : Nat) (p : Nat) (i j : Nat) : St := stOf 220 [(0, .sl 0 0 N 2), (1, .int .i64 (a : Int)), (2, .int .i64 (m : Int)), (3, .int .i64 (b : Int)), (4, soV), (18, .int .i64 (c : Int)), (19, .int .i64 (n : Int)), (20, .int .i64 (i : Int)), (21, .int .i64 (j : Int)), (22, .int .i64 (p : Int))] [.row 31 (flatA encT d)]
def hcP (d : List TE) (a : Nat) (m : Nat) (b : Nat) (c : Nat) (n : Nat) (p : Nat) (h : Nat) : Bool := !ltE (d.getD (p - h) tD) (d.getD h tD)
theorem hc_t (N : Nat) (d : List TE) (a : Nat) (m : Nat) (b : Nat) (c : Nat) (n : Nat) (p : Nat) (i j h : Nat) (hN : d.length = N) (hd : N ≤ 1000) (hij : i < j) (hj : j ≤ N) (hh : (i + j) / 2 = h) (ha : h ≤ p) (hb : p - h < N) (hbp : p ≤ 2000) (hp : hcP d a m b c n p h = true) : GoV Tryd.prog 1 (loopB Tryd.f67 4) (isX .normal (hcS N d a m b c n p (h + 1) j)) (hcS N d a m b c n p i j) := by
  subst hN
  have hv := halve i j
  rw [hh] at hv
  have hb1 : i ≤ h := by omega
  have hb2 : h < j := by omega
  have hb3 : j ≤ 1000 := by omega
  have e1 : (p : Int) - (h : Int) = ((p - h : Nat) : Int) := by omega
  have hp : (!ltE (d.getD (p - h) tD) (d.getD h tD)) = true := hp
  generalize hq : p - h = q at *
  have at1 : (flatA encT d).drop (0 + (q : Int).toNat * 2) = AV.str (d.getD q tD).1 :: AV.str (d.getD q tD).2 :: flatA encT (d.drop (q + 1)) := encT_at0 d q (by omega)
  have at2 : (flatA encT d).drop (0 + (h : Int).toNat * 2) = AV.str (d.getD h tD).1 :: AV.str (d.getD h tD).2 :: flatA encT (d.drop (h + 1)) := encT_at0 d h (by omega)
  have g1 := encT_gk d q (by omega)
  have g2 := encT_gk d h (by omega)
  have co := sorted1_v (d.getD q tD) (d.getD h tD)
  have hc : decide (coS (d.getD q tD).1 (d.getD h tD).1 < 0) = false := by
    rw [co_lt]
    simpa using hp
  unfold hcS
  clear hp hh
  generalize d.getD q tD = x at *
  generalize d.getD h tD = y at *
  unfold encT at co
  have e1' := (congrArg (fun z => AV.int .i64 z) (wrap_i64 (e := (↑i : Int) + (↑j : Int)) (by omega) (by omega)))
  have e2' := (congrArg (fun z => AV.int .u64 z) (wrap_u64 (e := (↑i : Int) + (↑j : Int)) (by omega) (by omega)))
  have e3' := (congrArg (fun z => AV.int .u64 z) hv)
  have e4' := (congrArg (fun z => AV.int .i64 z) (wrap_i64 (e := (↑h : Int)) (by omega) (by omega)))
  have e5' := (Eq.trans (congrArg (fun z => AV.int .i64 (IntKind.i64.wrap z)) e1) (congrArg (fun z => AV.int .i64 z) (wrap_i64 (e := (↑q : Int)) (by omega) (by omega))))
  have e6' := (drop_ag0 (n := 2) (v := AV.agg [AV.str x.fst, AV.str x.snd]) at1 rfl)
  have e7' := (drop_ag0 (n := 2) (v := AV.agg [AV.str y.fst, AV.str y.snd]) at2 rfl)
  have e8' := co
  have e9' := (congrArg (fun z => AV.int .i64 z) (wrap_i64 (e := (↑h : Int) + (1 : Int)) (by omega) (by omega)))
  exact g_x [⟨3, [], .br true .no⟩, ⟨6, [], .as (rhsOf e1')⟩, ⟨7, [], .as (rhsOf e2')⟩, ⟨8, [], .as (rhsOf e3')⟩, ⟨9, [], .as (rhsOf e4')⟩, ⟨15, [], .as (rhsOf e5')⟩, ⟨17, [], .as (rhsOf e6')⟩, ⟨21, [], .as (rhsOf e7')⟩, ⟨22, [], .call (avOf e8') (blOf e8') []⟩, ⟨25, [], .br true .no⟩, ⟨27, [], .as (rhsOf e9')⟩] [.sel [0, 1, 2, 3, 4, 18, 19, 20, 21, 22]] (And.intro (show decide ((↑i : Int) < (↑j : Int)) = true from (by rw [decide_eq_true_iff]; omega)) (And.intro e1' (And.intro e2' (And.intro (show (0 : Int) ≤ (1 : Int) from (by omega)) (And.intro e3' (And.intro e4' (And.intro e5' (And.intro (show (0 : Int) ≤ (↑q : Int) ∧ (↑q : Int) < (↑d.length : Int) from (by omega)) (And.intro (show 2 ≤ (List.drop (0 + (↑q : Int).toNat * 2) (flatA encT d)).length from (drop_le0 (n := 2) at1 (by simp))) (And.intro e6' (And.intro (show (0 : Int) ≤ (↑h : Int) ∧ (↑h : Int) < (↑d.length : Int) from (by omega)) (And.intro (show 2 ≤ (List.drop (0 + (↑h : Int).toNat * 2) (flatA encT d)).length from (drop_le0 (n := 2) at2 (by simp))) (And.intro e7' (And.intro e8' (And.intro (congrArg (fun z => !z) hc) e9')))))))))))))))
theorem hc_f (N : Nat) (d : List TE) (a : Nat) (m : Nat) (b : Nat) (c : Nat) (n : Nat) (p : Nat) (i j h : Nat) (hN : d.length = N) (hd : N ≤ 1000) (hij : i < j) (hj : j ≤ N) (hh : (i + j) / 2 = h) (ha : h ≤ p) (hb : p - h < N) (hbp : p ≤ 2000) (hp : hcP d a m b c n p h = false) : GoV Tryd.prog 1 (loopB Tryd.f67 4) (isX .normal (hcS N d a m b c n p i h)) (hcS N d a m b c n p i j) := by
  subst hN
  have hv := halve i j
  rw [hh] at hv
  have hb1 : i ≤ h := by omega
  have hb2 : h < j := by omega
  have hb3 : j ≤ 1000 := by omega
  have e1 : (p : Int) - (h : Int) = ((p - h : Nat) : Int) := by omega
  have hp : (!ltE (d.getD (p - h) tD) (d.getD h tD)) = false := hp
  generalize hq : p - h = q at *
  have at1 : (flatA encT d).drop (0 + (q : Int).toNat * 2) = AV.str (d.getD q tD).1 :: AV.str (d.getD q tD).2 :: flatA encT (d.drop (q + 1)) := encT_at0 d q (by omega)
  have at2 : (flatA encT d).drop (0 + (h : Int).toNat * 2) = AV.str (d.getD h tD).1 :: AV.str (d.getD h tD).2 :: flatA encT (d.drop (h + 1)) := encT_at0 d h (by omega)
  have g1 := encT_gk d q (by omega)
  have g2 := encT_gk d h (by omega)
  have co := sorted1_v (d.getD q tD) (d.getD h tD)
  have hc : decide (coS (d.getD q tD).1 (d.getD h tD).1 < 0) = true := by
    rw [co_lt]
    simpa using hp
  unfold hcS
  clear hp hh
  generalize d.getD q tD = x at *
  generalize d.getD h tD = y at *
  unfold encT at co
  have e1' := (congrArg (fun z => AV.int .i64 z) (wrap_i64 (e := (↑i : Int) + (↑j : Int)) (by omega) (by omega)))
  have e2' := (congrArg (fun z => AV.int .u64 z) (wrap_u64 (e := (↑i : Int) + (↑j : Int)) (by omega) (by omega)))
  have e3' := (congrArg (fun z => AV.int .u64 z) hv)
  have e4' := (congrArg (fun z => AV.int .i64 z) (wrap_i64 (e := (↑h : Int)) (by omega) (by omega)))
  have e5' := (Eq.trans (congrArg (fun z => AV.int .i64 (IntKind.i64.wrap z)) e1) (congrArg (fun z => AV.int .i64 z) (wrap_i64 (e := (↑q : Int)) (by omega) (by omega))))
  have e6' := (drop_ag0 (n := 2) (v := AV.agg [AV.str x.fst, AV.str x.snd]) at1 rfl)
  have e7' := (drop_ag0 (n := 2) (v := AV.agg [AV.str y.fst, AV.str y.snd]) at2 rfl)
  have e8' := co
  exact g_x [⟨3, [], .br true .no⟩, ⟨6, [], .as (rhsOf e1')⟩, ⟨7, [], .as (rhsOf e2')⟩, ⟨8, [], .as (rhsOf e3')⟩, ⟨9, [], .as (rhsOf e4')⟩, ⟨15, [], .as (rhsOf e5')⟩, ⟨17, [], .as (rhsOf e6')⟩, ⟨21, [], .as (rhsOf e7')⟩, ⟨22, [], .call (avOf e8') (blOf e8') []⟩, ⟨25, [], .br false .no⟩] [.sel [0, 1, 2, 3, 4, 18, 19, 20, 21, 22]] (And.intro (show decide ((↑i : Int) < (↑j : Int)) = true from (by rw [decide_eq_true_iff]; omega)) (And.intro e1' (And.intro e2' (And.intro (show (0 : Int) ≤ (1 : Int) from (by omega)) (And.intro e3' (And.intro e4' (And.intro e5' (And.intro (show (0 : Int) ≤ (↑q : Int) ∧ (↑q : Int) < (↑d.length : Int) from (by omega)) (And.intro (show 2 ≤ (List.drop (0 + (↑q : Int).toNat * 2) (flatA encT d)).length from (drop_le0 (n := 2) at1 (by simp))) (And.intro e6' (And.intro (show (0 : Int) ≤ (↑h : Int) ∧ (↑h : Int) < (↑d.length : Int) from (by omega)) (And.intro (show 2 ≤ (List.drop (0 + (↑h : Int).toNat * 2) (flatA encT d)).length from (drop_le0 (n := 2) at2 (by simp))) (And.intro e7' (And.intro e8' (congrArg (fun z => !z) hc)))))))))))))))
def hcX (N : Nat) (d : List TE) (a : Nat) (m : Nat) (b : Nat) (c : Nat) (n : Nat) (p : Nat) (i : Nat) : St := stOf 220 [(0, .sl 0 0 N 2), (1, .int .i64 (a : Int)), (2, .int .i64 (m : Int)), (3, .int .i64 (b : Int)), (4, soV), (18, .int .i64 (c : Int)), (19, .int .i64 (n : Int)), (20, .int .i64 (i : Int))] [.row 31 (flatA encT d)]
theorem hc_x (N : Nat) (d : List TE) (a : Nat) (m : Nat) (b : Nat) (c : Nat) (n : Nat) (p : Nat) (i : Nat) : GoV Tryd.prog 1 (loopB Tryd.f67 4) (isX (.exit 8) (hcX N d a m b c n p i)) (hcS N d a m b c n p i i) := by
  unfold hcS hcX
  exact g_x [⟨3, [], .br false .no⟩] [.sel [0, 1, 2, 3, 4, 18, 19, 20]] (show decide ((↑i : Int) < (↑i : Int)) = false from (by rw [decide_eq_false_iff_not]; omega))
theorem hc_loop (N : Nat) (d : List TE) (a : Nat) (m : Nat) (b : Nat) (c : Nat) (n : Nat) (p : Nat) (lo hi i j : Nat) (hN : d.length = N) (hd : N ≤ 1000) (hlo : lo ≤ i) (hij : i ≤ j) (hj : j ≤ hi) (hhi : hi ≤ N) (hbp : p ≤ 2000) (hlo2 : p < N + lo) (hhi2 : hi ≤ p + 1) : LoopG Tryd.prog 1 Tryd.f67 4 (.exit 8) (hcX N d a m b c n p (bsF (hcP d a m b c n p) i j)) (hcS N d a m b c n p i j) := by
  refine loopG_inv (j - i) (fun kk s => ∃ i' j', kk = j' - i' ∧ lo ≤ i' ∧ i' ≤ j' ∧ j' ≤ hi ∧ bsF (hcP d a m b c n p) i' j' = bsF (hcP d a m b c n p) i j ∧ s = hcS N d a m b c n p i' j') ⟨i, j, rfl, hlo, hij, hj, rfl, rfl⟩ (by simp) ?_
  rintro kk _ ⟨i', j', rfl, h1, h2, h3, h4, rfl⟩
  rcases Nat.lt_or_ge i' j' with q | q
  · cases hp : hcP d a m b c n p ((i' + j') / 2) with
    | true =>
      refine (hc_t N d a m b c n p i' j' _ hN hd q (by omega) rfl (by omega) (by omega) hbp hp).mono ?_
      rintro _ _ ⟨rfl, rfl⟩
      exact .inl ⟨rfl, _, by omega, _, _, rfl, by omega, by omega, h3, by rw [← h4, bsF_t _ _ _ q hp], rfl⟩
    | false =>
      refine (hc_f N d a m b c n p i' j' _ hN hd q (by omega) rfl (by omega) (by omega) hbp hp).mono ?_
      rintro _ _ ⟨rfl, rfl⟩
      exact .inl ⟨rfl, _, by omega, _, _, rfl, h1, by omega, by omega, by rw [← h4, bsF_f _ _ _ q hp], rfl⟩
  · obtain rfl : i' = j' := by omega
    rw [bsF_ge _ _ _ (by omega)] at h4
    rw [← h4]
    refine (hc_x N d a m b c n p i').mono ?_
    rintro _ _ ⟨rfl, rfl⟩
    exact .inr ⟨rfl, rfl⟩
end Go.Proofs.YtjgpojglgfddiaaDoor
namespace Go.Proofs.YtjgpojglgfddiaaDoor
open Go Go.RowKit V
set_option linter.unusedSimpArgs false
set_option linter.unusedVariables false
set_option maxHeartbeats 20000000
def e1S (N : Nat) (d : List TE) (t k : Nat) : St := stOf 220 [(0, .sl 0 0 N 2), (10, .int .i64 (t : Int)), (13, .int .i64 (k : Int))] [.row 31 (flatA encT d)]
theorem e1_step (N : Nat) (d : List TE) (t k : Nat) (hN : d.length = N) (hd : N ≤ 1000) (ht : t ≤ N) (h : k + 1 < t) : GoV Tryd.prog 1 (loopB Tryd.f67 1) (isX .normal (e1S N (swp d k (k + 1)) t (k + 1))) (e1S N d t k) := by
  subst hN
  have at1 : (flatA encT d).drop (0 + ((k + 1 : Nat) : Int).toNat * 2) = AV.str (d.getD (k + 1) tD).1 :: AV.str (d.getD (k + 1) tD).2 :: flatA encT (d.drop (k + 1 + 1)) := encT_at0 d (k + 1) (by omega)
  have at2 : (flatA encT d).drop (0 + (k : Int).toNat * 2) = AV.str (d.getD k tD).1 :: AV.str (d.getD k tD).2 :: flatA encT (d.drop (k + 1)) := encT_at0 d k (by omega)
  have g1 := encT_gk d (k + 1) (by omega)
  have g2 := encT_gk d k (by omega)
  have e1 : (k : Int) + 1 = ((k + 1 : Nat) : Int) := by omega
  have b1 : ((k + 1 : Nat) : Int) ≤ 1000 := by omega
  have b2 : ((k + 1 : Nat) : Int) < (t : Int) := by omega
  have b3 : t ≤ 1000 := by omega
  have hk : k < d.length := by omega
  have hk1 : k + 1 < d.length := by omega
  unfold e1S
  unfold swp
  generalize hq : k + 1 = q at *
  generalize d.getD q tD = x at *
  generalize d.getD k tD = y at *
  have s1 := encT_set d k hk x
  have s2 := encT_set (d.set k x) q (by rw [List.length_set]; exact hk1) y
  have g3 := encT_gk (d.set k x) q (by rw [List.length_set]; exact hk1)
  have n1 := encT_noid (d.set k x)
  have n2 := encT_noid ((d.set k x).set q y)
  have e1' := (congrArg (fun z => AV.int .i64 z) (wrap_i64 (e := (↑t : Int) - (1 : Int)) (by omega) (by omega)))
  have e2' := (Eq.trans (congrArg (fun z => AV.int .i64 (IntKind.i64.wrap z)) e1) (congrArg (fun z => AV.int .i64 z) (wrap_i64 (e := (↑q : Int)) (by omega) (by omega))))
  have e3' := (drop_ag0 (n := 2) (v := AV.agg [AV.str x.fst, AV.str x.snd]) at1 rfl)
  have e4' := (drop_ag0 (n := 2) (v := AV.agg [AV.str y.fst, AV.str y.snd]) at2 rfl)
  have e5' := (congrArg (fun z => Blk.row 31 z) s1)
  have e6' := (congrArg (fun z => Blk.row 31 z) s2)
  exact g_x [⟨2, [], .as (rhsOf e1')⟩, ⟨4, [], .br true .no⟩, ⟨9, [], .as (rhsOf e2')⟩, ⟨12, [], .as (rhsOf e2')⟩, ⟨14, [], .as (rhsOf e3')⟩, ⟨18, [], .as (rhsOf e4')⟩, ⟨21, [.hp 0 (rhsOf e5')], .no⟩, ⟨23, [.hp 0 (rhsOf e6')], .no⟩, ⟨24, [], .as (rhsOf e2')⟩] [.sel [0, 10, 13]] (And.intro e1' (And.intro (show decide ((↑k : Int) < (↑t : Int) - (1 : Int)) = true from (by rw [decide_eq_true_iff]; omega)) (And.intro e2' (And.intro e2' (And.intro (show (0 : Int) ≤ (↑q : Int) ∧ (↑q : Int) < (↑d.length : Int) from (by omega)) (And.intro (show 2 ≤ (List.drop (0 + (↑q : Int).toNat * 2) (flatA encT d)).length from (drop_le0 (n := 2) at1 (by simp))) (And.intro e3' (And.intro (show (0 : Int) ≤ (↑k : Int) ∧ (↑k : Int) < (↑d.length : Int) from (by omega)) (And.intro (show 2 ≤ (List.drop (0 + (↑k : Int).toNat * 2) (flatA encT d)).length from (drop_le0 (n := 2) at2 (by simp))) (And.intro e4' (And.intro (show (0 : Int) ≤ (↑k : Int) ∧ (↑k : Int) < (↑d.length : Int) from (by omega)) (And.intro (show 0 + (↑k : Int).toNat * 2 + 2 ≤ (flatA encT d).length from (by ((try intro h); simp_all; omega))) (And.intro (congrArg some e5') (And.intro (show (0 : Int) ≤ (↑q : Int) ∧ (↑q : Int) < (↑d.length : Int) from (by omega)) (And.intro (show 0 + (↑q : Int).toNat * 2 + 2 ≤ (flatA encT (d.set k x)).length from (by ((try intro h); simp_all; omega))) (And.intro (congrArg some e6') e2'))))))))))))))))
theorem e1_end (N : Nat) (d : List TE) (t : Nat) (ht : t ≤ 1000) (h : 0 < t) : GoV Tryd.prog 1 (loopB Tryd.f67 1) (isX (.exit 2) (stOf 220 [] [.row 31 (flatA encT d)])) (e1S N d t (t - 1)) := by
  unfold e1S
  have e1 : (t : Int) - 1 = ((t - 1 : Nat) : Int) := by omega
  generalize t - 1 = k at *
  have e1' := (Eq.trans (congrArg (fun z => AV.int .i64 (IntKind.i64.wrap z)) e1) (congrArg (fun z => AV.int .i64 z) (wrap_i64 (e := (↑k : Int)) (by omega) (by omega))))
  exact g_x [⟨2, [], .as (rhsOf e1')⟩, ⟨4, [], .br false .no⟩] [.sel []] (And.intro e1' (show decide ((↑k : Int) < (↑k : Int)) = false from (by rw [decide_eq_false_iff_not]; omega)))
def e3S (N : Nat) (d : List TE) (t k : Nat) : St := stOf 220 [(0, .sl 0 0 N 2), (14, .int .i64 (t : Int)), (17, .int .i64 (k : Int))] [.row 31 (flatA encT d)]
theorem e3_step (N : Nat) (d : List TE) (t k : Nat) (hN : d.length = N) (hd : N ≤ 1000) (hk1 : k + 1 < N) (h : t < k + 1) : GoV Tryd.prog 1 (loopB Tryd.f67 3) (isX .normal (e3S N (swp d (k + 1) k) t k)) (e3S N d t (k + 1)) := by
  subst hN
  have at1 : (flatA encT d).drop (0 + ((k + 1 : Nat) : Int).toNat * 2) = AV.str (d.getD (k + 1) tD).1 :: AV.str (d.getD (k + 1) tD).2 :: flatA encT (d.drop (k + 1 + 1)) := encT_at0 d (k + 1) (by omega)
  have at2 : (flatA encT d).drop (0 + (k : Int).toNat * 2) = AV.str (d.getD k tD).1 :: AV.str (d.getD k tD).2 :: flatA encT (d.drop (k + 1)) := encT_at0 d k (by omega)
  have g1 := encT_gk d (k + 1) (by omega)
  have g2 := encT_gk d k (by omega)
  have e1 : ((k + 1 : Nat) : Int) - 1 = (k : Int) := by omega
  have b1 : ((k + 1 : Nat) : Int) ≤ 1000 := by omega
  have b2 : (t : Int) < ((k + 1 : Nat) : Int) := by omega
  have hk : k < d.length := by omega
  unfold e3S
  unfold swp
  generalize hq : k + 1 = q at *
  generalize d.getD q tD = x at *
  generalize d.getD k tD = y at *
  have s1 := encT_set d q hk1 y
  have s2 := encT_set (d.set q y) k (by rw [List.length_set]; exact hk) x
  have g3 := encT_gk (d.set q y) k (by rw [List.length_set]; exact hk)
  have n1 := encT_noid (d.set q y)
  have n2 := encT_noid ((d.set q y).set k x)
  have e1' := (Eq.trans (congrArg (fun z => AV.int .i64 (IntKind.i64.wrap z)) e1) (congrArg (fun z => AV.int .i64 z) (wrap_i64 (e := (↑k : Int)) (by omega) (by omega))))
  have e2' := (drop_ag0 (n := 2) (v := AV.agg [AV.str y.fst, AV.str y.snd]) at2 rfl)
  have e3' := (drop_ag0 (n := 2) (v := AV.agg [AV.str x.fst, AV.str x.snd]) at1 rfl)
  have e4' := (congrArg (fun z => Blk.row 31 z) s1)
  have e5' := (congrArg (fun z => Blk.row 31 z) s2)
  exact g_x [⟨3, [], .br true .no⟩, ⟨8, [], .as (rhsOf e1')⟩, ⟨11, [], .as (rhsOf e1')⟩, ⟨13, [], .as (rhsOf e2')⟩, ⟨17, [], .as (rhsOf e3')⟩, ⟨20, [.hp 0 (rhsOf e4')], .no⟩, ⟨22, [.hp 0 (rhsOf e5')], .no⟩, ⟨23, [], .as (rhsOf e1')⟩] [.sel [0, 14, 17]] (And.intro (show decide ((↑q : Int) > (↑t : Int)) = true from (by rw [decide_eq_true_iff]; omega)) (And.intro e1' (And.intro e1' (And.intro (show (0 : Int) ≤ (↑k : Int) ∧ (↑k : Int) < (↑d.length : Int) from (by omega)) (And.intro (show 2 ≤ (List.drop (0 + (↑k : Int).toNat * 2) (flatA encT d)).length from (drop_le0 (n := 2) at2 (by simp))) (And.intro e2' (And.intro (show (0 : Int) ≤ (↑q : Int) ∧ (↑q : Int) < (↑d.length : Int) from (by omega)) (And.intro (show 2 ≤ (List.drop (0 + (↑q : Int).toNat * 2) (flatA encT d)).length from (drop_le0 (n := 2) at1 (by simp))) (And.intro e3' (And.intro (show (0 : Int) ≤ (↑q : Int) ∧ (↑q : Int) < (↑d.length : Int) from (by omega)) (And.intro (show 0 + (↑q : Int).toNat * 2 + 2 ≤ (flatA encT d).length from (by ((try intro h); simp_all; omega))) (And.intro (congrArg some e4') (And.intro (show (0 : Int) ≤ (↑k : Int) ∧ (↑k : Int) < (↑d.length : Int) from (by omega)) (And.intro (show 0 + (↑k : Int).toNat * 2 + 2 ≤ (flatA encT (d.set q y)).length from (by ((try intro h); simp_all; omega))) (And.intro (congrArg some e5') e1')))))))))))))))
theorem e3_end (N : Nat) (d : List TE) (t : Nat) : GoV Tryd.prog 1 (loopB Tryd.f67 3) (isX (.exit 6) (stOf 220 [] [.row 31 (flatA encT d)])) (e3S N d t t) := by
  unfold e3S
  exact g_x [⟨3, [], .br false .no⟩] [.sel []] (show decide ((↑t : Int) > (↑t : Int)) = false from (by rw [decide_eq_false_iff_not]; omega))
theorem getD_app1 (A : List TE) (x : TE) (B : List TE) : (A ++ x :: B).getD A.length tD = x := getD_app_mid A x B tD
theorem getD_app2 (A : List TE) (x : TE) (Y B : List TE) (i : Nat) (hi : i < Y.length) : (A ++ x :: (Y ++ B)).getD (A.length + 1 + i) tD = Y.getD i tD := by
  rw [List.getD_eq_getElem?_getD, List.getElem?_append_right (by omega), show A.length + 1 + i - A.length = i + 1 by omega, List.getElem?_cons_succ, List.getElem?_append_left hi, ← List.getD_eq_getElem?_getD]
/-- one element on the left -/
theorem sym_1 (A : List TE) (x : TE) (Y B : List TE) (a m b N : Nat) (ha : a = A.length) (hm : m = a + 1) (hb : b = m + Y.length) (hN : N = b + B.length) (hd : N ≤ 1000) (hy : 0 < Y.length) (hs : Srt Y) (hD : Dst (x :: Y)) : CallsV Tryd.prog 67 [.sl 0 0 N 2, .int .i64 (a : Int), .int .i64 (m : Int), .int .i64 (b : Int), soV] [.row 31 (flatA encT (A ++ x :: (Y ++ B)))] (fun av H' => av = .tuple [] ∧ H' = [.row 31 (flatA encT (A ++ (sortR (x :: Y) ++ B)))]) := by
  refine callsG_at Tryd.func67 (by kernel_rfl) ?_
  have hlen : (A ++ x :: (Y ++ B)).length = N := by simp; omega
  have lo := ha_loop N (A ++ x :: (Y ++ B)) a m b m b hlen hd (Nat.le_refl _) (by omega) (Nat.le_refl _) (by omega) (by omega)
  obtain ⟨s1, s2, s3, s4⟩ := bsF_spec (haP (A ++ x :: (Y ++ B)) a) m b (b - m) m b (Nat.le_refl _) (Nat.le_refl _) (by omega) (Nat.le_refl _) (by omega) (by omega)
  generalize bsF (haP (A ++ x :: (Y ++ B)) a) m b = t at *
  have hx : (A ++ x :: (Y ++ B)).getD a tD = x := by rw [ha]; exact getD_app1 _ _ _
  have one := one_left hs hD (t - m) (by omega) (fun h0 => by
    have := s3 (by omega)
    unfold haP at this
    rw [hx, show t - 1 = A.length + 1 + (t - m - 1) by omega, getD_app2 A x Y B _ (by omega)] at this
    exact this) (fun h0 => by
    have := s4 (by omega)
    unfold haP at this
    rw [hx, show t = A.length + 1 + (t - m) by omega, getD_app2 A x Y B _ (by omega)] at this
    exact this)
  have hend : mvR A x Y B (t - m) = A ++ (sortR (x :: Y) ++ B) := by
    rw [← one]
    unfold mvR
    simp
  have hL : LoopG Tryd.prog 1 Tryd.f67 1 (.exit 2) (stOf 220 [] [.row 31 (flatA encT (A ++ (sortR (x :: Y) ++ B)))]) (e1S N (A ++ x :: (Y ++ B)) t a) := by
    refine loopG_of (t - m) (fun k => e1S N (mvR A x Y B k) t (a + k)) (by rw [mvR_0]; rfl) (by simp) ?_ ?_
    · intro k hk
      have st := e1_step N (mvR A x Y B k) t (a + k) (by rw [mvR_len]; omega) hd (by omega) (by omega)
      have e := mvR_next A x Y B k (by omega)
      rw [← ha] at e
      rw [e]
      exact st
    · have st := e1_end N (A ++ (sortR (x :: Y) ++ B)) t (by omega) (by omega)
      rw [hend, show a + (t - m) = t - 1 by omega]
      exact st
  have b1 : b ≤ 1000 := by omega
  have e1 : (m : Int) - (a : Int) = 1 := by omega
  generalize A ++ (sortR (x :: Y) ++ B) = d2 at *
  generalize A ++ x :: (Y ++ B) = d at *
  have b2 : t ≤ 1000 := by omega
  have b3 : m ≤ b := by omega
  clear s3 s4 one hend hx ha hm hb hN
  unfold haS haX at lo
  unfold e1S at hL
  have e1' := (congrArg (fun z => AV.int .i64 (IntKind.i64.wrap z)) e1)
  have e2' := lo
  have e3' := hL
  refine g_q [⟨2, [], .as (rhsOf e1')⟩, ⟨9, [.sel [0, 1, 4, 10, 11]], .loop (exOf e2') (endOf e2')⟩, ⟨12, [.sel [0, 10, 13]], .loop (exOf e3') (endOf e3')⟩] [] Exit.ret (stOf 220 [] [Blk.row 31 (flatA encT d2)]) (And.intro e1' (And.intro e2' e3')) ?_
  refine g_f [0] [true] (AV.tuple []) ([Blk.row 31 (flatA encT d2)]) (show ∀ (x : AV), x ∈ flatA encT d2 → noid0 x = true from encT_noid d2) ?_
  exact ⟨rfl, rfl⟩
/-- one element on the right -/
theorem sym_2 (A X : List TE) (y : TE) (B : List TE) (a m b N : Nat) (ha : a = A.length) (hm : m = a + X.length) (hb : b = m + 1) (hN : N = b + B.length) (hd : N ≤ 1000) (hx : 1 < X.length) (hs : Srt X) (hD : Dst (X ++ [y])) : CallsV Tryd.prog 67 [.sl 0 0 N 2, .int .i64 (a : Int), .int .i64 (m : Int), .int .i64 (b : Int), soV] [.row 31 (flatA encT (A ++ (X ++ y :: B)))] (fun av H' => av = .tuple [] ∧ H' = [.row 31 (flatA encT (A ++ (sortR (X ++ [y]) ++ B)))]) := by
  refine callsG_at Tryd.func67 (by kernel_rfl) ?_
  have hlen : (A ++ (X ++ y :: B)).length = N := by simp; omega
  have lo := hb_loop N (A ++ (X ++ y :: B)) m a m a m hlen hd (Nat.le_refl _) (by omega) (Nat.le_refl _) (by omega) (by omega)
  obtain ⟨s1, s2, s3, s4⟩ := bsF_spec (hbP (A ++ (X ++ y :: B)) m) a m (m - a) a m (Nat.le_refl _) (Nat.le_refl _) (by omega) (Nat.le_refl _) (by omega) (by omega)
  generalize bsF (hbP (A ++ (X ++ y :: B)) m) a m = t at *
  have hy : (A ++ (X ++ y :: B)).getD m tD = y := by
    rw [← List.append_assoc, show m = (A ++ X).length by rw [List.length_append]; omega]
    exact getD_app1 _ _ _
  have one := one_right hs hD (t - a) (by omega) (fun h0 => by
    have := s3 (by omega)
    unfold hbP at this
    rw [hy, show t - 1 = A.length + (t - a - 1) by omega, getD_mid A X _ _ (by omega), Bool.not_eq_true'] at this
    exact this) (fun h0 => by
    have := s4 (by omega)
    unfold hbP at this
    rw [hy, show t = A.length + (t - a) by omega, getD_mid A X _ _ (by omega), Bool.not_eq_false'] at this
    exact this)
  have hend : mvR A y X B (t - a) = A ++ (sortR (X ++ [y]) ++ B) := by
    rw [← one]
    unfold mvR
    simp
  have hbeg : mvR A y X B X.length = A ++ (X ++ y :: B) := by
    unfold mvR
    simp
  have hL : LoopG Tryd.prog 1 Tryd.f67 3 (.exit 6) (stOf 220 [] [.row 31 (flatA encT (A ++ (sortR (X ++ [y]) ++ B)))]) (e3S N (A ++ (X ++ y :: B)) t m) := by
    refine loopG_of (m - t) (fun k => e3S N (mvR A y X B (X.length - k)) t (m - k)) (by rw [Nat.sub_zero, hbeg]; rfl) (by simp) ?_ ?_
    · intro k hk
      have st := e3_step N (mvR A y X B (X.length - k)) t (m - k - 1) (by rw [mvR_len]; omega) hd (by omega) (by omega)
      have e := mvR_prev A y X B (X.length - k - 1) (by omega)
      rw [show X.length - k - 1 + 1 = X.length - k by omega, show A.length + (X.length - k - 1) + 1 = m - k - 1 + 1 by omega, show A.length + (X.length - k - 1) = m - k - 1 by omega] at e
      rw [← e, show X.length - k - 1 = X.length - (k + 1) by omega, show m - k - 1 + 1 = m - k by omega, show m - k - 1 = m - (k + 1) by omega] at st
      exact st
    · have st := e3_end N (A ++ (sortR (X ++ [y]) ++ B)) t
      rw [show X.length - (m - t) = t - a by omega, hend, show m - (m - t) = t by omega]
      exact st
  have b1 : b ≤ 1000 := by omega
  have e1 : (b : Int) - (m : Int) = 1 := by omega
  generalize A ++ (sortR (X ++ [y]) ++ B) = d2 at *
  generalize A ++ (X ++ y :: B) = d at *
  have b2 : t ≤ 1000 := by omega
  have b3 : m ≤ b := by omega
  have b4 : a + 1 < m := by omega
  clear s3 s4 one hend hy ha hm hb hN hbeg
  unfold hbS hbX at lo
  unfold e3S at hL
  have e1' := (congrArg (fun z => AV.int .i64 z) (wrap_i64 (e := (↑m : Int) - (↑a : Int)) (by omega) (by omega)))
  have e2' := (congrArg (fun z => AV.int .i64 (IntKind.i64.wrap z)) e1)
  have e3' := lo
  have e4' := hL
  refine g_q [⟨2, [], .as (rhsOf e1')⟩, ⟨4, [], .br false .no⟩, ⟨7, [], .as (rhsOf e2')⟩, ⟨14, [.sel [0, 2, 4, 14, 15]], .loop (exOf e3') (endOf e3')⟩, ⟨17, [.sel [0, 14, 17]], .loop (exOf e4') (endOf e4')⟩] [] Exit.ret (stOf 220 [] [Blk.row 31 (flatA encT d2)]) (And.intro e1' (And.intro (show ((↑m : Int) - (↑a : Int) == (1 : Int)) = false from (by rw [beq_eq_false_iff_ne]; omega)) (And.intro e2' (And.intro e3' e4')))) ?_
  refine g_f [0] [true] (AV.tuple []) ([Blk.row 31 (flatA encT d2)]) (show ∀ (x : AV), x ∈ flatA encT d2 → noid0 x = true from encT_noid d2) ?_
  exact ⟨rfl, rfl⟩
end Go.Proofs.YtjgpojglgfddiaaDoor
namespace Go.Proofs.YtjgpojglgfddiaaDoor
open Go Go.RowKit V
set_option linter.unusedSimpArgs false
set_option linter.unusedVariables false
set_option maxHeartbeats 20000000
theorem sym_goA (d d1 d2 d3 : List TE) (a m b c n p k t e N : Nat) (h1 : a + 1 < m) (h2 : m + 1 < b) (hc : (a + b) / 2 = c) (hn : c + m = n) (hp : n = p + 1) (he : n = t + e) (hk : n = k + b) (hb : b ≤ N) (hd : N ≤ 1000) (hm : c < m) (ht : t ≤ m) (hme : m ≤ e) (hat : a ≤ t) (heb : e ≤ b)
    (lo : LoopG Tryd.prog 1 Tryd.f67 4 (.exit 8) (hcX N d a m b c n p t) (hcS N d a m b c n p k c))
    (q1 : (t < m ∧ m < e ∧ CallsV Tryd.prog 75 [.sl 0 0 N 2, .int .i64 (t : Int), .int .i64 (m : Int), .int .i64 (e : Int), soV] [.row 31 (flatA encT d)] (fun av H' => av = .tuple [] ∧ H' = [.row 31 (flatA encT d1)])) ∨ ((m ≤ t ∨ e ≤ m) ∧ d = d1))
    (q2 : (a < t ∧ t < c ∧ CallsV Tryd.prog 67 [.sl 0 0 N 2, .int .i64 (a : Int), .int .i64 (t : Int), .int .i64 (c : Int), soV] [.row 31 (flatA encT d1)] (fun av H' => av = .tuple [] ∧ H' = [.row 31 (flatA encT d2)])) ∨ ((t ≤ a ∨ c ≤ t) ∧ d1 = d2))
    (q3 : (c < e ∧ e < b ∧ CallsV Tryd.prog 67 [.sl 0 0 N 2, .int .i64 (c : Int), .int .i64 (e : Int), .int .i64 (b : Int), soV] [.row 31 (flatA encT d2)] (fun av H' => av = .tuple [] ∧ H' = [.row 31 (flatA encT d3)])) ∨ ((e ≤ c ∨ b ≤ e) ∧ d2 = d3)) :
    CallsV Tryd.prog 67 [.sl 0 0 N 2, .int .i64 (a : Int), .int .i64 (m : Int), .int .i64 (b : Int), soV] [.row 31 (flatA encT d)] (fun av H' => av = .tuple [] ∧ H' = [.row 31 (flatA encT d3)]) := by
  refine callsG_at Tryd.func67 (by kernel_rfl) ?_
  have hv := halve a b
  rw [hc] at hv
  have e1 : (c : Int) + (m : Int) = (n : Int) := by omega
  have e2 : (n : Int) - (b : Int) = (k : Int) := by omega
  have e3 : (n : Int) - 1 = (p : Int) := by omega
  have e4 : (n : Int) - (t : Int) = (e : Int) := by omega
  have b1 : b ≤ 1000 := by omega
  have b2 : n ≤ 2000 := by omega
  have b3 : c ≤ 1000 := by omega
  have b4 : c + c ≤ a + b := by omega
  have b5 : a + b ≤ c + c + 1 := by omega
  clear hc
  unfold hcS hcX at lo
  rcases q1 with ⟨p1a, p1b, q1⟩ | ⟨p1a, p1b⟩
  · skip
    rcases q2 with ⟨p2a, p2b, q2⟩ | ⟨p2a, p2b⟩
    · skip
      rcases q3 with ⟨p3a, p3b, q3⟩ | ⟨p3a, p3b⟩
      · skip
        have e1' := (congrArg (fun z => AV.int .i64 z) (wrap_i64 (e := (↑m : Int) - (↑a : Int)) (by omega) (by omega)))
        have e2' := (congrArg (fun z => AV.int .i64 z) (wrap_i64 (e := (↑b : Int) - (↑m : Int)) (by omega) (by omega)))
        have e3' := (congrArg (fun z => AV.int .i64 z) (wrap_i64 (e := (↑a : Int) + (↑b : Int)) (by omega) (by omega)))
        have e4' := (congrArg (fun z => AV.int .u64 z) (wrap_u64 (e := (↑a : Int) + (↑b : Int)) (by omega) (by omega)))
        have e5' := (congrArg (fun z => AV.int .u64 z) hv)
        have e6' := (congrArg (fun z => AV.int .i64 z) (wrap_i64 (e := (↑c : Int)) (by omega) (by omega)))
        have e7' := (Eq.trans (congrArg (fun z => AV.int .i64 (IntKind.i64.wrap z)) e1) (congrArg (fun z => AV.int .i64 z) (wrap_i64 (e := (↑n : Int)) (by omega) (by omega))))
        have e8' := (Eq.trans (congrArg (fun z => AV.int .i64 (IntKind.i64.wrap z)) e2) (congrArg (fun z => AV.int .i64 z) (wrap_i64 (e := (↑k : Int)) (by omega) (by omega))))
        have e9' := (Eq.trans (congrArg (fun z => AV.int .i64 (IntKind.i64.wrap z)) e3) (congrArg (fun z => AV.int .i64 z) (wrap_i64 (e := (↑p : Int)) (by omega) (by omega))))
        have e10' := lo
        have e11' := (Eq.trans (congrArg (fun z => AV.int .i64 (IntKind.i64.wrap z)) e4) (congrArg (fun z => AV.int .i64 z) (wrap_i64 (e := (↑e : Int)) (by omega) (by omega))))
        have e12' := q1
        have e13' := q2
        have e14' := q3
        refine g_q [⟨2, [], .as (rhsOf e1')⟩, ⟨4, [], .br false .no⟩, ⟨7, [], .as (rhsOf e2')⟩, ⟨9, [], .br false .no⟩, ⟨12, [], .as (rhsOf e3')⟩, ⟨13, [], .as (rhsOf e4')⟩, ⟨14, [], .as (rhsOf e5')⟩, ⟨15, [], .as (rhsOf e6')⟩, ⟨19, [], .as (rhsOf e7')⟩, ⟨26, [], .br true .no⟩, ⟨29, [], .as (rhsOf e8')⟩, ⟨34, [], .as (rhsOf e9')⟩, ⟨36, [.sel [0, 1, 2, 3, 4, 18, 19, 20, 21, 22]], .loop (exOf e10') (endOf e10')⟩, ⟨39, [], .as (rhsOf e11')⟩, ⟨45, [.tm 181 (.bool true)], .no⟩, ⟨49, [], .br true .no⟩, ⟨55, [], .callS [0] [true] (avOf e12') (blOf e12') [true]⟩, ⟨60, [.tm 195 (.bool true)], .no⟩, ⟨64, [], .br true .no⟩, ⟨70, [], .callS [0] [true] (avOf e13') (blOf e13') [true]⟩, ⟨75, [.tm 209 (.bool true)], .no⟩, ⟨79, [], .br true .no⟩, ⟨85, [], .callS [0] [true] (avOf e14') (blOf e14') [true]⟩] [.sel []] Exit.normal (stOf 220 [] [Blk.row 31 (flatA encT d3)]) (And.intro e1' (And.intro (show ((↑m : Int) - (↑a : Int) == (1 : Int)) = false from (by rw [beq_eq_false_iff_ne]; omega)) (And.intro e2' (And.intro (show ((↑b : Int) - (↑m : Int) == (1 : Int)) = false from (by rw [beq_eq_false_iff_ne]; omega)) (And.intro e3' (And.intro e4' (And.intro (show (0 : Int) ≤ (1 : Int) from (by omega)) (And.intro e5' (And.intro e6' (And.intro e7' (And.intro (show decide ((↑m : Int) > (↑c : Int)) = true from (by rw [decide_eq_true_iff]; omega)) (And.intro e8' (And.intro e9' (And.intro e10' (And.intro e11' (And.intro (congrArg AV.bool (show decide ((↑t : Int) < (↑m : Int)) = true from (by rw [decide_eq_true_iff]; omega))) (And.intro (show (bif true then decide ((↑m : Int) < (↑e : Int)) else false) = true from (by simp_all; done)) (And.intro (show ∀ (x : AV), x ∈ flatA encT d → noid0 x = true from encT_noid d) (And.intro (show ∀ (x : AV), x ∈ flatA encT d1 → noid0 x = true from encT_noid d1) (And.intro e12' (And.intro (congrArg AV.bool (show decide ((↑a : Int) < (↑t : Int)) = true from (by rw [decide_eq_true_iff]; omega))) (And.intro (show (bif true then decide ((↑t : Int) < (↑c : Int)) else false) = true from (by simp_all; done)) (And.intro (show ∀ (x : AV), x ∈ flatA encT d1 → noid0 x = true from encT_noid d1) (And.intro (show ∀ (x : AV), x ∈ flatA encT d2 → noid0 x = true from encT_noid d2) (And.intro e13' (And.intro (congrArg AV.bool (show decide ((↑c : Int) < (↑e : Int)) = true from (by rw [decide_eq_true_iff]; omega))) (And.intro (show (bif true then decide ((↑e : Int) < (↑b : Int)) else false) = true from (by simp_all; done)) (And.intro (show ∀ (x : AV), x ∈ flatA encT d2 → noid0 x = true from encT_noid d2) (And.intro (show ∀ (x : AV), x ∈ flatA encT d3 → noid0 x = true from encT_noid d3) e14'))))))))))))))))))))))))))))) ?_
        refine g_finn ?_
        refine g_f [0] [true] (AV.tuple []) ([Blk.row 31 (flatA encT d3)]) (show ∀ (x : AV), x ∈ flatA encT d3 → noid0 x = true from encT_noid d3) ?_
        exact ⟨rfl, rfl⟩
      · subst p3b
        rcases p3a with p3a | p3a
        · skip
          omega
        · skip
          have e1' := (congrArg (fun z => AV.int .i64 z) (wrap_i64 (e := (↑m : Int) - (↑a : Int)) (by omega) (by omega)))
          have e2' := (congrArg (fun z => AV.int .i64 z) (wrap_i64 (e := (↑b : Int) - (↑m : Int)) (by omega) (by omega)))
          have e3' := (congrArg (fun z => AV.int .i64 z) (wrap_i64 (e := (↑a : Int) + (↑b : Int)) (by omega) (by omega)))
          have e4' := (congrArg (fun z => AV.int .u64 z) (wrap_u64 (e := (↑a : Int) + (↑b : Int)) (by omega) (by omega)))
          have e5' := (congrArg (fun z => AV.int .u64 z) hv)
          have e6' := (congrArg (fun z => AV.int .i64 z) (wrap_i64 (e := (↑c : Int)) (by omega) (by omega)))
          have e7' := (Eq.trans (congrArg (fun z => AV.int .i64 (IntKind.i64.wrap z)) e1) (congrArg (fun z => AV.int .i64 z) (wrap_i64 (e := (↑n : Int)) (by omega) (by omega))))
          have e8' := (Eq.trans (congrArg (fun z => AV.int .i64 (IntKind.i64.wrap z)) e2) (congrArg (fun z => AV.int .i64 z) (wrap_i64 (e := (↑k : Int)) (by omega) (by omega))))
          have e9' := (Eq.trans (congrArg (fun z => AV.int .i64 (IntKind.i64.wrap z)) e3) (congrArg (fun z => AV.int .i64 z) (wrap_i64 (e := (↑p : Int)) (by omega) (by omega))))
          have e10' := lo
          have e11' := (Eq.trans (congrArg (fun z => AV.int .i64 (IntKind.i64.wrap z)) e4) (congrArg (fun z => AV.int .i64 z) (wrap_i64 (e := (↑e : Int)) (by omega) (by omega))))
          have e12' := q1
          have e13' := q2
          refine g_q [⟨2, [], .as (rhsOf e1')⟩, ⟨4, [], .br false .no⟩, ⟨7, [], .as (rhsOf e2')⟩, ⟨9, [], .br false .no⟩, ⟨12, [], .as (rhsOf e3')⟩, ⟨13, [], .as (rhsOf e4')⟩, ⟨14, [], .as (rhsOf e5')⟩, ⟨15, [], .as (rhsOf e6')⟩, ⟨19, [], .as (rhsOf e7')⟩, ⟨26, [], .br true .no⟩, ⟨29, [], .as (rhsOf e8')⟩, ⟨34, [], .as (rhsOf e9')⟩, ⟨36, [.sel [0, 1, 2, 3, 4, 18, 19, 20, 21, 22]], .loop (exOf e10') (endOf e10')⟩, ⟨39, [], .as (rhsOf e11')⟩, ⟨45, [.tm 181 (.bool true)], .no⟩, ⟨49, [], .br true .no⟩, ⟨55, [], .callS [0] [true] (avOf e12') (blOf e12') [true]⟩, ⟨60, [.tm 195 (.bool true)], .no⟩, ⟨64, [], .br true .no⟩, ⟨70, [], .callS [0] [true] (avOf e13') (blOf e13') [true]⟩, ⟨75, [.tm 209 (.bool true)], .no⟩, ⟨79, [], .br false .no⟩] [.sel []] Exit.normal (stOf 220 [] [Blk.row 31 (flatA encT d2)]) (And.intro e1' (And.intro (show ((↑m : Int) - (↑a : Int) == (1 : Int)) = false from (by rw [beq_eq_false_iff_ne]; omega)) (And.intro e2' (And.intro (show ((↑b : Int) - (↑m : Int) == (1 : Int)) = false from (by rw [beq_eq_false_iff_ne]; omega)) (And.intro e3' (And.intro e4' (And.intro (show (0 : Int) ≤ (1 : Int) from (by omega)) (And.intro e5' (And.intro e6' (And.intro e7' (And.intro (show decide ((↑m : Int) > (↑c : Int)) = true from (by rw [decide_eq_true_iff]; omega)) (And.intro e8' (And.intro e9' (And.intro e10' (And.intro e11' (And.intro (congrArg AV.bool (show decide ((↑t : Int) < (↑m : Int)) = true from (by rw [decide_eq_true_iff]; omega))) (And.intro (show (bif true then decide ((↑m : Int) < (↑e : Int)) else false) = true from (by simp_all; done)) (And.intro (show ∀ (x : AV), x ∈ flatA encT d → noid0 x = true from encT_noid d) (And.intro (show ∀ (x : AV), x ∈ flatA encT d1 → noid0 x = true from encT_noid d1) (And.intro e12' (And.intro (congrArg AV.bool (show decide ((↑a : Int) < (↑t : Int)) = true from (by rw [decide_eq_true_iff]; omega))) (And.intro (show (bif true then decide ((↑t : Int) < (↑c : Int)) else false) = true from (by simp_all; done)) (And.intro (show ∀ (x : AV), x ∈ flatA encT d1 → noid0 x = true from encT_noid d1) (And.intro (show ∀ (x : AV), x ∈ flatA encT d2 → noid0 x = true from encT_noid d2) (And.intro e13' (And.intro (congrArg AV.bool (show decide ((↑c : Int) < (↑e : Int)) = true from (by rw [decide_eq_true_iff]; omega))) (show (bif true then decide ((↑e : Int) < (↑b : Int)) else false) = false from (by simp_all; done)))))))))))))))))))))))))))) ?_
          refine g_finn ?_
          refine g_f [0] [true] (AV.tuple []) ([Blk.row 31 (flatA encT d2)]) (show ∀ (x : AV), x ∈ flatA encT d2 → noid0 x = true from encT_noid d2) ?_
          exact ⟨rfl, rfl⟩
    · subst p2b
      rcases p2a with p2a | p2a
      · skip
        rcases q3 with ⟨p3a, p3b, q3⟩ | ⟨p3a, p3b⟩
        · skip
          omega
        · subst p3b
          rcases p3a with p3a | p3a
          · skip
            omega
          · skip
            have e1' := (congrArg (fun z => AV.int .i64 z) (wrap_i64 (e := (↑m : Int) - (↑a : Int)) (by omega) (by omega)))
            have e2' := (congrArg (fun z => AV.int .i64 z) (wrap_i64 (e := (↑b : Int) - (↑m : Int)) (by omega) (by omega)))
            have e3' := (congrArg (fun z => AV.int .i64 z) (wrap_i64 (e := (↑a : Int) + (↑b : Int)) (by omega) (by omega)))
            have e4' := (congrArg (fun z => AV.int .u64 z) (wrap_u64 (e := (↑a : Int) + (↑b : Int)) (by omega) (by omega)))
            have e5' := (congrArg (fun z => AV.int .u64 z) hv)
            have e6' := (congrArg (fun z => AV.int .i64 z) (wrap_i64 (e := (↑c : Int)) (by omega) (by omega)))
            have e7' := (Eq.trans (congrArg (fun z => AV.int .i64 (IntKind.i64.wrap z)) e1) (congrArg (fun z => AV.int .i64 z) (wrap_i64 (e := (↑n : Int)) (by omega) (by omega))))
            have e8' := (Eq.trans (congrArg (fun z => AV.int .i64 (IntKind.i64.wrap z)) e2) (congrArg (fun z => AV.int .i64 z) (wrap_i64 (e := (↑k : Int)) (by omega) (by omega))))
            have e9' := (Eq.trans (congrArg (fun z => AV.int .i64 (IntKind.i64.wrap z)) e3) (congrArg (fun z => AV.int .i64 z) (wrap_i64 (e := (↑p : Int)) (by omega) (by omega))))
            have e10' := lo
            have e11' := (Eq.trans (congrArg (fun z => AV.int .i64 (IntKind.i64.wrap z)) e4) (congrArg (fun z => AV.int .i64 z) (wrap_i64 (e := (↑e : Int)) (by omega) (by omega))))
            have e12' := q1
            refine g_q [⟨2, [], .as (rhsOf e1')⟩, ⟨4, [], .br false .no⟩, ⟨7, [], .as (rhsOf e2')⟩, ⟨9, [], .br false .no⟩, ⟨12, [], .as (rhsOf e3')⟩, ⟨13, [], .as (rhsOf e4')⟩, ⟨14, [], .as (rhsOf e5')⟩, ⟨15, [], .as (rhsOf e6')⟩, ⟨19, [], .as (rhsOf e7')⟩, ⟨26, [], .br true .no⟩, ⟨29, [], .as (rhsOf e8')⟩, ⟨34, [], .as (rhsOf e9')⟩, ⟨36, [.sel [0, 1, 2, 3, 4, 18, 19, 20, 21, 22]], .loop (exOf e10') (endOf e10')⟩, ⟨39, [], .as (rhsOf e11')⟩, ⟨45, [.tm 181 (.bool true)], .no⟩, ⟨49, [], .br true .no⟩, ⟨55, [], .callS [0] [true] (avOf e12') (blOf e12') [true]⟩, ⟨60, [.tm 195 (.bool false)], .no⟩, ⟨69, [.tm 209 (.bool true)], .no⟩, ⟨73, [], .br false .no⟩] [.sel []] Exit.normal (stOf 220 [] [Blk.row 31 (flatA encT d1)]) (And.intro e1' (And.intro (show ((↑m : Int) - (↑a : Int) == (1 : Int)) = false from (by rw [beq_eq_false_iff_ne]; omega)) (And.intro e2' (And.intro (show ((↑b : Int) - (↑m : Int) == (1 : Int)) = false from (by rw [beq_eq_false_iff_ne]; omega)) (And.intro e3' (And.intro e4' (And.intro (show (0 : Int) ≤ (1 : Int) from (by omega)) (And.intro e5' (And.intro e6' (And.intro e7' (And.intro (show decide ((↑m : Int) > (↑c : Int)) = true from (by rw [decide_eq_true_iff]; omega)) (And.intro e8' (And.intro e9' (And.intro e10' (And.intro e11' (And.intro (congrArg AV.bool (show decide ((↑t : Int) < (↑m : Int)) = true from (by rw [decide_eq_true_iff]; omega))) (And.intro (show (bif true then decide ((↑m : Int) < (↑e : Int)) else false) = true from (by simp_all; done)) (And.intro (show ∀ (x : AV), x ∈ flatA encT d → noid0 x = true from encT_noid d) (And.intro (show ∀ (x : AV), x ∈ flatA encT d1 → noid0 x = true from encT_noid d1) (And.intro e12' (And.intro (congrArg AV.bool (show decide ((↑a : Int) < (↑t : Int)) = false from (by rw [decide_eq_false_iff_not]; omega))) (And.intro (show false = true → false = true from (fun h => h)) (And.intro (congrArg AV.bool (show decide ((↑c : Int) < (↑e : Int)) = true from (by rw [decide_eq_true_iff]; omega))) (show (bif true then decide ((↑e : Int) < (↑b : Int)) else false) = false from (by simp_all; done))))))))))))))))))))))))) ?_
            refine g_finn ?_
            refine g_f [0] [true] (AV.tuple []) ([Blk.row 31 (flatA encT d1)]) (show ∀ (x : AV), x ∈ flatA encT d1 → noid0 x = true from encT_noid d1) ?_
            exact ⟨rfl, rfl⟩
      · skip
        omega
  · subst p1b
    rcases p1a with p1a | p1a
    · skip
      omega
    · skip
      rcases q2 with ⟨p2a, p2b, q2⟩ | ⟨p2a, p2b⟩
      · skip
        omega
      · subst p2b
        rcases p2a with p2a | p2a
        · skip
          omega
        · skip
          rcases q3 with ⟨p3a, p3b, q3⟩ | ⟨p3a, p3b⟩
          · skip
            have e1' := (congrArg (fun z => AV.int .i64 z) (wrap_i64 (e := (↑m : Int) - (↑a : Int)) (by omega) (by omega)))
            have e2' := (congrArg (fun z => AV.int .i64 z) (wrap_i64 (e := (↑b : Int) - (↑m : Int)) (by omega) (by omega)))
            have e3' := (congrArg (fun z => AV.int .i64 z) (wrap_i64 (e := (↑a : Int) + (↑b : Int)) (by omega) (by omega)))
            have e4' := (congrArg (fun z => AV.int .u64 z) (wrap_u64 (e := (↑a : Int) + (↑b : Int)) (by omega) (by omega)))
            have e5' := (congrArg (fun z => AV.int .u64 z) hv)
            have e6' := (congrArg (fun z => AV.int .i64 z) (wrap_i64 (e := (↑c : Int)) (by omega) (by omega)))
            have e7' := (Eq.trans (congrArg (fun z => AV.int .i64 (IntKind.i64.wrap z)) e1) (congrArg (fun z => AV.int .i64 z) (wrap_i64 (e := (↑n : Int)) (by omega) (by omega))))
            have e8' := (Eq.trans (congrArg (fun z => AV.int .i64 (IntKind.i64.wrap z)) e2) (congrArg (fun z => AV.int .i64 z) (wrap_i64 (e := (↑k : Int)) (by omega) (by omega))))
            have e9' := (Eq.trans (congrArg (fun z => AV.int .i64 (IntKind.i64.wrap z)) e3) (congrArg (fun z => AV.int .i64 z) (wrap_i64 (e := (↑p : Int)) (by omega) (by omega))))
            have e10' := lo
            have e11' := (Eq.trans (congrArg (fun z => AV.int .i64 (IntKind.i64.wrap z)) e4) (congrArg (fun z => AV.int .i64 z) (wrap_i64 (e := (↑e : Int)) (by omega) (by omega))))
            have e12' := q3
            refine g_q [⟨2, [], .as (rhsOf e1')⟩, ⟨4, [], .br false .no⟩, ⟨7, [], .as (rhsOf e2')⟩, ⟨9, [], .br false .no⟩, ⟨12, [], .as (rhsOf e3')⟩, ⟨13, [], .as (rhsOf e4')⟩, ⟨14, [], .as (rhsOf e5')⟩, ⟨15, [], .as (rhsOf e6')⟩, ⟨19, [], .as (rhsOf e7')⟩, ⟨26, [], .br true .no⟩, ⟨29, [], .as (rhsOf e8')⟩, ⟨34, [], .as (rhsOf e9')⟩, ⟨36, [.sel [0, 1, 2, 3, 4, 18, 19, 20, 21, 22]], .loop (exOf e10') (endOf e10')⟩, ⟨39, [], .as (rhsOf e11')⟩, ⟨45, [.tm 181 (.bool true)], .no⟩, ⟨49, [], .br false .no⟩, ⟨54, [.tm 195 (.bool true)], .no⟩, ⟨58, [], .br false .no⟩, ⟨63, [.tm 209 (.bool true)], .no⟩, ⟨67, [], .br true .no⟩, ⟨73, [], .callS [0] [true] (avOf e12') (blOf e12') [true]⟩] [.sel []] Exit.normal (stOf 220 [] [Blk.row 31 (flatA encT d3)]) (And.intro e1' (And.intro (show ((↑m : Int) - (↑a : Int) == (1 : Int)) = false from (by rw [beq_eq_false_iff_ne]; omega)) (And.intro e2' (And.intro (show ((↑b : Int) - (↑m : Int) == (1 : Int)) = false from (by rw [beq_eq_false_iff_ne]; omega)) (And.intro e3' (And.intro e4' (And.intro (show (0 : Int) ≤ (1 : Int) from (by omega)) (And.intro e5' (And.intro e6' (And.intro e7' (And.intro (show decide ((↑m : Int) > (↑c : Int)) = true from (by rw [decide_eq_true_iff]; omega)) (And.intro e8' (And.intro e9' (And.intro e10' (And.intro e11' (And.intro (congrArg AV.bool (show decide ((↑t : Int) < (↑m : Int)) = true from (by rw [decide_eq_true_iff]; omega))) (And.intro (show (bif true then decide ((↑m : Int) < (↑e : Int)) else false) = false from (by simp_all; done)) (And.intro (congrArg AV.bool (show decide ((↑a : Int) < (↑t : Int)) = true from (by rw [decide_eq_true_iff]; omega))) (And.intro (show (bif true then decide ((↑t : Int) < (↑c : Int)) else false) = false from (by simp_all; done)) (And.intro (congrArg AV.bool (show decide ((↑c : Int) < (↑e : Int)) = true from (by rw [decide_eq_true_iff]; omega))) (And.intro (show (bif true then decide ((↑e : Int) < (↑b : Int)) else false) = true from (by simp_all; done)) (And.intro (show ∀ (x : AV), x ∈ flatA encT d → noid0 x = true from encT_noid d) (And.intro (show ∀ (x : AV), x ∈ flatA encT d3 → noid0 x = true from encT_noid d3) e12'))))))))))))))))))))))) ?_
            refine g_finn ?_
            refine g_f [0] [true] (AV.tuple []) ([Blk.row 31 (flatA encT d3)]) (show ∀ (x : AV), x ∈ flatA encT d3 → noid0 x = true from encT_noid d3) ?_
            exact ⟨rfl, rfl⟩
          · subst p3b
            rcases p3a with p3a | p3a
            · skip
              omega
            · skip
              omega
theorem sym_goB (d d1 d2 d3 : List TE) (a m b c n p k t e N : Nat) (h1 : a + 1 < m) (h2 : m + 1 < b) (hc : (a + b) / 2 = c) (hn : c + m = n) (hp : n = p + 1) (he : n = t + e) (hb : b ≤ N) (hd : N ≤ 1000) (hm : m ≤ c) (ht : t ≤ m) (hme : m ≤ e) (hat : a ≤ t) (heb : e ≤ b)
    (lo : LoopG Tryd.prog 1 Tryd.f67 4 (.exit 8) (hcX N d a m b c n p t) (hcS N d a m b c n p a m))
    (q1 : (t < m ∧ m < e ∧ CallsV Tryd.prog 75 [.sl 0 0 N 2, .int .i64 (t : Int), .int .i64 (m : Int), .int .i64 (e : Int), soV] [.row 31 (flatA encT d)] (fun av H' => av = .tuple [] ∧ H' = [.row 31 (flatA encT d1)])) ∨ ((m ≤ t ∨ e ≤ m) ∧ d = d1))
    (q2 : (a < t ∧ t < c ∧ CallsV Tryd.prog 67 [.sl 0 0 N 2, .int .i64 (a : Int), .int .i64 (t : Int), .int .i64 (c : Int), soV] [.row 31 (flatA encT d1)] (fun av H' => av = .tuple [] ∧ H' = [.row 31 (flatA encT d2)])) ∨ ((t ≤ a ∨ c ≤ t) ∧ d1 = d2))
    (q3 : (c < e ∧ e < b ∧ CallsV Tryd.prog 67 [.sl 0 0 N 2, .int .i64 (c : Int), .int .i64 (e : Int), .int .i64 (b : Int), soV] [.row 31 (flatA encT d2)] (fun av H' => av = .tuple [] ∧ H' = [.row 31 (flatA encT d3)])) ∨ ((e ≤ c ∨ b ≤ e) ∧ d2 = d3)) :
    CallsV Tryd.prog 67 [.sl 0 0 N 2, .int .i64 (a : Int), .int .i64 (m : Int), .int .i64 (b : Int), soV] [.row 31 (flatA encT d)] (fun av H' => av = .tuple [] ∧ H' = [.row 31 (flatA encT d3)]) := by
  refine callsG_at Tryd.func67 (by kernel_rfl) ?_
  have hv := halve a b
  rw [hc] at hv
  have e1 : (c : Int) + (m : Int) = (n : Int) := by omega
  have e3 : (n : Int) - 1 = (p : Int) := by omega
  have e4 : (n : Int) - (t : Int) = (e : Int) := by omega
  have b1 : b ≤ 1000 := by omega
  have b2 : n ≤ 2000 := by omega
  have b3 : c ≤ 1000 := by omega
  have b4 : c + c ≤ a + b := by omega
  have b5 : a + b ≤ c + c + 1 := by omega
  clear hc
  unfold hcS hcX at lo
  rcases q1 with ⟨p1a, p1b, q1⟩ | ⟨p1a, p1b⟩
  · skip
    rcases q2 with ⟨p2a, p2b, q2⟩ | ⟨p2a, p2b⟩
    · skip
      rcases q3 with ⟨p3a, p3b, q3⟩ | ⟨p3a, p3b⟩
      · skip
        have e1' := (congrArg (fun z => AV.int .i64 z) (wrap_i64 (e := (↑m : Int) - (↑a : Int)) (by omega) (by omega)))
        have e2' := (congrArg (fun z => AV.int .i64 z) (wrap_i64 (e := (↑b : Int) - (↑m : Int)) (by omega) (by omega)))
        have e3' := (congrArg (fun z => AV.int .i64 z) (wrap_i64 (e := (↑a : Int) + (↑b : Int)) (by omega) (by omega)))
        have e4' := (congrArg (fun z => AV.int .u64 z) (wrap_u64 (e := (↑a : Int) + (↑b : Int)) (by omega) (by omega)))
        have e5' := (congrArg (fun z => AV.int .u64 z) hv)
        have e6' := (congrArg (fun z => AV.int .i64 z) (wrap_i64 (e := (↑c : Int)) (by omega) (by omega)))
        have e7' := (Eq.trans (congrArg (fun z => AV.int .i64 (IntKind.i64.wrap z)) e1) (congrArg (fun z => AV.int .i64 z) (wrap_i64 (e := (↑n : Int)) (by omega) (by omega))))
        have e8' := (Eq.trans (congrArg (fun z => AV.int .i64 (IntKind.i64.wrap z)) e3) (congrArg (fun z => AV.int .i64 z) (wrap_i64 (e := (↑p : Int)) (by omega) (by omega))))
        have e9' := lo
        have e10' := (Eq.trans (congrArg (fun z => AV.int .i64 (IntKind.i64.wrap z)) e4) (congrArg (fun z => AV.int .i64 z) (wrap_i64 (e := (↑e : Int)) (by omega) (by omega))))
        have e11' := q1
        have e12' := q2
        have e13' := q3
        refine g_q [⟨2, [], .as (rhsOf e1')⟩, ⟨4, [], .br false .no⟩, ⟨7, [], .as (rhsOf e2')⟩, ⟨9, [], .br false .no⟩, ⟨12, [], .as (rhsOf e3')⟩, ⟨13, [], .as (rhsOf e4')⟩, ⟨14, [], .as (rhsOf e5')⟩, ⟨15, [], .as (rhsOf e6')⟩, ⟨19, [], .as (rhsOf e7')⟩, ⟨26, [], .br false .no⟩, ⟨32, [], .as (rhsOf e8')⟩, ⟨34, [.sel [0, 1, 2, 3, 4, 18, 19, 20, 21, 22]], .loop (exOf e9') (endOf e9')⟩, ⟨37, [], .as (rhsOf e10')⟩, ⟨43, [.tm 181 (.bool true)], .no⟩, ⟨47, [], .br true .no⟩, ⟨53, [], .callS [0] [true] (avOf e11') (blOf e11') [true]⟩, ⟨58, [.tm 195 (.bool true)], .no⟩, ⟨62, [], .br true .no⟩, ⟨68, [], .callS [0] [true] (avOf e12') (blOf e12') [true]⟩, ⟨73, [.tm 209 (.bool true)], .no⟩, ⟨77, [], .br true .no⟩, ⟨83, [], .callS [0] [true] (avOf e13') (blOf e13') [true]⟩] [.sel []] Exit.normal (stOf 220 [] [Blk.row 31 (flatA encT d3)]) (And.intro e1' (And.intro (show ((↑m : Int) - (↑a : Int) == (1 : Int)) = false from (by rw [beq_eq_false_iff_ne]; omega)) (And.intro e2' (And.intro (show ((↑b : Int) - (↑m : Int) == (1 : Int)) = false from (by rw [beq_eq_false_iff_ne]; omega)) (And.intro e3' (And.intro e4' (And.intro (show (0 : Int) ≤ (1 : Int) from (by omega)) (And.intro e5' (And.intro e6' (And.intro e7' (And.intro (show decide ((↑m : Int) > (↑c : Int)) = false from (by rw [decide_eq_false_iff_not]; omega)) (And.intro e8' (And.intro e9' (And.intro e10' (And.intro (congrArg AV.bool (show decide ((↑t : Int) < (↑m : Int)) = true from (by rw [decide_eq_true_iff]; omega))) (And.intro (show (bif true then decide ((↑m : Int) < (↑e : Int)) else false) = true from (by simp_all; done)) (And.intro (show ∀ (x : AV), x ∈ flatA encT d → noid0 x = true from encT_noid d) (And.intro (show ∀ (x : AV), x ∈ flatA encT d1 → noid0 x = true from encT_noid d1) (And.intro e11' (And.intro (congrArg AV.bool (show decide ((↑a : Int) < (↑t : Int)) = true from (by rw [decide_eq_true_iff]; omega))) (And.intro (show (bif true then decide ((↑t : Int) < (↑c : Int)) else false) = true from (by simp_all; done)) (And.intro (show ∀ (x : AV), x ∈ flatA encT d1 → noid0 x = true from encT_noid d1) (And.intro (show ∀ (x : AV), x ∈ flatA encT d2 → noid0 x = true from encT_noid d2) (And.intro e12' (And.intro (congrArg AV.bool (show decide ((↑c : Int) < (↑e : Int)) = true from (by rw [decide_eq_true_iff]; omega))) (And.intro (show (bif true then decide ((↑e : Int) < (↑b : Int)) else false) = true from (by simp_all; done)) (And.intro (show ∀ (x : AV), x ∈ flatA encT d2 → noid0 x = true from encT_noid d2) (And.intro (show ∀ (x : AV), x ∈ flatA encT d3 → noid0 x = true from encT_noid d3) e13')))))))))))))))))))))))))))) ?_
        refine g_finn ?_
        refine g_f [0] [true] (AV.tuple []) ([Blk.row 31 (flatA encT d3)]) (show ∀ (x : AV), x ∈ flatA encT d3 → noid0 x = true from encT_noid d3) ?_
        exact ⟨rfl, rfl⟩
      · subst p3b
        rcases p3a with p3a | p3a
        · skip
          omega
        · skip
          omega
    · subst p2b
      rcases p2a with p2a | p2a
      · skip
        rcases q3 with ⟨p3a, p3b, q3⟩ | ⟨p3a, p3b⟩
        · skip
          have e1' := (congrArg (fun z => AV.int .i64 z) (wrap_i64 (e := (↑m : Int) - (↑a : Int)) (by omega) (by omega)))
          have e2' := (congrArg (fun z => AV.int .i64 z) (wrap_i64 (e := (↑b : Int) - (↑m : Int)) (by omega) (by omega)))
          have e3' := (congrArg (fun z => AV.int .i64 z) (wrap_i64 (e := (↑a : Int) + (↑b : Int)) (by omega) (by omega)))
          have e4' := (congrArg (fun z => AV.int .u64 z) (wrap_u64 (e := (↑a : Int) + (↑b : Int)) (by omega) (by omega)))
          have e5' := (congrArg (fun z => AV.int .u64 z) hv)
          have e6' := (congrArg (fun z => AV.int .i64 z) (wrap_i64 (e := (↑c : Int)) (by omega) (by omega)))
          have e7' := (Eq.trans (congrArg (fun z => AV.int .i64 (IntKind.i64.wrap z)) e1) (congrArg (fun z => AV.int .i64 z) (wrap_i64 (e := (↑n : Int)) (by omega) (by omega))))
          have e8' := (Eq.trans (congrArg (fun z => AV.int .i64 (IntKind.i64.wrap z)) e3) (congrArg (fun z => AV.int .i64 z) (wrap_i64 (e := (↑p : Int)) (by omega) (by omega))))
          have e9' := lo
          have e10' := (Eq.trans (congrArg (fun z => AV.int .i64 (IntKind.i64.wrap z)) e4) (congrArg (fun z => AV.int .i64 z) (wrap_i64 (e := (↑e : Int)) (by omega) (by omega))))
          have e11' := q1
          have e12' := q3
          refine g_q [⟨2, [], .as (rhsOf e1')⟩, ⟨4, [], .br false .no⟩, ⟨7, [], .as (rhsOf e2')⟩, ⟨9, [], .br false .no⟩, ⟨12, [], .as (rhsOf e3')⟩, ⟨13, [], .as (rhsOf e4')⟩, ⟨14, [], .as (rhsOf e5')⟩, ⟨15, [], .as (rhsOf e6')⟩, ⟨19, [], .as (rhsOf e7')⟩, ⟨26, [], .br false .no⟩, ⟨32, [], .as (rhsOf e8')⟩, ⟨34, [.sel [0, 1, 2, 3, 4, 18, 19, 20, 21, 22]], .loop (exOf e9') (endOf e9')⟩, ⟨37, [], .as (rhsOf e10')⟩, ⟨43, [.tm 181 (.bool true)], .no⟩, ⟨47, [], .br true .no⟩, ⟨53, [], .callS [0] [true] (avOf e11') (blOf e11') [true]⟩, ⟨58, [.tm 195 (.bool false)], .no⟩, ⟨67, [.tm 209 (.bool true)], .no⟩, ⟨71, [], .br true .no⟩, ⟨77, [], .callS [0] [true] (avOf e12') (blOf e12') [true]⟩] [.sel []] Exit.normal (stOf 220 [] [Blk.row 31 (flatA encT d3)]) (And.intro e1' (And.intro (show ((↑m : Int) - (↑a : Int) == (1 : Int)) = false from (by rw [beq_eq_false_iff_ne]; omega)) (And.intro e2' (And.intro (show ((↑b : Int) - (↑m : Int) == (1 : Int)) = false from (by rw [beq_eq_false_iff_ne]; omega)) (And.intro e3' (And.intro e4' (And.intro (show (0 : Int) ≤ (1 : Int) from (by omega)) (And.intro e5' (And.intro e6' (And.intro e7' (And.intro (show decide ((↑m : Int) > (↑c : Int)) = false from (by rw [decide_eq_false_iff_not]; omega)) (And.intro e8' (And.intro e9' (And.intro e10' (And.intro (congrArg AV.bool (show decide ((↑t : Int) < (↑m : Int)) = true from (by rw [decide_eq_true_iff]; omega))) (And.intro (show (bif true then decide ((↑m : Int) < (↑e : Int)) else false) = true from (by simp_all; done)) (And.intro (show ∀ (x : AV), x ∈ flatA encT d → noid0 x = true from encT_noid d) (And.intro (show ∀ (x : AV), x ∈ flatA encT d1 → noid0 x = true from encT_noid d1) (And.intro e11' (And.intro (congrArg AV.bool (show decide ((↑a : Int) < (↑t : Int)) = false from (by rw [decide_eq_false_iff_not]; omega))) (And.intro (show false = true → false = true from (fun h => h)) (And.intro (congrArg AV.bool (show decide ((↑c : Int) < (↑e : Int)) = true from (by rw [decide_eq_true_iff]; omega))) (And.intro (show (bif true then decide ((↑e : Int) < (↑b : Int)) else false) = true from (by simp_all; done)) (And.intro (show ∀ (x : AV), x ∈ flatA encT d1 → noid0 x = true from encT_noid d1) (And.intro (show ∀ (x : AV), x ∈ flatA encT d3 → noid0 x = true from encT_noid d3) e12'))))))))))))))))))))))))) ?_
          refine g_finn ?_
          refine g_f [0] [true] (AV.tuple []) ([Blk.row 31 (flatA encT d3)]) (show ∀ (x : AV), x ∈ flatA encT d3 → noid0 x = true from encT_noid d3) ?_
          exact ⟨rfl, rfl⟩
        · subst p3b
          rcases p3a with p3a | p3a
          · skip
            omega
          · skip
            have e1' := (congrArg (fun z => AV.int .i64 z) (wrap_i64 (e := (↑m : Int) - (↑a : Int)) (by omega) (by omega)))
            have e2' := (congrArg (fun z => AV.int .i64 z) (wrap_i64 (e := (↑b : Int) - (↑m : Int)) (by omega) (by omega)))
            have e3' := (congrArg (fun z => AV.int .i64 z) (wrap_i64 (e := (↑a : Int) + (↑b : Int)) (by omega) (by omega)))
            have e4' := (congrArg (fun z => AV.int .u64 z) (wrap_u64 (e := (↑a : Int) + (↑b : Int)) (by omega) (by omega)))
            have e5' := (congrArg (fun z => AV.int .u64 z) hv)
            have e6' := (congrArg (fun z => AV.int .i64 z) (wrap_i64 (e := (↑c : Int)) (by omega) (by omega)))
            have e7' := (Eq.trans (congrArg (fun z => AV.int .i64 (IntKind.i64.wrap z)) e1) (congrArg (fun z => AV.int .i64 z) (wrap_i64 (e := (↑n : Int)) (by omega) (by omega))))
            have e8' := (Eq.trans (congrArg (fun z => AV.int .i64 (IntKind.i64.wrap z)) e3) (congrArg (fun z => AV.int .i64 z) (wrap_i64 (e := (↑p : Int)) (by omega) (by omega))))
            have e9' := lo
            have e10' := (Eq.trans (congrArg (fun z => AV.int .i64 (IntKind.i64.wrap z)) e4) (congrArg (fun z => AV.int .i64 z) (wrap_i64 (e := (↑e : Int)) (by omega) (by omega))))
            have e11' := q1
            refine g_q [⟨2, [], .as (rhsOf e1')⟩, ⟨4, [], .br false .no⟩, ⟨7, [], .as (rhsOf e2')⟩, ⟨9, [], .br false .no⟩, ⟨12, [], .as (rhsOf e3')⟩, ⟨13, [], .as (rhsOf e4')⟩, ⟨14, [], .as (rhsOf e5')⟩, ⟨15, [], .as (rhsOf e6')⟩, ⟨19, [], .as (rhsOf e7')⟩, ⟨26, [], .br false .no⟩, ⟨32, [], .as (rhsOf e8')⟩, ⟨34, [.sel [0, 1, 2, 3, 4, 18, 19, 20, 21, 22]], .loop (exOf e9') (endOf e9')⟩, ⟨37, [], .as (rhsOf e10')⟩, ⟨43, [.tm 181 (.bool true)], .no⟩, ⟨47, [], .br true .no⟩, ⟨53, [], .callS [0] [true] (avOf e11') (blOf e11') [true]⟩, ⟨58, [.tm 195 (.bool false)], .no⟩, ⟨67, [.tm 209 (.bool true)], .no⟩, ⟨71, [], .br false .no⟩] [.sel []] Exit.normal (stOf 220 [] [Blk.row 31 (flatA encT d1)]) (And.intro e1' (And.intro (show ((↑m : Int) - (↑a : Int) == (1 : Int)) = false from (by rw [beq_eq_false_iff_ne]; omega)) (And.intro e2' (And.intro (show ((↑b : Int) - (↑m : Int) == (1 : Int)) = false from (by rw [beq_eq_false_iff_ne]; omega)) (And.intro e3' (And.intro e4' (And.intro (show (0 : Int) ≤ (1 : Int) from (by omega)) (And.intro e5' (And.intro e6' (And.intro e7' (And.intro (show decide ((↑m : Int) > (↑c : Int)) = false from (by rw [decide_eq_false_iff_not]; omega)) (And.intro e8' (And.intro e9' (And.intro e10' (And.intro (congrArg AV.bool (show decide ((↑t : Int) < (↑m : Int)) = true from (by rw [decide_eq_true_iff]; omega))) (And.intro (show (bif true then decide ((↑m : Int) < (↑e : Int)) else false) = true from (by simp_all; done)) (And.intro (show ∀ (x : AV), x ∈ flatA encT d → noid0 x = true from encT_noid d) (And.intro (show ∀ (x : AV), x ∈ flatA encT d1 → noid0 x = true from encT_noid d1) (And.intro e11' (And.intro (congrArg AV.bool (show decide ((↑a : Int) < (↑t : Int)) = false from (by rw [decide_eq_false_iff_not]; omega))) (And.intro (show false = true → false = true from (fun h => h)) (And.intro (congrArg AV.bool (show decide ((↑c : Int) < (↑e : Int)) = true from (by rw [decide_eq_true_iff]; omega))) (show (bif true then decide ((↑e : Int) < (↑b : Int)) else false) = false from (by simp_all; done)))))))))))))))))))))))) ?_
            refine g_finn ?_
            refine g_f [0] [true] (AV.tuple []) ([Blk.row 31 (flatA encT d1)]) (show ∀ (x : AV), x ∈ flatA encT d1 → noid0 x = true from encT_noid d1) ?_
            exact ⟨rfl, rfl⟩
      · skip
        omega
  · subst p1b
    rcases p1a with p1a | p1a
    · skip
      rcases q2 with ⟨p2a, p2b, q2⟩ | ⟨p2a, p2b⟩
      · skip
        rcases q3 with ⟨p3a, p3b, q3⟩ | ⟨p3a, p3b⟩
        · skip
          omega
        · subst p3b
          rcases p3a with p3a | p3a
          · skip
            have e1' := (congrArg (fun z => AV.int .i64 z) (wrap_i64 (e := (↑m : Int) - (↑a : Int)) (by omega) (by omega)))
            have e2' := (congrArg (fun z => AV.int .i64 z) (wrap_i64 (e := (↑b : Int) - (↑m : Int)) (by omega) (by omega)))
            have e3' := (congrArg (fun z => AV.int .i64 z) (wrap_i64 (e := (↑a : Int) + (↑b : Int)) (by omega) (by omega)))
            have e4' := (congrArg (fun z => AV.int .u64 z) (wrap_u64 (e := (↑a : Int) + (↑b : Int)) (by omega) (by omega)))
            have e5' := (congrArg (fun z => AV.int .u64 z) hv)
            have e6' := (congrArg (fun z => AV.int .i64 z) (wrap_i64 (e := (↑c : Int)) (by omega) (by omega)))
            have e7' := (Eq.trans (congrArg (fun z => AV.int .i64 (IntKind.i64.wrap z)) e1) (congrArg (fun z => AV.int .i64 z) (wrap_i64 (e := (↑n : Int)) (by omega) (by omega))))
            have e8' := (Eq.trans (congrArg (fun z => AV.int .i64 (IntKind.i64.wrap z)) e3) (congrArg (fun z => AV.int .i64 z) (wrap_i64 (e := (↑p : Int)) (by omega) (by omega))))
            have e9' := lo
            have e10' := (Eq.trans (congrArg (fun z => AV.int .i64 (IntKind.i64.wrap z)) e4) (congrArg (fun z => AV.int .i64 z) (wrap_i64 (e := (↑e : Int)) (by omega) (by omega))))
            have e11' := q2
            refine g_q [⟨2, [], .as (rhsOf e1')⟩, ⟨4, [], .br false .no⟩, ⟨7, [], .as (rhsOf e2')⟩, ⟨9, [], .br false .no⟩, ⟨12, [], .as (rhsOf e3')⟩, ⟨13, [], .as (rhsOf e4')⟩, ⟨14, [], .as (rhsOf e5')⟩, ⟨15, [], .as (rhsOf e6')⟩, ⟨19, [], .as (rhsOf e7')⟩, ⟨26, [], .br false .no⟩, ⟨32, [], .as (rhsOf e8')⟩, ⟨34, [.sel [0, 1, 2, 3, 4, 18, 19, 20, 21, 22]], .loop (exOf e9') (endOf e9')⟩, ⟨37, [], .as (rhsOf e10')⟩, ⟨43, [.tm 181 (.bool false)], .no⟩, ⟨52, [.tm 195 (.bool true)], .no⟩, ⟨56, [], .br true .no⟩, ⟨62, [], .callS [0] [true] (avOf e11') (blOf e11') [true]⟩, ⟨67, [.tm 209 (.bool false)], .no⟩] [.sel []] Exit.normal (stOf 220 [] [Blk.row 31 (flatA encT d2)]) (And.intro e1' (And.intro (show ((↑m : Int) - (↑a : Int) == (1 : Int)) = false from (by rw [beq_eq_false_iff_ne]; omega)) (And.intro e2' (And.intro (show ((↑b : Int) - (↑m : Int) == (1 : Int)) = false from (by rw [beq_eq_false_iff_ne]; omega)) (And.intro e3' (And.intro e4' (And.intro (show (0 : Int) ≤ (1 : Int) from (by omega)) (And.intro e5' (And.intro e6' (And.intro e7' (And.intro (show decide ((↑m : Int) > (↑c : Int)) = false from (by rw [decide_eq_false_iff_not]; omega)) (And.intro e8' (And.intro e9' (And.intro e10' (And.intro (congrArg AV.bool (show decide ((↑t : Int) < (↑m : Int)) = false from (by rw [decide_eq_false_iff_not]; omega))) (And.intro (show false = true → false = true from (fun h => h)) (And.intro (congrArg AV.bool (show decide ((↑a : Int) < (↑t : Int)) = true from (by rw [decide_eq_true_iff]; omega))) (And.intro (show (bif true then decide ((↑t : Int) < (↑c : Int)) else false) = true from (by simp_all; done)) (And.intro (show ∀ (x : AV), x ∈ flatA encT d → noid0 x = true from encT_noid d) (And.intro (show ∀ (x : AV), x ∈ flatA encT d2 → noid0 x = true from encT_noid d2) (And.intro e11' (And.intro (congrArg AV.bool (show decide ((↑c : Int) < (↑e : Int)) = false from (by rw [decide_eq_false_iff_not]; omega))) (show false = true → false = true from (fun h => h)))))))))))))))))))))))) ?_
            refine g_finn ?_
            refine g_f [0] [true] (AV.tuple []) ([Blk.row 31 (flatA encT d2)]) (show ∀ (x : AV), x ∈ flatA encT d2 → noid0 x = true from encT_noid d2) ?_
            exact ⟨rfl, rfl⟩
          · skip
            omega
      · subst p2b
        rcases p2a with p2a | p2a
        · skip
          omega
        · skip
          rcases q3 with ⟨p3a, p3b, q3⟩ | ⟨p3a, p3b⟩
          · skip
            omega
          · subst p3b
            rcases p3a with p3a | p3a
            · skip
              have e1' := (congrArg (fun z => AV.int .i64 z) (wrap_i64 (e := (↑m : Int) - (↑a : Int)) (by omega) (by omega)))
              have e2' := (congrArg (fun z => AV.int .i64 z) (wrap_i64 (e := (↑b : Int) - (↑m : Int)) (by omega) (by omega)))
              have e3' := (congrArg (fun z => AV.int .i64 z) (wrap_i64 (e := (↑a : Int) + (↑b : Int)) (by omega) (by omega)))
              have e4' := (congrArg (fun z => AV.int .u64 z) (wrap_u64 (e := (↑a : Int) + (↑b : Int)) (by omega) (by omega)))
              have e5' := (congrArg (fun z => AV.int .u64 z) hv)
              have e6' := (congrArg (fun z => AV.int .i64 z) (wrap_i64 (e := (↑c : Int)) (by omega) (by omega)))
              have e7' := (Eq.trans (congrArg (fun z => AV.int .i64 (IntKind.i64.wrap z)) e1) (congrArg (fun z => AV.int .i64 z) (wrap_i64 (e := (↑n : Int)) (by omega) (by omega))))
              have e8' := (Eq.trans (congrArg (fun z => AV.int .i64 (IntKind.i64.wrap z)) e3) (congrArg (fun z => AV.int .i64 z) (wrap_i64 (e := (↑p : Int)) (by omega) (by omega))))
              have e9' := lo
              have e10' := (Eq.trans (congrArg (fun z => AV.int .i64 (IntKind.i64.wrap z)) e4) (congrArg (fun z => AV.int .i64 z) (wrap_i64 (e := (↑e : Int)) (by omega) (by omega))))
              refine g_q [⟨2, [], .as (rhsOf e1')⟩, ⟨4, [], .br false .no⟩, ⟨7, [], .as (rhsOf e2')⟩, ⟨9, [], .br false .no⟩, ⟨12, [], .as (rhsOf e3')⟩, ⟨13, [], .as (rhsOf e4')⟩, ⟨14, [], .as (rhsOf e5')⟩, ⟨15, [], .as (rhsOf e6')⟩, ⟨19, [], .as (rhsOf e7')⟩, ⟨26, [], .br false .no⟩, ⟨32, [], .as (rhsOf e8')⟩, ⟨34, [.sel [0, 1, 2, 3, 4, 18, 19, 20, 21, 22]], .loop (exOf e9') (endOf e9')⟩, ⟨37, [], .as (rhsOf e10')⟩, ⟨43, [.tm 181 (.bool false)], .no⟩, ⟨52, [.tm 195 (.bool true)], .no⟩, ⟨56, [], .br false .no⟩, ⟨61, [.tm 209 (.bool false)], .no⟩] [.sel []] Exit.normal (stOf 220 [] [Blk.row 31 (flatA encT d)]) (And.intro e1' (And.intro (show ((↑m : Int) - (↑a : Int) == (1 : Int)) = false from (by rw [beq_eq_false_iff_ne]; omega)) (And.intro e2' (And.intro (show ((↑b : Int) - (↑m : Int) == (1 : Int)) = false from (by rw [beq_eq_false_iff_ne]; omega)) (And.intro e3' (And.intro e4' (And.intro (show (0 : Int) ≤ (1 : Int) from (by omega)) (And.intro e5' (And.intro e6' (And.intro e7' (And.intro (show decide ((↑m : Int) > (↑c : Int)) = false from (by rw [decide_eq_false_iff_not]; omega)) (And.intro e8' (And.intro e9' (And.intro e10' (And.intro (congrArg AV.bool (show decide ((↑t : Int) < (↑m : Int)) = false from (by rw [decide_eq_false_iff_not]; omega))) (And.intro (show false = true → false = true from (fun h => h)) (And.intro (congrArg AV.bool (show decide ((↑a : Int) < (↑t : Int)) = true from (by rw [decide_eq_true_iff]; omega))) (And.intro (show (bif true then decide ((↑t : Int) < (↑c : Int)) else false) = false from (by simp_all; done)) (And.intro (congrArg AV.bool (show decide ((↑c : Int) < (↑e : Int)) = false from (by rw [decide_eq_false_iff_not]; omega))) (show false = true → false = true from (fun h => h))))))))))))))))))))) ?_
              refine g_finn ?_
              refine g_f [0] [true] (AV.tuple []) ([Blk.row 31 (flatA encT d)]) (show ∀ (x : AV), x ∈ flatA encT d → noid0 x = true from encT_noid d) ?_
              exact ⟨rfl, rfl⟩
            · skip
              omega
    · skip
      rcases q2 with ⟨p2a, p2b, q2⟩ | ⟨p2a, p2b⟩
      · skip
        omega
      · subst p2b
        rcases p2a with p2a | p2a
        · skip
          omega
        · skip
          rcases q3 with ⟨p3a, p3b, q3⟩ | ⟨p3a, p3b⟩
          · skip
            omega
          · subst p3b
            rcases p3a with p3a | p3a
            · skip
              have e1' := (congrArg (fun z => AV.int .i64 z) (wrap_i64 (e := (↑m : Int) - (↑a : Int)) (by omega) (by omega)))
              have e2' := (congrArg (fun z => AV.int .i64 z) (wrap_i64 (e := (↑b : Int) - (↑m : Int)) (by omega) (by omega)))
              have e3' := (congrArg (fun z => AV.int .i64 z) (wrap_i64 (e := (↑a : Int) + (↑b : Int)) (by omega) (by omega)))
              have e4' := (congrArg (fun z => AV.int .u64 z) (wrap_u64 (e := (↑a : Int) + (↑b : Int)) (by omega) (by omega)))
              have e5' := (congrArg (fun z => AV.int .u64 z) hv)
              have e6' := (congrArg (fun z => AV.int .i64 z) (wrap_i64 (e := (↑c : Int)) (by omega) (by omega)))
              have e7' := (Eq.trans (congrArg (fun z => AV.int .i64 (IntKind.i64.wrap z)) e1) (congrArg (fun z => AV.int .i64 z) (wrap_i64 (e := (↑n : Int)) (by omega) (by omega))))
              have e8' := (Eq.trans (congrArg (fun z => AV.int .i64 (IntKind.i64.wrap z)) e3) (congrArg (fun z => AV.int .i64 z) (wrap_i64 (e := (↑p : Int)) (by omega) (by omega))))
              have e9' := lo
              have e10' := (Eq.trans (congrArg (fun z => AV.int .i64 (IntKind.i64.wrap z)) e4) (congrArg (fun z => AV.int .i64 z) (wrap_i64 (e := (↑e : Int)) (by omega) (by omega))))
              refine g_q [⟨2, [], .as (rhsOf e1')⟩, ⟨4, [], .br false .no⟩, ⟨7, [], .as (rhsOf e2')⟩, ⟨9, [], .br false .no⟩, ⟨12, [], .as (rhsOf e3')⟩, ⟨13, [], .as (rhsOf e4')⟩, ⟨14, [], .as (rhsOf e5')⟩, ⟨15, [], .as (rhsOf e6')⟩, ⟨19, [], .as (rhsOf e7')⟩, ⟨26, [], .br false .no⟩, ⟨32, [], .as (rhsOf e8')⟩, ⟨34, [.sel [0, 1, 2, 3, 4, 18, 19, 20, 21, 22]], .loop (exOf e9') (endOf e9')⟩, ⟨37, [], .as (rhsOf e10')⟩, ⟨43, [.tm 181 (.bool false)], .no⟩, ⟨52, [.tm 195 (.bool true)], .no⟩, ⟨56, [], .br false .no⟩, ⟨61, [.tm 209 (.bool false)], .no⟩] [.sel []] Exit.normal (stOf 220 [] [Blk.row 31 (flatA encT d)]) (And.intro e1' (And.intro (show ((↑m : Int) - (↑a : Int) == (1 : Int)) = false from (by rw [beq_eq_false_iff_ne]; omega)) (And.intro e2' (And.intro (show ((↑b : Int) - (↑m : Int) == (1 : Int)) = false from (by rw [beq_eq_false_iff_ne]; omega)) (And.intro e3' (And.intro e4' (And.intro (show (0 : Int) ≤ (1 : Int) from (by omega)) (And.intro e5' (And.intro e6' (And.intro e7' (And.intro (show decide ((↑m : Int) > (↑c : Int)) = false from (by rw [decide_eq_false_iff_not]; omega)) (And.intro e8' (And.intro e9' (And.intro e10' (And.intro (congrArg AV.bool (show decide ((↑t : Int) < (↑m : Int)) = false from (by rw [decide_eq_false_iff_not]; omega))) (And.intro (show false = true → false = true from (fun h => h)) (And.intro (congrArg AV.bool (show decide ((↑a : Int) < (↑t : Int)) = true from (by rw [decide_eq_true_iff]; omega))) (And.intro (show (bif true then decide ((↑t : Int) < (↑c : Int)) else false) = false from (by simp_all; done)) (And.intro (congrArg AV.bool (show decide ((↑c : Int) < (↑e : Int)) = false from (by rw [decide_eq_false_iff_not]; omega))) (show false = true → false = true from (fun h => h))))))))))))))))))))) ?_
              refine g_finn ?_
              refine g_f [0] [true] (AV.tuple []) ([Blk.row 31 (flatA encT d)]) (show ∀ (x : AV), x ∈ flatA encT d → noid0 x = true from encT_noid d) ?_
              exact ⟨rfl, rfl⟩
            · skip
              omega
end Go.Proofs.YtjgpojglgfddiaaDoor
namespace Go.Proofs.YtjgpojglgfddiaaDoor
open Go Go.RowKit V
set_option linter.unusedSimpArgs false
set_option linter.unusedVariables false
set_option maxHeartbeats 20000000
theorem beqL_iff (a b : ByteArray) : (a.toList == b.toList) = true ↔ a = b := ⟨fun h => toList_inj (eq_of_beq h), fun h => by rw [h]; exact beq_self_eq_true _⟩
theorem getD_mem {l : List TE} {k : Nat} (hk : k < l.length) : l.getD k tD ∈ l := by
  rw [List.getD_eq_getElem?_getD, List.getElem?_eq_getElem hk]; exact List.getElem_mem hk
theorem getD_get {l : List TE} {k : Nat} (hk : k < l.length) : l.getD k tD = l[k] := by
  rw [List.getD_eq_getElem?_getD, List.getElem?_eq_getElem hk]; rfl
theorem allN_iff (f : Nat → Bool) (n : Nat) : allN f n = true ↔ ∀ k, k < n → f k = true := by
  rcases allN_or f n with ⟨h1, h2⟩ | ⟨h1, m, h2, _, h3⟩
  · exact ⟨fun _ => h2, fun _ => h1⟩
  · exact ⟨fun h => (by rw [h1] at h; cases h), fun h => (by rw [h m h2] at h3; cases h3)⟩
theorem fstN_iff (f : Nat → Bool) (n : Nat) : fstN f n < n ↔ ∃ k, k < n ∧ f k = false := by
  rcases fstN_or f n with ⟨h1, h2⟩ | ⟨h1, h2, h3⟩
  · exact ⟨fun h => by omega, fun ⟨k, hk, hf⟩ => by rw [h2 k hk] at hf; cases hf⟩
  · exact ⟨fun _ => ⟨_, h1, h3⟩, fun _ => h1⟩
def NoU (x y : TE) : Prop := unF x.1 y.1 = false ∧ unF y.1 x.1 = false
theorem clF_iff (l : List TE) : clF l = true ↔ l.Pairwise NoU := by
  unfold clF
  rw [allN_iff, List.pairwise_iff_getElem]
  constructor
  · intro h i j hi hj hij
    have h1 := h i hi
    have h2 := h j hj
    unfold clR at h1 h2
    rw [allN_iff] at h1 h2
    have a1 := h1 j hj
    have a2 := h2 i hi
    unfold clP at a1 a2
    rw [getD_get hi, getD_get hj] at a1
    rw [getD_get hi, getD_get hj] at a2
    have e1 : ((i : Int) == (j : Int)) = false := beq_eq_false_iff_ne.2 (by omega)
    have e2 : ((j : Int) == (i : Int)) = false := beq_eq_false_iff_ne.2 (by omega)
    rw [e1] at a1
    rw [e2] at a2
    exact ⟨by simpa using a1, by simpa using a2⟩
  · intro h i hi
    unfold clR
    rw [allN_iff]
    intro k hk
    unfold clP
    rw [getD_get hi, getD_get hk]
    rcases Nat.lt_trichotomy i k with q | q | q
    · have := (h i k hi hk q).1
      rw [this]; simp
    · subst q; simp
    · have := (h k i hk hi q).2
      rw [this]; simp
theorem clF_perm {l m : List TE} (h : l.Perm m) : clF l = clF m := by
  have e : clF l = true ↔ clF m = true := by
    rw [clF_iff, clF_iff]
    exact h.pairwise_iff fun {x y} hxy => ⟨hxy.2, hxy.1⟩
  cases h1 : clF l <;> cases h2 : clF m <;> simp_all
theorem gt_iff (l : List TE) (p : ByteArray) : gtI l p < l.length ↔ ∃ y ∈ l, y.1 = p := by
  unfold gtI
  rw [fstN_iff]
  constructor
  · rintro ⟨k, hk, h⟩
    rw [Bool.not_eq_false', beqL_iff] at h
    exact ⟨_, getD_mem hk, h⟩
  · rintro ⟨y, hy, rfl⟩
    obtain ⟨i, hi, rfl⟩ := mem_getD hy
    exact ⟨i, hi, by rw [Bool.not_eq_false', beqL_iff]⟩
theorem gt_at {l : List TE} {p : ByteArray} (h : gtI l p < l.length) : (l.getD (gtI l p) tD).1 = p := by
  unfold gtI at h ⊢
  rcases fstN_or (fun k => !((l.getD k tD).1.toList == p.toList)) l.length with ⟨h1, _⟩ | ⟨_, _, h3⟩
  · omega
  · rw [Bool.not_eq_false', beqL_iff] at h3
    exact h3
theorem ltE_self {x y : TE} (h : x.1 = y.1) : ltE x y = false := by
  have : Op.bytesLess x.1.toList y.1.toList = false := by rw [h]; exact bl_irrefl _
  exact this
theorem tw_iff {o : List TE} (ho : Srt o) (x : TE) : twF o x = true ↔ ∃ y ∈ o, y.1 = x.1 := by
  unfold twF
  rw [Bool.and_eq_true, decide_eq_true_eq, beqL_iff]
  constructor
  · rintro ⟨h1, h2⟩
    exact ⟨_, getD_mem h1, h2⟩
  · rintro ⟨y, hy, e⟩
    obtain ⟨j, hj, rfl⟩ := mem_getD hy
    have hk : kF o x = j := by
      rcases Nat.lt_trichotomy (kF o x) j with q | q | q
      · have h1 := kF_at o x (by omega)
        have h2 := srt_get ho q hj
        have h3 : ltE (o.getD (kF o x) tD) x = true := by
          have : Op.bytesLess (o.getD (kF o x) tD).1.toList (o.getD j tD).1.toList = true := h2
          rw [e] at this
          exact this
        rw [h3] at h1; cases h1
      · exact q
      · have h1 := kF_lt o x j q
        rw [ltE_self e] at h1; cases h1
    rw [hk]
    exact ⟨hj, e⟩
/-- a file and those before it -/
def bvE (l : List TE) (i : Nat) : Int := if cfF (l.getD i tD) = 0 then (if gtI (l.take i) (l.getD i tD).1 < (l.take i).length then 9 else 0) else cfF (l.getD i tD)
theorem bd_iff {l : List TE} {i : Nat} (hd : Dst (l.take i)) : bvE l i = bdE l i := by
  unfold bvE bdE bsE
  have h : gtI (l.take i) (l.getD i tD).1 < (l.take i).length ↔ twF (sortR (l.take i)) (l.getD i tD) = true := by
    rw [gt_iff, tw_iff (sortR_srt hd) (l.getD i tD)]
    exact ⟨fun ⟨y, a, b⟩ => ⟨y, (sortR_perm _).mem_iff.2 a, b⟩, fun ⟨y, a, b⟩ => ⟨y, (sortR_perm _).mem_iff.1 a, b⟩⟩
  by_cases hg : gtI (l.take i) (l.getD i tD).1 < (l.take i).length
  · rw [if_pos hg, if_pos (h.1 hg)]
  · rw [if_neg hg, if_neg (fun q => hg (h.2 q))]
theorem take_snoc {l : List TE} {m : Nat} (h : m < l.length) : l.take (m + 1) = l.take m ++ [l.getD m tD] := by
  rw [List.take_succ_eq_append_getElem h, getD_get h]
theorem dst_snoc {l : List TE} {x : TE} : Dst (l ++ [x]) ↔ Dst l ∧ ∀ y ∈ l, y.1 ≠ x.1 := by
  unfold Dst
  rw [List.pairwise_append]
  simp
theorem bv_step {l : List TE} {i : Nat} (h : bvE l i = 0) : cfF (l.getD i tD) = 0 ∧ ∀ y ∈ l.take i, y.1 ≠ (l.getD i tD).1 := by
  unfold bvE at h
  by_cases h1 : cfF (l.getD i tD) = 0
  · rw [if_pos h1] at h
    refine ⟨h1, fun y hy e => ?_⟩
    rw [if_pos ((gt_iff _ _).2 ⟨y, hy, e⟩)] at h
    cases h
  · rw [if_neg h1] at h
    exact absurd h h1
theorem bd_dst {l : List TE} : ∀ (m : Nat), m ≤ l.length → (∀ i, i < m → bdE l i = 0) → Dst (l.take m) ∧ ∀ i, i < m → cfF (l.getD i tD) = 0
  | 0, _, _ => ⟨by rw [List.take_zero]; exact List.Pairwise.nil, fun i h => by omega⟩
  | m + 1, hm, h => by
    obtain ⟨h1, h2⟩ := bd_dst m (by omega) fun i hi => h i (by omega)
    obtain ⟨k1, k2⟩ := bv_step ((bd_iff h1).trans (h m (by omega)))
    refine ⟨?_, fun i hi => ?_⟩
    · rw [take_snoc (by omega)]
      exact dst_snoc.2 ⟨h1, k2⟩
    · rcases Nat.lt_succ_iff_lt_or_eq.1 hi with q | rfl
      · exact h2 i q
      · exact k1
theorem bdM_or (l : List TE) : (bdM l = l.length ∧ ∀ i, i < l.length → bdE l i = 0) ∨ (bdM l < l.length ∧ (∀ i, i < bdM l → bdE l i = 0) ∧ bdE l (bdM l) ≠ 0) := by
  unfold bdM
  rcases fstN_or (fun i => bdE l i == 0) l.length with ⟨h1, h2⟩ | ⟨h1, h2, h3⟩
  · exact .inl ⟨h1, fun i hi => eq_of_beq (h2 i hi)⟩
  · exact .inr ⟨h1, fun i hi => eq_of_beq (h2 i hi), fun e => by rw [e] at h3; cases h3⟩
/-- files that are valid for themselves, and no path twice -/
structure Fine (l : List TE) : Prop where
  len : l.length ≤ 64
  each : ∀ x ∈ l, cfF x = 0
  dst : Dst l
theorem fine_bd {l : List TE} (h : Fine l) : bdF l = bif clF l then 0 else 10 := by
  unfold bdF
  rw [if_neg (by have := h.len; omega)]
  have hz : ∀ i, i < l.length → bdE l i = 0 := fun i hi => by
    have hd : Dst (l.take i) := List.Pairwise.sublist (List.take_sublist _ _) h.dst
    rw [← bd_iff hd]
    unfold bvE
    rw [if_pos (h.each _ (getD_mem hi)), if_neg]
    rw [gt_iff]
    rintro ⟨y, hy, e⟩
    have : Dst (l.take (i + 1)) := List.Pairwise.sublist (List.take_sublist _ _) h.dst
    rw [take_snoc hi] at this
    exact (dst_snoc.1 this).2 y hy e
  rcases bdM_or l with ⟨h1, _⟩ | ⟨h1, _, h3⟩
  · rw [if_neg (by omega), clF_perm (sortR_perm l)]
  · exact absurd (hz _ h1) h3
theorem bd_fine {l : List TE} (h : bdF l = 0) : Fine l ∧ clF l = true := by
  unfold bdF at h
  by_cases h64 : 64 < l.length
  · rw [if_pos h64] at h; cases h
  · rw [if_neg h64] at h
    rcases bdM_or l with ⟨h1, h2⟩ | ⟨h1, _, h3⟩
    · rw [if_neg (by omega), clF_perm (sortR_perm l)] at h
      obtain ⟨k1, k2⟩ := bd_dst l.length (Nat.le_refl _) h2
      rw [List.take_length] at k1
      refine ⟨⟨by omega, fun x hx => ?_, k1⟩, ?_⟩
      · obtain ⟨i, hi, rfl⟩ := mem_getD hx
        exact k2 i hi
      · cases hc : clF l with
        | true => rfl
        | false => rw [hc] at h; cases h
    · rw [if_pos h1] at h
      exact absurd h h3
theorem Fine.perm {l m : List TE} (h : Fine l) (p : l.Perm m) : Fine m := ⟨by rw [← p.length_eq]; exact h.len, fun x hx => h.each x (p.mem_iff.2 hx), dst_perm h.dst p⟩
theorem leS_not {a b : ByteArray} (h : leS a b = false) : lt b a = true := by
  unfold leS at h
  rw [Bool.or_eq_false_iff] at h
  exact bl_tri _ _ h.1 h.2
theorem ck_fine {l : List TE} (h : ckF l = 0) : Fine l ∧ Srt l ∧ clF l = true := by
  unfold ckF at h
  by_cases h64 : 64 < l.length
  · rw [if_pos h64] at h; cases h
  · rw [if_neg h64] at h
    rcases fstN_or (okE l) l.length with ⟨h1, h2⟩ | ⟨h1, _, h3⟩
    · rw [if_neg (by omega)] at h
      have hst : ∀ i, i < l.length → cfF (l.getD i tD) = 0 ∧ (0 < i → ltE (l.getD (i - 1) tD) (l.getD i tD) = true) := fun i hi => by
        have := h2 i hi
        unfold okE stE at this
        have this := eq_of_beq this
        by_cases hc : cfF (l.getD i tD) = 0
        · rw [if_pos hc] at this
          refine ⟨hc, fun h0 => ?_⟩
          rw [decide_eq_true (show (i : Int) > 0 by omega), Bool.true_and] at this
          cases hl : leS (l.getD i tD).1 (l.getD (i - 1) tD).1 with
          | true => rw [hl] at this; simp at this
          | false => exact leS_not hl
        · rw [if_neg hc] at this; exact absurd this hc
      have hs : ∀ (j i : Nat), i < j → j < l.length → ltE (l.getD i tD) (l.getD j tD) = true := fun j => by
        induction j with
        | zero => intro i h; omega
        | succ j ih =>
          intro i hij hj
          have h1 := (hst (j + 1) hj).2 (by omega)
          rw [Nat.add_sub_cancel] at h1
          rcases Nat.lt_succ_iff_lt_or_eq.1 hij with q | rfl
          · exact ltE_trans (ih i q (by omega)) h1
          · exact h1
      have hS : Srt l := List.pairwise_iff_getElem.2 fun i j hi hj hij => by
        have := hs j i hij hj
        rw [getD_get hi, getD_get hj] at this
        exact this
      refine ⟨⟨by omega, fun x hx => ?_, hS.dst⟩, hS, ?_⟩
      · obtain ⟨i, hi, rfl⟩ := mem_getD hx
        exact (hst i hi).1
      · cases hc : clF l with
        | true => rfl
        | false => rw [hc] at h; cases h
    · rw [if_pos h1] at h
      have h3 : (stE l (fstN (okE l) l.length) == 0) = false := h3
      rw [h] at h3; cases h3
theorem fine_ck {l : List TE} (h : Fine l) (hs : Srt l) (hc : clF l = true) : ckF l = 0 := by
  unfold ckF
  rw [if_neg (by have := h.len; omega)]
  have hz : ∀ i, i < l.length → stE l i = 0 := fun i hi => by
    unfold stE
    rw [if_pos (h.each _ (getD_mem hi))]
    rw [if_neg]
    rw [Bool.and_eq_true, decide_eq_true_eq]
    rintro ⟨h0, h1⟩
    have h2 := srt_get hs (i := i - 1) (j := i) (by omega) hi
    have h3 : Op.bytesLess (l.getD (i - 1) tD).1.toList (l.getD i tD).1.toList = true := h2
    unfold leS at h1
    rw [Bool.or_eq_true, beqL_iff] at h1
    rcases h1 with h1 | h1
    · rw [(bl_asymm _ _ h3).1] at h1; cases h1
    · rw [h1, bl_irrefl] at h3; cases h3
  rcases fstN_or (okE l) l.length with ⟨h1, h2⟩ | ⟨h1, _, h3⟩
  · rw [if_neg (by omega), hc]; rfl
  · have h3 : (stE l (fstN (okE l) l.length) == 0) = false := h3
    rw [hz _ h1] at h3; cases h3
def putL (l : List TE) (x : TE) : List TE := if gtI l x.1 < l.length then l.set (gtI l x.1) x else l ++ [x]
theorem wo_mem {l : List TE} {p : ByteArray} {y : TE} : y ∈ woK l p l.length ↔ y ∈ l ∧ y.1 ≠ p := by
  unfold woK
  rw [List.take_length, List.mem_filter, Bool.not_eq_true', ← Bool.not_eq_true, beqL_iff]
theorem set_split (l : List TE) (x : TE) (k : Nat) (hk : k < l.length) : ∃ A y B, l = A ++ y :: B ∧ A.length = k ∧ l.set k x = A ++ x :: B ∧ l.getD k tD = y := by
  obtain ⟨A, y, B, h1, h2, _, _, _, _, h3⟩ := at_split l k hk
  refine ⟨A, y, B, h1, h2, ?_, h3⟩
  rw [h1, ← h2, List.set_append_right _ _ (Nat.le_refl _), Nat.sub_self, List.set_cons_zero]
theorem wo_hit {A B : List TE} {y : TE} (hd : Dst (A ++ y :: B)) : woK (A ++ y :: B) y.1 (A ++ y :: B).length = A ++ B := by
  unfold woK
  rw [List.take_length, List.filter_append, List.filter_cons]
  have hd' := dst_perm hd (List.perm_middle (a := y) (l₁ := A) (l₂ := B))
  obtain ⟨h1, _⟩ := List.pairwise_cons.1 hd'
  have hf : ∀ z ∈ A ++ B, (!(z.1.toList == y.1.toList)) = true := fun z hz => by
    rw [Bool.not_eq_true', ← Bool.not_eq_true, beqL_iff]
    exact fun e => h1 z hz e.symm
  rw [show (!(y.1.toList == y.1.toList)) = false by simp, if_neg (by simp)]
  rw [List.filter_eq_self.2 fun z hz => hf z (List.mem_append_left _ hz), List.filter_eq_self.2 fun z hz => hf z (List.mem_append_right _ hz)]
theorem wo_miss {l : List TE} {p : ByteArray} (h : ¬ gtI l p < l.length) : woK l p l.length = l := by
  unfold woK
  rw [List.take_length]
  refine List.filter_eq_self.2 fun z hz => ?_
  rw [Bool.not_eq_true', ← Bool.not_eq_true, beqL_iff]
  exact fun e => h ((gt_iff _ _).2 ⟨z, hz, e⟩)
theorem put_perm {l : List TE} (x : TE) (hd : Dst l) : (putL l x).Perm (x :: woK l x.1 l.length) ∧ Dst (putL l x) := by
  unfold putL
  by_cases h : gtI l x.1 < l.length
  · rw [if_pos h]
    have hx := gt_at h
    obtain ⟨A, y, B, h1, h2, h3, h4⟩ := set_split l x (gtI l x.1) h
    rw [h4] at hx
    rw [h3]
    subst h1
    rw [← hx, wo_hit hd]
    have hp : (A ++ x :: B).Perm (x :: (A ++ B)) := List.perm_middle
    refine ⟨hp, dst_perm ?_ hp.symm⟩
    have := dst_perm hd (List.perm_middle (a := y) (l₁ := A) (l₂ := B))
    obtain ⟨g1, g2⟩ := List.pairwise_cons.1 this
    exact List.pairwise_cons.2 ⟨fun z hz => by rw [← hx]; exact g1 z hz, g2⟩
  · rw [if_neg h, wo_miss h]
    refine ⟨List.perm_append_singleton _ _, dst_snoc.2 ⟨hd, fun y hy e => h ((gt_iff _ _).2 ⟨y, hy, e⟩)⟩⟩
theorem wo_srt {l : List TE} (p : ByteArray) (h : Srt l) : Srt (woK l p l.length) := by
  unfold woK
  rw [List.take_length]
  exact List.Pairwise.sublist List.filter_sublist h
/-- both put the same list -/
theorem put_eq {l : List TE} (x : TE) (h : Srt l) : sortR (putL l x) = ptL l x := by
  obtain ⟨h1, h2⟩ := put_perm x h.dst
  refine (sort_eq h2 (insR_srt x _ (wo_srt x.1 h) fun y hy => (wo_mem.1 hy).2) ?_).symm
  exact (insR_perm _ _).trans h1.symm
theorem put_len (l : List TE) (x : TE) : (putL l x).length ≤ l.length + 1 := by
  unfold putL
  split
  · rw [List.length_set]; omega
  · simp
theorem wo_short (l : List TE) (p : ByteArray) : decide (((woK l p l.length).length : Int) < (l.length : Int)) = (gtF l p).2 := by
  unfold gtF
  by_cases h : gtI l p < l.length
  · rw [if_pos h]
    obtain ⟨y, hy, e⟩ := (gt_iff _ _).1 h
    have : (woK l p l.length).length < l.length := by
      unfold woK
      rw [List.take_length]
      rcases Nat.lt_or_ge (l.filter fun x => !(x.1.toList == p.toList)).length l.length with q | q
      · exact q
      · have e2 := List.Sublist.eq_of_length_le List.filter_sublist q
        have hm := hy
        rw [← e2, List.mem_filter, Bool.not_eq_true', ← Bool.not_eq_true, beqL_iff] at hm
        exact absurd e hm.2
    exact decide_eq_true (by omega)
  · rw [if_neg h, wo_miss h]
    exact decide_eq_false (by omega)
end Go.Proofs.YtjgpojglgfddiaaDoor
