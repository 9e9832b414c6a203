/-
  Paths: the law about parts.
-/
import Derived.Test.YtaljnmmnmnoinaaDoorP8
namespace Go.Proofs.YtaljnmmnmnoinaaDoor
open Go Go.RowKit V
set_option linter.unusedSimpArgs false
set_option linter.unusedVariables false
set_option maxHeartbeats 20000000
def encW (x : (ByteArray × ByteArray)) : List AV := [AV.str x.1, AV.str x.2]
theorem encW_l (x : (ByteArray × ByteArray)) : (encW x).length = 2 := rfl
theorem encW_at (l : List (ByteArray × ByteArray)) (k : Nat) (hk : k < l.length) : (flatA encW l).drop ((k : Int).toNat * 2) = AV.str (l.getD k (ByteArray.empty, ByteArray.empty)).1 :: AV.str (l.getD k (ByteArray.empty, ByteArray.empty)).2 :: flatA encW (l.drop (k + 1)) := flatA_at encW_l l (ByteArray.empty, ByteArray.empty) k hk
theorem encW_at0 (l : List (ByteArray × ByteArray)) (k : Nat) (hk : k < l.length) : (flatA encW l).drop (0 + (k : Int).toNat * 2) = AV.str (l.getD k (ByteArray.empty, ByteArray.empty)).1 :: AV.str (l.getD k (ByteArray.empty, ByteArray.empty)).2 :: flatA encW (l.drop (k + 1)) := by
  rw [Nat.zero_add]; exact flatA_at encW_l l (ByteArray.empty, ByteArray.empty) k hk
theorem encW_len (l : List (ByteArray × ByteArray)) : (flatA encW l).length = l.length * 2 := flatA_length (n := 2) encW_l l
theorem encW_ge (l : List (ByteArray × ByteArray)) : l.length * 2 ≤ (flatA encW l).length := Nat.le_of_eq (encW_len l).symm
theorem encW_gk (l : List (ByteArray × ByteArray)) (k : Nat) (hk : k < l.length) : 2 ≤ ((flatA encW l).drop (0 + (k : Int).toNat * 2)).length := by
  rw [encW_at0 l k hk]; simp
theorem encW_noid (l : List (ByteArray × ByteArray)) : ∀ x ∈ flatA encW l, noid0 x = true := flatA_noid _ (fun a x hx => by
  simp only [encW, List.mem_cons, List.not_mem_nil, or_false] at hx
  rcases hx with rfl | rfl <;> rfl) l
theorem encW_plain (l : List (ByteArray × ByteArray)) : ∀ x ∈ flatA encW l, plain0 x = true := flatA_all (p := fun x => plain0 x = true) (fun a x hx => by
  simp only [encW, List.mem_cons, List.not_mem_nil, or_false] at hx
  rcases hx with rfl | rfl <;> rfl) l
theorem encW_lend (l : List (ByteArray × ByteArray)) : ∀ x ∈ flatA encW l, noid0 x = true ∧ x ≠ .junk := flatA_all (p := fun x => noid0 x = true ∧ x ≠ .junk) (fun a x hx => by
  simp only [encW, List.mem_cons, List.not_mem_nil, or_false] at hx
  rcases hx with rfl | rfl <;> exact ⟨rfl, by simp⟩) l
theorem encW_snoc (l : List (ByteArray × ByteArray)) (x : (ByteArray × ByteArray)) : (flatA encW l).take (l.length * 2) ++ [AV.str x.1, AV.str x.2] = flatA encW (l ++ [x]) := flatA_snoc encW_l l x
theorem encW_set (l : List (ByteArray × ByteArray)) (k : Nat) (hk : k < l.length) (x : (ByteArray × ByteArray)) : (flatA encW l).take (0 + (k : Int).toNat * 2) ++ [AV.str x.1, AV.str x.2] ++ (flatA encW l).drop (0 + (k : Int).toNat * 2 + 2) = flatA encW (l.set k x) := flatA_set0 encW_l l k hk x
def ppS (q : List (ByteArray × ByteArray)) (k : Nat) : St := stOf 84 [(34, .sl 0 0 3 2), (35, .int .i64 3), (36, .int .i64 (k : Int))] [.row 34 (flatA encW q)]
theorem ppL (q : List (ByteArray × ByteArray)) (hq : q.length = 3) (hs : ∀ x ∈ q, x.1.size ≤ 1000000 ∧ x.2.size ≤ 1000000) : LoopG Tryd.prog 0 Tryd.f5 0 (.exit 0) (stOf 84 [] []) (ppS q 0) := by
  refine loopG_of 3 (fun k => ppS q k) (by kernel_rfl) (by simp) ?_ ?_
  · intro k hk
    have at1 := encW_at0 q k (by omega)
    have hgk := encW_gk q k (by omega)
    obtain ⟨s1, s2⟩ := hs _ (getD_mem' (show k < q.length by omega) (ByteArray.empty, ByteArray.empty))
    generalize q.getD k (ByteArray.empty, ByteArray.empty) = p at *
    obtain ⟨s, t⟩ := p
    simp only at s1 s2 at1
    obtain ⟨a1, a2⟩ := dir_v s s1
    obtain ⟨a3, a4⟩ := base_v s s1
    obtain ⟨a5, a6⟩ := join2_v s t s1 s2
    obtain ⟨a7, a8⟩ := under_v s t s1 s2
    clear hs hq s1 s2
    generalize dirF s = x1 at *
    generalize baseF s = x2 at *
    generalize joF s t = x3 at *
    generalize unF s t = x4 at *
    have q1 := beq_self_eq_true x1.toList
    have q2 := beq_self_eq_true x2.toList
    have q3 := beq_self_eq_true x3.toList
    have q4 := beq_self_eq_true x4
    unfold ppS
    have e1' := (drop_ag0 (n := 2) (v := AV.agg [AV.str s, AV.str t]) at1 rfl)
    have e2' := a1
    have e3' := a2
    have e4' := a3
    have e5' := a4
    have e6' := a5
    have e7' := a6
    have e8' := a7
    have e9' := a8
    have e10' := (congrArg (fun z => AV.int .i64 z) (wrap_i64 (e := (↑k : Int) + (1 : Int)) (by omega) (by omega)))
    exact g_x [⟨1, [], .br true .no⟩, ⟨3, [], .as (rhsOf e1')⟩, ⟨8, [], .call (avOf e2') (blOf e2') []⟩, ⟨11, [], .call (avOf e3') (blOf e3') []⟩, ⟨14, [], .br true .no⟩, ⟨15, [], .br true .no⟩, ⟨17, [], .br true .no⟩, ⟨18, [], .br true .no⟩, ⟨16, [], .br true (.call (avOf e4') (blOf e4') [])⟩, ⟨19, [], .br true (.call (avOf e5') (blOf e5') [])⟩, ⟨20, [], .br true .no⟩, ⟨23, [], .br true .no⟩, ⟨24, [], .br true .no⟩, ⟨25, [], .br true .no⟩, ⟨26, [], .br true .no⟩, ⟨28, [], .br true .no⟩, ⟨29, [], .br true .no⟩, ⟨30, [], .br true .no⟩, ⟨31, [], .br true .no⟩, ⟨27, [], .br true (.call (avOf e6') (blOf e6') [])⟩, ⟨32, [], .br true (.call (avOf e7') (blOf e7') [])⟩, ⟨33, [], .br true .no⟩, ⟨36, [], .br true .no⟩, ⟨37, [], .br true .no⟩, ⟨38, [], .br true .no⟩, ⟨39, [], .br true .no⟩, ⟨41, [], .br true .no⟩, ⟨42, [], .br true .no⟩, ⟨43, [], .br true .no⟩, ⟨44, [], .br true .no⟩, ⟨40, [], .br true (.call (avOf e8') (blOf e8') [])⟩, ⟨45, [], .br true (.call (avOf e9') (blOf e9') [])⟩, ⟨46, [], .br true .no⟩, ⟨48, [], .br false .no⟩, ⟨49, [], .as (rhsOf e10')⟩] [.sel [34, 35, 36], .keep [0] [true]] (And.intro (show decide ((↑k : Int) < (3 : Int)) = true from (by rw [decide_eq_true_iff]; omega)) (And.intro (show (0 : Int) ≤ (↑k : Int) ∧ (↑k : Int) < (↑3 : Int) from (by omega)) (And.intro (show 2 ≤ (List.drop (0 + (↑k : Int).toNat * 2) (flatA encW q)).length from (drop_le0 (n := 2) at1 (by simp))) (And.intro e1' (And.intro (show 2 ≤ 2 from (by omega)) (And.intro (show (0 : Int) ≤ (0 : Int) ∧ (0 : Int) < (↑2 : Int) from (by omega)) (And.intro (show 1 ≤ 2 from (by omega)) (And.intro (show (0 : Int) ≤ (0 : Int) ∧ (0 : Int) < (↑2 : Int) from (by omega)) (And.intro (show 1 ≤ 2 from (by omega)) (And.intro e2' (And.intro e3' (And.intro (congrArg (fun z => (!z) == false) q1) (And.intro (show (0 : Int) ≤ (0 : Int) ∧ (0 : Int) < (↑2 : Int) from (by omega)) (And.intro (congrArg (fun z => (!z) == false) q1) (And.intro (show 1 ≤ 2 from (by omega)) (And.intro (congrArg (fun z => (!z) == false) q1) (And.intro (show (0 : Int) ≤ (0 : Int) ∧ (0 : Int) < (↑2 : Int) from (by omega)) (And.intro (congrArg (fun z => (!z) == false) q1) (And.intro (show 1 ≤ 2 from (by omega)) (And.intro (congrArg (fun z => (!z) == false) q1) (And.intro e4' (And.intro (congrArg (fun z => (!z) == false) q1) (And.intro e5' (And.intro (congrArg (fun z => (!z) == false) q1) (And.intro (Eq.trans (congrArg (fun z => (bif !z then true else !x2.toList == x2.toList) == false) q1) (congrArg (fun z => (bif !true then true else !z) == false) q2)) (And.intro (show (0 : Int) ≤ (0 : Int) ∧ (0 : Int) < (↑2 : Int) from (by omega)) (And.intro (Eq.trans (congrArg (fun z => (bif !z then true else !x2.toList == x2.toList) == false) q1) (congrArg (fun z => (bif !true then true else !z) == false) q2)) (And.intro (show 1 ≤ 2 from (by omega)) (And.intro (Eq.trans (congrArg (fun z => (bif !z then true else !x2.toList == x2.toList) == false) q1) (congrArg (fun z => (bif !true then true else !z) == false) q2)) (And.intro (show (0 : Int) ≤ (1 : Int) ∧ (1 : Int) < (↑2 : Int) from (by omega)) (And.intro (Eq.trans (congrArg (fun z => (bif !z then true else !x2.toList == x2.toList) == false) q1) (congrArg (fun z => (bif !true then true else !z) == false) q2)) (And.intro (show 1 ≤ 1 from (by omega)) (And.intro (Eq.trans (congrArg (fun z => (bif !z then true else !x2.toList == x2.toList) == false) q1) (congrArg (fun z => (bif !true then true else !z) == false) q2)) (And.intro (show (0 : Int) ≤ (0 : Int) ∧ (0 : Int) < (↑2 : Int) from (by omega)) (And.intro (Eq.trans (congrArg (fun z => (bif !z then true else !x2.toList == x2.toList) == false) q1) (congrArg (fun z => (bif !true then true else !z) == false) q2)) (And.intro (show 1 ≤ 2 from (by omega)) (And.intro (Eq.trans (congrArg (fun z => (bif !z then true else !x2.toList == x2.toList) == false) q1) (congrArg (fun z => (bif !true then true else !z) == false) q2)) (And.intro (show (0 : Int) ≤ (1 : Int) ∧ (1 : Int) < (↑2 : Int) from (by omega)) (And.intro (Eq.trans (congrArg (fun z => (bif !z then true else !x2.toList == x2.toList) == false) q1) (congrArg (fun z => (bif !true then true else !z) == false) q2)) (And.intro (show 1 ≤ 1 from (by omega)) (And.intro (Eq.trans (congrArg (fun z => (bif !z then true else !x2.toList == x2.toList) == false) q1) (congrArg (fun z => (bif !true then true else !z) == false) q2)) (And.intro e6' (And.intro (Eq.trans (congrArg (fun z => (bif !z then true else !x2.toList == x2.toList) == false) q1) (congrArg (fun z => (bif !true then true else !z) == false) q2)) (And.intro e7' (And.intro (Eq.trans (congrArg (fun z => (bif !z then true else !x2.toList == x2.toList) == false) q1) (congrArg (fun z => (bif !true then true else !z) == false) q2)) (And.intro (Eq.trans (Eq.trans (congrArg (fun z => (bif bif !z then true else !x2.toList == x2.toList then true else !x3.toList == x3.toList) == false) q1) (congrArg (fun z => (bif bif !true then true else !z then true else !x3.toList == x3.toList) == false) q2)) (congrArg (fun z => (bif bif !true then true else !true then true else !z) == false) q3)) (And.intro (show (0 : Int) ≤ (0 : Int) ∧ (0 : Int) < (↑2 : Int) from (by omega)) (And.intro (Eq.trans (Eq.trans (congrArg (fun z => (bif bif !z then true else !x2.toList == x2.toList then true else !x3.toList == x3.toList) == false) q1) (congrArg (fun z => (bif bif !true then true else !z then true else !x3.toList == x3.toList) == false) q2)) (congrArg (fun z => (bif bif !true then true else !true then true else !z) == false) q3)) (And.intro (show 1 ≤ 2 from (by omega)) (And.intro (Eq.trans (Eq.trans (congrArg (fun z => (bif bif !z then true else !x2.toList == x2.toList then true else !x3.toList == x3.toList) == false) q1) (congrArg (fun z => (bif bif !true then true else !z then true else !x3.toList == x3.toList) == false) q2)) (congrArg (fun z => (bif bif !true then true else !true then true else !z) == false) q3)) (And.intro (show (0 : Int) ≤ (1 : Int) ∧ (1 : Int) < (↑2 : Int) from (by omega)) (And.intro (Eq.trans (Eq.trans (congrArg (fun z => (bif bif !z then true else !x2.toList == x2.toList then true else !x3.toList == x3.toList) == false) q1) (congrArg (fun z => (bif bif !true then true else !z then true else !x3.toList == x3.toList) == false) q2)) (congrArg (fun z => (bif bif !true then true else !true then true else !z) == false) q3)) (And.intro (show 1 ≤ 1 from (by omega)) (And.intro (Eq.trans (Eq.trans (congrArg (fun z => (bif bif !z then true else !x2.toList == x2.toList then true else !x3.toList == x3.toList) == false) q1) (congrArg (fun z => (bif bif !true then true else !z then true else !x3.toList == x3.toList) == false) q2)) (congrArg (fun z => (bif bif !true then true else !true then true else !z) == false) q3)) (And.intro (show (0 : Int) ≤ (0 : Int) ∧ (0 : Int) < (↑2 : Int) from (by omega)) (And.intro (Eq.trans (Eq.trans (congrArg (fun z => (bif bif !z then true else !x2.toList == x2.toList then true else !x3.toList == x3.toList) == false) q1) (congrArg (fun z => (bif bif !true then true else !z then true else !x3.toList == x3.toList) == false) q2)) (congrArg (fun z => (bif bif !true then true else !true then true else !z) == false) q3)) (And.intro (show 1 ≤ 2 from (by omega)) (And.intro (Eq.trans (Eq.trans (congrArg (fun z => (bif bif !z then true else !x2.toList == x2.toList then true else !x3.toList == x3.toList) == false) q1) (congrArg (fun z => (bif bif !true then true else !z then true else !x3.toList == x3.toList) == false) q2)) (congrArg (fun z => (bif bif !true then true else !true then true else !z) == false) q3)) (And.intro (show (0 : Int) ≤ (1 : Int) ∧ (1 : Int) < (↑2 : Int) from (by omega)) (And.intro (Eq.trans (Eq.trans (congrArg (fun z => (bif bif !z then true else !x2.toList == x2.toList then true else !x3.toList == x3.toList) == false) q1) (congrArg (fun z => (bif bif !true then true else !z then true else !x3.toList == x3.toList) == false) q2)) (congrArg (fun z => (bif bif !true then true else !true then true else !z) == false) q3)) (And.intro (show 1 ≤ 1 from (by omega)) (And.intro (Eq.trans (Eq.trans (congrArg (fun z => (bif bif !z then true else !x2.toList == x2.toList then true else !x3.toList == x3.toList) == false) q1) (congrArg (fun z => (bif bif !true then true else !z then true else !x3.toList == x3.toList) == false) q2)) (congrArg (fun z => (bif bif !true then true else !true then true else !z) == false) q3)) (And.intro e8' (And.intro (Eq.trans (Eq.trans (congrArg (fun z => (bif bif !z then true else !x2.toList == x2.toList then true else !x3.toList == x3.toList) == false) q1) (congrArg (fun z => (bif bif !true then true else !z then true else !x3.toList == x3.toList) == false) q2)) (congrArg (fun z => (bif bif !true then true else !true then true else !z) == false) q3)) (And.intro e9' (And.intro (Eq.trans (Eq.trans (congrArg (fun z => (bif bif !z then true else !x2.toList == x2.toList then true else !x3.toList == x3.toList) == false) q1) (congrArg (fun z => (bif bif !true then true else !z then true else !x3.toList == x3.toList) == false) q2)) (congrArg (fun z => (bif bif !true then true else !true then true else !z) == false) q3)) (And.intro (Eq.trans (Eq.trans (Eq.trans (congrArg (fun z => bif bif bif !z then true else !x2.toList == x2.toList then true else !x3.toList == x3.toList then true else !x4 == x4) q1) (congrArg (fun z => bif bif bif !true then true else !z then true else !x3.toList == x3.toList then true else !x4 == x4) q2)) (congrArg (fun z => bif bif bif !true then true else !true then true else !z then true else !x4 == x4) q3)) (congrArg (fun z => bif bif bif !true then true else !true then true else !true then true else !z) q4)) (And.intro e10' (show ∀ (x : AV), x ∈ flatA encW q → noid0 x = true from encW_noid q)))))))))))))))))))))))))))))))))))))))))))))))))))))))))))))))))))))
  · unfold ppS
    exact g_x [] [.sel [], .keep [] []] trivial
theorem pp_lit (a b c d e f : ByteArray) : ([AV.str a, AV.str b, AV.str c, AV.str d, AV.str e, AV.str f] : List AV) = flatA encW [(a, b), (c, d), (e, f)] := rfl
theorem pathParts_v (s t : ByteArray) (l m : List Int) (hs : s.size ≤ 9223372036854775807) (ht : t.size ≤ 9223372036854775807) (hl : l.length ≤ 9223372036854775807) (hb : ∀ z ∈ l, 0 ≤ z ∧ z ≤ 255) (hm : m.length ≤ 9223372036854775807) (hc : ∀ z ∈ m, 0 ≤ z ∧ z ≤ 255) : CallsV Tryd.prog 5 [.str s, .str t, bsV l, bsV m] [] (fun av H' => av = .bool true ∧ H' = []) := by
  refine callsG_at Tryd.func5 (by kernel_rfl) ?_
  have aw := awake_v
  by_cases h : s.size ≤ 200 ∧ t.size ≤ 200
  · have c := pieces_v l hl hb
    have d := pieces_v m hm hc
    have hsz := pcF_sz l (min l.length 30)
    have hsy := pcF_sz m (min m.length 30)
    generalize pcF l (min l.length 30) = u at c hsz
    generalize pcF m (min m.length 30) = v at d hsy
    obtain ⟨du, _⟩ := dir_v u (by omega)
    have hdu : (dirF u).size ≤ 1000000 := by unfold dirF; rw [ByteArray.size_extract]; omega
    generalize dirF u = r at du hdu
    have hL := ppL [(s, t), (u, v), (u, r)] rfl (fun x hx => by
      simp only [List.mem_cons, List.not_mem_nil, or_false] at hx
      rcases hx with rfl | rfl | rfl <;> refine ⟨?_, ?_⟩ <;> simp only <;> omega)
    have lit := pp_lit s t u v u r
    generalize [(s, t), (u, v), (u, r)] = q at hL lit
    unfold ppS at hL
    have e1' := c
    have e2' := d
    have e3' := du
    have e4' := (congrArg (fun z => Blk.row 34 z) lit)
    have e5' := hL
    have e6' := aw
    refine g_q [⟨5, [.tm 14 (.bool false)], .no⟩, ⟨9, [], .br false .no⟩, ⟨14, [], .call (avOf e1') (blOf e1') []⟩, ⟨16, [], .call (avOf e2') (blOf e2') []⟩, ⟨19, [], .call (avOf e1') (blOf e1') []⟩, ⟨21, [], .call (avOf e1') (blOf e1') []⟩, ⟨22, [], .call (avOf e3') (blOf e3') []⟩, ⟨25, [.hp 0 (rhsOf e4')], .no⟩, ⟨27, [.sel [34, 35, 36]], .loop (exOf e5') (endOf e5')⟩, ⟨28, [], .call (avOf e6') (blOf e6') []⟩] [.sel [8]] Exit.ret (stOf 84 [(8, AV.bool true)] []) (And.intro (congrArg AV.bool (show decide ((↑s.size : Int) > (200 : Int)) = false from (by rw [decide_eq_false_iff_not]; omega))) (And.intro (show (bif false then true else decide ((↑t.size : Int) > (200 : Int))) = false from (by simp_all; omega)) (And.intro e1' (And.intro e2' (And.intro e1' (And.intro e1' (And.intro e3' (And.intro (congrArg some e4') (And.intro e5' e6'))))))))) ?_
    refine g_f [] [] (AV.bool true) ([]) trivial ?_
    exact ⟨rfl, rfl⟩
  · by_cases h1 : s.size ≤ 200
    · have h2 : ¬ t.size ≤ 200 := fun h2 => h ⟨h1, h2⟩
      have e1' := aw
      refine g_q [⟨5, [.tm 14 (.bool false)], .no⟩, ⟨9, [], .br true .no⟩, ⟨10, [], .call (avOf e1') (blOf e1') []⟩] [.sel [8]] Exit.ret (stOf 84 [(8, AV.bool true)] []) (And.intro (congrArg AV.bool (show decide ((↑s.size : Int) > (200 : Int)) = false from (by rw [decide_eq_false_iff_not]; omega))) (And.intro (show (bif false then true else decide ((↑t.size : Int) > (200 : Int))) = true from (by simp_all; omega)) e1')) ?_
      refine g_f [] [] (AV.bool true) ([]) trivial ?_
      exact ⟨rfl, rfl⟩
    · have e1' := aw
      refine g_q [⟨5, [.tm 14 (.bool true)], .no⟩, ⟨10, [], .call (avOf e1') (blOf e1') []⟩] [.sel [8]] Exit.ret (stOf 84 [(8, AV.bool true)] []) (And.intro (congrArg AV.bool (show decide ((↑s.size : Int) > (200 : Int)) = true from (by rw [decide_eq_true_iff]; omega))) (And.intro (show true = false → false = true from (by decide)) e1')) ?_
      refine g_f [] [] (AV.bool true) ([]) trivial ?_
      exact ⟨rfl, rfl⟩
end Go.Proofs.YtaljnmmnmnoinaaDoor
