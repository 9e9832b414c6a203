/-
  Stores: the law about what a key denotes.
-/
import Derived.Test.YtkdgnjoofhckeaaCL
namespace Go.Proofs.Ytkdgnjoofhckeaa
open Go Go.RowKit V
set_option linter.unusedSimpArgs false
set_option linter.unusedVariables false
set_option maxHeartbeats 20000000
def meH (n r : Int) (l : List It) (A : List Int) (K : List It) : List Blk := [.row 48 [.int .i64 n, .int .i64 r, .sl 3 0 l.length 3, .map 4], .row 44 (flatA (encKy n) K), .row 9 (flatA encSt K), .row 65 (flatA (encP n) l), .map (mapC A)]
def meH1 (n r : Int) (l : List It) (A : List Int) (K : List It) (e : It) : List Blk := [.row 48 [.int .i64 n, .int .i64 r, .sl 4 0 l.length 3, .map 5], .row 44 (flatA (encKy n) K), .row 9 (flatA encSt K), kRow (textF e.1 n) e.2, .row 65 (flatA (encP n) l), .map (mapC A)]
def m1S (z : List (Int × Int)) (k : Nat) (n r : Int) (l : List It) (A : List Int) (K : List It) (e : It) (j : Nat) : St := stOf 141 [(2, stepsV z), (7, .ptr 0 0), (9, .sl 1 0 K.length 2), (10, .sl 2 0 K.length 1), (11, .int .i64 (k : Int)), (12, .ptr 3 0), (76, .int .i64 (K.length : Int)), (77, .int .i64 (j : Int))] (meH1 n r l A K e)
theorem m1L (z : List (Int × Int)) (hz : ∀ x ∈ z, (0 ≤ x.1 ∧ x.1 ≤ 255) ∧ (0 ≤ x.2 ∧ x.2 ≤ 255)) (k : Nat) (hk : k < z.length) (hk2 : k < 50) (n r : Int) (l : List It) (A : List Int) (K : List It) (hK : K.length ≤ 1000) (e : It) (he : e.1 = conF (z.getD k (0, 0)).2) (hu : ∀ x ∈ K, textF x.1 n = textF e.1 n → x.2 = e.2 → x.1 = e.1) :
    LoopG Try.prog 0 Try.f5 1 (.exit 2) (stOf 141 [(2, stepsV z), (7, .ptr 0 0), (9, .sl 1 0 K.length 2), (10, .sl 2 0 K.length 1), (11, .int .i64 (k : Int)), (12, .ptr 3 0)] (meH1 n r l A K e)) (m1S z k n r l A K e 0) := by
  obtain ⟨⟨_, _⟩, b0, b1⟩ := getD_all hz hk (0, 0)
  have cv := content_v (z.getD k (0, 0)).2 b0 (by omega)
  have hat := steps_at z k hk
  rw [← he] at cv
  refine loopG_of K.length (fun j => m1S z k n r l A K e j) (by kernel_rfl) (by simp) ?_ ?_
  · intro j hj
    have h1 := ky_at n K j hj
    have h2 := st_at K j hj
    have h3 := ky_gk n K j hj
    have h4 := st_gk K j hj
    have hx := hu _ (getD_mem0 hj iD)
    have hb8 := bytes_u8 e.1
    have hsb := str_bytes e.1
    unfold m1S meH1
    generalize K.getD j iD = x at *
    obtain ⟨x1, x2⟩ := x
    obtain ⟨e1, e2⟩ := e
    simp only at hx h1 h2 hb8 hsb cv he ⊢
    by_cases hq : textF x1 n = textF e1 n ∧ x2 = e2
    · have q1 : (textF x1 n == textF e1 n) = true := by rw [hq.1]; exact beq_self_eq_true _
      have q2 : (x2 == e2) = true := by rw [hq.2]; exact beq_self_eq_true _
      have q3 : (x1.toList == e1.toList) = true := by rw [hx hq.1 hq.2]; exact beq_self_eq_true _
      clear hx he
      have e1' := (drop_ag0 (n := 2) (v := AV.agg [AV.int .u32 (textF x1 n), AV.int .i64 x2]) h1 rfl)
      have e2' := (drop_hd0 (v := AV.str x1) h2 rfl)
      have e3' := (congrArg (fun z => AV.fptr z) hat)
      have e4' := cv
      have e5' := (congrArg (fun z => AV.str z) hsb)
      have e6' := (congrArg (fun z => AV.int .i64 z) (wrap_i64 (e := (↑j : Int) + (1 : Int)) (by omega) (by omega)))
      exact g_x [⟨1, [], .br true .no⟩, ⟨7, [], .as (rhsOf e1')⟩, ⟨11, [], .br true .no⟩, ⟨12, [], .br true .no⟩, ⟨13, [], .br true .no⟩, ⟨14, [], .br true (.as (rhsOf e2'))⟩, ⟨15, [], .br true .no⟩, ⟨16, [], .br true .no⟩, ⟨17, [], .br true (.as (rhsOf e3'))⟩, ⟨18, [], .br true .no⟩, ⟨19, [], .br true .no⟩, ⟨20, [], .br true (.call (avOf e4') (blOf e4') [])⟩, ⟨21, [], .br true (.as (rhsOf e5'))⟩, ⟨22, [], .br true .no⟩, ⟨24, [], .br false .no⟩, ⟨25, [], .as (rhsOf e6')⟩] [.sel [2, 7, 9, 10, 11, 12, 76, 77]] (And.intro (show decide ((↑j : Int) < (↑K.length : Int)) = true from (by rw [decide_eq_true_iff]; omega)) (And.intro (show (0 : Int) ≤ (↑j : Int) ∧ (↑j : Int) < (↑K.length : Int) from (by omega)) (And.intro (show 2 ≤ (List.drop (0 + (↑j : Int).toNat * 2) (flatA (encKy n) K)).length from (drop_le0 (n := 2) h1 (by simp))) (And.intro e1' (And.intro (show 2 ≤ 2 from (by omega)) (And.intro (Eq.trans (congrArg (fun z => (z && (x2 == e2 && true)) == true) q1) (congrArg (fun z => (true && (z && true)) == true) q2)) (And.intro (Eq.trans (congrArg (fun z => (z && (x2 == e2 && true)) == true) q1) (congrArg (fun z => (true && (z && true)) == true) q2)) (And.intro (Eq.trans (congrArg (fun z => (z && (x2 == e2 && true)) == true) q1) (congrArg (fun z => (true && (z && true)) == true) q2)) (And.intro (show (0 : Int) ≤ (↑j : Int) ∧ (↑j : Int) < (↑K.length : Int) from (by omega)) (And.intro (Eq.trans (congrArg (fun z => (z && (x2 == e2 && true)) == true) q1) (congrArg (fun z => (true && (z && true)) == true) q2)) (And.intro (show 1 ≤ (List.drop (0 + (↑j : Int).toNat * 1) (flatA encSt K)).length from (drop_le0 (n := 1) h2 (by simp))) (And.intro e2' (And.intro (Eq.trans (congrArg (fun z => (z && (x2 == e2 && true)) == true) q1) (congrArg (fun z => (true && (z && true)) == true) q2)) (And.intro (Eq.trans (congrArg (fun z => (z && (x2 == e2 && true)) == true) q1) (congrArg (fun z => (true && (z && true)) == true) q2)) (And.intro (Eq.trans (congrArg (fun z => (z && (x2 == e2 && true)) == true) q1) (congrArg (fun z => (true && (z && true)) == true) q2)) (And.intro (show (0 : Int) ≤ (↑k : Int) ∧ (↑k : Int) < (↑z.length : Int) from (by omega)) (And.intro e3' (And.intro (Eq.trans (congrArg (fun z => (z && (x2 == e2 && true)) == true) q1) (congrArg (fun z => (true && (z && true)) == true) q2)) (And.intro (show (0 : Int) ≤ (1 : Int) ∧ (1 : Int) < (↑2 : Int) from (by omega)) (And.intro (Eq.trans (congrArg (fun z => (z && (x2 == e2 && true)) == true) q1) (congrArg (fun z => (true && (z && true)) == true) q2)) (And.intro (show 1 ≤ (AV.int .u8 (z.getD k ((0 : Int), (0 : Int))).snd :: flatA encZ (List.drop (k + 1) z)).length from (by exact Nat.le_of_ble_eq_true (by kernel_rfl))) (And.intro (Eq.trans (congrArg (fun z => (z && (x2 == e2 && true)) == true) q1) (congrArg (fun z => (true && (z && true)) == true) q2)) (And.intro e4' (And.intro (Eq.trans (congrArg (fun z => (z && (x2 == e2 && true)) == true) q1) (congrArg (fun z => (true && (z && true)) == true) q2)) (And.intro (show (bytesAV e1).all isU8 = true from (by omega)) (And.intro e5' (And.intro (Eq.trans (congrArg (fun z => (z && (x2 == e2 && true)) == true) q1) (congrArg (fun z => (true && (z && true)) == true) q2)) (And.intro (Eq.trans (Eq.trans (congrArg (fun z => bif z && (x2 == e2 && true) then !x1.toList == e1.toList else false) q1) (congrArg (fun z => bif true && (z && true) then !x1.toList == e1.toList else false) q2)) (congrArg (fun z => bif true && (true && true) then !z else false) q3)) e6'))))))))))))))))))))))))))))
    · have q1 : (textF x1 n == textF e1 n && x2 == e2) = false := by
        cases g1 : textF x1 n == textF e1 n <;> cases g2 : x2 == e2 <;> simp_all
      clear hx he
      have e1' := (drop_ag0 (n := 2) (v := AV.agg [AV.int .u32 (textF x1 n), AV.int .i64 x2]) h1 rfl)
      have e2' := (congrArg (fun z => AV.int .i64 z) (wrap_i64 (e := (↑j : Int) + (1 : Int)) (by omega) (by omega)))
      exact g_x [⟨1, [], .br true .no⟩, ⟨7, [], .as (rhsOf e1')⟩, ⟨11, [], .br false .no⟩, ⟨12, [], .br false .no⟩, ⟨13, [], .br false .no⟩, ⟨14, [], .br false .no⟩, ⟨15, [], .br false .no⟩, ⟨16, [], .br false .no⟩, ⟨17, [], .br false .no⟩, ⟨18, [], .br false .no⟩, ⟨19, [], .br false .no⟩, ⟨20, [], .br false .no⟩, ⟨21, [], .br false .no⟩, ⟨22, [], .br false .no⟩, ⟨24, [], .br false .no⟩, ⟨25, [], .as (rhsOf e2')⟩] [.sel [2, 7, 9, 10, 11, 12, 76, 77]] (And.intro (show decide ((↑j : Int) < (↑K.length : Int)) = true from (by rw [decide_eq_true_iff]; omega)) (And.intro (show (0 : Int) ≤ (↑j : Int) ∧ (↑j : Int) < (↑K.length : Int) from (by omega)) (And.intro (show 2 ≤ (List.drop (0 + (↑j : Int).toNat * 2) (flatA (encKy n) K)).length from (drop_le0 (n := 2) h1 (by simp))) (And.intro e1' (And.intro (show 2 ≤ 2 from (by omega)) (And.intro (show ((textF x1 n == textF e1 n && (x2 == e2 && true)) == true) = false from (by simp_all; done)) (And.intro (show ((textF x1 n == textF e1 n && (x2 == e2 && true)) == true) = false from (by simp_all; done)) (And.intro (show ((textF x1 n == textF e1 n && (x2 == e2 && true)) == true) = false from (by simp_all; done)) (And.intro (show ((textF x1 n == textF e1 n && (x2 == e2 && true)) == true) = false from (by simp_all; done)) (And.intro (show ((textF x1 n == textF e1 n && (x2 == e2 && true)) == true) = false from (by simp_all; done)) (And.intro (show ((textF x1 n == textF e1 n && (x2 == e2 && true)) == true) = false from (by simp_all; done)) (And.intro (show ((textF x1 n == textF e1 n && (x2 == e2 && true)) == true) = false from (by simp_all; done)) (And.intro (show ((textF x1 n == textF e1 n && (x2 == e2 && true)) == true) = false from (by simp_all; done)) (And.intro (show ((textF x1 n == textF e1 n && (x2 == e2 && true)) == true) = false from (by simp_all; done)) (And.intro (show ((textF x1 n == textF e1 n && (x2 == e2 && true)) == true) = false from (by simp_all; done)) (And.intro (show ((textF x1 n == textF e1 n && (x2 == e2 && true)) == true) = false from (by simp_all; done)) (And.intro (show ((textF x1 n == textF e1 n && (x2 == e2 && true)) == true) = false from (by simp_all; done)) (And.intro (show (textF x1 n == textF e1 n && (x2 == e2 && true)) = true → false = true from (by (simp; omega))) (And.intro (show (bif textF x1 n == textF e1 n && (x2 == e2 && true) then false else false) = false from (by simp_all; done)) e2')))))))))))))))))))
  · unfold m1S meH1
    exact g_x [⟨1, [], .br false .no⟩] [.sel [2, 7, 9, 10, 11, 12]] (show decide ((↑K.length : Int) < (↑K.length : Int)) = false from (by rw [decide_eq_false_iff_not]; omega))
def m2S (z : List (Int × Int)) (k : Nat) (n r : Int) (l : List It) (A : List Int) (K : List It) (j : Nat) : St := stOf 141 [(2, stepsV z), (7, .ptr 0 0), (9, .sl 1 0 K.length 2), (10, .sl 2 0 K.length 1), (11, .int .i64 (k : Int)), (116, .int .i64 (K.length : Int)), (117, .int .i64 (j : Int))] (meH n r l A K)
theorem m2L (z : List (Int × Int)) (k : Nat) (hk2 : k < 50) (n : Int) (R m : Nat) (hR : R ≤ 32) (l : List It) (A : List Int) (K : List It) (hK : K.length ≤ 1000) (hi : Inv2 n R m l A K) :
    LoopG Try.prog 0 Try.f5 2 (.exit 4) (stOf 141 [(2, stepsV z), (7, .ptr 0 0), (9, .sl 1 0 K.length 2), (10, .sl 2 0 K.length 1), (11, .int .i64 (k : Int))] (meH n (R : Int) (getLs n K l K.length) A K)) (m2S z k n (R : Int) l A K 0) := by
  refine loopG_of K.length (fun j => m2S z k n (R : Int) (getLs n K l j) A K j) (by kernel_rfl) (by simp [getLs]) ?_ ?_
  · intro j hj
    have h1 := ky_at n K j hj
    have h2 := st_at K j hj
    have h3 := ky_gk n K j hj
    have h4 := st_gk K j hj
    have hs := getLs_inv hi j
    have hmem := getD_mem0 hj iD
    rw [show getLs n K l (j + 1) = getL n (getLs n K l j) (K.getD j iD) from rfl]
    generalize getLs n K l j = q at *
    generalize K.getD j iD = x at *
    have hql := hs.len
    unfold getL
    by_cases hx : idxK n q (textF x.1 n) x.2 < q.length
    · have g1 := get_T n (R : Int) q A (textF x.1 n) x.2 (by omega) _ hx (hs.sz _ (getD_mem0 hx _)) (idxP_lt _ _) (idxP_eq (pK n _ _) q hx)
      have hk := (keyQ_iff n _ _ _).1 (idxP_eq (pK n (textF x.1 n) x.2) q hx)
      have he := hs.uniq _ x (Or.inl (getD_mem0 hx iD)) (Or.inr hmem) hk.1 hk.2
      have hle : (q.eraseIdx (idxK n q (textF x.1 n) x.2) ++ [q.getD (idxK n q (textF x.1 n) x.2) iD]).length = q.length := by
        rw [snoc_len, List.length_eraseIdx_of_lt hx]; omega
      rw [if_pos hx]
      change (q.getD (idxK n q (textF x.1 n) x.2) iD).1 = x.1 at he
      rw [he] at g1
      generalize q.eraseIdx (idxK n q (textF x.1 n) x.2) ++ [q.getD (idxK n q (textF x.1 n) x.2) iD] = q' at *
      have hb8 := bytes_u8 x.1
      have hsb := str_bytes x.1
      unfold storeH storeD at g1
      unfold m2S meH
      clear hk he hs hi
      have e1' := (drop_ag0 (n := 2) (v := AV.agg [AV.int .u32 (textF x.fst n), AV.int .i64 x.snd]) h1 rfl)
      have e2' := g1
      have e3' := (congrArg (fun z => AV.str z) hsb)
      have e4' := (drop_hd0 (v := AV.str x.fst) h2 rfl)
      have e5' := (congrArg (fun z => AV.bool !z) (qs (x.fst.toList)))
      have e6' := (congrArg (fun z => AV.int .i64 z) (wrap_i64 (e := (↑j : Int) + (1 : Int)) (by omega) (by omega)))
      exact g_x [⟨1, [], .br true .no⟩, ⟨8, [], .as (rhsOf e1')⟩, ⟨9, [], .callS [0, 3, 4] [false, true, true] (avOf e2') (blOf e2') [false, false, true, true]⟩, ⟨18, [], .as (rhsOf e3')⟩, ⟨22, [], .as (rhsOf e4')⟩, ⟨23, [], .as (rhsOf e5')⟩, ⟨26, [], .as (rhsOf e6')⟩] [.sel [2, 7, 9, 10, 11, 116, 117], .keep [0, 1, 2, 5, 4] [false, true, true, true, true]] (And.intro (show decide ((↑j : Int) < (↑K.length : Int)) = true from (by rw [decide_eq_true_iff]; omega)) (And.intro (show (0 : Int) ≤ (↑j : Int) ∧ (↑j : Int) < (↑K.length : Int) from (by omega)) (And.intro (show 2 ≤ (List.drop (0 + (↑j : Int).toNat * 2) (flatA (encKy n) K)).length from (drop_le0 (n := 2) h1 (by simp))) (And.intro e1' (And.intro (show ∀ (x : AV), x ∈ flatA (encP n) q → noid0 x = true from its_noid n q) (And.intro (show ∀ (q : AV × AV), q ∈ mapC A → plain1 q.fst = true ∧ plain1 q.snd = true from map_plainC A) (And.intro (show ∀ (q : AV × AV), q ∈ mapC A → plain1 q.fst = true ∧ plain1 q.snd = true from map_plainC A) (And.intro (show ∀ (x : AV), x ∈ flatA (encP n) q' → noid0 x = true from its_noid n q') (And.intro e2' (And.intro (show (bytesAV x.fst).all isU8 = true from (by omega)) (And.intro e3' (And.intro (show (0 : Int) ≤ (↑j : Int) ∧ (↑j : Int) < (↑K.length : Int) from (by omega)) (And.intro (show 1 ≤ (List.drop (0 + (↑j : Int).toNat * 1) (flatA encSt K)).length from (drop_le0 (n := 1) h2 (by simp))) (And.intro e4' (And.intro e5' (And.intro e6' (And.intro (show ∀ (x : AV), x ∈ flatA (encKy n) K → noid0 x = true from ky_noid n K) (And.intro (show ∀ (x : AV), x ∈ flatA encSt K → noid0 x = true from st_noid K) (And.intro (show ∀ (x : AV), x ∈ flatA (encP n) q' → noid0 x = true from its_noid n q') (show ∀ (q : AV × AV), q ∈ mapC A → plain1 q.fst = true ∧ plain1 q.snd = true from map_plainC A))))))))))))))))))))
    · have g1 := get_F n (R : Int) q A (textF x.1 n) x.2 (by omega) (idxP_no (pK n (textF x.1 n) x.2) _ hx)
      rw [if_neg hx]
      unfold storeH storeD at g1
      unfold m2S meH
      clear hs hi
      have e1' := (drop_ag0 (n := 2) (v := AV.agg [AV.int .u32 (textF x.fst n), AV.int .i64 x.snd]) h1 rfl)
      have e2' := g1
      have e3' := (congrArg (fun z => AV.int .i64 z) (wrap_i64 (e := (↑j : Int) + (1 : Int)) (by omega) (by omega)))
      exact g_x [⟨1, [], .br true .no⟩, ⟨8, [], .as (rhsOf e1')⟩, ⟨9, [], .callS [0, 3, 4] [false, true, true] (avOf e2') (blOf e2') [false, false, true, true]⟩, ⟨26, [], .as (rhsOf e3')⟩] [.sel [2, 7, 9, 10, 11, 116, 117], .keep [0, 1, 2, 5, 4] [false, true, true, true, true]] (And.intro (show decide ((↑j : Int) < (↑K.length : Int)) = true from (by rw [decide_eq_true_iff]; omega)) (And.intro (show (0 : Int) ≤ (↑j : Int) ∧ (↑j : Int) < (↑K.length : Int) from (by omega)) (And.intro (show 2 ≤ (List.drop (0 + (↑j : Int).toNat * 2) (flatA (encKy n) K)).length from (drop_le0 (n := 2) h1 (by simp))) (And.intro e1' (And.intro (show ∀ (x : AV), x ∈ flatA (encP n) q → noid0 x = true from its_noid n q) (And.intro (show ∀ (q : AV × AV), q ∈ mapC A → plain1 q.fst = true ∧ plain1 q.snd = true from map_plainC A) (And.intro (show ∀ (q : AV × AV), q ∈ mapC A → plain1 q.fst = true ∧ plain1 q.snd = true from map_plainC A) (And.intro (show ∀ (x : AV), x ∈ flatA (encP n) q → noid0 x = true from its_noid n q) (And.intro e2' (And.intro (show false = true → false = true from (fun h => h)) (And.intro e3' (And.intro (show ∀ (x : AV), x ∈ flatA (encKy n) K → noid0 x = true from ky_noid n K) (And.intro (show ∀ (x : AV), x ∈ flatA encSt K → noid0 x = true from st_noid K) (And.intro (show ∀ (x : AV), x ∈ flatA (encP n) q → noid0 x = true from its_noid n q) (show ∀ (q : AV × AV), q ∈ mapC A → plain1 q.fst = true ∧ plain1 q.snd = true from map_plainC A)))))))))))))))
  · unfold m2S meH
    exact g_x [⟨1, [], .br false .no⟩] [.sel [2, 7, 9, 10, 11]] (show decide ((↑K.length : Int) < (↑K.length : Int)) = false from (by rw [decide_eq_false_iff_not]; omega))
end Go.Proofs.Ytkdgnjoofhckeaa
