/-
  Stores: the law about what a key denotes: all steps.
-/
import Derived.Test.YtkdgnjoofhckeaaCM
namespace Go.Proofs.Ytkdgnjoofhckeaa
open Go Go.RowKit V
set_option linter.unusedSimpArgs false
set_option linter.unusedVariables false
set_option maxHeartbeats 20000000
def evL (a b : Int) (l : List It) : List It := if a.tmod 4 = 3 then l.drop (min (b.tmod 4).toNat l.length) else l
theorem evL_inv {n : Int} {R k : Nat} {l : List It} {A : List Int} {K : List It} (a b : Int) (h : Inv2 n R k l A K) : Inv2 n R k (evL a b l) A K := by
  unfold evL
  split
  · exact h.sub (by rw [List.length_drop]; have := h.len; omega) fun x hx => List.mem_of_mem_drop hx
  · exact h
structure Sq2 where
  l : List It
  A : List Int
  K : List It
def stepM (n : Int) (R : Nat) (q : Sq2) (a b : Int) : Sq2 :=
  ⟨getLs n (q.K ++ [putE n (evL a b q.l) q.A (conF b)]) (putL n R (evL a b q.l) q.A (conF b)) (q.K ++ [putE n (evL a b q.l) q.A (conF b)]).length, putA n (evL a b q.l) q.A (conF b), q.K ++ [putE n (evL a b q.l) q.A (conF b)]⟩
theorem stepM_inv {n : Int} {R k : Nat} (hR : 0 < R) (q : Sq2) (a b : Int) (h : Inv2 n R k q.l q.A q.K ∧ q.K.length = k) : Inv2 n R (k + 1) (stepM n R q a b).l (stepM n R q a b).A (stepM n R q a b).K ∧ (stepM n R q a b).K.length = k + 1 :=
  ⟨getLs_inv (put_inv hR (conF b) (conF_sz b) (evL_inv a b h.1)) _, by show (q.K ++ [_]).length = _; rw [List.length_append, h.2]; rfl⟩
def runM (n : Int) (R : Nat) (z : List (Int × Int)) : Nat → Sq2
  | 0 => ⟨[], [], []⟩
  | k + 1 => stepM n R (runM n R z k) (z.getD k (0, 0)).1 (z.getD k (0, 0)).2
theorem runM_inv {n : Int} {R : Nat} (hR : 0 < R) (z : List (Int × Int)) : ∀ k, Inv2 n R k (runM n R z k).l (runM n R z k).A (runM n R z k).K ∧ (runM n R z k).K.length = k
  | 0 => ⟨⟨Nat.zero_le _, fun x hx => by simp [runM] at hx, Nat.le_refl _, fun x hx => by simp [runM] at hx, fun x y hx => by simp [runM] at hx⟩, rfl⟩
  | k + 1 => stepM_inv hR _ _ _ (runM_inv hR z k)
def m0S (z : List (Int × Int)) (n r : Int) (q : Sq2) (k : Nat) : St := stOf 141 [(2, stepsV z), (7, .ptr 0 0), (9, .sl 1 0 q.K.length 2), (10, .sl 2 0 q.K.length 1), (11, .int .i64 (k : Int))] (meH n r q.l q.A q.K)
theorem m0L (n : Int) (R : Nat) (hR : 0 < R ∧ R ≤ 32) (z : List (Int × Int)) (hz : ∀ x ∈ z, (0 ≤ x.1 ∧ x.1 ≤ 255) ∧ (0 ≤ x.2 ∧ x.2 ≤ 255)) (hl : z.length ≤ 9223372036854775807) : LoopG Try.prog 0 Try.f5 0 (.exit 0) (stOf 141 [] []) (m0S z n (R : Int) ⟨[], [], []⟩ 0) := by
  refine loopG_of (min z.length 50) (fun k => m0S z n (R : Int) (runM n R z k) k) (by kernel_rfl) (by simp [runM]) ?_ ?_
  · intro k hk
    have hk1 : k < z.length := by omega
    have hk2 : k < 50 := by omega
    have hat := steps_at z k hk1
    obtain ⟨⟨a0, a1⟩, b0, b1⟩ := getD_all hz hk1 (0, 0)
    obtain ⟨hi, hKl⟩ := runM_inv hR.1 z (n := n) k
    rw [show runM n R z (k + 1) = stepM n R (runM n R z k) (z.getD k (0, 0)).1 (z.getD k (0, 0)).2 from rfl]
    generalize runM n R z k = q at *
    obtain ⟨l, A, K⟩ := q
    simp only at hi hKl
    have hi1 := evL_inv (z.getD k (0, 0)).1 (z.getD k (0, 0)).2 hi
    have hi2 := put_inv hR.1 (conF (z.getD k (0, 0)).2) (conF_sz _) hi1
    have cv := content_v (z.getD k (0, 0)).2 b0 (by omega)
    have pv := put_v n R hR (evL (z.getD k (0, 0)).1 (z.getD k (0, 0)).2 l) A (conF (z.getD k (0, 0)).2) (conF_sz _) hi1.len (by have := hi.cnt; omega)
    have hec := putE_c n (evL (z.getD k (0, 0)).1 (z.getD k (0, 0)).2 l) A (conF (z.getD k (0, 0)).2)
    have hu : ∀ x ∈ K, textF x.1 n = textF (putE n (evL (z.getD k (0, 0)).1 (z.getD k (0, 0)).2 l) A (conF (z.getD k (0, 0)).2)).1 n → x.2 = (putE n (evL (z.getD k (0, 0)).1 (z.getD k (0, 0)).2 l) A (conF (z.getD k (0, 0)).2)).2 → x.1 = (putE n (evL (z.getD k (0, 0)).1 (z.getD k (0, 0)).2 l) A (conF (z.getD k (0, 0)).2)).1 :=
      fun x hx h1 h2 => hi2.uniq x _ (Or.inr (List.mem_append_left _ hx)) (Or.inr (List.mem_append_right _ (List.mem_singleton.2 rfl))) h1 h2
    have L1 := m1L z hz k hk1 hk2 n (R : Int) (putL n R (evL (z.getD k (0, 0)).1 (z.getD k (0, 0)).2 l) A (conF (z.getD k (0, 0)).2)) (putA n (evL (z.getD k (0, 0)).1 (z.getD k (0, 0)).2 l) A (conF (z.getD k (0, 0)).2)) K (by omega) _ hec hu
    have L2 := m2L z k hk2 n R _ hR.2 _ _ _ (by rw [List.length_append, hKl, List.length_singleton]; omega) hi2
    have ev := evict_v n (R : Int) l A ((z.getD k (0, 0)).2.tmod 4) (by have := hi.len; omega)
    have hev : evL (z.getD k (0, 0)).1 (z.getD k (0, 0)).2 l = if (z.getD k (0, 0)).1.tmod 4 = 3 then l.drop (min ((z.getD k (0, 0)).2.tmod 4).toNat l.length) else l := rfl
    unfold stepM
    simp only
    have hm4 : 0 ≤ (z.getD k (0, 0)).2.tmod 4 ∧ (z.getD k (0, 0)).2.tmod 4 < 4 := by rw [Int.tmod_eq_emod_of_nonneg b0]; omega
    have hsz := (conF_sz (z.getD k (0, 0)).2).2
    have hky := ky_snoc n K (putE n (evL (z.getD k (0, 0)).1 (z.getD k (0, 0)).2 l) A (conF (z.getD k (0, 0)).2))
    have hst := st_snoc K (putE n (evL (z.getD k (0, 0)).1 (z.getD k (0, 0)).2 l) A (conF (z.getD k (0, 0)).2))
    have hlk : (K ++ [putE n (evL (z.getD k (0, 0)).1 (z.getD k (0, 0)).2 l) A (conF (z.getD k (0, 0)).2)]).length = K.length + 1 := by simp
    clear hu hi2 hi1 hi hz
    generalize evL (z.getD k (0, 0)).1 (z.getD k (0, 0)).2 l = l1 at *
    generalize putL n R l1 A (conF (z.getD k (0, 0)).2) = l2 at *
    generalize putA n l1 A (conF (z.getD k (0, 0)).2) = A2 at *
    generalize putE n l1 A (conF (z.getD k (0, 0)).2) = e at *
    rw [← hec] at cv pv hsz
    generalize hK2 : K ++ [e] = K2 at *
    generalize getLs n K2 l2 K2.length = l3 at *
    have hb8 := bytes_u8 e.1
    have hsb := str_bytes e.1
    have hgK : K.length * 2 ≤ (flatA (encKy n) K).length := Nat.le_of_eq (ky_len n K).symm
    have hgS : K.length * 1 ≤ (flatA encSt K).length := Nat.le_of_eq (st_len K).symm
    have n1 := ky_noid n K2
    have n2 := st_noid K2
    unfold storeH storeD at pv ev
    unfold m1S meH1 at L1
    unfold m2S meH at L2
    simp only [hlk] at L2
    unfold m0S meH
    rw [show (⟨l3, A2, K2⟩ : Sq2).K.length = K.length + 1 from hlk]
    obtain ⟨e1, e2⟩ := e
    simp only at *
    clear hec hK2 hlk
    by_cases ha : (z.getD k (0, 0)).1.tmod 4 = 3
    · rw [if_pos ha] at hev
      have ha' : ((z.getD k (0, 0)).1.tmod 4 == 3) = true := by rw [ha]; rfl
      rw [← hev] at ev
      clear hev
      have e1' := (congrArg (fun z => AV.fptr z) hat)
      have e2' := (congrArg (fun z => AV.int .i64 z) (wrap_i64 (e := (z.getD k ((0 : Int), (0 : Int))).snd.tmod (4 : Int)) (by omega) (by omega)))
      have e3' := ev
      have e4' := cv
      have e5' := pv
      have e6' := L1
      have e7' := (congrArg (fun z => AV.str z) hsb)
      have e8' := (congrArg (fun z => Blk.row 9 z) hst)
      have e9' := (congrArg (fun z => Blk.row 44 z) hky)
      have e10' := L2
      have e11' := (congrArg (fun z => AV.int .i64 z) (wrap_i64 (e := (↑k : Int) + (1 : Int)) (by omega) (by omega)))
      exact g_xB [⟨5, [.tm 40 (.bool true)], .no⟩, ⟨8, [], .br true .no⟩, ⟨11, [], .as (rhsOf e1')⟩, ⟨16, [], .br true .no⟩, ⟨20, [], .as (rhsOf e1')⟩, ⟨24, [], .as (rhsOf e2')⟩, ⟨25, [], .callS [0, 3, 4] [false, true, true] (avOf e3') (blOf e3') [false, false, true, true]⟩, ⟨29, [], .as (rhsOf e1')⟩, ⟨32, [], .call (avOf e4') (blOf e4') []⟩, ⟨33, [], .callS [0, 5, 4] [false, true, true] (avOf e5') (blOf e5') [false, false, true, true]⟩, ⟨46, [.sel [2, 7, 9, 10, 11, 12, 76, 77], .keep [0, 1, 2, 7, 6, 4] [false, true, true, false, true, true]], .loop (exOf e6') (endOf e6')⟩, ⟨54, [], .as (rhsOf e1')⟩, ⟨57, [], .call (avOf e4') (blOf e4') []⟩, ⟨58, [], .as (rhsOf e7')⟩, ⟨61, [.hp 9 (rhsOf e8')], .no⟩, ⟨63, [.hp 7 (rhsOf e9')], .no⟩, ⟨66, [.sel [2, 7, 9, 10, 11, 116, 117], .keep [0, 7, 9, 4, 5] [false, true, true, true, true]], .loop (exOf e10') (endOf e10')⟩, ⟨68, [], .as (rhsOf e11')⟩] [.sel [2, 7, 9, 10, 11]] (And.intro (congrArg AV.bool (show decide ((↑k : Int) < (↑z.length : Int)) = true from (by rw [decide_eq_true_iff]; omega))) (And.intro (show (bif true then decide ((↑k : Int) < (50 : Int)) else false) = true from (by simp_all; omega)) (And.intro (show (0 : Int) ≤ (↑k : Int) ∧ (↑k : Int) < (↑z.length : Int) from (by omega)) (And.intro e1' (And.intro (show (0 : Int) ≤ (0 : Int) ∧ (0 : Int) < (↑2 : Int) from (by omega)) (And.intro (show 1 ≤ (AV.int .u8 (z.getD k ((0 : Int), (0 : Int))).fst :: AV.int .u8 (z.getD k ((0 : Int), (0 : Int))).snd :: flatA encZ (List.drop (k + 1) z)).length from (by exact Nat.le_of_ble_eq_true (by kernel_rfl))) (And.intro (show (4 : Int) ≠ (0 : Int) from (by omega)) (And.intro (show ((z.getD k ((0 : Int), (0 : Int))).fst.tmod (4 : Int) == (3 : Int)) = true from (by assumption)) (And.intro (show (0 : Int) ≤ (↑k : Int) ∧ (↑k : Int) < (↑z.length : Int) from (by omega)) (And.intro e1' (And.intro (show (0 : Int) ≤ (1 : Int) ∧ (1 : Int) < (↑2 : Int) from (by omega)) (And.intro (show 1 ≤ (AV.int .u8 (z.getD k ((0 : Int), (0 : Int))).snd :: flatA encZ (List.drop (k + 1) z)).length from (by exact Nat.le_of_ble_eq_true (by kernel_rfl))) (And.intro (show (4 : Int) ≠ (0 : Int) from (by omega)) (And.intro e2' (And.intro (show ∀ (x : AV), x ∈ flatA (encP n) l → noid0 x = true from its_noid n l) (And.intro (show ∀ (q : AV × AV), q ∈ mapC A → plain1 q.fst = true ∧ plain1 q.snd = true from map_plainC A) (And.intro (show ∀ (q : AV × AV), q ∈ mapC A → plain1 q.fst = true ∧ plain1 q.snd = true from map_plainC A) (And.intro (show ∀ (x : AV), x ∈ flatA (encP n) l1 → noid0 x = true from its_noid n l1) (And.intro e3' (And.intro (show (0 : Int) ≤ (↑k : Int) ∧ (↑k : Int) < (↑z.length : Int) from (by omega)) (And.intro e1' (And.intro (show (0 : Int) ≤ (1 : Int) ∧ (1 : Int) < (↑2 : Int) from (by omega)) (And.intro (show 1 ≤ (AV.int .u8 (z.getD k ((0 : Int), (0 : Int))).snd :: flatA encZ (List.drop (k + 1) z)).length from (by exact Nat.le_of_ble_eq_true (by kernel_rfl))) (And.intro e4' (And.intro (show ∀ (x : AV), x ∈ flatA (encP n) l1 → noid0 x = true from its_noid n l1) (And.intro (show ∀ (q : AV × AV), q ∈ mapC A → plain1 q.fst = true ∧ plain1 q.snd = true from map_plainC A) (And.intro (show ∀ (q : AV × AV), q ∈ mapC A2 → plain1 q.fst = true ∧ plain1 q.snd = true from map_plainC A2) (And.intro (show ∀ (x : AV), x ∈ flatA (encP n) l2 → noid0 x = true from its_noid n l2) (And.intro e5' (And.intro (show 2 ≤ 2 from (by omega)) (And.intro (show ∀ (x : AV), x ∈ flatA (encKy n) K → noid0 x = true from ky_noid n K) (And.intro (show ∀ (x : AV), x ∈ flatA encSt K → noid0 x = true from st_noid K) (And.intro (show ∀ (x : AV), x ∈ flatA (encP n) l2 → noid0 x = true from its_noid n l2) (And.intro (show ∀ (q : AV × AV), q ∈ mapC A2 → plain1 q.fst = true ∧ plain1 q.snd = true from map_plainC A2) (And.intro e6' (And.intro (show 2 ≤ 2 from (by omega)) (And.intro (show (0 : Int) ≤ (↑k : Int) ∧ (↑k : Int) < (↑z.length : Int) from (by omega)) (And.intro e1' (And.intro (show K.length * 2 ≤ (flatA (encKy n) K).length from (by omega)) (And.intro (show 2 ≤ 2 from (by omega)) (And.intro (show (K.length + 1) * 16 ≤ 140737488355328 from (by omega)) (And.intro (show K.length + 1 ≤ maxLen from (by (unfold maxLen; omega))) (And.intro (show (0 : Int) ≤ (↑k : Int) ∧ (↑k : Int) < (↑z.length : Int) from (by omega)) (And.intro e1' (And.intro (show (0 : Int) ≤ (1 : Int) ∧ (1 : Int) < (↑2 : Int) from (by omega)) (And.intro (show (0 : Int) ≤ (↑k : Int) ∧ (↑k : Int) < (↑z.length : Int) from (by omega)) (And.intro e1' (And.intro (show K.length * 2 ≤ (flatA (encKy n) K).length from (by omega)) (And.intro (show 2 ≤ 2 from (by omega)) (And.intro (show (K.length + 1) * 16 ≤ 140737488355328 from (by omega)) (And.intro (show K.length + 1 ≤ maxLen from (by (unfold maxLen; omega))) (And.intro (show (0 : Int) ≤ (1 : Int) ∧ (1 : Int) < (↑2 : Int) from (by omega)) (And.intro (show 1 ≤ (AV.int .u8 (z.getD k ((0 : Int), (0 : Int))).snd :: flatA encZ (List.drop (k + 1) z)).length from (by exact Nat.le_of_ble_eq_true (by kernel_rfl))) (And.intro (show (0 : Int) ≤ (1 : Int) ∧ (1 : Int) < (↑2 : Int) from (by omega)) (And.intro (show K.length * 2 ≤ (flatA (encKy n) K).length from (by omega)) (And.intro (show 2 ≤ 2 from (by omega)) (And.intro (show (K.length + 1) * 16 ≤ 140737488355328 from (by omega)) (And.intro (show K.length + 1 ≤ maxLen from (by (unfold maxLen; omega))) (And.intro (show 1 ≤ (AV.int .u8 (z.getD k ((0 : Int), (0 : Int))).snd :: flatA encZ (List.drop (k + 1) z)).length from (by exact Nat.le_of_ble_eq_true (by kernel_rfl))) (And.intro (show 1 ≤ (AV.int .u8 (z.getD k ((0 : Int), (0 : Int))).snd :: flatA encZ (List.drop (k + 1) z)).length from (by exact Nat.le_of_ble_eq_true (by kernel_rfl))) (And.intro (show K.length * 2 ≤ (flatA (encKy n) K).length from (by omega)) (And.intro (show 2 ≤ 2 from (by omega)) (And.intro (show (K.length + 1) * 16 ≤ 140737488355328 from (by omega)) (And.intro (show K.length + 1 ≤ maxLen from (by (unfold maxLen; omega))) (And.intro e4' (And.intro (show (bytesAV e1).all isU8 = true from (by omega)) (And.intro e7' (And.intro (show K.length * 1 ≤ (flatA encSt K).length from (by omega)) (And.intro (show 1 ≤ 1 from (by omega)) (And.intro (show (K.length + 1) * 16 ≤ 140737488355328 from (by omega)) (And.intro (show K.length + 1 ≤ maxLen from (by (unfold maxLen; omega))) (And.intro (congrArg some e8') (And.intro (congrArg some e9') (And.intro (show ∀ (x : AV), x ∈ flatA (encKy n) K2 → noid0 x = true from n1) (And.intro (show ∀ (x : AV), x ∈ flatA encSt K2 → noid0 x = true from n2) (And.intro (show ∀ (x : AV), x ∈ flatA (encP n) l2 → noid0 x = true from its_noid n l2) (And.intro (show ∀ (q : AV × AV), q ∈ mapC A2 → plain1 q.fst = true ∧ plain1 q.snd = true from map_plainC A2) (And.intro e10' e11'))))))))))))))))))))))))))))))))))))))))))))))))))))))))))))))))))))))))))))))
    · rw [if_neg ha] at hev
      have ha' : ((z.getD k (0, 0)).1.tmod 4 == 3) = false := beq_eq_false_iff_ne.2 ha
      subst hev
      clear ev
      have e1' := (congrArg (fun z => AV.fptr z) hat)
      have e2' := cv
      have e3' := pv
      have e4' := L1
      have e5' := (congrArg (fun z => AV.str z) hsb)
      have e6' := (congrArg (fun z => Blk.row 9 z) hst)
      have e7' := (congrArg (fun z => Blk.row 44 z) hky)
      have e8' := L2
      have e9' := (congrArg (fun z => AV.int .i64 z) (wrap_i64 (e := (↑k : Int) + (1 : Int)) (by omega) (by omega)))
      exact g_xB [⟨5, [.tm 40 (.bool true)], .no⟩, ⟨8, [], .br true .no⟩, ⟨11, [], .as (rhsOf e1')⟩, ⟨16, [], .br false .no⟩, ⟨20, [], .as (rhsOf e1')⟩, ⟨23, [], .call (avOf e2') (blOf e2') []⟩, ⟨24, [], .callS [0, 3, 4] [false, true, true] (avOf e3') (blOf e3') [false, false, true, true]⟩, ⟨37, [.sel [2, 7, 9, 10, 11, 12, 76, 77], .keep [0, 1, 2, 6, 5, 4] [false, true, true, false, true, true]], .loop (exOf e4') (endOf e4')⟩, ⟨45, [], .as (rhsOf e1')⟩, ⟨48, [], .call (avOf e2') (blOf e2') []⟩, ⟨49, [], .as (rhsOf e5')⟩, ⟨52, [.hp 9 (rhsOf e6')], .no⟩, ⟨54, [.hp 7 (rhsOf e7')], .no⟩, ⟨57, [.sel [2, 7, 9, 10, 11, 116, 117], .keep [0, 7, 9, 4, 5] [false, true, true, true, true]], .loop (exOf e8') (endOf e8')⟩, ⟨59, [], .as (rhsOf e9')⟩] [.sel [2, 7, 9, 10, 11]] (And.intro (congrArg AV.bool (show decide ((↑k : Int) < (↑z.length : Int)) = true from (by rw [decide_eq_true_iff]; omega))) (And.intro (show (bif true then decide ((↑k : Int) < (50 : Int)) else false) = true from (by simp_all; omega)) (And.intro (show (0 : Int) ≤ (↑k : Int) ∧ (↑k : Int) < (↑z.length : Int) from (by omega)) (And.intro e1' (And.intro (show (0 : Int) ≤ (0 : Int) ∧ (0 : Int) < (↑2 : Int) from (by omega)) (And.intro (show 1 ≤ (AV.int .u8 (z.getD k ((0 : Int), (0 : Int))).fst :: AV.int .u8 (z.getD k ((0 : Int), (0 : Int))).snd :: flatA encZ (List.drop (k + 1) z)).length from (by exact Nat.le_of_ble_eq_true (by kernel_rfl))) (And.intro (show (4 : Int) ≠ (0 : Int) from (by omega)) (And.intro (show ((z.getD k ((0 : Int), (0 : Int))).fst.tmod (4 : Int) == (3 : Int)) = false from (by assumption)) (And.intro (show (0 : Int) ≤ (↑k : Int) ∧ (↑k : Int) < (↑z.length : Int) from (by omega)) (And.intro e1' (And.intro (show (0 : Int) ≤ (1 : Int) ∧ (1 : Int) < (↑2 : Int) from (by omega)) (And.intro (show 1 ≤ (AV.int .u8 (z.getD k ((0 : Int), (0 : Int))).snd :: flatA encZ (List.drop (k + 1) z)).length from (by exact Nat.le_of_ble_eq_true (by kernel_rfl))) (And.intro e2' (And.intro (show ∀ (x : AV), x ∈ flatA (encP n) l1 → noid0 x = true from its_noid n l1) (And.intro (show ∀ (q : AV × AV), q ∈ mapC A → plain1 q.fst = true ∧ plain1 q.snd = true from map_plainC A) (And.intro (show ∀ (q : AV × AV), q ∈ mapC A2 → plain1 q.fst = true ∧ plain1 q.snd = true from map_plainC A2) (And.intro (show ∀ (x : AV), x ∈ flatA (encP n) l2 → noid0 x = true from its_noid n l2) (And.intro e3' (And.intro (show 2 ≤ 2 from (by omega)) (And.intro (show ∀ (x : AV), x ∈ flatA (encKy n) K → noid0 x = true from ky_noid n K) (And.intro (show ∀ (x : AV), x ∈ flatA encSt K → noid0 x = true from st_noid K) (And.intro (show ∀ (x : AV), x ∈ flatA (encP n) l2 → noid0 x = true from its_noid n l2) (And.intro (show ∀ (q : AV × AV), q ∈ mapC A2 → plain1 q.fst = true ∧ plain1 q.snd = true from map_plainC A2) (And.intro e4' (And.intro (show 2 ≤ 2 from (by omega)) (And.intro (show (0 : Int) ≤ (↑k : Int) ∧ (↑k : Int) < (↑z.length : Int) from (by omega)) (And.intro e1' (And.intro (show K.length * 2 ≤ (flatA (encKy n) K).length from (by omega)) (And.intro (show 2 ≤ 2 from (by omega)) (And.intro (show (K.length + 1) * 16 ≤ 140737488355328 from (by omega)) (And.intro (show K.length + 1 ≤ maxLen from (by (unfold maxLen; omega))) (And.intro (show (0 : Int) ≤ (↑k : Int) ∧ (↑k : Int) < (↑z.length : Int) from (by omega)) (And.intro e1' (And.intro (show (0 : Int) ≤ (1 : Int) ∧ (1 : Int) < (↑2 : Int) from (by omega)) (And.intro (show (0 : Int) ≤ (↑k : Int) ∧ (↑k : Int) < (↑z.length : Int) from (by omega)) (And.intro e1' (And.intro (show K.length * 2 ≤ (flatA (encKy n) K).length from (by omega)) (And.intro (show 2 ≤ 2 from (by omega)) (And.intro (show (K.length + 1) * 16 ≤ 140737488355328 from (by omega)) (And.intro (show K.length + 1 ≤ maxLen from (by (unfold maxLen; omega))) (And.intro (show (0 : Int) ≤ (1 : Int) ∧ (1 : Int) < (↑2 : Int) from (by omega)) (And.intro (show 1 ≤ (AV.int .u8 (z.getD k ((0 : Int), (0 : Int))).snd :: flatA encZ (List.drop (k + 1) z)).length from (by exact Nat.le_of_ble_eq_true (by kernel_rfl))) (And.intro (show (0 : Int) ≤ (1 : Int) ∧ (1 : Int) < (↑2 : Int) from (by omega)) (And.intro (show K.length * 2 ≤ (flatA (encKy n) K).length from (by omega)) (And.intro (show 2 ≤ 2 from (by omega)) (And.intro (show (K.length + 1) * 16 ≤ 140737488355328 from (by omega)) (And.intro (show K.length + 1 ≤ maxLen from (by (unfold maxLen; omega))) (And.intro (show 1 ≤ (AV.int .u8 (z.getD k ((0 : Int), (0 : Int))).snd :: flatA encZ (List.drop (k + 1) z)).length from (by exact Nat.le_of_ble_eq_true (by kernel_rfl))) (And.intro (show 1 ≤ (AV.int .u8 (z.getD k ((0 : Int), (0 : Int))).snd :: flatA encZ (List.drop (k + 1) z)).length from (by exact Nat.le_of_ble_eq_true (by kernel_rfl))) (And.intro (show K.length * 2 ≤ (flatA (encKy n) K).length from (by omega)) (And.intro (show 2 ≤ 2 from (by omega)) (And.intro (show (K.length + 1) * 16 ≤ 140737488355328 from (by omega)) (And.intro (show K.length + 1 ≤ maxLen from (by (unfold maxLen; omega))) (And.intro e2' (And.intro (show (bytesAV e1).all isU8 = true from (by omega)) (And.intro e5' (And.intro (show K.length * 1 ≤ (flatA encSt K).length from (by omega)) (And.intro (show 1 ≤ 1 from (by omega)) (And.intro (show (K.length + 1) * 16 ≤ 140737488355328 from (by omega)) (And.intro (show K.length + 1 ≤ maxLen from (by (unfold maxLen; omega))) (And.intro (congrArg some e6') (And.intro (congrArg some e7') (And.intro (show ∀ (x : AV), x ∈ flatA (encKy n) K2 → noid0 x = true from n1) (And.intro (show ∀ (x : AV), x ∈ flatA encSt K2 → noid0 x = true from n2) (And.intro (show ∀ (x : AV), x ∈ flatA (encP n) l2 → noid0 x = true from its_noid n l2) (And.intro (show ∀ (q : AV × AV), q ∈ mapC A2 → plain1 q.fst = true ∧ plain1 q.snd = true from map_plainC A2) (And.intro e8' e9')))))))))))))))))))))))))))))))))))))))))))))))))))))))))))))))))))
  · generalize runM n R z (min z.length 50) = q
    obtain ⟨l, A, K⟩ := q
    unfold m0S meH
    by_cases hz0 : z.length < 50
    · rw [show min z.length 50 = z.length by omega]
      exact g_x [⟨5, [.tm 40 (.bool false)], .no⟩] [.sel [], .keep [] []] (And.intro (congrArg AV.bool (show decide ((↑z.length : Int) < (↑z.length : Int)) = false from (by rw [decide_eq_false_iff_not]; omega))) (show false = true → false = true from (fun h => h)))
    · rw [show min z.length 50 = 50 by omega]
      exact g_x [⟨5, [], .gd⟩, ⟨6, [], .gd⟩, ⟨8, [], .br false .no⟩] [.sel [], .keep [] []] (And.intro (show (decide ((50 : Int) < (↑z.length : Int)) == true) = true → (decide ((50 : Int) < (↑z.length : Int)) == true) = true from (fun h => h)) (And.intro (show decide ((50 : Int) < (↑z.length : Int)) = true → (decide ((50 : Int) < (↑z.length : Int)) == true) = true from (by (simp; done))) (show (bif decide ((50 : Int) < (↑z.length : Int)) then false else false) = false from (by simp_all; done))))
theorem means_v (b r : Int) (z : List (Int × Int)) (hb : 0 ≤ b ∧ b ≤ 255) (hr : 0 ≤ r ∧ r ≤ 255) (hz : ∀ x ∈ z, (0 ≤ x.1 ∧ x.1 ≤ 255) ∧ (0 ≤ x.2 ∧ x.2 ≤ 255)) (hl : z.length ≤ 9223372036854775807) : CallsV Try.prog 5 [.int .u8 b, .int .u8 r, stepsV z] [] (fun av H' => av = .bool true ∧ H' = []) := by
  refine callsG_at Try.func5 (by kernel_rfl) ?_
  have e1 : b.tmod 3 = b % 3 := Int.tmod_eq_emod_of_nonneg hb.1
  have e2 : r.tmod 5 = r % 5 := Int.tmod_eq_emod_of_nonneg hr.1
  have c1 := new_v (1 + b.tmod 3) (1 + r.tmod 5) (by omega) (by omega)
  have hR : ((1 + r.tmod 5).toNat : Int) = 1 + r.tmod 5 := by omega
  have hL := m0L (1 + b.tmod 3) (1 + r.tmod 5).toNat (by omega) z hz hl
  rw [← hR] at c1
  generalize (1 + r.tmod 5).toNat = R at hR hL c1
  unfold storeH at c1
  unfold m0S meH at hL
  have e1' := (congrArg (fun z => AV.int .i64 z) (wrap_i64 (e := b.tmod (3 : Int)) (by omega) (by omega)))
  have e2' := (congrArg (fun z => AV.int .i64 z) (wrap_i64 (e := (1 : Int) + b.tmod (3 : Int)) (by omega) (by omega)))
  have e3' := (congrArg (fun z => AV.int .i64 z) (wrap_i64 (e := r.tmod (5 : Int)) (by omega) (by omega)))
  have e4' := (Eq.trans (congrArg (fun z => AV.int .i64 (IntKind.i64.wrap z)) hR.symm) (congrArg (fun z => AV.int .i64 z) (wrap_i64 (e := (↑R : Int)) (by omega) (by omega))))
  have e5' := c1
  have e6' := hL
  have e7' := awake_v
  refine g_q [⟨3, [], .as (rhsOf e1')⟩, ⟨4, [], .as (rhsOf e2')⟩, ⟨7, [], .as (rhsOf e3')⟩, ⟨8, [], .as (rhsOf e4')⟩, ⟨9, [], .call (avOf e5') (blOf e5') [false, false, false]⟩, ⟨25, [.sel [2, 7, 9, 10, 11], .own 9 44 2, .own 10 9 1, .keep [0, 3, 4, 1, 2] [false, false, false, false, false]], .loop (exOf e6') (endOf e6')⟩, ⟨26, [], .call (avOf e7') (blOf e7') []⟩] [.sel [6]] Exit.ret (stOf 141 [(6, AV.bool true)] []) (And.intro (show (3 : Int) ≠ (0 : Int) from (by omega)) (And.intro e1' (And.intro e2' (And.intro (show (5 : Int) ≠ (0 : Int) from (by omega)) (And.intro e3' (And.intro e4' (And.intro e5' (And.intro e6' e7')))))))) ?_
  refine g_f [] [] (AV.bool true) ([]) trivial ?_
  exact ⟨rfl, rfl⟩
end Go.Proofs.Ytkdgnjoofhckeaa
