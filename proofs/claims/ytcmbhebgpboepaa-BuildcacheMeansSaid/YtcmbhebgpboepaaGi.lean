/-
  Caches: what Get returns: the law.
-/
import Derived.Test.YtcmbhebgpboepaaGh
namespace Go.Proofs.Ytcmbhebgpboepaa
open Go Go.RowKit V
set_option linter.unusedSimpArgs false
set_option linter.unusedVariables false
set_option maxHeartbeats 20000000
theorem atF_cast (key : ByteArray) (ks : List ByteArray) (h : ¬ atF key ks ks.length < 0) : ∃ j : Nat, atF key ks ks.length = (j : Int) := ⟨(atF key ks ks.length).toNat, by omega⟩
theorem meansR (n : Int) (R : Nat) (hR : R ≤ 32) (z : List (Int × Int)) (k : Nat) (a b : Int) (hz : z.getD k (0, 0) = (a, b)) (hk1 : k < z.length) (hk2 : k < 50) (l : List Ent) (ks : List ByteArray) (ws : List Int) (hJ : J R k l ks ws) (hs : ∀ x ∈ ks, x.size ≤ 1000000) (h2 : 0 ≤ b ∧ b < 256) :
    ∃ l' ks' ws', J R (k + 1) l' ks' ws' ∧ (∀ x ∈ ks', x.size ≤ 1000000) ∧ GoV Try.prog 0 (loopB Try.f5 0) (isX .normal (meS n R z (k + 1) l' ks' ws')) (meS n R z k l ks ws) := by
  have kv := key_v b h2.1 h2.2
  have ov := obj_v a
  have hle := hJ.le
  have hkk := hJ.kk
  have hlen := hJ.len
  have st := steps_at z k hk1
  rw [hz] at st
  simp only at st
  have ev := evict_v n R l 1 (by omega)
  have hJ1 := hJ.drop (min (Int.toNat 1) l.length)
  have c2 := put_v n R l (keyF b) a (keyF_size _) hR hle
  have c3 := put_v n R (l.drop (min (Int.toNat 1) l.length)) (keyF b) a (keyF_size _) hR hJ1.le
  have f2 := faL n R z k a b hz hk1 hk2 (putF R l (keyF b) a) ks ws (by omega) h2
  have f3 := faL n R z k a b hz hk1 hk2 (putF R (l.drop (min (Int.toNat 1) l.length)) (keyF b) a) ks ws (by omega) h2
  obtain ⟨q1, q2⟩ := hJ.put (keyF b) a
  obtain ⟨q3, q4⟩ := hJ1.put (keyF b) a
  unfold faS faE meH at f2 f3
  rw [show atF (keyF b) ks 0 = -1 from rfl] at f2 f3
  unfold cacheH cacheD at ev c2 c3
  generalize putF R l (keyF b) a = l2 at c2 f2 q1 q2
  generalize putF R (l.drop (min (Int.toNat 1) l.length)) (keyF b) a = l3 at c3 f3 q3 q4
  generalize l.drop (min (Int.toNat 1) l.length) = l1 at ev c3 f3 hJ1
  by_cases hat : atF (keyF b) ks ks.length < 0
  · have hs' : ∀ x ∈ ks ++ [keyF b], x.size ≤ 1000000 := fun x hx => by
      rcases List.mem_append.1 hx with h | h
      · exact hs x h
      · rw [List.mem_singleton.1 h]; exact keyF_size b
    have hl1 : ks.length + 1 = (ks ++ [keyF b]).length := by simp
    have hl2 : ws.length + 1 = (ws ++ [a]).length := by simp
    have sn1 := encK_snoc ks (keyF b)
    have sn2 := encW_snoc ws a
    have ny1 : ∀ x ∈ List.take (ks.length * 1) (flatA encK ks) ++ [AV.str (keyF b)], noid0 x = true := by rw [sn1]; exact encK_noid _
    have ny2 : ∀ x ∈ List.take (ws.length * 1) (flatA encW ws) ++ [AV.int .u8 a], noid0 x = true := by rw [sn2]; exact encW_noid _
    by_cases h7 : (a.tmod 7 == 6) = true
    · skip
      have hJ' := q3 hat
      have gL := geL n R hR z k (k + 1) (by omega) l3 (ks ++ [keyF b]) (ws ++ [a]) hJ' hs'
      have hJ2 := hJ'.gets (ks ++ [keyF b]).length
      refine ⟨_, _, _, hJ2, hs', ?_⟩
      generalize gets l3 (ks ++ [keyF b]) (ks ++ [keyF b]).length = l4 at gL ⊢
      unfold geS meH at gL
      unfold meS meH
      rw [← hl1, ← hl2] at gL ⊢
      generalize ks ++ [keyF b] = ks' at *
      generalize ws ++ [a] = ws' at *
      have e1' := (congrArg (fun z => AV.fptr z) st)
      have e2' := ev
      have e3' := kv
      have e4' := ov
      have e5' := c3
      have e6' := f3
      have e7' := (congrArg (fun z => Blk.row 5 z) sn2)
      have e8' := (congrArg (fun z => Blk.row 9 z) sn1)
      have e9' := gL
      have e10' := (congrArg (fun z => AV.int .i64 z) (wrap_i64 (e := (↑k : Int) + (1 : Int)) (by omega) (by omega)))
      exact g_xB [⟨5, [.tm 38 (.bool true)], .no⟩, ⟨8, [], .br true .no⟩, ⟨11, [], .as (rhsOf e1')⟩, ⟨16, [], .br true .no⟩, ⟨18, [], .callS [0, 3] [false, true] (avOf e2') (blOf e2') [false, false, true]⟩, ⟨22, [], .as (rhsOf e1')⟩, ⟨25, [], .call (avOf e3') (blOf e3') []⟩, ⟨28, [], .as (rhsOf e1')⟩, ⟨31, [], .call (avOf e4') (blOf e4') []⟩, ⟨32, [], .callS [0, 4] [false, true] (avOf e5') (blOf e5') [false, false, true]⟩, ⟨37, [.sel [2, 7, 9, 10, 11, 12, 68, 69], .keep [0, 1, 2, 5] [false, true, true, true]], .loop (exOf e6') (endOf e6')⟩, ⟨40, [], .br true .no⟩, ⟨44, [], .as (rhsOf e1')⟩, ⟨47, [], .call (avOf e3') (blOf e3') []⟩, ⟨53, [], .as (rhsOf e1')⟩, ⟨48, [.flags [false, true, true, true] false], .no⟩, ⟨49, [.flags [false, true, true, true] true], .no⟩, ⟨56, [.flags [false, true, true, true] false], .no⟩, ⟨57, [.flags [false, true, true, true] true], .no⟩, ⟨58, [.hp 7 (rhsOf e7')], .no⟩, ⟨60, [.hp 5 (rhsOf e8')], .no⟩, ⟨63, [.sel [2, 7, 9, 10, 11, 113, 114], .keep [0, 5, 7, 3] [false, true, true, true]], .loop (exOf e9') (endOf e9')⟩, ⟨65, [], .as (rhsOf e10')⟩] [.sel [2, 7, 9, 10, 11]] (And.intro (congrArg AV.bool (show decide ((↑k : Int) < (↑z.length : Int)) = true from (by rw [decide_eq_true_iff]; omega))) (And.intro (show (bif true then decide ((↑k : Int) < (50 : Int)) else false) = true from (by simp_all; omega)) (And.intro (show (0 : Int) ≤ (↑k : Int) ∧ (↑k : Int) < (↑z.length : Int) from (by omega)) (And.intro e1' (And.intro (show (0 : Int) ≤ (0 : Int) ∧ (0 : Int) < (↑2 : Int) from (by omega)) (And.intro (show 1 ≤ (AV.int .u8 a :: AV.int .u8 b :: flatA encZ (List.drop (k + 1) z)).length from (by exact Nat.le_of_ble_eq_true (by kernel_rfl))) (And.intro (show (7 : Int) ≠ (0 : Int) from (by omega)) (And.intro (show (a.tmod (7 : Int) == (6 : Int)) = true from (by assumption)) (And.intro (show ∀ (x : AV), x ∈ flatA (encE n) l → noid0 x = true from ents_noid n l) (And.intro (show ∀ (x : AV), x ∈ flatA (encE n) l1 → noid0 x = true from ents_noid n l1) (And.intro e2' (And.intro (show (0 : Int) ≤ (↑k : Int) ∧ (↑k : Int) < (↑z.length : Int) from (by omega)) (And.intro e1' (And.intro (show (0 : Int) ≤ (1 : Int) ∧ (1 : Int) < (↑2 : Int) from (by omega)) (And.intro (show 1 ≤ (AV.int .u8 b :: flatA encZ (List.drop (k + 1) z)).length from (by exact Nat.le_of_ble_eq_true (by kernel_rfl))) (And.intro e3' (And.intro (show (0 : Int) ≤ (↑k : Int) ∧ (↑k : Int) < (↑z.length : Int) from (by omega)) (And.intro e1' (And.intro (show (0 : Int) ≤ (↑k : Int) ∧ (↑k : Int) < (↑z.length : Int) from (by omega)) (And.intro e1' (And.intro e3' (And.intro (show (0 : Int) ≤ (0 : Int) ∧ (0 : Int) < (↑2 : Int) from (by omega)) (And.intro (show (0 : Int) ≤ (0 : Int) ∧ (0 : Int) < (↑2 : Int) from (by omega)) (And.intro e3' (And.intro (show 1 ≤ (AV.int .u8 a :: AV.int .u8 b :: flatA encZ (List.drop (k + 1) z)).length from (by exact Nat.le_of_ble_eq_true (by kernel_rfl))) (And.intro (show 1 ≤ (AV.int .u8 a :: AV.int .u8 b :: flatA encZ (List.drop (k + 1) z)).length from (by exact Nat.le_of_ble_eq_true (by kernel_rfl))) (And.intro e3' (And.intro e4' (And.intro (show ∀ (x : AV), x ∈ flatA (encE n) l1 → noid0 x = true from ents_noid n l1) (And.intro (show ∀ (x : AV), x ∈ flatA (encE n) l3 → noid0 x = true from ents_noid n l3) (And.intro e5' (And.intro (show ∀ (x : AV), x ∈ flatA encK ks → noid0 x = true from encK_noid ks) (And.intro (show ∀ (x : AV), x ∈ flatA encW ws → noid0 x = true from encW_noid ws) (And.intro (show ∀ (x : AV), x ∈ flatA (encE n) l3 → noid0 x = true from ents_noid n l3) (And.intro e6' (And.intro (show decide (atF (keyF b) ks ks.length < (0 : Int)) = true from (by rw [decide_eq_true_iff]; omega)) (And.intro (show (0 : Int) ≤ (↑k : Int) ∧ (↑k : Int) < (↑z.length : Int) from (by omega)) (And.intro e1' (And.intro (show (0 : Int) ≤ (1 : Int) ∧ (1 : Int) < (↑2 : Int) from (by omega)) (And.intro (show 1 ≤ (AV.int .u8 b :: flatA encZ (List.drop (k + 1) z)).length from (by exact Nat.le_of_ble_eq_true (by kernel_rfl))) (And.intro e3' (And.intro (show (0 : Int) ≤ (↑k : Int) ∧ (↑k : Int) < (↑z.length : Int) from (by omega)) (And.intro e1' (And.intro (show (0 : Int) ≤ (↑k : Int) ∧ (↑k : Int) < (↑z.length : Int) from (by omega)) (And.intro e1' (And.intro e3' (And.intro (show (0 : Int) ≤ (0 : Int) ∧ (0 : Int) < (↑2 : Int) from (by omega)) (And.intro (show ks.length * 1 ≤ (flatA encK ks).length from encK_ge ks) (And.intro (show 1 ≤ 1 from (by omega)) (And.intro (show (ks.length + 1) * 16 ≤ 140737488355328 from (by omega)) (And.intro (show ks.length + 1 ≤ maxLen from (by (unfold maxLen; omega))) (And.intro (show (0 : Int) ≤ (↑k : Int) ∧ (↑k : Int) < (↑z.length : Int) from (by omega)) (And.intro e1' (And.intro (show (0 : Int) ≤ (0 : Int) ∧ (0 : Int) < (↑2 : Int) from (by omega)) (And.intro e3' (And.intro (show 1 ≤ (AV.int .u8 a :: AV.int .u8 b :: flatA encZ (List.drop (k + 1) z)).length from (by exact Nat.le_of_ble_eq_true (by kernel_rfl))) (And.intro (show (0 : Int) ≤ (↑k : Int) ∧ (↑k : Int) < (↑z.length : Int) from (by omega)) (And.intro e1' (And.intro (show ks.length * 1 ≤ (flatA encK ks).length from encK_ge ks) (And.intro (show 1 ≤ 1 from (by omega)) (And.intro (show (ks.length + 1) * 16 ≤ 140737488355328 from (by omega)) (And.intro (show ks.length + 1 ≤ maxLen from (by (unfold maxLen; omega))) (And.intro (show (0 : Int) ≤ (0 : Int) ∧ (0 : Int) < (↑2 : Int) from (by omega)) (And.intro (show 1 ≤ (AV.int .u8 a :: AV.int .u8 b :: flatA encZ (List.drop (k + 1) z)).length from (by exact Nat.le_of_ble_eq_true (by kernel_rfl))) (And.intro e3' (And.intro (show (0 : Int) ≤ (0 : Int) ∧ (0 : Int) < (↑2 : Int) from (by omega)) (And.intro (show ks.length * 1 ≤ (flatA encK ks).length from encK_ge ks) (And.intro (show 1 ≤ 1 from (by omega)) (And.intro (show (ks.length + 1) * 16 ≤ 140737488355328 from (by omega)) (And.intro (show ks.length + 1 ≤ maxLen from (by (unfold maxLen; omega))) (And.intro (show 1 ≤ (AV.int .u8 a :: AV.int .u8 b :: flatA encZ (List.drop (k + 1) z)).length from (by exact Nat.le_of_ble_eq_true (by kernel_rfl))) (And.intro e3' (And.intro (show 1 ≤ (AV.int .u8 a :: AV.int .u8 b :: flatA encZ (List.drop (k + 1) z)).length from (by exact Nat.le_of_ble_eq_true (by kernel_rfl))) (And.intro (show ks.length * 1 ≤ (flatA encK ks).length from encK_ge ks) (And.intro (show 1 ≤ 1 from (by omega)) (And.intro (show (ks.length + 1) * 16 ≤ 140737488355328 from (by omega)) (And.intro (show ks.length + 1 ≤ maxLen from (by (unfold maxLen; omega))) (And.intro (show ∀ (x : AV), x ∈ flatA encK ks → noid0 x = true from encK_noid ks) (And.intro (show ∀ (x : AV), x ∈ flatA encW ws → noid0 x = true from encW_noid ws) (And.intro (show ∀ (x : AV), x ∈ flatA (encE n) l3 → noid0 x = true from ents_noid n l3) (And.intro (show ks.length * 1 ≤ (flatA encK ks).length from encK_ge ks) (And.intro (show 1 ≤ 1 from (by omega)) (And.intro (show (ks.length + 1) * 16 ≤ 140737488355328 from (by omega)) (And.intro (show ks.length + 1 ≤ maxLen from (by (unfold maxLen; omega))) (And.intro (show ∀ (x : AV), x ∈ flatA encW ws → noid0 x = true from encW_noid ws) (And.intro (show ∀ (x : AV), x ∈ flatA (encE n) l3 → noid0 x = true from ents_noid n l3) (And.intro (show ∀ (x : AV), x ∈ List.take (ks.length * 1) (flatA encK ks) ++ [AV.str (keyF b)] → noid0 x = true from ny1) (And.intro (show ws.length * 1 ≤ (flatA encW ws).length from encW_ge ws) (And.intro (show 1 ≤ 1 from (by omega)) (And.intro (show (ws.length + 1) * 1 ≤ 140737488355328 from (by omega)) (And.intro (show ws.length + 1 ≤ maxLen from (by (unfold maxLen; omega))) (And.intro (congrArg some e7') (And.intro (congrArg some e8') (And.intro (show ∀ (x : AV), x ∈ flatA encK ks' → noid0 x = true from encK_noid ks') (And.intro (show ∀ (x : AV), x ∈ flatA encW ws' → noid0 x = true from encW_noid ws') (And.intro (show ∀ (x : AV), x ∈ flatA (encE n) l3 → noid0 x = true from ents_noid n l3) (And.intro e9' e10')))))))))))))))))))))))))))))))))))))))))))))))))))))))))))))))))))))))))))))))))))))))))))))))))
    · skip
      have hJ' := q1 hat
      have gL := geL n R hR z k (k + 1) (by omega) l2 (ks ++ [keyF b]) (ws ++ [a]) hJ' hs'
      have hJ2 := hJ'.gets (ks ++ [keyF b]).length
      refine ⟨_, _, _, hJ2, hs', ?_⟩
      generalize gets l2 (ks ++ [keyF b]) (ks ++ [keyF b]).length = l4 at gL ⊢
      unfold geS meH at gL
      unfold meS meH
      rw [← hl1, ← hl2] at gL ⊢
      generalize ks ++ [keyF b] = ks' at *
      generalize ws ++ [a] = ws' at *
      have e1' := (congrArg (fun z => AV.fptr z) st)
      have e2' := kv
      have e3' := ov
      have e4' := c2
      have e5' := f2
      have e6' := (congrArg (fun z => Blk.row 5 z) sn2)
      have e7' := (congrArg (fun z => Blk.row 9 z) sn1)
      have e8' := gL
      have e9' := (congrArg (fun z => AV.int .i64 z) (wrap_i64 (e := (↑k : Int) + (1 : Int)) (by omega) (by omega)))
      exact g_xB [⟨5, [.tm 38 (.bool true)], .no⟩, ⟨8, [], .br true .no⟩, ⟨11, [], .as (rhsOf e1')⟩, ⟨16, [], .br false .no⟩, ⟨20, [], .as (rhsOf e1')⟩, ⟨23, [], .call (avOf e2') (blOf e2') []⟩, ⟨26, [], .as (rhsOf e1')⟩, ⟨29, [], .call (avOf e3') (blOf e3') []⟩, ⟨30, [], .callS [0, 3] [false, true] (avOf e4') (blOf e4') [false, false, true]⟩, ⟨35, [.sel [2, 7, 9, 10, 11, 12, 68, 69], .keep [0, 1, 2, 4] [false, true, true, true]], .loop (exOf e5') (endOf e5')⟩, ⟨38, [], .br true .no⟩, ⟨42, [], .as (rhsOf e1')⟩, ⟨45, [], .call (avOf e2') (blOf e2') []⟩, ⟨51, [], .as (rhsOf e1')⟩, ⟨46, [.flags [false, true, true, true] false], .no⟩, ⟨47, [.flags [false, true, true, true] true], .no⟩, ⟨54, [.flags [false, true, true, true] false], .no⟩, ⟨55, [.flags [false, true, true, true] true], .no⟩, ⟨56, [.hp 7 (rhsOf e6')], .no⟩, ⟨58, [.hp 5 (rhsOf e7')], .no⟩, ⟨61, [.sel [2, 7, 9, 10, 11, 113, 114], .keep [0, 5, 7, 3] [false, true, true, true]], .loop (exOf e8') (endOf e8')⟩, ⟨63, [], .as (rhsOf e9')⟩] [.sel [2, 7, 9, 10, 11]] (And.intro (congrArg AV.bool (show decide ((↑k : Int) < (↑z.length : Int)) = true from (by rw [decide_eq_true_iff]; omega))) (And.intro (show (bif true then decide ((↑k : Int) < (50 : Int)) else false) = true from (by simp_all; omega)) (And.intro (show (0 : Int) ≤ (↑k : Int) ∧ (↑k : Int) < (↑z.length : Int) from (by omega)) (And.intro e1' (And.intro (show (0 : Int) ≤ (0 : Int) ∧ (0 : Int) < (↑2 : Int) from (by omega)) (And.intro (show 1 ≤ (AV.int .u8 a :: AV.int .u8 b :: flatA encZ (List.drop (k + 1) z)).length from (by exact Nat.le_of_ble_eq_true (by kernel_rfl))) (And.intro (show (7 : Int) ≠ (0 : Int) from (by omega)) (And.intro (show (a.tmod (7 : Int) == (6 : Int)) = false from (by simp_all; done)) (And.intro (show (0 : Int) ≤ (↑k : Int) ∧ (↑k : Int) < (↑z.length : Int) from (by omega)) (And.intro e1' (And.intro (show (0 : Int) ≤ (1 : Int) ∧ (1 : Int) < (↑2 : Int) from (by omega)) (And.intro (show 1 ≤ (AV.int .u8 b :: flatA encZ (List.drop (k + 1) z)).length from (by exact Nat.le_of_ble_eq_true (by kernel_rfl))) (And.intro e2' (And.intro (show (0 : Int) ≤ (↑k : Int) ∧ (↑k : Int) < (↑z.length : Int) from (by omega)) (And.intro e1' (And.intro (show (0 : Int) ≤ (↑k : Int) ∧ (↑k : Int) < (↑z.length : Int) from (by omega)) (And.intro e1' (And.intro e2' (And.intro (show (0 : Int) ≤ (0 : Int) ∧ (0 : Int) < (↑2 : Int) from (by omega)) (And.intro (show (0 : Int) ≤ (0 : Int) ∧ (0 : Int) < (↑2 : Int) from (by omega)) (And.intro e2' (And.intro (show 1 ≤ (AV.int .u8 a :: AV.int .u8 b :: flatA encZ (List.drop (k + 1) z)).length from (by exact Nat.le_of_ble_eq_true (by kernel_rfl))) (And.intro (show 1 ≤ (AV.int .u8 a :: AV.int .u8 b :: flatA encZ (List.drop (k + 1) z)).length from (by exact Nat.le_of_ble_eq_true (by kernel_rfl))) (And.intro e2' (And.intro e3' (And.intro (show ∀ (x : AV), x ∈ flatA (encE n) l → noid0 x = true from ents_noid n l) (And.intro (show ∀ (x : AV), x ∈ flatA (encE n) l2 → noid0 x = true from ents_noid n l2) (And.intro e4' (And.intro (show ∀ (x : AV), x ∈ flatA encK ks → noid0 x = true from encK_noid ks) (And.intro (show ∀ (x : AV), x ∈ flatA encW ws → noid0 x = true from encW_noid ws) (And.intro (show ∀ (x : AV), x ∈ flatA (encE n) l2 → noid0 x = true from ents_noid n l2) (And.intro e5' (And.intro (show decide (atF (keyF b) ks ks.length < (0 : Int)) = true from (by rw [decide_eq_true_iff]; omega)) (And.intro (show (0 : Int) ≤ (↑k : Int) ∧ (↑k : Int) < (↑z.length : Int) from (by omega)) (And.intro e1' (And.intro (show (0 : Int) ≤ (1 : Int) ∧ (1 : Int) < (↑2 : Int) from (by omega)) (And.intro (show 1 ≤ (AV.int .u8 b :: flatA encZ (List.drop (k + 1) z)).length from (by exact Nat.le_of_ble_eq_true (by kernel_rfl))) (And.intro e2' (And.intro (show (0 : Int) ≤ (↑k : Int) ∧ (↑k : Int) < (↑z.length : Int) from (by omega)) (And.intro e1' (And.intro (show (0 : Int) ≤ (↑k : Int) ∧ (↑k : Int) < (↑z.length : Int) from (by omega)) (And.intro e1' (And.intro e2' (And.intro (show (0 : Int) ≤ (0 : Int) ∧ (0 : Int) < (↑2 : Int) from (by omega)) (And.intro (show ks.length * 1 ≤ (flatA encK ks).length from encK_ge ks) (And.intro (show 1 ≤ 1 from (by omega)) (And.intro (show (ks.length + 1) * 16 ≤ 140737488355328 from (by omega)) (And.intro (show ks.length + 1 ≤ maxLen from (by (unfold maxLen; omega))) (And.intro (show (0 : Int) ≤ (↑k : Int) ∧ (↑k : Int) < (↑z.length : Int) from (by omega)) (And.intro e1' (And.intro (show (0 : Int) ≤ (0 : Int) ∧ (0 : Int) < (↑2 : Int) from (by omega)) (And.intro e2' (And.intro (show 1 ≤ (AV.int .u8 a :: AV.int .u8 b :: flatA encZ (List.drop (k + 1) z)).length from (by exact Nat.le_of_ble_eq_true (by kernel_rfl))) (And.intro (show (0 : Int) ≤ (↑k : Int) ∧ (↑k : Int) < (↑z.length : Int) from (by omega)) (And.intro e1' (And.intro (show ks.length * 1 ≤ (flatA encK ks).length from encK_ge ks) (And.intro (show 1 ≤ 1 from (by omega)) (And.intro (show (ks.length + 1) * 16 ≤ 140737488355328 from (by omega)) (And.intro (show ks.length + 1 ≤ maxLen from (by (unfold maxLen; omega))) (And.intro (show (0 : Int) ≤ (0 : Int) ∧ (0 : Int) < (↑2 : Int) from (by omega)) (And.intro (show 1 ≤ (AV.int .u8 a :: AV.int .u8 b :: flatA encZ (List.drop (k + 1) z)).length from (by exact Nat.le_of_ble_eq_true (by kernel_rfl))) (And.intro e2' (And.intro (show (0 : Int) ≤ (0 : Int) ∧ (0 : Int) < (↑2 : Int) from (by omega)) (And.intro (show ks.length * 1 ≤ (flatA encK ks).length from encK_ge ks) (And.intro (show 1 ≤ 1 from (by omega)) (And.intro (show (ks.length + 1) * 16 ≤ 140737488355328 from (by omega)) (And.intro (show ks.length + 1 ≤ maxLen from (by (unfold maxLen; omega))) (And.intro (show 1 ≤ (AV.int .u8 a :: AV.int .u8 b :: flatA encZ (List.drop (k + 1) z)).length from (by exact Nat.le_of_ble_eq_true (by kernel_rfl))) (And.intro e2' (And.intro (show 1 ≤ (AV.int .u8 a :: AV.int .u8 b :: flatA encZ (List.drop (k + 1) z)).length from (by exact Nat.le_of_ble_eq_true (by kernel_rfl))) (And.intro (show ks.length * 1 ≤ (flatA encK ks).length from encK_ge ks) (And.intro (show 1 ≤ 1 from (by omega)) (And.intro (show (ks.length + 1) * 16 ≤ 140737488355328 from (by omega)) (And.intro (show ks.length + 1 ≤ maxLen from (by (unfold maxLen; omega))) (And.intro (show ∀ (x : AV), x ∈ flatA encK ks → noid0 x = true from encK_noid ks) (And.intro (show ∀ (x : AV), x ∈ flatA encW ws → noid0 x = true from encW_noid ws) (And.intro (show ∀ (x : AV), x ∈ flatA (encE n) l2 → noid0 x = true from ents_noid n l2) (And.intro (show ks.length * 1 ≤ (flatA encK ks).length from encK_ge ks) (And.intro (show 1 ≤ 1 from (by omega)) (And.intro (show (ks.length + 1) * 16 ≤ 140737488355328 from (by omega)) (And.intro (show ks.length + 1 ≤ maxLen from (by (unfold maxLen; omega))) (And.intro (show ∀ (x : AV), x ∈ flatA encW ws → noid0 x = true from encW_noid ws) (And.intro (show ∀ (x : AV), x ∈ flatA (encE n) l2 → noid0 x = true from ents_noid n l2) (And.intro (show ∀ (x : AV), x ∈ List.take (ks.length * 1) (flatA encK ks) ++ [AV.str (keyF b)] → noid0 x = true from ny1) (And.intro (show ws.length * 1 ≤ (flatA encW ws).length from encW_ge ws) (And.intro (show 1 ≤ 1 from (by omega)) (And.intro (show (ws.length + 1) * 1 ≤ 140737488355328 from (by omega)) (And.intro (show ws.length + 1 ≤ maxLen from (by (unfold maxLen; omega))) (And.intro (congrArg some e6') (And.intro (congrArg some e7') (And.intro (show ∀ (x : AV), x ∈ flatA encK ks' → noid0 x = true from encK_noid ks') (And.intro (show ∀ (x : AV), x ∈ flatA encW ws' → noid0 x = true from encW_noid ws') (And.intro (show ∀ (x : AV), x ∈ flatA (encE n) l2 → noid0 x = true from ents_noid n l2) (And.intro e8' e9'))))))))))))))))))))))))))))))))))))))))))))))))))))))))))))))))))))))))))))))))))))))))))))))
  · obtain ⟨j, hj⟩ := atF_cast _ _ hat
    rw [hj] at f2 f3
    have hj0 : ¬ (j : Int) < 0 := by omega
    have hjj : j < ks.length := (q2 j hj).1
    have hjw : j < ws.length := by omega
    have hjw1 : 0 + (j : Int).toNat * 1 + 1 ≤ (flatA encW ws).length := by rw [encW_len]; omega
    have se1 := encW_set ws j hjw a
    have hl2 : (ws.set j a).length = ws.length := List.length_set
    by_cases h7 : (a.tmod 7 == 6) = true
    · skip
      obtain ⟨hjk, hJ'⟩ := q4 j hj
      have gL := geL n R hR z k (k + 1) (by omega) l3 ks (ws.set j a) hJ' hs
      have hJ2 := hJ'.gets ks.length
      refine ⟨_, _, _, hJ2, hs, ?_⟩
      generalize gets l3 ks ks.length = l4 at gL ⊢
      unfold geS meH at gL
      unfold meS meH
      rw [hl2] at gL ⊢
      generalize ws.set j a = ws' at *
      have e1' := (congrArg (fun z => AV.fptr z) st)
      have e2' := ev
      have e3' := kv
      have e4' := ov
      have e5' := c3
      have e6' := f3
      have e7' := (congrArg (fun z => Blk.row 5 z) se1)
      have e8' := gL
      have e9' := (congrArg (fun z => AV.int .i64 z) (wrap_i64 (e := (↑k : Int) + (1 : Int)) (by omega) (by omega)))
      exact g_xB [⟨5, [.tm 38 (.bool true)], .no⟩, ⟨8, [], .br true .no⟩, ⟨11, [], .as (rhsOf e1')⟩, ⟨16, [], .br true .no⟩, ⟨18, [], .callS [0, 3] [false, true] (avOf e2') (blOf e2') [false, false, true]⟩, ⟨22, [], .as (rhsOf e1')⟩, ⟨25, [], .call (avOf e3') (blOf e3') []⟩, ⟨28, [], .as (rhsOf e1')⟩, ⟨31, [], .call (avOf e4') (blOf e4') []⟩, ⟨32, [], .callS [0, 4] [false, true] (avOf e5') (blOf e5') [false, false, true]⟩, ⟨37, [.sel [2, 7, 9, 10, 11, 12, 68, 69], .keep [0, 1, 2, 5] [false, true, true, true]], .loop (exOf e6') (endOf e6')⟩, ⟨45, [], .as (rhsOf e1')⟩, ⟨50, [.hp 2 (rhsOf e7')], .no⟩, ⟨53, [.sel [2, 7, 9, 10, 11, 113, 114]], .loop (exOf e8') (endOf e8')⟩, ⟨55, [], .as (rhsOf e9')⟩] [.sel [2, 7, 9, 10, 11]] (And.intro (congrArg AV.bool (show decide ((↑k : Int) < (↑z.length : Int)) = true from (by rw [decide_eq_true_iff]; omega))) (And.intro (show (bif true then decide ((↑k : Int) < (50 : Int)) else false) = true from (by simp_all; omega)) (And.intro (show (0 : Int) ≤ (↑k : Int) ∧ (↑k : Int) < (↑z.length : Int) from (by omega)) (And.intro e1' (And.intro (show (0 : Int) ≤ (0 : Int) ∧ (0 : Int) < (↑2 : Int) from (by omega)) (And.intro (show 1 ≤ (AV.int .u8 a :: AV.int .u8 b :: flatA encZ (List.drop (k + 1) z)).length from (by exact Nat.le_of_ble_eq_true (by kernel_rfl))) (And.intro (show (7 : Int) ≠ (0 : Int) from (by omega)) (And.intro (show (a.tmod (7 : Int) == (6 : Int)) = true from (by assumption)) (And.intro (show ∀ (x : AV), x ∈ flatA (encE n) l → noid0 x = true from ents_noid n l) (And.intro (show ∀ (x : AV), x ∈ flatA (encE n) l1 → noid0 x = true from ents_noid n l1) (And.intro e2' (And.intro (show (0 : Int) ≤ (↑k : Int) ∧ (↑k : Int) < (↑z.length : Int) from (by omega)) (And.intro e1' (And.intro (show (0 : Int) ≤ (1 : Int) ∧ (1 : Int) < (↑2 : Int) from (by omega)) (And.intro (show 1 ≤ (AV.int .u8 b :: flatA encZ (List.drop (k + 1) z)).length from (by exact Nat.le_of_ble_eq_true (by kernel_rfl))) (And.intro e3' (And.intro (show (0 : Int) ≤ (↑k : Int) ∧ (↑k : Int) < (↑z.length : Int) from (by omega)) (And.intro e1' (And.intro (show (0 : Int) ≤ (↑k : Int) ∧ (↑k : Int) < (↑z.length : Int) from (by omega)) (And.intro e1' (And.intro e3' (And.intro (show (0 : Int) ≤ (0 : Int) ∧ (0 : Int) < (↑2 : Int) from (by omega)) (And.intro (show (0 : Int) ≤ (0 : Int) ∧ (0 : Int) < (↑2 : Int) from (by omega)) (And.intro e3' (And.intro (show 1 ≤ (AV.int .u8 a :: AV.int .u8 b :: flatA encZ (List.drop (k + 1) z)).length from (by exact Nat.le_of_ble_eq_true (by kernel_rfl))) (And.intro (show 1 ≤ (AV.int .u8 a :: AV.int .u8 b :: flatA encZ (List.drop (k + 1) z)).length from (by exact Nat.le_of_ble_eq_true (by kernel_rfl))) (And.intro e3' (And.intro e4' (And.intro (show ∀ (x : AV), x ∈ flatA (encE n) l1 → noid0 x = true from ents_noid n l1) (And.intro (show ∀ (x : AV), x ∈ flatA (encE n) l3 → noid0 x = true from ents_noid n l3) (And.intro e5' (And.intro (show ∀ (x : AV), x ∈ flatA encK ks → noid0 x = true from encK_noid ks) (And.intro (show ∀ (x : AV), x ∈ flatA encW ws → noid0 x = true from encW_noid ws) (And.intro (show ∀ (x : AV), x ∈ flatA (encE n) l3 → noid0 x = true from ents_noid n l3) (And.intro e6' (And.intro (show (0 : Int) ≤ (↑k : Int) ∧ (↑k : Int) < (↑z.length : Int) from (by omega)) (And.intro e1' (And.intro (show (0 : Int) ≤ (0 : Int) ∧ (0 : Int) < (↑2 : Int) from (by omega)) (And.intro (show 1 ≤ (AV.int .u8 a :: AV.int .u8 b :: flatA encZ (List.drop (k + 1) z)).length from (by exact Nat.le_of_ble_eq_true (by kernel_rfl))) (And.intro (show (0 : Int) ≤ (↑j : Int) ∧ (↑j : Int) < (↑ws.length : Int) from (by omega)) (And.intro (show 0 + (↑j : Int).toNat * 1 + 1 ≤ (flatA encW ws).length from (by omega)) (And.intro (congrArg some e7') (And.intro e8' e9')))))))))))))))))))))))))))))))))))))))))))
    · skip
      obtain ⟨hjk, hJ'⟩ := q2 j hj
      have gL := geL n R hR z k (k + 1) (by omega) l2 ks (ws.set j a) hJ' hs
      have hJ2 := hJ'.gets ks.length
      refine ⟨_, _, _, hJ2, hs, ?_⟩
      generalize gets l2 ks ks.length = l4 at gL ⊢
      unfold geS meH at gL
      unfold meS meH
      rw [hl2] at gL ⊢
      generalize ws.set j a = ws' at *
      have e1' := (congrArg (fun z => AV.fptr z) st)
      have e2' := kv
      have e3' := ov
      have e4' := c2
      have e5' := f2
      have e6' := (congrArg (fun z => Blk.row 5 z) se1)
      have e7' := gL
      have e8' := (congrArg (fun z => AV.int .i64 z) (wrap_i64 (e := (↑k : Int) + (1 : Int)) (by omega) (by omega)))
      exact g_xB [⟨5, [.tm 38 (.bool true)], .no⟩, ⟨8, [], .br true .no⟩, ⟨11, [], .as (rhsOf e1')⟩, ⟨16, [], .br false .no⟩, ⟨20, [], .as (rhsOf e1')⟩, ⟨23, [], .call (avOf e2') (blOf e2') []⟩, ⟨26, [], .as (rhsOf e1')⟩, ⟨29, [], .call (avOf e3') (blOf e3') []⟩, ⟨30, [], .callS [0, 3] [false, true] (avOf e4') (blOf e4') [false, false, true]⟩, ⟨35, [.sel [2, 7, 9, 10, 11, 12, 68, 69], .keep [0, 1, 2, 4] [false, true, true, true]], .loop (exOf e5') (endOf e5')⟩, ⟨43, [], .as (rhsOf e1')⟩, ⟨48, [.hp 2 (rhsOf e6')], .no⟩, ⟨51, [.sel [2, 7, 9, 10, 11, 113, 114]], .loop (exOf e7') (endOf e7')⟩, ⟨53, [], .as (rhsOf e8')⟩] [.sel [2, 7, 9, 10, 11]] (And.intro (congrArg AV.bool (show decide ((↑k : Int) < (↑z.length : Int)) = true from (by rw [decide_eq_true_iff]; omega))) (And.intro (show (bif true then decide ((↑k : Int) < (50 : Int)) else false) = true from (by simp_all; omega)) (And.intro (show (0 : Int) ≤ (↑k : Int) ∧ (↑k : Int) < (↑z.length : Int) from (by omega)) (And.intro e1' (And.intro (show (0 : Int) ≤ (0 : Int) ∧ (0 : Int) < (↑2 : Int) from (by omega)) (And.intro (show 1 ≤ (AV.int .u8 a :: AV.int .u8 b :: flatA encZ (List.drop (k + 1) z)).length from (by exact Nat.le_of_ble_eq_true (by kernel_rfl))) (And.intro (show (7 : Int) ≠ (0 : Int) from (by omega)) (And.intro (show (a.tmod (7 : Int) == (6 : Int)) = false from (by simp_all; done)) (And.intro (show (0 : Int) ≤ (↑k : Int) ∧ (↑k : Int) < (↑z.length : Int) from (by omega)) (And.intro e1' (And.intro (show (0 : Int) ≤ (1 : Int) ∧ (1 : Int) < (↑2 : Int) from (by omega)) (And.intro (show 1 ≤ (AV.int .u8 b :: flatA encZ (List.drop (k + 1) z)).length from (by exact Nat.le_of_ble_eq_true (by kernel_rfl))) (And.intro e2' (And.intro (show (0 : Int) ≤ (↑k : Int) ∧ (↑k : Int) < (↑z.length : Int) from (by omega)) (And.intro e1' (And.intro (show (0 : Int) ≤ (↑k : Int) ∧ (↑k : Int) < (↑z.length : Int) from (by omega)) (And.intro e1' (And.intro e2' (And.intro (show (0 : Int) ≤ (0 : Int) ∧ (0 : Int) < (↑2 : Int) from (by omega)) (And.intro (show (0 : Int) ≤ (0 : Int) ∧ (0 : Int) < (↑2 : Int) from (by omega)) (And.intro e2' (And.intro (show 1 ≤ (AV.int .u8 a :: AV.int .u8 b :: flatA encZ (List.drop (k + 1) z)).length from (by exact Nat.le_of_ble_eq_true (by kernel_rfl))) (And.intro (show 1 ≤ (AV.int .u8 a :: AV.int .u8 b :: flatA encZ (List.drop (k + 1) z)).length from (by exact Nat.le_of_ble_eq_true (by kernel_rfl))) (And.intro e2' (And.intro e3' (And.intro (show ∀ (x : AV), x ∈ flatA (encE n) l → noid0 x = true from ents_noid n l) (And.intro (show ∀ (x : AV), x ∈ flatA (encE n) l2 → noid0 x = true from ents_noid n l2) (And.intro e4' (And.intro (show ∀ (x : AV), x ∈ flatA encK ks → noid0 x = true from encK_noid ks) (And.intro (show ∀ (x : AV), x ∈ flatA encW ws → noid0 x = true from encW_noid ws) (And.intro (show ∀ (x : AV), x ∈ flatA (encE n) l2 → noid0 x = true from ents_noid n l2) (And.intro e5' (And.intro (show (0 : Int) ≤ (↑k : Int) ∧ (↑k : Int) < (↑z.length : Int) from (by omega)) (And.intro e1' (And.intro (show (0 : Int) ≤ (0 : Int) ∧ (0 : Int) < (↑2 : Int) from (by omega)) (And.intro (show 1 ≤ (AV.int .u8 a :: AV.int .u8 b :: flatA encZ (List.drop (k + 1) z)).length from (by exact Nat.le_of_ble_eq_true (by kernel_rfl))) (And.intro (show (0 : Int) ≤ (↑j : Int) ∧ (↑j : Int) < (↑ws.length : Int) from (by omega)) (And.intro (show 0 + (↑j : Int).toNat * 1 + 1 ≤ (flatA encW ws).length from (by omega)) (And.intro (congrArg some e6') (And.intro e7' e8'))))))))))))))))))))))))))))))))))))))))

theorem means_law (b r : Int) (z : List (Int × Int)) (hb : 0 ≤ b ∧ b ≤ 255) (hr : 0 ≤ r ∧ r ≤ 255) (hz : ∀ x ∈ z, (0 ≤ x.1 ∧ x.1 ≤ 255) ∧ (0 ≤ x.2 ∧ x.2 ≤ 255)) (hl : z.length ≤ 9223372036854775807) : CallsV Try.prog 5 [.int .u8 b, .int .u8 r, stepsV z] [] (fun av H' => av = .bool true ∧ H' = []) := by
  refine callsG_at Try.func5 (by kernel_rfl) ?_
  have e1 : b.tmod 2 = b % 2 := Int.tmod_eq_emod_of_nonneg hb.1
  have e2 : r.tmod 6 = r % 6 := Int.tmod_eq_emod_of_nonneg hr.1
  have c1 := new_v (1 + b.tmod 2) (r.tmod 6) (by omega) (by omega)
  have hR : ((r.tmod 6).toNat : Int) = r.tmod 6 := by omega
  have hR32 : (r.tmod 6).toNat ≤ 32 := by omega
  rw [← hR] at c1
  generalize (r.tmod 6).toNat = R at hR c1 hR32
  have hL : LoopG Try.prog 0 Try.f5 0 (.exit 0) (stOf 139 [] []) (meS (1 + b.tmod 2) R z 0 [] [] []) := by
    refine loopG_inv z.length (fun n s => ∃ k l ks ws, n = z.length - k ∧ k ≤ z.length ∧ k ≤ 50 ∧ J R k l ks ws ∧ (∀ x ∈ ks, x.size ≤ 1000000) ∧ s = meS (1 + b.tmod 2) R z k l ks ws) ⟨0, [], [], [], rfl, Nat.zero_le _, Nat.zero_le _, ⟨rfl, Nat.zero_le _, Nat.le_refl _, List.Pairwise.nil, fun i j hi => absurd hi (by simp), fun e he => absurd he (by simp)⟩, fun x hx => absurd hx (by simp), rfl⟩ (by simp) ?_
    rintro n _ ⟨k, l, ks, ws, rfl, hk1, hk2, hJ, hs, rfl⟩
    by_cases hk3 : k < z.length
    · by_cases hk4 : k < 50
      · obtain ⟨⟨h1, h2⟩, h3, h4⟩ := getD_all hz hk3 (0, 0)
        obtain ⟨l', ks', ws', hJ', hs', hG⟩ := meansR (1 + b.tmod 2) R hR32 z k (z.getD k (0, 0)).1 (z.getD k (0, 0)).2 rfl hk3 hk4 l ks ws hJ hs ⟨h3, by omega⟩
        exact hG.mono fun e s h => Or.inl ⟨h.1, z.length - (k + 1), by omega, k + 1, l', ks', ws', rfl, by omega, by omega, hJ', hs', h.2⟩
      · refine GoV.mono (Q := isX (.exit 0) (stOf 139 [] [])) ?_ (fun e s h => Or.inr h)
        unfold meS meH
        exact g_x [⟨5, [.tm 38 (.bool true)], .no⟩, ⟨8, [], .br false .no⟩] [.sel [], .keep [] []] (And.intro (congrArg AV.bool (show decide ((↑k : Int) < (↑z.length : Int)) = true from (by rw [decide_eq_true_iff]; omega))) (show (bif true then decide ((↑k : Int) < (50 : Int)) else false) = false from (by simp_all; omega)))
    · refine GoV.mono (Q := isX (.exit 0) (stOf 139 [] [])) ?_ (fun e s h => Or.inr h)
      unfold meS meH
      exact g_x [⟨5, [.tm 38 (.bool false)], .no⟩] [.sel [], .keep [] []] (And.intro (congrArg AV.bool (show decide ((↑k : Int) < (↑z.length : Int)) = false from (by rw [decide_eq_false_iff_not]; omega))) (show false = true → false = true from (fun h => h)))
  unfold cacheH at c1
  unfold meS meH at hL
  have e1' := (congrArg (fun z => AV.int .i64 z) (wrap_i64 (e := b.tmod (2 : Int)) (by omega) (by omega)))
  have e2' := (congrArg (fun z => AV.int .i64 z) (wrap_i64 (e := (1 : Int) + b.tmod (2 : Int)) (by omega) (by omega)))
  have e3' := (congrArg (fun z => AV.int .u8 z) hR.symm)
  have e4' := (congrArg (fun z => AV.int .i64 z) (wrap_i64 (e := (↑R : Int)) (by omega) (by omega)))
  have e5' := c1
  have e6' := hL
  have e7' := awake_v
  refine g_q [⟨3, [], .as (rhsOf e1')⟩, ⟨4, [], .as (rhsOf e2')⟩, ⟨6, [], .as (rhsOf e3')⟩, ⟨7, [], .as (rhsOf e4')⟩, ⟨8, [], .call (avOf e5') (blOf e5') [false, false]⟩, ⟨24, [.sel [2, 7, 9, 10, 11], .own 9 9 1, .own 10 5 1, .keep [0, 2, 3, 1] [false, false, false, false]], .loop (exOf e6') (endOf e6')⟩, ⟨25, [], .call (avOf e7') (blOf e7') []⟩] [.sel [6]] Exit.ret (stOf 139 [(6, AV.bool true)] []) (And.intro (show (2 : Int) ≠ (0 : Int) from (by omega)) (And.intro e1' (And.intro e2' (And.intro (show (6 : Int) ≠ (0 : Int) from (by omega)) (And.intro e3' (And.intro e4' (And.intro e5' (And.intro e6' e7')))))))) ?_
  refine g_f [] [] (AV.bool true) ([]) trivial ?_
  exact ⟨rfl, rfl⟩
end Go.Proofs.Ytcmbhebgpboepaa
