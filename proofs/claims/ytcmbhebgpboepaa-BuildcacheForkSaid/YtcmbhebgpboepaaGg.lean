/-
  Caches: the law about forks.
-/
import Derived.Test.YtcmbhebgpboepaaGe
namespace Go.Proofs.Ytcmbhebgpboepaa
open Go Go.RowKit V
set_option linter.unusedSimpArgs false
set_option linter.unusedVariables false
set_option maxHeartbeats 20000000
def fkS (n : Int) (R : Nat) (z z1 z2 : List (Int × Int)) (k : Nat) (l : List Ent) : St := stOf 114 [(2, stepsV z), (3, stepsV z1), (4, stepsV z2), (11, .ptr 0 0), (13, .ptr 1 0), (15, .int .i64 (k : Int))] (bothH n (R : Int) l)
theorem forkL (n : Int) (R : Nat) (hR : R ≤ 32) (z z1 z2 : List (Int × Int)) (hz : ∀ x ∈ z, (0 ≤ x.1 ∧ x.1 ≤ 255) ∧ (0 ≤ x.2 ∧ x.2 ≤ 255)) (hl : z.length ≤ 9223372036854775807) : LoopG Try.prog 0 Try.f6 0 (.exit 0) (stOf 114 [(3, stepsV z1), (4, stepsV z2), (11, .ptr 0 0), (13, .ptr 1 0)] (bothH n (R : Int) (runF R z (min z.length 20)))) (fkS n R z z1 z2 0 []) := by
  refine loopG_of (min z.length 20) (fun k => fkS n R z z1 z2 k (runF R z k)) (by kernel_rfl) (by simp) ?_ ?_
  · intro k hk
    have hk1 : k < z.length := by omega
    have hk2 : k < 20 := by omega
    obtain ⟨⟨h1, h2⟩, h3, h4⟩ := getD_all hz hk1 (0, 0)
    have hr := runF_len R z k
    have c1 := play_v n R hR (runF R z k) hr (z.getD k (0, 0)).1 (z.getD k (0, 0)).2 h1 h3 (by omega)
    change CallsV _ _ _ _ (fun av H' => av = .bool true ∧ H' = bothD n (R : Int) (runF R z (k + 1))) at c1
    generalize runF R z (k + 1) = l' at c1 ⊢
    generalize runF R z k = l at c1 hr ⊢
    unfold bothH bothD at c1
    unfold fkS bothH
    have e1' := (congrArg (fun z => AV.fptr z) (steps_at (z) (k) (by assumption)))
    have e2' := c1
    have e3' := (congrArg (fun z => AV.int .i64 z) (wrap_i64 (e := (↑k : Int) + (1 : Int)) (by omega) (by omega)))
    exact g_x [⟨5, [.tm 51 (.bool true)], .no⟩, ⟨8, [], .br true .no⟩, ⟨13, [], .as (rhsOf e1')⟩, ⟨15, [], .callS [0, 1, 2, 3] [false, false, true, true] (avOf e2') (blOf e2') [false, false, false, false, true, true]⟩, ⟨17, [], .as (rhsOf e3')⟩] [.sel [2, 3, 4, 11, 13, 15], .keep [0, 1, 4, 5] [false, false, true, true]] (And.intro (congrArg AV.bool (show decide ((↑k : Int) < (↑z.length : Int)) = true from (by rw [decide_eq_true_iff]; omega))) (And.intro (show (bif true then decide ((↑k : Int) < (20 : Int)) else false) = true from (by simp_all; omega)) (And.intro (show (0 : Int) ≤ (↑k : Int) ∧ (↑k : Int) < (↑z.length : Int) from (by omega)) (And.intro e1' (And.intro (show 2 ≤ (AV.int .u8 (z.getD k ((0 : Int), (0 : Int))).fst :: AV.int .u8 (z.getD k ((0 : Int), (0 : Int))).snd :: flatA encZ (List.drop (k + 1) z)).length from (by exact Nat.le_of_ble_eq_true (by kernel_rfl))) (And.intro (show ∀ (x : AV), x ∈ flatA (encE n) l → noid0 x = true from ents_noid n l) (And.intro (show ∀ (x : AV), x ∈ flatA encD l → noid0 x = true from held_noid l) (And.intro (show ∀ (x : AV), x ∈ flatA (encE n) l' → noid0 x = true from ents_noid n l') (And.intro (show ∀ (x : AV), x ∈ flatA encD l' → noid0 x = true from held_noid l') (And.intro e2' (And.intro e3' (And.intro (show ∀ (x : AV), x ∈ flatA (encE n) l' → noid0 x = true from ents_noid n l') (show ∀ (x : AV), x ∈ flatA encD l' → noid0 x = true from held_noid l')))))))))))))
  · unfold fkS bothH
    by_cases hz0 : z.length < 20
    · rw [show min z.length 20 = z.length by omega]
      exact g_x [⟨5, [.tm 51 (.bool false)], .no⟩] [.sel [3, 4, 11, 13]] (And.intro (congrArg AV.bool (show decide ((↑z.length : Int) < (↑z.length : Int)) = false from (by rw [decide_eq_false_iff_not]; omega))) (show false = true → false = true from (fun h => h)))
    · rw [show min z.length 20 = 20 by omega]
      exact g_x [⟨5, [], .gd⟩, ⟨6, [], .gd⟩, ⟨8, [], .br false .no⟩] [.sel [3, 4, 11, 13]] (And.intro (show (decide ((20 : Int) < (↑z.length : Int)) == true) = true → (decide ((20 : Int) < (↑z.length : Int)) == true) = true from (fun h => h)) (And.intro (show decide ((20 : Int) < (↑z.length : Int)) = true → (decide ((20 : Int) < (↑z.length : Int)) == true) = true from (by (simp; done))) (show (bif decide ((20 : Int) < (↑z.length : Int)) then false else false) = false from (by simp_all; done))))
/-- steps from a state on -/
def runX (R : Nat) (l : List Ent) (z : List (Int × Int)) : Nat → List Ent
  | 0 => l
  | k + 1 => if k < z.length then stepF R (runX R l z k) (z.getD k (0, 0)).1 (z.getD k (0, 0)).2 else runX R l z k
theorem runX_len (R : Nat) (l : List Ent) (hl : l.length ≤ R) (z : List (Int × Int)) : ∀ k, (runX R l z k).length ≤ R
  | 0 => hl
  | k + 1 => by
    unfold runX
    split
    · exact stepF_len R _ _ _ (runX_len R l hl z k)
    · exact runX_len R l hl z k
theorem runX_lt (R : Nat) (l : List Ent) (z : List (Int × Int)) (k : Nat) (h : k < z.length) : runX R l z (k + 1) = stepF R (runX R l z k) (z.getD k (0, 0)).1 (z.getD k (0, 0)).2 := by
  rw [runX, if_pos h]
theorem runX_ge (R : Nat) (l : List Ent) (z : List (Int × Int)) (k : Nat) (h : ¬ k < z.length) : runX R l z (k + 1) = runX R l z k := by
  rw [runX, if_neg h]
def fk1 (n : Int) (R : Nat) (z1 z2 : List (Int × Int)) (k : Nat) (l l' : List Ent) : St := stOf 114 [(3, stepsV z1), (4, stepsV z2), (11, .ptr 0 0), (13, .ptr 1 0), (16, .ptr 2 0), (17, .ptr 3 0), (18, .int .i64 (k : Int))]
  [.row 40 [.int .i64 n, .int .i64 (R : Int), .sl 4 0 l.length 6], .row 35 [.int .i64 (R : Int), .sl 5 0 l.length 5], .row 40 [.int .i64 n, .int .i64 (R : Int), .sl 6 0 l'.length 6], .row 35 [.int .i64 (R : Int), .sl 7 0 l'.length 5],
    .row 73 (flatA (encE n) l), .row 89 (flatA encD l), .row 73 (flatA (encE n) l'), .row 89 (flatA encD l')]
theorem forkL1 (n : Int) (R : Nat) (hR : R ≤ 32) (l0 : List Ent) (hl0 : l0.length ≤ R) (z1 z2 : List (Int × Int)) (hz1 : ∀ x ∈ z1, (0 ≤ x.1 ∧ x.1 ≤ 255) ∧ (0 ≤ x.2 ∧ x.2 ≤ 255)) (hz2 : ∀ x ∈ z2, (0 ≤ x.1 ∧ x.1 ≤ 255) ∧ (0 ≤ x.2 ∧ x.2 ≤ 255)) (hl1 : z1.length ≤ 9223372036854775807) (hl2 : z2.length ≤ 9223372036854775807) : LoopG Try.prog 0 Try.f6 1 (.exit 2) (stOf 114 [] []) (fk1 n R z1 z2 0 l0 l0) := by
  refine loopG_of 20 (fun k => fk1 n R z1 z2 k (runX R l0 z1 k) (runX R l0 z2 k)) (by kernel_rfl) (by simp) ?_ ?_
  · intro k hk
    have hr1 := runX_len R l0 hl0 z1 k
    have hr2 := runX_len R l0 hl0 z2 k
    by_cases hk1 : k < z1.length
    · obtain ⟨⟨h1, h2⟩, h3, h4⟩ := getD_all hz1 hk1 (0, 0)
      have c1 := play_v n R hR (runX R l0 z1 k) hr1 (z1.getD k (0, 0)).1 (z1.getD k (0, 0)).2 h1 h3 (by omega)
      rw [← runX_lt R l0 z1 k hk1] at c1
      by_cases hk2 : k < z2.length
      · obtain ⟨⟨g1, g2⟩, g3, g4⟩ := getD_all hz2 hk2 (0, 0)
        have c2 := play_v n R hR (runX R l0 z2 k) hr2 (z2.getD k (0, 0)).1 (z2.getD k (0, 0)).2 g1 g3 (by omega)
        rw [← runX_lt R l0 z2 k hk2] at c2
        generalize runX R l0 z1 (k + 1) = l1' at c1 ⊢
        generalize runX R l0 z1 k = l1 at c1 hr1 ⊢
        generalize runX R l0 z2 (k + 1) = l2' at c2 ⊢
        generalize runX R l0 z2 k = l2 at c2 hr2 ⊢
        unfold bothH bothD at c1 c2
        unfold fk1
        have e1' := (congrArg (fun z => AV.fptr z) (steps_at (z1) (k) (by assumption)))
        have e2' := c1
        have e3' := (congrArg (fun z => AV.fptr z) (steps_at (z2) (k) (by assumption)))
        have e4' := c2
        have e5' := (congrArg (fun z => AV.int .i64 z) (wrap_i64 (e := (↑k : Int) + (1 : Int)) (by omega) (by omega)))
        exact g_x [⟨2, [], .br true .no⟩, ⟨8, [.tm 87 (.bool true)], .no⟩, ⟨12, [], .as (rhsOf e1')⟩, ⟨14, [], .callS [0, 1, 4, 5] [false, false, true, true] (avOf e2') (blOf e2') [false, false, false, false, true, true]⟩, ⟨23, [.tm 102 (.bool true)], .no⟩, ⟨27, [], .as (rhsOf e3')⟩, ⟨29, [], .callS [2, 3, 6, 7] [false, false, true, true] (avOf e4') (blOf e4') [false, false, false, false, true, true]⟩, ⟨35, [], .as (rhsOf e5')⟩] [.sel [3, 4, 11, 13, 16, 17, 18], .keep [0, 1, 2, 3, 8, 9, 10, 11] [false, false, false, false, true, true, true, true]] (And.intro (show decide ((↑k : Int) < (20 : Int)) = true from (by rw [decide_eq_true_iff]; omega)) (And.intro (congrArg AV.bool (show decide ((↑k : Int) < (↑z1.length : Int)) = true from (by rw [decide_eq_true_iff]; omega))) (And.intro (show (0 : Int) ≤ (↑k : Int) ∧ (↑k : Int) < (↑z1.length : Int) from (by omega)) (And.intro e1' (And.intro (show 2 ≤ (AV.int .u8 (z1.getD k ((0 : Int), (0 : Int))).fst :: AV.int .u8 (z1.getD k ((0 : Int), (0 : Int))).snd :: flatA encZ (List.drop (k + 1) z1)).length from (by exact Nat.le_of_ble_eq_true (by kernel_rfl))) (And.intro (show ∀ (x : AV), x ∈ flatA (encE n) l1 → noid0 x = true from ents_noid n l1) (And.intro (show ∀ (x : AV), x ∈ flatA encD l1 → noid0 x = true from held_noid l1) (And.intro (show ∀ (x : AV), x ∈ flatA (encE n) l1' → noid0 x = true from ents_noid n l1') (And.intro (show ∀ (x : AV), x ∈ flatA encD l1' → noid0 x = true from held_noid l1') (And.intro e2' (And.intro (congrArg AV.bool (show decide ((↑k : Int) < (↑z2.length : Int)) = true from (by rw [decide_eq_true_iff]; omega))) (And.intro (show (0 : Int) ≤ (↑k : Int) ∧ (↑k : Int) < (↑z2.length : Int) from (by omega)) (And.intro e3' (And.intro (show 2 ≤ (AV.int .u8 (z2.getD k ((0 : Int), (0 : Int))).fst :: AV.int .u8 (z2.getD k ((0 : Int), (0 : Int))).snd :: flatA encZ (List.drop (k + 1) z2)).length from (by exact Nat.le_of_ble_eq_true (by kernel_rfl))) (And.intro (show ∀ (x : AV), x ∈ flatA (encE n) l2 → noid0 x = true from ents_noid n l2) (And.intro (show ∀ (x : AV), x ∈ flatA encD l2 → noid0 x = true from held_noid l2) (And.intro (show ∀ (x : AV), x ∈ flatA (encE n) l2' → noid0 x = true from ents_noid n l2') (And.intro (show ∀ (x : AV), x ∈ flatA encD l2' → noid0 x = true from held_noid l2') (And.intro e4' (And.intro e5' (And.intro (show ∀ (x : AV), x ∈ flatA (encE n) l1' → noid0 x = true from ents_noid n l1') (And.intro (show ∀ (x : AV), x ∈ flatA encD l1' → noid0 x = true from held_noid l1') (And.intro (show ∀ (x : AV), x ∈ flatA (encE n) l2' → noid0 x = true from ents_noid n l2') (show ∀ (x : AV), x ∈ flatA encD l2' → noid0 x = true from held_noid l2'))))))))))))))))))))))))
      · rw [runX_ge R l0 z2 k hk2]
        generalize runX R l0 z1 (k + 1) = l1' at c1 ⊢
        generalize runX R l0 z1 k = l1 at c1 hr1 ⊢
        generalize runX R l0 z2 k = l2 at hr2 ⊢
        unfold bothH bothD at c1
        unfold fk1
        have e1' := (congrArg (fun z => AV.fptr z) (steps_at (z1) (k) (by assumption)))
        have e2' := c1
        have e3' := (congrArg (fun z => AV.int .i64 z) (wrap_i64 (e := (↑k : Int) + (1 : Int)) (by omega) (by omega)))
        exact g_x [⟨2, [], .br true .no⟩, ⟨8, [.tm 87 (.bool true)], .no⟩, ⟨12, [], .as (rhsOf e1')⟩, ⟨14, [], .callS [0, 1, 4, 5] [false, false, true, true] (avOf e2') (blOf e2') [false, false, false, false, true, true]⟩, ⟨23, [.tm 102 (.bool false)], .no⟩, ⟨35, [], .as (rhsOf e3')⟩] [.sel [3, 4, 11, 13, 16, 17, 18], .keep [0, 1, 2, 3, 8, 9, 6, 7] [false, false, false, false, true, true, true, true]] (And.intro (show decide ((↑k : Int) < (20 : Int)) = true from (by rw [decide_eq_true_iff]; omega)) (And.intro (congrArg AV.bool (show decide ((↑k : Int) < (↑z1.length : Int)) = true from (by rw [decide_eq_true_iff]; omega))) (And.intro (show (0 : Int) ≤ (↑k : Int) ∧ (↑k : Int) < (↑z1.length : Int) from (by omega)) (And.intro e1' (And.intro (show 2 ≤ (AV.int .u8 (z1.getD k ((0 : Int), (0 : Int))).fst :: AV.int .u8 (z1.getD k ((0 : Int), (0 : Int))).snd :: flatA encZ (List.drop (k + 1) z1)).length from (by exact Nat.le_of_ble_eq_true (by kernel_rfl))) (And.intro (show ∀ (x : AV), x ∈ flatA (encE n) l1 → noid0 x = true from ents_noid n l1) (And.intro (show ∀ (x : AV), x ∈ flatA encD l1 → noid0 x = true from held_noid l1) (And.intro (show ∀ (x : AV), x ∈ flatA (encE n) l1' → noid0 x = true from ents_noid n l1') (And.intro (show ∀ (x : AV), x ∈ flatA encD l1' → noid0 x = true from held_noid l1') (And.intro e2' (And.intro (congrArg AV.bool (show decide ((↑k : Int) < (↑z2.length : Int)) = false from (by rw [decide_eq_false_iff_not]; omega))) (And.intro (show false = true → false = true from (fun h => h)) (And.intro e3' (And.intro (show ∀ (x : AV), x ∈ flatA (encE n) l1' → noid0 x = true from ents_noid n l1') (And.intro (show ∀ (x : AV), x ∈ flatA encD l1' → noid0 x = true from held_noid l1') (And.intro (show ∀ (x : AV), x ∈ flatA (encE n) l2 → noid0 x = true from ents_noid n l2) (show ∀ (x : AV), x ∈ flatA encD l2 → noid0 x = true from held_noid l2)))))))))))))))))
    · rw [runX_ge R l0 z1 k hk1]
      by_cases hk2 : k < z2.length
      · obtain ⟨⟨g1, g2⟩, g3, g4⟩ := getD_all hz2 hk2 (0, 0)
        have c2 := play_v n R hR (runX R l0 z2 k) hr2 (z2.getD k (0, 0)).1 (z2.getD k (0, 0)).2 g1 g3 (by omega)
        rw [← runX_lt R l0 z2 k hk2] at c2
        generalize runX R l0 z1 k = l1 at hr1 ⊢
        generalize runX R l0 z2 (k + 1) = l2' at c2 ⊢
        generalize runX R l0 z2 k = l2 at c2 hr2 ⊢
        unfold bothH bothD at c2
        unfold fk1
        have e1' := (congrArg (fun z => AV.fptr z) (steps_at (z2) (k) (by assumption)))
        have e2' := c2
        have e3' := (congrArg (fun z => AV.int .i64 z) (wrap_i64 (e := (↑k : Int) + (1 : Int)) (by omega) (by omega)))
        exact g_x [⟨2, [], .br true .no⟩, ⟨8, [.tm 87 (.bool false)], .no⟩, ⟨23, [.tm 102 (.bool true)], .no⟩, ⟨27, [], .as (rhsOf e1')⟩, ⟨29, [], .callS [2, 3, 6, 7] [false, false, true, true] (avOf e2') (blOf e2') [false, false, false, false, true, true]⟩, ⟨35, [], .as (rhsOf e3')⟩] [.sel [3, 4, 11, 13, 16, 17, 18], .keep [0, 1, 2, 3, 4, 5, 8, 9] [false, false, false, false, true, true, true, true]] (And.intro (show decide ((↑k : Int) < (20 : Int)) = true from (by rw [decide_eq_true_iff]; omega)) (And.intro (congrArg AV.bool (show decide ((↑k : Int) < (↑z1.length : Int)) = false from (by rw [decide_eq_false_iff_not]; omega))) (And.intro (show false = true → false = true from (fun h => h)) (And.intro (congrArg AV.bool (show decide ((↑k : Int) < (↑z2.length : Int)) = true from (by rw [decide_eq_true_iff]; omega))) (And.intro (show (0 : Int) ≤ (↑k : Int) ∧ (↑k : Int) < (↑z2.length : Int) from (by omega)) (And.intro e1' (And.intro (show 2 ≤ (AV.int .u8 (z2.getD k ((0 : Int), (0 : Int))).fst :: AV.int .u8 (z2.getD k ((0 : Int), (0 : Int))).snd :: flatA encZ (List.drop (k + 1) z2)).length from (by exact Nat.le_of_ble_eq_true (by kernel_rfl))) (And.intro (show ∀ (x : AV), x ∈ flatA (encE n) l2 → noid0 x = true from ents_noid n l2) (And.intro (show ∀ (x : AV), x ∈ flatA encD l2 → noid0 x = true from held_noid l2) (And.intro (show ∀ (x : AV), x ∈ flatA (encE n) l2' → noid0 x = true from ents_noid n l2') (And.intro (show ∀ (x : AV), x ∈ flatA encD l2' → noid0 x = true from held_noid l2') (And.intro e2' (And.intro e3' (And.intro (show ∀ (x : AV), x ∈ flatA (encE n) l1 → noid0 x = true from ents_noid n l1) (And.intro (show ∀ (x : AV), x ∈ flatA encD l1 → noid0 x = true from held_noid l1) (And.intro (show ∀ (x : AV), x ∈ flatA (encE n) l2' → noid0 x = true from ents_noid n l2') (show ∀ (x : AV), x ∈ flatA encD l2' → noid0 x = true from held_noid l2')))))))))))))))))
      · rw [runX_ge R l0 z2 k hk2]
        generalize runX R l0 z1 k = l1 at hr1 ⊢
        generalize runX R l0 z2 k = l2 at hr2 ⊢
        unfold fk1
        have e1' := (congrArg (fun z => AV.int .i64 z) (wrap_i64 (e := (↑k : Int) + (1 : Int)) (by omega) (by omega)))
        exact g_x [⟨2, [], .br true .no⟩, ⟨8, [.tm 87 (.bool false)], .no⟩, ⟨23, [.tm 102 (.bool false)], .no⟩, ⟨35, [], .as (rhsOf e1')⟩] [.sel [3, 4, 11, 13, 16, 17, 18]] (And.intro (show decide ((↑k : Int) < (20 : Int)) = true from (by rw [decide_eq_true_iff]; omega)) (And.intro (congrArg AV.bool (show decide ((↑k : Int) < (↑z1.length : Int)) = false from (by rw [decide_eq_false_iff_not]; omega))) (And.intro (show false = true → false = true from (fun h => h)) (And.intro (congrArg AV.bool (show decide ((↑k : Int) < (↑z2.length : Int)) = false from (by rw [decide_eq_false_iff_not]; omega))) (And.intro (show false = true → false = true from (fun h => h)) e1')))))
  · generalize runX R l0 z1 20 = l1
    generalize runX R l0 z2 20 = l2
    unfold fk1
    exact g_x [] [.sel [], .keep [] []] trivial
theorem held_cp (l : List Ent) (s : Nat) (hs : s = 5) : [] ++ List.take (l.length * s) (List.drop 0 (flatA encD l)) = flatA encD l := by
  subst hs
  rw [List.nil_append, List.drop_zero]
  exact List.take_of_length_le (Nat.le_of_eq (held_len l))
theorem fork_law (b r : Int) (z z1 z2 : List (Int × Int)) (hb : 0 ≤ b ∧ b ≤ 255) (hr : 0 ≤ r ∧ r ≤ 255) (hz : ∀ x ∈ z, (0 ≤ x.1 ∧ x.1 ≤ 255) ∧ (0 ≤ x.2 ∧ x.2 ≤ 255)) (hl : z.length ≤ 9223372036854775807) (hz1 : ∀ x ∈ z1, (0 ≤ x.1 ∧ x.1 ≤ 255) ∧ (0 ≤ x.2 ∧ x.2 ≤ 255)) (hz2 : ∀ x ∈ z2, (0 ≤ x.1 ∧ x.1 ≤ 255) ∧ (0 ≤ x.2 ∧ x.2 ≤ 255)) (hl1 : z1.length ≤ 9223372036854775807) (hl2 : z2.length ≤ 9223372036854775807) : CallsV Try.prog 6 [.int .u8 b, .int .u8 r, stepsV z, stepsV z1, stepsV z2] [] (fun av H' => av = .bool true ∧ H' = []) := by
  refine callsG_at Try.func6 (by kernel_rfl) ?_
  have e1 : b.tmod 5 = b % 5 := Int.tmod_eq_emod_of_nonneg hb.1
  have e2 : r.tmod 6 = r % 6 := Int.tmod_eq_emod_of_nonneg hr.1
  have c1 := new_v (1 + b.tmod 5) (r.tmod 6) (by omega) (by omega)
  have c2 := newR (1 + b.tmod 5) (r.tmod 6) (by omega) (by omega)
  have hR : ((r.tmod 6).toNat : Int) = r.tmod 6 := by omega
  have hL := forkL (1 + b.tmod 5) (r.tmod 6).toNat (by omega) z z1 z2 hz hl
  have hlen := runF_len (r.tmod 6).toNat z (min z.length 20)
  have hR32 : (r.tmod 6).toNat ≤ 32 := by omega
  rw [← hR] at c1 c2
  generalize (r.tmod 6).toNat = R at hR hL c1 c2 hlen hR32
  generalize runF R z (min z.length 20) = l at hL hlen
  have c3 := fork_v (1 + b.tmod 5) (R : Int) l (by omega)
  have h0 : 0 + l.length = l.length := Nat.zero_add _
  have hL1 := forkL1 (1 + b.tmod 5) R hR32 l hlen z1 z2 hz1 hz2 hl1 hl2
  unfold fk1 at hL1
  have hge : l.length * 5 ≤ (flatA encD l).length := Nat.le_of_eq (held_len l).symm
  unfold cacheH at c1 c3
  unfold refH at c2
  unfold fkS bothH at hL
  have e1' := (congrArg (fun z => AV.int .i64 z) (wrap_i64 (e := b.tmod (5 : Int)) (by omega) (by omega)))
  have e2' := (congrArg (fun z => AV.int .i64 z) (wrap_i64 (e := (1 : Int) + b.tmod (5 : Int)) (by omega) (by omega)))
  have e3' := (congrArg (fun z => AV.int .u8 z) hR.symm)
  have e4' := (congrArg (fun z => AV.int .i64 z) (wrap_i64 (e := (↑R : Int)) (by omega) (by omega)))
  have e5' := c1
  have e6' := c2
  have e7' := hL
  have e8' := c3
  have e9' := (congrArg (fun z => AV.sl 6 0 z 5) h0)
  have e10' := (congrArg (fun z => Blk.row 89 z) (held_cp (l) (sizeT Try.prog (elemTy Try.prog 33)) (by kernel_rfl)))
  have e11' := hL1
  have e12' := awake_v
  refine g_qB [⟨3, [], .as (rhsOf e1')⟩, ⟨4, [], .as (rhsOf e2')⟩, ⟨6, [], .as (rhsOf e3')⟩, ⟨7, [], .as (rhsOf e4')⟩, ⟨8, [], .call (avOf e5') (blOf e5') [false, false]⟩, ⟨16, [], .as (rhsOf e1')⟩, ⟨17, [], .as (rhsOf e2')⟩, ⟨19, [], .as (rhsOf e3')⟩, ⟨20, [], .as (rhsOf e4')⟩, ⟨21, [], .call (avOf e6') (blOf e6') [false, false]⟩, ⟨35, [.sel [2, 3, 4, 11, 13, 15], .keep [0, 2, 1, 3] [false, false, false, false]], .loop (exOf e7') (endOf e7')⟩, ⟨37, [], .callS [0, 2] [false, true] (avOf e8') (blOf e8') [false, true, false, true]⟩, ⟨47, [], .as (rhsOf e9')⟩, ⟨51, [.hp 6 (rhsOf e10')], .no⟩, ⟨55, [.sel [3, 4, 11, 13, 16, 17, 18], .keep [0, 1, 4, 7, 2, 3, 5, 6] [false, false, false, false, true, true, true, true]], .loop (exOf e11') (endOf e11')⟩, ⟨56, [], .call (avOf e12') (blOf e12') []⟩] [.sel [10]] Exit.ret (stOf 114 [(10, AV.bool true)] []) (And.intro (show (5 : Int) ≠ (0 : Int) from (by omega)) (And.intro e1' (And.intro e2' (And.intro (show (6 : Int) ≠ (0 : Int) from (by omega)) (And.intro e3' (And.intro e4' (And.intro e5' (And.intro (show (5 : Int) ≠ (0 : Int) from (by omega)) (And.intro e1' (And.intro e2' (And.intro (show (6 : Int) ≠ (0 : Int) from (by omega)) (And.intro e3' (And.intro e4' (And.intro e6' (And.intro e7' (And.intro (show ∀ (x : AV), x ∈ flatA (encE ((1 : Int) + b.tmod (5 : Int))) l → noid0 x = true from ents_noid (1 + b.tmod 5) l) (And.intro (show ∀ (x : AV), x ∈ flatA (encE ((1 : Int) + b.tmod (5 : Int))) l → noid0 x = true from ents_noid (1 + b.tmod 5) l) (And.intro (show ∀ (x : AV), x ∈ flatA (encE ((1 : Int) + b.tmod (5 : Int))) l → noid0 x = true from ents_noid (1 + b.tmod 5) l) (And.intro e8' (And.intro (show 1 ≤ 1 from (by omega)) (And.intro (show 0 + l.length * 5 ≤ (flatA encD l).length from (by omega)) (And.intro (show (0 + l.length) * 104 ≤ 140737488355328 from (by omega)) (And.intro (show 0 + l.length ≤ maxLen from (by (unfold maxLen; omega))) (And.intro e9' (And.intro (show 0 + l.length * 5 ≤ (flatA encD l).length from (by omega)) (And.intro (show (0 + l.length) * 104 ≤ 140737488355328 from (by omega)) (And.intro (show 0 + l.length ≤ maxLen from (by (unfold maxLen; omega))) (And.intro e9' (And.intro (show 1 ≤ 2 from (by omega)) (And.intro (show 0 + l.length * 5 ≤ (flatA encD l).length from (by omega)) (And.intro (show (0 + l.length) * 104 ≤ 140737488355328 from (by omega)) (And.intro (show 0 + l.length ≤ maxLen from (by (unfold maxLen; omega))) (And.intro e9' (And.intro (show 0 + l.length * 5 ≤ (flatA encD l).length from (by omega)) (And.intro (show (0 + l.length) * 104 ≤ 140737488355328 from (by omega)) (And.intro (show 0 + l.length ≤ maxLen from (by (unfold maxLen; omega))) (And.intro e9' (And.intro (show 1 ≤ 2 from (by omega)) (And.intro (congrArg some e10') (And.intro (show ∀ (x : AV), x ∈ flatA (encE ((1 : Int) + b.tmod (5 : Int))) l → noid0 x = true from ents_noid (1 + b.tmod 5) l) (And.intro (show ∀ (x : AV), x ∈ flatA encD l → noid0 x = true from held_noid l) (And.intro (show ∀ (x : AV), x ∈ flatA (encE ((1 : Int) + b.tmod (5 : Int))) l → noid0 x = true from ents_noid (1 + b.tmod 5) l) (And.intro (show ∀ (x : AV), x ∈ flatA encD l → noid0 x = true from held_noid l) (And.intro e11' e12')))))))))))))))))))))))))))))))))))))))))))) ?_
  refine g_f [] [] (AV.bool true) ([]) trivial ?_
  exact ⟨rfl, rfl⟩
end Go.Proofs.Ytcmbhebgpboepaa
