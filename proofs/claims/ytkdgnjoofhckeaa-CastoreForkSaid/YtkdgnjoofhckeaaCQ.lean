/-
  Stores: the law about forks.
-/
import Derived.Test.YtkdgnjoofhckeaaCP
namespace Go.Proofs.Ytkdgnjoofhckeaa
open Go Go.RowKit V
set_option linter.unusedSimpArgs false
set_option linter.unusedVariables false
set_option maxHeartbeats 20000000
set_option maxRecDepth 20000
structure Sn where
  l : List It
  A : List Int
def stepN (n : Int) (R : Nat) (q : Sn) (a b : Int) : Sn := ⟨(stepC n R ⟨q.l, q.A, []⟩ a b).l, (stepC n R ⟨q.l, q.A, []⟩ a b).A⟩
abbrev InvN (R k : Nat) (q : Sn) : Prop := Inv R k ⟨q.l, q.A, []⟩
theorem stepN_inv (n : Int) (R k : Nat) (hR : 0 < R) (q : Sn) (a b : Int) (h : InvN R k q) : InvN R (k + 1) (stepN n R q a b) := by
  obtain ⟨h1, h2, h3, h4⟩ := stepC_inv n R k hR ⟨q.l, q.A, []⟩ a b h
  exact ⟨h1, h2, h3, Nat.zero_le _⟩
def runN (n : Int) (R : Nat) (z : List (Int × Int)) (q : Sn) : Nat → Sn
  | 0 => q
  | k + 1 => if k < z.length then stepN n R (runN n R z q k) (z.getD k (0, 0)).1 (z.getD k (0, 0)).2 else runN n R z q k
theorem runN_inv (n : Int) (R m : Nat) (hR : 0 < R) (z : List (Int × Int)) (q : Sn) (h : InvN R m q) : ∀ k, InvN R (m + k) (runN n R z q k)
  | 0 => h
  | k + 1 => by
    have ih := runN_inv n R m hR z q h k
    unfold runN
    split
    · exact stepN_inv n R (m + k) hR _ _ _ ih
    · obtain ⟨h1, h2, h3, h4⟩ := ih
      exact ⟨h1, h2, by omega, Nat.zero_le _⟩
theorem play_s (n : Int) (hn : 1 ≤ n ∧ n ≤ 32) (R : Nat) (hR : 0 < R ∧ R ≤ 32) (k : Nat) (hk : k ≤ 100) (q : Sn) (h : InvN R k q) (a b : Int) (ha0 : 0 ≤ a) (hb0 : 0 ≤ b) (hb1 : b < 256) : ∃ ks, CallsV Try.prog 10 [.ptr 0 0, .ptr 1 0, .agg [.int .u8 a, .int .u8 b], .nilsl] (bothN n (R : Int) q.l q.A) (fun av H' => av = .tuple [.sl 7 0 (List.length ks) 2, .bool true] ∧ H' = bothM n (R : Int) (stepN n R q a b).l (stepN n R q a b).A ks) :=
  ⟨_, play_n n hn R hR k hk q.l q.A h a b ha0 hb0 hb1⟩
def f0S (z1 z2 z : List (Int × Int)) (n r : Int) (q : Sn) (k : Nat) : St := stOf 131 [(2, stepsV z), (3, stepsV z1), (4, stepsV z2), (11, .ptr 0 0), (13, .ptr 1 0), (15, .int .i64 (k : Int))] (bothN n r q.l q.A)
theorem f0L (n : Int) (hn : 1 ≤ n ∧ n ≤ 32) (R : Nat) (hR : 0 < R ∧ R ≤ 32) (z1 z2 z : List (Int × Int)) (hz : ∀ x ∈ z, (0 ≤ x.1 ∧ x.1 ≤ 255) ∧ (0 ≤ x.2 ∧ x.2 ≤ 255)) (hl : z.length ≤ 9223372036854775807) : LoopG Try.prog 0 Try.f6 0 (.exit 0) (stOf 131 [(3, stepsV z1), (4, stepsV z2), (11, .ptr 0 0), (13, .ptr 1 0)] (bothN n (R : Int) (runN n R z ⟨[], []⟩ (min z.length 20)).l (runN n R z ⟨[], []⟩ (min z.length 20)).A)) (f0S z1 z2 z n (R : Int) ⟨[], []⟩ 0) := by
  refine loopG_of (min z.length 20) (fun k => f0S z1 z2 z n (R : Int) (runN n R z ⟨[], []⟩ k) k) (by kernel_rfl) (by simp [runN]) ?_ ?_
  · intro k hk
    have hk1 : k < z.length := by omega
    have hk2 : k < 20 := by omega
    obtain ⟨⟨a0, a1⟩, b0, b1⟩ := getD_all hz hk1 (0, 0)
    have hi := runN_inv n R 0 hR.1 z ⟨[], []⟩ ⟨Nat.zero_le _, fun x hx => by simp at hx, Nat.zero_le _, Nat.zero_le _⟩ k
    obtain ⟨ks, c1⟩ := play_s n hn R hR _ (by omega) _ hi (z.getD k (0, 0)).1 (z.getD k (0, 0)).2 a0 b0 (by omega)
    rw [show runN n R z ⟨[], []⟩ (k + 1) = stepN n R (runN n R z ⟨[], []⟩ k) (z.getD k (0, 0)).1 (z.getD k (0, 0)).2 from if_pos hk1]
    generalize stepN n R (runN n R z ⟨[], []⟩ k) (z.getD k (0, 0)).1 (z.getD k (0, 0)).2 = q' at c1 ⊢
    generalize runN n R z ⟨[], []⟩ k = q at c1 ⊢
    obtain ⟨l', A'⟩ := q'
    obtain ⟨l, A⟩ := q
    simp only at c1 ⊢
    clear hi
    unfold bothN bothM at c1
    unfold f0S bothN
    have e1' := (congrArg (fun z => AV.fptr z) (steps_at (z) (k) (by assumption)))
    have e2' := c1
    have e3' := (congrArg (fun z => AV.int .i64 z) (wrap_i64 (e := (↑k : Int) + (1 : Int)) (by omega) (by omega)))
    exact g_x [⟨5, [.tm 57 (.bool true)], .no⟩, ⟨8, [], .br true .no⟩, ⟨13, [], .as (rhsOf e1')⟩, ⟨15, [], .callS [0, 1, 2, 3, 4, 5] [false, false, true, true, true, true] (avOf e2') (blOf e2') [false, false, false, true, false, false, false, true, true, true, true]⟩, ⟨17, [], .as (rhsOf e3')⟩] [.sel [2, 3, 4, 11, 13, 15], .keep [0, 1, 8, 3, 9, 10] [false, false, true, true, true, true]] (And.intro (congrArg AV.bool (show decide ((↑k : Int) < (↑z.length : Int)) = true from (by rw [decide_eq_true_iff]; omega))) (And.intro (show (bif true then decide ((↑k : Int) < (20 : Int)) else false) = true from (by simp_all; omega)) (And.intro (show (0 : Int) ≤ (↑k : Int) ∧ (↑k : Int) < (↑z.length : Int) from (by omega)) (And.intro e1' (And.intro (show 2 ≤ (AV.int .u8 (z.getD k ((0 : Int), (0 : Int))).fst :: AV.int .u8 (z.getD k ((0 : Int), (0 : Int))).snd :: flatA encZ (List.drop (k + 1) z)).length from (by exact Nat.le_of_ble_eq_true (by kernel_rfl))) (And.intro (show ∀ (x : AV), x ∈ flatA (encP n) (Sn.mk l A).l → noid0 x = true from its_noid n l) (And.intro (show ∀ (q : AV × AV), q ∈ mapC (Sn.mk l A).A → plain1 q.fst = true ∧ plain1 q.snd = true from map_plainC A) (And.intro (show ∀ (x : AV), x ∈ flatA (encR n) (Sn.mk l A).l → noid0 x = true from rts_noid n l) (And.intro (show ∀ (x : AV), x ∈ flatA encA (Sn.mk l A).A → noid0 x = true from encA_noid A) (And.intro (show ∀ (q : AV × AV), q ∈ mapC A' → plain1 q.fst = true ∧ plain1 q.snd = true from map_plainC A') (And.intro (show ∀ (x : AV), x ∈ flatA encK ks → noid0 x = true from encK_noid ks) (And.intro (show ∀ (x : AV), x ∈ flatA (encP n) l' → noid0 x = true from its_noid n l') (And.intro (show ∀ (x : AV), x ∈ flatA (encR n) l' → noid0 x = true from rts_noid n l') (And.intro (show ∀ (x : AV), x ∈ flatA encA A' → noid0 x = true from encA_noid A') (And.intro e2' (And.intro e3' (And.intro (show ∀ (x : AV), x ∈ flatA (encP n) l' → noid0 x = true from its_noid n l') (And.intro (show ∀ (q : AV × AV), q ∈ mapC A' → plain1 q.fst = true ∧ plain1 q.snd = true from map_plainC A') (And.intro (show ∀ (x : AV), x ∈ flatA (encR n) l' → noid0 x = true from rts_noid n l') (show ∀ (x : AV), x ∈ flatA encA A' → noid0 x = true from encA_noid A'))))))))))))))))))))
  · generalize runN n R z ⟨[], []⟩ (min z.length 20) = q
    obtain ⟨l, A⟩ := q
    simp only
    unfold f0S bothN
    by_cases hz0 : z.length < 20
    · rw [show min z.length 20 = z.length by omega]
      exact g_x [⟨5, [.tm 57 (.bool false)], .no⟩] [.sel [3, 4, 11, 13]] (And.intro (congrArg AV.bool (show decide ((↑z.length : Int) < (↑z.length : Int)) = false from (by rw [decide_eq_false_iff_not]; omega))) (show false = true → false = true from (fun h => h)))
    · rw [show min z.length 20 = 20 by omega]
      exact g_x [⟨5, [], .gd⟩, ⟨6, [], .gd⟩, ⟨8, [], .br false .no⟩] [.sel [3, 4, 11, 13]] (And.intro (show (decide ((20 : Int) < (↑z.length : Int)) == true) = true → (decide ((20 : Int) < (↑z.length : Int)) == true) = true from (fun h => h)) (And.intro (show decide ((20 : Int) < (↑z.length : Int)) = true → (decide ((20 : Int) < (↑z.length : Int)) == true) = true from (by (simp; done))) (show (bif decide ((20 : Int) < (↑z.length : Int)) then false else false) = false from (by simp_all; done))))
def foH (n r : Int) (l : List It) (A : List Int) (m : List It) (B : List Int) : List Blk := [.row 48 [.int .i64 n, .int .i64 r, .sl 4 0 l.length 3, .map 5], .row 38 [.int .i64 n, .int .i64 r, .sl 6 0 l.length 3, .sl 7 0 A.length 1], .row 48 [.int .i64 n, .int .i64 r, .sl 8 0 m.length 3, .map 9], .row 38 [.int .i64 n, .int .i64 r, .sl 10 0 m.length 3, .sl 11 0 B.length 1],
  .row 65 (flatA (encP n) l), .map (mapC A), .row 74 (flatA (encR n) l), .row 42 (flatA encA A), .row 65 (flatA (encP n) m), .map (mapC B), .row 74 (flatA (encR n) m), .row 42 (flatA encA B)]
def f1S (z1 z2 : List (Int × Int)) (n r : Int) (q1 q2 : Sn) (k : Nat) : St := stOf 131 [(3, stepsV z1), (4, stepsV z2), (11, .ptr 0 0), (13, .ptr 1 0), (16, .ptr 2 0), (17, .ptr 3 0), (18, .int .i64 (k : Int))] (foH n r q1.l q1.A q2.l q2.A)
theorem f1L (n : Int) (hn : 1 ≤ n ∧ n ≤ 32) (R : Nat) (hR : 0 < R ∧ R ≤ 32) (z1 z2 : List (Int × Int)) (hz1 : ∀ x ∈ z1, (0 ≤ x.1 ∧ x.1 ≤ 255) ∧ (0 ≤ x.2 ∧ x.2 ≤ 255)) (hz2 : ∀ x ∈ z2, (0 ≤ x.1 ∧ x.1 ≤ 255) ∧ (0 ≤ x.2 ∧ x.2 ≤ 255)) (hl1 : z1.length ≤ 9223372036854775807) (hl2 : z2.length ≤ 9223372036854775807) (q : Sn) (hq : InvN R 20 q) : LoopG Try.prog 0 Try.f6 1 (.exit 2) (stOf 131 [] []) (f1S z1 z2 n (R : Int) q q 0) := by
  refine loopG_of 20 (fun k => f1S z1 z2 n (R : Int) (runN n R z1 q k) (runN n R z2 q k) k) (by kernel_rfl) (by simp [runN]) ?_ ?_
  · intro k hk
    have hi1 := runN_inv n R 20 hR.1 z1 q hq k
    have hi2 := runN_inv n R 20 hR.1 z2 q hq k
    rw [show runN n R z1 q (k + 1) = if k < z1.length then stepN n R (runN n R z1 q k) (z1.getD k (0, 0)).1 (z1.getD k (0, 0)).2 else runN n R z1 q k from rfl, show runN n R z2 q (k + 1) = if k < z2.length then stepN n R (runN n R z2 q k) (z2.getD k (0, 0)).1 (z2.getD k (0, 0)).2 else runN n R z2 q k from rfl]
    generalize runN n R z1 q k = q1 at *
    generalize runN n R z2 q k = q2 at *
    by_cases h1 : k < z1.length
    · rw [if_pos h1]
      obtain ⟨⟨a0, a1⟩, b0, b1⟩ := getD_all hz1 h1 (0, 0)
      have hat1 := steps_at z1 k h1
      obtain ⟨ks, c1⟩ := play_s n hn R hR _ (by omega) _ hi1 (z1.getD k (0, 0)).1 (z1.getD k (0, 0)).2 a0 b0 (by omega)
      generalize stepN n R q1 (z1.getD k (0, 0)).1 (z1.getD k (0, 0)).2 = q1' at c1 ⊢
      by_cases h2 : k < z2.length
      · rw [if_pos h2]
        obtain ⟨⟨d0, d1⟩, e0, e1⟩ := getD_all hz2 h2 (0, 0)
        have hat2 := steps_at z2 k h2
        obtain ⟨kt, c2⟩ := play_s n hn R hR _ (by omega) _ hi2 (z2.getD k (0, 0)).1 (z2.getD k (0, 0)).2 d0 e0 (by omega)
        generalize stepN n R q2 (z2.getD k (0, 0)).1 (z2.getD k (0, 0)).2 = q2' at c2 ⊢
        obtain ⟨l1, A1⟩ := q1
        obtain ⟨l2, A2⟩ := q2
        obtain ⟨l3, A3⟩ := q1'
        obtain ⟨l4, A4⟩ := q2'
        simp only at c1 c2
        clear hi1 hi2 hz1 hz2 hq
        unfold bothN bothM at c1 c2
        unfold f1S foH
        have e1' := (congrArg (fun z => AV.fptr z) hat1)
        have e2' := c1
        have e3' := (congrArg (fun z => AV.fptr z) hat2)
        have e4' := c2
        have e5' := (congrArg (fun z => AV.int .i64 z) (wrap_i64 (e := (↑k : Int) + (1 : Int)) (by omega) (by omega)))
        exact g_x [⟨2, [], .br true .no⟩, ⟨7, [], .br true .no⟩, ⟨12, [], .as (rhsOf e1')⟩, ⟨14, [], .callS [0, 1, 4, 5, 6, 7] [false, false, true, true, true, true] (avOf e2') (blOf e2') [false, false, false, true, false, false, false, true, true, true, true]⟩, ⟨27, [], .br true .no⟩, ⟨32, [], .as (rhsOf e3')⟩, ⟨34, [], .callS [2, 3, 8, 9, 10, 11] [false, false, true, true, true, true] (avOf e4') (blOf e4') [false, false, false, true, false, false, false, true, true, true, true]⟩, ⟨44, [], .as (rhsOf e5')⟩] [.sel [3, 4, 11, 13, 16, 17, 18], .keep [0, 1, 2, 3, 14, 5, 15, 16, 19, 9, 20, 21] [false, false, false, false, true, true, true, true, true, true, true, true]] (And.intro (show decide ((↑k : Int) < (20 : Int)) = true from (by rw [decide_eq_true_iff]; omega)) (And.intro (show decide ((↑k : Int) < (↑z1.length : Int)) = true from (by rw [decide_eq_true_iff]; omega)) (And.intro (show (0 : Int) ≤ (↑k : Int) ∧ (↑k : Int) < (↑z1.length : Int) from (by omega)) (And.intro e1' (And.intro (show 2 ≤ (AV.int .u8 (z1.getD k ((0 : Int), (0 : Int))).fst :: AV.int .u8 (z1.getD k ((0 : Int), (0 : Int))).snd :: flatA encZ (List.drop (k + 1) z1)).length from (by exact Nat.le_of_ble_eq_true (by kernel_rfl))) (And.intro (show ∀ (x : AV), x ∈ flatA (encP n) (Sn.mk l1 A1).l → noid0 x = true from its_noid n l1) (And.intro (show ∀ (q : AV × AV), q ∈ mapC (Sn.mk l1 A1).A → plain1 q.fst = true ∧ plain1 q.snd = true from map_plainC A1) (And.intro (show ∀ (x : AV), x ∈ flatA (encR n) (Sn.mk l1 A1).l → noid0 x = true from rts_noid n l1) (And.intro (show ∀ (x : AV), x ∈ flatA encA (Sn.mk l1 A1).A → noid0 x = true from encA_noid A1) (And.intro (show ∀ (q : AV × AV), q ∈ mapC A3 → plain1 q.fst = true ∧ plain1 q.snd = true from map_plainC A3) (And.intro (show ∀ (x : AV), x ∈ flatA encK ks → noid0 x = true from encK_noid ks) (And.intro (show ∀ (x : AV), x ∈ flatA (encP n) l3 → noid0 x = true from its_noid n l3) (And.intro (show ∀ (x : AV), x ∈ flatA (encR n) l3 → noid0 x = true from rts_noid n l3) (And.intro (show ∀ (x : AV), x ∈ flatA encA A3 → noid0 x = true from encA_noid A3) (And.intro e2' (And.intro (show decide ((↑k : Int) < (↑z2.length : Int)) = true from (by rw [decide_eq_true_iff]; omega)) (And.intro (show (0 : Int) ≤ (↑k : Int) ∧ (↑k : Int) < (↑z2.length : Int) from (by omega)) (And.intro e3' (And.intro (show 2 ≤ (AV.int .u8 (z2.getD k ((0 : Int), (0 : Int))).fst :: AV.int .u8 (z2.getD k ((0 : Int), (0 : Int))).snd :: flatA encZ (List.drop (k + 1) z2)).length from (by exact Nat.le_of_ble_eq_true (by kernel_rfl))) (And.intro (show ∀ (x : AV), x ∈ flatA (encP n) (Sn.mk l2 A2).l → noid0 x = true from its_noid n l2) (And.intro (show ∀ (q : AV × AV), q ∈ mapC (Sn.mk l2 A2).A → plain1 q.fst = true ∧ plain1 q.snd = true from map_plainC A2) (And.intro (show ∀ (x : AV), x ∈ flatA (encR n) (Sn.mk l2 A2).l → noid0 x = true from rts_noid n l2) (And.intro (show ∀ (x : AV), x ∈ flatA encA (Sn.mk l2 A2).A → noid0 x = true from encA_noid A2) (And.intro (show ∀ (q : AV × AV), q ∈ mapC A4 → plain1 q.fst = true ∧ plain1 q.snd = true from map_plainC A4) (And.intro (show ∀ (x : AV), x ∈ flatA encK kt → noid0 x = true from encK_noid kt) (And.intro (show ∀ (x : AV), x ∈ flatA (encP n) l4 → noid0 x = true from its_noid n l4) (And.intro (show ∀ (x : AV), x ∈ flatA (encR n) l4 → noid0 x = true from rts_noid n l4) (And.intro (show ∀ (x : AV), x ∈ flatA encA A4 → noid0 x = true from encA_noid A4) (And.intro e4' (And.intro e5' (And.intro (show ∀ (x : AV), x ∈ flatA (encP n) l3 → noid0 x = true from its_noid n l3) (And.intro (show ∀ (q : AV × AV), q ∈ mapC A3 → plain1 q.fst = true ∧ plain1 q.snd = true from map_plainC A3) (And.intro (show ∀ (x : AV), x ∈ flatA (encR n) l3 → noid0 x = true from rts_noid n l3) (And.intro (show ∀ (x : AV), x ∈ flatA encA A3 → noid0 x = true from encA_noid A3) (And.intro (show ∀ (x : AV), x ∈ flatA (encP n) l4 → noid0 x = true from its_noid n l4) (And.intro (show ∀ (q : AV × AV), q ∈ mapC A4 → plain1 q.fst = true ∧ plain1 q.snd = true from map_plainC A4) (And.intro (show ∀ (x : AV), x ∈ flatA (encR n) l4 → noid0 x = true from rts_noid n l4) (show ∀ (x : AV), x ∈ flatA encA A4 → noid0 x = true from encA_noid A4))))))))))))))))))))))))))))))))))))))
      · rw [if_neg h2]
        obtain ⟨l1, A1⟩ := q1
        obtain ⟨l2, A2⟩ := q2
        obtain ⟨l3, A3⟩ := q1'
        simp only at c1
        clear hi1 hi2 hz1 hz2 hq
        unfold bothN bothM at c1
        unfold f1S foH
        have e1' := (congrArg (fun z => AV.fptr z) hat1)
        have e2' := c1
        have e3' := (congrArg (fun z => AV.int .i64 z) (wrap_i64 (e := (↑k : Int) + (1 : Int)) (by omega) (by omega)))
        exact g_x [⟨2, [], .br true .no⟩, ⟨7, [], .br true .no⟩, ⟨12, [], .as (rhsOf e1')⟩, ⟨14, [], .callS [0, 1, 4, 5, 6, 7] [false, false, true, true, true, true] (avOf e2') (blOf e2') [false, false, false, true, false, false, false, true, true, true, true]⟩, ⟨27, [], .br false .no⟩, ⟨29, [], .as (rhsOf e3')⟩] [.sel [3, 4, 11, 13, 16, 17, 18], .keep [0, 1, 2, 3, 14, 5, 15, 16, 8, 9, 10, 11] [false, false, false, false, true, true, true, true, true, true, true, true]] (And.intro (show decide ((↑k : Int) < (20 : Int)) = true from (by rw [decide_eq_true_iff]; omega)) (And.intro (show decide ((↑k : Int) < (↑z1.length : Int)) = true from (by rw [decide_eq_true_iff]; omega)) (And.intro (show (0 : Int) ≤ (↑k : Int) ∧ (↑k : Int) < (↑z1.length : Int) from (by omega)) (And.intro e1' (And.intro (show 2 ≤ (AV.int .u8 (z1.getD k ((0 : Int), (0 : Int))).fst :: AV.int .u8 (z1.getD k ((0 : Int), (0 : Int))).snd :: flatA encZ (List.drop (k + 1) z1)).length from (by exact Nat.le_of_ble_eq_true (by kernel_rfl))) (And.intro (show ∀ (x : AV), x ∈ flatA (encP n) (Sn.mk l1 A1).l → noid0 x = true from its_noid n l1) (And.intro (show ∀ (q : AV × AV), q ∈ mapC (Sn.mk l1 A1).A → plain1 q.fst = true ∧ plain1 q.snd = true from map_plainC A1) (And.intro (show ∀ (x : AV), x ∈ flatA (encR n) (Sn.mk l1 A1).l → noid0 x = true from rts_noid n l1) (And.intro (show ∀ (x : AV), x ∈ flatA encA (Sn.mk l1 A1).A → noid0 x = true from encA_noid A1) (And.intro (show ∀ (q : AV × AV), q ∈ mapC A3 → plain1 q.fst = true ∧ plain1 q.snd = true from map_plainC A3) (And.intro (show ∀ (x : AV), x ∈ flatA encK ks → noid0 x = true from encK_noid ks) (And.intro (show ∀ (x : AV), x ∈ flatA (encP n) l3 → noid0 x = true from its_noid n l3) (And.intro (show ∀ (x : AV), x ∈ flatA (encR n) l3 → noid0 x = true from rts_noid n l3) (And.intro (show ∀ (x : AV), x ∈ flatA encA A3 → noid0 x = true from encA_noid A3) (And.intro e2' (And.intro (show decide ((↑k : Int) < (↑z2.length : Int)) = false from (by rw [decide_eq_false_iff_not]; omega)) (And.intro e3' (And.intro (show ∀ (x : AV), x ∈ flatA (encP n) l3 → noid0 x = true from its_noid n l3) (And.intro (show ∀ (q : AV × AV), q ∈ mapC A3 → plain1 q.fst = true ∧ plain1 q.snd = true from map_plainC A3) (And.intro (show ∀ (x : AV), x ∈ flatA (encR n) l3 → noid0 x = true from rts_noid n l3) (And.intro (show ∀ (x : AV), x ∈ flatA encA A3 → noid0 x = true from encA_noid A3) (And.intro (show ∀ (x : AV), x ∈ flatA (encP n) (Sn.mk l2 A2).l → noid0 x = true from its_noid n l2) (And.intro (show ∀ (q : AV × AV), q ∈ mapC (Sn.mk l2 A2).A → plain1 q.fst = true ∧ plain1 q.snd = true from map_plainC A2) (And.intro (show ∀ (x : AV), x ∈ flatA (encR n) (Sn.mk l2 A2).l → noid0 x = true from rts_noid n l2) (show ∀ (x : AV), x ∈ flatA encA (Sn.mk l2 A2).A → noid0 x = true from encA_noid A2)))))))))))))))))))))))))
    · rw [if_neg h1]
      by_cases h2 : k < z2.length
      · rw [if_pos h2]
        obtain ⟨⟨d0, d1⟩, e0, e1⟩ := getD_all hz2 h2 (0, 0)
        have hat2 := steps_at z2 k h2
        obtain ⟨kt, c2⟩ := play_s n hn R hR _ (by omega) _ hi2 (z2.getD k (0, 0)).1 (z2.getD k (0, 0)).2 d0 e0 (by omega)
        generalize stepN n R q2 (z2.getD k (0, 0)).1 (z2.getD k (0, 0)).2 = q2' at c2 ⊢
        obtain ⟨l1, A1⟩ := q1
        obtain ⟨l2, A2⟩ := q2
        obtain ⟨l4, A4⟩ := q2'
        simp only at c2
        clear hi1 hi2 hz1 hz2 hq
        unfold bothN bothM at c2
        unfold f1S foH
        have e1' := (congrArg (fun z => AV.fptr z) hat2)
        have e2' := c2
        have e3' := (congrArg (fun z => AV.int .i64 z) (wrap_i64 (e := (↑k : Int) + (1 : Int)) (by omega) (by omega)))
        exact g_x [⟨2, [], .br true .no⟩, ⟨7, [], .br false .no⟩, ⟨12, [], .br true .no⟩, ⟨17, [], .as (rhsOf e1')⟩, ⟨19, [], .callS [2, 3, 8, 9, 10, 11] [false, false, true, true, true, true] (avOf e2') (blOf e2') [false, false, false, true, false, false, false, true, true, true, true]⟩, ⟨29, [], .as (rhsOf e3')⟩] [.sel [3, 4, 11, 13, 16, 17, 18], .keep [0, 1, 2, 3, 4, 5, 6, 7, 14, 9, 15, 16] [false, false, false, false, true, true, true, true, true, true, true, true]] (And.intro (show decide ((↑k : Int) < (20 : Int)) = true from (by rw [decide_eq_true_iff]; omega)) (And.intro (show decide ((↑k : Int) < (↑z1.length : Int)) = false from (by rw [decide_eq_false_iff_not]; omega)) (And.intro (show decide ((↑k : Int) < (↑z2.length : Int)) = true from (by rw [decide_eq_true_iff]; omega)) (And.intro (show (0 : Int) ≤ (↑k : Int) ∧ (↑k : Int) < (↑z2.length : Int) from (by omega)) (And.intro e1' (And.intro (show 2 ≤ (AV.int .u8 (z2.getD k ((0 : Int), (0 : Int))).fst :: AV.int .u8 (z2.getD k ((0 : Int), (0 : Int))).snd :: flatA encZ (List.drop (k + 1) z2)).length from (by exact Nat.le_of_ble_eq_true (by kernel_rfl))) (And.intro (show ∀ (x : AV), x ∈ flatA (encP n) (Sn.mk l2 A2).l → noid0 x = true from its_noid n l2) (And.intro (show ∀ (q : AV × AV), q ∈ mapC (Sn.mk l2 A2).A → plain1 q.fst = true ∧ plain1 q.snd = true from map_plainC A2) (And.intro (show ∀ (x : AV), x ∈ flatA (encR n) (Sn.mk l2 A2).l → noid0 x = true from rts_noid n l2) (And.intro (show ∀ (x : AV), x ∈ flatA encA (Sn.mk l2 A2).A → noid0 x = true from encA_noid A2) (And.intro (show ∀ (q : AV × AV), q ∈ mapC A4 → plain1 q.fst = true ∧ plain1 q.snd = true from map_plainC A4) (And.intro (show ∀ (x : AV), x ∈ flatA encK kt → noid0 x = true from encK_noid kt) (And.intro (show ∀ (x : AV), x ∈ flatA (encP n) l4 → noid0 x = true from its_noid n l4) (And.intro (show ∀ (x : AV), x ∈ flatA (encR n) l4 → noid0 x = true from rts_noid n l4) (And.intro (show ∀ (x : AV), x ∈ flatA encA A4 → noid0 x = true from encA_noid A4) (And.intro e2' (And.intro e3' (And.intro (show ∀ (x : AV), x ∈ flatA (encP n) (Sn.mk l1 A1).l → noid0 x = true from its_noid n l1) (And.intro (show ∀ (q : AV × AV), q ∈ mapC (Sn.mk l1 A1).A → plain1 q.fst = true ∧ plain1 q.snd = true from map_plainC A1) (And.intro (show ∀ (x : AV), x ∈ flatA (encR n) (Sn.mk l1 A1).l → noid0 x = true from rts_noid n l1) (And.intro (show ∀ (x : AV), x ∈ flatA encA (Sn.mk l1 A1).A → noid0 x = true from encA_noid A1) (And.intro (show ∀ (x : AV), x ∈ flatA (encP n) l4 → noid0 x = true from its_noid n l4) (And.intro (show ∀ (q : AV × AV), q ∈ mapC A4 → plain1 q.fst = true ∧ plain1 q.snd = true from map_plainC A4) (And.intro (show ∀ (x : AV), x ∈ flatA (encR n) l4 → noid0 x = true from rts_noid n l4) (show ∀ (x : AV), x ∈ flatA encA A4 → noid0 x = true from encA_noid A4)))))))))))))))))))))))))
      · rw [if_neg h2]
        obtain ⟨l1, A1⟩ := q1
        obtain ⟨l2, A2⟩ := q2
        clear hi1 hi2 hz1 hz2 hq
        unfold f1S foH
        have e1' := (congrArg (fun z => AV.int .i64 z) (wrap_i64 (e := (↑k : Int) + (1 : Int)) (by omega) (by omega)))
        exact g_x [⟨2, [], .br true .no⟩, ⟨7, [], .br false .no⟩, ⟨12, [], .br false .no⟩, ⟨14, [], .as (rhsOf e1')⟩] [.sel [3, 4, 11, 13, 16, 17, 18]] (And.intro (show decide ((↑k : Int) < (20 : Int)) = true from (by rw [decide_eq_true_iff]; omega)) (And.intro (show decide ((↑k : Int) < (↑z1.length : Int)) = false from (by rw [decide_eq_false_iff_not]; omega)) (And.intro (show decide ((↑k : Int) < (↑z2.length : Int)) = false from (by rw [decide_eq_false_iff_not]; omega)) e1')))
  · generalize runN n R z1 q 20 = q1
    generalize runN n R z2 q 20 = q2
    obtain ⟨l1, A1⟩ := q1
    obtain ⟨l2, A2⟩ := q2
    unfold f1S foH
    exact g_x [] [.sel [], .keep [] []] trivial
end Go.Proofs.Ytkdgnjoofhckeaa
