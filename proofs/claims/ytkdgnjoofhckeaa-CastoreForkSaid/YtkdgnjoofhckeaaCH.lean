/-
  Stores: the laws about any steps, and about what is accepted.
-/
import Derived.Test.YtkdgnjoofhckeaaCG
namespace Go.Proofs.Ytkdgnjoofhckeaa
open Go Go.RowKit V
set_option linter.unusedSimpArgs false
set_option linter.unusedVariables false
set_option maxHeartbeats 20000000
def runC (n : Int) (R : Nat) (z : List (Int × Int)) : Nat → Sq
  | 0 => ⟨[], [], []⟩
  | k + 1 => stepC n R (runC n R z k) (z.getD k (0, 0)).1 (z.getD k (0, 0)).2
theorem runC_inv (n : Int) (R : Nat) (hR : 0 < R) (z : List (Int × Int)) : ∀ k, Inv R k (runC n R z k)
  | 0 => ⟨by simp [runC], fun x hx => by simp [runC] at hx, by simp [runC], by simp [runC]⟩
  | k + 1 => stepC_inv n R k hR _ _ _ (runC_inv n R hR z k)
def plS (n : Int) (R : Nat) (z : List (Int × Int)) (k : Nat) (q : Sq) : St := stOf 84 [(2, stepsV z), (7, .ptr 0 0), (9, .ptr 1 0), (11, .sl 2 0 q.ks.length 2), (12, .int .i64 (k : Int))] (playH n (R : Int) q.l q.A q.ks)
theorem playsL (n : Int) (hn : 1 ≤ n ∧ n ≤ 32) (R : Nat) (hR : 0 < R ∧ R ≤ 32) (z : List (Int × Int)) (hz : ∀ x ∈ z, (0 ≤ x.1 ∧ x.1 ≤ 255) ∧ (0 ≤ x.2 ∧ x.2 ≤ 255)) (hl : z.length ≤ 9223372036854775807) : LoopG Try.prog 0 Try.f3 0 (.exit 0) (stOf 84 [] []) (plS n R z 0 ⟨[], [], []⟩) := by
  refine loopG_of (min z.length 60) (fun k => plS n R z k (runC n R z k)) (by kernel_rfl) (by simp [runC]) ?_ ?_
  · intro k hk
    have hk1 : k < z.length := by omega
    have hk2 : k < 60 := by omega
    obtain ⟨⟨h1, h2⟩, h3, h4⟩ := getD_all hz hk1 (0, 0)
    have hr := runC_inv n R hR.1 z k
    have hr' := runC_inv n R hR.1 z (k + 1)
    have c1 := play_v n hn R hR k (by omega) (runC n R z k) hr (z.getD k (0, 0)).1 (z.getD k (0, 0)).2 h1 h3 (by omega)
    change CallsV _ _ _ _ (fun av H' => av = .tuple [.sl 7 0 (runC n R z (k + 1)).ks.length 2, .bool true] ∧ H' = playD n (R : Int) (runC n R z (k + 1)).l (runC n R z (k + 1)).A (runC n R z (k + 1)).ks) at c1
    generalize runC n R z (k + 1) = q' at c1 hr' ⊢
    generalize runC n R z k = q at c1 hr ⊢
    obtain ⟨l', A', ks'⟩ := q'
    obtain ⟨l, A, ks⟩ := q
    obtain ⟨i1, -, -, i4⟩ := hr
    obtain ⟨j1, -, -, j4⟩ := hr'
    simp only at c1 i1 i4 j1 j4
    have c2 := len_v n (R : Int) l' A'
    unfold playH playD at c1
    unfold storeH at c2
    unfold plS playH
    have e1' := (congrArg (fun z => AV.fptr z) (steps_at (z) (k) (by assumption)))
    have e2' := c1
    have e3' := c2
    have e4' := (congrArg (fun z => AV.int .i64 z) (wrap_i64 (e := (↑k : Int) + (1 : Int)) (by omega) (by omega)))
    exact g_xB [⟨5, [.tm 53 (.bool true)], .no⟩, ⟨8, [], .br true .no⟩, ⟨13, [], .as (rhsOf e1')⟩, ⟨16, [], .callS [0, 1, 2, 3, 4, 5, 6] [false, false, true, true, true, true, true] (avOf e2') (blOf e2') [false, false, false, false, true, false, false, true, true, true, true]⟩, ⟨26, [], .callS [0, 8, 4] [false, true, true] (avOf e3') (blOf e3') [false, true, true]⟩, ⟨34, [], .br false .no⟩, ⟨38, [], .as (rhsOf e4')⟩] [.sel [2, 7, 9, 11, 12], .keep [0, 1, 7, 8, 4, 9, 10] [false, false, true, true, true, true, true]] (And.intro (congrArg AV.bool (show decide ((↑k : Int) < (↑z.length : Int)) = true from (by rw [decide_eq_true_iff]; omega))) (And.intro (show (bif true then decide ((↑k : Int) < (60 : Int)) else false) = true from (by simp_all; omega)) (And.intro (show (0 : Int) ≤ (↑k : Int) ∧ (↑k : Int) < (↑z.length : Int) from (by omega)) (And.intro e1' (And.intro (show 2 ≤ (AV.int .u8 (z.getD k ((0 : Int), (0 : Int))).fst :: AV.int .u8 (z.getD k ((0 : Int), (0 : Int))).snd :: flatA encZ (List.drop (k + 1) z)).length from (by exact Nat.le_of_ble_eq_true (by kernel_rfl))) (And.intro (show ∀ (x : AV), x ∈ flatA encK (Sq.mk l A ks).ks → noid0 x = true from encK_noid ks) (And.intro (show ∀ (x : AV), x ∈ flatA (encP n) (Sq.mk l A ks).l → noid0 x = true from its_noid n l) (And.intro (show ∀ (q : AV × AV), q ∈ mapC (Sq.mk l A ks).A → plain1 q.fst = true ∧ plain1 q.snd = true from map_plainC A) (And.intro (show ∀ (x : AV), x ∈ flatA (encR n) (Sq.mk l A ks).l → noid0 x = true from rts_noid n l) (And.intro (show ∀ (x : AV), x ∈ flatA encA (Sq.mk l A ks).A → noid0 x = true from encA_noid A) (And.intro (show ∀ (q : AV × AV), q ∈ mapC A' → plain1 q.fst = true ∧ plain1 q.snd = true from map_plainC A') (And.intro (show ∀ (x : AV), x ∈ flatA encK ks' → noid0 x = true from encK_noid ks') (And.intro (show ∀ (x : AV), x ∈ flatA (encP n) l' → noid0 x = true from its_noid n l') (And.intro (show ∀ (x : AV), x ∈ flatA (encR n) l' → noid0 x = true from rts_noid n l') (And.intro (show ∀ (x : AV), x ∈ flatA encA A' → noid0 x = true from encA_noid A') (And.intro e2' (And.intro (show ∀ (x : AV), x ∈ flatA (encP n) l' → noid0 x = true from its_noid n l') (And.intro (show ∀ (q : AV × AV), q ∈ mapC A' → plain1 q.fst = true ∧ plain1 q.snd = true from map_plainC A') (And.intro (show ∀ (x : AV), x ∈ flatA (encP n) l' → noid0 x = true from its_noid n l') (And.intro (show ∀ (q : AV × AV), q ∈ mapC A' → plain1 q.fst = true ∧ plain1 q.snd = true from map_plainC A') (And.intro e3' (And.intro (show ∀ (x : AV), x ∈ flatA (encP n) l' → noid0 x = true from its_noid n l') (And.intro (show ∀ (q : AV × AV), q ∈ mapC A' → plain1 q.fst = true ∧ plain1 q.snd = true from map_plainC A') (And.intro (show ∀ (x : AV), x ∈ flatA (encP n) l' → noid0 x = true from its_noid n l') (And.intro (show ∀ (q : AV × AV), q ∈ mapC A' → plain1 q.fst = true ∧ plain1 q.snd = true from map_plainC A') (And.intro e3' (And.intro (show ∀ (x : AV), x ∈ flatA (encP n) l' → noid0 x = true from its_noid n l') (And.intro (show ∀ (q : AV × AV), q ∈ mapC A' → plain1 q.fst = true ∧ plain1 q.snd = true from map_plainC A') (And.intro (show ∀ (x : AV), x ∈ flatA (encP n) l' → noid0 x = true from its_noid n l') (And.intro (show ∀ (q : AV × AV), q ∈ mapC A' → plain1 q.fst = true ∧ plain1 q.snd = true from map_plainC A') (And.intro e3' (And.intro (show ∀ (x : AV), x ∈ flatA (encP n) l' → noid0 x = true from its_noid n l') (And.intro (show ∀ (q : AV × AV), q ∈ mapC A' → plain1 q.fst = true ∧ plain1 q.snd = true from map_plainC A') (And.intro (show ∀ (x : AV), x ∈ flatA (encP n) l' → noid0 x = true from its_noid n l') (And.intro (show ∀ (q : AV × AV), q ∈ mapC A' → plain1 q.fst = true ∧ plain1 q.snd = true from map_plainC A') (And.intro e3' (And.intro (show 1 ≤ 2 from (by omega)) (And.intro (show 1 ≤ 2 from (by omega)) (And.intro (show ∀ (x : AV), x ∈ flatA (encP n) l' → noid0 x = true from its_noid n l') (And.intro (show ∀ (q : AV × AV), q ∈ mapC A' → plain1 q.fst = true ∧ plain1 q.snd = true from map_plainC A') (And.intro (show ∀ (x : AV), x ∈ flatA (encP n) l' → noid0 x = true from its_noid n l') (And.intro (show ∀ (q : AV × AV), q ∈ mapC A' → plain1 q.fst = true ∧ plain1 q.snd = true from map_plainC A') (And.intro e3' (And.intro (show ∀ (x : AV), x ∈ flatA (encP n) l' → noid0 x = true from its_noid n l') (And.intro (show ∀ (q : AV × AV), q ∈ mapC A' → plain1 q.fst = true ∧ plain1 q.snd = true from map_plainC A') (And.intro (show ∀ (x : AV), x ∈ flatA (encP n) l' → noid0 x = true from its_noid n l') (And.intro (show ∀ (q : AV × AV), q ∈ mapC A' → plain1 q.fst = true ∧ plain1 q.snd = true from map_plainC A') (And.intro e3' (And.intro (show (bif false then true else (↑l'.length : Int) != (↑l'.length : Int)) = false from (by simp_all; done)) (And.intro e4' (And.intro (show ∀ (x : AV), x ∈ flatA encK ks' → noid0 x = true from encK_noid ks') (And.intro (show ∀ (x : AV), x ∈ flatA (encP n) l' → noid0 x = true from its_noid n l') (And.intro (show ∀ (q : AV × AV), q ∈ mapC A' → plain1 q.fst = true ∧ plain1 q.snd = true from map_plainC A') (And.intro (show ∀ (x : AV), x ∈ flatA (encR n) l' → noid0 x = true from rts_noid n l') (show ∀ (x : AV), x ∈ flatA encA A' → noid0 x = true from encA_noid A')))))))))))))))))))))))))))))))))))))))))))))))))))))))
  · generalize runC n R z (min z.length 60) = q
    obtain ⟨l, A, ks⟩ := q
    unfold plS playH
    by_cases hz0 : z.length < 60
    · rw [show min z.length 60 = z.length by omega]
      exact g_x [⟨5, [.tm 53 (.bool false)], .no⟩] [.sel [], .keep [] []] (And.intro (congrArg AV.bool (show decide ((↑z.length : Int) < (↑z.length : Int)) = false from (by rw [decide_eq_false_iff_not]; omega))) (show false = true → false = true from (fun h => h)))
    · rw [show min z.length 60 = 60 by omega]
      exact g_x [⟨5, [], .gd⟩, ⟨6, [], .gd⟩, ⟨8, [], .br false .no⟩] [.sel [], .keep [] []] (And.intro (show (decide ((60 : Int) < (↑z.length : Int)) == true) = true → (decide ((60 : Int) < (↑z.length : Int)) == true) = true from (fun h => h)) (And.intro (show decide ((60 : Int) < (↑z.length : Int)) = true → (decide ((60 : Int) < (↑z.length : Int)) == true) = true from (by (simp; done))) (show (bif decide ((60 : Int) < (↑z.length : Int)) then false else false) = false from (by simp_all; done))))
theorem plays_v (b r : Int) (z : List (Int × Int)) (hb : 0 ≤ b ∧ b ≤ 255) (hr : 0 ≤ r ∧ r ≤ 255) (hz : ∀ x ∈ z, (0 ≤ x.1 ∧ x.1 ≤ 255) ∧ (0 ≤ x.2 ∧ x.2 ≤ 255)) (hl : z.length ≤ 9223372036854775807) : CallsV Try.prog 3 [.int .u8 b, .int .u8 r, stepsV z] [] (fun av H' => av = .bool true ∧ H' = []) := by
  refine callsG_at Try.func3 (by kernel_rfl) ?_
  have e1 : b.tmod 6 = b % 6 := Int.tmod_eq_emod_of_nonneg hb.1
  have e2 : r.tmod 7 = r % 7 := Int.tmod_eq_emod_of_nonneg hr.1
  have c1 := new_v (1 + b.tmod 6) (1 + r.tmod 7) (by omega) (by omega)
  have c2 := newR (1 + b.tmod 6) (1 + r.tmod 7) (by omega) (by omega)
  have hR : ((1 + r.tmod 7).toNat : Int) = 1 + r.tmod 7 := by omega
  have hL := playsL (1 + b.tmod 6) (by omega) (1 + r.tmod 7).toNat (by omega) z hz hl
  rw [← hR] at c1 c2
  generalize (1 + r.tmod 7).toNat = R at hR hL c1 c2
  unfold storeH at c1
  unfold refH at c2
  unfold plS playH at hL
  have e1' := (congrArg (fun z => AV.int .i64 z) (wrap_i64 (e := b.tmod (6 : Int)) (by omega) (by omega)))
  have e2' := (congrArg (fun z => AV.int .i64 z) (wrap_i64 (e := (1 : Int) + b.tmod (6 : Int)) (by omega) (by omega)))
  have e3' := (congrArg (fun z => AV.int .i64 z) (wrap_i64 (e := r.tmod (7 : Int)) (by omega) (by omega)))
  have e4' := (Eq.trans (congrArg (fun z => AV.int .i64 (IntKind.i64.wrap z)) hR.symm) (congrArg (fun z => AV.int .i64 z) (wrap_i64 (e := (↑R : Int)) (by omega) (by omega))))
  have e5' := c1
  have e6' := c2
  have e7' := hL
  have e8' := awake_v
  refine g_q [⟨3, [], .as (rhsOf e1')⟩, ⟨4, [], .as (rhsOf e2')⟩, ⟨7, [], .as (rhsOf e3')⟩, ⟨8, [], .as (rhsOf e4')⟩, ⟨9, [], .call (avOf e5') (blOf e5') [false, false, false]⟩, ⟨17, [], .as (rhsOf e1')⟩, ⟨18, [], .as (rhsOf e2')⟩, ⟨21, [], .as (rhsOf e3')⟩, ⟨22, [], .as (rhsOf e4')⟩, ⟨23, [], .call (avOf e6') (blOf e6') [false, false, false]⟩, ⟨42, [.sel [2, 7, 9, 11, 12], .keep [0, 3, 1, 2, 4, 5] [false, false, false, false, false, false], .own 11 44 2, .keep [0, 1, 6, 2, 3, 4, 5] [false, false, false, false, false, false, false]], .loop (exOf e7') (endOf e7')⟩, ⟨43, [], .call (avOf e8') (blOf e8') []⟩] [.sel [6]] Exit.ret (stOf 84 [(6, AV.bool true)] []) (And.intro (show (6 : Int) ≠ (0 : Int) from (by omega)) (And.intro e1' (And.intro e2' (And.intro (show (7 : Int) ≠ (0 : Int) from (by omega)) (And.intro e3' (And.intro e4' (And.intro e5' (And.intro (show (6 : Int) ≠ (0 : Int) from (by omega)) (And.intro e1' (And.intro e2' (And.intro (show (7 : Int) ≠ (0 : Int) from (by omega)) (And.intro e3' (And.intro e4' (And.intro e6' (And.intro e7' e8'))))))))))))))) ?_
  refine g_f [] [] (AV.bool true) ([]) trivial ?_
  exact ⟨rfl, rfl⟩
end Go.Proofs.Ytkdgnjoofhckeaa
