/-
  Caches: the laws.
-/
import Derived.Test.YtcmbhebgpboepaaGd
namespace Go.Proofs.Ytcmbhebgpboepaa
open Go Go.RowKit V
set_option linter.unusedSimpArgs false
set_option linter.unusedVariables false
set_option maxHeartbeats 20000000
/-- where a key is -/
def idxF (l : List Ent) (key : ByteArray) : Nat := l.findIdx fun e => e.1.toList == key.toList
theorem idxF_le (l : List Ent) (key : ByteArray) : idxF l key ≤ l.length := List.findIdx_le_length
theorem idxF_no (l : List Ent) (key : ByteArray) (h : ¬ idxF l key < l.length) : ∀ k, k < l.length → ((l.getD k eD).1.toList == key.toList) = false := fun k hk => by
  have := List.not_of_lt_findIdx (p := fun e : Ent => e.1.toList == key.toList) (xs := l) (i := k) (show k < idxF l key by omega)
  rw [List.getD_eq_getElem?_getD, List.getElem?_eq_getElem hk]
  simpa using this
theorem idxF_lt (l : List Ent) (key : ByteArray) : ∀ k, k < idxF l key → ((l.getD k eD).1.toList == key.toList) = false := fun k hk => by
  have hle := idxF_le l key
  have := List.not_of_lt_findIdx (p := fun e : Ent => e.1.toList == key.toList) (xs := l) (i := k) hk
  rw [List.getD_eq_getElem?_getD, List.getElem?_eq_getElem (by omega)]
  simpa using this
theorem idxF_eq (l : List Ent) (key : ByteArray) (h : idxF l key < l.length) : (l.getD (idxF l key) eD).1 = key := by
  have := List.findIdx_getElem (p := fun e : Ent => e.1.toList == key.toList) (xs := l) (w := h)
  rw [List.getD_eq_getElem?_getD, List.getElem?_eq_getElem h]
  exact key_eq this
/-- a step of the definition -/
def stepF (R : Nat) (l : List Ent) (a b : Int) : List Ent :=
  if a.tmod 5 = 0 ∨ a.tmod 5 = 1 then
    if R = 0 then [] else if idxF l (keyF b) < l.length then l.eraseIdx (idxF l (keyF b)) ++ [(keyF b, a)] else if l.length < R then l ++ [(keyF b, a)] else l.drop 1 ++ [(keyF b, a)]
  else if a.tmod 5 = 4 then l.drop (min (b.tmod 5 - 1).toNat l.length)
  else if idxF l (keyF b) < l.length then l.eraseIdx (idxF l (keyF b)) ++ [l.getD (idxF l (keyF b)) eD] else l
theorem stepF_len (R : Nat) (l : List Ent) (a b : Int) (hl : l.length ≤ R) : (stepF R l a b).length ≤ R := by
  unfold stepF
  split
  · split
    · simp
    · split
      · rename_i h; rw [snoc_len, List.length_eraseIdx_of_lt h]; omega
      · split
        · rw [snoc_len]; omega
        · rw [snoc_len, List.length_drop]; omega
  · split
    · rw [List.length_drop]; omega
    · split
      · rename_i h; rw [snoc_len, List.length_eraseIdx_of_lt h]; omega
      · exact hl
theorem play_v (n : Int) (R : Nat) (hR : R ≤ 32) (l : List Ent) (hl : l.length ≤ R) (a b : Int) (ha0 : 0 ≤ a) (hb0 : 0 ≤ b) (hb1 : b < 256) : CallsV Try.prog 11 [.ptr 0 0, .ptr 1 0, .agg [.int .u8 a, .int .u8 b]] (bothH n (R : Int) l) (fun av H' => av = .bool true ∧ H' = bothD n (R : Int) (stepF R l a b)) := by
  have ht : a.tmod 5 = a % 5 := Int.tmod_eq_emod_of_nonneg ha0
  have hl' : l.length ≤ 1000 := by omega
  unfold stepF
  by_cases h1 : a.tmod 5 = 0 ∨ a.tmod 5 = 1
  · rw [if_pos h1]
    by_cases h2 : R = 0
    · subst h2
      obtain rfl : l = [] := List.eq_nil_of_length_eq_zero (by omega)
      rw [if_pos rfl]
      exact play_put_0 n a b hb0 hb1 h1
    · rw [if_neg h2]
      by_cases h3 : idxF l (keyF b) < l.length
      · rw [if_pos h3]
        exact play_put_T n l a b hb0 hb1 R h1 hl' hl _ h3 (idxF_lt l _) (idxF_eq l _ h3)
      · rw [if_neg h3]
        by_cases h4 : l.length < R
        · rw [if_pos h4]
          exact play_put_F n l a b hb0 hb1 R h1 hl' h4 (idxF_no l _ h3)
        · rw [if_neg h4]
          obtain rfl : R = l.length := by omega
          exact play_put_E n l a b hb0 hb1 h1 hl' (by omega) (idxF_no l _ h3)
  · rw [if_neg h1]
    by_cases h2 : a.tmod 5 = 4
    · rw [if_pos h2]
      exact play_ev n l a b hb0 hb1 R h2 hl'
    · rw [if_neg h2]
      have h3 : a.tmod 5 = 2 ∨ a.tmod 5 = 3 := by omega
      by_cases h4 : idxF l (keyF b) < l.length
      · rw [if_pos h4]
        exact play_get_T n R l a b hb0 hb1 h3 hl' _ h4 (idxF_lt l _) (idxF_eq l _ h4)
      · rw [if_neg h4]
        rcases Nat.eq_zero_or_pos l.length with h0 | h0
        · obtain rfl : l = [] := List.eq_nil_of_length_eq_zero h0
          exact play_get_0 n a b hb0 hb1 R h3
        · exact play_get_F n l a b hb0 hb1 R h3 hl' h0 (idxF_no l _ h4)
/-- the steps, one after the other -/
def runF (R : Nat) (z : List (Int × Int)) : Nat → List Ent
  | 0 => []
  | k + 1 => stepF R (runF R z k) (z.getD k (0, 0)).1 (z.getD k (0, 0)).2
theorem runF_len (R : Nat) (z : List (Int × Int)) : ∀ k, (runF R z k).length ≤ R
  | 0 => by simp [runF]
  | k + 1 => stepF_len R _ _ _ (runF_len R z k)
def plS (n : Int) (R : Nat) (z : List (Int × Int)) (k : Nat) (l : List Ent) : St := stOf 73 [(2, stepsV z), (7, .ptr 0 0), (9, .ptr 1 0), (11, .int .i64 (k : Int))] (bothH n (R : Int) l)
theorem playsL (n : Int) (R : Nat) (hR : R ≤ 32) (z : List (Int × Int)) (hz : ∀ x ∈ z, (0 ≤ x.1 ∧ x.1 ≤ 255) ∧ (0 ≤ x.2 ∧ x.2 ≤ 255)) (hl : z.length ≤ 9223372036854775807) : LoopG Try.prog 0 Try.f3 0 (.exit 0) (stOf 73 [] []) (plS n R z 0 []) := by
  refine loopG_of (min z.length 60) (fun k => plS n R z k (runF R z k)) (by kernel_rfl) (by simp) ?_ ?_
  · intro k hk
    have hk1 : k < z.length := by omega
    have hk2 : k < 60 := by omega
    obtain ⟨⟨h1, h2⟩, h3, h4⟩ := getD_all hz hk1 (0, 0)
    have hr := runF_len R z k
    have c1 := play_v n R hR (runF R z k) hr (z.getD k (0, 0)).1 (z.getD k (0, 0)).2 h1 h3 (by omega)
    have c2 := len_v n (R : Int) (runF R z (k + 1))
    have hr' := runF_len R z (k + 1)
    change CallsV _ _ _ _ (fun av H' => av = .bool true ∧ H' = bothD n (R : Int) (runF R z (k + 1))) at c1
    generalize runF R z (k + 1) = l' at c1 c2 hr' ⊢
    generalize runF R z k = l at c1 hr ⊢
    have hq : ((l'.length : Int) == (l'.length : Int)) = true := beq_self_eq_true _
    unfold bothH bothD at c1
    unfold cacheH at c2
    unfold plS bothH
    have e1' := (congrArg (fun z => AV.fptr z) (steps_at (z) (k) (by assumption)))
    have e2' := c1
    have e3' := c2
    have e4' := (congrArg (fun z => AV.int .i64 z) (wrap_i64 (e := (↑k : Int) + (1 : Int)) (by omega) (by omega)))
    exact g_xB [⟨5, [.tm 48 (.bool true)], .no⟩, ⟨8, [], .br true .no⟩, ⟨13, [], .as (rhsOf e1')⟩, ⟨15, [], .callS [0, 1, 2, 3] [false, false, true, true] (avOf e2') (blOf e2') [false, false, false, false, true, true]⟩, ⟨19, [], .callS [0, 4] [false, true] (avOf e3') (blOf e3') [false, true]⟩, ⟨27, [], .br false .no⟩, ⟨29, [], .as (rhsOf e4')⟩] [.sel [2, 7, 9, 11], .keep [0, 1, 4, 5] [false, false, true, true]] (And.intro (congrArg AV.bool (show decide ((↑k : Int) < (↑z.length : Int)) = true from (by rw [decide_eq_true_iff]; omega))) (And.intro (show (bif true then decide ((↑k : Int) < (60 : Int)) else false) = true from (by simp_all; omega)) (And.intro (show (0 : Int) ≤ (↑k : Int) ∧ (↑k : Int) < (↑z.length : Int) from (by omega)) (And.intro e1' (And.intro (show 2 ≤ (AV.int .u8 (z.getD k ((0 : Int), (0 : Int))).fst :: AV.int .u8 (z.getD k ((0 : Int), (0 : Int))).snd :: flatA encZ (List.drop (k + 1) z)).length from (by exact Nat.le_of_ble_eq_true (by kernel_rfl))) (And.intro (show ∀ (x : AV), x ∈ flatA (encE n) l → noid0 x = true from ents_noid n l) (And.intro (show ∀ (x : AV), x ∈ flatA encD l → noid0 x = true from held_noid l) (And.intro (show ∀ (x : AV), x ∈ flatA (encE n) l' → noid0 x = true from ents_noid n l') (And.intro (show ∀ (x : AV), x ∈ flatA encD l' → noid0 x = true from held_noid l') (And.intro e2' (And.intro (show ∀ (x : AV), x ∈ flatA (encE n) l' → noid0 x = true from ents_noid n l') (And.intro (show ∀ (x : AV), x ∈ flatA (encE n) l' → noid0 x = true from ents_noid n l') (And.intro e3' (And.intro (show ∀ (x : AV), x ∈ flatA (encE n) l' → noid0 x = true from ents_noid n l') (And.intro (show ∀ (x : AV), x ∈ flatA (encE n) l' → noid0 x = true from ents_noid n l') (And.intro e3' (And.intro (show ∀ (x : AV), x ∈ flatA (encE n) l' → noid0 x = true from ents_noid n l') (And.intro (show ∀ (x : AV), x ∈ flatA (encE n) l' → noid0 x = true from ents_noid n l') (And.intro e3' (And.intro (show ∀ (x : AV), x ∈ flatA (encE n) l' → noid0 x = true from ents_noid n l') (And.intro (show ∀ (x : AV), x ∈ flatA (encE n) l' → noid0 x = true from ents_noid n l') (And.intro e3' (And.intro (show 1 ≤ 1 from (by omega)) (And.intro (show 1 ≤ 1 from (by omega)) (And.intro (show ∀ (x : AV), x ∈ flatA (encE n) l' → noid0 x = true from ents_noid n l') (And.intro (show ∀ (x : AV), x ∈ flatA (encE n) l' → noid0 x = true from ents_noid n l') (And.intro e3' (And.intro (show ∀ (x : AV), x ∈ flatA (encE n) l' → noid0 x = true from ents_noid n l') (And.intro (show ∀ (x : AV), x ∈ flatA (encE n) l' → noid0 x = true from ents_noid n l') (And.intro e3' (And.intro (show (bif false then true else (↑l'.length : Int) != (↑l'.length : Int)) = false from (by simp_all; done)) (And.intro e4' (And.intro (show ∀ (x : AV), x ∈ flatA (encE n) l' → noid0 x = true from ents_noid n l') (show ∀ (x : AV), x ∈ flatA encD l' → noid0 x = true from held_noid l'))))))))))))))))))))))))))))))))))
  · unfold plS bothH
    by_cases hz0 : z.length < 60
    · rw [show min z.length 60 = z.length by omega]
      exact g_x [⟨5, [.tm 48 (.bool false)], .no⟩] [.sel [], .keep [] []] (And.intro (congrArg AV.bool (show decide ((↑z.length : Int) < (↑z.length : Int)) = false from (by rw [decide_eq_false_iff_not]; omega))) (show false = true → false = true from (fun h => h)))
    · rw [show min z.length 60 = 60 by omega]
      exact g_x [⟨5, [], .gd⟩, ⟨6, [], .gd⟩, ⟨8, [], .br false .no⟩] [.sel [], .keep [] []] (And.intro (show (decide ((60 : Int) < (↑z.length : Int)) == true) = true → (decide ((60 : Int) < (↑z.length : Int)) == true) = true from (fun h => h)) (And.intro (show decide ((60 : Int) < (↑z.length : Int)) = true → (decide ((60 : Int) < (↑z.length : Int)) == true) = true from (by (simp; done))) (show (bif decide ((60 : Int) < (↑z.length : Int)) then false else false) = false from (by simp_all; done))))
theorem plays_v (b r : Int) (z : List (Int × Int)) (hb : 0 ≤ b ∧ b ≤ 255) (hr : 0 ≤ r ∧ r ≤ 255) (hz : ∀ x ∈ z, (0 ≤ x.1 ∧ x.1 ≤ 255) ∧ (0 ≤ x.2 ∧ x.2 ≤ 255)) (hl : z.length ≤ 9223372036854775807) : CallsV Try.prog 3 [.int .u8 b, .int .u8 r, stepsV z] [] (fun av H' => av = .bool true ∧ H' = []) := by
  refine callsG_at Try.func3 (by kernel_rfl) ?_
  have e1 : b.tmod 5 = b % 5 := Int.tmod_eq_emod_of_nonneg hb.1
  have e2 : r.tmod 6 = r % 6 := Int.tmod_eq_emod_of_nonneg hr.1
  have c1 := new_v (1 + b.tmod 5) (r.tmod 6) (by omega) (by omega)
  have c2 := newR (1 + b.tmod 5) (r.tmod 6) (by omega) (by omega)
  have hR : ((r.tmod 6).toNat : Int) = r.tmod 6 := by omega
  have hL := playsL (1 + b.tmod 5) (r.tmod 6).toNat (by omega) z hz hl
  rw [← hR] at c1 c2
  generalize (r.tmod 6).toNat = R at hR hL c1 c2
  unfold cacheH at c1
  unfold refH at c2
  unfold plS bothH at hL
  have e1' := (congrArg (fun z => AV.int .i64 z) (wrap_i64 (e := b.tmod (5 : Int)) (by omega) (by omega)))
  have e2' := (congrArg (fun z => AV.int .i64 z) (wrap_i64 (e := (1 : Int) + b.tmod (5 : Int)) (by omega) (by omega)))
  have e3' := (congrArg (fun z => AV.int .u8 z) hR.symm)
  have e4' := (congrArg (fun z => AV.int .i64 z) (wrap_i64 (e := (↑R : Int)) (by omega) (by omega)))
  have e5' := c1
  have e6' := c2
  have e7' := hL
  have e8' := awake_v
  refine g_q [⟨3, [], .as (rhsOf e1')⟩, ⟨4, [], .as (rhsOf e2')⟩, ⟨6, [], .as (rhsOf e3')⟩, ⟨7, [], .as (rhsOf e4')⟩, ⟨8, [], .call (avOf e5') (blOf e5') [false, false]⟩, ⟨16, [], .as (rhsOf e1')⟩, ⟨17, [], .as (rhsOf e2')⟩, ⟨19, [], .as (rhsOf e3')⟩, ⟨20, [], .as (rhsOf e4')⟩, ⟨21, [], .call (avOf e6') (blOf e6') [false, false]⟩, ⟨39, [.sel [2, 7, 9, 11], .keep [0, 2, 1, 3] [false, false, false, false]], .loop (exOf e7') (endOf e7')⟩, ⟨40, [], .call (avOf e8') (blOf e8') []⟩] [.sel [6]] Exit.ret (stOf 73 [(6, AV.bool true)] []) (And.intro (show (5 : Int) ≠ (0 : Int) from (by omega)) (And.intro e1' (And.intro e2' (And.intro (show (6 : Int) ≠ (0 : Int) from (by omega)) (And.intro e3' (And.intro e4' (And.intro e5' (And.intro (show (5 : Int) ≠ (0 : Int) from (by omega)) (And.intro e1' (And.intro e2' (And.intro (show (6 : Int) ≠ (0 : Int) from (by omega)) (And.intro e3' (And.intro e4' (And.intro e6' (And.intro e7' e8'))))))))))))))) ?_
  refine g_f [] [] (AV.bool true) ([]) trivial ?_
  exact ⟨rfl, rfl⟩
end Go.Proofs.Ytcmbhebgpboepaa
