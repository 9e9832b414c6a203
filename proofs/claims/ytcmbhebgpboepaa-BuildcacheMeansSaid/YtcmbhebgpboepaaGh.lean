/-
  Caches: what Get returns.
-/
import Derived.Test.YtcmbhebgpboepaaGe
import Derived.Test.YtcmbhebgpboepaaVrow
namespace Go.Proofs.Ytcmbhebgpboepaa
open Go Go.RowKit V
set_option linter.unusedSimpArgs false
set_option linter.unusedVariables false
set_option maxHeartbeats 20000000
def putF (R : Nat) (l : List Ent) (key : ByteArray) (v : Int) : List Ent :=
  if R = 0 then [] else if idxF l key < l.length then l.eraseIdx (idxF l key) ++ [(key, v)] else if l.length < R then l ++ [(key, v)] else l.drop 1 ++ [(key, v)]
def getF (l : List Ent) (key : ByteArray) : List Ent := if idxF l key < l.length then l.eraseIdx (idxF l key) ++ [l.getD (idxF l key) eD] else l
theorem putF_len (R : Nat) (l : List Ent) (key : ByteArray) (v : Int) (hl : l.length ≤ R) : (putF R l key v).length ≤ R := by
  unfold putF
  split
  · simp
  · split
    · rename_i h; rw [snoc_len, List.length_eraseIdx_of_lt h]; omega
    · split
      · rw [snoc_len]; omega
      · rw [snoc_len, List.length_drop]; omega
theorem getF_len (l : List Ent) (key : ByteArray) : (getF l key).length = l.length := by
  unfold getF
  split
  · rename_i h; rw [snoc_len, List.length_eraseIdx_of_lt h]; omega
  · rfl
theorem put_v (n : Int) (R : Nat) (l : List Ent) (key : ByteArray) (v : Int) (hk : key.size ≤ 1000000) (hR : R ≤ 32) (hl : l.length ≤ R) : CallsV Try.prog 14 [.ptr 0 0, .str key, .agg (obV v)] (cacheH n (R : Int) l) (fun av H' => av = .tuple [] ∧ H' = cacheD n (R : Int) (putF R l key v)) := by
  unfold putF
  by_cases h2 : R = 0
  · subst h2
    obtain rfl : l = [] := List.eq_nil_of_length_eq_zero (by omega)
    rw [if_pos rfl]
    exact put_0 n [] key v
  · rw [if_neg h2]
    by_cases h3 : idxF l key < l.length
    · rw [if_pos h3]
      exact put_T n R l key v hk (by omega) hl _ h3 (idxF_lt l _) (idxF_eq l _ h3)
    · rw [if_neg h3]
      by_cases h4 : l.length < R
      · rw [if_pos h4]
        exact put_F n R l key v hk (by omega) h4 (idxF_no l _ h3)
      · rw [if_neg h4]
        obtain rfl : R = l.length := by omega
        exact put_E n l key v hk (by omega) (by omega) (idxF_no l _ h3)
abbrev bE : ByteArray := ByteArray.empty
def encK (x : ByteArray) : List AV := [AV.str x]
theorem encK_l (x : ByteArray) : (encK x).length = 1 := rfl
theorem encK_at (l : List ByteArray) (k : Nat) (hk : k < l.length) : (flatA encK l).drop ((k : Int).toNat * 1) = AV.str (l.getD k ByteArray.empty) :: flatA encK (l.drop (k + 1)) := flatA_at encK_l l ByteArray.empty k hk
theorem encK_at0 (l : List ByteArray) (k : Nat) (hk : k < l.length) : (flatA encK l).drop (0 + (k : Int).toNat * 1) = AV.str (l.getD k ByteArray.empty) :: flatA encK (l.drop (k + 1)) := by
  rw [Nat.zero_add]; exact flatA_at encK_l l ByteArray.empty k hk
theorem encK_len (l : List ByteArray) : (flatA encK l).length = l.length * 1 := flatA_length (n := 1) encK_l l
theorem encK_ge (l : List ByteArray) : l.length * 1 ≤ (flatA encK l).length := Nat.le_of_eq (encK_len l).symm
theorem encK_gk (l : List ByteArray) (k : Nat) (hk : k < l.length) : 1 ≤ ((flatA encK l).drop (0 + (k : Int).toNat * 1)).length := by
  rw [encK_at0 l k hk]; simp
theorem encK_noid (l : List ByteArray) : ∀ x ∈ flatA encK l, noid0 x = true := flatA_noid _ (fun a x hx => by
  simp only [encK, List.mem_cons, List.not_mem_nil, or_false] at hx
  rcases hx with rfl <;> rfl) l
theorem encK_snoc (l : List ByteArray) (x : ByteArray) : (flatA encK l).take (l.length * 1) ++ [AV.str x] = flatA encK (l ++ [x]) := flatA_snoc encK_l l x
theorem encK_set (l : List ByteArray) (k : Nat) (hk : k < l.length) (x : ByteArray) : (flatA encK l).take (0 + (k : Int).toNat * 1) ++ [AV.str x] ++ (flatA encK l).drop (0 + (k : Int).toNat * 1 + 1) = flatA encK (l.set k x) := flatA_set0 encK_l l k hk x
def encW (x : Int) : List AV := [AV.int .u8 x]
theorem encW_l (x : Int) : (encW x).length = 1 := rfl
theorem encW_at (l : List Int) (k : Nat) (hk : k < l.length) : (flatA encW l).drop ((k : Int).toNat * 1) = AV.int .u8 (l.getD k 0) :: flatA encW (l.drop (k + 1)) := flatA_at encW_l l 0 k hk
theorem encW_at0 (l : List Int) (k : Nat) (hk : k < l.length) : (flatA encW l).drop (0 + (k : Int).toNat * 1) = AV.int .u8 (l.getD k 0) :: flatA encW (l.drop (k + 1)) := by
  rw [Nat.zero_add]; exact flatA_at encW_l l 0 k hk
theorem encW_len (l : List Int) : (flatA encW l).length = l.length * 1 := flatA_length (n := 1) encW_l l
theorem encW_ge (l : List Int) : l.length * 1 ≤ (flatA encW l).length := Nat.le_of_eq (encW_len l).symm
theorem encW_gk (l : List Int) (k : Nat) (hk : k < l.length) : 1 ≤ ((flatA encW l).drop (0 + (k : Int).toNat * 1)).length := by
  rw [encW_at0 l k hk]; simp
theorem encW_noid (l : List Int) : ∀ x ∈ flatA encW l, noid0 x = true := flatA_noid _ (fun a x hx => by
  simp only [encW, List.mem_cons, List.not_mem_nil, or_false] at hx
  rcases hx with rfl <;> rfl) l
theorem encW_snoc (l : List Int) (x : Int) : (flatA encW l).take (l.length * 1) ++ [AV.int .u8 x] = flatA encW (l ++ [x]) := flatA_snoc encW_l l x
theorem encW_set (l : List Int) (k : Nat) (hk : k < l.length) (x : Int) : (flatA encW l).take (0 + (k : Int).toNat * 1) ++ [AV.int .u8 x] ++ (flatA encW l).drop (0 + (k : Int).toNat * 1 + 1) = flatA encW (l.set k x) := flatA_set0 encW_l l k hk x
/-- the last place of a key -/
def atF (key : ByteArray) (m : List ByteArray) : Nat → Int
  | 0 => -1
  | k + 1 => if ((m.getD k bE).toList == key.toList) = true then (k : Int) else atF key m k
def meH (n : Int) (R : Nat) (l : List Ent) (ks : List ByteArray) (ws : List Int) : List Blk := [.row 40 [.int .i64 n, .int .i64 (R : Int), .sl 3 0 l.length 6], .row 9 (flatA encK ks), .row 5 (flatA encW ws), .row 73 (flatA (encE n) l)]
def meS (n : Int) (R : Nat) (z : List (Int × Int)) (k : Nat) (l : List Ent) (ks : List ByteArray) (ws : List Int) : St := stOf 139 [(2, stepsV z), (7, .ptr 0 0), (9, .sl 1 0 ks.length 1), (10, .sl 2 0 ws.length 1), (11, .int .i64 (k : Int))] (meH n R l ks ws)
def faS (n : Int) (R : Nat) (z : List (Int × Int)) (k : Nat) (b : Int) (l : List Ent) (ks : List ByteArray) (ws : List Int) (j : Nat) : St := stOf 139 [(2, stepsV z), (7, .ptr 0 0), (9, .sl 1 0 ks.length 1), (10, .sl 2 0 ws.length 1), (11, .int .i64 (k : Int)), (12, .int .i64 (atF (keyF b) ks j)), (68, .int .i64 (ks.length : Int)), (69, .int .i64 (j : Int))] (meH n R l ks ws)
def faE (n : Int) (R : Nat) (z : List (Int × Int)) (k : Nat) (b : Int) (l : List Ent) (ks : List ByteArray) (ws : List Int) : St := stOf 139 [(2, stepsV z), (7, .ptr 0 0), (9, .sl 1 0 ks.length 1), (10, .sl 2 0 ws.length 1), (11, .int .i64 (k : Int)), (12, .int .i64 (atF (keyF b) ks ks.length))] (meH n R l ks ws)
theorem faL (n : Int) (R : Nat) (z : List (Int × Int)) (k : Nat) (a b : Int) (hz : z.getD k (0, 0) = (a, b)) (hk1 : k < z.length) (hk2 : k < 50) (l : List Ent) (ks : List ByteArray) (ws : List Int) (hm : ks.length ≤ 50) (h2 : 0 ≤ b ∧ b < 256) :
    LoopG Try.prog 0 Try.f5 1 (.exit 2) (faE n R z k b l ks ws) (faS n R z k b l ks ws 0) := by
  have kv := key_v b h2.1 h2.2
  have st := steps_at z k hk1
  rw [hz] at st
  simp only at st
  refine loopG_of ks.length (fun j => faS n R z k b l ks ws j) (by kernel_rfl) (by simp) ?_ ?_
  · intro j hj
    have hat : atF (keyF b) ks (j + 1) = if ((ks.getD j bE).toList == (keyF b).toList) = true then (j : Int) else atF (keyF b) ks j := rfl
    unfold faS meH
    rw [hat]
    cases hq : ((ks.getD j bE).toList == (keyF b).toList) with
    | true =>
      rw [if_pos rfl]
      have e1' := (drop_hd0 (v := AV.str (ks.getD j ByteArray.empty)) (encK_at0 (ks) (j) (by assumption)) rfl)
      have e2' := (congrArg (fun z => AV.fptr z) st)
      have e3' := kv
      have e4' := (congrArg (fun z => AV.int .i64 z) (wrap_i64 (e := (↑j : Int) + (1 : Int)) (by omega) (by omega)))
      exact g_x [⟨1, [], .br true .no⟩, ⟨7, [], .as (rhsOf e1')⟩, ⟨10, [], .as (rhsOf e2')⟩, ⟨13, [], .call (avOf e3') (blOf e3') []⟩, ⟨15, [], .br true .no⟩, ⟨18, [], .as (rhsOf e4')⟩] [.sel [2, 7, 9, 10, 11, 12, 68, 69]] (And.intro (show decide ((↑j : Int) < (↑ks.length : Int)) = true from (by rw [decide_eq_true_iff]; omega)) (And.intro (show (0 : Int) ≤ (↑j : Int) ∧ (↑j : Int) < (↑ks.length : Int) from (by omega)) (And.intro (show 1 ≤ (List.drop (0 + (↑j : Int).toNat * 1) (flatA encK ks)).length from (drop_le0 (n := 1) (encK_at0 (ks) (j) (by assumption)) (by simp))) (And.intro e1' (And.intro (show (0 : Int) ≤ (↑k : Int) ∧ (↑k : Int) < (↑z.length : Int) from (by omega)) (And.intro e2' (And.intro (show (0 : Int) ≤ (1 : Int) ∧ (1 : Int) < (↑2 : Int) from (by omega)) (And.intro (show 1 ≤ (AV.int .u8 b :: flatA encZ (List.drop (k + 1) z)).length from (by exact Nat.le_of_ble_eq_true (by kernel_rfl))) (And.intro e3' (And.intro (show ((ks.getD j ByteArray.empty).toList == (keyF b).toList) = true from (by assumption)) e4'))))))))))
    | false =>
      rw [if_neg (by decide)]
      have e1' := (drop_hd0 (v := AV.str (ks.getD j ByteArray.empty)) (encK_at0 (ks) (j) (by assumption)) rfl)
      have e2' := (congrArg (fun z => AV.fptr z) st)
      have e3' := kv
      have e4' := (congrArg (fun z => AV.int .i64 z) (wrap_i64 (e := (↑j : Int) + (1 : Int)) (by omega) (by omega)))
      exact g_x [⟨1, [], .br true .no⟩, ⟨7, [], .as (rhsOf e1')⟩, ⟨10, [], .as (rhsOf e2')⟩, ⟨13, [], .call (avOf e3') (blOf e3') []⟩, ⟨15, [], .br false .no⟩, ⟨16, [], .as (rhsOf e4')⟩] [.sel [2, 7, 9, 10, 11, 12, 68, 69]] (And.intro (show decide ((↑j : Int) < (↑ks.length : Int)) = true from (by rw [decide_eq_true_iff]; omega)) (And.intro (show (0 : Int) ≤ (↑j : Int) ∧ (↑j : Int) < (↑ks.length : Int) from (by omega)) (And.intro (show 1 ≤ (List.drop (0 + (↑j : Int).toNat * 1) (flatA encK ks)).length from (drop_le0 (n := 1) (encK_at0 (ks) (j) (by assumption)) (by simp))) (And.intro e1' (And.intro (show (0 : Int) ≤ (↑k : Int) ∧ (↑k : Int) < (↑z.length : Int) from (by omega)) (And.intro e2' (And.intro (show (0 : Int) ≤ (1 : Int) ∧ (1 : Int) < (↑2 : Int) from (by omega)) (And.intro (show 1 ≤ (AV.int .u8 b :: flatA encZ (List.drop (k + 1) z)).length from (by exact Nat.le_of_ble_eq_true (by kernel_rfl))) (And.intro e3' (And.intro (show ((ks.getD j ByteArray.empty).toList == (keyF b).toList) = false from (by assumption)) e4'))))))))))
  · unfold faS faE meH
    exact g_x [⟨1, [], .br false .no⟩] [.sel [2, 7, 9, 10, 11, 12]] (show decide ((↑ks.length : Int) < (↑ks.length : Int)) = false from (by rw [decide_eq_false_iff_not]; omega))
theorem getF_mem (l : List Ent) (key : ByteArray) {e : Ent} (h : e ∈ getF l key) : e ∈ l := by
  unfold getF at h
  split at h
  · rename_i hi
    rcases List.mem_append.1 h with h | h
    · exact List.mem_of_mem_eraseIdx h
    · rw [List.mem_singleton] at h; rw [h]; exact getD_mem' hi _
  · exact h
def Uniq (l : List Ent) : Prop := l.Pairwise fun a b => a.1 ≠ b.1
theorem Uniq.ne {l : List Ent} (h : Uniq l) {i j : Nat} (hi : i < l.length) (hj : j < l.length) (hn : i ≠ j) : l[i].1 ≠ l[j].1 := by
  rcases Nat.lt_or_gt_of_ne hn with h1 | h1
  · exact List.pairwise_iff_getElem.1 h i j hi hj h1
  · exact fun he => List.pairwise_iff_getElem.1 h j i hj hi h1 he.symm
theorem Uniq.erase {l : List Ent} (h : Uniq l) (i : Nat) : Uniq (l.eraseIdx i) := List.Pairwise.sublist (List.eraseIdx_sublist l i) h
theorem Uniq.snoc {l : List Ent} (h : Uniq l) {x : Ent} (hx : ∀ e ∈ l, e.1 ≠ x.1) : Uniq (l ++ [x]) := by
  refine List.pairwise_append.2 ⟨h, List.pairwise_singleton _ _, fun a ha b hb => ?_⟩
  rw [List.mem_singleton] at hb; rw [hb]; exact hx a ha
theorem erase_ne {l : List Ent} (h : Uniq l) {i : Nat} (hi : i < l.length) {e : Ent} (he : e ∈ l.eraseIdx i) : e ∈ l ∧ e.1 ≠ (l.getD i eD).1 := by
  obtain ⟨j, hj, hji, rfl⟩ := List.mem_eraseIdx_iff_getElem.1 he
  refine ⟨List.getElem_mem _, ?_⟩
  rw [List.getD_eq_getElem?_getD, List.getElem?_eq_getElem hi]
  exact h.ne hj hi hji
theorem getF_uniq {l : List Ent} (h : Uniq l) (key : ByteArray) : Uniq (getF l key) := by
  unfold getF
  split
  · rename_i hi
    exact (h.erase _).snoc fun e he => (erase_ne h hi he).2
  · exact h
theorem none_ne {l : List Ent} {key : ByteArray} (h : ¬ idxF l key < l.length) {e : Ent} (he : e ∈ l) : e.1 ≠ key := fun hk => by
  obtain ⟨j, hj, rfl⟩ := List.getElem_of_mem he
  have := idxF_no l key h j hj
  rw [List.getD_eq_getElem?_getD, List.getElem?_eq_getElem hj] at this
  simp only [Option.getD_some, hk, beq_self_eq_true] at this
  cases this
theorem putF_spec (R : Nat) {l : List Ent} (h : Uniq l) (key : ByteArray) (v : Int) : Uniq (putF R l key v) ∧ ∀ e ∈ putF R l key v, e = (key, v) ∨ (e ∈ l ∧ e.1 ≠ key) := by
  unfold putF
  split
  · exact ⟨List.Pairwise.nil, fun e he => absurd he (by simp)⟩
  · split
    · rename_i hi
      have hk := idxF_eq l key hi
      refine ⟨(h.erase _).snoc fun e he => by rw [← hk]; exact (erase_ne h hi he).2, fun e he => ?_⟩
      rcases List.mem_append.1 he with he | he
      · exact Or.inr (by have := erase_ne h hi he; rw [hk] at this; exact this)
      · exact Or.inl (List.mem_singleton.1 he)
    · rename_i hi
      split
      · refine ⟨h.snoc fun e he => none_ne hi he, fun e he => ?_⟩
        rcases List.mem_append.1 he with he | he
        · exact Or.inr ⟨he, none_ne hi he⟩
        · exact Or.inl (List.mem_singleton.1 he)
      · refine ⟨Uniq.snoc (List.Pairwise.sublist (List.drop_sublist 1 l) h) fun e he => none_ne hi (List.mem_of_mem_drop he), fun e he => ?_⟩
        rcases List.mem_append.1 he with he | he
        · exact Or.inr ⟨List.mem_of_mem_drop he, none_ne hi (List.mem_of_mem_drop he)⟩
        · exact Or.inl (List.mem_singleton.1 he)
theorem atF_lt (key : ByteArray) (ks : List ByteArray) : ∀ m, atF key ks m < 0 ∧ (∀ j, j < m → ks.getD j bE ≠ key) ∨ ∃ j : Nat, atF key ks m = (j : Int) ∧ j < m ∧ ks.getD j bE = key
  | 0 => Or.inl ⟨by simp [atF], fun j hj => absurd hj (by omega)⟩
  | m + 1 => by
    unfold atF
    cases hq : ((ks.getD m bE).toList == key.toList) with
    | true => exact Or.inr ⟨m, by rw [if_pos rfl], by omega, key_eq hq⟩
    | false =>
      rw [if_neg (by decide)]
      have hne : ks.getD m bE ≠ key := fun h => by rw [h, beq_self_eq_true] at hq; cases hq
      rcases atF_lt key ks m with ⟨h1, h2⟩ | ⟨j, h1, h2, h3⟩
      · refine Or.inl ⟨h1, fun j hj => ?_⟩
        rcases Nat.lt_succ_iff_lt_or_eq.1 hj with h | rfl
        · exact h2 j h
        · exact hne
      · exact Or.inr ⟨j, h1, by omega, h3⟩
/-- what holds between the steps -/
structure J (R k : Nat) (l : List Ent) (ks : List ByteArray) (ws : List Int) : Prop where
  len : ks.length = ws.length
  le : l.length ≤ R
  kk : ks.length ≤ k
  u : Uniq l
  d : ∀ i j, i < ks.length → j < ks.length → ks.getD i bE = ks.getD j bE → i = j
  v : ∀ e ∈ l, ∀ j, j < ks.length → ks.getD j bE = e.1 → e.2 = ws.getD j 0
theorem J.get {R k l ks ws} (h : J R k l ks ws) (key : ByteArray) : J R k (getF l key) ks ws := ⟨h.len, by rw [getF_len]; exact h.le, h.kk, getF_uniq h.u key, h.d, fun e he => h.v e (getF_mem l key he)⟩
def gets (l : List Ent) (ks : List ByteArray) : Nat → List Ent
  | 0 => l
  | k + 1 => getF (gets l ks k) (ks.getD k bE)
theorem J.gets {R k l ks ws} (h : J R k l ks ws) : ∀ m, J R k (gets l ks m) ks ws
  | 0 => h
  | m + 1 => (h.gets m).get _
theorem J.put {R k l ks ws} (h : J R k l ks ws) (key : ByteArray) (v : Int) :
    (atF key ks ks.length < 0 → J R (k + 1) (putF R l key v) (ks ++ [key]) (ws ++ [v])) ∧ ∀ j : Nat, atF key ks ks.length = (j : Int) → j < ks.length ∧ J R (k + 1) (putF R l key v) ks (ws.set j v) := by
  obtain ⟨p1, p2⟩ := putF_spec R h.u key v
  have p3 := putF_len R l key v h.le
  rcases atF_lt key ks ks.length with ⟨h1, h2⟩ | ⟨j, h1, h2, h3⟩
  · refine ⟨fun _ => ⟨by simp [h.len], p3, by simp [h.kk], p1, fun i j hi hj he => ?_, fun e he j hj hk => ?_⟩, fun j hj => by omega⟩
    · rw [snoc_length] at hi hj
      rcases Nat.lt_succ_iff_lt_or_eq.1 hi with hi | rfl <;> rcases Nat.lt_succ_iff_lt_or_eq.1 hj with hj | rfl
      · rw [getD_snoc_lt _ _ _ _ hi, getD_snoc_lt _ _ _ _ hj] at he; exact h.d i j hi hj he
      · rw [getD_snoc_lt _ _ _ _ hi, getD_snoc_last] at he; exact absurd he (h2 i hi)
      · rw [getD_snoc_lt _ _ _ _ hj, getD_snoc_last] at he; exact absurd he.symm (h2 j hj)
      · rfl
    · rw [snoc_length] at hj
      rcases Nat.lt_succ_iff_lt_or_eq.1 hj with hj | rfl
      · rw [getD_snoc_lt _ _ _ _ hj] at hk
        rw [getD_snoc_lt _ _ _ _ (by rw [← h.len]; exact hj)]
        rcases p2 e he with rfl | ⟨g1, g2⟩
        · exact absurd hk (h2 j hj)
        · exact h.v e g1 j hj hk
      · rw [getD_snoc_last] at hk
        rw [h.len, getD_snoc_last]
        rcases p2 e he with rfl | ⟨g1, g2⟩
        · rfl
        · exact absurd hk.symm g2
  · refine ⟨fun h0 => by omega, fun j' hj' => ?_⟩
    obtain rfl : j = j' := by omega
    refine ⟨h2, ⟨by simp [h.len], p3, by have := h.kk; omega, p1, h.d, fun e he i hi hk => ?_⟩⟩
    rw [List.getD_eq_getElem?_getD, List.getElem?_set]
    rcases p2 e he with rfl | ⟨g1, g2⟩
    · have := h.d j i h2 hi (h3.trans hk.symm)
      subst this
      rw [if_pos rfl, if_pos (by rw [← h.len]; exact h2)]; rfl
    · rw [if_neg (fun he => g2 (by rw [← hk, ← he]; exact h3))]
      rw [← List.getD_eq_getElem?_getD]
      exact h.v e g1 i hi hk
theorem J.drop {R k l ks ws} (h : J R k l ks ws) (m : Nat) : J R k (l.drop m) ks ws := ⟨h.len, by rw [List.length_drop]; have := h.le; omega, h.kk, List.Pairwise.sublist (List.drop_sublist m l) h.u, h.d, fun e he => h.v e (List.mem_of_mem_drop he)⟩
def geS (n : Int) (R : Nat) (z : List (Int × Int)) (k : Nat) (l : List Ent) (ks : List ByteArray) (ws : List Int) (j : Nat) : St := stOf 139 [(2, stepsV z), (7, .ptr 0 0), (9, .sl 1 0 ks.length 1), (10, .sl 2 0 ws.length 1), (11, .int .i64 (k : Int)), (113, .int .i64 (ks.length : Int)), (114, .int .i64 (j : Int))] (meH n R l ks ws)
theorem geL (n : Int) (R : Nat) (hR : R ≤ 32) (z : List (Int × Int)) (k k0 : Nat) (hk : k0 ≤ 50) (l : List Ent) (ks : List ByteArray) (ws : List Int) (hJ : J R k0 l ks ws) (hs : ∀ x ∈ ks, x.size ≤ 1000000) :
    LoopG Try.prog 0 Try.f5 2 (.exit 4) (stOf 139 [(2, stepsV z), (7, .ptr 0 0), (9, .sl 1 0 ks.length 1), (10, .sl 2 0 ws.length 1), (11, .int .i64 (k : Int))] (meH n R (gets l ks ks.length) ks ws)) (geS n R z k l ks ws 0) := by
  refine loopG_of ks.length (fun j => geS n R z k (gets l ks j) ks ws j) (by kernel_rfl) (by simp) ?_ ?_
  · intro j hj
    have hJ := hJ.gets j
    have hg : gets l ks (j + 1) = getF (gets l ks j) (ks.getD j bE) := rfl
    rw [hg]
    generalize gets l ks j = l at hJ ⊢
    have hlen := hJ.len
    have hjw : j < ws.length := by omega
    have hkk := hJ.kk
    have ov := obj_v (ws.getD j 0)
    have hsj := hs _ (getD_mem' hj bE)
    have hle := hJ.le
    by_cases hi : idxF l (ks.getD j bE) < l.length
    · have g1 := get_T n R l (ks.getD j bE) hsj (by omega) _ hi (idxF_lt l _) (idxF_eq l _ hi)
      have hv := hJ.v _ (getD_mem' hi eD) j hj (idxF_eq l _ hi).symm
      have hG : getF l (ks.getD j bE) = l.eraseIdx (idxF l (ks.getD j bE)) ++ [l.getD (idxF l (ks.getD j bE)) eD] := by unfold getF; rw [if_pos hi]
      rw [← hG, hv] at g1
      generalize getF l (ks.getD j bE) = l' at g1 ⊢
      unfold cacheH cacheD at g1
      unfold geS meH
      have e1' := (drop_hd0 (v := AV.str (ks.getD j ByteArray.empty)) (encK_at0 (ks) (j) (by assumption)) rfl)
      have e2' := g1
      have e3' := (drop_hd0 (v := AV.int .u8 (ws.getD j (0 : Int))) (encW_at0 (ws) (j) (by assumption)) rfl)
      have e4' := ov
      have e5' := refOb1 (ws.getD j 0)
      have e6' := (congrArg (fun z => AV.int .i64 z) (wrap_i64 (e := (↑j : Int) + (1 : Int)) (by omega) (by omega)))
      exact g_x [⟨1, [], .br true .no⟩, ⟨8, [], .as (rhsOf e1')⟩, ⟨9, [], .callS [0, 3] [false, true] (avOf e2') (blOf e2') [false, false, true]⟩, ⟨22, [], .as (rhsOf e3')⟩, ⟨23, [], .call (avOf e4') (blOf e4') []⟩, ⟨24, [], .call (avOf e5') (blOf e5') []⟩, ⟨28, [], .as (rhsOf e6')⟩] [.sel [2, 7, 9, 10, 11, 113, 114], .keep [0, 1, 2, 4] [false, true, true, true]] (And.intro (show decide ((↑j : Int) < (↑ks.length : Int)) = true from (by rw [decide_eq_true_iff]; omega)) (And.intro (show (0 : Int) ≤ (↑j : Int) ∧ (↑j : Int) < (↑ks.length : Int) from (by omega)) (And.intro (show 1 ≤ (List.drop (0 + (↑j : Int).toNat * 1) (flatA encK ks)).length from (drop_le0 (n := 1) (encK_at0 (ks) (j) (by assumption)) (by simp))) (And.intro e1' (And.intro (show ∀ (x : AV), x ∈ flatA (encE n) l → noid0 x = true from ents_noid n l) (And.intro (show ∀ (x : AV), x ∈ flatA (encE n) l' → noid0 x = true from ents_noid n l') (And.intro e2' (And.intro (show 4 ≤ 4 from (by omega)) (And.intro (show 4 ≤ 4 from (by omega)) (And.intro (show (0 : Int) ≤ (↑j : Int) ∧ (↑j : Int) < (↑ws.length : Int) from (by omega)) (And.intro (show 1 ≤ (List.drop (0 + (↑j : Int).toNat * 1) (flatA encW ws)).length from (drop_le0 (n := 1) (encW_at0 (ws) (j) (by assumption)) (by simp))) (And.intro e3' (And.intro e4' (And.intro e5' (And.intro e6' (And.intro (show ∀ (x : AV), x ∈ flatA encK ks → noid0 x = true from encK_noid ks) (And.intro (show ∀ (x : AV), x ∈ flatA encW ws → noid0 x = true from encW_noid ws) (show ∀ (x : AV), x ∈ flatA (encE n) l' → noid0 x = true from ents_noid n l'))))))))))))))))))
    · have hG : getF l (ks.getD j bE) = l := by unfold getF; rw [if_neg hi]
      rw [hG]
      rcases Nat.eq_zero_or_pos l.length with h0 | h0
      · obtain rfl : l = [] := List.eq_nil_of_length_eq_zero h0
        have g1 := get_0 n R (ks.getD j bE)
        unfold cacheH cacheD at g1
        unfold geS meH
        have e1' := (drop_hd0 (v := AV.str (ks.getD j ByteArray.empty)) (encK_at0 (ks) (j) (by assumption)) rfl)
        have e2' := g1
        have e3' := (congrArg (fun z => AV.int .i64 z) (wrap_i64 (e := (↑j : Int) + (1 : Int)) (by omega) (by omega)))
        exact g_x [⟨1, [], .br true .no⟩, ⟨8, [], .as (rhsOf e1')⟩, ⟨9, [], .callS [0, 3] [false, false] (avOf e2') (blOf e2') [false, false, false]⟩, ⟨28, [], .as (rhsOf e3')⟩] [.sel [2, 7, 9, 10, 11, 113, 114], .keep [0, 1, 2, 4] [false, true, true, false]] (And.intro (show decide ((↑j : Int) < (↑ks.length : Int)) = true from (by rw [decide_eq_true_iff]; omega)) (And.intro (show (0 : Int) ≤ (↑j : Int) ∧ (↑j : Int) < (↑ks.length : Int) from (by omega)) (And.intro (show 1 ≤ (List.drop (0 + (↑j : Int).toNat * 1) (flatA encK ks)).length from (drop_le0 (n := 1) (encK_at0 (ks) (j) (by assumption)) (by simp))) (And.intro e1' (And.intro e2' (And.intro (show 4 ≤ 4 from (by omega)) (And.intro (show false = true → false = true from (fun h => h)) (And.intro e3' (And.intro (show ∀ (x : AV), x ∈ flatA encK ks → noid0 x = true from encK_noid ks) (show ∀ (x : AV), x ∈ flatA encW ws → noid0 x = true from encW_noid ws))))))))))
      · have g1 := get_F n R l (ks.getD j bE) hsj (by omega) h0 (idxF_no l _ hi)
        unfold cacheH cacheD at g1
        unfold geS meH
        have e1' := (drop_hd0 (v := AV.str (ks.getD j ByteArray.empty)) (encK_at0 (ks) (j) (by assumption)) rfl)
        have e2' := g1
        have e3' := (congrArg (fun z => AV.int .i64 z) (wrap_i64 (e := (↑j : Int) + (1 : Int)) (by omega) (by omega)))
        exact g_x [⟨1, [], .br true .no⟩, ⟨8, [], .as (rhsOf e1')⟩, ⟨9, [], .callS [0, 3] [false, true] (avOf e2') (blOf e2') [false, false, true]⟩, ⟨28, [], .as (rhsOf e3')⟩] [.sel [2, 7, 9, 10, 11, 113, 114], .keep [0, 1, 2, 4] [false, true, true, true]] (And.intro (show decide ((↑j : Int) < (↑ks.length : Int)) = true from (by rw [decide_eq_true_iff]; omega)) (And.intro (show (0 : Int) ≤ (↑j : Int) ∧ (↑j : Int) < (↑ks.length : Int) from (by omega)) (And.intro (show 1 ≤ (List.drop (0 + (↑j : Int).toNat * 1) (flatA encK ks)).length from (drop_le0 (n := 1) (encK_at0 (ks) (j) (by assumption)) (by simp))) (And.intro e1' (And.intro (show ∀ (x : AV), x ∈ flatA (encE n) l → noid0 x = true from ents_noid n l) (And.intro (show ∀ (x : AV), x ∈ flatA (encE n) l → noid0 x = true from ents_noid n l) (And.intro e2' (And.intro (show 4 ≤ 4 from (by omega)) (And.intro (show false = true → false = true from (fun h => h)) (And.intro e3' (And.intro (show ∀ (x : AV), x ∈ flatA encK ks → noid0 x = true from encK_noid ks) (And.intro (show ∀ (x : AV), x ∈ flatA encW ws → noid0 x = true from encW_noid ws) (show ∀ (x : AV), x ∈ flatA (encE n) l → noid0 x = true from ents_noid n l)))))))))))))
  · unfold geS meH
    have hkk := hJ.kk
    exact g_x [⟨1, [], .br false .no⟩] [.sel [2, 7, 9, 10, 11]] (show decide ((↑ks.length : Int) < (↑ks.length : Int)) = false from (by rw [decide_eq_false_iff_not]; omega))
end Go.Proofs.Ytcmbhebgpboepaa
