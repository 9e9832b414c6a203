/-
  Stores: the laws' steps and arguments; what a store does says the definition.
-/
import Derived.Test.YtkdgnjoofhckeaaCE
namespace Go.Proofs.Ytkdgnjoofhckeaa
open Go Go.RowKit V
set_option linter.unusedSimpArgs false
set_option linter.unusedVariables false
set_option maxHeartbeats 20000000
def encZ (z : Int × Int) : List AV := [.int .u8 z.1, .int .u8 z.2]
abbrev stepsV (l : List (Int × Int)) : AV := .slv l.length 2 (flatA encZ l)
theorem steps_at (l : List (Int × Int)) (k : Nat) (hk : k < l.length) : (flatA encZ l).drop ((k : Int).toNat * 2) = AV.int .u8 (l.getD k (0, 0)).1 :: AV.int .u8 (l.getD k (0, 0)).2 :: flatA encZ (l.drop (k + 1)) := flatA_at (enc := encZ) (n := 2) (fun _ => rfl) l (0, 0) k hk
theorem getD_all {α : Type} {p : α → Prop} {l : List α} (h : ∀ x ∈ l, p x) {k : Nat} (hk : k < l.length) (d : α) : p (l.getD k d) := by
  rw [List.getD_eq_getElem?_getD, List.getElem?_eq_getElem hk]; exact h _ (List.getElem_mem hk)
def encZV (z : Int × Int) : List Value := [.int .u8 z.1, .int .u8 z.2]
theorem pairZ : PairE encZV encZ := fun _ => rfl
theorem encZ_ok : Enc encZV 2 := ⟨fun _ => rfl, fun x u hu => by simp [encZV] at hu; rcases hu with rfl | rfl <;> rfl, by omega⟩
theorem arg_steps {w : World} {v : Value} (h : Arg Try.prog w 22 v) : ∃ l : List (Int × Int), Rep pl0 w v (stepsV l) ∧ (∀ z ∈ l, (0 ≤ z.1 ∧ z.1 ≤ 255) ∧ (0 ≤ z.2 ∧ z.2 ≤ 255)) ∧ l.length ≤ 9223372036854775807 := by
  obtain ⟨a, len, cap, rfl, h1, h2, h3, vs, h4, h5, h6⟩ := Arg.slice Try.underlying22 (ts := [5, 5]) (by kernel_rfl) (by kernel_rfl) (by decide) h
  have h4' : vs.length = len * 2 := h4
  obtain ⟨l, g1, rfl, g3⟩ := rows_of (enc := encZV) (size := 2) (fun z => (0 ≤ z.1 ∧ z.1 ≤ 255) ∧ (0 ≤ z.2 ∧ z.2 ≤ 255)) len vs h4' (fun i hi => by
    have a0 := h6 i hi 0 (by simp) (by simp only [List.length_cons, List.length_nil]; omega)
    have a1 := h6 i hi 1 (by simp) (by simp only [List.length_cons, List.length_nil]; omega)
    unfold Good at a0 a1
    simp only [List.getElem_cons_zero, List.getElem_cons_succ, Try.underlying5] at a0 a1
    obtain ⟨y, e0, hy⟩ := a0
    obtain ⟨z, e1, hz⟩ := a1
    refine ⟨(y, z), ?_, wf_u8 hy, wf_u8 hz⟩
    simp only [List.length_cons, List.length_nil, Nat.zero_add] at e0 e1
    rw [List.drop_eq_getElem_cons (by omega), List.drop_eq_getElem_cons (by omega), List.take_succ_cons, List.take_succ_cons, List.take_zero]
    exact congr (congrArg _ e0) (congrArg (fun x => [x]) e1))
  refine ⟨l, ?_, g3, by unfold maxLen at h2; omega⟩
  have := rep_of_rowV (p := pl0) pairZ encZ_ok g1 h1 h3 h5 h2 (fun x _ => pl0_M _)
  rw [← g1] at this ⊢
  exact this
theorem key_eq {a b : ByteArray} (h : (a.toList == b.toList) = true) : a = b := by
  have := eq_of_beq h
  rw [ByteArray.toList_eq, ByteArray.toList_eq] at this
  cases a with | mk c => cases b with | mk d => simp at this; rw [this]
/-- where something is -/
def idxP (p : It → Bool) (l : List It) : Nat := l.findIdx p
theorem idxP_le (p : It → Bool) (l : List It) : idxP p l ≤ l.length := List.findIdx_le_length
theorem idxP_no (p : It → Bool) (l : List It) (h : ¬ idxP p l < l.length) : ∀ k, k < l.length → p (l.getD k iD) = false := fun k hk => by
  have := List.not_of_lt_findIdx (p := p) (xs := l) (i := k) (show k < idxP p l by omega)
  rw [List.getD_eq_getElem?_getD, List.getElem?_eq_getElem hk]
  simpa using this
theorem idxP_lt (p : It → Bool) (l : List It) : ∀ k, k < idxP p l → p (l.getD k iD) = false := fun k hk => by
  have hle := idxP_le p l
  have := List.not_of_lt_findIdx (p := p) (xs := l) (i := k) hk
  rw [List.getD_eq_getElem?_getD, List.getElem?_eq_getElem (by omega)]
  simpa using this
theorem idxP_eq (p : It → Bool) (l : List It) (h : idxP p l < l.length) : p (l.getD (idxP p l) iD) = true := by
  have := List.findIdx_getElem (p := p) (xs := l) (w := h)
  rw [List.getD_eq_getElem?_getD, List.getElem?_eq_getElem h]
  exact this
abbrev pC (c : ByteArray) : It → Bool := fun x => x.1.toList == c.toList
abbrev pK (n d m : Int) : It → Bool := fun x => keyQ n x d m
abbrev idxC (l : List It) (c : ByteArray) : Nat := idxP (pC c) l
abbrev idxK (n : Int) (l : List It) (d m : Int) : Nat := idxP (pK n d m) l
structure Sq where
  l : List It
  A : List Int
  ks : List (Int × Int)
/-- the key that a step asks for -/
def keyOf (ks : List (Int × Int)) (b : Int) : Int × Int := if 0 < ks.length ∧ 0 < b.tmod 5 then ks.getD (b.tmod (ks.length : Int)).toNat (0, 0) else (b.tmod 4, (b.tdiv 4).tmod 4)
def moved (l : List It) (i : Nat) : List It := l.eraseIdx i ++ [l.getD i iD]
/-- a step of the definition -/
def stepC (n : Int) (R : Nat) (q : Sq) (a b : Int) : Sq :=
  if a.tmod 6 = 0 ∨ a.tmod 6 = 1 ∨ a.tmod 6 = 2 then
    if idxC q.l (conF b) < q.l.length then ⟨q.l.eraseIdx (idxC q.l (conF b)) ++ [q.l.getD (idxC q.l (conF b)) iD], q.A, q.ks ++ [(textF (q.l.getD (idxC q.l (conF b)) iD).1 n, (q.l.getD (idxC q.l (conF b)) iD).2)]⟩
    else if q.l.length < R then ⟨q.l ++ [(conF b, ((q.A.count (textF (conF b) n) : Nat) : Int))], q.A ++ [textF (conF b) n], q.ks ++ [(textF (conF b) n, ((q.A.count (textF (conF b) n) : Nat) : Int))]⟩
    else ⟨q.l.drop 1 ++ [(conF b, ((q.A.count (textF (conF b) n) : Nat) : Int))], q.A ++ [textF (conF b) n], q.ks ++ [(textF (conF b) n, ((q.A.count (textF (conF b) n) : Nat) : Int))]⟩
  else if a.tmod 6 = 3 then q
  else if a.tmod 6 = 4 then
    if idxK n q.l (keyOf q.ks b).1 (keyOf q.ks b).2 < q.l.length then ⟨q.l.eraseIdx (idxK n q.l (keyOf q.ks b).1 (keyOf q.ks b).2) ++ [q.l.getD (idxK n q.l (keyOf q.ks b).1 (keyOf q.ks b).2) iD], q.A, q.ks⟩ else q
  else ⟨q.l.drop (min (b.tmod 5 - 1).toNat q.l.length), q.A, q.ks⟩
def Inv (R k : Nat) (q : Sq) : Prop := q.l.length ≤ R ∧ (∀ x ∈ q.l, 0 < x.1.size ∧ x.1.size ≤ 1000000) ∧ q.A.length ≤ k ∧ q.ks.length ≤ k
theorem getD_mem0 {α : Type} {l : List α} {k : Nat} (hk : k < l.length) (d : α) : l.getD k d ∈ l := by
  rw [List.getD_eq_getElem?_getD, List.getElem?_eq_getElem hk]; exact List.getElem_mem hk
theorem mem_erase {α : Type} {l : List α} {i : Nat} {x : α} (h : x ∈ l.eraseIdx i) : x ∈ l := (List.eraseIdx_sublist l i).subset h
theorem stepC_inv (n : Int) (R k : Nat) (hR : 0 < R) (q : Sq) (a b : Int) (h : Inv R k q) : Inv R (k + 1) (stepC n R q a b) := by
  obtain ⟨h1, h2, h3, h4⟩ := h
  have hc := conF_sz b
  have two : ∀ (l : List It) (e : It), (∀ x ∈ l, x ∈ q.l) → (0 < e.1.size ∧ e.1.size ≤ 1000000) → ∀ x ∈ l ++ [e], 0 < x.1.size ∧ x.1.size ≤ 1000000 := fun l e hl he x hx => by
    rcases List.mem_append.1 hx with hx | hx
    · exact h2 x (hl x hx)
    · rw [List.mem_singleton.1 hx]; exact he
  unfold stepC
  split
  · split
    · rename_i hi
      refine ⟨?_, two _ _ (fun x hx => mem_erase hx) (h2 _ (getD_mem0 hi _)), by simp only; omega, by simp; omega⟩
      simp only; rw [snoc_len, List.length_eraseIdx_of_lt hi]; omega
    · split
      · refine ⟨by simp only; rw [snoc_len]; omega, two _ _ (fun x hx => hx) hc, by simp; omega, by simp; omega⟩
      · refine ⟨by simp only; rw [snoc_len, List.length_drop]; omega, two _ _ (fun x hx => List.mem_of_mem_drop hx) hc, by simp; omega, by simp; omega⟩
  · split
    · exact ⟨h1, h2, by omega, by omega⟩
    · split
      · split
        · rename_i hi
          refine ⟨?_, two _ _ (fun x hx => mem_erase hx) (h2 _ (getD_mem0 hi _)), by simp only; omega, by simp only; omega⟩
          simp only; rw [snoc_len, List.length_eraseIdx_of_lt hi]; omega
        · exact ⟨h1, h2, by omega, by omega⟩
      · exact ⟨by simp only; rw [List.length_drop]; omega, fun x hx => h2 x (List.mem_of_mem_drop hx), by simp only; omega, by simp only; omega⟩
theorem play_v (n : Int) (hn : 1 ≤ n ∧ n ≤ 32) (R : Nat) (hR : 0 < R ∧ R ≤ 32) (k : Nat) (hk : k ≤ 100) (q : Sq) (h : Inv R k q) (a b : Int) (ha0 : 0 ≤ a) (hb0 : 0 ≤ b) (hb1 : b < 256) : CallsV Try.prog 10 (plA a b q.ks.length) (playH n (R : Int) q.l q.A q.ks) (fun av H' => av = .tuple [.sl 7 0 (stepC n R q a b).ks.length 2, .bool true] ∧ H' = playD n (R : Int) (stepC n R q a b).l (stepC n R q a b).A (stepC n R q a b).ks) := by
  obtain ⟨i1, i2, i3, i4⟩ := h
  have ht : a.tmod 6 = a % 6 := Int.tmod_eq_emod_of_nonneg ha0
  unfold stepC
  by_cases h1 : a.tmod 6 = 0 ∨ a.tmod 6 = 1 ∨ a.tmod 6 = 2
  · rw [if_pos h1]
    by_cases h2 : idxC q.l (conF b) < q.l.length
    · rw [if_pos h2]
      simp only [List.length_append, List.length_singleton]
      exact play_put_T n R q.l q.A q.ks a b hb0 hb1 h1 (by omega) (by omega) i1 _ h2 (idxP_lt _ _) (key_eq (idxP_eq (pC (conF b)) q.l h2))
    · rw [if_neg h2]
      by_cases h3 : q.l.length < R
      · rw [if_pos h3]
        simp only [List.length_append, List.length_singleton]
        exact play_put_F n R q.l q.A q.ks a b hb0 hb1 h1 hn (by omega) (by omega) (by omega) h3 (idxP_no _ _ h2)
      · rw [if_neg h3]
        obtain rfl : R = q.l.length := by omega
        simp only [List.length_append, List.length_singleton]
        exact play_put_E n q.l q.A q.ks a b hb0 hb1 h1 hn (by omega) (by omega) (by omega) hR.1 (idxP_no _ _ h2)
  · rw [if_neg h1]
    by_cases h2 : a.tmod 6 = 3
    · rw [if_pos h2]
      by_cases h3 : idxC q.l (conF b) < q.l.length
      · exact play_find_T n R q.l q.A q.ks a b hb0 hb1 h2 (by omega) (by omega) hR.1 _ h3 (idxP_lt _ _) (key_eq (idxP_eq (pC (conF b)) q.l h3))
      · exact play_find_F n R q.l q.A q.ks a b hb0 hb1 h2 (by omega) (by omega) hR.1 (idxP_no _ _ h3)
    · rw [if_neg h2]
      by_cases h3 : a.tmod 6 = 4
      · rw [if_pos h3]
        by_cases hkey : 0 < q.ks.length ∧ 0 < b.tmod 5
        · have hj : b.tmod (q.ks.length : Int) = ((b.tmod (q.ks.length : Int)).toNat : Int) := by
            rw [Int.tmod_eq_emod_of_nonneg hb0]
            have := Int.emod_nonneg b (show ((q.ks.length : Int)) ≠ 0 by omega)
            omega
          have hjl : (b.tmod (q.ks.length : Int)).toNat < q.ks.length := by
            rw [Int.tmod_eq_emod_of_nonneg hb0]
            have := Int.emod_lt_of_pos b (show (0 : Int) < (q.ks.length : Int) by omega)
            omega
          have hk' : keyOf q.ks b = q.ks.getD (b.tmod (q.ks.length : Int)).toNat (0, 0) := by unfold keyOf; rw [if_pos hkey]
          by_cases h4 : idxK n q.l (keyOf q.ks b).1 (keyOf q.ks b).2 < q.l.length
          · rw [if_pos h4]
            exact play_get_T1 n R q.l q.A q.ks a b _ _ hb0 hb1 h3 (by omega) (by omega) _ hj hjl hkey.2 (by rw [hk']) _ h4 (i2 _ (getD_mem0 h4 _)) (idxP_lt _ _) (idxP_eq (pK n _ _) q.l h4)
          · rw [if_neg h4]
            exact play_get_F1 n R q.l q.A q.ks a b _ _ hb0 hb1 h3 (by omega) (by omega) _ hj hjl hkey.2 (by rw [hk']) (idxP_no (pK n (keyOf q.ks b).1 (keyOf q.ks b).2) _ h4)
        · have hk' : keyOf q.ks b = (b.tmod 4, (b.tdiv 4).tmod 4) := by unfold keyOf; rw [if_neg hkey]
          have h5 : 0 ≤ b.tmod 5 := by rw [Int.tmod_eq_emod_of_nonneg hb0]; omega
          have hkz : q.ks.length = 0 ∨ (0 < q.ks.length ∧ b.tmod 5 = 0) := by omega
          by_cases h4 : idxK n q.l (keyOf q.ks b).1 (keyOf q.ks b).2 < q.l.length
          · rw [if_pos h4]
            exact play_get_T2 n R q.l q.A q.ks a b _ _ hb0 hb1 h3 (by omega) (by omega) hkz (by rw [hk']) (by rw [hk']) _ h4 (i2 _ (getD_mem0 h4 _)) (idxP_lt _ _) (idxP_eq (pK n _ _) q.l h4)
          · rw [if_neg h4]
            exact play_get_F2 n R q.l q.A q.ks a b _ _ hb0 hb1 h3 (by omega) (by omega) hkz (by rw [hk']) (by rw [hk']) (idxP_no (pK n (keyOf q.ks b).1 (keyOf q.ks b).2) _ h4)
      · rw [if_neg h3]
        exact play_ev n R q.l q.A q.ks a b hb0 hb1 (by omega) (by omega) (by omega)
end Go.Proofs.Ytkdgnjoofhckeaa
