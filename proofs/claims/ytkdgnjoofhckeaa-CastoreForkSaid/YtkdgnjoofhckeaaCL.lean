/-
  Stores: what a key denotes: the model.
-/
import Derived.Test.YtkdgnjoofhckeaaCK
namespace Go.Proofs.Ytkdgnjoofhckeaa
open Go Go.RowKit V
set_option linter.unusedSimpArgs false
set_option linter.unusedVariables false
set_option maxHeartbeats 20000000
def encKy (n : Int) (x : It) : List AV := [.int .u32 (textF x.1 n), .int .i64 x.2]
def encSt (x : It) : List AV := [.str x.1]
theorem ky_at (n : Int) (l : List It) (k : Nat) (hk : k < l.length) : (flatA (encKy n) l).drop (0 + (k : Int).toNat * 2) = AV.int .u32 (textF (l.getD k iD).1 n) :: AV.int .i64 (l.getD k iD).2 :: flatA (encKy n) (l.drop (k + 1)) := by
  rw [Nat.zero_add]; exact flatA_at (enc := encKy n) (n := 2) (fun _ => rfl) l iD k hk
theorem ky_gk (n : Int) (l : List It) (k : Nat) (hk : k < l.length) : 2 ≤ ((flatA (encKy n) l).drop (0 + (k : Int).toNat * 2)).length := by
  rw [ky_at n l k hk]; simp
theorem ky_noid (n : Int) (l : List It) : ∀ x ∈ flatA (encKy n) l, noid0 x = true := flatA_noid _ (fun a x hx => by
  simp only [encKy, List.mem_cons, List.not_mem_nil, or_false] at hx
  rcases hx with rfl | rfl <;> rfl) l
theorem ky_len (n : Int) (l : List It) : (flatA (encKy n) l).length = l.length * 2 := flatA_length (n := 2) (fun _ => rfl) l
theorem ky_snoc (n : Int) (l : List It) (e : It) : (flatA (encKy n) l).take (l.length * 2) ++ [AV.int .u32 (textF e.1 n), AV.int .i64 e.2] = flatA (encKy n) (l ++ [e]) := by
  rw [List.take_of_length_le (Nat.le_of_eq (ky_len n l)), flatA_append]; rfl
theorem st_at (l : List It) (k : Nat) (hk : k < l.length) : (flatA encSt l).drop (0 + (k : Int).toNat * 1) = AV.str (l.getD k iD).1 :: flatA encSt (l.drop (k + 1)) := by
  rw [Nat.zero_add]; exact flatA_at (enc := encSt) (n := 1) (fun _ => rfl) l iD k hk
theorem st_gk (l : List It) (k : Nat) (hk : k < l.length) : 1 ≤ ((flatA encSt l).drop (0 + (k : Int).toNat * 1)).length := by
  rw [st_at l k hk]; simp
theorem st_noid (l : List It) : ∀ x ∈ flatA encSt l, noid0 x = true := flatA_noid _ (fun a x hx => by
  simp only [encSt, List.mem_cons, List.not_mem_nil, or_false] at hx
  rcases hx with rfl; rfl) l
theorem st_len (l : List It) : (flatA encSt l).length = l.length * 1 := flatA_length (n := 1) (fun _ => rfl) l
theorem st_snoc (l : List It) (e : It) : (flatA encSt l).take (l.length * 1) ++ [AV.str e.1] = flatA encSt (l ++ [e]) := by
  rw [List.take_of_length_le (Nat.le_of_eq (st_len l)), flatA_append]; rfl
def putE (n : Int) (l : List It) (A : List Int) (c : ByteArray) : It := if idxC l c < l.length then l.getD (idxC l c) iD else (c, ((A.count (textF c n) : Nat) : Int))
def putL (n : Int) (R : Nat) (l : List It) (A : List Int) (c : ByteArray) : List It :=
  if idxC l c < l.length then l.eraseIdx (idxC l c) ++ [l.getD (idxC l c) iD] else if l.length < R then l ++ [(c, ((A.count (textF c n) : Nat) : Int))] else l.drop 1 ++ [(c, ((A.count (textF c n) : Nat) : Int))]
def putA (n : Int) (l : List It) (A : List Int) (c : ByteArray) : List Int := if idxC l c < l.length then A else A ++ [textF c n]
theorem put_v (n : Int) (R : Nat) (hR : 0 < R ∧ R ≤ 32) (l : List It) (A : List Int) (c : ByteArray) (hc : 0 < c.size ∧ c.size ≤ 1000000) (hl : l.length ≤ R) (hA : A.length ≤ 1000) : CallsV Try.prog 13 [.ptr 0 0, bv c] (storeH n (R : Int) l A) (fun av H' => av = .tuple [keyV n (putE n l A c), .bool true] ∧ H' = storeD n (R : Int) (putL n R l A c) (putA n l A c)) := by
  unfold putE putL putA
  by_cases h2 : idxC l c < l.length
  · rw [if_pos h2, if_pos h2, if_pos h2]
    exact put_T n R l A c hc.2 (by omega) hl _ h2 (idxP_lt _ _) (key_eq (idxP_eq (pC c) l h2))
  · rw [if_neg h2, if_neg h2, if_neg h2]
    by_cases h3 : l.length < R
    · rw [if_pos h3]
      exact put_F n R l A c hc (by omega) hA h3 (idxP_no _ _ h2)
    · rw [if_neg h3]
      obtain rfl : R = l.length := by omega
      exact put_E n l A c hc (by omega) hA hR.1 (idxP_no _ _ h2)
/-- a store, the keys that were given, and what they denote -/
structure Inv2 (n : Int) (R k : Nat) (l : List It) (A : List Int) (K : List It) : Prop where
  len : l.length ≤ R
  sz : ∀ x ∈ l, 0 < x.1.size ∧ x.1.size ≤ 1000000
  cnt : A.length ≤ k
  num : ∀ x, x ∈ l ∨ x ∈ K → x.2 < ((A.count (textF x.1 n) : Nat) : Int)
  uniq : ∀ x y, (x ∈ l ∨ x ∈ K) → (y ∈ l ∨ y ∈ K) → textF x.1 n = textF y.1 n → x.2 = y.2 → x.1 = y.1
theorem Inv2.sub {n : Int} {R k : Nat} {l l' : List It} {A : List Int} {K : List It} (h : Inv2 n R k l A K) (h1 : l'.length ≤ R) (h2 : ∀ x ∈ l', x ∈ l) : Inv2 n R k l' A K :=
  ⟨h1, fun x hx => h.sz x (h2 x hx), h.cnt, fun x hx => h.num x (hx.imp_left (h2 x)), fun x y hx hy => h.uniq x y (hx.imp_left (h2 x)) (hy.imp_left (h2 y))⟩
theorem putE_c (n : Int) (l : List It) (A : List Int) (c : ByteArray) : (putE n l A c).1 = c := by
  unfold putE
  by_cases h : idxC l c < l.length
  · rw [if_pos h]; exact key_eq (idxP_eq (pC c) l h)
  · rw [if_neg h]
theorem put_inv {n : Int} {R k : Nat} (hR : 0 < R) {l : List It} {A : List Int} {K : List It} (c : ByteArray) (hc : 0 < c.size ∧ c.size ≤ 1000000) (h : Inv2 n R k l A K) : Inv2 n R (k + 1) (putL n R l A c) (putA n l A c) (K ++ [putE n l A c]) := by
  unfold putL putA putE
  by_cases h2 : idxC l c < l.length
  · rw [if_pos h2, if_pos h2, if_pos h2]
    have hmem : l.getD (idxC l c) iD ∈ l := getD_mem0 h2 _
    have hs : ∀ x, (x ∈ l.eraseIdx (idxC l c) ++ [l.getD (idxC l c) iD] ∨ x ∈ K ++ [l.getD (idxC l c) iD]) → x ∈ l ∨ x ∈ K := fun x hx => by
      rcases hx with hx | hx <;> rcases List.mem_append.1 hx with hx | hx
      · exact Or.inl (mem_erase hx)
      · rw [List.mem_singleton.1 hx]; exact Or.inl hmem
      · exact Or.inr hx
      · rw [List.mem_singleton.1 hx]; exact Or.inl hmem
    refine ⟨by rw [snoc_len, List.length_eraseIdx_of_lt h2]; have := h.len; omega, fun x hx => ?_, by have := h.cnt; omega, fun x hx => h.num x (hs x hx), fun x y hx hy => h.uniq x y (hs x hx) (hs y hy)⟩
    rcases List.mem_append.1 hx with hx | hx
    · exact h.sz x (mem_erase hx)
    · rw [List.mem_singleton.1 hx]; exact h.sz _ hmem
  · rw [if_neg h2, if_neg h2, if_neg h2]
    generalize hd : textF c n = d
    have key : ∀ l' : List It, l'.length ≤ R → (∀ x ∈ l', x ∈ l ∨ x = (c, ((A.count d : Nat) : Int))) → Inv2 n R (k + 1) l' (A ++ [d]) (K ++ [(c, ((A.count d : Nat) : Int))]) := fun l' hl hm => by
      have hs : ∀ x, (x ∈ l' ∨ x ∈ K ++ [(c, ((A.count d : Nat) : Int))]) → (x ∈ l ∨ x ∈ K) ∨ x = (c, ((A.count d : Nat) : Int)) := fun x hx => by
        rcases hx with hx | hx
        · rcases hm x hx with h | h
          · exact Or.inl (Or.inl h)
          · exact Or.inr h
        · rcases List.mem_append.1 hx with hx | hx
          · exact Or.inl (Or.inr hx)
          · exact Or.inr (List.mem_singleton.1 hx)
      refine ⟨hl, fun x hx => ?_, by rw [List.length_append, List.length_singleton]; have := h.cnt; omega, fun x hx => ?_, fun x y hx hy h1 h2 => ?_⟩
      · rcases hm x hx with hx | rfl
        · exact h.sz x hx
        · exact hc
      · rcases hs x hx with hx | rfl
        · have := h.num x hx
          rw [List.count_append]; omega
        · simp only [hd]
          rw [List.count_append]; simp; omega
      · rcases hs x hx with hx | rfl <;> rcases hs y hy with hy | rfl
        · exact h.uniq x y hx hy h1 h2
        · exfalso
          have := h.num x hx
          rw [h1] at this
          simp only [hd] at this h2
          omega
        · exfalso
          have := h.num y hy
          rw [← h1] at this
          simp only [hd] at this h2
          omega
        · rfl
    by_cases h3 : l.length < R
    · rw [if_pos h3]
      exact key _ (by rw [snoc_len]; omega) fun x hx => (List.mem_append.1 hx).imp_right List.mem_singleton.1
    · rw [if_neg h3]
      exact key _ (by rw [snoc_len, List.length_drop]; have := h.len; omega) fun x hx => (List.mem_append.1 hx).imp List.mem_of_mem_drop List.mem_singleton.1
/-- a look at a key -/
def getL (n : Int) (l : List It) (x : It) : List It := if idxK n l (textF x.1 n) x.2 < l.length then l.eraseIdx (idxK n l (textF x.1 n) x.2) ++ [l.getD (idxK n l (textF x.1 n) x.2) iD] else l
theorem getL_inv {n : Int} {R k : Nat} {l : List It} {A : List Int} {K : List It} (x : It) (h : Inv2 n R k l A K) : Inv2 n R k (getL n l x) A K := by
  unfold getL
  split
  · rename_i h2
    refine h.sub (by rw [snoc_len, List.length_eraseIdx_of_lt h2]; have := h.len; omega) fun y hy => ?_
    rcases List.mem_append.1 hy with hy | hy
    · exact mem_erase hy
    · rw [List.mem_singleton.1 hy]; exact getD_mem0 h2 _
  · exact h
def getLs (n : Int) (K : List It) (l : List It) : Nat → List It
  | 0 => l
  | j + 1 => getL n (getLs n K l j) (K.getD j iD)
theorem getLs_inv {n : Int} {R k : Nat} {l : List It} {A : List Int} {K : List It} (h : Inv2 n R k l A K) : ∀ j, Inv2 n R k (getLs n K l j) A K
  | 0 => h
  | j + 1 => getL_inv _ (getLs_inv h j)
theorem keyQ_iff (n : Int) (x : It) (d m : Int) : keyQ n x d m = true ↔ textF x.1 n = d ∧ x.2 = m := by
  unfold keyQ
  rw [Bool.and_eq_true, beq_iff_eq, beq_iff_eq]
end Go.Proofs.Ytkdgnjoofhckeaa
