/-
  Stores: what they hold; counts of digests.
-/
import Derived.Test.YtkdgnjoofhckeaaC2
namespace Go.Proofs.Ytkdgnjoofhckeaa
open Go Go.RowKit V
set_option linter.unusedSimpArgs false
set_option linter.unusedVariables false
set_option maxHeartbeats 20000000
abbrev It := ByteArray × Int
abbrev iD : It := (ByteArray.empty, 0)
def encP (n : Int) (x : It) : List AV := [.int .u32 (textF x.1 n), .int .i64 x.2, bv x.1]
def encR (n : Int) (x : It) : List AV := [.int .u32 (textF x.1 n), .int .i64 x.2, .str x.1]
theorem lenP (n : Int) (x : It) : (encP n x).length = 3 := rfl
theorem lenR (n : Int) (x : It) : (encR n x).length = 3 := rfl
theorem its_at (n : Int) (l : List It) (k : Nat) (hk : k < l.length) : (flatA (encP n) l).drop (0 + (k : Int).toNat * 3) = AV.int .u32 (textF (l.getD k iD).1 n) :: AV.int .i64 (l.getD k iD).2 :: bv (l.getD k iD).1 :: flatA (encP n) (l.drop (k + 1)) := by
  rw [Nat.zero_add]; exact flatA_at (lenP n) l iD k hk
theorem its_atv (n : Int) (l : List It) (k : Nat) (hk : k < l.length) : (flatA (encP n) l).drop ((k : Int).toNat * 3) = AV.int .u32 (textF (l.getD k iD).1 n) :: AV.int .i64 (l.getD k iD).2 :: bv (l.getD k iD).1 :: flatA (encP n) (l.drop (k + 1)) := flatA_at (lenP n) l iD k hk
theorem its_gk (n : Int) (l : List It) (k : Nat) (hk : k < l.length) : 3 ≤ ((flatA (encP n) l).drop (0 + (k : Int).toNat * 3)).length := by
  rw [its_at n l k hk]; simp
theorem its_noid (n : Int) (l : List It) : ∀ x ∈ flatA (encP n) l, noid0 x = true := flatA_noid _ (fun a x hx => by
  simp only [encP, List.mem_cons, List.not_mem_nil, or_false] at hx
  rcases hx with rfl | rfl | rfl <;> rfl) l
theorem its_lend (n : Int) (l : List It) : ∀ x ∈ flatA (encP n) l, noid0 x = true ∧ x ≠ .junk := flatA_all (p := fun x => noid0 x = true ∧ x ≠ .junk) (fun a x hx => by
  simp only [encP, List.mem_cons, List.not_mem_nil, or_false] at hx
  rcases hx with rfl | rfl | rfl <;> exact ⟨rfl, by simp⟩) l
theorem its_len (n : Int) (l : List It) : (flatA (encP n) l).length = l.length * 3 := flatA_length (lenP n) l
theorem its_take (n : Int) (l : List It) (i : Nat) : (flatA (encP n) l).take (i * 3) = flatA (encP n) (l.take i) := flatA_take (lenP n) l i
theorem its_drop (n : Int) (l : List It) (i : Nat) : (flatA (encP n) l).drop (i * 3) = flatA (encP n) (l.drop i) := flatA_drop (lenP n) l i
theorem its_app (n : Int) (l m : List It) : flatA (encP n) l ++ flatA (encP n) m = flatA (encP n) (l ++ m) := (flatA_append l m).symm
theorem its_snoc (n : Int) (l : List It) (e : It) : (flatA (encP n) l).take (l.length * 3) ++ [AV.int .u32 (textF e.1 n), AV.int .i64 e.2, bv e.1] = flatA (encP n) (l ++ [e]) := by
  rw [List.take_of_length_le (Nat.le_of_eq (its_len n l)), flatA_append]; rfl
theorem snoc_len (l : List It) (e : It) : (l ++ [e]).length = l.length + 1 := by simp
theorem rts_at (n : Int) (l : List It) (k : Nat) (hk : k < l.length) : (flatA (encR n) l).drop (0 + (k : Int).toNat * 3) = AV.int .u32 (textF (l.getD k iD).1 n) :: AV.int .i64 (l.getD k iD).2 :: AV.str (l.getD k iD).1 :: flatA (encR n) (l.drop (k + 1)) := by
  rw [Nat.zero_add]; exact flatA_at (lenR n) l iD k hk
theorem rts_gk (n : Int) (l : List It) (k : Nat) (hk : k < l.length) : 3 ≤ ((flatA (encR n) l).drop (0 + (k : Int).toNat * 3)).length := by
  rw [rts_at n l k hk]; simp
theorem rts_noid (n : Int) (l : List It) : ∀ x ∈ flatA (encR n) l, noid0 x = true := flatA_noid _ (fun a x hx => by
  simp only [encR, List.mem_cons, List.not_mem_nil, or_false] at hx
  rcases hx with rfl | rfl | rfl <;> rfl) l
theorem rts_len (n : Int) (l : List It) : (flatA (encR n) l).length = l.length * 3 := flatA_length (lenR n) l
theorem rts_snoc (n : Int) (l : List It) (e : It) : (flatA (encR n) l).take (l.length * 3) ++ [AV.int .u32 (textF e.1 n), AV.int .i64 e.2, AV.str e.1] = flatA (encR n) (l ++ [e]) := by
  rw [List.take_of_length_le (Nat.le_of_eq (rts_len n l)), flatA_append]; rfl
/-! how many keys with a digest have been assigned -/
def lookC : List (Int × Int) → Int → Int
  | [], _ => 0
  | q :: r, d => if q.1 = d then q.2 else lookC r d
def updC : List (Int × Int) → Int → List (Int × Int)
  | [], d => [(d, 1)]
  | q :: r, d => if q.1 = d then (d, q.2 + 1) :: r else q :: updC r d
def cntC (A : List Int) : List (Int × Int) := A.foldl updC []
def encM (q : Int × Int) : AV × AV := (.int .u32 q.1, .int .i64 q.2)
def mapC (A : List Int) : List (AV × AV) := (cntC A).map encM
theorem look_upd (d e : Int) : ∀ l, lookC (updC l d) e = lookC l e + if d = e then 1 else 0
  | [] => by
    unfold updC lookC
    by_cases h : d = e
    · simp [h]
    · simp [h, lookC]
  | q :: r => by
    have ih := look_upd d e r
    unfold updC
    by_cases h : q.1 = d
    · rw [if_pos h]
      unfold lookC
      by_cases h2 : d = e
      · simp [h, h2]
      · have h3 : ¬ q.1 = e := fun h3 => h2 (h.symm.trans h3)
        simp [h2, h3]
    · rw [if_neg h]
      unfold lookC
      by_cases h2 : q.1 = e
      · have h3 : ¬ d = e := fun h3 => h (h2.trans h3.symm)
        simp [h2, h3]
      · simp [h2, ih]
theorem look_cnt (A : List Int) (e : Int) : lookC (cntC A) e = (A.count e : Nat) := by
  have key : ∀ (A : List Int) l, lookC (A.foldl updC l) e = lookC l e + (A.count e : Nat) := by
    intro A
    induction A with
    | nil => intro l; simp
    | cons d A ih =>
      intro l
      rw [List.foldl_cons, ih, look_upd, List.count_cons]
      by_cases h : d = e
      · simp [h]; omega
      · simp [h]
  rw [cntC, key]; simp [lookC]
theorem cnt_snoc (A : List Int) (d : Int) : cntC (A ++ [d]) = updC (cntC A) d := by rw [cntC, List.foldl_append]; rfl
abbrev dU : Option TypeDesc := some (.int .u32)
theorem find_enc (d : Int) : ∀ l : List (Int × Int), ∃ r, findA dU (.int .u32 d) (l.map encM) = some r ∧ lookF false (.int .i64 0) (l.map encM) (some r) = .int .i64 (lookC l d) ∧ updF (l.map encM) (.int .u32 d) (.int .i64 (lookC l d + 1)) (some r) = (updC l d).map encM
  | [] => ⟨none, rfl, rfl, rfl⟩
  | q :: l => by
    obtain ⟨r, h1, h2, h3⟩ := find_enc d l
    by_cases h : q.1 = d
    · refine ⟨some 0, ?_, ?_, ?_⟩
      · show findA dU (.int .u32 d) (encM q :: l.map encM) = _
        unfold findA
        rw [show eqLeaf dU (.int .u32 d) (encM q).1 = some true from ?_]
        show some (d == q.1) = some true
        rw [h, beq_self_eq_true]
      · unfold lookC; rw [if_pos h]; rfl
      · unfold lookC updC; rw [if_pos h, if_pos h]; rfl
    · have hq : eqLeaf dU (.int .u32 d) (encM q).1 = some false := by
        show some (d == q.1) = some false
        rw [beq_eq_false_iff_ne.2 fun hh => h hh.symm]
      cases r with
      | none =>
        refine ⟨none, ?_, ?_, ?_⟩
        · show findA dU (.int .u32 d) (encM q :: l.map encM) = _
          unfold findA; rw [hq, h1]
        · unfold lookC; rw [if_neg h]; exact h2
        · unfold lookC updC; rw [if_neg h, if_neg h]; exact congrArg (encM q :: ·) h3
      | some j =>
        refine ⟨some (j + 1), ?_, ?_, ?_⟩
        · show findA dU (.int .u32 d) (encM q :: l.map encM) = _
          unfold findA; rw [hq, h1]
        · unfold lookC; rw [if_neg h]; exact h2
        · unfold lookC updC; rw [if_neg h, if_neg h]; exact congrArg (encM q :: ·) h3
theorem map_some (A : List Int) (d : Int) : (findA dU (.int .u32 d) (mapC A)).isSome = true := by
  obtain ⟨r, h, _⟩ := find_enc d (cntC A)
  rw [mapC, h]; rfl
theorem map_look (A : List Int) (d : Int) : lookF false (.int .i64 0) (mapC A) (findA dU (.int .u32 d) (mapC A)) = .int .i64 (A.count d : Nat) := by
  obtain ⟨r, h, h2, _⟩ := find_enc d (cntC A)
  rw [mapC, h, h2, look_cnt]
theorem map_upd (A : List Int) (d : Int) : updF (mapC A) (.int .u32 d) (.int .i64 ((A.count d : Nat) + 1)) (findA dU (.int .u32 d) (mapC A)) = mapC (A ++ [d]) := by
  obtain ⟨r, h, _, h3⟩ := find_enc d (cntC A)
  rw [look_cnt] at h3
  rw [mapC, h, h3, mapC, cnt_snoc]
theorem map_plainC (A : List Int) : ∀ q ∈ mapC A, plain1 q.1 = true ∧ plain1 q.2 = true := fun q hq => by
  unfold mapC at hq
  obtain ⟨x, _, rfl⟩ := List.mem_map.1 hq
  exact ⟨rfl, rfl⟩
end Go.Proofs.Ytkdgnjoofhckeaa
