/-
  Paths: Normalize, its result.
-/
import Derived.Test.YtaljnmmnmnoinaaDoorP4
namespace Go.Proofs.YtaljnmmnmnoinaaDoor
open Go Go.RowKit V
set_option linter.unusedSimpArgs false
set_option linter.unusedVariables false
set_option maxHeartbeats 20000000
theorem nz_fail (l : List ByteArray) (hl : l.length ≤ 1000000) (hsz : ∀ x ∈ l, x.size ≤ 1000000) (k : Nat) (hk : k < l.length) (q : NS) (hq : q.2 ≤ q.1.length ∧ q.2 ≤ k) (h : nz q (l.getD k bE) = none) :
    GoV Tryd.prog 0 (loopB Tryd.f10 0) (isX .ret (stOf 57 [(2, .str bE), (3, .int .i64 8)] [])) (nzS l q k) ∧ GoV Tryd.prog 0 (loopB Tryd.f11 0) (isX .ret (stOf 78 [(2, .str bE), (3, .int .i64 8)] [])) (rzS l q k) := by
  have at1 := encS_at0 l k hk
  have hx := hsz _ (getD_mem' hk bE)
  obtain ⟨R, n⟩ := q
  simp only at hq
  have hge : n * 1 ≤ (flatA encS R).length := by rw [encS_len]; omega
  unfold nz isE isD isDD at h
  generalize l.getD k bE = x at at1 hx h
  have ev := isEl_v x hx
  have hgk := encS_gk l k hk
  by_cases h1 : (x.toList == bE.toList) = true ∨ (x.toList == dB.toList) = true
  · rw [if_pos h1] at h
    cases h
  · rw [if_neg h1] at h
    have h2 : (x.toList == bE.toList) = false := by cases hh : (x.toList == bE.toList) <;> simp_all
    have h3 : (x.toList == dB.toList) = false := by cases hh : (x.toList == dB.toList) <;> simp_all
    clear h1
    cases h4 : (x.toList == ddB.toList) with
    | true =>
      rw [if_pos h4] at h
      by_cases h5 : n = 0
      · subst h5
        unfold nzS rzS
        constructor
        · have e1' := (drop_hd0 (v := AV.str x) at1 rfl)
          exact g_x [⟨1, [], .br true .no⟩, ⟨3, [], .as (rhsOf e1')⟩, ⟨8, [.tm 20 (.bool false)], .no⟩, ⟨12, [], .br false .no⟩, ⟨16, [], .br true .no⟩] [.sel [2, 3], .keep [] []] (And.intro (show decide ((↑k : Int) < (↑l.length : Int)) = true from (by rw [decide_eq_true_iff]; omega)) (And.intro (show (0 : Int) ≤ (↑k : Int) ∧ (↑k : Int) < (↑l.length : Int) from (by omega)) (And.intro (show 1 ≤ (List.drop (0 + (↑k : Int).toNat * 1) (flatA encS l)).length from (drop_le0 (n := 1) at1 (by simp))) (And.intro e1' (And.intro (congrArg AV.bool h2) (And.intro (congrArg (fun z => bif false then true else z) h3) (show (x.toList == (ByteArray.mk #[(46 : UInt8), (46 : UInt8)]).toList) = true from (by assumption))))))))
        · have e1' := (drop_hd0 (v := AV.str x) at1 rfl)
          exact g_x [⟨4, [], .br true .no⟩, ⟨8, [], .as (rhsOf e1')⟩, ⟨11, [.tm 30 (.bool false)], .no⟩, ⟨14, [], .as (rhsOf e1')⟩, ⟨18, [], .br false .no⟩, ⟨22, [], .as (rhsOf e1')⟩, ⟨25, [], .br true .no⟩] [.sel [2, 3], .keep [] []] (And.intro (show decide ((↑k : Int) < (↑l.length : Int)) = true from (by rw [decide_eq_true_iff]; omega)) (And.intro (show (0 : Int) ≤ (↑k : Int) ∧ (↑k : Int) < (↑l.length : Int) from (by omega)) (And.intro (show 1 ≤ (List.drop (0 + (↑k : Int).toNat * 1) (flatA encS l)).length from (drop_le0 (n := 1) at1 (by simp))) (And.intro e1' (And.intro (congrArg AV.bool h2) (And.intro (show (0 : Int) ≤ (↑k : Int) ∧ (↑k : Int) < (↑l.length : Int) from (by omega)) (And.intro (show 1 ≤ (List.drop (0 + (↑k : Int).toNat * 1) (flatA encS l)).length from (drop_le0 (n := 1) at1 (by simp))) (And.intro e1' (And.intro (congrArg (fun z => bif false then true else z) h3) (And.intro (show (0 : Int) ≤ (↑k : Int) ∧ (↑k : Int) < (↑l.length : Int) from (by omega)) (And.intro (show 1 ≤ (List.drop (0 + (↑k : Int).toNat * 1) (flatA encS l)).length from (drop_le0 (n := 1) at1 (by simp))) (And.intro e1' (show (x.toList == (ByteArray.mk #[(46 : UInt8), (46 : UInt8)]).toList) = true from (by assumption))))))))))))))
      · rw [if_neg h5] at h
        cases h
    | false =>
      rw [if_neg (by rw [h4]; decide)] at h
      have rv := el_v x hx h3 h4
      cases h5 : elF x with
      | true => rw [if_pos h5] at h; cases h
      | false =>
        rw [h5] at ev rv
        unfold nzS rzS
        constructor
        · have e1' := (drop_hd0 (v := AV.str x) at1 rfl)
          have e2' := ev
          exact g_x [⟨1, [], .br true .no⟩, ⟨3, [], .as (rhsOf e1')⟩, ⟨8, [.tm 20 (.bool false)], .no⟩, ⟨12, [], .br false .no⟩, ⟨16, [], .br false .no⟩, ⟨18, [], .call (avOf e2') (blOf e2') []⟩] [.sel [2, 3], .keep [] []] (And.intro (show decide ((↑k : Int) < (↑l.length : Int)) = true from (by rw [decide_eq_true_iff]; omega)) (And.intro (show (0 : Int) ≤ (↑k : Int) ∧ (↑k : Int) < (↑l.length : Int) from (by omega)) (And.intro (show 1 ≤ (List.drop (0 + (↑k : Int).toNat * 1) (flatA encS l)).length from (drop_le0 (n := 1) at1 (by simp))) (And.intro e1' (And.intro (congrArg AV.bool h2) (And.intro (congrArg (fun z => bif false then true else z) h3) (And.intro (show (x.toList == (ByteArray.mk #[(46 : UInt8), (46 : UInt8)]).toList) = false from (by assumption)) e2')))))))
        · have e1' := (drop_hd0 (v := AV.str x) at1 rfl)
          have e2' := rv
          exact g_x [⟨4, [], .br true .no⟩, ⟨8, [], .as (rhsOf e1')⟩, ⟨11, [.tm 30 (.bool false)], .no⟩, ⟨14, [], .as (rhsOf e1')⟩, ⟨18, [], .br false .no⟩, ⟨22, [], .as (rhsOf e1')⟩, ⟨25, [], .br false .no⟩, ⟨29, [], .as (rhsOf e1')⟩, ⟨30, [], .call (avOf e2') (blOf e2') []⟩] [.sel [2, 3], .keep [] []] (And.intro (show decide ((↑k : Int) < (↑l.length : Int)) = true from (by rw [decide_eq_true_iff]; omega)) (And.intro (show (0 : Int) ≤ (↑k : Int) ∧ (↑k : Int) < (↑l.length : Int) from (by omega)) (And.intro (show 1 ≤ (List.drop (0 + (↑k : Int).toNat * 1) (flatA encS l)).length from (drop_le0 (n := 1) at1 (by simp))) (And.intro e1' (And.intro (congrArg AV.bool h2) (And.intro (show (0 : Int) ≤ (↑k : Int) ∧ (↑k : Int) < (↑l.length : Int) from (by omega)) (And.intro (show 1 ≤ (List.drop (0 + (↑k : Int).toNat * 1) (flatA encS l)).length from (drop_le0 (n := 1) at1 (by simp))) (And.intro e1' (And.intro (congrArg (fun z => bif false then true else z) h3) (And.intro (show (0 : Int) ≤ (↑k : Int) ∧ (↑k : Int) < (↑l.length : Int) from (by omega)) (And.intro (show 1 ≤ (List.drop (0 + (↑k : Int).toNat * 1) (flatA encS l)).length from (drop_le0 (n := 1) at1 (by simp))) (And.intro e1' (And.intro (show (x.toList == (ByteArray.mk #[(46 : UInt8), (46 : UInt8)]).toList) = false from (by assumption)) (And.intro (show (0 : Int) ≤ (↑k : Int) ∧ (↑k : Int) < (↑l.length : Int) from (by omega)) (And.intro (show 1 ≤ (List.drop (0 + (↑k : Int).toNat * 1) (flatA encS l)).length from (drop_le0 (n := 1) at1 (by simp))) (And.intro e1' e2'))))))))))))))))
/-- what Normalize says -/
def NZ (s : ByteArray) : ByteArray × Int :=
  if hpF s slB = true then (bE, 8) else match nzN (SP s) (SP s).length with
    | none => (bE, 8)
    | some q => if q.2 = 0 then (bE, 8) else if 8 < q.2 ∨ 64 < (jnF (q.1.take q.2) q.2).size then (bE, 2) else (jnF (q.1.take q.2) q.2, 0)
theorem nzN_sz (l : List ByteArray) : ∀ k q, nzN l k = some q → ∀ x ∈ q.1, elF x = true ∧ isDD x = false ∧ isD x = false ∧ isE x = false
  | 0, q, h => by cases h; intro x hx; cases hx
  | k + 1, q, h => by
    unfold nzN at h
    cases hk : nzN l k with
    | none => rw [hk] at h; cases h
    | some q0 =>
      rw [hk] at h
      have ih := nzN_sz l k q0 hk
      have h : nz q0 (l.getD k bE) = some q := h
      unfold nz at h
      split at h
      · cases h; exact ih
      · rename_i h1
        split at h
        · split at h
          · cases h
          · cases h; exact ih
        · rename_i h2
          split at h
          · rename_i h3
            cases h
            intro x hx
            rcases List.mem_append.1 hx with hx | hx
            · exact ih x (List.mem_of_mem_take hx)
            · rw [List.mem_singleton.1 hx]
              refine ⟨h3, ?_, ?_, ?_⟩
              · cases hh : isDD (l.getD k bE) with | true => exact absurd hh h2 | false => rfl
              · cases hh : isD (l.getD k bE) with | true => exact absurd (Or.inr hh) h1 | false => rfl
              · cases hh : isE (l.getD k bE) with | true => exact absurd (Or.inl hh) h1 | false => rfl
          · cases h
theorem elF_sz {x : ByteArray} (h : elF x = true) : x.size ≤ 24 := by
  unfold elF at h
  simp only [Bool.and_eq_true, decide_eq_true_eq] at h
  exact h.1.2
theorem jnF_sz (l : List ByteArray) (h : ∀ x ∈ l, x.size ≤ 24) : ∀ k, k ≤ l.length → (jnF l k).size ≤ k * 25
  | 0, _ => by simp [jnF]
  | k + 1, hk => by
    have ih := jnF_sz l h k (by omega)
    have hx := h _ (getD_mem' (show k < l.length by omega) bE)
    have h1 : slB.size = 1 := rfl
    unfold jnF
    split
    · rw [ByteArray.size_append, ByteArray.size_append]; omega
    · rw [ByteArray.size_append]; omega
theorem bytes_mem_sz {s x : ByteArray} (h : x ∈ SP s) : x.size ≤ s.size := by
  unfold SP at h
  obtain ⟨p, hp, rfl⟩ := List.mem_map.1 h
  have key : ∀ l : List UInt8, ∀ p ∈ pcs l, p.length ≤ l.length := by
    intro l
    induction l with
    | nil => intro p hp; simp [pcs] at hp; simp [hp]
    | cons b l ih =>
      intro p hp
      unfold pcs at hp
      split at hp
      · rcases List.mem_cons.1 hp with rfl | hp
        · simp
        · have := ih p hp; simp; omega
      · split at hp
        · rename_i q qs hq
          rcases List.mem_cons.1 hp with rfl | hp
          · have := ih q (by rw [hq]; simp); simp; omega
          · have := ih p (by rw [hq]; simp [hp]); simp; omega
        · simp at hp; simp [hp]
  exact key _ p hp
theorem SP_le (s : ByteArray) : (SP s).length ≤ s.size + 1 := by
  rw [SP_len]
  have : (bytes s).count 47 ≤ (bytes s).length := List.count_le_length
  rw [bytes_len] at this
  omega
theorem nzL_T (s : ByteArray) (hs : s.size ≤ 30000) (q : NS) (h : ∀ k, k ≤ (SP s).length → ∃ q, nzN (SP s) k = some q) (hq : nzN (SP s) (SP s).length = some q) :
    LoopG Tryd.prog 0 Tryd.f10 0 (.exit 0) (stOf 57 [(4, .sl 0 0 q.2 1)] [.row 9 (flatA encS q.1)]) (nzS (SP s) ([], 0) 0) ∧ LoopG Tryd.prog 0 Tryd.f11 0 (.exit 0) (stOf 78 [(5, .sl 0 0 q.2 1)] [.row 9 (flatA encS q.1)]) (rzS (SP s) ([], 0) 0) := by
  have hl := SP_le s
  have hsz : ∀ x ∈ SP s, x.size ≤ 1000000 := fun x hx => by have := bytes_mem_sz hx; omega
  have key : ∀ k, k < (SP s).length → ∃ q q', nzN (SP s) k = some q ∧ nzN (SP s) (k + 1) = some q' ∧ nz q ((SP s).getD k bE) = some q' := fun k hk => by
    obtain ⟨q, h1⟩ := h k (by omega)
    obtain ⟨q', h2⟩ := h (k + 1) (by omega)
    exact ⟨q, q', h1, h2, by rw [nzN, h1] at h2; exact h2⟩
  obtain ⟨g1, g2⟩ := nzN_le _ _ _ hq
  obtain ⟨R, n⟩ := q
  have hge : n * 1 ≤ (flatA encS R).length := by rw [encS_len]; simp only at g1; omega
  constructor
  · refine loopG_of (SP s).length (fun k => nzS (SP s) ((nzN (SP s) k).getD ([], 0)) k) (by kernel_rfl) (by simp) ?_ ?_
    · intro k hk
      obtain ⟨q, q', h1, h2, h3⟩ := key k hk
      simp only [h1, h2, Option.getD_some]
      exact (nz_round (SP s) (by omega) hsz k hk q q' (nzN_le _ _ _ h1) h3).1
    · simp only [hq, Option.getD_some]
      unfold nzS
      exact g_x [⟨1, [], .br false .no⟩] [.sel [4], .keep [0] [true]] (And.intro (show decide ((↑(SP s).length : Int) < (↑(SP s).length : Int)) = false from (by rw [decide_eq_false_iff_not]; omega)) (show ∀ (x : AV), x ∈ flatA encS (R, n).fst → noid0 x = true from encS_noid R))
  · refine loopG_of (SP s).length (fun k => rzS (SP s) ((nzN (SP s) k).getD ([], 0)) k) (by kernel_rfl) (by simp) ?_ ?_
    · intro k hk
      obtain ⟨q, q', h1, h2, h3⟩ := key k hk
      simp only [h1, h2, Option.getD_some]
      exact (nz_round (SP s) (by omega) hsz k hk q q' (nzN_le _ _ _ h1) h3).2
    · simp only [hq, Option.getD_some]
      unfold rzS
      exact g_x [⟨4, [], .br false .no⟩] [.sel [5], .keep [1] [true]] (And.intro (show decide ((↑(SP s).length : Int) < (↑(SP s).length : Int)) = false from (by rw [decide_eq_false_iff_not]; omega)) (show ∀ (x : AV), x ∈ flatA encS (R, n).fst → noid0 x = true from encS_noid R))
theorem nzL_F (s : ByteArray) (hs : s.size ≤ 30000) (m : Nat) (hm : m < (SP s).length) (q : NS) (hq : nzN (SP s) m = some q) (h : ∀ k, k ≤ m → ∃ q, nzN (SP s) k = some q) (hn : nz q ((SP s).getD m bE) = none) :
    LoopG Tryd.prog 0 Tryd.f10 0 .ret (stOf 57 [(2, .str bE), (3, .int .i64 8)] []) (nzS (SP s) ([], 0) 0) ∧ LoopG Tryd.prog 0 Tryd.f11 0 .ret (stOf 78 [(2, .str bE), (3, .int .i64 8)] []) (rzS (SP s) ([], 0) 0) := by
  have hl := SP_le s
  have hsz : ∀ x ∈ SP s, x.size ≤ 1000000 := fun x hx => by have := bytes_mem_sz hx; omega
  have key : ∀ k, k < m → ∃ q q', nzN (SP s) k = some q ∧ nzN (SP s) (k + 1) = some q' ∧ nz q ((SP s).getD k bE) = some q' := fun k hk => by
    obtain ⟨q, h1⟩ := h k (by omega)
    obtain ⟨q', h2⟩ := h (k + 1) (by omega)
    exact ⟨q, q', h1, h2, by rw [nzN, h1] at h2; exact h2⟩
  obtain ⟨f1, f2⟩ := nz_fail (SP s) (by omega) hsz m hm q (nzN_le _ _ _ hq) hn
  constructor
  · refine loopG_of m (fun k => nzS (SP s) ((nzN (SP s) k).getD ([], 0)) k) (by kernel_rfl) (by simp) ?_ ?_
    · intro k hk
      obtain ⟨q, q', h1, h2, h3⟩ := key k hk
      simp only [h1, h2, Option.getD_some]
      exact (nz_round (SP s) (by omega) hsz k (by omega) q q' (nzN_le _ _ _ h1) h3).1
    · simp only [hq, Option.getD_some]
      exact f1
  · refine loopG_of m (fun k => rzS (SP s) ((nzN (SP s) k).getD ([], 0)) k) (by kernel_rfl) (by simp) ?_ ?_
    · intro k hk
      obtain ⟨q, q', h1, h2, h3⟩ := key k hk
      simp only [h1, h2, Option.getD_some]
      exact (nz_round (SP s) (by omega) hsz k (by omega) q q' (nzN_le _ _ _ h1) h3).2
    · simp only [hq, Option.getD_some]
      exact f2
/-- the first byte -/
theorem hp_slash (s : ByteArray) (h : 0 < s.size) : hpF s slB = (byteAt s 0 == 47) := by
  unfold hpF
  have h1 : slB.size = 1 := rfl
  rw [h1, decide_eq_true (by omega), cond_true, toList_bytes, toList_bytes, bytes_extract, List.drop_zero]
  have hb := byteAt_get s 0 h
  rw [show ((0 : Nat) : Int) = 0 from rfl] at hb
  cases hl : bytes s with
  | nil => rw [← bytes_len, hl] at h; simp at h
  | cons b l =>
    have e : (bytes s)[0]'h = b := by simp [hl]
    rw [hb, e]
    by_cases hb : b = 47
    · subst hb; rfl
    · have h2 : ((b.toNat : Int) == 47) = false := by rw [beq_eq_false_iff_ne]; exact fun hh => hb ((byte_eq b).1 hh)
      rw [h2]
      simp [bytes, hb]
theorem hp_empty (s : ByteArray) (h : ¬ 0 < s.size) : hpF s slB = false := by
  unfold hpF
  have h1 : slB.size = 1 := rfl
  rw [h1, decide_eq_false (by omega)]; rfl
theorem norm_v (s : ByteArray) (hs : s.size ≤ 30000) : CallsV Tryd.prog 10 [.str s] [] (fun av H' => av = .tuple [.str (NZ s).1, .int .i64 (NZ s).2] ∧ H' = []) ∧ CallsV Tryd.prog 11 [.str s] [] (fun av H' => av = .tuple [.str (NZ s).1, .int .i64 (NZ s).2] ∧ H' = []) := by
  have hp := hasPrefix_v s slB (by omega)
  have sv := split_v s (by omega)
  have rv := refSplit s (by omega)
  unfold NZ
  have h0 : hpF s slB = (decide ((s.size : Int) > 0) && (byteAt s 0 == 47)) := by
    by_cases h : 0 < s.size
    · rw [hp_slash s h, decide_eq_true (by omega), Bool.true_and]
    · rw [hp_empty s h, decide_eq_false (by omega), Bool.false_and]
  cases hh : hpF s slB with
  | true =>
    rw [if_pos rfl]
    rw [hh] at hp h0
    constructor
    · refine callsG_at Tryd.func10 (by kernel_rfl) ?_
      have e1' := hp
      refine g_q [⟨3, [], .call (avOf e1') (blOf e1') []⟩] [.sel [2, 3]] Exit.ret (stOf 57 [(2, AV.str (ByteArray.mk #[])), (3, AV.int .i64 (8 : Int))] []) e1' ?_
      refine g_f [] [] (AV.tuple [AV.str (ByteArray.mk #[]), AV.int .i64 (8 : Int)]) ([]) trivial ?_
      exact ⟨rfl, rfl⟩
    · refine callsG_at Tryd.func11 (by kernel_rfl) ?_
      refine g_q [⟨6, [], .br true .no⟩, ⟨7, [], .br true .no⟩, ⟨8, [], .br true .no⟩, ⟨10, [], .br true .no⟩] [.sel [2, 3]] Exit.ret (stOf 78 [(2, AV.str (ByteArray.mk #[])), (3, AV.int .i64 (8 : Int))] []) (And.intro (show (decide ((↑s.size : Int) > (0 : Int)) == true) = true from (by simp_all; done)) (And.intro (show (decide ((↑s.size : Int) > (0 : Int)) == true) = true from (by simp_all; done)) (And.intro (show (0 : Int) ≤ (0 : Int) ∧ (0 : Int) < (↑s.size : Int) from (by (simp_all; done))) (And.intro (show (decide ((↑s.size : Int) > (0 : Int)) == true) = true from (by simp_all; done)) (show (bif decide ((↑s.size : Int) > (0 : Int)) then byteAt s (0 : Int) == (47 : Int) else false) = true from (by simp_all; done)))))) ?_
      refine g_f [] [] (AV.tuple [AV.str (ByteArray.mk #[]), AV.int .i64 (8 : Int)]) ([]) trivial ?_
      exact ⟨rfl, rfl⟩
  | false =>
    rw [if_neg (by decide)]
    rw [hh] at hp h0
    rcases nzN_or (SP s) (SP s).length with ⟨q, h1, h2⟩ | ⟨h1, m, q, h2, h3, h4, h5⟩
    · obtain ⟨L1, L2⟩ := nzL_T s hs q h2 h1
      rw [h1]
      obtain ⟨g1, g2⟩ := nzN_le _ _ _ h1
      have g3 := nzN_sz _ _ _ h1
      obtain ⟨R, n⟩ := q
      simp only at g1 g2 g3 L1 L2 ⊢
      have hl := SP_le s
      have tk : List.take (n * 1) (flatA encS R) = flatA encS (R.take n) := flatA_take encS_l R n
      have htl : (R.take n).length = n := by rw [List.length_take]; omega
      have hsz : ∀ x ∈ R.take n, x.size ≤ 24 := fun x hx => elF_sz (g3 x (List.mem_of_mem_take hx)).1
      have hJ : ∀ k, k ≤ (R.take n).length → (jnF (R.take n) k).size ≤ 1000000 := fun k hk => by
        have := jnF_sz (R.take n) hsz k hk
        omega
      have jv := join_v (R.take n) (by omega) (hJ _ (Nat.le_refl _))
      have jr := joined_v (R.take n) (by omega) hJ
      rw [htl] at jv jr
      have hge : n * 1 ≤ (flatA encS R).length := by rw [encS_len]; omega
      have hJ2 := hJ n (by omega)
      generalize jnF (R.take n) n = p at *
      unfold nzS at L1
      unfold rzS at L2
      rw [show flatA encS ([] : List ByteArray) = [] from rfl] at L1 L2
      by_cases hn : n = 0
      · subst hn
        rw [if_pos rfl]
        constructor
        · refine callsG_at Tryd.func10 (by kernel_rfl) ?_
          have e1' := hp
          have e2' := sv
          have e3' := L1
          refine g_q [⟨3, [], .call (avOf e1') (blOf e1') []⟩, ⟨7, [], .call (avOf e2') (blOf e2') [true]⟩, ⟨10, [.sel [4, 11, 12, 13], .own 4 9 1, .keep [1, 0] [false, true]], .loop (exOf e3') (endOf e3')⟩] [.sel [2, 3]] Exit.ret (stOf 57 [(2, AV.str (ByteArray.mk #[])), (3, AV.int .i64 (8 : Int))] [Blk.row 9 (flatA encS R)]) (And.intro e1' (And.intro (show ∀ (x : AV), x ∈ flatA encS (SP s) → plain0 x = true from encS_plain (SP s)) (And.intro e2' (And.intro (show ∀ (x : AV), x ∈ flatA encS (SP s) → noid0 x = true from encS_noid (SP s)) e3')))) ?_
          refine g_f [] [] (AV.tuple [AV.str (ByteArray.mk #[]), AV.int .i64 (8 : Int)]) ([]) trivial ?_
          exact ⟨rfl, rfl⟩
        · refine callsG_at Tryd.func11 (by kernel_rfl) ?_
          have e1' := rv
          have e2' := L2
          refine g_q [⟨6, [], .gd⟩, ⟨7, [], .gd⟩, ⟨8, [], .gd⟩, ⟨10, [], .br false .no⟩, ⟨12, [], .call (avOf e1') (blOf e1') [true]⟩, ⟨16, [.sel [4, 5, 6], .own 5 9 1], .loop (exOf e2') (endOf e2')⟩] [.sel [2, 3]] Exit.ret (stOf 78 [(2, AV.str (ByteArray.mk #[])), (3, AV.int .i64 (8 : Int))] [Blk.row 9 (flatA encS R)]) (And.intro (show (decide ((↑s.size : Int) > (0 : Int)) == true) = true → (decide ((↑s.size : Int) > (0 : Int)) == true) = true from (fun h => h)) (And.intro (show (decide ((↑s.size : Int) > (0 : Int)) == true) = true → (0 : Int) ≤ (0 : Int) ∧ (0 : Int) < (↑s.size : Int) from (by (simp; done))) (And.intro (show (decide ((↑s.size : Int) > (0 : Int)) == true) = true → (decide ((↑s.size : Int) > (0 : Int)) == true) = true from (fun h => h)) (And.intro (show decide ((↑s.size : Int) > (0 : Int)) = true → (decide ((↑s.size : Int) > (0 : Int)) == true) = true from (by (simp; done))) (And.intro (show (bif decide ((↑s.size : Int) > (0 : Int)) then byteAt s (0 : Int) == (47 : Int) else false) = false from (by simp_all; done)) (And.intro (show ∀ (x : AV), x ∈ flatA encS (SP s) → plain0 x = true from encS_plain (SP s)) (And.intro e1' e2'))))))) ?_
          refine g_f [] [] (AV.tuple [AV.str (ByteArray.mk #[]), AV.int .i64 (8 : Int)]) ([]) trivial ?_
          exact ⟨rfl, rfl⟩
      · have hn0 : ((n : Int) == 0) = false := by rw [beq_eq_false_iff_ne]; omega
        rw [if_neg hn]
        by_cases hlong : 8 < n ∨ 64 < p.size
        · rw [if_pos hlong]
          constructor
          · refine callsG_at Tryd.func10 (by kernel_rfl) ?_
            have e1' := hp
            have e2' := sv
            have e3' := L1
            have e4' := (show Reads [Blk.row 9 (flatA encS R)] [AV.sl 0 0 n 1, AV.str (ByteArray.mk #[(47 : UInt8)])] [AV.slv n 1 (flatA encS (List.take n R)), AV.str (ByteArray.mk #[(47 : UInt8)])] from (Reads.cons (Reads1.sl (t := 9) (xs := flatA encS R) (by kernel_rfl) (show ∀ (x : AV), x ∈ flatA encS R → noid0 x = true ∧ x ≠ AV.junk from encS_lend R) (show 0 + n * 1 ≤ (flatA encS R).length from (by omega)) tk) (Reads.cons (Reads1.val (by kernel_rfl)) Reads.nil)))
            have e5' := jv
            refine g_q [⟨3, [], .call (avOf e1') (blOf e1') []⟩, ⟨7, [], .call (avOf e2') (blOf e2') [true]⟩, ⟨10, [.sel [4, 11, 12, 13], .own 4 9 1, .keep [1, 0] [false, true]], .loop (exOf e3') (endOf e3')⟩, ⟨14, [], .br false .no⟩, ⟨16, [], .lend (rdOf e4') (avOf e5') (blOf e5') []⟩, ⟨22, [], .gd⟩, ⟨23, [], .gd⟩, ⟨24, [], .gd⟩, ⟨26, [], .br true .no⟩] [.sel [2, 3]] Exit.ret (stOf 57 [(2, AV.str (ByteArray.mk #[])), (3, AV.int .i64 (2 : Int))] [Blk.row 9 (flatA encS R)]) (And.intro e1' (And.intro (show ∀ (x : AV), x ∈ flatA encS (SP s) → plain0 x = true from encS_plain (SP s)) (And.intro e2' (And.intro (show ∀ (x : AV), x ∈ flatA encS (SP s) → noid0 x = true from encS_noid (SP s)) (And.intro e3' (And.intro (show ((↑n : Int) == (0 : Int)) = false from (by assumption)) (And.intro e4' (And.intro (show (novR (AV.str p) && [].all novB) = true from (by kernel_rfl)) (And.intro e5' (And.intro (show (decide ((↑n : Int) > (8 : Int)) == false) = true → (decide ((↑n : Int) > (8 : Int)) == false) = true from (fun h => h)) (And.intro (show (decide ((↑n : Int) > (8 : Int)) == false) = true → (decide ((↑n : Int) > (8 : Int)) == false) = true from (fun h => h)) (And.intro (show decide ((↑n : Int) > (8 : Int)) = false → (decide ((↑n : Int) > (8 : Int)) == false) = true from (by (simp; done))) (show (bif decide ((↑n : Int) > (8 : Int)) then true else decide ((↑p.size : Int) > (64 : Int))) = true from (by simp_all; omega)))))))))))))) ?_
            refine g_f [] [] (AV.tuple [AV.str (ByteArray.mk #[]), AV.int .i64 (2 : Int)]) ([]) trivial ?_
            exact ⟨rfl, rfl⟩
          · refine callsG_at Tryd.func11 (by kernel_rfl) ?_
            have e1' := rv
            have e2' := L2
            have e3' := (show Reads [Blk.row 9 (flatA encS R)] [AV.sl 0 0 n 1] [AV.slv n 1 (flatA encS (List.take n R))] from (Reads.cons (Reads1.sl (t := 9) (xs := flatA encS R) (by kernel_rfl) (show ∀ (x : AV), x ∈ flatA encS R → noid0 x = true ∧ x ≠ AV.junk from encS_lend R) (show 0 + n * 1 ≤ (flatA encS R).length from (by omega)) tk) Reads.nil))
            have e4' := jr
            refine g_q [⟨6, [], .gd⟩, ⟨7, [], .gd⟩, ⟨8, [], .gd⟩, ⟨10, [], .br false .no⟩, ⟨12, [], .call (avOf e1') (blOf e1') [true]⟩, ⟨16, [.sel [4, 5, 6], .own 5 9 1], .loop (exOf e2') (endOf e2')⟩, ⟨20, [], .br false .no⟩, ⟨22, [], .lend (rdOf e3') (avOf e4') (blOf e4') []⟩, ⟨28, [], .gd⟩, ⟨29, [], .gd⟩, ⟨30, [], .gd⟩, ⟨32, [], .br true .no⟩] [.sel [2, 3]] Exit.ret (stOf 78 [(2, AV.str (ByteArray.mk #[])), (3, AV.int .i64 (2 : Int))] [Blk.row 9 (flatA encS R)]) (And.intro (show (decide ((↑s.size : Int) > (0 : Int)) == true) = true → (decide ((↑s.size : Int) > (0 : Int)) == true) = true from (fun h => h)) (And.intro (show (decide ((↑s.size : Int) > (0 : Int)) == true) = true → (0 : Int) ≤ (0 : Int) ∧ (0 : Int) < (↑s.size : Int) from (by (simp; done))) (And.intro (show (decide ((↑s.size : Int) > (0 : Int)) == true) = true → (decide ((↑s.size : Int) > (0 : Int)) == true) = true from (fun h => h)) (And.intro (show decide ((↑s.size : Int) > (0 : Int)) = true → (decide ((↑s.size : Int) > (0 : Int)) == true) = true from (by (simp; done))) (And.intro (show (bif decide ((↑s.size : Int) > (0 : Int)) then byteAt s (0 : Int) == (47 : Int) else false) = false from (by simp_all; done)) (And.intro (show ∀ (x : AV), x ∈ flatA encS (SP s) → plain0 x = true from encS_plain (SP s)) (And.intro e1' (And.intro e2' (And.intro (show ((↑n : Int) == (0 : Int)) = false from (by assumption)) (And.intro e3' (And.intro (show (novR (AV.str p) && [].all novB) = true from (by kernel_rfl)) (And.intro e4' (And.intro (show (decide ((↑n : Int) > (8 : Int)) == false) = true → (decide ((↑n : Int) > (8 : Int)) == false) = true from (fun h => h)) (And.intro (show (decide ((↑n : Int) > (8 : Int)) == false) = true → (decide ((↑n : Int) > (8 : Int)) == false) = true from (fun h => h)) (And.intro (show decide ((↑n : Int) > (8 : Int)) = false → (decide ((↑n : Int) > (8 : Int)) == false) = true from (by (simp; done))) (show (bif decide ((↑n : Int) > (8 : Int)) then true else decide ((↑p.size : Int) > (64 : Int))) = true from (by simp_all; omega))))))))))))))))) ?_
            refine g_f [] [] (AV.tuple [AV.str (ByteArray.mk #[]), AV.int .i64 (2 : Int)]) ([]) trivial ?_
            exact ⟨rfl, rfl⟩
        · rw [if_neg hlong]
          constructor
          · refine callsG_at Tryd.func10 (by kernel_rfl) ?_
            have e1' := hp
            have e2' := sv
            have e3' := L1
            have e4' := (show Reads [Blk.row 9 (flatA encS R)] [AV.sl 0 0 n 1, AV.str (ByteArray.mk #[(47 : UInt8)])] [AV.slv n 1 (flatA encS (List.take n R)), AV.str (ByteArray.mk #[(47 : UInt8)])] from (Reads.cons (Reads1.sl (t := 9) (xs := flatA encS R) (by kernel_rfl) (show ∀ (x : AV), x ∈ flatA encS R → noid0 x = true ∧ x ≠ AV.junk from encS_lend R) (show 0 + n * 1 ≤ (flatA encS R).length from (by omega)) tk) (Reads.cons (Reads1.val (by kernel_rfl)) Reads.nil)))
            have e5' := jv
            refine g_q [⟨3, [], .call (avOf e1') (blOf e1') []⟩, ⟨7, [], .call (avOf e2') (blOf e2') [true]⟩, ⟨10, [.sel [4, 11, 12, 13], .own 4 9 1, .keep [1, 0] [false, true]], .loop (exOf e3') (endOf e3')⟩, ⟨14, [], .br false .no⟩, ⟨16, [], .lend (rdOf e4') (avOf e5') (blOf e5') []⟩, ⟨22, [.tm 51 (.bool false)], .no⟩, ⟨26, [], .br false .no⟩] [.sel [2, 3]] Exit.ret (stOf 57 [(2, AV.str p), (3, AV.int .i64 (0 : Int))] [Blk.row 9 (flatA encS R)]) (And.intro e1' (And.intro (show ∀ (x : AV), x ∈ flatA encS (SP s) → plain0 x = true from encS_plain (SP s)) (And.intro e2' (And.intro (show ∀ (x : AV), x ∈ flatA encS (SP s) → noid0 x = true from encS_noid (SP s)) (And.intro e3' (And.intro (show ((↑n : Int) == (0 : Int)) = false from (by assumption)) (And.intro e4' (And.intro (show (novR (AV.str p) && [].all novB) = true from (by kernel_rfl)) (And.intro e5' (And.intro (congrArg AV.bool (show decide ((↑n : Int) > (8 : Int)) = false from (by rw [decide_eq_false_iff_not]; omega))) (show (bif false then true else decide ((↑p.size : Int) > (64 : Int))) = false from (by simp_all; omega)))))))))))) ?_
            refine g_f [] [] (AV.tuple [AV.str p, AV.int .i64 (0 : Int)]) ([]) trivial ?_
            exact ⟨rfl, rfl⟩
          · refine callsG_at Tryd.func11 (by kernel_rfl) ?_
            have e1' := rv
            have e2' := L2
            have e3' := (show Reads [Blk.row 9 (flatA encS R)] [AV.sl 0 0 n 1] [AV.slv n 1 (flatA encS (List.take n R))] from (Reads.cons (Reads1.sl (t := 9) (xs := flatA encS R) (by kernel_rfl) (show ∀ (x : AV), x ∈ flatA encS R → noid0 x = true ∧ x ≠ AV.junk from encS_lend R) (show 0 + n * 1 ≤ (flatA encS R).length from (by omega)) tk) Reads.nil))
            have e4' := jr
            refine g_q [⟨6, [], .gd⟩, ⟨7, [], .gd⟩, ⟨8, [], .gd⟩, ⟨10, [], .br false .no⟩, ⟨12, [], .call (avOf e1') (blOf e1') [true]⟩, ⟨16, [.sel [4, 5, 6], .own 5 9 1], .loop (exOf e2') (endOf e2')⟩, ⟨20, [], .br false .no⟩, ⟨22, [], .lend (rdOf e3') (avOf e4') (blOf e4') []⟩, ⟨28, [.tm 72 (.bool false)], .no⟩, ⟨32, [], .br false .no⟩] [.sel [2, 3]] Exit.ret (stOf 78 [(2, AV.str p), (3, AV.int .i64 (0 : Int))] [Blk.row 9 (flatA encS R)]) (And.intro (show (decide ((↑s.size : Int) > (0 : Int)) == true) = true → (decide ((↑s.size : Int) > (0 : Int)) == true) = true from (fun h => h)) (And.intro (show (decide ((↑s.size : Int) > (0 : Int)) == true) = true → (0 : Int) ≤ (0 : Int) ∧ (0 : Int) < (↑s.size : Int) from (by (simp; done))) (And.intro (show (decide ((↑s.size : Int) > (0 : Int)) == true) = true → (decide ((↑s.size : Int) > (0 : Int)) == true) = true from (fun h => h)) (And.intro (show decide ((↑s.size : Int) > (0 : Int)) = true → (decide ((↑s.size : Int) > (0 : Int)) == true) = true from (by (simp; done))) (And.intro (show (bif decide ((↑s.size : Int) > (0 : Int)) then byteAt s (0 : Int) == (47 : Int) else false) = false from (by simp_all; done)) (And.intro (show ∀ (x : AV), x ∈ flatA encS (SP s) → plain0 x = true from encS_plain (SP s)) (And.intro e1' (And.intro e2' (And.intro (show ((↑n : Int) == (0 : Int)) = false from (by assumption)) (And.intro e3' (And.intro (show (novR (AV.str p) && [].all novB) = true from (by kernel_rfl)) (And.intro e4' (And.intro (congrArg AV.bool (show decide ((↑n : Int) > (8 : Int)) = false from (by rw [decide_eq_false_iff_not]; omega))) (show (bif false then true else decide ((↑p.size : Int) > (64 : Int))) = false from (by simp_all; omega))))))))))))))) ?_
            refine g_f [] [] (AV.tuple [AV.str p, AV.int .i64 (0 : Int)]) ([]) trivial ?_
            exact ⟨rfl, rfl⟩
    · obtain ⟨L1, L2⟩ := nzL_F s hs m h2 q h3 h4 h5
      rw [h1]
      unfold nzS at L1
      unfold rzS at L2
      rw [show flatA encS ([] : List ByteArray) = [] from rfl] at L1 L2
      constructor
      · refine callsG_at Tryd.func10 (by kernel_rfl) ?_
        have e1' := hp
        have e2' := sv
        have e3' := L1
        refine g_q [⟨3, [], .call (avOf e1') (blOf e1') []⟩, ⟨7, [], .call (avOf e2') (blOf e2') [true]⟩, ⟨10, [.sel [4, 11, 12, 13], .own 4 9 1, .keep [1, 0] [false, true]], .loop (exOf e3') (endOf e3')⟩] [] Exit.ret (stOf 57 [(2, AV.str bE), (3, AV.int .i64 (8 : Int))] []) (And.intro e1' (And.intro (show ∀ (x : AV), x ∈ flatA encS (SP s) → plain0 x = true from encS_plain (SP s)) (And.intro e2' (And.intro (show ∀ (x : AV), x ∈ flatA encS (SP s) → noid0 x = true from encS_noid (SP s)) e3')))) ?_
        refine g_f [] [] (AV.tuple [AV.str bE, AV.int .i64 (8 : Int)]) ([]) trivial ?_
        exact ⟨rfl, rfl⟩
      · refine callsG_at Tryd.func11 (by kernel_rfl) ?_
        have e1' := rv
        have e2' := L2
        refine g_q [⟨6, [], .gd⟩, ⟨7, [], .gd⟩, ⟨8, [], .gd⟩, ⟨10, [], .br false .no⟩, ⟨12, [], .call (avOf e1') (blOf e1') [true]⟩, ⟨16, [.sel [4, 5, 6], .own 5 9 1], .loop (exOf e2') (endOf e2')⟩] [] Exit.ret (stOf 78 [(2, AV.str bE), (3, AV.int .i64 (8 : Int))] []) (And.intro (show (decide ((↑s.size : Int) > (0 : Int)) == true) = true → (decide ((↑s.size : Int) > (0 : Int)) == true) = true from (fun h => h)) (And.intro (show (decide ((↑s.size : Int) > (0 : Int)) == true) = true → (0 : Int) ≤ (0 : Int) ∧ (0 : Int) < (↑s.size : Int) from (by (simp; done))) (And.intro (show (decide ((↑s.size : Int) > (0 : Int)) == true) = true → (decide ((↑s.size : Int) > (0 : Int)) == true) = true from (fun h => h)) (And.intro (show decide ((↑s.size : Int) > (0 : Int)) = true → (decide ((↑s.size : Int) > (0 : Int)) == true) = true from (by (simp; done))) (And.intro (show (bif decide ((↑s.size : Int) > (0 : Int)) then byteAt s (0 : Int) == (47 : Int) else false) = false from (by simp_all; done)) (And.intro (show ∀ (x : AV), x ∈ flatA encS (SP s) → plain0 x = true from encS_plain (SP s)) (And.intro e1' e2'))))))) ?_
        refine g_f [] [] (AV.tuple [AV.str bE, AV.int .i64 (8 : Int)]) ([]) trivial ?_
        exact ⟨rfl, rfl⟩
end Go.Proofs.YtaljnmmnmnoinaaDoor
