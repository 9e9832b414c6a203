/-
  Paths: Normalize.
-/
import Derived.Test.YtaljnmmnmnoinaaDoorP3
namespace Go.Proofs.YtaljnmmnmnoinaaDoor
open Go Go.RowKit V
set_option linter.unusedSimpArgs false
set_option linter.unusedVariables false
set_option maxHeartbeats 20000000
theorem split_v (s : ByteArray) (hs : s.size ≤ 1000000) : CallsV Tryd.prog 23 [.str s, .str slB] [] (fun av H' => av = .sl 0 0 (SP s).length 1 ∧ H' = [.row 9 (flatA encS (SP s))]) := by
  refine callsG_at Tryd.func23 (by kernel_rfl) ?_
  have hg := genSplit_v s hs
  have hge := encS_ge (SP s)
  have e1' := hg
  refine g_q [⟨3, [], .call (avOf e1') (blOf e1') [true]⟩] [.sel [4]] Exit.ret (stOf 8 [(4, AV.sl 0 0 (SP s).length 1)] [Blk.row 9 (flatA encS (SP s))]) (And.intro (show ∀ (x : AV), x ∈ flatA encS (SP s) → plain0 x = true from encS_plain (SP s)) e1') ?_
  refine g_f [0] [true] (AV.sl 0 0 (SP s).length 1) ([Blk.row 9 (flatA encS (SP s))]) (show ∀ (x : AV), x ∈ flatA encS (SP s) → noid0 x = true from encS_noid (SP s)) ?_
  exact ⟨rfl, rfl⟩
/-- a part -/
def isE (s : ByteArray) : Bool := s.toList == bE.toList
def isD (s : ByteArray) : Bool := s.toList == dB.toList
def isDD (s : ByteArray) : Bool := s.toList == ddB.toList
abbrev NS := List ByteArray × Nat
def nz (q : NS) (x : ByteArray) : Option NS :=
  if isE x = true ∨ isD x = true then some q
  else if isDD x = true then (if q.2 = 0 then none else some (q.1, q.2 - 1))
  else if elF x = true then some (q.1.take q.2 ++ [x], q.2 + 1) else none
def nzN (l : List ByteArray) : Nat → Option NS
  | 0 => some ([], 0)
  | k + 1 => (nzN l k).bind fun q => nz q (l.getD k bE)
theorem nz_le {q q' : NS} {x : ByteArray} (h : nz q x = some q') (hq : q.2 ≤ q.1.length) : q'.2 ≤ q'.1.length ∧ q'.2 ≤ q.2 + 1 := by
  unfold nz at h
  split at h
  · cases h; exact ⟨hq, by omega⟩
  · split at h
    · split at h
      · cases h
      · cases h; exact ⟨by simp; omega, by simp; omega⟩
    · split at h
      · cases h; exact ⟨by simp; omega, by simp⟩
      · cases h
theorem nzN_le (l : List ByteArray) : ∀ k q, nzN l k = some q → q.2 ≤ q.1.length ∧ q.2 ≤ k
  | 0, q, h => by cases h; simp
  | k + 1, q, h => by
    unfold nzN at h
    cases hk : nzN l k with
    | none => rw [hk] at h; cases h
    | some q0 =>
      rw [hk] at h
      obtain ⟨h1, h2⟩ := nzN_le l k q0 hk
      obtain ⟨h3, h4⟩ := nz_le h h1
      exact ⟨h3, by omega⟩
theorem nzN_or (l : List ByteArray) (n : Nat) : (∃ q, nzN l n = some q ∧ ∀ k, k ≤ n → ∃ q, nzN l k = some q) ∨ (nzN l n = none ∧ ∃ m q, m < n ∧ nzN l m = some q ∧ (∀ k, k ≤ m → ∃ q, nzN l k = some q) ∧ nz q (l.getD m bE) = none) := by
  induction n with
  | zero => exact Or.inl ⟨_, rfl, fun k hk => ⟨([], 0), by rw [show k = 0 from Nat.le_zero.1 hk]; rfl⟩⟩
  | succ n ih =>
    rcases ih with ⟨q, h1, h2⟩ | ⟨h1, m, q, h2, h3, h4, h5⟩
    · have e : nzN l (n + 1) = nz q (l.getD n bE) := by rw [nzN, h1]; rfl
      cases hn : nz q (l.getD n bE) with
      | some q' => exact Or.inl ⟨q', by rw [e, hn], fun k hk => by
          rcases Nat.le_succ_iff.1 hk with h | rfl
          · exact h2 k h
          · exact ⟨q', by rw [e, hn]⟩⟩
      | none => exact Or.inr ⟨by rw [e, hn], n, q, by omega, h1, h2, hn⟩
    · exact Or.inr ⟨by rw [nzN, h1]; rfl, m, q, by omega, h3, h4, h5⟩
def nzS (l : List ByteArray) (q : NS) (k : Nat) : St := stOf 57 [(4, .sl 0 0 q.2 1), (11, .sl 1 0 l.length 1), (12, .int .i64 (l.length : Int)), (13, .int .i64 (k : Int))] [.row 9 (flatA encS q.1), .row 9 (flatA encS l)]
def rzS (l : List ByteArray) (q : NS) (k : Nat) : St := stOf 78 [(4, .sl 0 0 l.length 1), (5, .sl 1 0 q.2 1), (6, .int .i64 (k : Int))] [.row 9 (flatA encS l), .row 9 (flatA encS q.1)]
theorem nz_round (l : List ByteArray) (hl : l.length ≤ 1000000) (hsz : ∀ x ∈ l, x.size ≤ 1000000) (k : Nat) (hk : k < l.length) (q q' : NS) (hq : q.2 ≤ q.1.length ∧ q.2 ≤ k) (h : nz q (l.getD k bE) = some q') :
    GoV Tryd.prog 0 (loopB Tryd.f10 0) (isX .normal (nzS l q' (k + 1))) (nzS l q k) ∧ GoV Tryd.prog 0 (loopB Tryd.f11 0) (isX .normal (rzS l q' (k + 1))) (rzS l q k) := by
  have at1 := encS_at0 l k hk
  have hx := hsz _ (getD_mem' hk bE)
  obtain ⟨R, n⟩ := q
  simp only at hq
  have hge : n * 1 ≤ (flatA encS R).length := by rw [encS_len]; omega
  unfold nz isE isD isDD at h
  generalize l.getD k bE = x at at1 hx h
  have ev := isEl_v x hx
  have hgk := encS_gk l k hk
  by_cases h1 : (x.toList == bE.toList) = true ∨ (x.toList == dB.toList) = true
  · rw [if_pos h1] at h
    cases h
    unfold nzS rzS
    cases h2 : (x.toList == bE.toList) with
    | true =>
      constructor
      · have e1' := (drop_hd0 (v := AV.str x) at1 rfl)
        have e2' := (congrArg (fun z => AV.int .i64 z) (wrap_i64 (e := (↑k : Int) + (1 : Int)) (by omega) (by omega)))
        exact g_x [⟨1, [], .br true .no⟩, ⟨3, [], .as (rhsOf e1')⟩, ⟨8, [.tm 20 (.bool true)], .no⟩, ⟨13, [], .as (rhsOf e2')⟩] [.sel [4, 11, 12, 13]] (And.intro (show decide ((↑k : Int) < (↑l.length : Int)) = true from (by rw [decide_eq_true_iff]; omega)) (And.intro (show (0 : Int) ≤ (↑k : Int) ∧ (↑k : Int) < (↑l.length : Int) from (by omega)) (And.intro (show 1 ≤ (List.drop (0 + (↑k : Int).toNat * 1) (flatA encS l)).length from (drop_le0 (n := 1) at1 (by simp))) (And.intro e1' (And.intro (congrArg AV.bool h2) (And.intro (show true = false → false = true from (by decide)) e2'))))))
      · have e1' := (drop_hd0 (v := AV.str x) at1 rfl)
        have e2' := (congrArg (fun z => AV.int .i64 z) (wrap_i64 (e := (↑k : Int) + (1 : Int)) (by omega) (by omega)))
        exact g_x [⟨4, [], .br true .no⟩, ⟨8, [], .as (rhsOf e1')⟩, ⟨11, [.tm 30 (.bool true)], .no⟩, ⟨20, [], .as (rhsOf e2')⟩] [.sel [4, 5, 6]] (And.intro (show decide ((↑k : Int) < (↑l.length : Int)) = true from (by rw [decide_eq_true_iff]; omega)) (And.intro (show (0 : Int) ≤ (↑k : Int) ∧ (↑k : Int) < (↑l.length : Int) from (by omega)) (And.intro (show 1 ≤ (List.drop (0 + (↑k : Int).toNat * 1) (flatA encS l)).length from (drop_le0 (n := 1) at1 (by simp))) (And.intro e1' (And.intro (congrArg AV.bool h2) (And.intro (show true = false → false = true from (by decide)) e2'))))))
    | false =>
      have h3 : (x.toList == dB.toList) = true := by rcases h1 with h1 | h1; · rw [h2] at h1; cases h1
                                                     · exact h1
      constructor
      · have e1' := (drop_hd0 (v := AV.str x) at1 rfl)
        have e2' := (congrArg (fun z => AV.int .i64 z) (wrap_i64 (e := (↑k : Int) + (1 : Int)) (by omega) (by omega)))
        exact g_x [⟨1, [], .br true .no⟩, ⟨3, [], .as (rhsOf e1')⟩, ⟨8, [.tm 20 (.bool false)], .no⟩, ⟨12, [], .br true .no⟩, ⟨13, [], .as (rhsOf e2')⟩] [.sel [4, 11, 12, 13]] (And.intro (show decide ((↑k : Int) < (↑l.length : Int)) = true from (by rw [decide_eq_true_iff]; omega)) (And.intro (show (0 : Int) ≤ (↑k : Int) ∧ (↑k : Int) < (↑l.length : Int) from (by omega)) (And.intro (show 1 ≤ (List.drop (0 + (↑k : Int).toNat * 1) (flatA encS l)).length from (drop_le0 (n := 1) at1 (by simp))) (And.intro e1' (And.intro (congrArg AV.bool h2) (And.intro (congrArg (fun z => bif false then true else z) h3) e2'))))))
      · have e1' := (drop_hd0 (v := AV.str x) at1 rfl)
        have e2' := (congrArg (fun z => AV.int .i64 z) (wrap_i64 (e := (↑k : Int) + (1 : Int)) (by omega) (by omega)))
        exact g_x [⟨4, [], .br true .no⟩, ⟨8, [], .as (rhsOf e1')⟩, ⟨11, [.tm 30 (.bool false)], .no⟩, ⟨14, [], .as (rhsOf e1')⟩, ⟨18, [], .br true .no⟩, ⟨20, [], .as (rhsOf e2')⟩] [.sel [4, 5, 6]] (And.intro (show decide ((↑k : Int) < (↑l.length : Int)) = true from (by rw [decide_eq_true_iff]; omega)) (And.intro (show (0 : Int) ≤ (↑k : Int) ∧ (↑k : Int) < (↑l.length : Int) from (by omega)) (And.intro (show 1 ≤ (List.drop (0 + (↑k : Int).toNat * 1) (flatA encS l)).length from (drop_le0 (n := 1) at1 (by simp))) (And.intro e1' (And.intro (congrArg AV.bool h2) (And.intro (show (0 : Int) ≤ (↑k : Int) ∧ (↑k : Int) < (↑l.length : Int) from (by omega)) (And.intro (show 1 ≤ (List.drop (0 + (↑k : Int).toNat * 1) (flatA encS l)).length from (drop_le0 (n := 1) at1 (by simp))) (And.intro e1' (And.intro (congrArg (fun z => bif false then true else z) h3) e2')))))))))
  · rw [if_neg h1] at h
    have h2 : (x.toList == bE.toList) = false := by cases hh : (x.toList == bE.toList) <;> simp_all
    have h3 : (x.toList == dB.toList) = false := by cases hh : (x.toList == dB.toList) <;> simp_all
    clear h1
    cases h4 : (x.toList == ddB.toList) with
    | true =>
      rw [if_pos h4] at h
      by_cases h5 : n = 0
      · rw [if_pos h5] at h; cases h
      · rw [if_neg h5] at h
        cases h
        have hb : 0 ≤ (0 : Int) ∧ (0 : Int) ≤ (n : Int) - 1 ∧ (n : Int) - 1 ≤ (n : Int) := by omega
        have e1 : ((n : Int) - 1).toNat = n - 1 := by omega
        have hn0 : ((n : Int) == 0) = false := by rw [beq_eq_false_iff_ne]; omega
        unfold nzS rzS
        constructor
        · have e1' := (drop_hd0 (v := AV.str x) at1 rfl)
          have e2' := (congrArg (fun z => AV.int .i64 z) (wrap_i64 (e := (↑(R, n).snd : Int) - (1 : Int)) (by omega) (by omega)))
          have e3' := (congrArg (fun z => AV.sl 0 0 (z - Int.toNat (0 : Int)) 1) e1)
          have e4' := (congrArg (fun z => AV.int .i64 z) (wrap_i64 (e := (↑k : Int) + (1 : Int)) (by omega) (by omega)))
          exact g_x [⟨1, [], .br true .no⟩, ⟨3, [], .as (rhsOf e1')⟩, ⟨8, [.tm 20 (.bool false)], .no⟩, ⟨12, [], .br false .no⟩, ⟨16, [], .br true .no⟩, ⟨20, [], .br false .no⟩, ⟨24, [], .as (rhsOf e2')⟩, ⟨25, [], .as (rhsOf e3')⟩, ⟨27, [], .as (rhsOf e4')⟩] [.sel [4, 11, 12, 13]] (And.intro (show decide ((↑k : Int) < (↑l.length : Int)) = true from (by rw [decide_eq_true_iff]; omega)) (And.intro (show (0 : Int) ≤ (↑k : Int) ∧ (↑k : Int) < (↑l.length : Int) from (by omega)) (And.intro (show 1 ≤ (List.drop (0 + (↑k : Int).toNat * 1) (flatA encS l)).length from (drop_le0 (n := 1) at1 (by simp))) (And.intro e1' (And.intro (congrArg AV.bool h2) (And.intro (congrArg (fun z => bif false then true else z) h3) (And.intro (show (x.toList == (ByteArray.mk #[(46 : UInt8), (46 : UInt8)]).toList) = true from (by assumption)) (And.intro (show ((↑(R, n).snd : Int) == (0 : Int)) = false from (by assumption)) (And.intro e2' (And.intro (show (0 : Int) ≤ (0 : Int) ∧ (0 : Int) ≤ (↑(R, n).snd : Int) - (1 : Int) ∧ (↑(R, n).snd : Int) - (1 : Int) ≤ (↑(R, n).snd : Int) from (by omega)) (And.intro e3' e4')))))))))))
        · have e1' := (drop_hd0 (v := AV.str x) at1 rfl)
          have e2' := (congrArg (fun z => AV.int .i64 z) (wrap_i64 (e := (↑(R, n).snd : Int) - (1 : Int)) (by omega) (by omega)))
          have e3' := (congrArg (fun z => AV.sl 1 0 (z - Int.toNat (0 : Int)) 1) e1)
          have e4' := (congrArg (fun z => AV.int .i64 z) (wrap_i64 (e := (↑k : Int) + (1 : Int)) (by omega) (by omega)))
          exact g_x [⟨4, [], .br true .no⟩, ⟨8, [], .as (rhsOf e1')⟩, ⟨11, [.tm 30 (.bool false)], .no⟩, ⟨14, [], .as (rhsOf e1')⟩, ⟨18, [], .br false .no⟩, ⟨22, [], .as (rhsOf e1')⟩, ⟨25, [], .br true .no⟩, ⟨29, [], .br false .no⟩, ⟨33, [], .as (rhsOf e2')⟩, ⟨34, [], .as (rhsOf e3')⟩, ⟨37, [], .as (rhsOf e4')⟩] [.sel [4, 5, 6]] (And.intro (show decide ((↑k : Int) < (↑l.length : Int)) = true from (by rw [decide_eq_true_iff]; omega)) (And.intro (show (0 : Int) ≤ (↑k : Int) ∧ (↑k : Int) < (↑l.length : Int) from (by omega)) (And.intro (show 1 ≤ (List.drop (0 + (↑k : Int).toNat * 1) (flatA encS l)).length from (drop_le0 (n := 1) at1 (by simp))) (And.intro e1' (And.intro (congrArg AV.bool h2) (And.intro (show (0 : Int) ≤ (↑k : Int) ∧ (↑k : Int) < (↑l.length : Int) from (by omega)) (And.intro (show 1 ≤ (List.drop (0 + (↑k : Int).toNat * 1) (flatA encS l)).length from (drop_le0 (n := 1) at1 (by simp))) (And.intro e1' (And.intro (congrArg (fun z => bif false then true else z) h3) (And.intro (show (0 : Int) ≤ (↑k : Int) ∧ (↑k : Int) < (↑l.length : Int) from (by omega)) (And.intro (show 1 ≤ (List.drop (0 + (↑k : Int).toNat * 1) (flatA encS l)).length from (drop_le0 (n := 1) at1 (by simp))) (And.intro e1' (And.intro (show (x.toList == (ByteArray.mk #[(46 : UInt8), (46 : UInt8)]).toList) = true from (by assumption)) (And.intro (show ((↑(R, n).snd : Int) == (0 : Int)) = false from (by assumption)) (And.intro e2' (And.intro (show (0 : Int) ≤ (0 : Int) ∧ (0 : Int) ≤ (↑(R, n).snd : Int) - (1 : Int) ∧ (↑(R, n).snd : Int) - (1 : Int) ≤ (↑(R, n).snd : Int) from (by omega)) (And.intro e3' e4')))))))))))))))))
    | false =>
      rw [if_neg (by rw [h4]; decide)] at h
      have rv := el_v x hx h3 h4
      cases h5 : elF x with
      | true =>
        rw [if_pos h5] at h
        cases h
        rw [h5] at ev rv
        have sn : List.take (n * 1) (flatA encS R) ++ [AV.str x] = flatA encS (R.take n ++ [x]) := by
          rw [flatA_take encS_l, flatA_append]; rfl
        unfold nzS rzS
        constructor
        · have e1' := (drop_hd0 (v := AV.str x) at1 rfl)
          have e2' := ev
          have e3' := (congrArg (fun z => Blk.row 9 z) sn)
          have e4' := (congrArg (fun z => AV.int .i64 z) (wrap_i64 (e := (↑k : Int) + (1 : Int)) (by omega) (by omega)))
          exact g_x [⟨1, [], .br true .no⟩, ⟨3, [], .as (rhsOf e1')⟩, ⟨8, [.tm 20 (.bool false)], .no⟩, ⟨12, [], .br false .no⟩, ⟨16, [], .br false .no⟩, ⟨18, [], .call (avOf e2') (blOf e2') []⟩, ⟨25, [.hp 3 (rhsOf e3')], .no⟩, ⟨26, [], .as (rhsOf e4')⟩] [.sel [4, 11, 12, 13], .keep [3, 1] [true, true]] (And.intro (show decide ((↑k : Int) < (↑l.length : Int)) = true from (by rw [decide_eq_true_iff]; omega)) (And.intro (show (0 : Int) ≤ (↑k : Int) ∧ (↑k : Int) < (↑l.length : Int) from (by omega)) (And.intro (show 1 ≤ (List.drop (0 + (↑k : Int).toNat * 1) (flatA encS l)).length from (drop_le0 (n := 1) at1 (by simp))) (And.intro e1' (And.intro (congrArg AV.bool h2) (And.intro (congrArg (fun z => bif false then true else z) h3) (And.intro (show (x.toList == (ByteArray.mk #[(46 : UInt8), (46 : UInt8)]).toList) = false from (by assumption)) (And.intro e2' (And.intro (show (R, n).snd * 1 ≤ (flatA encS (R, n).fst).length from (by omega)) (And.intro (show 1 ≤ 1 from (by omega)) (And.intro (show ((R, n).snd + 1) * 16 ≤ 140737488355328 from (by omega)) (And.intro (show (R, n).snd + 1 ≤ maxLen from (by (unfold maxLen; omega))) (And.intro (congrArg some e3') (And.intro e4' (And.intro (show ∀ (x_1 : AV), x_1 ∈ flatA encS (List.take n R ++ [x]) → noid0 x_1 = true from encS_noid (R.take n ++ [x])) (show ∀ (x : AV), x ∈ flatA encS l → noid0 x = true from encS_noid l))))))))))))))))
        · have e1' := (drop_hd0 (v := AV.str x) at1 rfl)
          have e2' := rv
          have e3' := (congrArg (fun z => Blk.row 9 z) sn)
          have e4' := (congrArg (fun z => AV.int .i64 z) (wrap_i64 (e := (↑k : Int) + (1 : Int)) (by omega) (by omega)))
          exact g_x [⟨4, [], .br true .no⟩, ⟨8, [], .as (rhsOf e1')⟩, ⟨11, [.tm 30 (.bool false)], .no⟩, ⟨14, [], .as (rhsOf e1')⟩, ⟨18, [], .br false .no⟩, ⟨22, [], .as (rhsOf e1')⟩, ⟨25, [], .br false .no⟩, ⟨29, [], .as (rhsOf e1')⟩, ⟨30, [], .call (avOf e2') (blOf e2') []⟩, ⟨37, [], .as (rhsOf e1')⟩, ⟨40, [.hp 3 (rhsOf e3')], .no⟩, ⟨42, [], .as (rhsOf e4')⟩] [.sel [4, 5, 6], .keep [0, 3] [true, true]] (And.intro (show decide ((↑k : Int) < (↑l.length : Int)) = true from (by rw [decide_eq_true_iff]; omega)) (And.intro (show (0 : Int) ≤ (↑k : Int) ∧ (↑k : Int) < (↑l.length : Int) from (by omega)) (And.intro (show 1 ≤ (List.drop (0 + (↑k : Int).toNat * 1) (flatA encS l)).length from (drop_le0 (n := 1) at1 (by simp))) (And.intro e1' (And.intro (congrArg AV.bool h2) (And.intro (show (0 : Int) ≤ (↑k : Int) ∧ (↑k : Int) < (↑l.length : Int) from (by omega)) (And.intro (show 1 ≤ (List.drop (0 + (↑k : Int).toNat * 1) (flatA encS l)).length from (drop_le0 (n := 1) at1 (by simp))) (And.intro e1' (And.intro (congrArg (fun z => bif false then true else z) h3) (And.intro (show (0 : Int) ≤ (↑k : Int) ∧ (↑k : Int) < (↑l.length : Int) from (by omega)) (And.intro (show 1 ≤ (List.drop (0 + (↑k : Int).toNat * 1) (flatA encS l)).length from (drop_le0 (n := 1) at1 (by simp))) (And.intro e1' (And.intro (show (x.toList == (ByteArray.mk #[(46 : UInt8), (46 : UInt8)]).toList) = false from (by assumption)) (And.intro (show (0 : Int) ≤ (↑k : Int) ∧ (↑k : Int) < (↑l.length : Int) from (by omega)) (And.intro (show 1 ≤ (List.drop (0 + (↑k : Int).toNat * 1) (flatA encS l)).length from (drop_le0 (n := 1) at1 (by simp))) (And.intro e1' (And.intro e2' (And.intro (show (0 : Int) ≤ (↑k : Int) ∧ (↑k : Int) < (↑l.length : Int) from (by omega)) (And.intro (show 1 ≤ (List.drop (0 + (↑k : Int).toNat * 1) (flatA encS l)).length from (drop_le0 (n := 1) at1 (by simp))) (And.intro e1' (And.intro (show (R, n).snd * 1 ≤ (flatA encS (R, n).fst).length from (by omega)) (And.intro (show 1 ≤ 1 from (by omega)) (And.intro (show ((R, n).snd + 1) * 16 ≤ 140737488355328 from (by omega)) (And.intro (show (R, n).snd + 1 ≤ maxLen from (by (unfold maxLen; omega))) (And.intro (congrArg some e3') (And.intro e4' (And.intro (show ∀ (x : AV), x ∈ flatA encS l → noid0 x = true from encS_noid l) (show ∀ (x_1 : AV), x_1 ∈ flatA encS (List.take n R ++ [x]) → noid0 x_1 = true from encS_noid (R.take n ++ [x])))))))))))))))))))))))))))))
      | false =>
        rw [if_neg (by rw [h5]; decide)] at h
        cases h
end Go.Proofs.YtaljnmmnmnoinaaDoor
