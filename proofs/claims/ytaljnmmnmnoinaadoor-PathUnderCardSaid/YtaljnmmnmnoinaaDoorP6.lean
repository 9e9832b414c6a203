/-
  Paths: Valid, Dir, Base, Join, Under.
-/
import Derived.Test.YtaljnmmnmnoinaaDoorP5
namespace Go.Proofs.YtaljnmmnmnoinaaDoor
open Go Go.RowKit V
set_option linter.unusedSimpArgs false
set_option linter.unusedVariables false
set_option maxHeartbeats 20000000
def vaF (s : ByteArray) : Bool := bif (NZ s).2 == 0 then (NZ s).1.toList == s.toList else false
theorem valid_v (s : ByteArray) (hs : s.size ≤ 30000) : CallsV Tryd.prog 12 [.str s] [] (fun av H' => av = .bool (vaF s) ∧ H' = []) ∧ CallsV Tryd.prog 13 [.str s] [] (fun av H' => av = .bool (vaF s) ∧ H' = []) := by
  obtain ⟨c1, c2⟩ := norm_v s hs
  unfold vaF
  constructor
  · refine callsG_at Tryd.func12 (by kernel_rfl) ?_
    have e1' := c1
    refine g_q [⟨2, [], .call (avOf e1') (blOf e1') []⟩, ⟨11, [], .gd⟩, ⟨12, [], .gd⟩, ⟨13, [], .gd⟩] [.sel [2]] Exit.ret (stOf 17 [(2, AV.bool (bif (NZ s).snd == (0 : Int) then (NZ s).fst.toList == s.toList else false))] []) (And.intro e1' (And.intro (show (((NZ s).snd == (0 : Int)) == true) = true → (((NZ s).snd == (0 : Int)) == true) = true from (fun h => h)) (And.intro (show (((NZ s).snd == (0 : Int)) == true) = true → (((NZ s).snd == (0 : Int)) == true) = true from (fun h => h)) (show ((NZ s).snd == (0 : Int)) = true → (((NZ s).snd == (0 : Int)) == true) = true from (by (simp; done)))))) ?_
    refine g_f [] [] (AV.bool (bif (NZ s).snd == (0 : Int) then (NZ s).fst.toList == s.toList else false)) ([]) trivial ?_
    exact ⟨rfl, rfl⟩
  · refine callsG_at Tryd.func13 (by kernel_rfl) ?_
    have e1' := c2
    refine g_q [⟨2, [], .call (avOf e1') (blOf e1') []⟩, ⟨11, [], .gd⟩, ⟨12, [], .gd⟩, ⟨13, [], .gd⟩] [.sel [2]] Exit.ret (stOf 17 [(2, AV.bool (bif (NZ s).snd == (0 : Int) then (NZ s).fst.toList == s.toList else false))] []) (And.intro e1' (And.intro (show (((NZ s).snd == (0 : Int)) == true) = true → (((NZ s).snd == (0 : Int)) == true) = true from (fun h => h)) (And.intro (show (((NZ s).snd == (0 : Int)) == true) = true → (((NZ s).snd == (0 : Int)) == true) = true from (fun h => h)) (show ((NZ s).snd == (0 : Int)) = true → (((NZ s).snd == (0 : Int)) == true) = true from (by (simp; done)))))) ?_
    refine g_f [] [] (AV.bool (bif (NZ s).snd == (0 : Int) then (NZ s).fst.toList == s.toList else false)) ([]) trivial ?_
    exact ⟨rfl, rfl⟩
def dirF (s : ByteArray) : ByteArray := s.extract (Int.toNat 0) (if 0 > slF s s.size then 0 else slF s s.size).toNat
def baseF (s : ByteArray) : ByteArray := s.extract (slF s s.size + 1).toNat (s.size : Int).toNat
theorem dir_v (s : ByteArray) (hs : s.size ≤ 1000000) : CallsV Tryd.prog 14 [.str s] [] (fun av H' => av = .str (dirF s) ∧ H' = []) ∧ CallsV Tryd.prog 15 [.str s] [] (fun av H' => av = .str (dirF s) ∧ H' = []) := by
  have l1 := lastIndex_v s hs
  have l2 := slash_v s hs
  obtain ⟨h1, h2⟩ := slF_lt s s.size
  unfold dirF
  constructor
  · refine callsG_at Tryd.func14 (by kernel_rfl) ?_
    have e1' := l1
    refine g_q [⟨3, [], .call (avOf e1') (blOf e1') []⟩] [.sel [2]] Exit.ret (stOf 8 [(2, AV.str (s.extract (Int.toNat (0 : Int)) (if (0 : Int) > slF s s.size then (0 : Int) else slF s s.size).toNat))] []) (And.intro e1' (show (0 : Int) ≤ (0 : Int) ∧ ((0 : Int) ≤ if (0 : Int) > slF s s.size then (0 : Int) else slF s s.size) ∧ (if (0 : Int) > slF s s.size then (0 : Int) else slF s s.size) ≤ (↑s.size : Int) from (by omega))) ?_
    refine g_f [] [] (AV.str (s.extract (Int.toNat (0 : Int)) (if (0 : Int) > slF s s.size then (0 : Int) else slF s s.size).toNat)) ([]) trivial ?_
    exact ⟨rfl, rfl⟩
  · refine callsG_at Tryd.func15 (by kernel_rfl) ?_
    have e1' := l2
    refine g_q [⟨3, [], .call (avOf e1') (blOf e1') []⟩] [.sel [2]] Exit.ret (stOf 8 [(2, AV.str (s.extract (Int.toNat (0 : Int)) (if (0 : Int) > slF s s.size then (0 : Int) else slF s s.size).toNat))] []) (And.intro e1' (show (0 : Int) ≤ (0 : Int) ∧ ((0 : Int) ≤ if (0 : Int) > slF s s.size then (0 : Int) else slF s s.size) ∧ (if (0 : Int) > slF s s.size then (0 : Int) else slF s s.size) ≤ (↑s.size : Int) from (by omega))) ?_
    refine g_f [] [] (AV.str (s.extract (Int.toNat (0 : Int)) (if (0 : Int) > slF s s.size then (0 : Int) else slF s s.size).toNat)) ([]) trivial ?_
    exact ⟨rfl, rfl⟩
theorem base_v (s : ByteArray) (hs : s.size ≤ 1000000) : CallsV Tryd.prog 16 [.str s] [] (fun av H' => av = .str (baseF s) ∧ H' = []) ∧ CallsV Tryd.prog 17 [.str s] [] (fun av H' => av = .str (baseF s) ∧ H' = []) := by
  have l1 := lastIndex_v s hs
  have l2 := slash_v s hs
  obtain ⟨h1, h2⟩ := slF_lt s s.size
  unfold baseF
  constructor
  · refine callsG_at Tryd.func16 (by kernel_rfl) ?_
    have e1' := l1
    have e2' := (congrArg (fun z => AV.int .i64 z) (wrap_i64 (e := slF s s.size + (1 : Int)) (by omega) (by omega)))
    refine g_q [⟨3, [], .call (avOf e1') (blOf e1') []⟩, ⟨4, [], .as (rhsOf e2')⟩] [.sel [2]] Exit.ret (stOf 8 [(2, AV.str (s.extract (slF s s.size + (1 : Int)).toNat (↑s.size : Int).toNat))] []) (And.intro e1' (And.intro e2' (show (0 : Int) ≤ slF s s.size + (1 : Int) ∧ slF s s.size + (1 : Int) ≤ (↑s.size : Int) ∧ (↑s.size : Int) ≤ (↑s.size : Int) from (by omega)))) ?_
    refine g_f [] [] (AV.str (s.extract (slF s s.size + (1 : Int)).toNat (↑s.size : Int).toNat)) ([]) trivial ?_
    exact ⟨rfl, rfl⟩
  · refine callsG_at Tryd.func17 (by kernel_rfl) ?_
    have e1' := l2
    have e2' := (congrArg (fun z => AV.int .i64 z) (wrap_i64 (e := slF s s.size + (1 : Int)) (by omega) (by omega)))
    refine g_q [⟨3, [], .call (avOf e1') (blOf e1') []⟩, ⟨4, [], .as (rhsOf e2')⟩] [.sel [2]] Exit.ret (stOf 8 [(2, AV.str (s.extract (slF s s.size + (1 : Int)).toNat (↑s.size : Int).toNat))] []) (And.intro e1' (And.intro e2' (show (0 : Int) ≤ slF s s.size + (1 : Int) ∧ slF s s.size + (1 : Int) ≤ (↑s.size : Int) ∧ (↑s.size : Int) ≤ (↑s.size : Int) from (by omega)))) ?_
    refine g_f [] [] (AV.str (s.extract (slF s s.size + (1 : Int)).toNat (↑s.size : Int).toNat)) ([]) trivial ?_
    exact ⟨rfl, rfl⟩
def joF (s t : ByteArray) : ByteArray := if (s.toList == bE.toList) = true then t else s ++ slB ++ t
theorem join2_v (s t : ByteArray) (hs : s.size ≤ 1000000) (ht : t.size ≤ 1000000) : CallsV Tryd.prog 18 [.str s, .str t] [] (fun av H' => av = .str (joF s t) ∧ H' = []) ∧ CallsV Tryd.prog 19 [.str s, .str t] [] (fun av H' => av = .str (joF s t) ∧ H' = []) := by
  unfold joF
  cases h : (s.toList == bE.toList) with
  | true =>
    rw [if_pos rfl]
    constructor
    · refine callsG_at Tryd.func18 (by kernel_rfl) ?_
      refine g_q [⟨3, [], .br true .no⟩] [.sel [4]] Exit.ret (stOf 12 [(4, AV.str t)] []) h ?_
      refine g_f [] [] (AV.str t) ([]) trivial ?_
      exact ⟨rfl, rfl⟩
    · refine callsG_at Tryd.func19 (by kernel_rfl) ?_
      refine g_q [⟨3, [], .br true .no⟩] [.sel [4]] Exit.ret (stOf 12 [(4, AV.str t)] []) h ?_
      refine g_f [] [] (AV.str t) ([]) trivial ?_
      exact ⟨rfl, rfl⟩
  | false =>
    rw [if_neg (by decide)]
    have h2 : (s ++ ByteArray.mk #[47]).size + t.size ≤ 9223372036854775807 := by
      rw [ByteArray.size_append, show (ByteArray.mk #[47]).size = 1 from rfl]; omega
    constructor
    · refine callsG_at Tryd.func18 (by kernel_rfl) ?_
      refine g_q [⟨3, [], .br false .no⟩] [.sel [4]] Exit.ret (stOf 12 [(4, AV.str (s ++ ByteArray.mk #[(47 : UInt8)] ++ t))] []) (And.intro h (And.intro (show s.size + 1 ≤ 9223372036854775807 from (by omega)) (show (s ++ ByteArray.mk #[(47 : UInt8)]).size + t.size ≤ 9223372036854775807 from (by omega)))) ?_
      refine g_f [] [] (AV.str (s ++ ByteArray.mk #[(47 : UInt8)] ++ t)) ([]) trivial ?_
      exact ⟨rfl, rfl⟩
    · refine callsG_at Tryd.func19 (by kernel_rfl) ?_
      refine g_q [⟨3, [], .br false .no⟩] [.sel [4]] Exit.ret (stOf 12 [(4, AV.str (s ++ ByteArray.mk #[(47 : UInt8)] ++ t))] []) (And.intro h (And.intro (show s.size + 1 ≤ 9223372036854775807 from (by omega)) (show (s ++ ByteArray.mk #[(47 : UInt8)]).size + t.size ≤ 9223372036854775807 from (by omega)))) ?_
      refine g_f [] [] (AV.str (s ++ ByteArray.mk #[(47 : UInt8)] ++ t)) ([]) trivial ?_
      exact ⟨rfl, rfl⟩
/-! lying under a directory -/
theorem hp_iff (s t : ByteArray) : hpF s t = true ↔ t.size ≤ s.size ∧ (bytes s).take t.size = bytes t := by
  unfold hpF
  rw [toList_bytes, toList_bytes, bytes_extract, List.drop_zero]
  by_cases h : t.size ≤ s.size
  · rw [decide_eq_true (by omega), cond_true]
    simp [h]
  · rw [decide_eq_false (by omega), cond_false]
    simp [h]
def unF (s t : ByteArray) : Bool := decide (t = bE) || (decide (s = t) || (decide (t.size < s.size) && (hpF s t && (byteAt s (t.size : Int) == 47))))
theorem size_zero {s : ByteArray} (h : s.size = 0) : s = bE := bytes_inj (List.eq_nil_of_length_eq_zero h)
theorem hp_self (s : ByteArray) : hpF s s = true := (hp_iff s s).2 ⟨Nat.le_refl _, List.take_of_length_le (Nat.le_of_eq (bytes_len s))⟩
theorem hp_nil (s : ByteArray) : hpF s bE = true := (hp_iff s bE).2 ⟨Nat.zero_le _, by rw [show bE.size = 0 from rfl, List.take_zero]; rfl⟩
theorem emp_iff (s : ByteArray) : (s.toList == bE.toList) = decide (s = bE) := str_eq s bE
theorem rest_zero {s t : ByteArray} (h : hpF s t = true) : ((s.extract t.size s.size).toList == bE.toList) = decide (s = t) := by
  obtain ⟨h1, h2⟩ := (hp_iff s t).1 h
  rw [emp_iff]
  have e : (s.extract t.size s.size = bE) ↔ s = t := by
    constructor
    · intro he
      have h3 : (s.extract t.size s.size).size = 0 := by rw [he]; rfl
      rw [ByteArray.size_extract] at h3
      have h4 : t.size = s.size := by omega
      apply bytes_inj
      rw [← h2, h4, List.take_of_length_le (Nat.le_of_eq (bytes_len s))]
    · rintro rfl
      exact size_zero (by rw [ByteArray.size_extract]; omega)
  by_cases hq : s = t
  · rw [decide_eq_true hq, decide_eq_true (e.2 hq)]
  · rw [decide_eq_false hq, decide_eq_false fun h => hq (e.1 h)]
theorem rest_at {s t : ByteArray} (h : t.size < s.size) : byteAt (s.extract t.size s.size) 0 = byteAt s (t.size : Int) := by
  unfold byteAt
  have e : (s.extract t.size s.size).data.toList = (bytes s).drop t.size := by
    have := bytes_extract s t.size s.size
    rw [List.take_of_length_le (Nat.le_of_eq (bytes_len s))] at this
    exact this
  have h1 : (s.extract t.size s.size).data.getD (Int.toNat 0) 0 = s.data.getD (t.size : Int).toNat 0 := by
    rw [Array.getD_eq_getD_getElem?, Array.getD_eq_getD_getElem?, ← Array.getElem?_toList, ← Array.getElem?_toList, e, List.getElem?_drop]
    rfl
  rw [h1]
theorem under_v (s t : ByteArray) (hs : s.size ≤ 1000000) (ht : t.size ≤ 1000000) : CallsV Tryd.prog 20 [.str s, .str t] [] (fun av H' => av = .bool (unF s t) ∧ H' = []) ∧ CallsV Tryd.prog 21 [.str s, .str t] [] (fun av H' => av = .bool (unF s t) ∧ H' = []) := by
  have cp := cutPrefix_v s t (by omega)
  constructor
  · refine callsG_at Tryd.func20 (by kernel_rfl) ?_
    cases h : hpF s t with
    | false =>
      rw [h] at cp
      have e : unF s t = false := by
        unfold unF
        rw [h]
        by_cases h1 : t = bE
        · rw [h1, hp_nil] at h; cases h
        · by_cases h2 : s = t
          · rw [h2, hp_self] at h; cases h
          · simp [h1, h2]
      rw [e]
      have e1' := cp
      refine g_q [⟨3, [], .call (avOf e1') (blOf e1') []⟩] [.sel [4]] Exit.ret (stOf 27 [(4, AV.bool false)] []) (And.intro e1' (show false = true → false = true from (fun h => h))) ?_
      refine g_f [] [] (AV.bool false) ([]) trivial ?_
      exact ⟨rfl, rfl⟩
    | true =>
      rw [h, cond_true] at cp
      have rz := rest_zero h
      obtain ⟨hle, _⟩ := (hp_iff s t).1 h
      cases h1 : (t.toList == bE.toList) with
      | true =>
        have e : unF s t = true := by
          rw [emp_iff] at h1
          unfold unF; rw [h1, Bool.true_or]
        rw [e]
        generalize s.extract t.size s.size = r at cp rz
        have e1' := cp
        refine g_q [⟨3, [], .call (avOf e1') (blOf e1') []⟩, ⟨14, [.tm 17 (.bool true)], .no⟩] [.sel [4]] Exit.ret (stOf 27 [(4, AV.bool true)] []) (And.intro e1' (And.intro (congrArg AV.bool h1) (And.intro (show true = false → false = true from (by decide)) (show true = false → false = true from (by decide))))) ?_
        refine g_f [] [] (AV.bool true) ([]) trivial ?_
        exact ⟨rfl, rfl⟩
      | false =>
        cases h2 : decide (s = t) with
        | true =>
          have e : unF s t = true := by unfold unF; rw [h2, Bool.true_or, Bool.or_true]
          rw [e]
          rw [h2] at rz
          generalize s.extract t.size s.size = r at cp rz
          have e1' := cp
          refine g_q [⟨3, [], .call (avOf e1') (blOf e1') []⟩, ⟨14, [.tm 17 (.bool false)], .no⟩, ⟨18, [.tm 21 (.bool true)], .no⟩] [.sel [4]] Exit.ret (stOf 27 [(4, AV.bool true)] []) (And.intro e1' (And.intro (congrArg AV.bool h1) (And.intro (congrArg AV.bool (congrArg (fun z => bif false then true else z) rz)) (show true = false → false = true from (by decide))))) ?_
          refine g_f [] [] (AV.bool true) ([]) trivial ?_
          exact ⟨rfl, rfl⟩
        | false =>
          have hlt : t.size < s.size := by
            rcases Nat.lt_or_ge t.size s.size with h3 | h3
            · exact h3
            · have : s = t := by
                obtain ⟨_, h4⟩ := (hp_iff s t).1 h
                apply bytes_inj
                rw [← h4, List.take_of_length_le (by rw [bytes_len]; exact h3)]
              rw [decide_eq_true this] at h2; cases h2
          have e : unF s t = (byteAt s (t.size : Int) == 47) := by
            rw [emp_iff] at h1
            unfold unF; rw [h1, h2, h, decide_eq_true hlt]; simp
          rw [e, ← rest_at hlt]
          rw [h2] at rz
          have hrs : 0 < (s.extract t.size s.size).size := by rw [ByteArray.size_extract]; omega
          generalize s.extract t.size s.size = r at cp rz hrs
          have e1' := cp
          refine g_q [⟨3, [], .call (avOf e1') (blOf e1') []⟩, ⟨14, [.tm 17 (.bool false)], .no⟩, ⟨18, [.tm 21 (.bool false)], .no⟩] [.sel [4]] Exit.ret (stOf 27 [(4, AV.bool (bif true then bif false then true else byteAt r (0 : Int) == (47 : Int) else false))] []) (And.intro e1' (And.intro (congrArg AV.bool h1) (And.intro (congrArg AV.bool (congrArg (fun z => bif false then true else z) rz)) (show (0 : Int) ≤ (0 : Int) ∧ (0 : Int) < (↑r.size : Int) from (by omega))))) ?_
          refine g_f [] [] (AV.bool (bif true then bif false then true else byteAt r (0 : Int) == (47 : Int) else false)) ([]) trivial ?_
          exact ⟨rfl, rfl⟩
  · refine callsG_at Tryd.func21 (by kernel_rfl) ?_
    have he := emp_iff t
    have hq := str_eq s t
    unfold unF hpF
    by_cases h1 : t.size < s.size
    · have h3 : decide ((s.size : Int) > (t.size : Int)) = true := decide_eq_true (by omega)
      have h4 : decide ((t.size : Int) ≤ (s.size : Int)) = true := decide_eq_true (by omega)
      rw [decide_eq_true h1, h4, cond_true]
      have hb : 0 ≤ (0 : Int) ∧ (0 : Int) ≤ (t.size : Int) ∧ (t.size : Int) ≤ (s.size : Int) := by omega
      have e1' := (congrArg (fun z => AV.bool z) he)
      have e2' := (congrArg (fun z => AV.cnd (decide (t = bE) == false) (AV.bool z)) hq)
      have e3' := (congrArg (fun z => AV.cnd ((bif decide (t = bE) then true else decide (s = t)) == false) (AV.bool z)) h3)
      have e4' := (Eq.trans (congrArg (fun z => AV.cnd ((bif decide (t = bE) then true else decide (s = t)) == false && true == true) (AV.str (s.extract z (↑t.size : Int).toNat))) (Int.toNat_natCast (0))) (congrArg (fun z => AV.cnd ((bif decide (t = bE) then true else decide (s = t)) == false && true == true) (AV.str (s.extract 0 z))) (Int.toNat_natCast (t.size))))
      refine g_q [⟨2, [], .as (rhsOf e1')⟩, ⟨4, [], .gd⟩, ⟨5, [], .gd⟩, ⟨6, [], .gda (rhsOf e2')⟩, ⟨9, [], .gd⟩, ⟨10, [], .gd⟩, ⟨11, [], .gd⟩, ⟨12, [], .gd⟩, ⟨13, [], .gda (rhsOf e3')⟩, ⟨14, [], .gd⟩, ⟨15, [], .gd⟩, ⟨16, [], .gd⟩, ⟨17, [], .gd⟩, ⟨18, [], .gda (rhsOf e4')⟩, ⟨19, [], .gd⟩, ⟨20, [], .gd⟩, ⟨21, [], .gd⟩, ⟨22, [], .gd⟩, ⟨23, [], .gd⟩, ⟨24, [], .gd⟩, ⟨25, [], .gd⟩, ⟨26, [], .gd⟩, ⟨27, [], .gd⟩, ⟨28, [], .gd⟩] [.sel [4]] Exit.ret (stOf 34 [(4, AV.bool (bif bif decide (t = bE) then true else decide (s = t) then true else bif bif true then (s.extract 0 t.size).toList == t.toList else false then byteAt s (↑t.size : Int) == (47 : Int) else false))] []) (And.intro e1' (And.intro (show (decide (t = bE) == false) = true → (decide (t = bE) == false) = true from (fun h => h)) (And.intro (show (decide (t = bE) == false) = true → (decide (t = bE) == false) = true from (fun h => h)) (And.intro e2' (And.intro (show decide (t = bE) = false → (decide (t = bE) == false) = true from (by (simp; done))) (And.intro (show ((bif decide (t = bE) then true else decide (s = t)) == false) = true → ((bif decide (t = bE) then true else decide (s = t)) == false) = true from (fun h => h)) (And.intro (show ((bif decide (t = bE) then true else decide (s = t)) == false) = true → ((bif decide (t = bE) then true else decide (s = t)) == false) = true from (fun h => h)) (And.intro (show ((bif decide (t = bE) then true else decide (s = t)) == false) = true → ((bif decide (t = bE) then true else decide (s = t)) == false) = true from (fun h => h)) (And.intro (show ((bif decide (t = bE) then true else decide (s = t)) == false) = true → ((bif decide (t = bE) then true else decide (s = t)) == false) = true from (fun h => h)) (And.intro e3' (And.intro (show ((bif decide (t = bE) then true else decide (s = t)) == false) = true → ((bif decide (t = bE) then true else decide (s = t)) == false) = true from (fun h => h)) (And.intro (show ((bif decide (t = bE) then true else decide (s = t)) == false && true == true) = true → ((bif decide (t = bE) then true else decide (s = t)) == false && true == true) = true from (fun h => h)) (And.intro (show ((bif decide (t = bE) then true else decide (s = t)) == false && true == true) = true → ((bif decide (t = bE) then true else decide (s = t)) == false && true == true) = true from (fun h => h)) (And.intro (show ((bif decide (t = bE) then true else decide (s = t)) == false && true == true) = true → ((bif decide (t = bE) then true else decide (s = t)) == false && true == true) = true from (fun h => h)) (And.intro (show ((bif decide (t = bE) then true else decide (s = t)) == false && true == true) = true → (0 : Int) ≤ (0 : Int) ∧ (0 : Int) ≤ (↑t.size : Int) ∧ (↑t.size : Int) ≤ (↑s.size : Int) from (by omega)) (And.intro e4' (And.intro (show ((bif decide (t = bE) then true else decide (s = t)) == false && true == true) = true → ((bif decide (t = bE) then true else decide (s = t)) == false && true == true) = true from (fun h => h)) (And.intro (show ((bif decide (t = bE) then true else decide (s = t)) == false && true == true) = true → ((bif decide (t = bE) then true else decide (s = t)) == false && true == true) = true from (fun h => h)) (And.intro (show ((bif decide (t = bE) then true else decide (s = t)) == false) = true → ((bif decide (t = bE) then true else decide (s = t)) == false) = true from (fun h => h)) (And.intro (show ((bif decide (t = bE) then true else decide (s = t)) == false) = true → true = true → ((bif decide (t = bE) then true else decide (s = t)) == false && true == true) = true from (by (simp; done))) (And.intro (show ((bif decide (t = bE) then true else decide (s = t)) == false) = true → ((bif decide (t = bE) then true else decide (s = t)) == false) = true from (fun h => h)) (And.intro (show ((bif decide (t = bE) then true else decide (s = t)) == false && (bif true then (s.extract 0 t.size).toList == t.toList else false) == true) = true → ((bif decide (t = bE) then true else decide (s = t)) == false && (bif true then (s.extract 0 t.size).toList == t.toList else false) == true) = true from (fun h => h)) (And.intro (show ((bif decide (t = bE) then true else decide (s = t)) == false && (bif true then (s.extract 0 t.size).toList == t.toList else false) == true) = true → ((bif decide (t = bE) then true else decide (s = t)) == false && (bif true then (s.extract 0 t.size).toList == t.toList else false) == true) = true from (fun h => h)) (And.intro (show ((bif decide (t = bE) then true else decide (s = t)) == false && (bif true then (s.extract 0 t.size).toList == t.toList else false) == true) = true → ((bif decide (t = bE) then true else decide (s = t)) == false && (bif true then (s.extract 0 t.size).toList == t.toList else false) == true) = true from (fun h => h)) (And.intro (show ((bif decide (t = bE) then true else decide (s = t)) == false && (bif true then (s.extract 0 t.size).toList == t.toList else false) == true) = true → (0 : Int) ≤ (↑t.size : Int) ∧ (↑t.size : Int) < (↑s.size : Int) from (by omega)) (And.intro (show ((bif decide (t = bE) then true else decide (s = t)) == false && (bif true then (s.extract 0 t.size).toList == t.toList else false) == true) = true → ((bif decide (t = bE) then true else decide (s = t)) == false && (bif true then (s.extract 0 t.size).toList == t.toList else false) == true) = true from (fun h => h)) (And.intro (show ((bif decide (t = bE) then true else decide (s = t)) == false) = true → ((bif decide (t = bE) then true else decide (s = t)) == false) = true from (fun h => h)) (And.intro (show ((bif decide (t = bE) then true else decide (s = t)) == false) = true → (bif true then (s.extract 0 t.size).toList == t.toList else false) = true → ((bif decide (t = bE) then true else decide (s = t)) == false && (bif true then (s.extract 0 t.size).toList == t.toList else false) == true) = true from (by (intro h k; rw [h, k]; rfl))) (show (bif decide (t = bE) then true else decide (s = t)) = false → ((bif decide (t = bE) then true else decide (s = t)) == false) = true from (by (simp; done))))))))))))))))))))))))))))))) ?_
      refine g_f [] [] (AV.bool (bif bif decide (t = bE) then true else decide (s = t) then true else bif bif true then (s.extract 0 t.size).toList == t.toList else false then byteAt s (↑t.size : Int) == (47 : Int) else false)) ([]) trivial ?_
      exact ⟨by cases decide (t = bE) <;> cases decide (s = t) <;> cases (s.extract 0 t.size).toList == t.toList <;> cases byteAt s (t.size : Int) == 47 <;> simp_all, rfl⟩
    · have h3 : decide ((s.size : Int) > (t.size : Int)) = false := decide_eq_false (by omega)
      rw [decide_eq_false h1]
      have e1' := (congrArg (fun z => AV.bool z) he)
      have e2' := (congrArg (fun z => AV.cnd (decide (t = bE) == false) (AV.bool z)) hq)
      have e3' := (congrArg (fun z => AV.cnd ((bif decide (t = bE) then true else decide (s = t)) == false) (AV.bool z)) h3)
      refine g_q [⟨2, [], .as (rhsOf e1')⟩, ⟨4, [], .gd⟩, ⟨5, [], .gd⟩, ⟨6, [], .gda (rhsOf e2')⟩, ⟨9, [], .gd⟩, ⟨10, [], .gd⟩, ⟨11, [], .gd⟩, ⟨12, [], .gd⟩, ⟨13, [], .gda (rhsOf e3')⟩, ⟨14, [], .gd⟩, ⟨15, [], .br false .no⟩, ⟨16, [], .br false .no⟩, ⟨17, [], .br false .no⟩, ⟨18, [], .br false .no⟩, ⟨19, [], .br false .no⟩, ⟨20, [], .br false .no⟩, ⟨21, [], .gd⟩, ⟨22, [], .gd⟩, ⟨23, [], .br false .no⟩, ⟨24, [], .br false .no⟩, ⟨25, [], .br false .no⟩, ⟨26, [], .br false .no⟩, ⟨27, [], .br false .no⟩, ⟨28, [], .gd⟩] [.sel [4]] Exit.ret (stOf 34 [(4, AV.bool (bif bif decide (t = bE) then true else decide (s = t) then true else false))] []) (And.intro e1' (And.intro (show (decide (t = bE) == false) = true → (decide (t = bE) == false) = true from (fun h => h)) (And.intro (show (decide (t = bE) == false) = true → (decide (t = bE) == false) = true from (fun h => h)) (And.intro e2' (And.intro (show decide (t = bE) = false → (decide (t = bE) == false) = true from (by (simp; done))) (And.intro (show ((bif decide (t = bE) then true else decide (s = t)) == false) = true → ((bif decide (t = bE) then true else decide (s = t)) == false) = true from (fun h => h)) (And.intro (show ((bif decide (t = bE) then true else decide (s = t)) == false) = true → ((bif decide (t = bE) then true else decide (s = t)) == false) = true from (fun h => h)) (And.intro (show ((bif decide (t = bE) then true else decide (s = t)) == false) = true → ((bif decide (t = bE) then true else decide (s = t)) == false) = true from (fun h => h)) (And.intro (show ((bif decide (t = bE) then true else decide (s = t)) == false) = true → ((bif decide (t = bE) then true else decide (s = t)) == false) = true from (fun h => h)) (And.intro e3' (And.intro (show ((bif decide (t = bE) then true else decide (s = t)) == false) = true → ((bif decide (t = bE) then true else decide (s = t)) == false) = true from (fun h => h)) (And.intro (show ((bif decide (t = bE) then true else decide (s = t)) == false && false == true) = false from (by simp_all; done)) (And.intro (show ((bif decide (t = bE) then true else decide (s = t)) == false && false == true) = false from (by simp_all; done)) (And.intro (show ((bif decide (t = bE) then true else decide (s = t)) == false && false == true) = false from (by simp_all; done)) (And.intro (show ((bif decide (t = bE) then true else decide (s = t)) == false && false == true) = false from (by simp_all; done)) (And.intro (show ((bif decide (t = bE) then true else decide (s = t)) == false && false == true) = false from (by simp_all; done)) (And.intro (show ((bif decide (t = bE) then true else decide (s = t)) == false && false == true) = false from (by simp_all; done)) (And.intro (show ((bif decide (t = bE) then true else decide (s = t)) == false) = true → ((bif decide (t = bE) then true else decide (s = t)) == false) = true from (fun h => h)) (And.intro (show ((bif decide (t = bE) then true else decide (s = t)) == false) = true → false = true → false = true from (by (simp; done))) (And.intro (show ((bif decide (t = bE) then true else decide (s = t)) == false) = true → ((bif decide (t = bE) then true else decide (s = t)) == false) = true from (fun h => h)) (And.intro (show ((bif decide (t = bE) then true else decide (s = t)) == false && false == true) = false from (by simp_all; done)) (And.intro (show ((bif decide (t = bE) then true else decide (s = t)) == false && false == true) = false from (by simp_all; done)) (And.intro (show ((bif decide (t = bE) then true else decide (s = t)) == false && false == true) = false from (by simp_all; done)) (And.intro (show ((bif decide (t = bE) then true else decide (s = t)) == false && false == true) = false from (by simp_all; done)) (And.intro (show ((bif decide (t = bE) then true else decide (s = t)) == false && false == true) = false from (by simp_all; done)) (And.intro (show ((bif decide (t = bE) then true else decide (s = t)) == false) = true → ((bif decide (t = bE) then true else decide (s = t)) == false) = true from (fun h => h)) (And.intro (show ((bif decide (t = bE) then true else decide (s = t)) == false) = true → false = true → false = true from (by (simp; done))) (show (bif decide (t = bE) then true else decide (s = t)) = false → ((bif decide (t = bE) then true else decide (s = t)) == false) = true from (by (simp; done)))))))))))))))))))))))))))))) ?_
      refine g_f [] [] (AV.bool (bif bif decide (t = bE) then true else decide (s = t) then true else false)) ([]) trivial ?_
      exact ⟨by cases decide (t = bE) <;> cases decide (s = t) <;> simp_all, rfl⟩
end Go.Proofs.YtaljnmmnmnoinaaDoor
