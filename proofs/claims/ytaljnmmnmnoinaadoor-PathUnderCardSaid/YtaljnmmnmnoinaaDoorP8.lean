/-
  Paths: the example; laws about what is accepted and about parts.
-/
import Derived.Test.YtaljnmmnmnoinaaDoorP7
namespace Go.Proofs.YtaljnmmnmnoinaaDoor
open Go Go.RowKit V
set_option linter.unusedSimpArgs false
set_option linter.unusedVariables false
set_option maxHeartbeats 20000000
abbrev exA : ByteArray := .mk #[97, 47, 47, 98, 47, 46, 47, 46, 46, 47, 99]
abbrev exB : ByteArray := .mk #[97, 47, 46, 46, 47, 46, 46]
theorem awake_v : CallsV Tryd.prog 8 [] [] (fun av H' => av = .bool true ∧ H' = []) := by
  refine callsG_at Tryd.func8 (by kernel_rfl) ?_
  have c1 := (norm_v exA (by decide)).1
  have c2 := (norm_v exB (by decide)).1
  rw [show NZ exA = (.mk #[97, 47, 99], 0) by kernel_rfl] at c1
  rw [show NZ exB = (bE, 8) by kernel_rfl] at c2
  have e1' := c1
  have e2' := c2
  refine g_q [⟨1, [], .call (avOf e1') (blOf e1') []⟩, ⟨7, [], .call (avOf e2') (blOf e2') []⟩] [.sel [0]] Exit.ret (stOf 23 [(0, AV.bool true)] []) (And.intro e1' e2') ?_
  refine g_f [] [] (AV.bool true) ([]) trivial ?_
  exact ⟨rfl, rfl⟩
theorem arg_u8s {w : World} {v : Value} (h : Arg Tryd.prog w 22 v) : ∃ l : List Int, Rep pl0 w v (bsV l) ∧ l.length ≤ 9223372036854775807 ∧ ∀ z ∈ l, 0 ≤ z ∧ z ≤ 255 := by
  obtain ⟨x, hr, hs⟩ := arg_rep h (by kernel_rfl)
  obtain ⟨l, rfl, h1, h2⟩ := sh_ints Tryd.underlying22 (by kernel_rfl) Tryd.underlying5 hs
  exact ⟨l, hr, h1, fun z hz => wf_u8 (h2 z hz)⟩
theorem pathNormalize_v (s : ByteArray) (l : List Int) (hs : s.size ≤ 9223372036854775807) (hl : l.length ≤ 9223372036854775807) (hb : ∀ z ∈ l, 0 ≤ z ∧ z ≤ 255) : CallsV Tryd.prog 3 [.str s, bsV l] [] (fun av H' => av = .bool true ∧ H' = []) := by
  refine callsG_at Tryd.func3 (by kernel_rfl) ?_
  have aw := awake_v
  by_cases h : s.size ≤ 300
  · have c := pieces_v l hl hb
    have hsz := pcF_sz l (min l.length 30)
    generalize pcF l (min l.length 30) = t at c hsz
    obtain ⟨a1, a2⟩ := norm_v s (by omega)
    obtain ⟨a3, a4⟩ := valid_v s (by omega)
    obtain ⟨b1, b2⟩ := norm_v t (by omega)
    obtain ⟨b3, b4⟩ := valid_v t (by omega)
    generalize NZ s = p at a1 a2
    generalize NZ t = q at b1 b2
    obtain ⟨p, e⟩ := p
    obtain ⟨q, f⟩ := q
    simp only at a1 a2 b1 b2
    generalize vaF s = x at a3 a4
    generalize vaF t = y at b3 b4
    have q1 := beq_self_eq_true p.toList
    have q2 := beq_self_eq_true q.toList
    have q3 := beq_self_eq_true e
    have q4 := beq_self_eq_true f
    have q5 := beq_self_eq_true x
    have q6 := beq_self_eq_true y
    have unroll := trivial
    have e1' := c
    have e2' := a1
    have e3' := a2
    have e4' := a3
    have e5' := a4
    have e6' := b1
    have e7' := b2
    have e8' := b3
    have e9' := b4
    have e10' := aw
    refine g_q [⟨4, [], .br false .no⟩, ⟨7, [], .call (avOf e1') (blOf e1') []⟩, ⟨18, [], .call (avOf e2') (blOf e2') []⟩, ⟨25, [], .call (avOf e3') (blOf e3') []⟩, ⟨35, [.tm 37 (.bool false)], .no⟩, ⟨40, [.tm 42 (.bool false)], .no⟩, ⟨41, [], .call (avOf e4') (blOf e4') []⟩, ⟨43, [], .call (avOf e5') (blOf e5') []⟩, ⟨46, [], .br false .no⟩, ⟨56, [], .call (avOf e6') (blOf e6') []⟩, ⟨63, [], .call (avOf e7') (blOf e7') []⟩, ⟨73, [.tm 37 (.bool false)], .no⟩, ⟨78, [.tm 42 (.bool false)], .no⟩, ⟨79, [], .call (avOf e8') (blOf e8') []⟩, ⟨81, [], .call (avOf e9') (blOf e9') []⟩, ⟨84, [], .br false .no⟩, ⟨90, [], .call (avOf e10') (blOf e10') []⟩] [.sel [4]] Exit.ret (stOf 51 [(4, AV.bool true)] [Blk.row 9 [AV.str s, AV.str t]]) (And.intro (show decide ((↑s.size : Int) > (300 : Int)) = false from (by rw [decide_eq_false_iff_not]; omega)) (And.intro e1' (And.intro (show (0 : Int) ≤ (0 : Int) ∧ (0 : Int) < (↑2 : Int) from (by omega)) (And.intro (show 1 ≤ 2 from (by omega)) (And.intro e2' (And.intro e3' (And.intro (congrArg AV.bool (congrArg (fun z => !z) q1)) (And.intro (congrArg AV.bool (show (bif false then true else e != e) = false from (by simp_all; done))) (And.intro e4' (And.intro e5' (And.intro (congrArg (fun z => bif false then true else !z) q5) (And.intro (show (0 : Int) ≤ (1 : Int) ∧ (1 : Int) < (↑2 : Int) from (by omega)) (And.intro (show 1 ≤ 1 from (by omega)) (And.intro e6' (And.intro e7' (And.intro (congrArg AV.bool (congrArg (fun z => !z) q2)) (And.intro (congrArg AV.bool (show (bif false then true else f != f) = false from (by simp_all; done))) (And.intro e8' (And.intro e9' (And.intro (congrArg (fun z => bif false then true else !z) q6) e10')))))))))))))))))))) ?_
    refine g_f [] [] (AV.bool true) ([]) trivial ?_
    exact ⟨rfl, rfl⟩
  · have e1' := aw
    refine g_q [⟨4, [], .br true .no⟩, ⟨5, [], .call (avOf e1') (blOf e1') []⟩] [.sel [4]] Exit.ret (stOf 51 [(4, AV.bool true)] []) (And.intro (show decide ((↑s.size : Int) > (300 : Int)) = true from (by rw [decide_eq_true_iff]; omega)) e1') ?_
    refine g_f [] [] (AV.bool true) ([]) trivial ?_
    exact ⟨rfl, rfl⟩
/-! which lengths are accepted -/
def plI (s : ByteArray) : Nat → ByteArray
  | 0 => s
  | k + 1 => plI s k ++ .mk #[120]
def plF (m : Nat) : Nat → ByteArray
  | 0 => bE
  | i + 1 => plI (if 0 < i then plF m i ++ slB else plF m i) m
theorem plI_sz (s : ByteArray) : ∀ k, (plI s k).size = s.size + k
  | 0 => rfl
  | k + 1 => by
    have := plI_sz s k
    unfold plI
    rw [ByteArray.size_append, this, show (ByteArray.mk #[120]).size = 1 from rfl]; omega
theorem plF_sz (m : Nat) : ∀ i, (plF m i).size ≤ i * (m + 1)
  | 0 => Nat.zero_le _
  | i + 1 => by
    have := plF_sz m i
    unfold plF
    rw [plI_sz, Nat.succ_mul]
    split
    · rw [ByteArray.size_append, show slB.size = 1 from rfl]; omega
    · omega
theorem pathLimits_v (a b : Int) (ha : 0 ≤ a ∧ a ≤ 255) (hb : 0 ≤ b ∧ b ≤ 255) : CallsV Tryd.prog 4 [.int .u8 a, .int .u8 b] [] (fun av H' => av = .bool true ∧ H' = []) := by
  refine callsG_at Tryd.func4 (by kernel_rfl) ?_
  have aw := awake_v
  have tm1 : a.tmod 30 = a % 30 := Int.tmod_eq_emod_of_nonneg ha.1
  have tm2 : b.tmod 12 = b % 12 := Int.tmod_eq_emod_of_nonneg hb.1
  obtain ⟨m, hm⟩ : ∃ m : Nat, 1 + a % 30 = (m : Int) := ⟨(1 + a % 30).toNat, by omega⟩
  obtain ⟨n, hn⟩ : ∃ n : Nat, 1 + b % 12 = (n : Int) := ⟨(1 + b % 12).toNat, by omega⟩
  have hI : ∀ i : Nat, ∀ s : ByteArray, s.size ≤ 10000 → LoopG Tryd.prog 0 Tryd.f4 1 (.exit 2) (stOf 55 [(0, .int .u8 a), (1, .int .u8 b), (5, .str (plI s m)), (6, .int .i64 (i : Int))] []) (stOf 55 [(0, .int .u8 a), (1, .int .u8 b), (5, .str s), (6, .int .i64 (i : Int)), (7, .int .i64 ((0 : Nat) : Int))] []) := by
    intro i s hs
    refine loopG_of m (fun k => stOf 55 [(0, .int .u8 a), (1, .int .u8 b), (5, .str (plI s k)), (6, .int .i64 (i : Int)), (7, .int .i64 (k : Int))] []) (by kernel_rfl) (by simp [plI]) ?_ ?_
    · intro k hk
      have hz := plI_sz s k
      rw [show plI s (k + 1) = plI s k ++ .mk #[120] from rfl]
      generalize plI s k = t at *
      have e1' := (congrArg (fun z => AV.int .u8 z) tm1)
      have e2' := (congrArg (fun z => AV.int .i64 z) (wrap_i64 (e := a % (30 : Int)) (by omega) (by omega)))
      have e3' := (Eq.trans (congrArg (fun z => AV.int .i64 (IntKind.i64.wrap z)) hm) (congrArg (fun z => AV.int .i64 z) (wrap_i64 (e := (↑m : Int)) (by omega) (by omega))))
      have e4' := (congrArg (fun z => AV.int .i64 z) (wrap_i64 (e := (↑k : Int) + (1 : Int)) (by omega) (by omega)))
      exact g_x [⟨2, [], .as (rhsOf e1')⟩, ⟨3, [], .as (rhsOf e2')⟩, ⟨4, [], .as (rhsOf e3')⟩, ⟨6, [], .br true .no⟩, ⟨11, [], .as (rhsOf e4')⟩] [.sel [0, 1, 5, 6, 7]] (And.intro (show (30 : Int) ≠ (0 : Int) from (by omega)) (And.intro e1' (And.intro e2' (And.intro e3' (And.intro (show decide ((↑k : Int) < (↑m : Int)) = true from (by rw [decide_eq_true_iff]; omega)) (And.intro (show t.size + 1 ≤ 9223372036854775807 from (by omega)) e4'))))))
    · have e1' := (congrArg (fun z => AV.int .u8 z) tm1)
      have e2' := (congrArg (fun z => AV.int .i64 z) (wrap_i64 (e := a % (30 : Int)) (by omega) (by omega)))
      have e3' := (Eq.trans (congrArg (fun z => AV.int .i64 (IntKind.i64.wrap z)) hm) (congrArg (fun z => AV.int .i64 z) (wrap_i64 (e := (↑m : Int)) (by omega) (by omega))))
      exact g_x [⟨2, [], .as (rhsOf e1')⟩, ⟨3, [], .as (rhsOf e2')⟩, ⟨4, [], .as (rhsOf e3')⟩, ⟨6, [], .br false .no⟩] [.sel [0, 1, 5, 6]] (And.intro (show (30 : Int) ≠ (0 : Int) from (by omega)) (And.intro e1' (And.intro e2' (And.intro e3' (show decide ((↑m : Int) < (↑m : Int)) = false from (by rw [decide_eq_false_iff_not]; omega))))))
  have hL : LoopG Tryd.prog 0 Tryd.f4 0 (.exit 0) (stOf 55 [(5, .str (plF m n))] []) (stOf 55 [(0, .int .u8 a), (1, .int .u8 b), (5, .str bE), (6, .int .i64 ((0 : Nat) : Int))] []) := by
    refine loopG_of n (fun k => stOf 55 [(0, .int .u8 a), (1, .int .u8 b), (5, .str (plF m k)), (6, .int .i64 (k : Int))] []) (by kernel_rfl) (by simp [plF]) ?_ ?_
    · intro k hk
      have hz := plF_sz m k
      have hz2 : k * (m + 1) ≤ 12 * 31 := Nat.mul_le_mul (by omega) (by omega)
      have e : plF m (k + 1) = plI (if 0 < k then plF m k ++ slB else plF m k) m := rfl
      rw [e]
      generalize plF m k = t at *
      by_cases h0 : 0 < k
      · rw [if_pos h0]
        have hi := hI k (t ++ slB) (by rw [ByteArray.size_append, show slB.size = 1 from rfl]; omega)
        have e1' := (congrArg (fun z => AV.int .u8 z) tm2)
        have e2' := (congrArg (fun z => AV.int .i64 z) (wrap_i64 (e := b % (12 : Int)) (by omega) (by omega)))
        have e3' := (Eq.trans (congrArg (fun z => AV.int .i64 (IntKind.i64.wrap z)) hn) (congrArg (fun z => AV.int .i64 z) (wrap_i64 (e := (↑n : Int)) (by omega) (by omega))))
        have e4' := hi
        have e5' := (congrArg (fun z => AV.int .i64 z) (wrap_i64 (e := (↑k : Int) + (1 : Int)) (by omega) (by omega)))
        exact g_x [⟨2, [], .as (rhsOf e1')⟩, ⟨3, [], .as (rhsOf e2')⟩, ⟨4, [], .as (rhsOf e3')⟩, ⟨6, [], .br true .no⟩, ⟨9, [], .br true .no⟩, ⟨14, [.sel [0, 1, 5, 6, 7]], .loop (exOf e4') (endOf e4')⟩, ⟨16, [], .as (rhsOf e5')⟩] [.sel [0, 1, 5, 6]] (And.intro (show (12 : Int) ≠ (0 : Int) from (by omega)) (And.intro e1' (And.intro e2' (And.intro e3' (And.intro (show decide ((↑k : Int) < (↑n : Int)) = true from (by rw [decide_eq_true_iff]; omega)) (And.intro (show decide ((↑k : Int) > (0 : Int)) = true from (by rw [decide_eq_true_iff]; omega)) (And.intro (show t.size + 1 ≤ 9223372036854775807 from (by omega)) (And.intro e4' e5'))))))))
      · rw [if_neg h0]
        have hi := hI k t (by omega)
        have e1' := (congrArg (fun z => AV.int .u8 z) tm2)
        have e2' := (congrArg (fun z => AV.int .i64 z) (wrap_i64 (e := b % (12 : Int)) (by omega) (by omega)))
        have e3' := (Eq.trans (congrArg (fun z => AV.int .i64 (IntKind.i64.wrap z)) hn) (congrArg (fun z => AV.int .i64 z) (wrap_i64 (e := (↑n : Int)) (by omega) (by omega))))
        have e4' := hi
        have e5' := (congrArg (fun z => AV.int .i64 z) (wrap_i64 (e := (↑k : Int) + (1 : Int)) (by omega) (by omega)))
        exact g_x [⟨2, [], .as (rhsOf e1')⟩, ⟨3, [], .as (rhsOf e2')⟩, ⟨4, [], .as (rhsOf e3')⟩, ⟨6, [], .br true .no⟩, ⟨9, [], .br false .no⟩, ⟨11, [.sel [0, 1, 5, 6, 7]], .loop (exOf e4') (endOf e4')⟩, ⟨13, [], .as (rhsOf e5')⟩] [.sel [0, 1, 5, 6]] (And.intro (show (12 : Int) ≠ (0 : Int) from (by omega)) (And.intro e1' (And.intro e2' (And.intro e3' (And.intro (show decide ((↑k : Int) < (↑n : Int)) = true from (by rw [decide_eq_true_iff]; omega)) (And.intro (show decide ((↑k : Int) > (0 : Int)) = false from (by rw [decide_eq_false_iff_not]; omega)) (And.intro e4' e5')))))))
    · have e1' := (congrArg (fun z => AV.int .u8 z) tm2)
      have e2' := (congrArg (fun z => AV.int .i64 z) (wrap_i64 (e := b % (12 : Int)) (by omega) (by omega)))
      have e3' := (Eq.trans (congrArg (fun z => AV.int .i64 (IntKind.i64.wrap z)) hn) (congrArg (fun z => AV.int .i64 z) (wrap_i64 (e := (↑n : Int)) (by omega) (by omega))))
      exact g_x [⟨2, [], .as (rhsOf e1')⟩, ⟨3, [], .as (rhsOf e2')⟩, ⟨4, [], .as (rhsOf e3')⟩, ⟨6, [], .br false .no⟩] [.sel [5]] (And.intro (show (12 : Int) ≠ (0 : Int) from (by omega)) (And.intro e1' (And.intro e2' (And.intro e3' (show decide ((↑n : Int) < (↑n : Int)) = false from (by rw [decide_eq_false_iff_not]; omega))))))
  have hz := plF_sz m n
  have hz2 : n * (m + 1) ≤ 12 * 31 := Nat.mul_le_mul (by omega) (by omega)
  generalize plF m n = t at *
  obtain ⟨a1, a2⟩ := norm_v t (by omega)
  generalize NZ t = p at a1 a2
  obtain ⟨p, e⟩ := p
  simp only at a1 a2
  have q1 := beq_self_eq_true p.toList
  have q3 := beq_self_eq_true e
  clear hI
  have e1' := hL
  have e2' := a1
  have e3' := a2
  have e4' := aw
  refine g_q [⟨3, [.sel [0, 1, 5, 6]], .loop (exOf e1') (endOf e1')⟩, ⟨5, [], .call (avOf e2') (blOf e2') []⟩, ⟨12, [], .call (avOf e3') (blOf e3') []⟩, ⟨18, [], .call (avOf e4') (blOf e4') []⟩, ⟨25, [.tm 50 (.bool true)], .no⟩] [.sel [4]] Exit.ret (stOf 55 [(4, AV.bool (bif true then e == e else false))] []) (And.intro e1' (And.intro e2' (And.intro e3' (And.intro e4' (congrArg AV.bool (congrArg (fun z => bif true then z else false) q1)))))) ?_
  refine g_f [] [] (AV.bool (bif true then e == e else false)) ([]) trivial ?_
  exact ⟨by simp, rfl⟩
end Go.Proofs.YtaljnmmnmnoinaaDoor
