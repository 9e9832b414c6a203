/-
  Stores: digests.
-/
import Derived.Test.YtkdgnjoofhckeaaU6
import Derived.Laws.BitsAllLaws
namespace Go.Proofs.Ytkdgnjoofhckeaa
open Go Go.RowKit V
set_option linter.unusedSimpArgs false
set_option linter.unusedVariables false
set_option maxHeartbeats 20000000
abbrev bv (b : ByteArray) : AV := .slv b.size 1 (bytesAV b)
theorem bytes_at (b : ByteArray) (k : Nat) (hk : k < b.size) : (bytesAV b).drop ((k : Int).toNat * 1) = AV.int .u8 ((b.data.toList.getD k 0).toNat : Int) :: (bytesAV b).drop (k + 1) := by
  have hl : k < b.data.toList.length := by simpa using hk
  unfold bytesAV
  rw [Int.toNat_natCast, Nat.mul_one, ← List.map_drop, List.drop_eq_getElem_cons hl, List.map_cons, ← List.map_drop, List.getD_eq_getElem?_getD, List.getElem?_eq_getElem hl]
  rfl
/-- a digest's step -/
def sumS (h : Int) (c : UInt8) : Int := IntKind.u32.wrap (IntKind.u32.wrap (((BitVec.ofInt IntKind.u32.bits h ^^^ BitVec.ofInt IntKind.u32.bits (IntKind.u32.wrap (c.toNat : Int))).toNat : Nat) : Int) * 16777619)
def sumK (b : ByteArray) (h : Int) (k : Nat) : Int := (b.data.toList.take k).foldl sumS h
theorem sum_next (b : ByteArray) (h : Int) (k : Nat) (hk : k < b.size) : IntKind.u32.wrap (IntKind.u32.wrap (((BitVec.ofInt IntKind.u32.bits (sumK b h k) ^^^ BitVec.ofInt IntKind.u32.bits (IntKind.u32.wrap ((b.data.toList.getD k 0).toNat : Int))).toNat : Nat) : Int) * 16777619) = sumK b h (k + 1) := by
  have hl : k < b.data.toList.length := by simpa using hk
  unfold sumK
  rw [List.take_add_one, List.foldl_append, List.getElem?_eq_getElem hl, List.getD_eq_getElem?_getD, List.getElem?_eq_getElem hl]
  rfl
theorem sumL (b : ByteArray) (n h : Int) (hb : b.size ≤ 1000000) : LoopG Try.prog 0 Try.f23 0 (.exit 0) (stOf 31 [(1, .int .i64 n), (5, .int .u32 (sumK b h b.size))] []) (stOf 31 [(1, .int .i64 n), (5, .int .u32 h), (8, .slv b.size 1 (bytesAV b)), (9, .int .i64 (b.size : Int)), (10, .int .i64 0)] []) := by
  refine loopG_of b.size (fun k => stOf 31 [(1, .int .i64 n), (5, .int .u32 (sumK b h k)), (8, .slv b.size 1 (bytesAV b)), (9, .int .i64 (b.size : Int)), (10, .int .i64 (k : Int))] []) (by kernel_rfl) (by simp) ?_ ?_
  · intro k hk
    have e1' := (congrArg (fun z => AV.fptr z) (bytes_at (b) (k) (by assumption)))
    have e2' := (congrArg (fun z => AV.int .u32 z) (sum_next (b) (h) (k) (by assumption)))
    have e3' := (congrArg (fun z => AV.int .i64 z) (wrap_i64 (e := (↑k : Int) + (1 : Int)) (by omega) (by omega)))
    exact g_x [⟨1, [], .br true .no⟩, ⟨2, [], .as (rhsOf e1')⟩, ⟨9, [], .as (rhsOf e2')⟩, ⟨11, [], .as (rhsOf e3')⟩] [.sel [1, 5, 8, 9, 10]] (And.intro (show decide ((↑k : Int) < (↑b.size : Int)) = true from (by rw [decide_eq_true_iff]; omega)) (And.intro (show (0 : Int) ≤ (↑k : Int) ∧ (↑k : Int) < (↑b.size : Int) from (by omega)) (And.intro e1' (And.intro (show 1 ≤ (AV.int .u8 (↑(b.data.toList.getD k (0 : UInt8)).toNat : Int) :: List.drop (k + 1) (bytesAV b)).length from (by exact Nat.le_of_ble_eq_true (by kernel_rfl))) (And.intro e2' e3')))))
  · exact g_x [⟨1, [], .br false .no⟩] [.sel [1, 5]] (show decide ((↑b.size : Int) < (↑b.size : Int)) = false from (by rw [decide_eq_false_iff_not]; omega))
/-- what is mixed, and the digest of a content -/
def mixF (b : ByteArray) : Int := IntKind.u32.wrap (((BitVec.ofInt IntKind.u32.bits (sumK b 2166136261 b.size) ^^^ BitVec.ofInt IntKind.u32.bits ((sumK b 2166136261 b.size).fdiv (2 ^ min (Int.toNat 16) IntKind.u32.bits))).toNat : Nat) : Int)
def textF (b : ByteArray) (n : Int) : Int := IntKind.u32.wrap (((BitVec.ofInt IntKind.u32.bits (mixF b) &&& BitVec.ofInt IntKind.u32.bits (Int.fdiv 4294967295 (2 ^ min (32 - if 32 < if 1 > n then 1 else n then 32 else if 1 > n then 1 else n).toNat IntKind.u32.bits))).toNat : Nat) : Int)
theorem sum_v (b : ByteArray) (n : Int) (hb : b.size ≤ 1000000) : CallsV Try.prog 23 [.slv b.size 1 (bytesAV b), .int .i64 n] [] (fun av H' => av = .int .u32 (textF b n) ∧ H' = []) := by
  refine callsG_at Try.func23 (by kernel_rfl) ?_
  have e1' := sumL b n 2166136261 hb
  have e2' := (congrArg (fun z => AV.int .i64 z) (wrap_i64 (e := (32 : Int) - if (32 : Int) < if (1 : Int) > n then (1 : Int) else n then (32 : Int) else if (1 : Int) > n then (1 : Int) else n) (by omega) (by omega)))
  refine g_q [⟨5, [.sel [1, 5, 8, 9, 10]], .loop (exOf e1') (endOf e1')⟩, ⟨15, [], .as (rhsOf e2')⟩] [.sel [4]] Exit.ret (stOf 31 [(4, AV.int .u32 (IntKind.u32.wrap (↑(BitVec.ofInt IntKind.u32.bits (IntKind.u32.wrap (↑(BitVec.ofInt IntKind.u32.bits (sumK b (2166136261 : Int) b.size) ^^^ BitVec.ofInt IntKind.u32.bits ((sumK b (2166136261 : Int) b.size).fdiv ((2 : Int) ^ min (Int.toNat (16 : Int)) IntKind.u32.bits))).toNat : Int)) &&& BitVec.ofInt IntKind.u32.bits (Int.fdiv (4294967295 : Int) ((2 : Int) ^ min ((32 : Int) - if (32 : Int) < if (1 : Int) > n then (1 : Int) else n then (32 : Int) else if (1 : Int) > n then (1 : Int) else n).toNat IntKind.u32.bits))).toNat : Int)))] []) (And.intro e1' (And.intro (show (0 : Int) ≤ (16 : Int) from (by omega)) (And.intro e2' (show (0 : Int) ≤ (32 : Int) - if (32 : Int) < if (1 : Int) > n then (1 : Int) else n then (32 : Int) else if (1 : Int) > n then (1 : Int) else n from (by omega))))) ?_
  refine g_f [] [] (AV.int .u32 (IntKind.u32.wrap (↑(BitVec.ofInt IntKind.u32.bits (IntKind.u32.wrap (↑(BitVec.ofInt IntKind.u32.bits (sumK b (2166136261 : Int) b.size) ^^^ BitVec.ofInt IntKind.u32.bits ((sumK b (2166136261 : Int) b.size).fdiv ((2 : Int) ^ min (Int.toNat (16 : Int)) IntKind.u32.bits))).toNat : Int)) &&& BitVec.ofInt IntKind.u32.bits (Int.fdiv (4294967295 : Int) ((2 : Int) ^ min ((32 : Int) - if (32 : Int) < if (1 : Int) > n then (1 : Int) else n then (32 : Int) else if (1 : Int) > n then (1 : Int) else n).toNat IntKind.u32.bits))).toNat : Int))) ([]) trivial ?_
  exact ⟨rfl, rfl⟩
theorem mask_mod (h : Int) (h1 : 0 ≤ h) (h2 : h < 4294967296) (n : Nat) (hn2 : n ≤ 32) (m : Int) (hm : m = 2 ^ n - 1) : Go.bits BinOp.and .u32 h m = h % 2 ^ n := by
  have hp : (2 : Int) ^ n ≤ 2 ^ 32 := by
    have : (2 : Nat) ^ n ≤ 2 ^ 32 := Nat.pow_le_pow_right (by omega) hn2
    exact_mod_cast this
  have hq : (1 : Int) ≤ 2 ^ n := by
    have : 1 ≤ (2 : Nat) ^ n := Nat.one_le_two_pow
    exact_mod_cast this
  have hp' : (2 : Int) ^ 32 = 4294967296 := by decide
  subst hm
  rw [u32_and h _ h1 h2 (by omega) (by omega)]
  have e : ((2 : Int) ^ n - 1).toNat = 2 ^ n - 1 := by
    have : ((2 : Int) ^ n) = ((2 ^ n : Nat) : Int) := by simp
    omega
  rw [e, Nat.and_two_pow_sub_one_eq_mod]
  obtain ⟨k, rfl⟩ := Int.eq_ofNat_of_zero_le h1
  simp
theorem all_ones (bits : Int) (h1 : 1 ≤ bits) (h2 : bits ≤ 32) : (4294967295 : Int) / 2 ^ (32 - bits).toNat = 2 ^ bits.toNat - 1 := by
  obtain ⟨n, rfl⟩ := Int.eq_ofNat_of_zero_le (by omega : 0 ≤ bits)
  have hn1 : 1 ≤ n := by omega
  have hn2 : n ≤ 32 := by omega
  have key : ∀ n : Fin 33, 1 ≤ n.val → (4294967295 : Int) / 2 ^ (32 - (n.val : Int)).toNat = 2 ^ (n.val : Int).toNat - 1 := by decide
  exact key ⟨n, by omega⟩ hn1
theorem shifts_mod (h : Int) (n m : Nat) (hm : n + m = 32) : h * 2 ^ m % 4294967296 / 2 ^ m = h % 2 ^ n := by
  have e : (4294967296 : Int) = 2 ^ n * 2 ^ m := by rw [← Int.pow_add, hm]; decide
  rw [e, Int.mul_comm h, Int.mul_comm ((2 : Int) ^ n), Int.mul_emod_mul_of_pos]
  · rw [Int.mul_comm]; exact Int.mul_ediv_cancel _ (Int.ne_of_gt (Int.pow_pos (by decide)))
  · exact Int.pow_pos (by decide)
theorem u32_bd (X : Int) : 0 ≤ IntKind.u32.wrap X ∧ IntKind.u32.wrap X < 4294967296 := by rw [IntKind.wrap_u32']; omega
theorem textF_mod (b : ByteArray) (n : Int) (hn : 1 ≤ n ∧ n ≤ 32) : textF b n = mixF b % 2 ^ n.toNat := by
  have hX := u32_bd (((BitVec.ofInt IntKind.u32.bits (sumK b 2166136261 b.size) ^^^ BitVec.ofInt IntKind.u32.bits ((sumK b 2166136261 b.size).fdiv (2 ^ min (Int.toNat 16) IntKind.u32.bits))).toNat : Nat) : Int)
  unfold textF
  have e : (if 32 < if 1 > n then 1 else n then 32 else if 1 > n then 1 else n) = n := by split <;> split at * <;> omega
  rw [e]
  have e2 : min (32 - n).toNat IntKind.u32.bits = (32 - n).toNat := by rw [show IntKind.u32.bits = 32 from rfl]; omega
  rw [e2, Int.fdiv_eq_ediv_of_nonneg _ (Int.le_of_lt (Int.pow_pos (by decide))), all_ones n hn.1 hn.2]
  exact mask_mod (mixF b) hX.1 hX.2 n.toNat (by omega) _ rfl
theorem refF_eq (b : ByteArray) (n : Int) (hn : 1 ≤ n ∧ n ≤ 32) : (IntKind.u32.wrap (mixF b * 2 ^ min (32 - if (if 32 < n then 32 else n) > 1 then if 32 < n then 32 else n else 1).toNat IntKind.u32.bits)).fdiv (2 ^ min (32 - if (if 32 < n then 32 else n) > 1 then if 32 < n then 32 else n else 1).toNat IntKind.u32.bits) = textF b n := by
  rw [textF_mod b n hn]
  have e : (if (if 32 < n then 32 else n) > 1 then if 32 < n then 32 else n else 1) = n := by split <;> split at * <;> omega
  rw [e]
  have e2 : min (32 - n).toNat IntKind.u32.bits = (32 - n).toNat := by rw [show IntKind.u32.bits = 32 from rfl]; omega
  rw [e2, Int.fdiv_eq_ediv_of_nonneg _ (Int.le_of_lt (Int.pow_pos (by decide))), IntKind.wrap_u32']
  exact shifts_mod (mixF b) n.toNat (32 - n).toNat (by omega)
theorem refSumL (b : ByteArray) (n h : Int) (hb : b.size ≤ 1000000) : LoopG Try.prog 0 Try.f33 0 (.exit 0) (stOf 38 [(1, .int .i64 n), (5, .int .u32 (sumK b h b.size))] []) (stOf 38 [(0, .slv b.size 1 (bytesAV b)), (1, .int .i64 n), (5, .int .u32 h), (6, .int .i64 0)] []) := by
  refine loopG_of b.size (fun k => stOf 38 [(0, .slv b.size 1 (bytesAV b)), (1, .int .i64 n), (5, .int .u32 (sumK b h k)), (6, .int .i64 (k : Int))] []) (by kernel_rfl) (by simp) ?_ ?_
  · intro k hk
    have e1' := (congrArg (fun z => AV.fptr z) (bytes_at (b) (k) (by assumption)))
    have e2' := (congrArg (fun z => AV.int .u32 z) (sum_next (b) (h) (k) (by assumption)))
    have e3' := (congrArg (fun z => AV.int .i64 z) (wrap_i64 (e := (↑k : Int) + (1 : Int)) (by omega) (by omega)))
    exact g_x [⟨4, [], .br true .no⟩, ⟨8, [], .as (rhsOf e1')⟩, ⟨12, [], .as (rhsOf e2')⟩, ⟨15, [], .as (rhsOf e3')⟩] [.sel [0, 1, 5, 6]] (And.intro (show decide ((↑k : Int) < (↑b.size : Int)) = true from (by rw [decide_eq_true_iff]; omega)) (And.intro (show (0 : Int) ≤ (↑k : Int) ∧ (↑k : Int) < (↑b.size : Int) from (by omega)) (And.intro e1' (And.intro (show 1 ≤ (AV.int .u8 (↑(b.data.toList.getD k (0 : UInt8)).toNat : Int) :: List.drop (k + 1) (bytesAV b)).length from (by exact Nat.le_of_ble_eq_true (by kernel_rfl))) (And.intro e2' e3')))))
  · exact g_x [⟨4, [], .br false .no⟩] [.sel [1, 5]] (show decide ((↑b.size : Int) < (↑b.size : Int)) = false from (by rw [decide_eq_false_iff_not]; omega))
theorem refSum_v (b : ByteArray) (n : Int) (hb : b.size ≤ 1000000) (hn : 1 ≤ n ∧ n ≤ 32) : CallsV Try.prog 33 [.slv b.size 1 (bytesAV b), .int .i64 n] [] (fun av H' => av = .int .u32 (textF b n) ∧ H' = []) := by
  refine callsG_at Try.func33 (by kernel_rfl) ?_
  have e1' := refSumL b n 2166136261 hb
  have e2' := (congrArg (fun z => AV.int .i64 z) (wrap_i64 (e := (32 : Int) - if (if (32 : Int) < n then (32 : Int) else n) > (1 : Int) then if (32 : Int) < n then (32 : Int) else n else (1 : Int)) (by omega) (by omega)))
  have e3' := (congrArg (fun z => AV.int .u64 z) (wrap_u64 (e := (32 : Int) - if (if (32 : Int) < n then (32 : Int) else n) > (1 : Int) then if (32 : Int) < n then (32 : Int) else n else (1 : Int)) (by omega) (by omega)))
  refine g_q [⟨3, [.sel [0, 1, 5, 6]], .loop (exOf e1') (endOf e1')⟩, ⟨13, [], .as (rhsOf e2')⟩, ⟨14, [], .as (rhsOf e3')⟩, ⟨19, [], .as (rhsOf e2')⟩, ⟨20, [], .as (rhsOf e3')⟩] [.sel [4]] Exit.ret (stOf 38 [(4, AV.int .u32 ((IntKind.u32.wrap (IntKind.u32.wrap (↑(BitVec.ofInt IntKind.u32.bits (sumK b (2166136261 : Int) b.size) ^^^ BitVec.ofInt IntKind.u32.bits ((sumK b (2166136261 : Int) b.size).fdiv ((2 : Int) ^ min (Int.toNat (16 : Int)) IntKind.u32.bits))).toNat : Int) * (2 : Int) ^ min ((32 : Int) - if (if (32 : Int) < n then (32 : Int) else n) > (1 : Int) then if (32 : Int) < n then (32 : Int) else n else (1 : Int)).toNat IntKind.u32.bits)).fdiv ((2 : Int) ^ min ((32 : Int) - if (if (32 : Int) < n then (32 : Int) else n) > (1 : Int) then if (32 : Int) < n then (32 : Int) else n else (1 : Int)).toNat IntKind.u32.bits)))] []) (And.intro e1' (And.intro (show (0 : Int) ≤ (16 : Int) from (by omega)) (And.intro e2' (And.intro e3' (And.intro (show (0 : Int) ≤ (32 : Int) - if (if (32 : Int) < n then (32 : Int) else n) > (1 : Int) then if (32 : Int) < n then (32 : Int) else n else (1 : Int) from (by omega)) (And.intro e2' (And.intro e3' (show (0 : Int) ≤ (32 : Int) - if (if (32 : Int) < n then (32 : Int) else n) > (1 : Int) then if (32 : Int) < n then (32 : Int) else n else (1 : Int) from (by omega))))))))) ?_
  refine g_f [] [] (AV.int .u32 ((IntKind.u32.wrap (IntKind.u32.wrap (↑(BitVec.ofInt IntKind.u32.bits (sumK b (2166136261 : Int) b.size) ^^^ BitVec.ofInt IntKind.u32.bits ((sumK b (2166136261 : Int) b.size).fdiv ((2 : Int) ^ min (Int.toNat (16 : Int)) IntKind.u32.bits))).toNat : Int) * (2 : Int) ^ min ((32 : Int) - if (if (32 : Int) < n then (32 : Int) else n) > (1 : Int) then if (32 : Int) < n then (32 : Int) else n else (1 : Int)).toNat IntKind.u32.bits)).fdiv ((2 : Int) ^ min ((32 : Int) - if (if (32 : Int) < n then (32 : Int) else n) > (1 : Int) then if (32 : Int) < n then (32 : Int) else n else (1 : Int)).toNat IntKind.u32.bits))) ([]) trivial ?_
  exact ⟨congrArg (AV.int .u32) (refF_eq b n hn), rfl⟩
end Go.Proofs.Ytkdgnjoofhckeaa
