/-
  Stores: the example; the first law.
-/
import Derived.Test.YtkdgnjoofhckeaaCF
namespace Go.Proofs.Ytkdgnjoofhckeaa
open Go Go.RowKit V
set_option linter.unusedSimpArgs false
set_option linter.unusedVariables false
set_option maxHeartbeats 20000000
abbrev sA : ByteArray := .mk #[97]
abbrev sB : ByteArray := .mk #[98]
abbrev sC : ByteArray := .mk #[99]
theorem awake_v : CallsV Try.prog 12 [] [] (fun av H' => av = .bool true ∧ H' = []) := by
  refine callsG_at Try.func12 (by kernel_rfl) ?_
  have hA : textF sA 1 = 0 := by kernel_rfl
  have hB : textF sB 1 = 1 := by kernel_rfl
  have hC : textF sC 1 = 0 := by kernel_rfl
  have c1 := new_v 1 2 (by omega) (by omega)
  have c2 := put_F 1 2 [] [] sA (by decide) (by decide) (by decide) (by decide) (fun k hk => absurd hk (by simp))
  have c3 := put_F 1 2 [(sA, 0)] [0] sB (by decide) (by decide) (by decide) (by decide) (fun k hk => by
    obtain rfl : k = 0 := by simpa using hk
    kernel_rfl)
  have c4 := put_E 1 [(sA, 0), (sB, 0)] [0, 1] sC (by decide) (by decide) (by decide) (by decide) (fun k hk => by
    rcases (show k = 0 ∨ k = 1 by simp at hk; omega) with rfl | rfl <;> kernel_rfl)
  have c5 := get_F 1 2 [(sB, 0), (sC, 1)] [0, 1, 0] 0 0 (by decide) (fun k hk => by
    rcases (show k = 0 ∨ k = 1 by simp at hk; omega) with rfl | rfl <;> kernel_rfl)
  have c6 := get_T 1 2 [(sB, 0), (sC, 1)] [0, 1, 0] 0 1 (by decide) 1 (by decide) (by decide) (fun k hk => by
    obtain rfl : k = 0 := by omega
    kernel_rfl) (by kernel_rfl)
  have c7 := len_v 1 2 [(sB, 0), (sC, 1)] [0, 1, 0]
  simp only [keyV] at c2 c3 c4
  rw [hA] at c2
  rw [hB] at c3
  rw [hC] at c4
  unfold storeH at c1 c7
  unfold storeH storeD at c2 c3 c4 c5 c6
  have e1' := c1
  have e2' := c2
  have e3' := c3
  have e4' := c4
  have e5' := c5
  have e6' := c6
  have e7' := c7
  refine g_q [⟨1, [], .call (avOf e1') (blOf e1') [false, false, false]⟩, ⟨17, [], .callS [0, 1, 2] [false, false, false] (avOf e2') (blOf e2') [false, false, false, false]⟩, ⟨27, [], .callS [0, 4, 2] [false, false, false] (avOf e3') (blOf e3') [false, false, false, false]⟩, ⟨37, [], .callS [0, 7, 2] [false, false, false] (avOf e4') (blOf e4') [false, false, false, false]⟩, ⟨46, [], .callS [0, 10, 2] [false, false, false] (avOf e5') (blOf e5') [false, false, false, false]⟩, ⟨54, [], .callS [0, 12, 2] [false, false, false] (avOf e6') (blOf e6') [false, false, false, false]⟩, ⟨87, [], .callS [0, 13, 2] [false, false, false] (avOf e7') (blOf e7') [false, false, false]⟩] [.sel [0]] Exit.ret (stOf 86 [(0, AV.bool true)] [Blk.row 48 [AV.int .i64 (1 : Int), AV.int .i64 (2 : Int), AV.sl 13 0 2 3, AV.map 2], Blk.dead, Blk.map [(AV.int .u32 (0 : Int), AV.int .i64 (2 : Int)), (AV.int .u32 (1 : Int), AV.int .i64 (1 : Int))], Blk.dead, Blk.dead, Blk.row 44 [AV.int .u32 (0 : Int), AV.int .i64 (0 : Int)], Blk.dead, Blk.dead, Blk.row 44 [AV.int .u32 (1 : Int), AV.int .i64 (0 : Int)], Blk.dead, Blk.dead, Blk.row 44 [AV.int .u32 (0 : Int), AV.int .i64 (1 : Int)], Blk.dead, Blk.row 65 [AV.int .u32 (1 : Int), AV.int .i64 (0 : Int), AV.slv 1 1 [AV.int .u8 (98 : Int)], AV.int .u32 (0 : Int), AV.int .i64 (1 : Int), AV.slv 1 1 [AV.int .u8 (99 : Int)]]]) (And.intro e1' (And.intro (show ∀ (y : AV), y ∈ [AV.int .u8 (97 : Int)] → noid0 y = true ∧ y ≠ AV.junk from (by intro x hx; simp only [List.mem_cons, List.not_mem_nil, or_false] at hx; rcases hx with rfl | rfl | rfl | rfl <;> simp [noid0])) (And.intro (show 0 < 1 from (by omega)) (And.intro (show 1 ≤ 1 from (by omega)) (And.intro e2' (And.intro (show 2 ≤ 2 from (by omega)) (And.intro (show ∀ (y : AV), y ∈ [AV.int .u8 (98 : Int)] → noid0 y = true ∧ y ≠ AV.junk from (by intro x hx; simp only [List.mem_cons, List.not_mem_nil, or_false] at hx; rcases hx with rfl | rfl | rfl | rfl <;> simp [noid0])) (And.intro (show 0 < 1 from (by omega)) (And.intro (show 1 ≤ 1 from (by omega)) (And.intro e3' (And.intro (show 2 ≤ 2 from (by omega)) (And.intro (show ∀ (y : AV), y ∈ [AV.int .u8 (99 : Int)] → noid0 y = true ∧ y ≠ AV.junk from (by intro x hx; simp only [List.mem_cons, List.not_mem_nil, or_false] at hx; rcases hx with rfl | rfl | rfl | rfl <;> simp [noid0])) (And.intro (show 0 < 1 from (by omega)) (And.intro (show 1 ≤ 1 from (by omega)) (And.intro e4' (And.intro (show 2 ≤ 2 from (by omega)) (And.intro (show 2 ≤ 2 from (by omega)) (And.intro e5' (And.intro (show 2 ≤ 2 from (by omega)) (And.intro e6' (And.intro (show 2 ≤ 2 from (by omega)) (And.intro (show 2 ≤ 2 from (by omega)) (And.intro (show 2 ≤ 2 from (by omega)) (And.intro (show 2 ≤ 2 from (by omega)) (And.intro (show 2 ≤ 2 from (by omega)) (And.intro (show 2 ≤ 2 from (by omega)) (And.intro (show [AV.int .u8 (99 : Int)].all isU8 = true from (by kernel_rfl)) e7'))))))))))))))))))))))))))) ?_
  refine g_f [] [] (AV.bool true) ([]) trivial ?_
  exact ⟨rfl, rfl⟩
end Go.Proofs.Ytkdgnjoofhckeaa
