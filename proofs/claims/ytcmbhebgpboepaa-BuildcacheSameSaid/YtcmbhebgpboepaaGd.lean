/-
  Caches: the laws' arguments; the example.
-/
import Derived.Test.YtcmbhebgpboepaaGc
import Derived.Test.YtcmbhebgpboepaaVo
import Derived.Test.YtcmbhebgpboepaaVgood
namespace Go.Proofs.Ytcmbhebgpboepaa
open Go Go.RowKit V
set_option linter.unusedSimpArgs false
set_option linter.unusedVariables false
set_option maxHeartbeats 20000000
def encZ (z : Int × Int) : List AV := [.int .u8 z.1, .int .u8 z.2]
abbrev stepsV (l : List (Int × Int)) : AV := .slv l.length 2 (flatA encZ l)
theorem steps_at (l : List (Int × Int)) (k : Nat) (hk : k < l.length) : (flatA encZ l).drop ((k : Int).toNat * 2) = AV.int .u8 (l.getD k (0, 0)).1 :: AV.int .u8 (l.getD k (0, 0)).2 :: flatA encZ (l.drop (k + 1)) := flatA_at (enc := encZ) (n := 2) (fun _ => rfl) l (0, 0) k hk
theorem getD_all {α : Type} {p : α → Prop} {l : List α} (h : ∀ x ∈ l, p x) {k : Nat} (hk : k < l.length) (d : α) : p (l.getD k d) := by
  rw [List.getD_eq_getElem?_getD, List.getElem?_eq_getElem hk]; exact h _ (List.getElem_mem hk)
def encZV (z : Int × Int) : List Value := [.int .u8 z.1, .int .u8 z.2]
theorem pairZ : PairE encZV encZ := fun _ => rfl
theorem encZ_ok : Enc encZV 2 := ⟨fun _ => rfl, fun x u hu => by simp [encZV] at hu; rcases hu with rfl | rfl <;> rfl, by omega⟩
theorem arg_steps {w : World} {v : Value} (h : Arg Try.prog w 22 v) : ∃ l : List (Int × Int), Rep pl0 w v (stepsV l) ∧ (∀ z ∈ l, (0 ≤ z.1 ∧ z.1 ≤ 255) ∧ (0 ≤ z.2 ∧ z.2 ≤ 255)) ∧ l.length ≤ 9223372036854775807 := by
  obtain ⟨a, len, cap, rfl, h1, h2, h3, vs, h4, h5, h6⟩ := Arg.slice Try.underlying22 (ts := [5, 5]) (by kernel_rfl) (by kernel_rfl) (by decide) h
  have h4' : vs.length = len * 2 := h4
  obtain ⟨l, g1, rfl, g3⟩ := rows_of (enc := encZV) (size := 2) (fun z => (0 ≤ z.1 ∧ z.1 ≤ 255) ∧ (0 ≤ z.2 ∧ z.2 ≤ 255)) len vs h4' (fun i hi => by
    have a0 := h6 i hi 0 (by simp) (by simp only [List.length_cons, List.length_nil]; omega)
    have a1 := h6 i hi 1 (by simp) (by simp only [List.length_cons, List.length_nil]; omega)
    unfold Good at a0 a1
    simp only [List.getElem_cons_zero, List.getElem_cons_succ, Try.underlying5] at a0 a1
    obtain ⟨y, e0, hy⟩ := a0
    obtain ⟨z, e1, hz⟩ := a1
    refine ⟨(y, z), ?_, wf_u8 hy, wf_u8 hz⟩
    simp only [List.length_cons, List.length_nil, Nat.zero_add] at e0 e1
    rw [List.drop_eq_getElem_cons (by omega), List.drop_eq_getElem_cons (by omega), List.take_succ_cons, List.take_succ_cons, List.take_zero]
    exact congr (congrArg _ e0) (congrArg (fun x => [x]) e1))
  refine ⟨l, ?_, g3, by unfold maxLen at h2; omega⟩
  have := rep_of_rowV (p := pl0) pairZ encZ_ok g1 h1 h3 h5 h2 (fun x _ => pl0_M _)
  rw [← g1] at this ⊢
  exact this
abbrev sA : ByteArray := ByteArray.mk #[97]
abbrev sB : ByteArray := ByteArray.mk #[98]
theorem awake_v : CallsV Try.prog 13 [] [] (fun av H' => av = .bool true ∧ H' = []) := by
  refine callsG_at Try.func13 (by kernel_rfl) ?_
  have c1 := new_v 1 1 (by omega) (by omega)
  have c2 := put_F 1 1 [] sA 1 (by decide) (by decide) (by decide) (fun k hk => absurd hk (by simp))
  have c3 := put_E 1 [(sA, 1)] sB 2 (by decide) (by decide) (by decide) (fun k hk => by
    obtain rfl : k = 0 := by simpa using hk
    kernel_rfl)
  have c4 := get_F 1 1 [(sB, 2)] sA (by decide) (by decide) (by decide) (fun k hk => by
    obtain rfl : k = 0 := by simpa using hk
    kernel_rfl)
  have c5 := get_T 1 1 [(sB, 2)] sB (by decide) (by decide) 0 (by decide) (fun k hk => absurd hk (by simp)) rfl
  have c6 := len_v 1 1 [(sB, 2)]
  unfold cacheH at c1
  unfold cacheH cacheD at c2 c3 c4 c5
  unfold cacheH at c6
  have e1' := c1
  have e2' := obj_v 1
  have e3' := c2
  have e4' := obj_v 2
  have e5' := c3
  have e6' := c4
  have e7' := c5
  have e8' := refOb1 2
  have e9' := c6
  refine g_qB [⟨1, [], .call (avOf e1') (blOf e1') [false, false]⟩, ⟨15, [], .call (avOf e2') (blOf e2') []⟩, ⟨16, [], .callS [0, 1] [false, false] (avOf e3') (blOf e3') [false, false, false]⟩, ⟨18, [], .call (avOf e4') (blOf e4') []⟩, ⟨19, [], .callS [0, 2] [false, false] (avOf e5') (blOf e5') [false, false, false]⟩, ⟨21, [], .callS [0, 3] [false, false] (avOf e6') (blOf e6') [false, false, false]⟩, ⟨29, [], .callS [0, 4] [false, false] (avOf e7') (blOf e7') [false, false, false]⟩, ⟨43, [], .call (avOf e4') (blOf e4') []⟩, ⟨44, [], .call (avOf e8') (blOf e8') []⟩, ⟨48, [], .callS [0, 6] [false, false] (avOf e9') (blOf e9') [false, false]⟩] [.sel [0]] Exit.ret (stOf 48 [(0, AV.bool true)] [Blk.row 40 [AV.int .i64 (1 : Int), AV.int .i64 (1 : Int), AV.sl 6 0 1 6], Blk.dead, Blk.dead, Blk.dead, Blk.dead, Blk.row 49 [AV.str ByteArray.empty, AV.nilsl, AV.nilsl, AV.nilsl], Blk.row 73 [AV.int .u32 (1 : Int), AV.str (sB, (2 : Int)).fst, AV.str sM, AV.slv 1 3 [AV.str sF, AV.nilsl, AV.int .i64 (3 : Int)], AV.slv 1 5 [AV.str sMF, AV.nilsl, AV.int .i64 (3 : Int), AV.nilsl, AV.slv 2 2 [AV.int .i64 (1 : Int), AV.int .i64 (2 : Int), AV.int .i64 (16 : Int), AV.int .i64 (0 : Int)]], AV.slv 1 1 [AV.str sMF]], Blk.row 49 [AV.str sM, AV.slv 1 3 [AV.str sF, AV.nilsl, AV.int .i64 (3 : Int)], AV.slv 1 5 [AV.str sMF, AV.nilsl, AV.int .i64 (3 : Int), AV.nilsl, AV.slv 2 2 [AV.int .i64 (1 : Int), AV.int .i64 (2 : Int), AV.int .i64 (16 : Int), AV.int .i64 (0 : Int)]], AV.slv 1 1 [AV.str sMF]]]) (And.intro e1' (And.intro e2' (And.intro e3' (And.intro e4' (And.intro e5' (And.intro e6' (And.intro (show 4 ≤ 4 from (by omega)) (And.intro e7' (And.intro (show 4 ≤ 4 from (by omega)) (And.intro (show 4 ≤ 4 from (by omega)) (And.intro e4' (And.intro e4' (And.intro (show 4 ≤ 4 from (by omega)) (And.intro e8' e9')))))))))))))) ?_
  refine g_f [] [] (AV.bool true) ([]) trivial ?_
  exact ⟨rfl, rfl⟩
end Go.Proofs.Ytcmbhebgpboepaa
