/-
  Stores: the law about bytes of its own.
-/
import Derived.Test.YtkdgnjoofhckeaaCI
namespace Go.Proofs.Ytkdgnjoofhckeaa
open Go Go.RowKit V
set_option linter.unusedSimpArgs false
set_option linter.unusedVariables false
set_option maxHeartbeats 20000000
theorem idxE (d : Int) (cs : List AV) (hc : ∀ x ∈ cs, noid0 x = true) : CallsV Try.prog 27 [.sl 0 0 0 3, fnV] [.row 65 [], .row 42 [.int .u32 d], .row 41 [.sl 3 0 4 1], .row 5 cs] (fun av H' => av = .int .i64 (-1) ∧ H' = [.row 65 [], .row 42 [.int .u32 d], .row 41 [.sl 3 0 4 1], .row 5 cs]) := by
  refine callsG_at Try.func27 (by kernel_rfl) ?_
  have unroll := trivial
  refine g_q [] [.sel [4]] Exit.ret (stOf 19 [(4, AV.int .i64 (-1 : Int))] [Blk.row 65 [], Blk.row 42 [AV.int .u32 d], Blk.row 41 [AV.sl 3 0 4 1], Blk.row 5 cs]) trivial ?_
  refine g_f [0, 1, 2, 3] [false, false, false, true] (AV.int .i64 (-1 : Int)) ([Blk.row 65 [], Blk.row 42 [AV.int .u32 d], Blk.row 41 [AV.sl 3 0 4 1], Blk.row 5 cs]) (show ∀ (x : AV), x ∈ cs → noid0 x = true from hc) ?_
  exact ⟨rfl, rfl⟩
def ownH (cs : List AV) : List Blk := [.row 48 [.int .i64 4, .int .i64 2, .sl 2 0 0 3, .map 3], .row 5 cs, .row 65 [], .map []]
theorem find_own (d : Int) (cs : List AV) (hc : ∀ x ∈ cs, noid0 x = true) : CallsV Try.prog 24 [.ptr 0 0, .int .u32 d, .sl 1 0 4 1] (ownH cs) (fun av H' => av = .int .i64 (-1) ∧ H' = ownH cs) := by
  refine callsG_at Try.func24 (by kernel_rfl) ?_
  have hi := idxE d cs hc
  unfold ownH
  have e1' := hi
  refine g_q [⟨8, [], .callS [2, 4, 5, 1] [false, false, false, true] (avOf e1') (blOf e1') [false, false, false, true]⟩] [.sel [6]] Exit.ret (stOf 13 [(6, AV.int .i64 (-1 : Int))] [Blk.row 48 [AV.int .i64 (4 : Int), AV.int .i64 (2 : Int), AV.sl 2 0 0 3, AV.map 3], Blk.row 5 cs, Blk.row 65 [], Blk.map [], Blk.row 42 [AV.int .u32 d], Blk.row 41 [AV.sl 1 0 4 1]]) (And.intro (show 1 ≤ 2 from (by omega)) (And.intro (show ∀ (x : AV), x ∈ cs → noid0 x = true from hc) (And.intro (show ∀ (x : AV), x ∈ cs → noid0 x = true from hc) e1'))) ?_
  refine g_f [0, 1, 2, 3] [false, true, false, false] (AV.int .i64 (-1 : Int)) ([Blk.row 48 [AV.int .i64 (4 : Int), AV.int .i64 (2 : Int), AV.sl 2 0 0 3, AV.map 3], Blk.row 5 cs, Blk.row 65 [], Blk.map []]) (show ∀ (x : AV), x ∈ cs → noid0 x = true from hc) ?_
  exact ⟨rfl, rfl⟩
theorem mapC_nil : mapC [] = [] := rfl
theorem put_own (B : ByteArray) (hsz : B.size = 4) (cs : List AV) (hcs : bytesAV B = cs) (l : List It) (hl : l = [(B, 0)]) (A : List Int) (hA : A = [textF B 4]) : CallsV Try.prog 13 [.ptr 0 0, .sl 1 0 4 1] (ownH cs) (fun av H' => av = .tuple [.agg [.int .u32 (textF B 4), .int .i64 0], .bool true] ∧ H' = [.row 48 [.int .i64 4, .int .i64 2, .sl 4 0 1 3, .map 3], .row 5 cs, .dead, .map (mapC A), .row 65 (flatA (encP 4) l), .dead]) := by
  have hc := bytes_noid B
  have hln : cs.length = 4 := by rw [← hcs, bytesAV_len, hsz]
  have hlend : ∀ x ∈ cs, noid0 x = true ∧ x ≠ .junk := fun x hx => by
    rw [← hcs] at hx
    refine ⟨bytes_noid B x hx, fun he => ?_⟩
    subst he
    unfold bytesAV at hx
    obtain ⟨c, _, hc⟩ := List.mem_map.1 hx
    cases hc
  have hpl : ∀ x ∈ cs, plain0 x = true := fun x hx => by
    rw [← hcs] at hx
    unfold bytesAV at hx
    obtain ⟨c, _, rfl⟩ := List.mem_map.1 hx
    rfl
  have hnov : cs.all nov0 = true := by
    rw [← hcs]
    unfold bytesAV
    rw [List.all_map, List.all_eq_true]
    intro c _
    rfl
  have hbv : bv B = .slv 4 1 cs := by rw [← hsz, ← hcs]
  have hit : flatA (encP 4) l = [.int .u32 (textF B 4), .int .i64 0, .slv 4 1 cs] := by
    rw [hl, ← hbv]; rfl
  have hm : mapC A = [(AV.int .u32 (textF B 4), AV.int .i64 1)] := by rw [hA]; rfl
  have sv := sum_v B 4 (by omega)
  rw [hsz, hcs] at sv
  rw [hcs] at hc
  rw [hit, hm]
  refine CallsV.post (R := fun av H' => av = .tuple [.agg [.int .u32 (textF B 4), .int .i64 0], .bool true] ∧ H' = [.row 48 [.int .i64 4, .int .i64 2, .sl 4 0 1 3, .map 3], .row 5 cs, .dead, .map [(AV.int .u32 (textF B 4), AV.int .i64 1)], .row 65 [.int .u32 (textF B 4), .int .i64 0, .sl 5 0 4 1], .row 5 cs]) ?_ ?_
  · refine callsG_at Try.func13 (by kernel_rfl) ?_
    have bc := bclone_o 3 cs hln (by decide) hc
    have e1 : List.take (4 * 1) cs = cs := List.take_of_length_le (by omega)
    have e2 : List.take 4 cs = cs := List.take_of_length_le (by omega)
    have hf := find_own (textF B 4) cs hc
    have hnv : (novR (AV.sl 0 0 (3 + 1) 1) && [Blk.row 5 cs].all novB) = true := by simp [novR, nov1, nov0, novB, hnov]
    unfold ownH at hf ⊢
    generalize textF B 4 = d at *
    clear hit hm hl hA hcs hbv
    have e1' := (show Reads [Blk.row 48 [AV.int .i64 (4 : Int), AV.int .i64 (2 : Int), AV.sl 2 0 0 3, AV.map 3], Blk.row 5 cs, Blk.row 65 [], Blk.map [], Blk.row 44 [AV.int .u32 (0 : Int), AV.int .i64 (0 : Int)]] [AV.sl 1 0 4 1, AV.int .i64 (4 : Int)] [AV.slv 4 1 cs, AV.int .i64 (4 : Int)] from (Reads.cons (Reads1.sl (t := 5) (xs := cs) (by kernel_rfl) (show ∀ (x : AV), x ∈ cs → noid0 x = true ∧ x ≠ AV.junk from hlend) (show 4 ≤ cs.length from (by omega)) e1) (Reads.cons (Reads1.val (by kernel_rfl)) Reads.nil)))
    have e2' := sv
    have e3' := hf
    have e4' := (show Reads [Blk.row 48 [AV.int .i64 (4 : Int), AV.int .i64 (2 : Int), AV.sl 2 0 0 3, AV.map 3], Blk.row 5 cs, Blk.row 65 [], Blk.map [(AV.int .u32 d, AV.int .i64 (1 : Int))], Blk.row 44 [AV.int .u32 (0 : Int), AV.int .i64 (0 : Int)], Blk.row 44 [AV.int .u32 d, AV.int .i64 (0 : Int)]] [AV.sl 1 0 4 1] [AV.slv 4 1 cs] from (Reads.cons (Reads1.sl (t := 5) (xs := cs) (by kernel_rfl) (show ∀ (x : AV), x ∈ cs → noid0 x = true ∧ x ≠ AV.junk from hlend) (show 4 ≤ cs.length from (by omega)) e1) Reads.nil))
    have e5' := bc
    refine g_q [⟨17, [], .lend (rdOf e1') (avOf e2') (blOf e2') []⟩, ⟨22, [], .callS [0, 1, 2, 3] [false, true, false, false] (avOf e3') (blOf e3') [false, true, false, false]⟩, ⟨63, [], .lend (rdOf e4') (avOf e5') (blOf e5') [true]⟩] [.sel [4, 5]] Exit.ret (stOf 85 [(4, AV.ptr 4 0), (5, AV.bool true)] [Blk.row 48 [AV.int .i64 (4 : Int), AV.int .i64 (2 : Int), AV.sl 8 0 1 3, AV.map 3], Blk.row 5 cs, Blk.dead, Blk.map [(AV.int .u32 d, AV.int .i64 (1 : Int))], Blk.row 44 [AV.int .u32 d, AV.int .i64 (0 : Int)], Blk.row 44 [AV.int .u32 d, AV.int .i64 (0 : Int)], Blk.row 5 cs, Blk.row 65 [AV.int .u32 d, AV.int .i64 (0 : Int), AV.sl 6 0 4 1], Blk.row 65 [AV.int .u32 d, AV.int .i64 (0 : Int), AV.sl 6 0 4 1]]) (And.intro (show 1 ≤ 3 from (by omega)) (And.intro (show 1 ≤ 4 from (by omega)) (And.intro e1' (And.intro (show (novR (AV.int .u32 d) && [].all novB) = true from (by kernel_rfl)) (And.intro e2' (And.intro (show ∀ (x : AV), x ∈ cs → noid0 x = true from hc) (And.intro (show ∀ (x : AV), x ∈ cs → noid0 x = true from hc) (And.intro e3' (And.intro (show 1 ≤ 2 from (by omega)) (And.intro (show 1 ≤ 3 from (by omega)) (And.intro (show 1 ≤ 1 from (by omega)) (And.intro (show (findA (Try.prog.underlying 42) ((St.mk [AV.ptr 0 0, AV.sl 1 0 4 1, AV.junk, AV.junk, AV.ptr 4 0, AV.bool false, AV.int .u32 d, AV.int .i64 (-1 : Int), AV.junk, AV.junk, AV.ptr 0 0, AV.bool false, AV.bool false, AV.ptr 0 0, AV.ptr 0 0, AV.ptr 0 1, AV.int .i64 (2 : Int), AV.bool false, AV.bool false, AV.junk, AV.sl 1 0 4 1, AV.ptr 0 0, AV.ptr 0 0, AV.ptr 0 0, AV.int .i64 (4 : Int), AV.int .u32 d, AV.ptr 0 0, AV.int .u32 d, AV.sl 1 0 4 1, AV.int .i64 (-1 : Int), AV.int .i64 (-1 : Int), AV.bool false, AV.junk, AV.junk, AV.junk, AV.junk, AV.junk, AV.junk, AV.junk, AV.junk, AV.junk, AV.junk, AV.junk, AV.junk, AV.ptr 0 0, AV.ptr 0 0, AV.ptr 0 2, AV.sl 2 0 0 3, AV.int .i64 (0 : Int), AV.ptr 0 0, AV.ptr 0 0, AV.ptr 0 1, AV.int .i64 (2 : Int), AV.bool false, AV.junk, AV.junk, AV.int .u32 d, AV.ptr 0 0, AV.ptr 0 0, AV.ptr 0 3, AV.map 3, AV.int .u32 d, AV.junk, AV.junk, AV.junk, AV.junk, AV.junk, AV.junk, AV.junk, AV.junk, AV.junk, AV.junk, AV.junk, AV.junk, AV.junk, AV.junk, AV.junk, AV.junk, AV.junk, AV.junk, AV.junk, AV.junk, AV.junk, AV.junk, AV.junk] [Blk.row 48 [AV.int .i64 (4 : Int), AV.int .i64 (2 : Int), AV.sl 2 0 0 3, AV.map 3], Blk.row 5 cs, Blk.row 65 [], Blk.map [], Blk.row 44 [AV.int .u32 (0 : Int), AV.int .i64 (0 : Int)]]).ev (Operand.tmp 61)) []).isSome = true from (by kernel_rfl)) (And.intro (show 2 ≤ 2 from (by omega)) (And.intro (show 1 ≤ 1 from (by omega)) (And.intro (show (findA (Try.prog.underlying 42) ((St.mk [AV.ptr 0 0, AV.sl 1 0 4 1, AV.junk, AV.junk, AV.ptr 4 0, AV.bool false, AV.int .u32 d, AV.int .i64 (-1 : Int), AV.junk, AV.ptr 5 0, AV.ptr 0 0, AV.bool false, AV.bool false, AV.ptr 0 0, AV.ptr 0 0, AV.ptr 0 1, AV.int .i64 (2 : Int), AV.bool false, AV.bool false, AV.junk, AV.sl 1 0 4 1, AV.ptr 0 0, AV.ptr 0 0, AV.ptr 0 0, AV.int .i64 (4 : Int), AV.int .u32 d, AV.ptr 0 0, AV.int .u32 d, AV.sl 1 0 4 1, AV.int .i64 (-1 : Int), AV.int .i64 (-1 : Int), AV.bool false, AV.junk, AV.junk, AV.junk, AV.junk, AV.junk, AV.junk, AV.junk, AV.junk, AV.junk, AV.junk, AV.junk, AV.junk, AV.ptr 0 0, AV.ptr 0 0, AV.ptr 0 2, AV.sl 2 0 0 3, AV.int .i64 (0 : Int), AV.ptr 0 0, AV.ptr 0 0, AV.ptr 0 1, AV.int .i64 (2 : Int), AV.bool false, AV.junk, AV.junk, AV.int .u32 d, AV.ptr 0 0, AV.ptr 0 0, AV.ptr 0 3, AV.map 3, AV.int .u32 d, AV.int .i64 (0 : Int), AV.agg [AV.int .u32 d, AV.int .i64 (0 : Int)], AV.ptr 0 0, AV.ptr 0 0, AV.ptr 0 3, AV.map 3, AV.int .u32 d, AV.junk, AV.junk, AV.junk, AV.junk, AV.junk, AV.junk, AV.junk, AV.junk, AV.junk, AV.junk, AV.junk, AV.junk, AV.junk, AV.junk, AV.junk, AV.junk] [Blk.row 48 [AV.int .i64 (4 : Int), AV.int .i64 (2 : Int), AV.sl 2 0 0 3, AV.map 3], Blk.row 5 cs, Blk.row 65 [], Blk.map [], Blk.row 44 [AV.int .u32 (0 : Int), AV.int .i64 (0 : Int)], Blk.row 44 [AV.int .u32 d, AV.int .i64 (0 : Int)]]).ev (Operand.tmp 68)) []).isSome = true from (by kernel_rfl)) (And.intro (show (findA (Try.prog.underlying 42) ((St.mk [AV.ptr 0 0, AV.sl 1 0 4 1, AV.junk, AV.junk, AV.ptr 4 0, AV.bool false, AV.int .u32 d, AV.int .i64 (-1 : Int), AV.junk, AV.ptr 5 0, AV.ptr 0 0, AV.bool false, AV.bool false, AV.ptr 0 0, AV.ptr 0 0, AV.ptr 0 1, AV.int .i64 (2 : Int), AV.bool false, AV.bool false, AV.junk, AV.sl 1 0 4 1, AV.ptr 0 0, AV.ptr 0 0, AV.ptr 0 0, AV.int .i64 (4 : Int), AV.int .u32 d, AV.ptr 0 0, AV.int .u32 d, AV.sl 1 0 4 1, AV.int .i64 (-1 : Int), AV.int .i64 (-1 : Int), AV.bool false, AV.junk, AV.junk, AV.junk, AV.junk, AV.junk, AV.junk, AV.junk, AV.junk, AV.junk, AV.junk, AV.junk, AV.junk, AV.ptr 0 0, AV.ptr 0 0, AV.ptr 0 2, AV.sl 2 0 0 3, AV.int .i64 (0 : Int), AV.ptr 0 0, AV.ptr 0 0, AV.ptr 0 1, AV.int .i64 (2 : Int), AV.bool false, AV.junk, AV.junk, AV.int .u32 d, AV.ptr 0 0, AV.ptr 0 0, AV.ptr 0 3, AV.map 3, AV.int .u32 d, AV.int .i64 (0 : Int), AV.agg [AV.int .u32 d, AV.int .i64 (0 : Int)], AV.ptr 0 0, AV.ptr 0 0, AV.ptr 0 3, AV.map 3, AV.int .u32 d, AV.int .i64 (0 : Int), AV.int .i64 (1 : Int), AV.junk, AV.junk, AV.junk, AV.junk, AV.junk, AV.junk, AV.junk, AV.junk, AV.junk, AV.junk, AV.junk, AV.junk, AV.junk, AV.junk] [Blk.row 48 [AV.int .i64 (4 : Int), AV.int .i64 (2 : Int), AV.sl 2 0 0 3, AV.map 3], Blk.row 5 cs, Blk.row 65 [], Blk.map [], Blk.row 44 [AV.int .u32 (0 : Int), AV.int .i64 (0 : Int)], Blk.row 44 [AV.int .u32 d, AV.int .i64 (0 : Int)]]).ev (Operand.tmp 68)) []).isSome = true from (by kernel_rfl)) (And.intro (show 1 ≤ 2 from (by omega)) (And.intro (show 2 ≤ 2 from (by omega)) (And.intro (show ∀ (x : AV), x ∈ cs → plain0 x = true from hpl) (And.intro e4' (And.intro (show (novR (AV.sl 0 0 4 1) && [Blk.row 5 cs].all novB) = true from (by omega)) (And.intro e5' (And.intro (show 0 ≤ 0 from (by omega)) (And.intro (show 3 ≤ 3 from (by omega)) (And.intro (show 40 ≤ 140737488355328 from (by omega)) (And.intro (show 1 ≤ maxLen from (by (unfold maxLen; omega))) (And.intro (show 3 ≤ 4 from (by omega)) (And.intro (show 2 ≤ 2 from (by omega)) (show 2 ≤ 2 from (by omega)))))))))))))))))))))))))))))) ?_
    refine g_f [0, 1, 2, 3, 8, 6] [false, true, false, false, false, true] (AV.tuple [AV.agg [AV.int .u32 d, AV.int .i64 (0 : Int)], AV.bool true]) ([Blk.row 48 [AV.int .i64 (4 : Int), AV.int .i64 (2 : Int), AV.sl 4 0 1 3, AV.map 3], Blk.row 5 cs, Blk.dead, Blk.map [(AV.int .u32 d, AV.int .i64 (1 : Int))], Blk.row 65 [AV.int .u32 d, AV.int .i64 (0 : Int), AV.sl 5 0 4 1], Blk.row 5 cs]) (And.intro (show 2 ≤ 2 from (by omega)) (And.intro (show ∀ (x : AV), x ∈ cs → noid0 x = true from hc) (show ∀ (x : AV), x ∈ cs → noid0 x = true from hc))) ?_
    exact ⟨rfl, rfl⟩
  · rintro _ _ ⟨rfl, rfl⟩
    have e1 : List.take (4 * 1) (List.drop 0 cs) = cs := List.take_of_length_le (by simp; omega)
    refine ⟨_, _, preL_ok (l := [.frzc 4 2]) rfl ?_, rfl, ?_⟩
    · simp [allP_append, allP_cons, allP_dec, allP, hln]
      exact ⟨rfl, fun x hx => hlend x hx⟩
    · show [_, _, _, _, Blk.row 65 [_, _, AV.slv 4 1 (List.take (4 * 1) (List.drop 0 cs))], _] = _
      rw [e1]
theorem own_law (y0 y1 y2 y3 : UInt8) (a c : Int) (ha : 0 ≤ a ∧ a ≤ 255) : CallsV Try.prog 7 [.agg [.int .u8 (y0.toNat : Int), .int .u8 (y1.toNat : Int), .int .u8 (y2.toNat : Int), .int .u8 (y3.toNat : Int)], .int .u8 a, .int .u8 c] [] (fun av H' => av = .bool true ∧ H' = []) := by
  refine callsG_at Try.func7 (by kernel_rfl) ?_
  have aw := awake_v
  obtain ⟨B, hB⟩ : ∃ B : ByteArray, B = ⟨#[y0, y1, y2, y3]⟩ := ⟨_, rfl⟩
  have hsz : B.size = 4 := by rw [hB]; rfl
  have hcs : bytesAV B = [.int .u8 (y0.toNat : Int), .int .u8 (y1.toNat : Int), .int .u8 (y2.toNat : Int), .int .u8 (y3.toNat : Int)] := by rw [hB]; rfl
  have hbv : bv B = .slv 4 1 [.int .u8 (y0.toNat : Int), .int .u8 (y1.toNat : Int), .int .u8 (y2.toNat : Int), .int .u8 (y3.toNat : Int)] := by rw [← hsz, ← hcs]
  have hst := str_bytes B
  rw [hcs] at hst
  have hst2 : strOfNums [(y0.toNat : Int), (y1.toNat : Int), (y2.toNat : Int), (y3.toNat : Int)] = B := hst
  have c1 := new_v 4 2 (by omega) (by omega)
  have c3 := get_T 4 2 [(B, 0)] [textF B 4] (textF B 4) 0 (by simp) 0 (by simp) (by show 0 < B.size ∧ B.size ≤ 1000000; omega) (fun k hk => absurd hk (by omega)) (by simp [keyQ])
  have hbv2 : bv (([(B, 0)] : List It).getD 0 iD).1 = .slv 4 1 [.int .u8 (y0.toNat : Int), .int .u8 (y1.toNat : Int), .int .u8 (y2.toNat : Int), .int .u8 (y3.toNat : Int)] := hbv
  rw [hbv2] at c3
  obtain ⟨l, hl⟩ : ∃ l : List It, l = [(B, 0)] := ⟨_, rfl⟩
  obtain ⟨A, hA⟩ : ∃ A : List Int, A = [textF B 4] := ⟨_, rfl⟩
  have c2 := put_own B hsz _ hcs l hl A hA
  have hll : l.length = 1 := by rw [hl]; rfl
  rw [← hl, ← hA] at c3
  generalize hm : l.eraseIdx 0 ++ [l.getD 0 iD] = m at c3
  unfold storeH at c1
  unfold ownH at c2
  unfold storeH storeD at c3
  rw [hll] at c3
  have n1 := its_noid 4 l
  have n2 := its_noid 4 m
  have n3 := map_plainC A
  generalize textF B 4 = d at *
  generalize mapC A = mA at *
  generalize flatA (encP 4) l = fl at *
  generalize flatA (encP 4) m = fm at *
  clear hl hA hm
  clear hcs hbv hbv2
  have em : a.tmod 4 = a % 4 := Int.tmod_eq_emod_of_nonneg ha.1
  rcases (show a % 4 = 0 ∨ a % 4 = 1 ∨ a % 4 = 2 ∨ a % 4 = 3 by omega) with h | h | h | h
  · rw [h] at em
    have e1' := c1
    have e2' := c2
    have e3' := (congrArg (fun z => AV.int .u8 z) em)
    have e4' := c3
    have e5' := aw
    have e6' := (congrArg (fun z => AV.str z) hst2)
    have e7' := (congrArg (fun z => AV.bool z) (qs (B.toList)))
    refine g_q [⟨2, [], .call (avOf e1') (blOf e1') [false, false, false]⟩, ⟨20, [], .callS [1, 4, 2, 3] [false, false, false, false] (avOf e2') (blOf e2') [false, false, false, true, true, false]⟩, ⟨29, [], .as (rhsOf e3')⟩, ⟨35, [], .callS [1, 5, 3] [false, true, true] (avOf e4') (blOf e4') [false, false, true, true]⟩, ⟨41, [], .call (avOf e5') (blOf e5') []⟩, ⟨50, [], .as (rhsOf e6')⟩, ⟨52, [], .as (rhsOf e6')⟩, ⟨53, [], .as (rhsOf e7')⟩] [.sel [6]] Exit.ret (stOf 57 [(6, AV.bool true)] [Blk.row 60 [AV.int .u8 (↑y0.toNat : Int), AV.int .u8 (↑y1.toNat : Int), AV.int .u8 (↑y2.toNat : Int), AV.int .u8 (↑y3.toNat : Int)], Blk.row 48 [AV.int .i64 (4 : Int), AV.int .i64 (2 : Int), AV.sl 8 0 m.length 3, AV.map 3], Blk.dead, Blk.map mA, Blk.row 5 [AV.int .u8 c, AV.int .u8 (↑y1.toNat : Int), AV.int .u8 (↑y2.toNat : Int), AV.int .u8 (↑y3.toNat : Int)], Blk.dead, Blk.dead, Blk.row 44 [AV.int .u32 d, AV.int .i64 (0 : Int)], Blk.row 65 fm]) (And.intro e1' (And.intro (show (0 : Int) ≤ (0 : Int) ∧ (0 : Int) ≤ (↑4 : Int) ∧ (↑4 : Int) ≤ (↑4 : Int) from (by omega)) (And.intro (show 4 ≤ 4 from (by omega)) (And.intro (show 4 ≤ 4 from (by omega)) (And.intro (show 4 ≤ 140737488355328 from (by omega)) (And.intro (show 4 ≤ maxLen from (by (unfold maxLen; omega))) (And.intro (show ∀ (q : AV × AV), q ∈ mA → plain1 q.fst = true ∧ plain1 q.snd = true from n3) (And.intro (show ∀ (x : AV), x ∈ fl → noid0 x = true from n1) (And.intro e2' (And.intro (show 2 ≤ 2 from (by omega)) (And.intro (show (4 : Int) ≠ (0 : Int) from (by omega)) (And.intro e3' (And.intro (show (0 : Int) ≤ (0 : Int) ∧ (0 : Int) < (↑4 : Int) from (by omega)) (And.intro (show 1 ≤ 4 from (by omega)) (And.intro (show 2 ≤ 2 from (by omega)) (And.intro (show ∀ (x : AV), x ∈ fl → noid0 x = true from n1) (And.intro (show ∀ (q : AV × AV), q ∈ mA → plain1 q.fst = true ∧ plain1 q.snd = true from n3) (And.intro (show ∀ (q : AV × AV), q ∈ mA → plain1 q.fst = true ∧ plain1 q.snd = true from n3) (And.intro (show ∀ (x : AV), x ∈ fm → noid0 x = true from n2) (And.intro e4' (And.intro e5' (And.intro (show [AV.int .u8 (↑y0.toNat : Int), AV.int .u8 (↑y1.toNat : Int), AV.int .u8 (↑y2.toNat : Int), AV.int .u8 (↑y3.toNat : Int)].all isU8 = true from (by kernel_rfl)) (And.intro e6' (And.intro (show (0 : Int) ≤ (0 : Int) ∧ (0 : Int) ≤ (↑4 : Int) ∧ (↑4 : Int) ≤ (↑4 : Int) from (by omega)) (And.intro (show 4 ≤ 4 from (by omega)) (And.intro (show (List.take 4 (List.drop 0 [AV.int .u8 (↑y0.toNat : Int), AV.int .u8 (↑y1.toNat : Int), AV.int .u8 (↑y2.toNat : Int), AV.int .u8 (↑y3.toNat : Int)])).all isU8 = true from (by kernel_rfl)) (And.intro e6' e7'))))))))))))))))))))))))))) ?_
    refine g_f [] [] (AV.bool true) ([]) trivial ?_
    exact ⟨rfl, rfl⟩
  · rw [h] at em
    have e1' := c1
    have e2' := c2
    have e3' := (congrArg (fun z => AV.int .u8 z) em)
    have e4' := c3
    have e5' := aw
    have e6' := (congrArg (fun z => AV.str z) hst2)
    have e7' := (congrArg (fun z => AV.bool z) (qs (B.toList)))
    refine g_q [⟨2, [], .call (avOf e1') (blOf e1') [false, false, false]⟩, ⟨20, [], .callS [1, 4, 2, 3] [false, false, false, false] (avOf e2') (blOf e2') [false, false, false, true, true, false]⟩, ⟨29, [], .as (rhsOf e3')⟩, ⟨35, [], .callS [1, 5, 3] [false, true, true] (avOf e4') (blOf e4') [false, false, true, true]⟩, ⟨41, [], .call (avOf e5') (blOf e5') []⟩, ⟨50, [], .as (rhsOf e6')⟩, ⟨52, [], .as (rhsOf e6')⟩, ⟨53, [], .as (rhsOf e7')⟩] [.sel [6]] Exit.ret (stOf 57 [(6, AV.bool true)] [Blk.row 60 [AV.int .u8 (↑y0.toNat : Int), AV.int .u8 (↑y1.toNat : Int), AV.int .u8 (↑y2.toNat : Int), AV.int .u8 (↑y3.toNat : Int)], Blk.row 48 [AV.int .i64 (4 : Int), AV.int .i64 (2 : Int), AV.sl 8 0 m.length 3, AV.map 3], Blk.dead, Blk.map mA, Blk.row 5 [AV.int .u8 (↑y0.toNat : Int), AV.int .u8 c, AV.int .u8 (↑y2.toNat : Int), AV.int .u8 (↑y3.toNat : Int)], Blk.dead, Blk.dead, Blk.row 44 [AV.int .u32 d, AV.int .i64 (0 : Int)], Blk.row 65 fm]) (And.intro e1' (And.intro (show (0 : Int) ≤ (0 : Int) ∧ (0 : Int) ≤ (↑4 : Int) ∧ (↑4 : Int) ≤ (↑4 : Int) from (by omega)) (And.intro (show 4 ≤ 4 from (by omega)) (And.intro (show 4 ≤ 4 from (by omega)) (And.intro (show 4 ≤ 140737488355328 from (by omega)) (And.intro (show 4 ≤ maxLen from (by (unfold maxLen; omega))) (And.intro (show ∀ (q : AV × AV), q ∈ mA → plain1 q.fst = true ∧ plain1 q.snd = true from n3) (And.intro (show ∀ (x : AV), x ∈ fl → noid0 x = true from n1) (And.intro e2' (And.intro (show 2 ≤ 2 from (by omega)) (And.intro (show (4 : Int) ≠ (0 : Int) from (by omega)) (And.intro e3' (And.intro (show (0 : Int) ≤ (1 : Int) ∧ (1 : Int) < (↑4 : Int) from (by omega)) (And.intro (show 2 ≤ 4 from (by omega)) (And.intro (show 2 ≤ 2 from (by omega)) (And.intro (show ∀ (x : AV), x ∈ fl → noid0 x = true from n1) (And.intro (show ∀ (q : AV × AV), q ∈ mA → plain1 q.fst = true ∧ plain1 q.snd = true from n3) (And.intro (show ∀ (q : AV × AV), q ∈ mA → plain1 q.fst = true ∧ plain1 q.snd = true from n3) (And.intro (show ∀ (x : AV), x ∈ fm → noid0 x = true from n2) (And.intro e4' (And.intro e5' (And.intro (show [AV.int .u8 (↑y0.toNat : Int), AV.int .u8 (↑y1.toNat : Int), AV.int .u8 (↑y2.toNat : Int), AV.int .u8 (↑y3.toNat : Int)].all isU8 = true from (by kernel_rfl)) (And.intro e6' (And.intro (show (0 : Int) ≤ (0 : Int) ∧ (0 : Int) ≤ (↑4 : Int) ∧ (↑4 : Int) ≤ (↑4 : Int) from (by omega)) (And.intro (show 4 ≤ 4 from (by omega)) (And.intro (show (List.take 4 (List.drop 0 [AV.int .u8 (↑y0.toNat : Int), AV.int .u8 (↑y1.toNat : Int), AV.int .u8 (↑y2.toNat : Int), AV.int .u8 (↑y3.toNat : Int)])).all isU8 = true from (by kernel_rfl)) (And.intro e6' e7'))))))))))))))))))))))))))) ?_
    refine g_f [] [] (AV.bool true) ([]) trivial ?_
    exact ⟨rfl, rfl⟩
  · rw [h] at em
    have e1' := c1
    have e2' := c2
    have e3' := (congrArg (fun z => AV.int .u8 z) em)
    have e4' := c3
    have e5' := aw
    have e6' := (congrArg (fun z => AV.str z) hst2)
    have e7' := (congrArg (fun z => AV.bool z) (qs (B.toList)))
    refine g_q [⟨2, [], .call (avOf e1') (blOf e1') [false, false, false]⟩, ⟨20, [], .callS [1, 4, 2, 3] [false, false, false, false] (avOf e2') (blOf e2') [false, false, false, true, true, false]⟩, ⟨29, [], .as (rhsOf e3')⟩, ⟨35, [], .callS [1, 5, 3] [false, true, true] (avOf e4') (blOf e4') [false, false, true, true]⟩, ⟨41, [], .call (avOf e5') (blOf e5') []⟩, ⟨50, [], .as (rhsOf e6')⟩, ⟨52, [], .as (rhsOf e6')⟩, ⟨53, [], .as (rhsOf e7')⟩] [.sel [6]] Exit.ret (stOf 57 [(6, AV.bool true)] [Blk.row 60 [AV.int .u8 (↑y0.toNat : Int), AV.int .u8 (↑y1.toNat : Int), AV.int .u8 (↑y2.toNat : Int), AV.int .u8 (↑y3.toNat : Int)], Blk.row 48 [AV.int .i64 (4 : Int), AV.int .i64 (2 : Int), AV.sl 8 0 m.length 3, AV.map 3], Blk.dead, Blk.map mA, Blk.row 5 [AV.int .u8 (↑y0.toNat : Int), AV.int .u8 (↑y1.toNat : Int), AV.int .u8 c, AV.int .u8 (↑y3.toNat : Int)], Blk.dead, Blk.dead, Blk.row 44 [AV.int .u32 d, AV.int .i64 (0 : Int)], Blk.row 65 fm]) (And.intro e1' (And.intro (show (0 : Int) ≤ (0 : Int) ∧ (0 : Int) ≤ (↑4 : Int) ∧ (↑4 : Int) ≤ (↑4 : Int) from (by omega)) (And.intro (show 4 ≤ 4 from (by omega)) (And.intro (show 4 ≤ 4 from (by omega)) (And.intro (show 4 ≤ 140737488355328 from (by omega)) (And.intro (show 4 ≤ maxLen from (by (unfold maxLen; omega))) (And.intro (show ∀ (q : AV × AV), q ∈ mA → plain1 q.fst = true ∧ plain1 q.snd = true from n3) (And.intro (show ∀ (x : AV), x ∈ fl → noid0 x = true from n1) (And.intro e2' (And.intro (show 2 ≤ 2 from (by omega)) (And.intro (show (4 : Int) ≠ (0 : Int) from (by omega)) (And.intro e3' (And.intro (show (0 : Int) ≤ (2 : Int) ∧ (2 : Int) < (↑4 : Int) from (by omega)) (And.intro (show 3 ≤ 4 from (by omega)) (And.intro (show 2 ≤ 2 from (by omega)) (And.intro (show ∀ (x : AV), x ∈ fl → noid0 x = true from n1) (And.intro (show ∀ (q : AV × AV), q ∈ mA → plain1 q.fst = true ∧ plain1 q.snd = true from n3) (And.intro (show ∀ (q : AV × AV), q ∈ mA → plain1 q.fst = true ∧ plain1 q.snd = true from n3) (And.intro (show ∀ (x : AV), x ∈ fm → noid0 x = true from n2) (And.intro e4' (And.intro e5' (And.intro (show [AV.int .u8 (↑y0.toNat : Int), AV.int .u8 (↑y1.toNat : Int), AV.int .u8 (↑y2.toNat : Int), AV.int .u8 (↑y3.toNat : Int)].all isU8 = true from (by kernel_rfl)) (And.intro e6' (And.intro (show (0 : Int) ≤ (0 : Int) ∧ (0 : Int) ≤ (↑4 : Int) ∧ (↑4 : Int) ≤ (↑4 : Int) from (by omega)) (And.intro (show 4 ≤ 4 from (by omega)) (And.intro (show (List.take 4 (List.drop 0 [AV.int .u8 (↑y0.toNat : Int), AV.int .u8 (↑y1.toNat : Int), AV.int .u8 (↑y2.toNat : Int), AV.int .u8 (↑y3.toNat : Int)])).all isU8 = true from (by kernel_rfl)) (And.intro e6' e7'))))))))))))))))))))))))))) ?_
    refine g_f [] [] (AV.bool true) ([]) trivial ?_
    exact ⟨rfl, rfl⟩
  · rw [h] at em
    have e1' := c1
    have e2' := c2
    have e3' := (congrArg (fun z => AV.int .u8 z) em)
    have e4' := c3
    have e5' := aw
    have e6' := (congrArg (fun z => AV.str z) hst2)
    have e7' := (congrArg (fun z => AV.bool z) (qs (B.toList)))
    refine g_q [⟨2, [], .call (avOf e1') (blOf e1') [false, false, false]⟩, ⟨20, [], .callS [1, 4, 2, 3] [false, false, false, false] (avOf e2') (blOf e2') [false, false, false, true, true, false]⟩, ⟨29, [], .as (rhsOf e3')⟩, ⟨35, [], .callS [1, 5, 3] [false, true, true] (avOf e4') (blOf e4') [false, false, true, true]⟩, ⟨41, [], .call (avOf e5') (blOf e5') []⟩, ⟨50, [], .as (rhsOf e6')⟩, ⟨52, [], .as (rhsOf e6')⟩, ⟨53, [], .as (rhsOf e7')⟩] [.sel [6]] Exit.ret (stOf 57 [(6, AV.bool true)] [Blk.row 60 [AV.int .u8 (↑y0.toNat : Int), AV.int .u8 (↑y1.toNat : Int), AV.int .u8 (↑y2.toNat : Int), AV.int .u8 (↑y3.toNat : Int)], Blk.row 48 [AV.int .i64 (4 : Int), AV.int .i64 (2 : Int), AV.sl 8 0 m.length 3, AV.map 3], Blk.dead, Blk.map mA, Blk.row 5 [AV.int .u8 (↑y0.toNat : Int), AV.int .u8 (↑y1.toNat : Int), AV.int .u8 (↑y2.toNat : Int), AV.int .u8 c], Blk.dead, Blk.dead, Blk.row 44 [AV.int .u32 d, AV.int .i64 (0 : Int)], Blk.row 65 fm]) (And.intro e1' (And.intro (show (0 : Int) ≤ (0 : Int) ∧ (0 : Int) ≤ (↑4 : Int) ∧ (↑4 : Int) ≤ (↑4 : Int) from (by omega)) (And.intro (show 4 ≤ 4 from (by omega)) (And.intro (show 4 ≤ 4 from (by omega)) (And.intro (show 4 ≤ 140737488355328 from (by omega)) (And.intro (show 4 ≤ maxLen from (by (unfold maxLen; omega))) (And.intro (show ∀ (q : AV × AV), q ∈ mA → plain1 q.fst = true ∧ plain1 q.snd = true from n3) (And.intro (show ∀ (x : AV), x ∈ fl → noid0 x = true from n1) (And.intro e2' (And.intro (show 2 ≤ 2 from (by omega)) (And.intro (show (4 : Int) ≠ (0 : Int) from (by omega)) (And.intro e3' (And.intro (show (0 : Int) ≤ (3 : Int) ∧ (3 : Int) < (↑4 : Int) from (by omega)) (And.intro (show 4 ≤ 4 from (by omega)) (And.intro (show 2 ≤ 2 from (by omega)) (And.intro (show ∀ (x : AV), x ∈ fl → noid0 x = true from n1) (And.intro (show ∀ (q : AV × AV), q ∈ mA → plain1 q.fst = true ∧ plain1 q.snd = true from n3) (And.intro (show ∀ (q : AV × AV), q ∈ mA → plain1 q.fst = true ∧ plain1 q.snd = true from n3) (And.intro (show ∀ (x : AV), x ∈ fm → noid0 x = true from n2) (And.intro e4' (And.intro e5' (And.intro (show [AV.int .u8 (↑y0.toNat : Int), AV.int .u8 (↑y1.toNat : Int), AV.int .u8 (↑y2.toNat : Int), AV.int .u8 (↑y3.toNat : Int)].all isU8 = true from (by kernel_rfl)) (And.intro e6' (And.intro (show (0 : Int) ≤ (0 : Int) ∧ (0 : Int) ≤ (↑4 : Int) ∧ (↑4 : Int) ≤ (↑4 : Int) from (by omega)) (And.intro (show 4 ≤ 4 from (by omega)) (And.intro (show (List.take 4 (List.drop 0 [AV.int .u8 (↑y0.toNat : Int), AV.int .u8 (↑y1.toNat : Int), AV.int .u8 (↑y2.toNat : Int), AV.int .u8 (↑y3.toNat : Int)])).all isU8 = true from (by kernel_rfl)) (And.intro e6' e7'))))))))))))))))))))))))))) ?_
    refine g_f [] [] (AV.bool true) ([]) trivial ?_
    exact ⟨rfl, rfl⟩
end Go.Proofs.Ytkdgnjoofhckeaa
