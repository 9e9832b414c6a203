/-
  The contracts of roster and its definition, in the logic of values.
-/
import Derived.Test.YtgmpoakcbgnfbaaRefAdd
namespace Go.Proofs.Ytgmpoakcbgnfbaa
open Go Go.RowKit V
set_option linter.unusedSimpArgs false
set_option linter.unusedVariables false

theorem repl1 {R : Value → AV → Prop} {vs : Array Value} {a : AV} (h : RepL R vs.toList [a]) : ∃ x, vs = #[x] ∧ R x a := by
  obtain ⟨l⟩ := vs
  match l, h.1 with
  | [x], _ => exact ⟨x, rfl, h.2 0 (by simp) (by simp)⟩
theorem repl2 {R : Value → AV → Prop} {vs : Array Value} {a b : AV} (h : RepL R vs.toList [a, b]) : ∃ x y, vs = #[x, y] ∧ R x a ∧ R y b := by
  obtain ⟨l⟩ := vs
  match l, h.1 with
  | [x, y], _ => exact ⟨x, y, rfl, h.2 0 (by simp) (by simp), h.2 1 (by simp) (by simp)⟩
theorem repl3 {R : Value → AV → Prop} {vs : Array Value} {a b c : AV} (h : RepL R vs.toList [a, b, c]) : ∃ x y z, vs = #[x, y, z] ∧ R x a ∧ R y b ∧ R z c := by
  obtain ⟨l⟩ := vs
  match l, h.1 with
  | [x, y, z], _ => exact ⟨x, y, z, rfl, h.2 0 (by simp) (by simp), h.2 1 (by simp) (by simp), h.2 2 (by simp) (by simp)⟩

theorem check_v (l : List U) (hl : l.length ≤ 1000000000) (hS : SmallU l) : CallsV Try.prog 13 [usersV l] [] (fun av H' => av = .int .i64 (chkL l) ∧ H' = []) := by
  refine CallsV.of_calls fun p w vals hM hv => ?_
  obtain ⟨x, rfl, hx⟩ := repl1 hv
  obtain ⟨a, cap, rfl, hR, hcm⟩ := row_of_rep pairU encU_ok hx hl
  refine (check_any a _ cap l w hR hS).mono ?_
  rintro e w' ⟨rfl, hB⟩
  exact ⟨_, rfl, hB, .int .i64 (chkL l), RepF.int _ _, rfl⟩
theorem refCheck_v (l : List U) (hl : l.length ≤ 1000000000) (hS : SmallU l) : CallsV Try.prog 14 [usersV l] [] (fun av H' => av = .int .i64 (chkL l) ∧ H' = []) := by
  refine CallsV.of_calls fun p w vals hM hv => ?_
  obtain ⟨x, rfl, hx⟩ := repl1 hv
  obtain ⟨a, cap, rfl, hR, hcm⟩ := row_of_rep pairU encU_ok hx hl
  refine (refCheck_any a _ cap l w hR hS).mono ?_
  rintro e w' ⟨rfl, hB⟩
  exact ⟨_, rfl, hB, .int .i64 (chkL l), RepF.int _ _, rfl⟩
theorem addL_len (l : List U) (s : ByteArray) (r : Int) (hl : l.length ≤ 100000000) : (addL l s r).length ≤ 1000000000 := by
  unfold addL
  split
  · have := posL_le s l
    rw [len_insU _ _ _ this]; omega
  · simp
theorem add_v (l : List U) (s : ByteArray) (r : Int) (hl : l.length ≤ 100000000) (hS : SmallU l) (hs : s.size ≤ maxLen) :
    CallsV Try.prog 9 [usersV l, .str s, .int .i64 r] [] (fun av H' => av = .tuple [usersV (addL l s r), .int .i64 (addE l s r)] ∧ H' = []) := by
  refine CallsV.of_calls fun p w vals hM hv => ?_
  obtain ⟨x, y, z, rfl, hx, hy, hz⟩ := repl3 hv
  obtain ⟨a, cap, rfl, hR, hcm⟩ := row_of_rep pairU encU_ok hx (by omega)
  obtain rfl := rep_str hy
  obtain rfl := rep_int hz
  refine (add_any a _ cap l s r w hR hcm hS hs).mono ?_
  rintro e w' ⟨v, rfl, ho, hB⟩
  refine ⟨_, rfl, hB, .tuple [usersV (addL l s r), .int .i64 (addE l s r)], ⟨_, rfl, RepL.cons ?_ (RepL.cons (RepF.int _ _) RepL.nil)⟩, rfl⟩
  exact rep_of_own pairU encU_ok ho (addL_len l s r hl) (fun g hg hm => by have := hM g hm; omega)
theorem refAdd_v (l : List U) (s : ByteArray) (r : Int) (hl : l.length ≤ 100000000) (hS : SmallU l) (hs : s.size ≤ maxLen) :
    CallsV Try.prog 10 [usersV l, .str s, .int .i64 r] [] (fun av H' => av = .tuple [usersV (addL l s r), .int .i64 (addE l s r)] ∧ H' = []) := by
  refine CallsV.of_calls fun p w vals hM hv => ?_
  obtain ⟨x, y, z, rfl, hx, hy, hz⟩ := repl3 hv
  obtain ⟨a, cap, rfl, hR, hcm⟩ := row_of_rep pairU encU_ok hx (by omega)
  obtain rfl := rep_str hy
  obtain rfl := rep_int hz
  refine (refAdd_any a _ cap l s r w hR hcm hS hs).mono ?_
  rintro e w' ⟨v, rfl, ho, hB⟩
  refine ⟨_, rfl, hB, .tuple [usersV (addL l s r), .int .i64 (addE l s r)], ⟨_, rfl, RepL.cons ?_ (RepL.cons (RepF.int _ _) RepL.nil)⟩, rfl⟩
  exact rep_of_own pairU encU_ok ho (addL_len l s r hl) (fun g hg hm => by have := hM g hm; omega)
end Go.Proofs.Ytgmpoakcbgnfbaa
