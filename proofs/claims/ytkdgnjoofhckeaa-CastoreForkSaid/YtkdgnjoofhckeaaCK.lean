/-
  Stores: arguments of the laws.
-/
import Derived.Test.YtkdgnjoofhckeaaCJ
namespace Go.Proofs.Ytkdgnjoofhckeaa
open Go Go.RowKit V
set_option linter.unusedSimpArgs false
set_option linter.unusedVariables false
theorem arg_u8s {w : World} {v : Value} (h : Arg Try.prog w 41 v) : ∃ l : List Int, Rep pl0 w v (bsV l) ∧ l.length ≤ 9223372036854775807 := by
  obtain ⟨x, hr, hs⟩ := arg_rep h (by kernel_rfl)
  obtain ⟨l, rfl, h1, h2⟩ := sh_ints Try.underlying41 (by kernel_rfl) Try.underlying5 hs
  exact ⟨l, hr, h1⟩
theorem arg_key {w : World} {v : Value} (h : Arg Try.prog w 44 v) : ∃ d g : Int, Rep pl0 w v (.agg [.int .u32 d, .int .i64 g]) := by
  obtain ⟨xs, h1, h2, h3⟩ := arg_agg h (by kernel_rfl) (ts := [42, 3]) (by kernel_rfl) (by kernel_rfl)
  match xs, h2 with
  | [x0, x1], _ =>
    obtain ⟨d, e0, _⟩ := sh_int Try.underlying42 (h3 0 (by decide))
    obtain ⟨g, e1, _⟩ := sh_int Try.underlying3 (h3 1 (by decide))
    simp only [List.getD_cons_zero, List.getD_cons_succ] at e0 e1
    subst e0 e1
    exact ⟨d, g, h1⟩
theorem u8_of {z : Int} (h : (Lit.int .u8 z).wf = true) : ∃ y : UInt8, z = (y.toNat : Int) := by
  obtain ⟨h1, h2⟩ := wf_u8 h
  exact ⟨UInt8.ofNat z.toNat, by rw [UInt8.toNat_ofNat', Nat.mod_eq_of_lt (by omega)]; omega⟩
theorem arg_four {w : World} {v : Value} (h : Arg Try.prog w 60 v) : ∃ y0 y1 y2 y3 : UInt8, Rep pl0 w v (.agg [.int .u8 (y0.toNat : Int), .int .u8 (y1.toNat : Int), .int .u8 (y2.toNat : Int), .int .u8 (y3.toNat : Int)]) := by
  obtain ⟨xs, h1, h2, h3⟩ := arg_agg h (by kernel_rfl) (ts := [5, 5, 5, 5]) (by kernel_rfl) (by kernel_rfl)
  match xs, h2 with
  | [x0, x1, x2, x3], _ =>
    obtain ⟨z0, e0, w0⟩ := sh_int Try.underlying5 (h3 0 (by decide))
    obtain ⟨z1, e1, w1⟩ := sh_int Try.underlying5 (h3 1 (by decide))
    obtain ⟨z2, e2, w2⟩ := sh_int Try.underlying5 (h3 2 (by decide))
    obtain ⟨z3, e3, w3⟩ := sh_int Try.underlying5 (h3 3 (by decide))
    simp only [List.getD_cons_zero, List.getD_cons_succ] at e0 e1 e2 e3
    subst e0 e1 e2 e3
    obtain ⟨y0, rfl⟩ := u8_of w0
    obtain ⟨y1, rfl⟩ := u8_of w1
    obtain ⟨y2, rfl⟩ := u8_of w2
    obtain ⟨y3, rfl⟩ := u8_of w3
    exact ⟨y0, y1, y2, y3, h1⟩
end Go.Proofs.Ytkdgnjoofhckeaa
