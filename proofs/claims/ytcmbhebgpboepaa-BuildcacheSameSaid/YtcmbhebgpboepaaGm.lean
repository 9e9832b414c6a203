/-
  Objects: the law about equality: its arguments.
-/
import Derived.Test.YtcmbhebgpboepaaGkz
import Derived.Test.YtcmbhebgpboepaaVsh
namespace Go.Proofs.Ytcmbhebgpboepaa
open Go Go.RowKit V
set_option linter.unusedSimpArgs false
set_option linter.unusedVariables false
theorem wf_le {s : Nat} (h : s ≤ 9223372036854775807) : s ≤ 9223372036854775807 := h
theorem sh_ins {n : Nat} {x : AV} (h : Sh Try.prog (n + 2) 64 x) : ∃ l : List (Int × Int), x = insV l ∧ l.length ≤ 9223372036854775807 := by
  obtain ⟨i, f4, m4, _⟩ := sh_slice (n := n + 1) (ts := [3, 3]) encI (fun _ => True) Try.underlying64 (by kernel_rfl) (fun c hc hs => by
    match c, hc with
    | [c0, c1], _ =>
      obtain ⟨a, f0, _⟩ := sh_int Try.underlying3 (hs 0 (by simp))
      obtain ⟨b, f1, _⟩ := sh_int Try.underlying3 (hs 1 (by simp))
      simp only [List.getD_cons_zero, List.getD_cons_succ] at f0 f1
      exact ⟨(a, b), by rw [f0, f1]; rfl, trivial⟩) h
  exact ⟨i, f4, m4⟩
theorem arg_obj {w : World} {v : Value} (h : Arg Try.prog w 49 v) : ∃ o : Obj, Rep pl0 w v (.agg (encO o)) ∧ OkO o := by
  obtain ⟨xs, h1, h2, h3⟩ := arg_agg h (by kernel_rfl) (ts := [9, 43, 46, 47]) (by kernel_rfl) (by kernel_rfl)
  match xs, h2 with
  | [x0, x1, x2, x3], _ =>
    obtain ⟨d, e0, _⟩ := sh_str Try.underlying9 (h3 0 (by decide))
    obtain ⟨sg, e1, l1, g1⟩ := sh_slice (n := 7) (ts := [9, 61, 3]) encS OkS Try.underlying43 (by kernel_rfl) (fun c hc hs => by
      match c, hc with
      | [c0, c1, c2], _ =>
        obtain ⟨s, f0, _⟩ := sh_str Try.underlying9 (hs 0 (by simp))
        obtain ⟨p, f1, m1, _⟩ := sh_ints Try.underlying61 (by kernel_rfl) Try.underlying3 (hs 1 (by simp))
        obtain ⟨r, f2, _⟩ := sh_int Try.underlying3 (hs 2 (by simp))
        simp only [List.getD_cons_zero, List.getD_cons_succ] at f0 f1 f2
        exact ⟨⟨s, p, r⟩, by rw [f0, f1, f2]; rfl, m1⟩) (h3 1 (by decide))
    obtain ⟨cd, e2, l2, g2⟩ := sh_slice (n := 7) (ts := [9, 61, 3, 61, 64]) encC OkC Try.underlying46 (by kernel_rfl) (fun c hc hs => by
      match c, hc with
      | [c0, c1, c2, c3, c4], _ =>
        obtain ⟨s, f0, _⟩ := sh_str Try.underlying9 (hs 0 (by simp))
        obtain ⟨p, f1, m1, _⟩ := sh_ints Try.underlying61 (by kernel_rfl) Try.underlying3 (hs 1 (by simp))
        obtain ⟨r, f2, _⟩ := sh_int Try.underlying3 (hs 2 (by simp))
        obtain ⟨q, f3, m3, _⟩ := sh_ints Try.underlying61 (by kernel_rfl) Try.underlying3 (hs 3 (by simp))
        obtain ⟨i, f4, m4⟩ := sh_ins (hs 4 (by simp))
        simp only [List.getD_cons_zero, List.getD_cons_succ] at f0 f1 f2 f3 f4
        exact ⟨⟨s, p, r, q, i⟩, by rw [f0, f1, f2, f3, f4]; rfl, m1, m3, m4⟩) (h3 2 (by decide))
    obtain ⟨nm, e3, l3, g3⟩ := sh_strs Try.underlying47 (by kernel_rfl) Try.underlying9 (h3 3 (by decide))
    simp only [List.getD_cons_zero, List.getD_cons_succ] at e0 e1 e2 e3
    refine ⟨⟨d, sg, cd, nm⟩, ?_, ⟨l1, l2, l3, g1, g2⟩⟩
    have h1' := h1
    rw [e0, e1, e2, e3] at h1'
    exact h1'
end Go.Proofs.Ytcmbhebgpboepaa
