/-
  An own row, lent to a function that only reads it and returns plain values.
-/
import Derived.Test.YtgmpoakcbgnfbaaVo
namespace Go.Proofs.Ytgmpoakcbgnfbaa.V
open Go Go.RowKit
set_option linter.unusedSimpArgs false
set_option linter.unusedVariables false

def plainL : List AV → Option (List Value)
  | [] => some []
  | x :: r => match plainV x, plainL r with
    | some u, some us => some (u :: us)
    | _, _ => none
/-- the value of a plain result -/
def scal : AV → Option Value
  | .tuple xs => (plainL xs).map fun l => .tuple l.toArray
  | x => plainV x
theorem plain_rep1 {p : Pl} {w : World} {v u : Value} {x : AV} (h : Rep1 p w v x) (hx : plainV x = some u) : v = u := by
  cases x <;> simp [plainV] at hx <;> subst hx <;> exact plain_repF rfl h
theorem plain_mk1 {p : Pl} {w : World} {u : Value} {x : AV} (hx : plainV x = some u) : Rep1 p w u x := by
  have := plain_mk (M := p.M) (w := w) hx
  cases x <;> simp [plainV] at hx <;> exact this
theorem plainL_eq {p : Pl} {w : World} : ∀ {vs us : List Value} {xs : List AV}, RepL (Rep1 p w) vs xs → plainL xs = some us → vs = us
  | [], us, [], _, h => by simp [plainL] at h; exact h.symm ▸ rfl
  | v :: vs, us, x :: xs, hr, h => by
    unfold plainL at h
    split at h
    · rename_i u us' h1 h2
      cases h
      have e0 := plain_rep1 (hr.2 0 (by simp) (by simp)) h1
      have e1 := plainL_eq (vs := vs) (xs := xs) ⟨by simpa using hr.1, fun i a b => by have := hr.2 (i + 1) (by simpa using a) (by simpa using b); simpa using this⟩ h2
      simp at e0
      rw [e0, e1]
    · cases h
  | [], _, _ :: _, hr, _ => absurd hr.1 (by simp)
  | _ :: _, _, [], hr, _ => absurd hr.1 (by simp)
theorem plainL_mk {p : Pl} {w : World} : ∀ {us : List Value} {xs : List AV}, plainL xs = some us → RepL (Rep1 p w) us xs
  | us, [], h => by simp [plainL] at h; subst h; exact RepL.nil
  | us, x :: xs, h => by
    unfold plainL at h
    split at h
    · rename_i u us' h1 h2
      cases h
      exact RepL.cons (plain_mk1 h1) (plainL_mk h2)
    · cases h
theorem scal_eq {p : Pl} {w : World} {v u : Value} {x : AV} (h : Rep p w v x) (hx : scal x = some u) : v = u := by
  cases x with
  | tuple xs =>
    simp only [scal, Option.map_eq_some_iff] at hx
    obtain ⟨us, h1, rfl⟩ := hx
    obtain ⟨vs, rfl, h2⟩ := h
    rw [← plainL_eq h2 h1]
  | bool b => exact plain_rep1 (x := .bool b) h hx
  | int k n => exact plain_rep1 (x := .int k n) h hx
  | str s => exact plain_rep1 (x := .str s) h hx
  | _ => simp [scal, plainV] at hx
theorem scal_mk {p : Pl} {w : World} {u : Value} {x : AV} (hx : scal x = some u) : Rep p w u x := by
  cases x with
  | tuple xs =>
    simp only [scal, Option.map_eq_some_iff] at hx
    obtain ⟨us, h1, rfl⟩ := hx
    exact ⟨us.toArray, rfl, plainL_mk h1⟩
  | bool b => exact plain_mk1 (x := .bool b) hx
  | int k n => exact plain_mk1 (x := .int k n) hx
  | str s => exact plain_mk1 (x := .str s) hx
  | _ => simp [scal, plainV] at hx
section
variable {P : Program} {s : St} {o : Oper} {ops : Array Oper} {Q : Exit → St → Prop} {l : List Nat}
theorem opB_lend (j id st len sz : Nat) (t : TypeId) (xs : List AV) (hi : s.t[j]? = some (.sl id st len sz)) (hb : s.H[id]? = some (.row t xs)) (hn : ∀ x ∈ xs, noid0 x = true ∧ x ≠ .junk) (hl : st + len * sz ≤ xs.length) {x : AV} (hx : (scal x).isSome = true)
    {R : AV → List Blk → Prop} (hR : R x s.H) (h : OpB P o ⟨s.t.set j (.slv len sz ((xs.drop st).take (len * sz))), s.H.set id .dead⟩ fun av _ => av = x) : OpB P o s R := fun p w a K Qr hRst hK => by
  obtain ⟨u, hu⟩ := Option.isSome_iff_exists.1 hx
  obtain ⟨p1, hR1, hS1⟩ := hRst.freeze j id st len sz t xs hi hb hn hl
  refine h p1 w a K Qr hR1 fun v av H' p' w' hav hRH hrep hS hB => ?_
  subst hav
  rw [scal_eq hrep hu]
  exact hK u av s.H p w' hR (hRst.heap.below hB) (scal_mk hu) (Step.of_below hB hRst.heap.lt) hB
/-- a call that reads an own row, one step of a region in the order of the text -/
theorem n_lend (j id st len sz : Nat) (t : TypeId) (xs : List AV) (hi : s.t[j]? = some (.sl id st len sz)) (hb : s.H[id]? = some (.row t xs)) (hn : ∀ x ∈ xs, noid0 x = true ∧ x ≠ .junk) (hl : st + len * sz ≤ xs.length)
    (f : FuncId) (as' : List AV) (x : AV) {i : Nat} (s' : St) (hc : (decide (i < ops.size) && (callable P f && (match calls (opAt ops i) with | some g => g == f | none => false))) = true)
    (ha : (callArgs (opAt ops i)).map (St.ev ⟨s.t.set j (.slv len sz ((xs.drop st).take (len * sz))), s.H.set id .dead⟩) = as') (hpl : (as'.all noid1 && (plain2 x && (scal x).isSome)) = true)
    (hs : s.put (opAt ops i).dst x = s') (h : CallsV P f as' [] fun av H' => av = x ∧ H' = []) (k : RunN P ops Q l s') : RunN P ops Q (i :: l) s := by
  subst ha hs
  simp only [Bool.and_eq_true, decide_eq_true_eq] at hc hpl
  obtain ⟨h1, h2, h3⟩ := hc
  obtain ⟨hp1, hp2, hp3⟩ := hpl
  have h4 : calls (opAt ops i) = some f := by
    split at h3
    · rename_i g hg; rw [hg]; simp only [beq_iff_eq] at h3; rw [h3]
    · cases h3
  obtain ⟨h5, ts, h6⟩ := calls_spec h4
  refine runN_op (opAt_get h1) (wanted_none h5) (OpB.opV (opB_lend j id st len sz t xs hi hb hn hl hp3 (R := fun av H' => RunN P ops Q l (St.put ⟨s.t, H'⟩ (opAt ops i).dst av)) k ?_))
  refine op_callB h6 h2 (by simpa using hp1) ?_
  refine (show CallsV P f ((callArgs (opAt ops i)).toArray.toList.map _) [] _ from by simpa using h).mono ?_
  rintro av H' ⟨rfl, rfl⟩
  rw [ren_plain hp2]
end
end Go.Proofs.Ytgmpoakcbgnfbaa.V
