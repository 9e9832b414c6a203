/-
  slices.Insert into an own row of marks, in the logic of values.
-/
import Derived.Test.YtlmkeoegammdjaaVns
import Derived.Test.YtlmkeoegammdjaaIns
import Derived.Test.YtlmkeoegammdjaaVM
namespace Go.Proofs.Ytlmkeoegammdjaa
open Go Go.RowKit V
set_option linter.unusedSimpArgs false
set_option linter.unusedVariables false
theorem cells_of (n : Nat) (vs : List Value) (h : vs.length = n * 10) (h1 : ∀ u ∈ vs, u.oneCell' = true) : ∃ cs : List C10, cs.length = n ∧ vs = flatE encC cs := by
  obtain ⟨cs, g1, g2, _⟩ := rows_of (enc := encC) (size := 10) (fun _ => True) n vs h (fun i hi => by
    have hl : ((vs.drop (i * 10)).take 10).length = 10 := by rw [List.length_take, List.length_drop, h]; omega
    exact ⟨⟨(vs.drop (i * 10)).take 10, hl, fun u hu => h1 u (List.mem_of_mem_drop (List.mem_of_mem_take hu))⟩, rfl, trivial⟩)
  exact ⟨cs, g1, g2⟩
theorem row_vals {p : Pl} {w : World} {cur : Array Value} {xs : List AV} (hl : xs.length ≤ cur.size) (hc : ∀ (i : Nat) (h : i < xs.length), ∃ v, cur[i]? = some v ∧ RepC p w v xs[i]) : RepL (RepC p w) (cur.toList.take xs.length) xs := by
  have hq : cur.toList.length = cur.size := by simp
  refine ⟨by rw [List.length_take, hq]; omega, fun i h1 h2 => ?_⟩
  obtain ⟨v, e1, e2⟩ := hc i h2
  rw [List.getElem_take]
  have : cur.toList[i]'(by omega) = v := by
    have h3 := e1
    rw [Array.getElem?_eq_getElem (by omega)] at h3
    simpa using h3
  rw [this]; exact e2
theorem repl_row {p : Pl} {w : World} {vs : List Value} {xs : List AV} (h : RepL (RepC p w) vs xs) {cur' : Array Value} {m : Nat} (ht : cur'.toList.take m = vs) : xs.length ≤ cur'.size ∧ ∀ (i : Nat) (h : i < xs.length), ∃ v, cur'[i]? = some v ∧ RepC p w v xs[i] := by
  have hl : vs.length = xs.length := h.1
  have hm : vs.length ≤ cur'.toList.length := by rw [← ht, List.length_take]; omega
  have hq : cur'.toList.length = cur'.size := by simp
  refine ⟨by omega, fun i hi => ?_⟩
  have := h.2 i (by omega) hi
  refine ⟨vs[i]'(by omega), ?_, this⟩
  subst ht
  rw [List.getElem_take, ← Array.getElem?_toList]
  simp
theorem insert_v (H : List Blk) (id j n i : Nat) (xs ys : List AV) (hid : H[id]? = some (.row 38 xs)) (hj : H[j]? = some (.row 38 ys)) (hne : id ≠ j) (hx : xs.length = n * 10) (hy : ys.length = 10) (hi : i < n) (hn : n ≤ 100000000) :
    CallsV Try.prog 36 [.sl id 0 n 10, .int .i64 i, .sl j 0 1 10] H fun av H' => av = .sl H.length 0 (n + 1) 10 ∧ H' = killB H (some id) ++ [.row 38 (xs.take (i * 10) ++ (ys ++ xs.drop (i * 10)))] := by
  intro p w vals hH hv
  obtain ⟨l, hl⟩ : ∃ l, vals = ⟨l⟩ := ⟨vals.toList, by simp⟩
  subst hl
  obtain ⟨hlen, hreps⟩ := hv
  simp only [List.length_cons, List.length_nil] at hlen
  match l, hlen, hreps with
  | [v0, v1, v2], _, hreps =>
    have r0 : Rep p w v0 (.sl id 0 n 10) := hreps 0 (by simp) (by simp)
    have r1 : Rep p w v1 (.int .i64 i) := hreps 1 (by simp) (by simp)
    have r2 : Rep p w v2 (.sl j 0 1 10) := hreps 2 (by simp) (by simp)
    have e1 := rep_int r1
    subst e1
    rcases hH.row hid with ⟨_, h0⟩ | ⟨g, cur, ga, gh, gl, gc⟩
    · rw [h0] at hx; simp at hx; omega
    rcases hH.row hj with ⟨_, h0⟩ | ⟨vb, cv, va, vh, vl, vc⟩
    · rw [h0] at hy; simp at hy
    obtain ⟨a0, cap, rfl, c1, c2, c3, c4, c5⟩ := r0.2 _ ga
    obtain ⟨a2, cap2, rfl, d1, d2, d3, d4, d5⟩ := r2.2 _ va
    rcases c5 with c5 | ⟨g', hg', ha, hs⟩
    · omega
    rcases d5 with d5 | ⟨vb', hvb', hva, hvs⟩
    · omega
    cases hg'; cases hvb'
    subst ha hva
    have hrs : rowSize w g = cur.size := by unfold rowSize; rw [gh]
    rw [hrs] at hs
    have hgv : vb ≠ g := fun h => hne (by subst h; exact hH.inj _ _ _ ga va)
    have R0 := row_vals gl gc
    have R2 := row_vals vl vc
    rw [hx] at R0
    rw [hy] at R2
    obtain ⟨cs, k1, k2⟩ := cells_of n (cur.toList.take (n * 10)) (by rw [R0.1, hx]) (fun u hu => by
      obtain ⟨q, hq, rfl⟩ := List.getElem_of_mem hu
      exact (R0.2 q hq (by rw [← R0.1]; exact hq)).1)
    have hx1 : ∀ u ∈ cv.toList.take 10, u.oneCell' = true := fun u hu => by
      obtain ⟨q, hq, rfl⟩ := List.getElem_of_mem hu
      exact (R2.2 q hq (by rw [← R2.1]; exact hq)).1
    have hx2 : (cv.toList.take 10).length = 10 := by rw [R2.1, hy]
    have hflat : flatE encC (cs.take i ++ (⟨cv.toList.take 10, hx2, hx1⟩ : C10) :: cs.drop i) = (cur.toList.take (n * 10)).take (i * 10) ++ (cv.toList.take 10 ++ (cur.toList.take (n * 10)).drop (i * 10)) := by
      rw [flat_insM, ← k2]
    have hrl : RepL (RepC p w) ((cur.toList.take (n * 10)).take (i * 10) ++ (cv.toList.take 10 ++ (cur.toList.take (n * 10)).drop (i * 10))) (xs.take (i * 10) ++ (ys ++ xs.drop (i * 10))) :=
      (R0.take _).append (R2.append (R0.drop _))
    have fin : ∀ (w' : World) (g' c' : Nat) (cur' : Array Value), w.grownBy w' (some g) → (w.heap.size ≤ g' ∨ g' = g) → w'.heap[g']? = some (.cells cur' 38 (0, 0)) → n + 1 ≤ c' → c' ≤ maxLen → c' * 10 ≤ cur'.size →
        cur'.toList.take ((n + 1) * 10) = flatE encC (cs.take i ++ (⟨cv.toList.take 10, hx2, hx1⟩ : C10) :: cs.drop i) →
        ∃ v av H' p', Ending.returned (.slice (some ⟨g', 0, none⟩) (n + 1) c') = .returned v ∧ (av = .sl H.length 0 (n + 1) 10 ∧ H' = killB H (some id) ++ [.row 38 (xs.take (i * 10) ++ (ys ++ xs.drop (i * 10)))]) ∧ RH p' H' w' ∧ Rep p' w' v av ∧ Step p w p' w' := by
      intro w' g' c' cur' hgr hg' hh' hc1 hc2 hc3 ht
      rw [hflat] at ht
      obtain ⟨q1, q2⟩ := repl_row hrl ht
      obtain ⟨m1, m2⟩ := mv_ok hH (some id) (some g') 38 _ hgr.os hgr.tape hgr.output hgr.size (fun k hk hno => hgr.block k hk (fun he => hno id rfl (by cases he; exact ga))) (fun k hk => by
        cases hk
        rcases hg' with h | h
        · exact Or.inl h
        · exact Or.inr ⟨id, rfl, by rw [h]; exact ga⟩) (Or.inr ⟨g', cur', rfl, hh', q1, q2⟩)
      refine ⟨_, _, _, p.mv (some id) (some g'), rfl, ⟨rfl, rfl⟩, m1, ⟨by simp [Pl.mv, hH.n], fun q hq => ?_⟩, m2⟩
      simp only [Pl.mv, hH.n, if_true, Option.some.injEq] at hq
      subst hq
      refine ⟨_, _, rfl, hc1, hc2, by omega, fun h => (by cases h), Or.inr ⟨g', rfl, rfl, ?_⟩⟩
      have hrs' : rowSize w' g' = cur'.size := by unfold rowSize; rw [hh']
      rw [hrs']; omega
    rcases Nat.lt_or_ge cap (n + 1) with hr | hr
    · refine (insertGrowM g vb n cap cap2 i cur cv cs k1 hn ⟨cv.toList.take 10, hx2, hx1⟩ w gh vh k2 rfl hi c1 hr).mono ?_
      rintro e w' ⟨g', c', cur', rfl, f1, f2, f3, f4, f5, f6, f7⟩
      exact fin w' g' c' cur' ⟨f7.os, f7.tape, f7.output, f7.size, fun k hk _ => f7.block k hk⟩ (Or.inl f1) f2 f3 f4 f5 f6
    · refine (insertShiftM g vb n cap cap2 i cur cv cs k1 hn ⟨cv.toList.take 10, hx2, hx1⟩ w hgv c2 gh vh (by omega) k2 rfl hi c1 hr).mono ?_
      rintro e w' ⟨cur', rfl, f2, f3, f4, f5⟩
      exact fin w' g cap cur' f5 (Or.inr rfl) f2 hr c2 (by omega) f4
end Go.Proofs.Ytlmkeoegammdjaa
