/-
  The logic of values: entering a function, keeping some blocks, freezing a row, closing a law. Over any program.
-/
import Derived.Test.YtcmbhebgpboepaaVj
namespace Go.Proofs.Ytcmbhebgpboepaa.V
open Go Go.RowKit
set_option linter.unusedSimpArgs false
set_option linter.unusedVariables false

/-! ### keeping some of the blocks -/
def idxK (keep : List Nat) (id : Nat) : Option Nat := keep.idxOf? id
structure KeepOK (n0 : Nat) (keep : List Nat) (H H' : List Blk) : Prop where
  nodup : keep.Nodup
  lt : ∀ i ∈ keep, i < H.length
  n0le : n0 ≤ keep.length
  pre : ∀ j, j < n0 → keep[j]? = some j
  len : H'.length = keep.length
  ren : ∀ (j : Nat) (h : j < keep.length) (h1 : keep[j] < H.length) (h' : j < H'.length), RenB (idxK keep) H[keep[j]] H'[j]
def Pl.keep (p : Pl) (keep : List Nat) : Pl := ⟨keep.length, fun j => match keep[j]? with | some i => p.at_ i | none => none, p.x⟩
theorem idxK_spec {keep : List Nat} {id j : Nat} (h : idxK keep id = some j) : keep[j]? = some id := by
  unfold idxK at h
  rw [List.idxOf?, List.findIdx?_eq_some_iff_getElem] at h
  obtain ⟨h1, h2, _⟩ := h
  rw [List.getElem?_eq_getElem h1]
  simpa using h2
theorem keep_emb {p : Pl} {keep : List Nat} (hlt : ∀ i ∈ keep, i < p.n) : Emb (idxK keep) p (p.keep keep) := by
  refine ⟨fun id j hf hid => ?_, fun g hg => ?_⟩
  · have h := idxK_spec hf
    refine ⟨(List.getElem?_eq_some_iff.1 h).1, fun q hq => ?_⟩
    simp only [Pl.keep, h] at hq
    exact hq
  · rcases hg with ⟨j, hj⟩ | hg
    · simp only [Pl.keep] at hj
      split at hj
      · rename_i i hi; exact Or.inl ⟨i, hj⟩
      · cases hj
    · exact Or.inr hg
theorem keep_ok {p0 p : Pl} {w0 w : World} {H H' : List Blk} {keep : List Nat} (hS : Step p0 w0 p w) (hH : RH p H w) (hk : KeepOK p0.n keep H H') : RH (p.keep keep) H' w ∧ Step p0 w0 (p.keep keep) w ∧ Emb (idxK keep) p (p.keep keep) := by
  have hlt : ∀ i ∈ keep, i < p.n := fun i hi => by rw [hH.n]; exact hk.lt i hi
  have hE := keep_emb hlt
  have hown : ∀ g, (p.keep keep).own g → p.own g := fun g ⟨j, hj⟩ => by
    simp only [Pl.keep] at hj
    split at hj
    · rename_i i hi; exact ⟨i, hj⟩
    · cases hj
  refine ⟨⟨hk.len.symm, fun id hid => ?_, fun i j g hi hj => ?_, fun id hid => ?_, fun g hg => ⟨(hH.xs g hg).1, fun ho => (hH.xs g hg).2 (hown g ho)⟩⟩, ⟨hS.os, hS.tape, hS.output, hS.size, hk.n0le, fun id q hid hq => ?_, fun g hg hm => hS.old g hg (hown g hm), hS.froz, hS.x⟩, hE⟩
  · simp only [Pl.keep] at hid ⊢
    rw [List.getElem?_eq_none hid]
  · simp only [Pl.keep] at hi hj
    split at hi
    · rename_i a ha
      split at hj
      · rename_i b hb
        have hab := hH.inj _ _ _ hi hj
        subst hab
        obtain ⟨l1, e1⟩ := List.getElem?_eq_some_iff.1 ha
        obtain ⟨l2, e2⟩ := List.getElem?_eq_some_iff.1 hb
        have hpw := List.pairwise_iff_getElem.1 hk.nodup
        rcases Nat.lt_trichotomy i j with h3 | h3 | h3
        · exact (hpw i j l1 l2 h3 (e1.trans e2.symm)).elim
        · exact h3
        · exact (hpw j i l2 l1 h3 (e2.trans e1.symm)).elim
      · cases hj
    · cases hi
  · have hj : id < keep.length := by rw [← hk.len]; exact hid
    have hm : keep[id] < H.length := hk.lt _ (List.getElem_mem hj)
    refine (hH.blk keep[id] hm).ren hE ?_ (hk.ren id hj hm hid)
    simp only [Pl.keep, List.getElem?_eq_getElem hj]
  · simp only [Pl.keep, hk.pre id hid] at hq
    exact hS.keep id q hid hq
def renT (f : Nat → Option Nat) : List AV → List AV → Prop
  | [], [] => True
  | a :: xs, b :: ys => (b = .junk ∨ b = ren f a) ∧ renT f xs ys
  | _, _ => False
theorem renT_rep {f : Nat → Option Nat} {p p' : Pl} (hE : Emb f p p') {w : World} : ∀ {vs : List Value} {xs ys : List AV}, RepL (Rep p w) vs xs → renT f xs ys → RepL (Rep p' w) vs ys
  | [], [], [], _, _ => RepL.nil
  | v :: vs, a :: xs, b :: ys, h, hr => by
    have h0 := h.2 0 (by simp) (by simp)
    refine RepL.cons ?_ (renT_rep hE ⟨by simpa using h.1, fun i h1 h2 => by have := h.2 (i + 1) (by simpa using h1) (by simpa using h2); simpa using this⟩ hr.2)
    rcases hr.1 with rfl | rfl
    · trivial
    · exact Rep.ren hE h0
  | [], _ :: _, _, h, _ => absurd h.1 (by simp)
  | _ :: _, [], _, h, _ => absurd h.1 (by simp)
  | _, [], _ :: _, _, hr => hr.elim
  | _, _ :: _, [], _, hr => hr.elim
section
variable {P : Program} {s : St} {Q : Exit → St → Prop}
/-- behind a piece of code: only some of the blocks are kept -/
theorem WpV.keep {c : Code} {Q' : Exit → St → Prop} (h : WpV P c Q' s) (hq : ∀ e s', Q' e s' → ∃ keep s'', KeepOK s.H.length keep s'.H s''.H ∧ renT (idxK keep) s'.t s''.t ∧ Q e s'') : WpV P c Q s := fun p w a Qr hR hQ => by
  refine h p w a Qr hR fun e s' p' a' w' hq' hR' hS => ?_
  obtain ⟨keep, s'', h1, h2, h3⟩ := hq e s' hq'
  rw [← hR.heap.n] at h1
  obtain ⟨k1, k2, k3⟩ := keep_ok hS hR'.heap h1
  exact hQ e s'' _ a' w' h3 ⟨hR'.defers, renT_rep k3 hR'.reps h2, k1⟩ k2

/-! ### entering a function -/
def bodyV (P : Program) (rs : List ResultVar) (n0 : Nat) (R : AV → List Blk → Prop) : Exit → St → Prop
  | .normal, s | .ret, s => allP (resL P s rs).1 ∧ ∃ keep H', KeepOK n0 keep s.H H' ∧ R (ren (idxK keep) (packE (resL P s rs).2)) H'
  | _, _ => False
theorem callsV_of {f : FuncId} {fn : Func} {c : Code} {args : List AV} {H : List Blk} {R : AV → List Blk → Prop} (hf : P.funcs[f]? = some fn) (hb : fn.body = some c)
    (h : WpV P c (bodyV P fn.results.toList H.length R) ⟨args ++ List.replicate (fn.ntmps - args.length) .junk, H⟩) : CallsV P f args H R := fun p w vals hH hv => by
  have hR : Rst p ⟨args ++ List.replicate (fn.ntmps - args.length) .junk, H⟩ { tmps := vals ++ Array.replicate (fn.ntmps - vals.size) undef, defers := [] } w := by
    refine ⟨rfl, ?_, hH⟩
    have hl : vals.size = args.length := by simpa using hv.1
    simp only [Array.toList_append, Array.toList_replicate, hl]
    refine hv.append ⟨by simp, fun i h1 h2 => ?_⟩
    simp only [List.getElem_replicate]
    trivial
  refine calls_of_wp hf hb (h p w _ _ hR fun e s' p' a' w' hq hR' hS => ?_)
  have key : allP (resL P s' fn.results.toList).1 ∧ (∃ keep H', KeepOK H.length keep s'.H H' ∧ R (ren (idxK keep) (packE (resL P s' fn.results.toList).2)) H') → a'.defers = [] ∧ ∃ v, (results fn a'.tmps).run P w' = .ok v w' ∧ ∃ v' av H' p', Ending.returned v = .returned v' ∧ R av H' ∧ RH p' H' w' ∧ Rep p' w' v' av ∧ Step p w p' w' := by
    rintro ⟨h1, keep, H', h2, h3⟩
    obtain ⟨v, h4, h5⟩ := run_resultsE hR' fn h1
    rw [← hH.n] at h2
    obtain ⟨k1, k2, k3⟩ := keep_ok hS hR'.heap h2
    exact ⟨hR'.defers, v, h4, v, _, H', _, rfl, h3, k1, h5.ren k3, k2⟩
  cases e with
  | normal => exact key hq
  | ret => exact key hq
  | _ => exact hq.elim
theorem CallsV.mono {f : FuncId} {args : List AV} {H : List Blk} {R R' : AV → List Blk → Prop} (h : CallsV P f args H R) (hr : ∀ av H', R av H' → R' av H') : CallsV P f args H R' := fun p w vals hH hv =>
  (h p w vals hH hv).mono fun e w' ⟨v, av, H', p', h1, h2, h3⟩ => ⟨v, av, H', p', h1, hr _ _ h2, h3⟩
/-- nothing is kept, one plain result -/
theorem keep_nil (H : List Blk) : KeepOK 0 [] H [] := ⟨List.nodup_nil, fun i h => by simp at h, Nat.le_refl _, fun j h => by omega, rfl, fun j h => by simp at h⟩

/-! ### a row that nobody writes any more -/
theorem frz_step {p : Pl} {H : List Blk} {w : World} (hH : RH p H w) (id : Nat) : RH ⟨p.n, fun i => if i = id then none else p.at_ i, p.x⟩ (H.set id .dead) w ∧ Step p w ⟨p.n, fun i => if i = id then none else p.at_ i, p.x⟩ w := by
  have hown : ∀ g, (⟨p.n, fun i => if i = id then none else p.at_ i, p.x⟩ : Pl).own g → p.own g := fun g ⟨j, hj⟩ => by
    simp only at hj
    split at hj
    · cases hj
    · exact ⟨j, hj⟩
  have hS : Step p w ⟨p.n, fun i => if i = id then none else p.at_ i, p.x⟩ w := ⟨rfl, rfl, rfl, Nat.le_refl _, Nat.le_refl _, fun i q _ hq => by
    simp only at hq
    split at hq
    · cases hq
    · exact ⟨hq, fun _ _ => rfl⟩, fun g _ h => hown g h, fun _ _ _ => rfl, rfl⟩
  refine ⟨⟨by simpa using hH.n, fun i hi => ?_, fun i j g hi hj => ?_, fun i hi => ?_, fun g hg => ⟨(hH.xs g hg).1, fun ho => (hH.xs g hg).2 (hown g ho)⟩⟩, hS⟩
  · simp only
    split
    · rfl
    · exact hH.out i hi
  · simp only at hi hj
    split at hi <;> split at hj
    · cases hi
    · cases hi
    · cases hj
    · exact hH.inj _ _ _ hi hj
  · rw [List.getElem_set]
    split
    · rename_i he
      show (if i = id then none else p.at_ i) = none
      rw [if_pos he.symm]
    · rename_i he
      exact (hH.blk i (by simpa using hi)).step hS (by simp only; rw [if_neg (fun h => he h.symm)]) fun _ _ => rfl
theorem RepC.toF {p : Pl} {w : World} {v : Value} {x : AV} (h : Rep0 p w v x) (hn : noid0 x = true) (hj : x ≠ .junk) : RepF p.M w v x := by
  cases x <;> first | exact (hj rfl).elim | (simp [noid0] at hn; done) | exact h
/-- a slice of a row that nobody writes any more is a value -/
theorem Rst.freeze {p s a w} (h : Rst p s a w) (i id st len sz : Nat) (t : TypeId) (xs : List AV) (hi : s.t[i]? = some (.sl id st len sz)) (hb : s.H[id]? = some (.row t xs)) (hn : ∀ x ∈ xs, noid0 x = true ∧ x ≠ .junk) (hl : st + len * sz ≤ xs.length) :
    ∃ p', Rst p' ⟨s.t.set i (.slv len sz ((xs.drop st).take (len * sz))), s.H.set id .dead⟩ a w ∧ Step p w p' w := by
  obtain ⟨h1, h2⟩ := frz_step h.heap id
  refine ⟨_, ⟨h.defers, ⟨by rw [List.length_set]; exact h.reps.1, fun j a1 a2 => ?_⟩, h1⟩, h2⟩
  have hjl : j < s.t.length := by rw [← h.reps.1]; exact a1
  rw [List.getElem_set]
  split
  · rename_i he
    subst he
    have hv := h.reps.2 i a1 hjl
    have hx : s.t[i] = .sl id st len sz := by
      obtain ⟨_, e⟩ := List.getElem?_eq_some_iff.1 hi
      exact e
    rw [hx] at hv
    generalize hgv : a.tmps.toList[i] = v at hv
    obtain ⟨q, hq⟩ := h.heap.live hb
    obtain ⟨oa, cap, rfl, b1, b2, b3, b4, b5⟩ := hv.2 q hq
    have hcl : ((xs.drop st).take (len * sz)).length = len * sz := by rw [List.length_take, List.length_drop]; omega
    rcases h.heap.row hb with ⟨c1, c2⟩ | ⟨g, cur, c1, c2, c3, c4⟩
    · subst c2
      have hlen : len = 0 := by
        have hm : len * sz = 0 := by simp at hl; omega
        rcases Nat.mul_eq_zero.1 hm with h' | h' <;> omega
      subst hlen
      refine RepF.rep (.slv oa (oa.getD ⟨0, 0, none⟩) _ _ _ _ (fun _ => undef) ?_ hcl b1 b2 b3 (fun i hi => by rw [hcl] at hi; omega) (fun i hi => by rw [hcl] at hi; omega))
      cases oa with
      | none => exact Or.inr ⟨rfl, b4 rfl⟩
      | some _ => exact Or.inl rfl
    · rw [c1] at hq
      cases hq
      have hex : ∀ k, k < len * sz → ∃ v, cur[st + k]? = some v ∧ RepC p w v (xs.getD (st + k) .junk) := fun k hk => by
        obtain ⟨v, d1, d2⟩ := c4 (st + k) (by omega)
        exact ⟨v, d1, by rw [getD_get _ _ (by omega)]; exact d2⟩
      refine RepF.rep (.slv oa (oa.getD ⟨0, 0, none⟩) _ _ _ _ (fun k => cur.getD (st + k) undef) ?_ hcl b1 b2 b3 (fun k hk => ?_) (fun k hk => ?_))
      · cases oa with
        | none => exact Or.inr ⟨rfl, b4 rfl⟩
        | some _ => exact Or.inl rfl
      · rw [hcl] at hk
        rcases b5 with h0 | ⟨g', e1, e2, e3⟩
        · have : len = 0 := by omega
          subst this; omega
        · cases e1
          subst e2
          obtain ⟨v, d1, d2⟩ := hex k hk
          have hgd : cur.getD (st + k) undef = v := by rw [Array.getD_eq_getD_getElem?, d1]; rfl
          refine ⟨rfl, (Array.getElem?_eq_some_iff.1 c2).1, fun hm => ?_, ?_, by rw [hgd]; exact d2.1⟩
          · rcases hm with ⟨l, hl'⟩ | hm
            · simp only at hl'
              split at hl'
              · cases hl'
              · rename_i hne; exact hne (h.heap.inj _ _ _ hl' c1)
            · exact (h.heap.xs _ hm).2 ⟨id, c1⟩
          · simp only [Option.getD_some]
            rw [cell_of_row w g _ cur t (0, 0) c2, d1, hgd]
      · rw [hcl] at hk
        obtain ⟨v, d1, d2⟩ := hex k hk
        have hgd : cur.getD (st + k) undef = v := by rw [Array.getD_eq_getD_getElem?, d1]; rfl
        have hmem : xs.getD (st + k) .junk ∈ xs := by rw [getD_get _ _ (by omega)]; exact List.getElem_mem _
        rw [hgd, getD_get _ _ (by rw [hcl]; exact hk), List.getElem_take, List.getElem_drop, ← getD_get _ _ (by omega)]
        refine RepF.anti (fun g' hg' => ?_) (RepC.toF d2.2 (hn _ hmem).1 (hn _ hmem).2)
        rcases hg' with ho | hx'
        · obtain ⟨l, hl'⟩ := ho
          simp only at hl'
          split at hl'
          · cases hl'
          · exact Or.inl ⟨l, hl'⟩
        · exact Or.inr hx'
  · exact (h.reps.2 j a1 hjl).step h2
end
/-! ### a law -/
theorem law_calls {P : Program} {f : FuncId} {args : List AV} (h : CallsV P f args [] fun av _ => av = .bool true) {w : World} {vals : Array Value} (hv : RepL (Rep ⟨0, fun _ => none, fun _ => False⟩ w) vals.toList args) :
    Calls P f vals w fun e w' => e = .returned (.bool true) ∧ Below w.heap.size w w' := by
  have hown0 : ∀ g, ¬ (⟨0, fun _ => none, fun _ => False⟩ : Pl).own g := fun g ⟨id, hid⟩ => by cases hid
  refine (h _ w vals ⟨rfl, fun _ _ => rfl, fun _ _ _ h => (by cases h), fun id h => absurd h (by simp), fun g (hg : False) => hg.elim⟩ hv).mono ?_
  rintro e w' ⟨v, av, H', p', rfl, rfl, _, hr, hS⟩
  exact ⟨by rw [rep_bool hr], hS.os, hS.tape, hS.output, hS.size, fun g hg => hS.froz g hg (hown0 g)⟩
end Go.Proofs.Ytcmbhebgpboepaa.V
