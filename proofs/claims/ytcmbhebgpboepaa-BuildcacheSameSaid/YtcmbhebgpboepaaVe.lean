/-
  The logic of values: slice expressions, lengths, comparisons; all reading operations in one function. Over any program.
-/
import Derived.Test.YtcmbhebgpboepaaVd
namespace Go.Proofs.Ytcmbhebgpboepaa.V
open Go Go.RowKit
set_option linter.unusedSimpArgs false
set_option linter.unusedVariables false

theorem sliceE_rd {P : Program} {p : Pl} {H : List Blk} {w : World} {v : Value} {x : AV} {t : TypeId} {lv hv : Option Value} {lo hi : Option AV} (hH : RH p H w) (h : Rep p w v x) (hl : RepO p w lv lo) (hh : RepO p w hv hi) (hok : allP (sliceE P H t x lo hi).1) :
    Rd P p w (Instr.sliceAt t v lv hv none) (sliceE P H t x lo hi).2 := by
  unfold sliceE at hok ⊢
  split at hok
  · rename_i s hu
    try simp only [hu]
    split at hok
    · rename_i l h' e1 e2
      try simp only [e1, e2]
      cases rep_str h
      refine ⟨_, mk_str _ _ _, fun w' _ => ?_⟩
      have hb := run_bounds (P := P) (isSl := false) hl hh e1 e2 hok (Nat.le_refl _) w'
      simp [Instr.sliceAt, Instr.slice, run_underlying hu, hb]
    · exact hok.elim
  · rename_i e len sz cs hu
    try simp only [hu]
    split at hok
    · rename_i l h' e1 e2
      try simp only [e1, e2]
      rw [allP_cons, allP_dec] at hok
      obtain ⟨hb, hk⟩ := hok
      simp only [Bool.and_eq_true, beq_iff_eq] at hk
      have h2 : RepF p.M w v (.slv len sz cs) := h
      cases h2 with
      | slv oa a len cap sz cells vs ho hl' hcap hcm hsz hc hr =>
        have hbd := fun w' => run_bounds (P := P) (isSl := true) hl hh e1 e2 hb hcap w'
        have hln : l.toNat ≤ h'.toNat ∧ h'.toNat ≤ len := by omega
        have m1 : h'.toNat * sz ≤ len * sz := Nat.mul_le_mul_right _ hln.2
        have m2 : l.toNat * sz + (h'.toNat - l.toNat) * sz = h'.toNat * sz := by rw [← Nat.add_mul]; congr 1; omega
        have hlen : ((cs.drop (l.toNat * sz)).take ((h'.toNat - l.toNat) * sz)).length = (h'.toNat - l.toNat) * sz := by
          rw [List.length_take, List.length_drop]; omega
        refine ⟨.slice (if cap = l.toNat then oa else oa.map (·.add (l.toNat * sz))) (h'.toNat - l.toNat) (cap - l.toNat), RepF.rep (.slv _ (if cap = l.toNat then a else a.add (l.toNat * sz)) _ _ _ _ (fun i => vs (l.toNat * sz + i)) ?_ hlen (by omega) (by omega) hsz (fun i hi => ?_) (fun i hi => ?_)), fun w' _ => ?_⟩
        · rcases ho with rfl | ⟨rfl, h0⟩
          · left; split <;> rfl
          · right; exact ⟨by split <;> rfl, by omega⟩
        · rw [hlen] at hi
          have hne : ¬ cap = l.toNat := fun he => by
            have : h'.toNat - l.toNat = 0 := by omega
            rw [this] at hi; omega
          obtain ⟨a1, a2, a3, a4, a5⟩ := hc (l.toNat * sz + i) (by omega)
          rw [if_neg hne, add_none a a1]
          exact ⟨rfl, a2, a3, by rw [Nat.add_assoc]; exact a4, a5⟩
        · rw [hlen] at hi
          have := hr (l.toNat * sz + i) (by omega)
          rw [getD_get _ _ (by omega)] at this
          rw [getD_get _ _ (by rw [hlen]; exact hi), List.getElem_take, List.getElem_drop]
          exact this
        · have hsz' := run_sizeT hk.1 w'
          rw [hk.2] at hsz'
          simp only [Instr.sliceAt, Instr.slice, Sem.run_bind, run_underlying hu, Result.andThen_ok, hbd w', hsz', Sem.run_pure]
    · exact hok.elim
  · rename_i e id st len sz hu
    try simp only [hu]
    split at hok
    · rename_i l h' e1 e2
      try simp only [e1, e2]
      rw [allP_cons, allP_dec] at hok
      obtain ⟨hb, hk⟩ := hok
      simp only [Bool.and_eq_true, beq_iff_eq] at hk
      obtain ⟨g, hg⟩ := liveRow_spec hH hk.2.2
      obtain ⟨a, cap, rfl, hcap, hcm, hsz, hnn, ha⟩ := h.2 g hg
      have hbd := fun w' => run_bounds (P := P) (isSl := true) hl hh e1 e2 hb hcap w'
      have hln : l.toNat ≤ h'.toNat ∧ h'.toNat ≤ len := by omega
      refine ⟨.slice (if cap = l.toNat then a else a.map (·.add (l.toNat * sz))) (h'.toNat - l.toNat) (cap - l.toNat), ⟨h.1, fun g' hg' => ?_⟩, fun w' _ => ?_⟩
      · rw [hg] at hg'
        cases hg'
        refine ⟨_, _, rfl, by omega, by omega, hsz, fun hz => ?_, ?_⟩
        · split at hz
          · omega
          · have := hnn (by cases a with | none => rfl | some _ => cases hz); omega
        · by_cases hne : cap = l.toNat
          · left; omega
          · right
            rcases ha with ha | ⟨g0, rfl, rfl, ha⟩
            · omega
            · refine ⟨g0, rfl, ?_, ?_⟩
              · rw [if_neg hne, Option.map_some, add_none _ rfl]
              · have : l.toNat * sz + (cap - l.toNat) * sz = cap * sz := by rw [← Nat.add_mul]; congr 1; omega
                omega
      · have hsz' := run_sizeT hk.1 w'
        rw [hk.2.1] at hsz'
        simp only [Instr.sliceAt, Instr.slice, Sem.run_bind, run_underlying hu, Result.andThen_ok, hbd w', hsz', Sem.run_pure]
    · exact hok.elim
  · rename_i e hu
    try simp only [hu]
    split at hok
    · rename_i l h' e1 e2
      try simp only [e1, e2]
      rw [allP_cons, allP_dec] at hok
      obtain ⟨hb, hk⟩ := hok
      cases rep_nilsl h
      have hbd := fun w' => run_bounds (P := P) (isSl := true) (len := 0) (cap := 0) hl hh e1 e2 hb (Nat.le_refl _) w'
      refine ⟨_, RepF.rep .nilsl, fun w' _ => ?_⟩
      have h0 : l.toNat = 0 ∧ h'.toNat = 0 := by omega
      simp only [Instr.sliceAt, Instr.slice, Sem.run_bind, run_underlying hu, Result.andThen_ok, hbd w', run_sizeT hk w', Sem.run_pure, h0.1, h0.2]
      rfl
    · exact hok.elim
  · exact hok.elim

theorem lenE_rd {P : Program} {p : Pl} {H : List Blk} {w : World} {v : Value} {x : AV} {t ty : TypeId} (hH : RH p H w) (h : Rep p w v x) (hok : allP (lenE P H t x).1) : Rd P p w (Builtin.len_ #[t] ty #[v]) (lenE P H t x).2 := by
  unfold lenE at hok ⊢
  split at hok
  · rename_i s hu; (try simp only [hu]); cases rep_str h
    exact ⟨_, mk_int _ _ _ _, fun w' _ => by simp [Builtin.len_, run_underlying hu, goInt]⟩
  · rename_i e len sz cs hu; (try simp only [hu])
    obtain ⟨oa, ad, cap, rfl, _⟩ := at_slv h
    exact ⟨_, mk_int _ _ _ _, fun w' _ => by simp [Builtin.len_, run_underlying hu, goInt]⟩
  · rename_i e id st len sz hu; (try simp only [hu])
    rw [allP_dec] at hok
    obtain ⟨g, hg⟩ := liveRow_spec hH hok
    obtain ⟨a, cap, rfl, _⟩ := h.2 g hg
    exact ⟨_, mk_int _ _ _ _, fun w' _ => by simp [Builtin.len_, run_underlying hu, goInt]⟩
  · rename_i e hu; (try simp only [hu]); cases rep_nilsl h
    exact ⟨_, mk_int _ _ _ _, fun w' _ => by simp [Builtin.len_, run_underlying hu, goInt]⟩
  · rename_i k e hu; (try simp only [hu]); cases rep_nilmap h
    exact ⟨_, mk_int _ _ _ _, fun w' _ => by simp [Builtin.len_, run_underlying hu, goInt]⟩
  · rename_i k e id hu; (try simp only [hu])
    split at hok
    · rename_i kv hb
      try simp only [hb]
      obtain ⟨hl, he⟩ := List.getElem?_eq_some_iff.1 hb
      have := hH.blk id hl
      rw [he] at this
      obtain ⟨g, es, clock, h1, h2, h3, _⟩ := this
      obtain ⟨g', hg', rfl⟩ := h.2 _ h1
      cases hg'
      refine ⟨_, mk_int _ _ _ _, fun w' hb => ?_⟩
      have h4 : w'.heap[g]? = some (.map es clock) := (hb.block g (Array.getElem?_eq_some_iff.1 h2).1).trans h2
      have h5 : es.size = kv.length := by simpa using h3
      simp [Builtin.len_, run_underlying hu, goInt, getObj, Sem.run, h4, h5]
    · exact hok.elim
  · exact hok.elim

theorem guard_none {P : Program} (op : BinOp) (t : TypeId) (x y : Operand) (a b : Value) (ha : a ≠ .nilIface) (hb : ∀ cs, a ≠ .agg cs) (w : World) : (eqGuard op t x y a b).run P w = .ok () w := by
  unfold eqGuard
  cases op <;> simp <;> (split <;> simp_all)
theorem binE_rd {P : Program} {p : Pl} {H : List Blk} {w : World} {op : BinOp} {t : TypeId} {xo yo : Operand} {v u : Value} {x y : AV} (hH : RH p H w) (hx : Rep p w v x) (hy : Rep p w u y) (hok : allP (binE P H op t x y).1) :
    Rd P p w (do eqGuard op t xo yo v u; binOp op t v u) (binE P H op t x y).2 := by
  have fin : ∀ z : AV, (∀ cs, v ≠ .agg cs) → v ≠ .nilIface → Rd P p w (binOp op t v u) z → Rd P p w (do eqGuard op t xo yo v u; binOp op t v u) z := by
    rintro z h1 h2 ⟨r, h3, h4⟩
    exact ⟨r, h3, fun w' hb => by rw [Sem.run_bind, guard_none op t xo yo v u h2 h1, Result.andThen_ok]; exact h4 w' hb⟩
  unfold binE at hok ⊢
  split at hok
  · rename_i k a k' b
    cases rep_int hx; cases rep_int hy
    refine fin _ (fun _ => by simp) (by simp) ?_
    split at hok
    · exact ⟨_, mk_int _ _ _ _, fun w' _ => by unfold binOp; simp [Op.shift, show ¬ b < 0 from by simp only [allP] at hok; omega]⟩
    · exact ⟨_, mk_int _ _ _ _, fun w' _ => by unfold binOp; simp [Op.shift, show ¬ b < 0 from by simp only [allP] at hok; omega]⟩
    · rename_i h1 h2
      rw [allP_append, allP_dec, decide_eq_true_eq] at hok
      obtain ⟨rfl, hk⟩ := hok
      exact binOp_rd_int P op t k a b p w hk ⟨h1, h2⟩
  · cases rep_str hx; cases rep_str hy
    exact fin _ (fun _ => by simp) (by simp) (binOp_rd_str P op t _ _ p w hok)
  · rename_i a b
    cases rep_bool hx; cases rep_bool hy
    refine fin _ (fun _ => by simp) (by simp) ?_
    split at hok
    · rename_i hu
      have he : ∀ w', (Op.equal t (.bool a) (.bool b)).run P w' = .ok (a == b) w' := fun w' => by unfold Op.equal Op.maxDepth Op.equalIn; simp [run_underlying hu]
      exact ⟨_, mk_bool _ _ _, fun w' _ => (binOp_eql_other P t _ _ (Or.inr ⟨a, b, rfl, rfl⟩) _ w' (he w')).1⟩
    · rename_i hu
      have he : ∀ w', (Op.equal t (.bool a) (.bool b)).run P w' = .ok (a == b) w' := fun w' => by unfold Op.equal Op.maxDepth Op.equalIn; simp [run_underlying hu]
      exact ⟨_, mk_bool _ _ _, fun w' _ => (binOp_eql_other P t _ _ (Or.inr ⟨a, b, rfl, rfl⟩) _ w' (he w')).2⟩
    · exact hok.elim
  · rename_i xs ys
    obtain ⟨vs, rfl, hv⟩ := hx
    obtain ⟨us, rfl, hu'⟩ := hy
    have fin2 : ∀ z : AV, P.eqGuardType P.depth t = false → Rd P p w (binOp op t (.agg vs) (.agg us)) z → Rd P p w (do eqGuard op t xo yo (.agg vs) (.agg us); binOp op t (.agg vs) (.agg us)) z := by
      rintro z hg ⟨r, h3, h4⟩
      refine ⟨r, h3, fun w' hb => ?_⟩
      have hgd : (eqGuard op t xo yo (.agg vs) (.agg us)).run P w' = .ok () w' := by
        unfold eqGuard
        cases op <;> simp [hg]
      rw [Sem.run_bind, hgd, Result.andThen_ok]
      exact h4 w' hb
    split at hok
    · rename_i fs hu
      split at hok
      · rename_i e he
        try simp only [he]
        rw [allP_dec] at hok
        simp only [Bool.and_eq_true, Bool.not_eq_true'] at hok
        refine fin2 _ hok.2 ⟨_, mk_bool _ _ _, fun w' _ => ?_⟩
        rw [run_eql_struct, eqS_run hu hv hu' he hok.1]; rfl
      · exact hok.elim
    · rename_i fs hu
      split at hok
      · rename_i e he
        try simp only [he]
        rw [allP_dec] at hok
        simp only [Bool.and_eq_true, Bool.not_eq_true'] at hok
        refine fin2 _ hok.2 ⟨_, mk_bool _ _ _, fun w' _ => ?_⟩
        rw [run_neq_struct, eqS_run hu hv hu' he hok.1]; rfl
      · exact hok.elim
    · exact hok.elim
  · cases rep_nilsl hy
    split at hok
    · rename_i e c hu hc
      obtain ⟨⟨a, l, c', rfl⟩, h2⟩ := nilS_rd hH hx hc hu
      exact fin _ (fun _ => by simp) (by simp) ⟨_, mk_bool _ _ _, fun w' _ => (binOp_eql_other P t _ _ (Or.inl ⟨a, l, c', _, _, _, rfl, rfl⟩) c w' (h2 w')).1⟩
    · rename_i e c hu hc
      obtain ⟨⟨a, l, c', rfl⟩, h2⟩ := nilS_rd hH hx hc hu
      exact fin _ (fun _ => by simp) (by simp) ⟨_, mk_bool _ _ _, fun w' _ => (binOp_eql_other P t _ _ (Or.inl ⟨a, l, c', _, _, _, rfl, rfl⟩) c w' (h2 w')).2⟩
    · exact hok.elim
  · cases rep_nilptr hy
    split at hok
    · rename_i e c hu hc
      obtain ⟨⟨a, rfl⟩, h2⟩ := nilP_rd hH hx hc hu
      exact fin _ (fun _ => by simp) (by simp) ⟨_, mk_bool _ _ _, fun w' _ => (binOp_eql_ptr P t _ _ ⟨_, _, rfl, rfl⟩ c w' (h2 w')).1⟩
    · rename_i e c hu hc
      obtain ⟨⟨a, rfl⟩, h2⟩ := nilP_rd hH hx hc hu
      exact fin _ (fun _ => by simp) (by simp) ⟨_, mk_bool _ _ _, fun w' _ => (binOp_eql_ptr P t _ _ ⟨_, _, rfl, rfl⟩ c w' (h2 w')).2⟩
    · exact hok.elim
  · exact hok.elim
end Go.Proofs.Ytcmbhebgpboepaa.V
