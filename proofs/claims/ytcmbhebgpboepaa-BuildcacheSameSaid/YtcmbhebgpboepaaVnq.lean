/-
  Whether a slice that is known to be empty, and no more, is nil: either.
-/
import Derived.Test.YtcmbhebgpboepaaVv
namespace Go.Proofs.Ytcmbhebgpboepaa.V
open Go Go.RowKit
set_option linter.unusedSimpArgs false
set_option linter.unusedVariables false
section
variable {P : Program} {s : St} {o : Oper} {R : AV → List Blk → Prop}
theorem op_nilq {t e : TypeId} {op : BinOp} (hop : op = .eql ∨ op = .neq) {x y : Operand} {z : _} {len sz : Nat} {cs : List AV} (ho : o.op = .binOp op t x y z) (ht : P.underlying t = some (.slice e)) (hx : s.ev x = .slv len sz cs) (hy : s.ev y = .nilsl) (h : ∀ b, (b = (op == .eql) → len = 0) → R (.bool b) s.H) : OpB P o s R := opB_of fun p w a hR => by
  have hv := hR.ev x
  rw [hx] at hv
  have hu := rep_nilsl (hy ▸ hR.ev y)
  obtain ⟨oa, ad, cap, hve, hoa, hlc, _⟩ := at_slv hv
  have hz : oa.isNone = true → len = 0 := fun hz => by
    rcases hoa with rfl | ⟨_, h0⟩
    · cases hz
    · omega
  have key : (Op.equal t (.slice oa len cap) (.slice none 0 0)).run P w = .ok oa.isNone w := by
    unfold Op.equal Op.maxDepth Op.equalIn
    cases oa <;> simp only [Sem.run_bind, run_underlying ht, Result.andThen_ok, Sem.run_pure] <;> rfl
  have k2 := binOp_eql_other P t _ _ (Or.inl ⟨oa, len, cap, none, 0, 0, rfl, rfl⟩) _ w key
  rcases hop with rfl | rfl
  · refine ⟨.bool oa.isNone, .bool _, s.H, p, w, ?_, h _ (fun e => hz e), hR.heap, mk_bool _ _ _, Step.refl _ _, Below.refl _ _⟩
    unfold execOp
    rw [ho]
    simp [hve, hu, guard_none, k2.1]
  · refine ⟨.bool (!oa.isNone), .bool _, s.H, p, w, ?_, h _ (fun e => hz (by cases h : oa.isNone <;> rw [h] at e <;> first | rfl | cases e)), hR.heap, mk_bool _ _ _, Step.refl _ _, Below.refl _ _⟩
    unfold execOp
    rw [ho]
    simp [hve, hu, guard_none, k2.2]
end
section
variable {P : Program} {s s' : St} {Q : Exit → St → Prop} {c : Code} {ops : Array Oper} {l l' : List Nat}
def binArgs : Op → Option (Operand × Operand × Bool)
  | .binOp op _ x y _ => if op == .eql || op == .neq then some (x, y, op == .eql) else none
  | _ => none
theorem n_nilq (t : TypeId) (x y : Operand) (q : Bool) (len sz : Nat) (cs : List AV) {i : Nat} (ho : (decide (i < ops.size) && (match (opAt ops i).guard, (opAt ops i).op with | none, .binOp _ t' _ _ _ => t' == t | _, _ => false)) = true)
    (hxy : binArgs (opAt ops i).op = some (x, y, q))
    (ht : (match P.underlying t with | some (.slice _) => true | _ => false) = true) (hx : s.ev x = .slv len sz cs) (hy : s.ev y = .nilsl) (h : ∀ b, (b = q → len = 0) → RunN P ops Q l (St.put s (opAt ops i).dst (.bool b))) : RunN P ops Q (i :: l) s := by
  simp only [Bool.and_eq_true, decide_eq_true_eq] at ho
  obtain ⟨h1, h2⟩ := ho
  split at h2
  · rename_i op _ _ _ _ hg hop
    simp only [beq_iff_eq] at h2
    subst h2
    rw [hop] at hxy
    simp only [binArgs] at hxy
    by_cases h3 : (op == .eql || op == .neq) = true
    · rw [if_pos h3] at hxy
      cases hxy
      simp only [Bool.or_eq_true, beq_iff_eq] at h3
      split at ht
      · rename_i e he
        exact runN_op (opAt_get h1) (wanted_none hg) ((op_nilq h3 hop he hx hy h).opV)
      · cases ht
    · rw [if_neg h3] at hxy
      cases hxy
  · cases h2
/-- a call under a guard among operations that draw their order -/
theorem d_callg (i f : Nat) (as' : List AV) (x : AV) (g : Bool) (m : Nat) (listed' : Array Bool) (s' : St) {n : Nat} {listed : Array Bool} (hn : m + 1 = n) (hr : Region.ready .any ops listed = [i]) (hc : (decide (i < ops.size) && (callable P f && (match callsG (opAt ops i) with | some g => g == f | none => false))) = true)
    (hg : guardE ops s (opAt ops i) = some g) (ha : (callArgs (opAt ops i)).map (evG s (callArgs (opAt ops i))) = as') (hpl : (as'.all noid1 && plain1 x) = true) (hl : listed.setIfInBounds i true = listed') (hs : s.put (opAt ops i).dst (.cnd g x) = s')
    (C : Prop) (hC : allP (there s.ev (callArgs (opAt ops i))) = C) (ht : g = true → C) (h : g = true → CallsV P f as' [] fun av H' => av = x ∧ H' = []) (k : RunD P ops Q m listed' s') : RunD P ops Q n listed s := fun p w a K hR hQ => by
  subst hn hC ha hs hl
  simp only [Bool.and_eq_true, decide_eq_true_eq] at hc hpl
  obtain ⟨h1, h2, h3⟩ := hc
  have h4 : callsG (opAt ops i) = some f := by
    split at h3
    · rename_i g' hg'; rw [hg']; simp only [beq_iff_eq] at h3; rw [h3]
    · cases h3
  obtain ⟨ts, h6⟩ := callsG_spec h4
  refine wpAnyH_all hr (by simp) fun j hj => ?_
  obtain rfl : j = i := by simpa using hj
  unfold wpOp
  rw [opAt_get h1]
  simp only [guardE_wanted hg hR]
  cases g with
  | true =>
    simp only [if_true]
    refine Or.inl ?_
    have hrun : (execOp a.eval (opAt ops j)).run P w = .ok (.enter f ((callArgs (opAt ops j)).toArray.map a.eval)) w := by
      unfold execOp
      rw [h6]
      simp [resolve, invoke, Act.eval, Deferred.ofValue, run_callFunc h2]
    unfold Oper.wp
    rw [hrun, Oper.upon_enter]
    have hreps : RepL (Rep p w) ((callArgs (opAt ops j)).toArray.map a.eval).toList ((callArgs (opAt ops j)).map (evG s (callArgs (opAt ops j)))) :=
      ⟨by simp, fun j' e1 e2 => by
        have := evG_rep (ht rfl) hR ((callArgs (opAt ops j))[j']'(by simpa using e2))
        simpa using this⟩
    refine ((h rfl).frame (fun y hy => List.all_eq_true.1 hpl.1 y hy) hR.heap hreps).mono ?_
    rintro e w' ⟨v, av, H', p', rfl, ⟨rfl, rfl⟩, b1, b2, b3, b4⟩
    have hp2 : plain2 av = true := by cases av <;> first | exact hpl.2 | (have := hpl.2; simp [plain1, noid0] at this)
    rw [ren_plain hp2] at b2
    rw [List.map_nil, List.append_nil] at b1
    exact ⟨b4, wpAnyH_weak (fun w'' hb => b4.trans (hb.mono b4.size)) _ _ _ _ (k p' w' _ K (Rst.put (hR.step b3 b1) _ ⟨fun _ => notCnd_repT b2 (noid1_plain2 hpl.2), fun h => by cases h⟩) fun s2 p2 a2 w2 q r kk => hQ s2 p2 a2 w2 q r (b3.trans kk))⟩
  | false =>
    simp only [Bool.false_eq_true, if_false]
    exact ⟨Below.refl _ _, wpAnyH_weak (fun w'' hb => hb) _ _ _ _ (k p w _ K (hR.put _ ⟨fun h => (by cases h), fun _ => rfl⟩) hQ)⟩
theorem keep_row {H : List Blk} (j : Nat) (t : TypeId) (xs : List AV) (hj : H[j]? = some (.row t xs)) (hn : ∀ x ∈ xs, noid0 x = true) : KeepOK 0 [j] H [.row t xs] := by
  refine ⟨by simp, fun i hi => ?_, by simp, fun i hi => by omega, rfl, fun i h1 h2 h3 => ?_⟩
  · obtain rfl : i = j := by simpa using hi
    exact (List.getElem?_eq_some_iff.1 hj).1
  · obtain rfl : i = 0 := by simp at h1; omega
    obtain ⟨q1, q2⟩ := List.getElem?_eq_some_iff.1 hj
    simp only [List.getElem_cons_zero] at h2 ⊢
    rw [q2]
    exact ⟨rfl, Or.inl ⟨rfl, hn⟩⟩
theorem CallsV.weakR {P : Program} {f : FuncId} {args : List AV} {H : List Blk} {R R' : AV → List Blk → Prop} (h : CallsV P f args H R) (hw : ∀ av H', R av H' → ∃ av', (∀ p w v, Rep p w v av → Rep p w v av') ∧ R' av' H') : CallsV P f args H R' := fun p w vals hH hv =>
  (h p w vals hH hv).mono fun e w' ⟨v, av, H', p', h1, h2, h3, h4, h5⟩ => by
    obtain ⟨av', g1, g2⟩ := hw av H' h2
    exact ⟨v, av', H', p', h1, g2, h3, g1 _ _ _ h4, h5⟩
/-- what a call makes, as values -/
theorem CallsV.byval {P : Program} {f : FuncId} {args : List AV} {x y : AV} {Bs : List Blk} (h : CallsV P f args [] fun a b => a = x ∧ b = Bs) (hy : valA (fun _ => true) Bs 100 [x] = some [y]) : CallsV P f args [] fun a b => a = y ∧ b = [] := fun p w vals hH hv =>
  (h p w vals hH hv).mono fun e w' ⟨v, av, H', p', h1, ⟨ha, hb⟩, h3, h4, h5⟩ => by
    subst ha hb
    have hn : p.n = 0 := hH.n
    obtain ⟨k1, k2, _⟩ := keep_ok (keep := []) (H' := []) h5 h3 (by rw [hn]; exact keep_nil _)
    have hr := valA_rep h3 (lends0 h3 (fun _ => true)) 100 hy (vs := [v]) ⟨rfl, fun i h1 h2 => by
      obtain rfl : i = 0 := by simp at h1; exact h1
      exact h4⟩
    have hr0 := hr.2 0 (by simp) (by simp)
    exact ⟨v, _, _, p'.keep [], h1, ⟨rfl, rfl⟩, k1, hr0, k2⟩
theorem RepF.rep1 {p : Pl} {w : World} {v : Value} {a : AV} (h : RepF p.M w v a) : Rep1 p w v a := by
  cases h
  case fn f => exact ⟨#[], #[], rfl, RepL.nil, RepL.nil⟩
  all_goals (constructor <;> assumption)
/-- the same for a slice and a bool -/
theorem CallsV.byval2 {P : Program} {f : FuncId} {args : List AV} {id st len sz : Nat} {c : Bool} {y : AV} {Bs : List Blk} (h : CallsV P f args [] fun a b => a = .tuple [.sl id st len sz, .bool c] ∧ b = Bs) (hy : val0 (fun _ => true) Bs 100 (.sl id st len sz) = some y) : CallsV P f args [] fun a b => a = .tuple [y, .bool c] ∧ b = [] := fun p w vals hH hv =>
  (h p w vals hH hv).mono fun e w' ⟨v, av, H', p', h1, ⟨ha, hb⟩, h3, h4, h5⟩ => by
    subst ha hb
    have hn : p.n = 0 := hH.n
    obtain ⟨k1, k2, _⟩ := keep_ok (keep := []) (H' := []) h5 h3 (by rw [hn]; exact keep_nil _)
    obtain ⟨vs, e1, e2, e3⟩ := h4
    refine ⟨v, _, _, p'.keep [], h1, ⟨rfl, rfl⟩, k1, ⟨vs, e1, e2, fun i i1 i2 => ?_⟩, k2⟩
    simp only [List.length_cons, List.length_nil] at i2
    rcases i with _ | _ | i
    · have h0 : Rep0 p' w' vs.toList[0] (.sl id st len sz) := e3 0 i1 (by simp)
      exact RepF.rep1 (val0_rep (p1 := p'.keep []) h3 (lends0 h3 (fun _ => true)) 100 _ y _ hy h0)
    · have h0 : RepF p'.M w' vs.toList[1] (.bool c) := e3 1 i1 (by simp)
      have h2 : ∃ z, vs.toList[1] = z ∧ RepF p'.M w' z (.bool c) := ⟨_, rfl, h0⟩
      obtain ⟨z, hz, hz2⟩ := h2
      show Rep1 (p'.keep []) w' vs.toList[1] (.bool c)
      rw [hz]
      cases hz2
      exact RepF.bool c
    · omega
theorem nil_slv0 (sz : Nat) (hs : 0 < sz) (p : Pl) (w : World) (v : Value) (h : Rep0 p w v .nilsl) : Rep0 p w v (.slv 0 sz []) := by
  have h1 : RepF p.M w v .nilsl := h
  cases h1
  exact RepF.slv none ⟨0, 0, none⟩ 0 0 sz [] (fun _ => undef) (Or.inr ⟨rfl, rfl⟩) (by simp) (Nat.le_refl _) (by simp [maxLen]) hs (fun i hi => absurd hi (by simp)) (fun i hi => absurd hi (by simp))
theorem agg_weak {cs cs' : List AV} (hl : cs'.length = cs.length) (hw : ∀ (i : Nat) (h : i < cs.length) (h' : i < cs'.length) (p : Pl) (w : World) (v : Value), Rep0 p w v cs[i] → Rep0 p w v cs'[i]) (p : Pl) (w : World) (v : Value) (h : Rep p w v (.agg cs)) : Rep p w v (.agg cs') := by
  obtain ⟨vs, e1, e2, e3⟩ := h
  exact ⟨vs, e1, e2.trans hl.symm, fun i h1 h2 => ⟨(e3 i h1 (by omega)).1, hw i (by omega) h2 _ _ _ (e3 i h1 (by omega)).2⟩⟩
theorem CallsV.weakRow {P : Program} {f : FuncId} {args : List AV} {H : List Blk} {x : AV} {t : TypeId} {xs : List AV} (xs' : List AV) (h : CallsV P f args H fun a b => a = x ∧ b = [.row t xs]) (hl : xs'.length = xs.length)
    (hw : ∀ (i : Nat) (h : i < xs.length) (h' : i < xs'.length) (p : Pl) (w : World) (v : Value), Rep0 p w v xs[i] → Rep0 p w v xs'[i]) : CallsV P f args H fun a b => a = x ∧ b = [.row t xs'] := fun p w vals hH hv =>
  (h p w vals hH hv).mono fun e w' ⟨v, av, H', p', h1, ⟨ha, hb⟩, h3, h4, h5⟩ => by
    subst ha hb
    refine ⟨v, _, _, p', h1, ⟨rfl, rfl⟩, ⟨h3.n, h3.out, h3.inj, fun id hid => ?_, h3.xs⟩, h4, h5⟩
    obtain rfl : id = 0 := by simp at hid; exact hid
    have hb := h3.blk 0 (by simp)
    simp only [List.getElem_cons_zero, BlkIs] at hb ⊢
    rcases hb with ⟨e1, e2⟩ | ⟨g, cur, e1, e2, e3, e4⟩
    · subst e2
      exact Or.inl ⟨e1, List.eq_nil_of_length_eq_zero hl⟩
    · exact Or.inr ⟨g, cur, e1, e2, by omega, fun i hi => by
        obtain ⟨v, g1, g2, g3⟩ := e4 i (by omega)
        exact ⟨v, g1, g2, hw i (by omega) hi _ _ _ g3⟩⟩
end
end Go.Proofs.Ytcmbhebgpboepaa.V
