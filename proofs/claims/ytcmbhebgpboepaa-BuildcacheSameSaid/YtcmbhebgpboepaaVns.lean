/-
  Results that are opaque own rows, as values.
-/
import Derived.Test.YtcmbhebgpboepaaVnr
namespace Go.Proofs.Ytcmbhebgpboepaa.V
open Go Go.RowKit
set_option linter.unusedSimpArgs false
set_option linter.unusedVariables false
/-- a result as a value: as it is, or weaker; an own row; an own row and a bool -/
inductive ByV : AV → List Blk → AV → Prop
  | same (av av' : AV) (h : noid1 av' = true) (hw : ∀ p w v, Rep p w v av → Rep p w v av') : ByV av [] av'
  | row (len sz : Nat) (t : TypeId) (xs : List AV) (hx : ∀ x ∈ xs, noid0 x = true ∧ x ≠ .junk) (hl : len * sz ≤ xs.length) : ByV (.sl 0 0 len sz) [.row t xs] (.slv len sz (xs.take (len * sz)))
  | rowT (len sz : Nat) (t : TypeId) (xs : List AV) (c : Bool) (hx : ∀ x ∈ xs, noid0 x = true ∧ x ≠ .junk) (hl : len * sz ≤ xs.length) : ByV (.tuple [.sl 0 0 len sz, .bool c]) [.row t xs] (.tuple [.slv len sz (xs.take (len * sz)), .bool c])
  | tup (len sz : Nat) (c : Bool) (hs : 0 < sz) : ByV (.tuple [.nilsl, .bool c]) [] (.tuple [.slv 0 sz [], .bool c])
theorem CallsV.byRow {P : Program} {f : FuncId} {args : List AV} {R : AV → List Blk → Prop} {R' : AV → Prop} (h : CallsV P f args [] R) (hw : ∀ av H', R av H' → ∃ av', ByV av H' av' ∧ R' av') : CallsV P f args [] fun a b => R' a ∧ b = [] := fun p w vals hH hv =>
  (h p w vals hH hv).mono fun e w' ⟨v, av, H', p', h1, h2, h3, h4, h5⟩ => by
    obtain ⟨av', hb, hr⟩ := hw av H' h2
    have hn : p.n = 0 := hH.n
    obtain ⟨k1, k2, _⟩ := keep_ok (keep := []) (H' := []) h5 h3 (by rw [hn]; exact keep_nil _)
    refine ⟨v, av', [], p'.keep [], h1, ⟨hr, rfl⟩, k1, ?_, k2⟩
    cases hb with
    | same _ _ hn' hw' => exact (hw' _ _ _ h4).noid (lends0 h3 (fun _ => true)).M hn'
    | row len sz t xs hx hl =>
      have := reads_sl (st := 0) (p1 := p'.keep []) rfl hx (by omega) h3 (lends0 h3 _) h4
      rwa [List.drop_zero] at this
    | rowT len sz t xs c hx hl =>
      obtain ⟨vs, e1, e2, e3⟩ := h4
      refine ⟨vs, e1, e2, fun i i1 i2 => ?_⟩
      simp only [List.length_cons, List.length_nil] at i2
      rcases i with _ | _ | i
      · have h0 : Rep p' w' vs.toList[0] (.sl 0 0 len sz) := e3 0 i1 (by simp)
        have := reads_sl (st := 0) (p1 := p'.keep []) rfl hx (by omega) h3 (lends0 h3 _) h0
        rw [List.drop_zero] at this
        exact this
      · have h0 : RepF p'.M w' vs.toList[1] (.bool c) := e3 1 i1 (by simp)
        have h2 : ∃ z, vs.toList[1] = z ∧ RepF p'.M w' z (.bool c) := ⟨_, rfl, h0⟩
        obtain ⟨z, hz, hz2⟩ := h2
        show Rep1 (p'.keep []) w' vs.toList[1] (.bool c)
        rw [hz]
        cases hz2
        exact RepF.bool c
      · omega
    | tup len sz c hs =>
      obtain ⟨vs, e1, e2, e3⟩ := h4
      refine ⟨vs, e1, e2, fun i i1 i2 => ?_⟩
      simp only [List.length_cons, List.length_nil] at i2
      rcases i with _ | _ | i
      · have h0 : Rep0 p' w' vs.toList[0] .nilsl := e3 0 i1 (by simp)
        have h0' : RepF p'.M w' vs.toList[0] .nilsl := h0
        have h1 : ∃ z, vs.toList[0] = z ∧ RepF p'.M w' z .nilsl := ⟨_, rfl, h0'⟩
        obtain ⟨z, hz, hz2⟩ := h1
        show Rep1 (p'.keep []) w' vs.toList[0] (.slv 0 sz [])
        rw [hz]
        cases hz2
        exact nil_slv0 sz hs (p'.keep []) w' _ RepF.nilsl
      · have h0 : RepF p'.M w' vs.toList[1] (.bool c) := e3 1 i1 (by simp)
        have h2 : ∃ z, vs.toList[1] = z ∧ RepF p'.M w' z (.bool c) := ⟨_, rfl, h0⟩
        obtain ⟨z, hz, hz2⟩ := h2
        show Rep1 (p'.keep []) w' vs.toList[1] (.bool c)
        rw [hz]
        cases hz2
        exact RepF.bool c
      · omega
section
variable {P : Program} {s s' : St} {Q : Exit → St → Prop} {ops : Array Oper} {l : List Nat}
theorem n_callH (f : FuncId) (as' : List AV) (x : AV) (H' : List Blk) {i : Nat} (s' : St) (hc : (decide (i < ops.size) && (callable P f && (match calls (opAt ops i) with | some g => g == f | none => false))) = true) (ha : (callArgs (opAt ops i)).map s.ev = as')
    (hs : St.put ⟨s.t, H'⟩ (opAt ops i).dst x = s') (h : CallsV P f as' s.H fun a b => a = x ∧ b = H') (k : RunN P ops Q l s') : RunN P ops Q (i :: l) s := by
  subst hs
  refine n_call f as' hc ha h ?_
  rintro a b ⟨rfl, rfl⟩
  exact k
theorem n_asH (H' : List Blk) (h : s.H = H') (k : RunN P ops Q l ⟨s.t, H'⟩) : RunN P ops Q l s := by subst h; exact k
theorem mid_drop (A c B : List AV) (k : Nat) (hk : k ≤ c.length) : (A ++ (c ++ B)).drop (A.length + k) = c.drop k ++ B := by
  rw [List.drop_append, List.drop_eq_nil_of_le (by omega), List.nil_append, Nat.add_sub_cancel_left, List.drop_append_of_le_length hk]
theorem mid_take (A c B : List AV) (k : Nat) (hk : k ≤ c.length) : (A ++ (c ++ B)).take (A.length + k) = A ++ c.take k := by
  rw [List.take_append, List.take_of_length_le (by omega), Nat.add_sub_cancel_left, List.take_append_of_le_length hk]
theorem op_guard {o : Oper} (h : (match o.guard with | none => true | _ => false) = true) : o.guard = none := by
  split at h
  · assumption
  · cases h
/-- a store within a row of opaque cells around known ones -/
theorem n_storeR (id k : Nat) (A c B cs c' : List AV) {t' : TypeId} {i : Nat} (t : TypeId) (x y : Operand) (off : Nat) (s' : St) (ho : (decide (i < ops.size) && (match (opAt ops i).guard with | none => true | _ => false)) = true) (hop : (opAt ops i).op = .store t x y)
    (hx : s.ev x = .ptr id off) (hb : s.H[id]? = some (.row t' (A ++ (c ++ B)))) (hoff : off = A.length + k) (hy : cellsAV s.H (s.ev y) = some cs) (hk : (knownT P t && sizeT P t == cs.length) = true) (hl : Nat.ble (k + cs.length) c.length = true) (hc : c.take k ++ cs ++ c.drop (k + cs.length) = c')
    (hs : St.put ⟨s.t, s.H.set id (.row t' (A ++ (c' ++ B)))⟩ (opAt ops i).dst .junk = s') (h : RunN P ops Q l s') : RunN P ops Q (i :: l) s := by
  subst hs hc hoff
  simp only [Bool.and_eq_true, decide_eq_true_eq, beq_iff_eq] at ho hk
  rw [Nat.ble_eq] at hl
  refine runN_op (opAt_get ho.1) (wanted_none (op_guard ho.2)) (op_store hop hx hb hy hk (by simp only [List.length_append]; omega) ?_)
  have e : (A ++ (c ++ B)).take (A.length + k) ++ cs ++ (A ++ (c ++ B)).drop (A.length + k + cs.length) = A ++ (c.take k ++ cs ++ c.drop (k + cs.length) ++ B) := by
    rw [mid_take A c B k (by omega), Nat.add_assoc, mid_drop A c B (k + cs.length) (by omega)]
    simp only [List.append_assoc]
  rw [e]
  exact h
/-- a load from a row of opaque cells around known ones -/
theorem n_loadR (id k : Nat) (A c B : List AV) {t' : TypeId} {i : Nat} (t : TypeId) (x : Operand) (off : Nat) (av : AV) (s' : St) (ho : (decide (i < ops.size) && (match (opAt ops i).guard with | none => true | _ => false)) = true) (hop : (opAt ops i).op = .load t x)
    (hx : s.ev x = .ptr id off) (hb : s.H[id]? = some (.row t' (A ++ (c ++ B)))) (hoff : off = A.length + k) (hk : knownT P t = true) (hl : Nat.ble (k + (bif isAggT P t then sizeT P t else 1)) c.length = true) (hav : loadE P t (c.drop k ++ B) = av)
    (hs : s.put (opAt ops i).dst av = s') (h : RunN P ops Q l s') : RunN P ops Q (i :: l) s := by
  subst hs hav hoff
  simp only [Bool.and_eq_true, decide_eq_true_eq] at ho
  rw [Nat.ble_eq] at hl
  have hca : cellsAt s.H (s.ev x) = some (c.drop k ++ B) := by
    rw [hx]
    show (match s.H[id]? with | some (.row _ xs) => some (xs.drop (A.length + k)) | _ => none) = _
    rw [hb]
    simp only [mid_drop A c B k (by omega)]
  have e : pureE P s.H s.ev (opAt ops i).op = (dec (knownT P t) ++ [(bif isAggT P t then sizeT P t else 1) ≤ (c.drop k ++ B).length], loadE P t (c.drop k ++ B)) := by
    rw [hop]
    show (match cellsAt s.H (s.ev x) with | some cs => _ | none => _) = _
    rw [hca]
  have hok : allP (pureE P s.H s.ev (opAt ops i).op).1 := by
    rw [e, allP_append, allP_dec]
    exact ⟨hk, by rw [allP_cons]; exact ⟨by simp only [List.length_append, List.length_drop]; omega, trivial⟩⟩
  refine runN_op (opAt_get ho.1) (wanted_none (op_guard ho.2)) ((pureE_ok rfl hok).opV ?_)
  rw [e]
  exact h
/-- the same under a guard -/
theorem n_loadRG (g g' : Bool) (id k : Nat) (A c B : List AV) {t' : TypeId} {i j : Nat} (t : TypeId) (off : Nat) (av : AV) (s' : St) (ho : i < ops.size) (hop : (opAt ops i).op = .load t (.tmp j)) (hg : guardE ops s (opAt ops i) = some g)
    (hx : s.ev (.tmp j) = .cnd g' (.ptr id off)) (hgg : g = true → g' = true) (hb : s.H[id]? = some (.row t' (A ++ (c ++ B)))) (hoff : off = A.length + k) (hk : knownT P t = true) (hl : Nat.ble (k + (bif isAggT P t then sizeT P t else 1)) c.length = true) (hav : loadE P t (c.drop k ++ B) = av) (hnc : notCnd av = true)
    (hs : s.put (opAt ops i).dst (.cnd g av) = s') (h : RunN P ops Q l s') : RunN P ops Q (i :: l) s := by
  subst hs hav hoff
  rw [Nat.ble_eq] at hl
  have hn : needs (opAt ops i).op = [.tmp j] := by rw [hop]; rfl
  have hev : evG s [.tmp j] (.tmp j) = .ptr id (A.length + k) := by
    simp only [evG, hasT, List.any_cons, List.any_nil, beq_self_eq_true, Bool.or_false, cond_true, hx, unw]
  have hca : cellsAt s.H (evG s [.tmp j] (.tmp j)) = some (c.drop k ++ B) := by
    rw [hev]
    show (match s.H[id]? with | some (.row _ xs) => some (xs.drop (A.length + k)) | _ => none) = _
    rw [hb]
    simp only [mid_drop A c B k (by omega)]
  have e : pureE P s.H (evG s [.tmp j]) (opAt ops i).op = (dec (knownT P t) ++ [(bif isAggT P t then sizeT P t else 1) ≤ (c.drop k ++ B).length], loadE P t (c.drop k ++ B)) := by
    rw [hop]
    show (match cellsAt s.H (evG s [.tmp j] (.tmp j)) with | some cs => _ | none => _) = _
    rw [hca]
  have eG : pureG P s (opAt ops i) g = (under g (there s.ev [.tmp j] ++ (dec (notCnd (loadE P t (c.drop k ++ B))) ++ (dec (knownT P t) ++ [(bif isAggT P t then sizeT P t else 1) ≤ (c.drop k ++ B).length]))), .cnd g (loadE P t (c.drop k ++ B))) := by
    unfold pureG
    rw [hn, e]
  refine runN_guard (opAt_get ho) hg ?_ ?_
  · rw [eG]
    have hu : ∀ L : List Prop, (g = true → allP L) → allP (under g L) := by
      intro L hL
      induction L with
      | nil => trivial
      | cons a r ih =>
        rw [under, allP_cons]
        exact ⟨fun hg => (allP_cons.1 (hL hg)).1, ih fun hg => (allP_cons.1 (hL hg)).2⟩
    refine hu _ fun hgt => ?_
    rw [allP_append, allP_append, allP_append, allP_dec, allP_dec]
    refine ⟨?_, hnc, hk, ?_⟩
    · simp only [there, hx, List.append_nil, allP]
      exact hgg hgt
    · rw [allP_cons]; exact ⟨by simp only [List.length_append, List.length_drop]; omega, trivial⟩
  · rw [eG]; exact h
/-- an operation whose guard is false -/
theorem n_skip {i : Nat} (s' : St) (ho : decide (i < ops.size) = true) (hw : wantG ops s (opAt ops i) = some false) (hs : s.put (opAt ops i).dst skipped = s') (h : RunN P ops Q l s') : RunN P ops Q (i :: l) s := by
  subst hs
  rw [decide_eq_true_eq] at ho
  exact runN_skipG (opAt_get ho) hw h
end
end Go.Proofs.Ytcmbhebgpboepaa.V
