/-
  Loads from rows of opaque cells among operations that draw their order.
-/
import Derived.Test.YtcmbhebgpboepaaVns
namespace Go.Proofs.Ytcmbhebgpboepaa.V
open Go Go.RowKit
set_option linter.unusedSimpArgs false
set_option linter.unusedVariables false
section
variable {P : Program} {s : St} {Q : Exit → St → Prop} {ops : Array Oper} {qc : Bool} {n0 n : Nat} {listed : Array Bool}
theorem pureE_loadR (id k : Nat) (A c B : List AV) {t' : TypeId} (t : TypeId) (x : Operand) (off : Nat) {op : Op} (hop : op = .load t x)
    (hx : s.ev x = .ptr id off) (hb : s.H[id]? = some (.row t' (A ++ (c ++ B)))) (hoff : off = A.length + k) (hl : Nat.ble (k + (bif isAggT P t then sizeT P t else 1)) c.length = true) :
    pureE P s.H s.ev op = (dec (knownT P t) ++ [(bif isAggT P t then sizeT P t else 1) ≤ (c.drop k ++ B).length], loadE P t (c.drop k ++ B)) := by
  subst hoff
  rw [Nat.ble_eq] at hl
  have hca : cellsAt s.H (s.ev x) = some (c.drop k ++ B) := by
    rw [hx]
    show (match s.H[id]? with | some (.row _ xs) => some (xs.drop (A.length + k)) | _ => none) = _
    rw [hb]
    simp only [mid_drop A c B k (by omega)]
  rw [hop]
  show (match cellsAt s.H (s.ev x) with | some cs => _ | none => _) = _
  rw [hca]
theorem t_loadR (i : Nat) (id k : Nat) (A c B : List AV) {t' : TypeId} (t : TypeId) (x : Operand) (off : Nat) (av : AV) (m : Nat) (listed' : Array Bool) (s' : St) (hn : m + 1 = n) (hc : (decide (i < ops.size) && (Region.noSelect ops && (Region.free .any ops listed i && (Region.ready .any ops listed).contains i))) = true) (hf : firstB ops (quietB qc ops) listed i = true) (hw : wantG ops s (opAt ops i) = some true) (hop : (opAt ops i).op = .load t x)
    (hx : s.ev x = .ptr id off) (hb : s.H[id]? = some (.row t' (A ++ (c ++ B)))) (hoff : off = A.length + k) (hk : knownT P t = true) (hl : Nat.ble (k + (bif isAggT P t then sizeT P t else 1)) c.length = true) (hav : loadE P t (c.drop k ++ B) = av)
    (hs : s.put (opAt ops i).dst av = s') (hli : listed.setIfInBounds i true = listed') (h : RunT P ops Q (quietB qc ops) n0 m listed' s') : RunT P ops Q (quietB qc ops) n0 n listed s := by
  have e := pureE_loadR (P := P) id k A c B t x off hop hx hb hoff hl
  refine t_take i _ m listed' s' hn hc hf hw rfl (by rw [e]; show s.put _ (loadE P t (c.drop k ++ B)) = s'; rw [hav]; exact hs) hli ?_ h
  rw [e, allP_append, allP_dec]
  rw [Nat.ble_eq] at hl
  exact ⟨hk, by rw [allP_cons]; exact ⟨by simp only [List.length_append, List.length_drop]; omega, trivial⟩⟩
/-- a call by its contract, its first argument being an own row of plain cells, that is lent, and the others being lent as well -/
theorem n_lendv {l : List Nat} (f : FuncId) (id len sz : Nat) (t : TypeId) (xs rest rest' : List AV) (as0 av : AV) (H1 : List Blk) {i : Nat} (s' : St) (hc : (decide (i < ops.size) && ((match (opAt ops i).guard with | none => true | _ => false) && callable P f)) = true)
    (ha : callOf s.ev (opAt ops i).op = some (f, .sl id 0 len sz :: rest)) (hb : s.H[id]? = some (.row t xs)) (hx : ∀ x ∈ xs, noid0 x = true ∧ x ≠ .junk) (hl : len * sz ≤ xs.length) (hr : valA (fun _ => true) s.H 100 rest = some rest')
    (has : as0 = .slv len sz (xs.take (len * sz))) (h : CallsV P f (as0 :: rest') [] fun a b => a = av ∧ b = H1) (hn : (novR av && H1.all novB) = true)
    (hs : St.put ⟨s.t, s.H ++ H1.map (shiftB s.H.length)⟩ (opAt ops i).dst (ren (shf s.H.length) av) = s') (k : RunN P ops Q l s') : RunN P ops Q (i :: l) s := by
  subst hs has
  simp only [Bool.and_eq_true, decide_eq_true_eq] at hc
  refine runN_op (opAt_get hc.1) (wanted_none (op_guard hc.2.1)) ?_
  refine OpB.opV (op_callw (callOf_run ha hc.2.2) fun p w vals hH hva => ?_)
  refine (CallsV.lendR (args := .sl id 0 len sz :: rest) h hn hH ?_).mono ?_
  · obtain ⟨vs, hvs⟩ : ∃ vs, vs = vals.toList := ⟨_, rfl⟩
    rw [← hvs] at hva ⊢
    cases vs with
    | nil => exact absurd hva.1 (by simp)
    | cons v vs =>
      have h0 := hva.2 0 (by simp) (by simp)
      have h1 := reads_sl (p1 := ⟨0, fun _ => none, p.x⟩) hb hx (by omega) hH (lends0 hH _) h0
      rw [List.drop_zero] at h1
      exact RepL.cons h1 (valA_rep hH (lends0 hH (fun _ => true)) 100 hr ⟨by simpa using hva.1, fun j a b => by
        have h2 := hva.2 (j + 1) (by simpa using a) (by simpa using b)
        simpa only [List.getElem_cons_succ] using h2⟩)
  · rintro e w' ⟨v, p', h1, h2, h3, h4, h5⟩
    exact ⟨v, _, _, p', h1, k, h2, h3, h4, h5⟩
end
section
variable {P : Program} {s : St} {o : Oper}
theorem slice3_any {t e : TypeId} {x hi mx : Operand} {lo : Option Operand} {id st len sz : Nat} {t' : TypeId} {xs : List AV} {l h' m : Int} {kh km : IntKind} (ho : o.op = .slice t x lo (some hi) (some mx)) (ht : P.underlying t = some (.slice e)) (hk : knownT P e = true) (hsz : sizeT P e = sz)
    (hx : s.ev x = .sl id st len sz) (hb : s.H[id]? = some (.row t' xs)) (hl : loE (lo.map s.ev) = some l) (hh : s.ev hi = .int kh h') (hm : s.ev mx = .int km m) (hbd : 0 ≤ l ∧ l ≤ h' ∧ h' ≤ m ∧ m ≤ len)
    {p : Pl} {w : World} {a : Act} (hR : Rst p s a w) : ∃ v, Rep p w v (.sl id (st + l.toNat * sz) (h'.toNat - l.toNat) sz) ∧ ∀ w', (execOp a.eval o).run P w' = .ok (.value v) w' := by
  have hv := hR.ev x
  rw [hx] at hv
  obtain ⟨q, hq⟩ := hR.heap.live hb
  obtain ⟨ad, cap, hve, hcap, hcm, hpos, hno, hc⟩ := hv.2 q hq
  have eh := rep_int (hh ▸ hR.ev hi)
  have em := rep_int (hm ▸ hR.ev mx)
  have hb1 : ∀ w, (Instr.sliceBound (.int km m) cap .slice3Acap).run P w = .ok m.toNat w := fun w => by
    have : 0 ≤ m ∧ m ≤ cap := by omega
    simp [Instr.sliceBound, asIntOf, this]
  have hb2 : ∀ w, (Instr.sliceBound (.int kh h') m.toNat .slice3B).run P w = .ok h'.toNat w := fun w => by
    have h1 : 0 ≤ h' := by omega
    have h2 : h' ≤ max m 0 := by omega
    simp [Instr.sliceBound, asIntOf, h1, h2]
  have hbs : ∀ w, (Instr.sliceBounds true len cap (lo.map a.eval) (some (.int kh h')) (some (.int km m))).run P w = .ok (l.toNat, h'.toNat, m.toNat) w := fun w => by
    cases lo with
    | none =>
      simp only [Option.map_none, loE, Option.some.injEq] at hl
      subst hl
      simp [Instr.sliceBounds, hb1, hb2]
    | some lo =>
      simp only [Option.map_some] at hl
      obtain ⟨kl, hlo⟩ : ∃ k, s.ev lo = .int k l := by
        cases hz : s.ev lo <;> rw [hz] at hl <;> simp [loE] at hl
        subst hl; exact ⟨_, rfl⟩
      have el := rep_int (hlo ▸ hR.ev lo)
      have hb3 : ∀ w, (Instr.sliceBound (.int kl l) h'.toNat .slice3C).run P w = .ok l.toNat w := fun w => by
        have h1 : 0 ≤ l := by omega
        have h2 : l ≤ max h' 0 := by omega
        simp [Instr.sliceBound, asIntOf, h1, h2]
      simp [Instr.sliceBounds, hb1, hb2, hb3, el]
  refine ⟨.slice (if m.toNat = l.toNat then ad else ad.map (·.add (l.toNat * sizeT P e))) (h'.toNat - l.toNat) (m.toNat - l.toNat), ⟨hv.1, fun q' hq' => ?_⟩, fun w' => ?_⟩
  · rw [hq] at hq'
    cases hq'
    refine ⟨_, _, rfl, by omega, by omega, hpos, fun hn0 => ?_, ?_⟩
    · by_cases hml : m.toNat = l.toNat
      · omega
      · rw [if_neg hml] at hn0
        cases ad with
        | none => have := hno rfl; omega
        | some ad => simp at hn0
    · by_cases hml : m.toNat = l.toNat
      · left; omega
      · rcases hc with hc | ⟨g, rfl, rfl, hrs⟩
        · omega
        · right
          refine ⟨g, rfl, ?_, ?_⟩
          · rw [if_neg hml, Option.map_some, add_none _ rfl, hsz]
          · have h1 : (m.toNat - l.toNat) * sz + l.toNat * sz = m.toNat * sz := by rw [← Nat.add_mul]; congr 1; omega
            have h2 : m.toNat * sz ≤ cap * sz := Nat.mul_le_mul_right _ (by omega)
            omega
  · unfold execOp
    rw [ho]
    simp only [Instr.sliceAt, Option.map_some, eh, em, hve, Sem.run_bind, Sem.run_pure, Result.andThen_ok, run_underlying ht, Instr.slice, hbs, run_sizeT hk]
end
section
variable {P : Program} {s : St} {Q : Exit → St → Prop} {ops : Array Oper} {qc : Bool} {n0 n : Nat} {listed : Array Bool}
/-- a slice with three bounds, taken first -/
theorem t_slice3 (i m : Nat) (listed' : Array Bool) (s' : St) {t e : TypeId} {x hi mx : Operand} {lo : Option Operand} {id st len sz : Nat} {t' : TypeId} {xs : List AV} {l h' mm : Int} {kh km : IntKind} (hn : m + 1 = n) (hc : (decide (i < ops.size) && (Region.noSelect ops && (Region.free .any ops listed i && (Region.ready .any ops listed).contains i))) = true) (hw : wantG ops s (opAt ops i) = some true)
    (ho : (opAt ops i).op = .slice t x lo (some hi) (some mx)) (ht : P.underlying t = some (.slice e)) (hk : knownT P e = true) (hsz : sizeT P e = sz) (hx : s.ev x = .sl id st len sz) (hb : s.H[id]? = some (.row t' xs)) (hl : loE (lo.map s.ev) = some l) (hh : s.ev hi = .int kh h') (hm : s.ev mx = .int km mm) (hbd : 0 ≤ l ∧ l ≤ h' ∧ h' ≤ mm ∧ mm ≤ len)
    (hs : s.put (opAt ops i).dst (.sl id (st + l.toNat * sz) (h'.toNat - l.toNat) sz) = s') (hli : listed.setIfInBounds i true = listed') (h : RunT P ops Q (quietB qc ops) n0 m listed' s') : RunT P ops Q (quietB qc ops) n0 n listed s := fun p0 w0 p w a K hn0 hsz0 hcl hS hR hQ => by
  subst hn hs hli
  rw [Bool.and_eq_true, decide_eq_true_eq] at hc
  obtain ⟨hc1, hc2⟩ := hc
  simp only [Bool.and_eq_true] at hc2
  obtain ⟨v, hv, hrun⟩ := slice3_any ho ht hk hsz hx hb hl hh hm hbd hR
  have hr : i ∈ Region.ready .any ops listed := by simpa using hc2.2.2
  exact wpAnyT_first (S := fun _ => True) (opAt_get hc1) (Region.noSelect_spec hc2.1) (fun _ _ _ h => (by cases h.1)) m listed a w hsz0 hcl (Region.free_spec (opAt_get hc1) hc2.2.1)
    (fun _ _ _ _ _ _ _ _ _ => trivial) hr (Or.inl ⟨wantG_ok hR hw, fun w' _ => hrun w'⟩) trivial
    (h p0 w0 p w _ K hn0 (by simpa using hsz0) (closed_set hcl hr) hS (hR.put _ hv) hQ)
end
end Go.Proofs.Ytcmbhebgpboepaa.V
namespace Go.Proofs.Ytcmbhebgpboepaa.V
open Go Go.RowKit
section
variable {P : Program} {s : St} {Q : Exit → St → Prop} {ops : Array Oper} {qc : Bool} {n0 m : Nat} {listed : Array Bool}
/-- an operation whose guard is false -/
theorem g_skip {i : Nat} (listed' : Array Bool) (s' : St) (hb : decide (i < ops.size) = true) (hw : wantG ops s (opAt ops i) = some false) (hs : s.put (opAt ops i).dst skipped = s') (hl : listed.setIfInBounds i true = listed') (k : RunT P ops Q (quietB qc ops) n0 m listed' s') : GoT qc P Q ops n0 m listed s i := by
  subst hs hl
  rw [decide_eq_true_eq] at hb
  exact ⟨_, opAt_get hb, Or.inr ⟨hw, k⟩⟩
/-- a call by its contract, own blocks being lent as values -/
theorem g_lendc {i : Nat} (f : FuncId) (as1 as' : List AV) (av : AV) (H1 : List Blk) (listed' : Array Bool) (s' : St) (hb : (decide (i < ops.size) && callable P f) = true) (hw : wantG ops s (opAt ops i) = some true) (ha : callOf s.ev (opAt ops i).op = some (f, as1)) (hva : valA (fun _ => true) s.H 100 as1 = some as')
    (h : CallsV P f as' [] fun a b => a = av ∧ b = H1) (hn : (novR av && H1.all novB) = true) (hs : St.put ⟨s.t, s.H ++ H1.map (shiftB s.H.length)⟩ (opAt ops i).dst (ren (shf s.H.length) av) = s') (hl : listed.setIfInBounds i true = listed') (k : RunT P ops Q (quietB qc ops) n0 m listed' s') : GoT qc P Q ops n0 m listed s i := by
  subst hs hl
  rw [Bool.and_eq_true, decide_eq_true_eq] at hb
  refine ⟨_, opAt_get hb.1, Or.inl ⟨hw, Or.inr (op_callw (callOf_run ha hb.2) fun p w vals hH hv => ?_)⟩⟩
  refine (h.lend hn hH hv hva).mono ?_
  rintro e w' ⟨v, p', h1, h2, h3, h4, h5⟩
  exact ⟨v, _, _, p', h1, k, h2, h3, h4, h5⟩
end
end Go.Proofs.Ytcmbhebgpboepaa.V
