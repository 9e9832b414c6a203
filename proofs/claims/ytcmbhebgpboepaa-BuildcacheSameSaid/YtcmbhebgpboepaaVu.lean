/-
  The logic of values: a run that is reckoned out: code and functions. Over any program.
-/
import Derived.Test.YtcmbhebgpboepaaVy
namespace Go.Proofs.Ytcmbhebgpboepaa.V
open Go Go.RowKit
set_option linter.unusedSimpArgs false
set_option linter.unusedVariables false

def evC (P : Program) (cf : CF) (m : Nat) : Code → St → Option (Exit × St) :=
  Nat.rec (fun _ _ => none) (fun _ ih c s => match c with
    | .skip => some (.normal, s)
    | .ret => some (.ret, s)
    | .exit i => some (.exit i, s)
    | .seq x y => match ih x s with
      | some (.normal, s') => ih y s'
      | r => r
    | .cond c x y => match s.ev c with
      | .bool b => bif b then ih x s else ih y s
      | _ => none
    | .block i b => match ih b s with
      | some (.exit j, s') => bif j == i then some (.normal, s') else some (.exit j, s')
      | r => r
    | .loop b => match ih b s with
      | some (.normal, s') => ih (.loop b) s'
      | r => r
    | .region _ ops d => bif d then
        (bif P.follows .mixedOrders then match evX P cf ops s with
          | some s' => some (.normal, s')
          | none => none
        else none)
      else match evN P cf ops (List.range ops.size) s with
        | some s' => some (.normal, s')
        | none => none
    | _ => none) m
theorem wpV_loop0 {P : Program} {Q : Exit → St → Prop} {s : St} {c : Code} (I : Nat → St → Prop) (n0 : Nat) (h0 : I n0 s)
    (h : ∀ n s, I n s → WpV P c (fun e s' => match e with | .normal => ∃ m, m < n ∧ I m s' | e => Q e s') s) : WpV P (.loop c) Q s := fun p w a Qr hR hQ => by
  refine wp_loop_ghost (fun n a' w' => ∃ s' p', I n s' ∧ Rst p' s' a' w' ∧ Step p w p' w') n0 ⟨s, p, h0, hR, Step.refl _ _⟩ ?_
  rintro n a1 w1 ⟨s1, p1, hI, hR1, hS1⟩
  refine h n s1 hI p1 w1 a1 _ hR1 fun e s2 p2 a2 w2 hq hR2 hS2 => ?_
  cases e with
  | normal => obtain ⟨m, hm, hI2⟩ := hq; exact ⟨m, hm, _, p2, hI2, hR2, hS1.trans hS2⟩
  | _ => exact hQ _ _ _ _ _ hq hR2 (hS1.trans hS2)
def isX (e : Exit) (s : St) (e' : Exit) (s' : St) : Prop := e' = e ∧ s' = s
theorem evC_ok {P : Program} {cf : CF} (hcf : CFok P cf) : ∀ (m : Nat) (c : Code) (s : St) (e : Exit) (s' : St), evC P cf m c s = some (e, s') → WpV P c (isX e s') s
  | 0, c, s, e, s', h => by cases h
  | m + 1, c, s, e, s', h => by
    have ih := evC_ok hcf m
    cases c with
    | skip => cases h; exact wpV_skip ⟨rfl, rfl⟩
    | ret => cases h; exact wpV_ret ⟨rfl, rfl⟩
    | exit i => cases h; exact wpV_exit ⟨rfl, rfl⟩
    | seq x y =>
      change (match evC P cf m x s with | some (.normal, s1) => evC P cf m y s1 | r => r) = _ at h
      refine wpV_seq ?_
      cases hx : evC P cf m x s with
      | none => rw [hx] at h; cases h
      | some q =>
        obtain ⟨e1, s1⟩ := q
        rw [hx] at h
        refine (ih x s e1 s1 hx).mono ?_
        rintro e2 s2 ⟨rfl, rfl⟩
        cases e2 with
        | normal => exact ih y s2 e s' h
        | _ => cases h; exact ⟨rfl, rfl⟩
    | cond b x y =>
      change (match s.ev b with | .bool b => bif b then evC P cf m x s else evC P cf m y s | _ => none) = _ at h
      split at h
      · rename_i b' hb
        cases b' with
        | true => exact wpV_yes true hb rfl (ih x s e s' h)
        | false => exact wpV_no false hb rfl (ih y s e s' h)
      · cases h
    | block i b =>
      change (match evC P cf m b s with | some (.exit j, s1) => bif j == i then some (Exit.normal, s1) else some (Exit.exit j, s1) | r => r) = _ at h
      refine wpV_block ?_
      cases hx : evC P cf m b s with
      | none => rw [hx] at h; cases h
      | some q =>
        obtain ⟨e1, s1⟩ := q
        rw [hx] at h
        refine (ih b s e1 s1 hx).mono ?_
        rintro e2 s2 ⟨rfl, rfl⟩
        cases e2 with
        | exit j =>
          simp only [blockV]
          simp only [cond_eq_ite, beq_iff_eq] at h
          split at h
          · rename_i hj; rw [if_pos hj]; cases h; exact ⟨rfl, rfl⟩
          · rename_i hj; rw [if_neg hj]; cases h; exact ⟨rfl, rfl⟩
        | _ => cases h; exact ⟨rfl, rfl⟩
    | loop b =>
      refine wpV_loop0 (fun n s1 => n ≤ m + 1 ∧ evC P cf n (.loop b) s1 = some (e, s')) (m + 1) ⟨Nat.le_refl _, h⟩ ?_
      rintro n s1 ⟨hn, h1⟩
      cases n with
      | zero => cases h1
      | succ n =>
        change (match evC P cf n b s1 with | some (.normal, s2) => evC P cf n (.loop b) s2 | r => r) = _ at h1
        cases hx : evC P cf n b s1 with
        | none => rw [hx] at h1; cases h1
        | some q =>
          obtain ⟨e1, s2⟩ := q
          rw [hx] at h1
          have hle : n ≤ m := by omega
          refine (evC_ok hcf n b s1 e1 s2 hx).mono ?_
          rintro e2 s3 ⟨rfl, rfl⟩
          cases e2 with
          | normal => exact ⟨n, by omega, by omega, h1⟩
          | _ => cases h1; exact ⟨rfl, rfl⟩
    | region i ops d =>
      cases d with
      | true =>
        change (bif P.follows .mixedOrders then match evX P cf ops s with | some s' => some (Exit.normal, s') | none => none else none) = _ at h
        rw [cond_eq_ite] at h
        split at h
        · rename_i hm
          split at h
          · rename_i s1 h1; cases h; exact evX_ok hcf hm _ _ h1 ⟨rfl, rfl⟩
          · cases h
        · cases h
      | false =>
        change (match evN P cf ops (List.range ops.size) s with | some s' => some (Exit.normal, s') | none => none) = _ at h
        split at h
        · rename_i s1 h1; cases h; exact wpV_region (evN_ok hcf _ _ _ h1 ⟨rfl, rfl⟩)
        · cases h
    | _ => cases h
termination_by m => m

/-! ### what a function hands back -/
def okRes1 (P : Program) (s : St) : ResultVar → Bool
  | .tmp t => true
  | .cell a t => match cellsAt s.H (s.t.getD a .junk) with
    | some cs => knownT P t && decide ((bif isAggT P t then sizeT P t else 1) ≤ cs.length)
    | none => false
def okRes (P : Program) (s : St) : List ResultVar → Bool
  | [] => true
  | r :: l => okRes1 P s r && (notTup (res1 P s r).2 && okRes P s l)
theorem okRes_ok {P : Program} {s : St} : ∀ {l : List ResultVar}, okRes P s l = true → allP (resL P s l).1
  | [], _ => trivial
  | r :: l, h => by
    simp only [okRes, Bool.and_eq_true] at h
    obtain ⟨h1, h2, h3⟩ := h
    unfold resL
    simp only []
    rw [allP_append, allP_append, allP_dec]
    refine ⟨?_, h2, okRes_ok h3⟩
    cases r with
    | tmp t => trivial
    | cell a t =>
      simp only [okRes1] at h1
      simp only [res1]
      split at h1
      · rename_i cs hc
        simp only [Bool.and_eq_true, decide_eq_true_eq] at h1
        simp only [hc]; rw [allP_append, allP_dec]; exact h1
      · cases h1
def keepOf (n0 : Nat) (H : List Blk) (av : AV) : List Nat := match n0, idsR av with
  | 0, [] => []
  | n0, l => reach H (H.length + 1) (addNew (List.range n0) l) 0
def finB (P : Program) (n0 : Nat) (rs : List ResultVar) (s : St) : Option (AV × List Blk) :=
  bif okRes P s rs && keepB n0 (keepOf n0 s.H (packE (resL P s rs).2)) s.H then
    some (ren (idxK (keepOf n0 s.H (packE (resL P s rs).2))) (packE (resL P s rs).2), keepH (keepOf n0 s.H (packE (resL P s rs).2)) s.H)
  else none
def evFun (P : Program) (cf : CF) (m : Nat) : CF := fun f args H => match P.funcs[f]? with
  | some fn => match fn.body with
    | some c => match evC P cf m c ⟨args ++ List.replicate (fn.ntmps - args.length) .junk, H⟩ with
      | some (.ret, s) => finB P H.length fn.results.toList s
      | some (.normal, s) => finB P H.length fn.results.toList s
      | _ => none
    | none => none
  | none => none
theorem finB_ok {P : Program} {n0 : Nat} {rs : List ResultVar} {s : St} {av : AV} {H' : List Blk} (h : finB P n0 rs s = some (av, H')) : bodyV P rs n0 (fun a b => a = av ∧ b = H') .ret s := by
  unfold finB at h
  rw [cond_eq_ite] at h
  split at h
  · rename_i hc
    simp only [Bool.and_eq_true] at hc
    cases h
    exact ⟨okRes_ok hc.1, _, _, keepB_ok hc.2, rfl, rfl⟩
  · cases h
theorem evFun_ok {P : Program} {cf : CF} (hcf : CFok P cf) (m : Nat) : CFok P (evFun P cf m) := fun f args H av H' h => by
  unfold evFun at h
  split at h
  · rename_i fn hf
    split at h
    · rename_i c hb
      refine callsV_of hf hb ?_
      split at h
      · rename_i s hs
        refine (evC_ok hcf m _ _ _ _ hs).mono ?_
        rintro e s1 ⟨rfl, rfl⟩
        exact finB_ok h
      · rename_i s hs
        refine (evC_ok hcf m _ _ _ _ hs).mono ?_
        rintro e s1 ⟨rfl, rfl⟩
        exact finB_ok h
      · cases h
    · cases h
  · cases h
def evF (P : Program) (X : CF) (n : Nat) : CF :=
  Nat.rec (fun _ _ _ => none) (fun k ih f args H => match H with
    | [] => match X f args [] with
      | some r => some r
      | none => evFun P ih k f args []
    | B :: Bs => bif args.all noid1 then
        (match ih f args [] with
        | some (av, H') => some (ren (shf (B :: Bs).length) av, (B :: Bs) ++ H'.map (shiftB (B :: Bs).length))
        | none => none)
      else match X f args (B :: Bs) with
        | some r => some r
        | none => evFun P ih k f args (B :: Bs)) n
theorem evF_ok {P : Program} {X : CF} (hX : CFok P X) : ∀ n, CFok P (evF P X n)
  | 0 => fun f args H av H' h => by cases h
  | n + 1 => fun f args H av H' h => by
    have ih := evF_ok hX n
    cases H with
    | nil =>
      change (match X f args [] with | some r => some r | none => evFun P (evF P X n) n f args []) = _ at h
      split at h
      · rename_i r hr; cases h; exact hX _ _ _ _ _ hr
      · exact evFun_ok ih n _ _ _ _ _ h
    | cons B Bs =>
      change (bif args.all noid1 then (match evF P X n f args [] with | some (av, H') => some (ren (shf (B :: Bs).length) av, (B :: Bs) ++ H'.map (shiftB (B :: Bs).length)) | none => none) else match X f args (B :: Bs) with | some r => some r | none => evFun P (evF P X n) n f args (B :: Bs)) = _ at h
      rw [cond_eq_ite] at h
      split at h
      · rename_i hn
        split at h
        · rename_i av1 H1 he
          cases h
          intro p w vals hH hv
          refine ((ih _ _ _ _ _ he).frame (fun a ha => List.all_eq_true.1 hn a ha) hH hv).mono ?_
          rintro e w' ⟨v, a1, b1, p', rfl, ⟨e1, e2⟩, h1, h2, h3, _⟩
          subst e1 e2
          exact ⟨v, _, _, p', rfl, ⟨rfl, rfl⟩, h1, h2, h3⟩
        · cases h
      · split at h
        · rename_i r hr; cases h; exact hX _ _ _ _ _ hr
        · exact evFun_ok ih n _ _ _ _ _ h
def noX : CF := fun _ _ _ => none
theorem noX_ok (P : Program) : CFok P noX := fun _ _ _ _ _ h => by cases h
/-- a call that is reckoned out -/
theorem callsV_ev {P : Program} {X : CF} (hX : CFok P X) (n : Nat) {f : FuncId} {args : List AV} {H : List Blk} {av : AV} {H' : List Blk} (h : evF P X n f args H = some (av, H')) : CallsV P f args H fun a b => a = av ∧ b = H' := evF_ok hX n _ _ _ _ _ h

/-! ### as rules -/
section
variable {P : Program} {s : St} {Q : Exit → St → Prop} {c : Code} {ops : Array Oper} {l : List Nat}
/-- a piece of code that is reckoned out -/
theorem q_ev {X : CF} (hX : CFok P X) (m : Nat) (ks : List Nat) (e : Exit) (s' : St) (h : (evC P (evF P X m) m c s).map (fun q => (q.1, selS ks q.2)) = some (e, s')) (k : Q e s') : WpV P c Q s := by
  cases h1 : evC P (evF P X m) m c s with
  | none => rw [h1] at h; cases h
  | some q =>
    obtain ⟨e1, s1⟩ := q
    rw [h1] at h
    simp only [Option.map_some, Option.some.injEq, Prod.mk.injEq] at h
    obtain ⟨rfl, rfl⟩ := h
    intro p w a Qr hR hQ
    refine evC_ok (evF_ok hX m) m c s e1 s1 h1 p w a Qr hR ?_
    rintro e2 s2 p2 a2 w2 ⟨rfl, rfl⟩ r2 k2
    exact hQ _ _ p2 a2 w2 k (r2.sel ks) k2
/-- a call that is reckoned out, one step of a region in the order of the text -/
theorem n_ev {X : CF} (hX : CFok P X) (m : Nat) (f : FuncId) (as' : List AV) (av : AV) (H' : List Blk) {i : Nat} (s' : St) (hc : (decide (i < ops.size) && (callable P f && (match calls (opAt ops i) with | some g => g == f | none => false))) = true) (ha : (callArgs (opAt ops i)).map s.ev = as')
    (h : evF P X m f as' s.H = some (av, H')) (hs : St.put ⟨s.t, H'⟩ (opAt ops i).dst av = s') (k : RunN P ops Q l s') : RunN P ops Q (i :: l) s := by
  subst hs
  refine n_call f as' hc ha (callsV_ev hX m h) ?_
  rintro a b ⟨rfl, rfl⟩
  exact k
/-- the same where own blocks are lent, or handed over -/
theorem n_evl {X : CF} (hX : CFok P X) (m : Nat) (av : AV) (H' : List Blk) {i : Nat} (s' : St) (hc : (decide (i < ops.size) && (match (opAt ops i).guard with | none => true | _ => false)) = true)
    (h : effD P (evF P X m) s (opAt ops i).op = some (av, H')) (hs : St.put ⟨s.t, H'⟩ (opAt ops i).dst av = s') (k : RunN P ops Q l s') : RunN P ops Q (i :: l) s := by
  subst hs
  simp only [Bool.and_eq_true, decide_eq_true_eq] at hc
  have hg : (opAt ops i).guard = none := by
    have h2 := hc.2
    split at h2
    · assumption
    · cases h2
  refine runN_op (opAt_get hc.1) (wanted_none hg) ?_
  exact OpB.opV fun p w a K Q' hR hK => effD_ok (evF_ok hX m) h p w a K Q' hR fun v av2 H2 p' w' ⟨e1, e2⟩ a1 a2 a3 a4 => hK v av2 H2 p' w' (by subst e1 e2; exact k) a1 a2 a3 a4
/-- a call by its contract, own blocks being lent as values -/
theorem n_lendc (f : FuncId) (as1 as' : List AV) (av : AV) (H1 : List Blk) {i : Nat} (s' : St) (hc : (decide (i < ops.size) && ((match (opAt ops i).guard with | none => true | _ => false) && callable P f)) = true)
    (ha : callOf s.ev (opAt ops i).op = some (f, as1)) (hv : valA (fun _ => true) s.H 100 as1 = some as') (h : CallsV P f as' [] fun a b => a = av ∧ b = H1) (hn : (novR av && H1.all novB) = true)
    (hs : St.put ⟨s.t, s.H ++ H1.map (shiftB s.H.length)⟩ (opAt ops i).dst (ren (shf s.H.length) av) = s') (k : RunN P ops Q l s') : RunN P ops Q (i :: l) s := by
  subst hs
  simp only [Bool.and_eq_true, decide_eq_true_eq] at hc
  have hg : (opAt ops i).guard = none := by
    have h2 := hc.2.1
    split at h2
    · assumption
    · cases h2
  refine runN_op (opAt_get hc.1) (wanted_none hg) ?_
  refine OpB.opV (op_callw (callOf_run ha hc.2.2) fun p w vals hH hva => ?_)
  refine (h.lend hn hH hva hv).mono ?_
  rintro e w' ⟨v, p', h1, h2, h3, h4, h5⟩
  exact ⟨v, _, _, p', h1, k, h2, h3, h4, h5⟩
/-- a call by its contract, that leaves blocks -/
theorem n_callb (f : FuncId) (as' : List AV) (x : AV) (Bs : List Blk) {i : Nat} (s' : St) (hc : (decide (i < ops.size) && (callable P f && (match calls (opAt ops i) with | some g => g == f | none => false))) = true) (ha : (callArgs (opAt ops i)).map s.ev = as') (hn : as'.all noid1 = true)
    (hs : St.put ⟨s.t, s.H ++ Bs.map (shiftB s.H.length)⟩ (opAt ops i).dst (ren (shf s.H.length) x) = s') (h : CallsV P f as' [] fun a b => a = x ∧ b = Bs) (k : RunN P ops Q l s') : RunN P ops Q (i :: l) s := by
  subst hs
  refine n_callq f as' hc ha hn h ?_
  rintro a b ⟨rfl, rfl⟩
  exact k
end
end Go.Proofs.Ytcmbhebgpboepaa.V
