/-
  The judgments of the logic of values and the rules for the flow of control, for regions and for calls. Over any program.
-/
import Derived.Test.YtcmbhebgpboepaaVa
import Derived.Deep.LoopGhost
import Derived.Scope
namespace Go.Proofs.Ytcmbhebgpboepaa.V
open Go Go.RowKit
set_option linter.unusedSimpArgs false
set_option linter.unusedVariables false

structure St where
  t : List AV
  H : List Blk

def const0 : Value → Option AV
  | .bool b => some (.bool b)
  | .int k n => some (.int k n)
  | .string s => some (.str s)
  | .pointer none => some .nilptr
  | .slice none 0 0 => some .nilsl
  | .map none => some .nilmap
  | .nilFunc => some .nilfn
  | .func f a b => if a.isEmpty && b.isEmpty then some (.fn f [] []) else none
  | _ => none
def consts : List Value → Option (List AV)
  | [] => some []
  | v :: r => match const0 v, consts r with | some a, some l => some (a :: l) | _, _ => none
def constAV : Value → AV
  | .agg cs => match consts cs.toList with | some l => .agg l | none => .junk
  | v => (const0 v).getD .junk
def St.ev (s : St) : Operand → AV
  | .tmp i => s.t.getD i .junk
  | .const v => constAV v
  | .func f => .fn (.func f) [] []
  | .global _ => .junk
def St.put (s : St) (d : Option Tmp) (v : AV) : St := match d with | some i => ⟨s.t.set i v, s.H⟩ | none => s

structure Rst (p : Pl) (s : St) (a : Act) (w : World) : Prop where
  defers : a.defers = []
  reps : RepL (Rep p w) a.tmps.toList s.t
  heap : RH p s.H w

theorem const0_rep {p : Pl} {w : World} {v : Value} {a : AV} (h : const0 v = some a) : v.oneCell' = true ∧ RepF p.M w v a ∧ Rep0 p w v a ∧ Rep p w v a := by
  unfold const0 at h
  split at h
  case h_8 f x y =>
    split at h
    · rename_i he
      simp only [Bool.and_eq_true, Array.isEmpty_iff] at he
      obtain ⟨rfl, rfl⟩ := he
      cases h
      exact ⟨rfl, .fn f, .fn f, ⟨#[], #[], rfl, RepL.nil, RepL.nil⟩⟩
    · cases h
  all_goals (cases h <;> exact ⟨rfl, by constructor, by constructor, by constructor⟩)
theorem consts_rep {p : Pl} {w : World} : ∀ {vs : List Value} {xs : List AV}, consts vs = some xs → RepL (RepC p w) vs xs
  | [], xs, h => by cases h; exact RepL.nil
  | v :: r, xs, h => by
    unfold consts at h
    split at h
    · rename_i a l ha hl
      cases h
      exact RepL.cons ⟨(const0_rep (p := p) (w := w) ha).1, (const0_rep ha).2.2.1⟩ (consts_rep hl)
    · cases h
theorem rep_junk (p : Pl) (w : World) (v : Value) : Rep p w v .junk := trivial
theorem constAV_rep (p : Pl) (w : World) (v : Value) : Rep p w v (constAV v) := by
  unfold constAV
  split
  · rename_i cs
    split
    · rename_i l hl; exact ⟨cs, rfl, consts_rep hl⟩
    · trivial
  · cases h : const0 v with
    | none => trivial
    | some a => exact (const0_rep h).2.2.2
theorem Rst.ev {p s a w} (h : Rst p s a w) (x : Operand) : Rep p w (a.eval x) (s.ev x) := by
  cases x with
  | tmp i =>
    show Rep p w (a.tmps.getD i undef) (s.t.getD i .junk)
    by_cases hi : i < s.t.length
    · have h1 : i < a.tmps.toList.length := by rw [h.reps.1]; exact hi
      have := h.reps.2 i h1 hi
      simp only [List.getD_eq_getElem?_getD, List.getElem?_eq_getElem hi, Option.getD_some]
      rw [Array.getD_eq_getD_getElem?, Array.getElem?_eq_getElem (by simpa using h1)]
      simpa using this
    · simp only [List.getD_eq_getElem?_getD, List.getElem?_eq_none (Nat.le_of_not_lt hi), Option.getD_none]
      trivial
  | const v => exact constAV_rep p w v
  | func f => exact ⟨#[], #[], rfl, RepL.nil, RepL.nil⟩
  | global g => trivial
theorem Rst.put {p s a w} (h : Rst p s a w) (d : Option Tmp) {v : Value} {x : AV} (hv : Rep p w v x) : Rst p (s.put d x) (a.put d v) w := by
  cases d with
  | none => exact h
  | some d =>
    refine ⟨h.defers, ⟨?_, fun i h1 h2 => ?_⟩, h.heap⟩
    · simp only [Act.put, St.put, Array.toList_setIfInBounds, List.length_set]; exact h.reps.1
    · simp only [Act.put, St.put, Array.toList_setIfInBounds, List.getElem_set]
      by_cases hi : d = i
      · subst hi; rw [if_pos rfl, if_pos rfl]; exact hv
      · rw [if_neg hi, if_neg hi]; exact h.reps.2 i _ _
theorem Rst.step {p s a w p' w'} (h : Rst p s a w) (hs : Step p w p' w') {H' : List Blk} (hH : RH p' H' w') : Rst p' ⟨s.t, H'⟩ a w' := ⟨h.defers, h.reps.mono fun _ _ => Rep.step hs, hH⟩
theorem Rst.below {p s a w w'} (h : Rst p s a w) (hb : Below w.heap.size w w') : Rst p s a w' := h.step (Step.of_below hb h.heap.lt) (h.heap.below hb)

def selT (ks : List Nat) : Nat → List AV → List AV
  | _, [] => []
  | i, x :: r => (bif ks.contains i then x else .junk) :: selT ks (i + 1) r
def selS (ks : List Nat) (s : St) : St := ⟨selT ks 0 s.t, s.H⟩
theorem selT_rep {p : Pl} {w : World} {ks : List Nat} : ∀ {i : Nat} {vs : List Value} {xs : List AV}, RepL (Rep p w) vs xs → RepL (Rep p w) vs (selT ks i xs)
  | _, [], [], _ => RepL.nil
  | i, v :: vs, x :: xs, h => by
    have h0 := h.2 0 (by simp) (by simp)
    refine RepL.cons ?_ (selT_rep ⟨by simpa using h.1, fun j h1 h2 => by have := h.2 (j + 1) (by simpa using h1) (by simpa using h2); simpa using this⟩)
    cases ks.contains i with
    | true => exact h0
    | false => trivial
  | _, [], _ :: _, h => absurd h.1 (by simp)
  | _, _ :: _, [], h => absurd h.1 (by simp)
theorem Rst.sel {p s a w} (h : Rst p s a w) (ks : List Nat) : Rst p (selS ks s) a w := ⟨h.defers, selT_rep h.reps, h.heap⟩

/-! ### the judgments -/
def WpV (P : Program) (c : Code) (Q : Exit → St → Prop) (s : St) : Prop :=
  ∀ (p : Pl) (w : World) (a : Act) (Qr : Exit → Act → World → Prop), Rst p s a w → (∀ e s' p' a' w', Q e s' → Rst p' s' a' w' → Step p w p' w' → Qr e a' w') → c.wp P Qr a w
def RunN (P : Program) (ops : Array Oper) (Q : Exit → St → Prop) (l : List Nat) (s : St) : Prop :=
  ∀ (p : Pl) (w : World) (a : Act) (Qr : Exit → Act → World → Prop), Rst p s a w → (∀ e s' p' a' w', Q e s' → Rst p' s' a' w' → Step p w p' w' → Qr e a' w') → wpOps P ops Qr l a w
def unl (l : Array Bool) : Nat := l.toList.countP (fun b => !b)
def RunD (P : Program) (ops : Array Oper) (Q : Exit → St → Prop) (n : Nat) (listed : Array Bool) (s : St) : Prop :=
  ∀ (p : Pl) (w : World) (a : Act) (K : Act → World → Prop), Rst p s a w → (∀ s' p' a' w', Q .normal s' → Rst p' s' a' w' → Step p w p' w' → K a' w') →
    wpAnyH P .any ops (fun e a' w' => e = .normal ∧ K a' w') (Below w.heap.size w) n listed a w
def OpV (P : Program) (o : Oper) (s : St) (R : AV → List Blk → Prop) : Prop :=
  ∀ (p : Pl) (w : World) (a : Act) (K : Act → World → Prop) (Q : Exit → Act → World → Prop), Rst p s a w → (∀ v av H' p' w', R av H' → RH p' H' w' → Rep p' w' v av → Step p w p' w' → K (a.put o.dst v) w') → o.wp P a w K Q
def OpB (P : Program) (o : Oper) (s : St) (R : AV → List Blk → Prop) : Prop :=
  ∀ (p : Pl) (w : World) (a : Act) (K : Act → World → Prop) (Q : Exit → Act → World → Prop), Rst p s a w → (∀ v av H' p' w', R av H' → RH p' H' w' → Rep p' w' v av → Step p w p' w' → Below w.heap.size w w' → K (a.put o.dst v) w') → o.wp P a w K Q
def CallsV (P : Program) (f : FuncId) (args : List AV) (H : List Blk) (R : AV → List Blk → Prop) : Prop :=
  ∀ (p : Pl) (w : World) (vals : Array Value), RH p H w → RepL (Rep p w) vals.toList args →
    Calls P f vals w fun e w' => ∃ v av H' p', e = .returned v ∧ R av H' ∧ RH p' H' w' ∧ Rep p' w' v av ∧ Step p w p' w'

/-! ### control -/
section
variable {P : Program} {Q : Exit → St → Prop} {s : St}
theorem WpV.mono {c : Code} {Q' : Exit → St → Prop} (h : WpV P c Q s) (hq : ∀ e s, Q e s → Q' e s) : WpV P c Q' s :=
  fun p w a Qr hR hQ => h p w a Qr hR fun e s' p' a' w' q => hQ e s' p' a' w' (hq e s' q)
theorem WpV.weaken {c : Code} {s' : St} (h : WpV P c Q s') (hw : ∀ p a w, Rst p s a w → ∃ p', Rst p' s' a w ∧ Step p w p' w) : WpV P c Q s := fun p w a Qr hR hQ => by
  obtain ⟨p', h1, h2⟩ := hw p a w hR
  exact h p' w a Qr h1 fun e s1 p1 a1 w1 q r k => hQ e s1 p1 a1 w1 q r (h2.trans k)
theorem wpV_skip (h : Q .normal s) : WpV P .skip Q s := fun p w a _ hR hQ => wp_skip (hQ _ _ _ _ _ h hR (Step.refl p w))
theorem wpV_ret (h : Q .ret s) : WpV P .ret Q s := fun p w a _ hR hQ => wp_ret (hQ _ _ _ _ _ h hR (Step.refl p w))
theorem wpV_exit {id : Nat} (h : Q (.exit id) s) : WpV P (.exit id) Q s := fun p w a _ hR hQ => wp_exit (hQ _ _ _ _ _ h hR (Step.refl p w))
def thenV (P : Program) (y : Code) (Q : Exit → St → Prop) : Exit → St → Prop
  | .normal, s => WpV P y Q s
  | e, s => Q e s
theorem wpV_seq {x y : Code} (h : WpV P x (thenV P y Q) s) : WpV P (.seq x y) Q s := fun p w a Qr hR hQ => by
  refine wp_seq (h p w a _ hR fun e s' p' a' w' hq hR' hS => ?_)
  cases e with
  | normal => exact hq p' w' a' Qr hR' fun e s2 p2 a2 w2 q2 r2 k2 => hQ e s2 p2 a2 w2 q2 r2 (hS.trans k2)
  | _ => exact hQ _ _ _ _ _ hq hR' hS
theorem rep_bool {p w v b} (h : Rep p w v (.bool b)) : v = .bool b := by
  simp only [Rep, RepT, Rep1, Rep0] at h; cases h; rfl
theorem wpV_cond {c : Operand} {x y : Code} (b : Bool) (hc : s.ev c = .bool b) (h1 : b = true → WpV P x Q s) (h2 : b = false → WpV P y Q s) : WpV P (.cond c x y) Q s := fun p w a Qr hR hQ => by
  have hb : a.eval c = .bool b := rep_bool (hc ▸ hR.ev c)
  exact wp_cond_split hb (fun hb => h1 hb p w a Qr hR hQ) (fun hb => h2 hb p w a Qr hR hQ)
theorem wpV_yes {c : Operand} {x y : Code} (b : Bool) (hc : s.ev c = .bool b) (hb : b = true) (h : WpV P x Q s) : WpV P (.cond c x y) Q s := wpV_cond b hc (fun _ => h) (fun h => by rw [hb] at h; cases h)
theorem wpV_no {c : Operand} {x y : Code} (b : Bool) (hc : s.ev c = .bool b) (hb : b = false) (h : WpV P y Q s) : WpV P (.cond c x y) Q s := wpV_cond b hc (fun h => by rw [hb] at h; cases h) (fun _ => h)
def blockV (id : Nat) (Q : Exit → St → Prop) : Exit → St → Prop
  | .exit id', s => if id' = id then Q .normal s else Q (.exit id') s
  | e, s => Q e s
theorem wpV_block {id : Nat} {c : Code} (h : WpV P c (blockV id Q) s) : WpV P (.block id c) Q s := fun p w a Qr hR hQ => by
  refine wp_block (h p w a _ hR fun e s' p' a' w' hq hR' hS => ?_)
  cases e with
  | exit id' =>
    simp only [blockV, Exit.inBlock] at hq ⊢
    split at hq <;> rename_i he
    · rw [if_pos he]; exact hQ _ _ _ _ _ hq hR' hS
    · rw [if_neg he]; exact hQ _ _ _ _ _ hq hR' hS
  | _ => exact hQ _ _ _ _ _ hq hR' hS
def loopV (I : Nat → St → Prop) (ks : List Nat) (n : Nat) (Q : Exit → St → Prop) : Exit → St → Prop
  | .normal, s => ∃ m, m < n ∧ I m (selS ks s)
  | e, s => Q e s
theorem wpV_loop {c : Code} (I : Nat → St → Prop) (ks : List Nat) (n0 : Nat) (h0 : I n0 s) (h : ∀ n s, I n s → WpV P c (loopV I ks n Q) s) : WpV P (.loop c) Q s := fun p w a Qr hR hQ => by
  refine wp_loop_ghost (fun n a' w' => ∃ s' p', I n s' ∧ Rst p' s' a' w' ∧ Step p w p' w') n0 ⟨s, p, h0, hR, Step.refl _ _⟩ ?_
  rintro n a1 w1 ⟨s1, p1, hI, hR1, hS1⟩
  refine h n s1 hI p1 w1 a1 _ hR1 fun e s2 p2 a2 w2 hq hR2 hS2 => ?_
  cases e with
  | normal => obtain ⟨m, hm, hI2⟩ := hq; exact ⟨m, hm, _, p2, hI2, hR2.sel ks, hS1.trans hS2⟩
  | _ => exact hQ _ _ _ _ _ hq hR2 (hS1.trans hS2)

/-! ### regions in the order of the text -/
def wanted (ops : Array Oper) (s : St) (o : Oper) : Option Bool :=
  match o.guard with
  | none => some true
  | some (j, want) => match (ops[j]?).bind (·.dst) with
    | some d => match s.t.getD d .junk with | .bool b => some (b == want) | _ => none
    | none => none
theorem wanted_of {ops : Array Oper} {s : St} {o : Oper} {p a w} (hR : Rst p s a w) {b : Bool} (h : wanted ops s o = some b) : Region.wanted o (yielded ops a.tmps) = b := by
  unfold wanted at h
  unfold Region.wanted
  split at h
  · rename_i hg; rw [hg]; cases h; rfl
  · rename_i j want hg
    rw [hg]
    split at h
    · rename_i d hd
      split at h
      · rename_i c hc
        cases h
        have hv := hR.ev (.tmp d)
        rw [show s.ev (.tmp d) = .bool c from hc] at hv
        have hv := rep_bool hv
        have h2 : a.tmps[d]? = some (.bool c) := by
          have h3 : a.tmps.getD d undef = .bool c := hv
          rw [Array.getD_eq_getD_getElem?] at h3
          cases h4 : a.tmps[d]? with
          | none => rw [h4] at h3; cases h3
          | some x => rw [h4] at h3; simpa using h3
        simp only [yielded, hd, Option.bind_some, h2]
        cases c <;> cases want <;> rfl
      · cases h
    · cases h
theorem wpV_region {id : Nat} {ops : Array Oper} (h : RunN P ops Q (List.range ops.size) s) : WpV P (.region id ops false) Q s := fun p w a Qr hR hQ => wp_region (h p w a Qr hR hQ)
theorem runN_done (h : Q .normal s) {ops : Array Oper} : RunN P ops Q [] s := fun p w _ _ hR hQ => hQ _ _ _ _ _ h hR (Step.refl p w)
theorem runN_op {ops : Array Oper} {i : Nat} {l : List Nat} {o : Oper} (ho : ops[i]? = some o) (hw : wanted ops s o = some true) (h : OpV P o s fun av H' => RunN P ops Q l (St.put ⟨s.t, H'⟩ o.dst av)) : RunN P ops Q (i :: l) s := fun p w a Qr hR hQ => by
  rw [wpOps_cons]
  unfold wpOp
  rw [ho]
  simp only [wanted_of hR hw, if_true]
  refine Or.inl (h p w a _ _ hR fun v av H' p' w' hr hH hv hS => ?_)
  exact hr p' w' _ Qr (Rst.put (hR.step hS hH) _ hv) fun e s2 p2 a2 w2 q r k => hQ e s2 p2 a2 w2 q r (hS.trans k)
theorem runN_skip {ops : Array Oper} {i : Nat} {l : List Nat} {o : Oper} (ho : ops[i]? = some o) (hw : wanted ops s o = some false) (h : RunN P ops Q l (s.put o.dst .junk)) : RunN P ops Q (i :: l) s := fun p w a Qr hR hQ => by
  rw [wpOps_cons]
  unfold wpOp
  rw [ho]
  simp only [wanted_of hR hw, Bool.false_eq_true, if_false]
  exact h p w _ Qr (hR.put _ (rep_junk p w undef)) hQ
theorem RunN.weaken {ops : Array Oper} {l : List Nat} {s' : St} (h : RunN P ops Q l s') (hw : ∀ p a w, Rst p s a w → ∃ p', Rst p' s' a w ∧ Step p w p' w) : RunN P ops Q l s := fun p w a Qr hR hQ => by
  obtain ⟨p', h1, h2⟩ := hw p a w hR
  exact h p' w a Qr h1 fun e s1 p1 a1 w1 q r k => hQ e s1 p1 a1 w1 q r (h2.trans k)

/-! ### regions that draw their order -/
theorem wpAnyH_weak {ops : Array Oper} {Qr : Exit → Act → World → Prop} {S S' : World → Prop} (hS : ∀ w, S' w → S w) : ∀ (n : Nat) (listed : Array Bool) (a : Act) (w : World), wpAnyH P .any ops Qr S' n listed a w → wpAnyH P .any ops Qr S n listed a w
  | 0, _, _, _, h => h
  | n + 1, _, _, _, h => ⟨h.1, fun i hi => wpOp_mono (fun a' w' h' => ⟨hS _ h'.1, wpAnyH_weak hS n _ a' w' h'.2⟩) (h.2 i hi)⟩
theorem wpV_draw {id : Nat} {ops : Array Oper} (hm : P.follows .mixedOrders = true) (h : RunD P ops Q ops.size (Array.replicate ops.size false) s) : WpV P (.region id ops true) Q s := fun p w a Qr hR hQ => by
  have hb : Below w.heap.size w { w with drawn := w.drawn + 1 } := ⟨rfl, rfl, rfl, Nat.le_refl _, fun _ _ => rfl⟩
  refine wp_mono (wp_region_held (Q := fun e a' w' => e = .normal ∧ Qr .normal a' w') hm (h p _ a (Qr .normal) (hR.below hb) fun s' p' a' w' q r k => hQ _ _ _ _ _ q r ((Step.of_below hb hR.heap.lt).trans k))) ?_
  rintro e a' w' ⟨rfl, h⟩
  exact h
theorem runD_done {ops : Array Oper} {n : Nat} {listed : Array Bool} (hr : Region.ready .any ops listed = []) (h : Q .normal s) : RunD P ops Q n listed s := fun p w _ _ hR hQ => wpAnyH_done hr ⟨rfl, hQ _ _ _ _ h hR (Step.refl p w)⟩ n
/-- a reading operation -/
def PureV (P : Program) (o : Oper) (s : St) (x : AV) : Prop :=
  ∀ (p : Pl) (w : World) (a : Act), Rst p s a w → ∃ v, Rep p w v x ∧ ∀ w', Below w.heap.size w w' → (execOp a.eval o).run P w' = .ok (.value v) w'
theorem runD_take {ops : Array Oper} {n : Nat} {listed : Array Bool} (i : Nat) {o : Oper} {x : AV} (ho : ops[i]? = some o)
    (hc : (Region.noSelect ops && (Region.free .any ops listed i && (Region.ready .any ops listed).contains i)) = true) (hw : wanted ops s o = some true) (hp : PureV P o s x)
    (h : RunD P ops Q n (listed.setIfInBounds i true) (s.put o.dst x)) : RunD P ops Q (n + 1) listed s := fun p w a K hR hQ => by
  simp only [Bool.and_eq_true] at hc
  obtain ⟨v, hv, hrun⟩ := hp p w a hR
  exact wpAnyH_take ho hc.1 hc.2.1 hc.2.2 (fun _ _ _ h => (by cases h.1)) (Or.inl ⟨wanted_of hR hw, fun w' hw' => hrun w' hw'⟩) (Below.refl _ _) (h p w _ K (hR.put _ hv) hQ)
theorem runD_skip {ops : Array Oper} {n : Nat} {listed : Array Bool} (i : Nat) {o : Oper} (ho : ops[i]? = some o)
    (hc : (Region.noSelect ops && (Region.free .any ops listed i && (Region.ready .any ops listed).contains i)) = true) (hw : wanted ops s o = some false)
    (h : RunD P ops Q n (listed.setIfInBounds i true) (s.put o.dst .junk)) : RunD P ops Q (n + 1) listed s := fun p w a K hR hQ => by
  simp only [Bool.and_eq_true] at hc
  exact wpAnyH_take (v := undef) ho hc.1 hc.2.1 hc.2.2 (fun _ _ _ h => (by cases h.1)) (Or.inr ⟨wanted_of hR hw, rfl⟩) (Below.refl _ _) (h p w _ K (hR.put _ (rep_junk p w undef)) hQ)
theorem runD_one {ops : Array Oper} {n : Nat} {listed : Array Bool} (i : Nat) {o : Oper} (ho : ops[i]? = some o) (hr : Region.ready .any ops listed = [i]) (hw : wanted ops s o = some true)
    (h : OpB P o s fun av H' => RunD P ops Q n (listed.setIfInBounds i true) (St.put ⟨s.t, H'⟩ o.dst av)) : RunD P ops Q (n + 1) listed s := fun p w a K hR hQ => by
  refine wpAnyH_all hr (by simp) fun j hj => ?_
  obtain rfl : j = i := by simpa using hj
  unfold wpOp
  rw [ho]
  simp only [wanted_of hR hw, if_true]
  refine Or.inl (h p w a _ _ hR fun v av H' p' w' hr hH hv hS hB => ⟨hB, ?_⟩)
  exact wpAnyH_weak (fun w'' hb => hB.trans (hb.mono hB.size)) _ _ _ _ (hr p' w' _ K (Rst.put (hR.step hS hH) _ hv) fun s2 p2 a2 w2 q r k => hQ s2 p2 a2 w2 q r (hS.trans k))
theorem RunD.weaken {ops : Array Oper} {n : Nat} {listed : Array Bool} {s' : St} (h : RunD P ops Q n listed s') (hw : ∀ p a w, Rst p s a w → ∃ p', Rst p' s' a w ∧ Step p w p' w) : RunD P ops Q n listed s := fun p w a K hR hQ => by
  obtain ⟨p', h1, h2⟩ := hw p a w hR
  exact h p' w a K h1 fun s1 p1 a1 w1 q r k => hQ s1 p1 a1 w1 q r (h2.trans k)
theorem PureV.opV {o : Oper} {x : AV} (h : PureV P o s x) {R : AV → List Blk → Prop} (hr : R x s.H) : OpV P o s R := fun p w a K Q' hR hK => by
  obtain ⟨v, hv, hrun⟩ := h p w a hR
  unfold Oper.wp
  rw [hrun w (Below.refl _ _)]
  exact hK v x s.H p w hr hR.heap hv (Step.refl _ _)
theorem OpB.opV {o : Oper} {R : AV → List Blk → Prop} (h : OpB P o s R) : OpV P o s R := fun p w a K Q' hR hK => h p w a K Q' hR fun v av H' p' w' a1 a2 a3 a4 _ => hK v av H' p' w' a1 a2 a3 a4
/-- replacing a slot by something weaker -/
theorem Rst.set {p s a w} (h : Rst p s a w) (i : Nat) (x : AV) (hx : ∀ v, Rep p w v (s.t.getD i .junk) → Rep p w v x) : Rst p ⟨s.t.set i x, s.H⟩ a w := by
  refine ⟨h.defers, ⟨by rw [List.length_set]; exact h.reps.1, fun j h1 h2 => ?_⟩, h.heap⟩
  rw [List.getElem_set]
  split
  · rename_i he
    subst he
    refine hx _ ?_
    have hl : i < s.t.length := by rw [← h.reps.1]; exact h1
    rw [List.getD_eq_getElem?_getD, List.getElem?_eq_getElem hl]
    exact h.reps.2 i h1 hl
  · exact h.reps.2 j h1 _
end

/-! ### entering a function -/
def resultAV (s : St) : ResultVar → Option AV
  | .tmp t => some (s.t.getD t .junk)
  | .cell _ _ => none
end Go.Proofs.Ytcmbhebgpboepaa.V
