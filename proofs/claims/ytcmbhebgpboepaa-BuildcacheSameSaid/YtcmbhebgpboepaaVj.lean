/-
  The logic of values: renumbering of blocks, calls without blocks of the run's own, entering a function, freezing a row. Over any program.
-/
import Derived.Test.YtcmbhebgpboepaaVi
namespace Go.Proofs.Ytcmbhebgpboepaa.V
open Go Go.RowKit
set_option linter.unusedSimpArgs false
set_option linter.unusedVariables false

def ren0 (f : Nat → Option Nat) : AV → AV
  | .sl id st len sz => match f id with | some j => .sl j st len sz | none => .junk
  | .slc id st len c sz => match f id with | some j => .slc j st len c sz | none => .junk
  | .ptr id o => match f id with | some j => .ptr j o | none => .junk
  | .map id => match f id with | some j => .map j | none => .junk
  | .iter id => match f id with | some j => .iter j | none => .junk
  | .agg _ | .tuple _ | .fn _ _ _ | .cnd _ _ => .junk
  | x => x
def ren1 (f : Nat → Option Nat) : AV → AV
  | .agg cs => .agg (cs.map (ren0 f))
  | .fn g x y => .fn g (x.map (ren0 f)) (y.map (ren0 f))
  | x => ren0 f x
def renP (f : Nat → Option Nat) : AV → AV
  | .tuple vs => .tuple (vs.map (ren1 f))
  | x => ren1 f x
def ren (f : Nat → Option Nat) : AV → AV
  | .cnd g x => .cnd g (renP f x)
  | x => renP f x
structure Emb (f : Nat → Option Nat) (p p' : Pl) : Prop where
  at_ : ∀ id j, f id = some j → id < p.n → j < p'.n ∧ ∀ q, p'.at_ j = some q → p.at_ id = some q
  M : ∀ g, p'.M g → p.M g
theorem Rep0.ren {f : Nat → Option Nat} {p p' : Pl} (h : Emb f p p') {w : World} {v : Value} {x : AV} (hx : Rep0 p w v x) : Rep0 p' w v (ren0 f x) := by
  cases x
  case sl id st len sz =>
    simp only [ren0]
    cases hf : f id with
    | none => trivial
    | some j => exact ⟨(h.at_ id j hf hx.1).1, fun q hq => hx.2 q ((h.at_ id j hf hx.1).2 q hq)⟩
  case slc id st len c sz =>
    simp only [ren0]
    cases hf : f id with
    | none => trivial
    | some j => exact ⟨(h.at_ id j hf hx.1).1, fun q hq => hx.2 q ((h.at_ id j hf hx.1).2 q hq)⟩
  case ptr id o =>
    simp only [ren0]
    cases hf : f id with
    | none => trivial
    | some j => exact ⟨(h.at_ id j hf hx.1).1, fun q hq => hx.2 q ((h.at_ id j hf hx.1).2 q hq)⟩
  case map id =>
    simp only [ren0]
    cases hf : f id with
    | none => trivial
    | some j => exact ⟨(h.at_ id j hf hx.1).1, fun q hq => hx.2 q ((h.at_ id j hf hx.1).2 q hq)⟩
  case iter id =>
    simp only [ren0]
    cases hf : f id with
    | none => trivial
    | some j => exact ⟨(h.at_ id j hf hx.1).1, fun q hq => hx.2 q ((h.at_ id j hf hx.1).2 q hq)⟩
  all_goals first | trivial | exact RepF.anti h.M hx
theorem RepL.map {R R' : Value → AV → Prop} {g : AV → AV} {vs : List Value} {xs : List AV} (h : RepL R vs xs) (hg : ∀ v x, R v x → R' v (g x)) : RepL R' vs (xs.map g) :=
  ⟨by rw [List.length_map]; exact h.1, fun i a b => by rw [List.getElem_map]; exact hg _ _ (h.2 i a (by rw [List.length_map] at b; exact b))⟩
theorem RepC.ren {f : Nat → Option Nat} {p p' : Pl} (h : Emb f p p') {w : World} {v : Value} {x : AV} (hx : RepC p w v x) : RepC p' w v (ren0 f x) := ⟨hx.1, hx.2.ren h⟩
theorem Rep0.rep1 {p : Pl} {w : World} {v : Value} {x : AV} (h : Rep0 p w v x) : Rep1 p w v x := by
  cases x
  case fn f x y =>
    have h' : RepF p.M w v (.fn f x y) := h
    cases h'; exact ⟨#[], #[], rfl, RepL.nil, RepL.nil⟩
  case agg cs => cases h
  all_goals exact h
theorem Rep1.ren {f : Nat → Option Nat} {p p' : Pl} (h : Emb f p p') {w : World} {v : Value} {x : AV} (hx : Rep1 p w v x) : Rep1 p' w v (ren1 f x) := by
  cases x
  case agg cs => obtain ⟨vs, h1, h2⟩ := hx; exact ⟨vs, h1, h2.map fun _ _ => RepC.ren h⟩
  case fn g x y => obtain ⟨vs, us, h1, h2, h3⟩ := hx; exact ⟨vs, us, h1, h2.map fun _ _ => Rep0.ren h, h3.map fun _ _ => Rep0.ren h⟩
  case tuple vs => exact (rep1_tuple hx).elim
  all_goals (simp only [Rep1] at hx; exact (Rep0.ren h hx).rep1)
theorem Rep1.repT {p : Pl} {w : World} {v : Value} {x : AV} (h : Rep1 p w v x) : RepT p w v x := by
  cases x
  case tuple vs => exact (rep1_tuple h).elim
  all_goals exact h
theorem RepT.rep {p : Pl} {w : World} {v : Value} {x : AV} (h : RepT p w v x) : Rep p w v x := by
  cases x
  case cnd g x => exact (rep1_cnd h).elim
  all_goals exact h
theorem RepT.ren {f : Nat → Option Nat} {p p' : Pl} (h : Emb f p p') {w : World} {v : Value} {x : AV} (hx : RepT p w v x) : RepT p' w v (renP f x) := by
  cases x
  case tuple vs => obtain ⟨us, h1, h2⟩ := hx; exact ⟨us, h1, h2.map fun _ _ => Rep1.ren h⟩
  case agg cs => exact Rep1.ren h (x := .agg cs) hx
  case fn g x y => exact Rep1.ren h (x := .fn g x y) hx
  all_goals (simp only [RepT, Rep1] at hx; exact (Rep0.ren h hx).rep1.repT)
theorem Rep.ren {f : Nat → Option Nat} {p p' : Pl} (h : Emb f p p') {w : World} {v : Value} {x : AV} (hx : Rep p w v x) : Rep p' w v (V.ren f x) := by
  cases x
  case cnd g x => exact ⟨fun hg => (hx.1 hg).ren h, hx.2⟩
  all_goals (simp only [Rep] at hx; exact (RepT.ren h hx).rep)
/-- a block under other numbers -/
def RenB (f : Nat → Option Nat) : Blk → Blk → Prop
  | .dead, .dead => True
  | .row t xs, .row t' ys => t' = t ∧ ((ys = xs ∧ ∀ x ∈ xs, noid0 x = true) ∨ ys = xs.map (ren0 f))
  | .map kv, .map kv' => kv' = kv.map fun q => (ren1 f q.1, ren1 f q.2)
  | .iter s n, .iter s' n' => s' = s ∧ n' = n
  | _, _ => False
theorem BlkIs.ren {f : Nat → Option Nat} {p p' : Pl} (h : Emb f p p') {w : World} {id j : Nat} {b b' : Blk} (hat : p'.at_ j = p.at_ id) (hb : BlkIs p w id b) (hr : RenB f b b') : BlkIs p' w j b' := by
  cases b <;> cases b' <;> simp only [RenB] at hr
  case dead.dead => exact hat.trans hb
  case row.row t xs t' ys =>
    obtain ⟨rfl, hr⟩ := hr
    rcases hb with ⟨h1, h2⟩ | ⟨g, cur, h1, h2, h3, h4⟩
    · subst h2
      refine Or.inl ⟨hat.trans h1, ?_⟩
      rcases hr with ⟨rfl, _⟩ | rfl <;> rfl
    · refine Or.inr ⟨g, cur, hat.trans h1, h2, ?_, ?_⟩
      · rcases hr with ⟨rfl, _⟩ | rfl
        · exact h3
        · rw [List.length_map]; exact h3
      · rcases hr with ⟨rfl, hn⟩ | rfl
        · intro i hi
          obtain ⟨v, a, b⟩ := h4 i hi
          exact ⟨v, a, b.1, b.2.noid h.M (hn _ (List.getElem_mem hi))⟩
        · intro i hi
          obtain ⟨v, a, b⟩ := h4 i (by rw [List.length_map] at hi; exact hi)
          exact ⟨v, a, by rw [List.getElem_map]; exact b.ren h⟩
  case map.map kv kv' =>
    subst hr
    obtain ⟨g, es, clock, h1, h2, h3, h4⟩ := hb
    refine ⟨g, es, clock, hat.trans h1, h2, by rw [List.length_map]; exact h3, fun i a b => ?_⟩
    obtain ⟨c, d⟩ := h4 i (by rw [List.length_map] at a; exact a) b
    rw [List.getElem_map]
    exact ⟨c.ren h, d.ren h⟩
  case iter.iter =>
    obtain ⟨rfl, rfl⟩ := hr
    obtain ⟨g, h1, h2⟩ := hb
    exact ⟨g, hat.trans h1, h2⟩

/-! ### a call that has no block of the run's own -/
def shf (n : Nat) (id : Nat) : Option Nat := some (id + n)
def shiftB (n : Nat) : Blk → Blk
  | .row t xs => .row t (xs.map (ren0 (shf n)))
  | .map kv => .map (kv.map fun q => (ren1 (shf n) q.1, ren1 (shf n) q.2))
  | b => b
theorem shiftB_ren (n : Nat) (b : Blk) : RenB (shf n) b (shiftB n b) := by cases b <;> simp [shiftB, RenB]
theorem CallsV.frame {P : Program} {f : FuncId} {args : List AV} {R : AV → List Blk → Prop} (h : CallsV P f args [] R) (hn : ∀ a ∈ args, noid1 a = true) {p : Pl} {H : List Blk} {w : World} {vals : Array Value} (hH : RH p H w) (hv : RepL (Rep p w) vals.toList args) :
    Calls P f vals w fun e w' => ∃ v av H' p', e = .returned v ∧ R av H' ∧ RH p' (H ++ H'.map (shiftB H.length)) w' ∧ Rep p' w' v (ren (shf H.length) av) ∧ Step p w p' w' ∧ Below w.heap.size w w' := by
  let p0 : Pl := ⟨0, fun _ => none, p.M⟩
  have hown0 : ∀ g, ¬ p0.own g := fun g ⟨id, hid⟩ => by cases hid
  have hM0 : ∀ g, p0.M g → p.M g := fun g hg => hg.elim (fun h => (hown0 g h).elim) id
  have hlt : ∀ g, p.M g → g < w.heap.size := fun g hg => hg.elim (hH.lt g) fun hx => (hH.xs g hx).1
  have hH0 : RH p0 [] w := ⟨rfl, fun _ _ => rfl, fun _ _ _ h => (by cases h), fun id h => absurd h (by simp), fun g hg => ⟨hlt g hg, hown0 g⟩⟩
  refine (h p0 w vals hH0 ⟨hv.1, fun i a b => (hv.2 i a b).noid hM0 (hn _ (List.getElem_mem b))⟩).mono ?_
  rintro e w' ⟨v, av, H', q, rfl, hR, hHq, hrep, hS⟩
  have hqx : q.x = p.M := hS.x
  let pc : Pl := ⟨p.n + q.n, fun id => if id < p.n then p.at_ id else q.at_ (id - p.n), p.x⟩
  have hpn : p.n = H.length := hH.n
  have hB : Below w.heap.size w w' := ⟨hS.os, hS.tape, hS.output, hS.size, fun g hg => hS.froz g hg (hown0 g)⟩
  have hqnew : ∀ g, q.own g → w.heap.size ≤ g := fun g hg => by
    rcases Nat.lt_or_ge g w.heap.size with h1 | h1
    · exact (hown0 g (hS.old g h1 hg)).elim
    · exact h1
  have hpcown : ∀ g, pc.own g → p.own g ∨ q.own g := fun g ⟨id, hid⟩ => by
    simp only [pc] at hid
    split at hid
    · exact Or.inl ⟨id, hid⟩
    · exact Or.inr ⟨_, hid⟩
  have hdisj : ∀ g, p.own g → ¬ q.own g := fun g h1 h2 => by have := hH.lt g h1; have := hqnew g h2; omega
  have hemb : Emb (shf H.length) q pc := by
    refine ⟨fun id j hf hid => ?_, fun g hg => ?_⟩
    · simp only [shf, Option.some.injEq] at hf
      subst hf
      refine ⟨by simp only [pc]; omega, fun q' hq' => ?_⟩
      simp only [pc] at hq'
      rw [if_neg (by omega), hpn, Nat.add_sub_cancel] at hq'
      exact hq'
    · rcases hg with hg | hg
      · rcases hpcown g hg with h1 | h1
        · exact Or.inr (hqx ▸ Or.inl h1)
        · exact Or.inl h1
      · exact Or.inr (hqx ▸ Or.inr hg)
  have hst : Step p w pc w' := by
    refine ⟨hB.os, hB.tape, hB.output, hB.size, Nat.le_add_right _ _, fun id q' hid hq' => ?_, fun g hg hm => ?_, fun g hg _ => hB.block g hg, rfl⟩
    · simp only [pc, if_pos hid] at hq'
      refine ⟨hq', fun g hg => ?_⟩
      subst hg
      unfold rowSize
      rw [hB.block g (hH.lt g ⟨id, hq'⟩)]
    · rcases hpcown g hm with h1 | h1
      · exact h1
      · have := hqnew g h1; omega
  refine ⟨v, av, H', pc, rfl, hR, ⟨?_, fun id hid => ?_, fun i j g hi hj => ?_, fun id hid => ?_, fun g hg => ⟨Nat.lt_of_lt_of_le (hH.xs g hg).1 hB.size, fun ho => ?_⟩⟩, hrep.ren hemb, hst, hB⟩
  · simp [pc, hpn, hHq.n]
  · simp only [pc] at hid ⊢
    rw [if_neg (by omega)]
    exact hHq.out _ (by omega)
  · simp only [pc] at hi hj
    split at hi <;> split at hj
    · exact hH.inj _ _ _ hi hj
    · exact (hdisj g ⟨i, hi⟩ ⟨_, hj⟩).elim
    · exact (hdisj g ⟨j, hj⟩ ⟨_, hi⟩).elim
    · have := hHq.inj _ _ _ hi hj; omega
  · by_cases hlt' : id < H.length
    · rw [List.getElem_append_left hlt']
      exact (hH.blk id hlt').step hst (by simp only [pc]; rw [if_pos (by omega)]) fun g hg => hB.block g (hH.lt g ⟨id, hg⟩)
    · simp only [List.length_append, List.length_map] at hid
      rw [List.getElem_append_right (by omega), List.getElem_map]
      refine (hHq.blk (id - H.length) (by omega)).ren hemb ?_ (shiftB_ren _ _)
      simp only [pc]
      rw [if_neg (by omega), hpn]
  · rcases hpcown g ho with h1 | h1
    · exact (hH.xs g hg).2 h1
    · exact (hHq.xs g (hqx ▸ Or.inr hg)).2 h1
section
variable {P : Program} {s : St} {o : Oper} {R : AV → List Blk → Prop}
theorem op_callB {f : FuncId} {xs : Array Operand} {ts : Array TypeId} (ho : o.op = .call ⟨.value (.func f), xs, ts⟩) (hc : callable P f = true) (hn : (xs.toList.map s.ev).all noid1 = true)
    (h : CallsV P f (xs.toList.map s.ev) [] fun av H' => R (ren (shf s.H.length) av) (s.H ++ H'.map (shiftB s.H.length))) : OpB P o s R := fun p w a K Q hR hK => by
  have hrun : (execOp a.eval o).run P w = .ok (.enter f (xs.map a.eval)) w := by
    unfold execOp
    rw [ho]
    simp [resolve, invoke, Act.eval, Deferred.ofValue, run_callFunc hc]
  unfold Oper.wp
  rw [hrun, Oper.upon_enter]
  refine (h.frame (fun x hx => List.all_eq_true.1 hn x hx) hR.heap (vals := xs.map a.eval) (by simpa using evals hR xs.toList)).mono ?_
  rintro e w' ⟨v, av, H', p', rfl, h1, h2, h3, h4, h5⟩
  exact hK v _ _ p' w' h1 h2 h3 h4 h5

/-! ### entering a function -/
def res1 (P : Program) (s : St) : ResultVar → List Prop × AV
  | .tmp t => ([], s.t.getD t .junk)
  | .cell a t => match cellsAt s.H (s.t.getD a .junk) with
    | some cs => (dec (knownT P t) ++ [(bif isAggT P t then sizeT P t else 1) ≤ cs.length], loadE P t cs)
    | none => ([False], .junk)
def notTup : AV → Bool | .tuple _ => false | .cnd _ _ => false | _ => true
def resL (P : Program) (s : St) : List ResultVar → List Prop × List AV
  | [] => ([], [])
  | r :: l => match res1 P s r, resL P s l with | (c, x), (d, xs) => (c ++ (dec (notTup x) ++ d), x :: xs)
def packE : List AV → AV
  | [x] => x
  | l => .tuple l
theorem rep_rep1 {p : Pl} {w : World} {v : Value} {x : AV} (h : Rep p w v x) (hn : notTup x = true) : Rep1 p w v x := by
  cases x <;> first | exact h | (simp [notTup] at hn)
def resF (tmps : Array Value) : ResultVar → Sem Value
  | .tmp t => pure (tmps.getD t undef)
  | .cell a t => do loadVar t (← asAddr (tmps.getD a undef))
theorem results_eq (fn : Func) (tmps : Array Value) : results fn tmps = (do let vs ← fn.results.mapM (resF tmps); pure (if h : vs.size = 1 then vs[0] else .tuple vs)) := by
  unfold results
  congr 1
theorem run_results {P : Program} {p : Pl} {w : World} {a : Act} (hR : Rst p s a w) : ∀ (l : List ResultVar), allP (resL P s l).1 → ∃ vs : List Value, (l.mapM (resF a.tmps) : Sem (List Value)).run P w = .ok vs w ∧ RepL (Rep1 p w) vs (resL P s l).2
  | [], _ => ⟨[], rfl, RepL.nil⟩
  | r :: l, hc => by
    unfold resL at hc ⊢
    rw [allP_append, allP_append, allP_dec] at hc
    obtain ⟨h1, h2, h3⟩ := hc
    obtain ⟨vs, hv, hl⟩ := run_results hR l h3
    cases r with
    | tmp t =>
      refine ⟨a.tmps.getD t undef :: vs, by simp only [List.mapM_cons, resF, Sem.run_bind, Sem.run_pure, Result.andThen_ok, hv], RepL.cons (rep_rep1 (hR.ev (.tmp t)) h2) hl⟩
    | cell b t =>
      simp only [res1] at h1 h2 ⊢
      split at h1
      · rename_i cs hcs
        simp only [hcs] at h2 ⊢
        rw [allP_append, allP_dec] at h1
        obtain ⟨u, h4, h5⟩ := load_rd hR.heap (hR.ev (.tmp b)) hcs h1.1 h1.2
        obtain ⟨ad, h6, _⟩ := cellsAt_rep hR.heap (hR.ev (.tmp b)) hcs
        have h6' : a.tmps.getD b undef = .pointer (some ad) := h6
        have h7 := h5 w (Below.refl _ _)
        rw [h6] at h7
        simp only [Instr.loadAt, Instr.sureAddr, Sem.run_bind, Sem.run_pure, Result.andThen_ok] at h7
        refine ⟨u :: vs, by simp only [List.mapM_cons, resF, Sem.run_bind, Sem.run_pure, Result.andThen_ok, h6', asAddr, h7, hv], RepL.cons (rep_rep1 h4 h2) hl⟩
      · exact h1.elim
theorem run_resultsE {P : Program} {p : Pl} {w : World} {a : Act} (hR : Rst p s a w) (fn : Func) (hc : allP (resL P s fn.results.toList).1) : ∃ v, (results fn a.tmps).run P w = .ok v w ∧ Rep p w v (packE (resL P s fn.results.toList).2) := by
  obtain ⟨vs, h1, h2⟩ := run_results hR _ hc
  have hm : (fn.results.mapM (resF a.tmps) : Sem (Array Value)).run P w = .ok vs.toArray w := by
    rw [Array.mapM_eq_mapM_toList]
    simp only [map_eq_pure_bind, Sem.run_bind, Sem.run_pure]
    rw [h1]
    rfl
  refine ⟨if h : vs.toArray.size = 1 then vs.toArray[0] else .tuple vs.toArray, ?_, ?_⟩
  · rw [results_eq, Sem.run_bind, hm, Result.andThen_ok]
    rfl
  · generalize (resL P s fn.results.toList).2 = xs at *
    match vs, xs, h2 with
    | [], [], h2 => exact ⟨#[], rfl, RepL.nil⟩
    | [v], [x], h2 =>
      have h3 := h2.2 0 (by simp) (by simp)
      have h4 : Rep1 p w v x := h3
      show Rep p w v x
      cases x
      case tuple => exact (rep1_tuple h4).elim
      case cnd => exact (rep1_cnd h4).elim
      all_goals exact h4
    | v :: u :: r, x :: y :: q, h2 =>
      rw [dif_neg (by simp)]
      exact ⟨_, rfl, by simpa using h2⟩
    | [], _ :: _, h2 => exact absurd h2.1 (by simp)
    | _ :: _, [], h2 => exact absurd h2.1 (by simp)
    | [_], _ :: _ :: _, h2 => exact absurd h2.1 (by simp)
    | _ :: _ :: _, [_], h2 => exact absurd h2.1 (by simp)
end
end Go.Proofs.Ytcmbhebgpboepaa.V
