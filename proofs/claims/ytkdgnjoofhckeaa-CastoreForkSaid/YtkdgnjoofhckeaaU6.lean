/-
  The logic of values, part 6.
-/
import Derived.Test.YtkdgnjoofhckeaaU5
import Derived.Test.YtkdgnjoofhckeaaU4
/-
  The logic of values: a run that is reckoned out under directions: regions, code. Over any program.
-/
namespace Go.Proofs.Ytkdgnjoofhckeaa.V
open Go Go.RowKit
set_option linter.unusedSimpArgs false
set_option linter.unusedVariables false

inductive Dec where
  | no
  | as (x : AV)
  | weak (x : AV)
  | br (b : Bool) (d : Dec)
  | vw (l : List Nat) (d : Dec)
  | gd
  | gda (x : AV)
  | call (av : AV) (Bs : List Blk) (fl : List Bool)
  | lend (as' : List AV) (av : AV) (Bs : List Blk) (fl : List Bool)
  | callH (av : AV) (H' : List Blk)
  | callS (ks : List Nat) (fl : List Bool) (av : AV) (H1 : List Blk) (fl2 : List Bool)
  | loop (e : Exit) (s : St)
structure Ent where
  k : Nat
  pre : List Pre
  d : Dec
def look : List Ent → Nat → List Pre × Dec
  | [], _ => ([], .no)
  | e :: r, k => bif e.k.beq k then (e.pre, e.d) else look r k
def plainP : List Bool → List Blk → List Prop
  | true :: r, .row _ xs :: l => (∀ x ∈ xs, plain0 x = true) :: plainP r l
  | true :: r, .map kv :: l => (∀ q ∈ kv, plain1 q.1 = true ∧ plain1 q.2 = true) :: plainP r l
  | _ :: r, _ :: l => plainP r l
  | _, _ => []
def shiftF (n : Nat) : List Bool → List Blk → List Blk
  | true :: r, b :: l => b :: shiftF n r l
  | false :: r, b :: l => shiftB n b :: shiftF n r l
  | [], l => l.map (shiftB n)
  | _ :: _, [] => []
theorem shiftF_eq (n : Nat) : ∀ (fl : List Bool) (Bs : List Blk), allP (plainP fl Bs) → shiftF n fl Bs = Bs.map (shiftB n)
  | [], _, _ => by simp [shiftF]
  | _ :: _, [], _ => by simp [shiftF]
  | false :: r, b :: l, h => by
    have h2 : allP (plainP r l) := by cases b <;> exact h
    simp [shiftF, shiftF_eq n r l h2]
  | true :: r, b :: l, h => by
    have h2 : allP (plainP r l) := by cases b <;> simp only [plainP] at h <;> first | exact h | (rw [allP_cons] at h; exact h.2)
    have h1 : shiftB n b = b := by
      cases b with
      | dead => rfl
      | row t xs =>
        simp only [plainP] at h
        rw [allP_cons] at h
        simp only [shiftB]
        rw [map_id_of xs fun x hx => ren0_plain (h.1 x hx)]
      | map kv => simp only [plainP] at h; rw [allP_cons] at h; exact congrArg Blk.map (map_plain h.1).symm
      | iter s n => rfl
    simp [shiftF, shiftF_eq n r l h2, h1]
theorem OpB.weak {P : Program} {o : Oper} {s : St} {v x : AV} {H' : List Blk} (h : OpB P o s fun a b => a = v ∧ b = H') (hw : ∀ (p : Pl) (w : World) (u : Value), Rep p w u v → Rep p w u x) : OpB P o s fun a b => a = x ∧ b = H' :=
  fun p w a K Q hR hK => h p w a K Q hR fun u av H2 p' w' ⟨e1, e2⟩ a1 a2 a3 a4 => hK u x H2 p' w' ⟨rfl, e2⟩ a1 (hw _ _ _ (e1 ▸ a2)) a3 a4
theorem OpV.weak {P : Program} {o : Oper} {s : St} {v x : AV} {H' : List Blk} (h : OpV P o s fun a b => a = v ∧ b = H') (hw : ∀ (p : Pl) (w : World) (u : Value), Rep p w u v → Rep p w u x) : OpV P o s fun a b => a = x ∧ b = H' :=
  fun p w a K Q hR hK => h p w a K Q hR fun u av H2 p' w' ⟨e1, e2⟩ a1 a2 a3 => hK u x H2 p' w' ⟨rfl, e2⟩ a1 (hw _ _ _ (e1 ▸ a2)) a3
def adj (d : Dec) (r : ER) : ER := match r with
  | some (C, v, H) => match d with
    | .no => some (C, v, H)
    | .as x => some (C ++ [v = x], x, H)
    | .weak x => some (C ++ [∀ (p : Pl) (w : World) (u : Value), Rep p w u v → Rep p w u x], x, H)
    | _ => none
  | none => none
theorem adj_okB {P : Program} {o : Oper} {s : St} {d : Dec} {r : ER} {C : List Prop} {x : AV} {H' : List Blk} (h : adj d r = some (C, x, H')) (hC : allP C) (hr : ∀ C v H, r = some (C, v, H) → allP C → OpB P o s fun a b => a = v ∧ b = H) : OpB P o s fun a b => a = x ∧ b = H' := by
  unfold adj at h
  split at h
  · rename_i D v H
    split at h
    · cases h; exact hr _ _ _ rfl hC
    · cases h; rw [allP_append] at hC; exact (hr _ _ _ rfl hC.1).weak fun p w u hu => by have h2 : v = x := hC.2; rw [← h2]; exact hu
    · cases h; rw [allP_append] at hC; exact (hr _ _ _ rfl hC.1).weak hC.2
    · cases h
  · cases h
theorem adj_okV {P : Program} {o : Oper} {s : St} {d : Dec} {r : ER} {C : List Prop} {x : AV} {H' : List Blk} (h : adj d r = some (C, x, H')) (hC : allP C) (hr : ∀ C v H, r = some (C, v, H) → allP C → OpV P o s fun a b => a = v ∧ b = H) : OpV P o s fun a b => a = x ∧ b = H' := by
  unfold adj at h
  split at h
  · rename_i D v H
    split at h
    · cases h; exact hr _ _ _ rfl hC
    · cases h; rw [allP_append] at hC; exact (hr _ _ _ rfl hC.1).weak fun p w u hu => by have h2 : v = x := hC.2; rw [← h2]; exact hu
    · cases h; rw [allP_append] at hC; exact (hr _ _ _ rfl hC.1).weak hC.2
    · cases h
  · cases h
/-- operations that turn nothing -/
def baseQ (P : Program) (s : St) (op : Op) : ER := match kindOf op with
  | 0 => match newP P s op with
    | some r => some r
    | none => some ((pureE P s.H s.ev op).1, (pureE P s.H s.ev op).2, s.H)
  | 1 => newP P s op
  | 2 => match callOf s.ev op with
    | some (f, l) => bif callable P f then none else (match extE (extK P f) l with | some x => some ([], x, s.H) | none => none)
    | none => none
  | _ => none
theorem baseQ_ok {P : Program} {o : Oper} {s : St} {C : List Prop} {x : AV} {H' : List Blk} (h : baseQ P s o.op = some (C, x, H')) (hC : allP C) : OpB P o s fun a b => a = x ∧ b = H' := by
  unfold baseQ at h
  split at h
  · split at h
    · rename_i r hr; cases h; exact newP_ok hr hC
    · cases h; exact (pureE_ok rfl hC).opB ⟨rfl, rfl⟩
  · exact newP_ok h hC
  · split at h
    · rename_i f l hc
      rw [cond_eq_ite] at h
      split at h
      · cases h
      · split at h
        · rename_i y hy; cases h; exact op_ext hc hy ⟨rfl, rfl⟩
        · cases h
    · cases h
  · cases h
def callQ (P : Program) (s : St) (op : Op) : Dec → ER
  | .call av Bs fl => match callOf s.ev op with
    | some (f, l) => some (dec (callable P f && l.all noid1) ++ (plainP fl Bs ++ [CallsV P f l [] fun a b => a = av ∧ b = Bs]), ren (shf s.H.length) av, s.H ++ shiftF s.H.length fl Bs)
    | none => none
  | .lend as' av Bs fl => match callOf s.ev op with
    | some (f, l) => some (dec (callable P f) ++ (plainP fl Bs ++ [Reads s.H l as', (novR av && Bs.all novB) = true, CallsV P f as' [] fun a b => a = av ∧ b = Bs]), ren (shf s.H.length) av, s.H ++ shiftF s.H.length fl Bs)
    | none => none
  | _ => none
theorem callQ_ok {P : Program} {o : Oper} {s : St} {d : Dec} {C : List Prop} {x : AV} {H' : List Blk} (h : callQ P s o.op d = some (C, x, H')) (hC : allP C) : OpB P o s fun a b => a = x ∧ b = H' := by
  unfold callQ at h
  split at h
  · rename_i av Bs fl
    split at h
    · rename_i f l hc
      cases h
      rw [allP_append, allP_append, allP_dec] at hC
      simp only [Bool.and_eq_true] at hC
      obtain ⟨⟨h1, h2⟩, h3, h4⟩ := hC
      rw [shiftF_eq _ _ _ h3]
      have h4' : CallsV P f l [] fun a b => a = av ∧ b = Bs := h4
      exact callOf_opB hc h1 h2 (h4'.mono fun a b ⟨e1, e2⟩ => by subst e1 e2; exact ⟨rfl, rfl⟩)
    · cases h
  · rename_i as' av Bs fl
    split at h
    · rename_i f l hc
      cases h
      rw [allP_append, allP_append, allP_dec] at hC
      obtain ⟨h1, h3, h4, h5, h6⟩ := hC
      have h6' : CallsV P f as' [] fun a b => a = av ∧ b = Bs := h6
      rw [shiftF_eq _ _ _ h3]
      refine op_callw (callOf_run hc h1) fun p w vals hH hv => ?_
      refine (CallsV.lendR (args := l) h6' h5 hH ?_).mono ?_
      · exact h4 p _ w vals.toList hH (lends0 hH _) hv
      · rintro e w' ⟨v, p', k1, k2, k3, k4, k5⟩
        exact ⟨v, _, _, p', k1, ⟨rfl, rfl⟩, k2, k3, k4, k5⟩
    · cases h
  · cases h
/-! slots seen without their capacity, for one operation -/
def wkA : AV → AV | .slc id st len _ sz => .sl id st len sz | x => x
theorem wkA_rep {p : Pl} {w : World} {v : Value} {x : AV} (h : Rep p w v x) : Rep p w v (wkA x) := by
  cases x <;> try exact h
  case slc => exact ⟨h.1, fun q hq => by obtain ⟨a, c, h1, h2, h3, h4, h5, h6, _⟩ := h.2 q hq; exact ⟨a, c, h1, h2, h3, h4, h5, h6⟩⟩
def viewS : List Nat → St → St
  | [], s => s
  | i :: l, s => viewS l ⟨s.t.set i (wkA (s.t.getD i .junk)), s.H⟩
theorem viewS_ok : ∀ {l : List Nat} {s : St} {p : Pl} {a : Act} {w : World}, Rst p s a w → Rst p (viewS l s) a w
  | [], _, _, _, _, h => h
  | i :: l, s, p, a, w, h => viewS_ok (l := l) (h.set i _ fun v hv => wkA_rep hv)
theorem viewS_H : ∀ (l : List Nat) (s : St), (viewS l s).H = s.H
  | [], _ => rfl
  | i :: l, s => viewS_H l _
theorem OpB.view {P : Program} {o : Oper} {l : List Nat} {s : St} {R : AV → List Blk → Prop} (h : OpB P o (viewS l s) R) : OpB P o s R := fun p w a K Q hR hK => h p w a K Q (viewS_ok hR) hK
theorem OpV.view {P : Program} {o : Oper} {l : List Nat} {s : St} {R : AV → List Blk → Prop} (h : OpV P o (viewS l s) R) : OpV P o s R := fun p w a K Q hR hK => h p w a K Q (viewS_ok hR) hK
/-- what turns nothing -/
def mainB0 (P : Program) (s : St) (op : Op) (d : Dec) : ER := match d with
  | .call _ _ _ => callQ P s op d
  | .lend _ _ _ _ => callQ P s op d
  | d => adj d (baseQ P s op)
theorem mainB0_ok {P : Program} {o : Oper} {s : St} {d : Dec} {C : List Prop} {x : AV} {H' : List Blk} (h : mainB0 P s o.op d = some (C, x, H')) (hC : allP C) : OpB P o s fun a b => a = x ∧ b = H' := by
  unfold mainB0 at h
  split at h
  · exact callQ_ok h hC
  · exact callQ_ok h hC
  · exact adj_okB h hC fun C v H hr hc => baseQ_ok hr hc
theorem op_callx {P : Program} {s : St} {o : Oper} {R : AV → List Blk → Prop} {f : FuncId} {l : List AV} (hop : ∀ (p : Pl) (w : World) (a : Act), Rst p s a w → ∃ vals : Array Value, RepL (Rep p w) vals.toList l ∧ (execOp a.eval o).run P w = .ok (.enter f vals) w)
    (h : ∀ (p : Pl) (w : World) (vals : Array Value), RH p s.H w → RepL (Rep p w) vals.toList l → Calls P f vals w fun e w' => ∃ v av H' p', e = .returned v ∧ R av H' ∧ RH p' H' w' ∧ Rep p' w' v av ∧ Step p w p' w') : OpV P o s R := fun p w a K Q hR hK => by
  obtain ⟨vals, hv, hrun⟩ := hop p w a hR
  unfold Oper.wp
  rw [hrun, Oper.upon_enter]
  refine (h p w vals hR.heap hv).mono ?_
  rintro e w' ⟨v, av, H', p', rfl, h1, h2, h3, h4⟩
  exact hK v av H' p' w' h1 h2 h3 h4
/-! ### bytes converted to bytes: the row is written no more -/
def Pl.kill (p : Pl) (id : Nat) : Pl := ⟨p.n, fun i => if i = id then none else p.at_ i, p.x⟩
theorem kill_own {p : Pl} {id g : Nat} (h : (p.kill id).own g) : p.own g := by
  obtain ⟨j, hj⟩ := h
  unfold Pl.kill at hj
  simp only at hj
  split at hj
  · cases hj
  · exact ⟨j, hj⟩
theorem frz_world {p : Pl} {H : List Blk} {w w' : World} (hH : RH p H w) {id g : Nat} {t : TypeId} {cur : Array Value} {fl : Nat × Nat} (hg : p.at_ id = some (some g)) (hc : w.heap[g]? = some (.cells cur t (0, 0)))
    (e1 : w'.os = w.os) (e2 : w'.tape = w.tape) (e3 : w'.output = w.output) (e4 : w'.heap.size = w.heap.size) (e5 : ∀ g', g' ≠ g → w'.heap[g']? = w.heap[g']?) (e6 : w'.heap[g]? = some (.cells cur t fl)) :
    RH (p.kill id) (H.set id .dead) w' ∧ Step p w (p.kill id) w' := by
  have hS : Step p w (p.kill id) w' := ⟨e1, e2, e3, Nat.le_of_eq e4.symm, Nat.le_refl _, fun i q _ hq => by
    unfold Pl.kill at hq
    simp only at hq
    split at hq
    · cases hq
    · refine ⟨hq, fun g' _ => ?_⟩
      unfold rowSize
      by_cases he : g' = g
      · subst he; rw [e6, hc]
      · rw [e5 g' he], fun g' _ h => kill_own h, fun g' _ hm => e5 g' fun he => hm (he ▸ ⟨id, hg⟩), rfl⟩
  refine ⟨⟨by rw [List.length_set]; exact hH.n, fun i hi => ?_, fun i j g' hi hj => ?_, fun i hi => ?_, fun g' hg' => ⟨Nat.lt_of_lt_of_le (hH.xs g' hg').1 (Nat.le_of_eq e4.symm), fun ho => (hH.xs g' hg').2 (kill_own ho)⟩⟩, hS⟩
  · unfold Pl.kill
    simp only
    split
    · rfl
    · exact hH.out i hi
  · unfold Pl.kill at hi hj
    simp only at hi hj
    split at hi <;> split at hj
    · cases hi
    · cases hi
    · cases hj
    · exact hH.inj _ _ _ hi hj
  · rw [List.getElem_set]
    split
    · rename_i he
      show (if i = id then none else p.at_ i) = none
      rw [if_pos he.symm]
    · rename_i he
      exact (hH.blk i (by rw [List.length_set] at hi; exact hi)).step hS (by unfold Pl.kill; simp only; rw [if_neg (fun h => he h.symm)]) fun g' hg' => e5 g' fun h => he (hH.inj _ _ _ hg (h ▸ hg'))
theorem freeze_heap (w : World) (g n : Nat) (cur : Array Value) (t : TypeId) (hc : w.heap[g]? = some (.cells cur t (0, 0))) :
    (w.freeze ⟨g, n, none⟩ 1).heap[g]? = some (.cells cur t (n, n + 1)) ∧ (∀ g', g' ≠ g → (w.freeze ⟨g, n, none⟩ 1).heap[g']? = w.heap[g']?) ∧ (w.freeze ⟨g, n, none⟩ 1).heap.size = w.heap.size := by
  unfold World.freeze
  rw [if_neg (by decide)]
  refine ⟨?_, fun g' hg' => ?_, by simp⟩
  · simp only [Array.getElem?_modify, if_pos, hc]
    rfl
  · simp only [Array.getElem?_modify]
    rw [if_neg (fun h => hg' h.symm)]
def cnvG (P : Program) (s : St) : Op → ER
  | .convert src dst x => bif Nat.beq src dst then (match P.underlying src, s.ev x with
    | some (.slice e), .sl id st len 1 => match s.H[id]? with
      | some (.row _ xs) => some (dec (isBytes P e) ++ [∀ y ∈ xs, noid0 y = true ∧ y ≠ .junk, 0 < len, st + len ≤ xs.length], .slv len 1 ((xs.drop st).take len), s.H.set id .dead)
      | _ => none
    | _, _ => none) else none
  | _ => none
theorem op_cnv {P : Program} {o : Oper} {s : St} {src e : TypeId} {x : Operand} {id st len : Nat} {t : TypeId} {xs : List AV} (ho : o.op = .convert src src x) (h1 : P.underlying src = some (.slice e)) (h2 : P.underlying e = some (.int .u8)) (hx : s.ev x = .sl id st len 1) (hb : s.H[id]? = some (.row t xs))
    (hn : ∀ y ∈ xs, noid0 y = true ∧ y ≠ .junk) (h0 : 0 < len) (hl : st + len ≤ xs.length) : OpV P o s fun a b => a = .slv len 1 ((xs.drop st).take len) ∧ b = s.H.set id .dead := opV_of fun p w a hR => by
  have hv := hR.ev x
  rw [hx] at hv
  generalize hgv : a.eval x = v at hv
  obtain ⟨q, hq⟩ := hR.heap.live hb
  obtain ⟨oa, cap, rfl, b1, b2, b3, b4, b5⟩ := hv.2 q hq
  have hcl : ((xs.drop st).take len).length = len := by rw [List.length_take, List.length_drop]; omega
  rcases hR.heap.row hb with ⟨c1, c2⟩ | ⟨g, cur, c1, c2, c3, c4⟩
  · subst c2; simp at hl; omega
  · rw [c1] at hq
    cases hq
    rcases b5 with h0' | ⟨g', e1, e2, e3⟩
    · omega
    · cases e1
      subst e2
      obtain ⟨f1, f2, f3⟩ := freeze_heap w g cur.size cur t c2
      obtain ⟨k1, k2⟩ := frz_world (w' := w.freeze ⟨g, cur.size, none⟩ 1) hR.heap c1 c2 (by unfold World.freeze; rw [if_neg (by decide)]) (by unfold World.freeze; rw [if_neg (by decide)]) (by unfold World.freeze; rw [if_neg (by decide)]) f3 f2 f1
      have hex : ∀ k, k < len → ∃ v, cur[st + k]? = some v ∧ RepC p w v (xs.getD (st + k) .junk) := fun k hk => by
        obtain ⟨v, d1, d2⟩ := c4 (st + k) (by omega)
        exact ⟨v, d1, by rw [getD_get _ _ (by omega)]; exact d2⟩
      refine ⟨_, _, _, _, _, _, ?_, Or.inl rfl, ⟨rfl, rfl⟩, k1, RepF.rep (.slv _ ⟨g, st, none⟩ len cap 1 _ (fun k => cur.getD (st + k) undef) (Or.inl rfl) (by rw [hcl, Nat.mul_one]) b1 b2 (by decide) (fun k hk => ?_) (fun k hk => ?_)), k2⟩
      · have hsh : w.shape? g = some (t, cur.size) := by unfold World.shape?; rw [c2]
        unfold execOp
        rw [ho]
        simp [Go.convert, hgv, run_underlying h1, run_underlying h2, markStringish, hsh]
      · rw [hcl] at hk
        obtain ⟨v, d1, d2⟩ := hex k hk
        have hgd : cur.getD (st + k) undef = v := by rw [Array.getD_eq_getD_getElem?, d1]; rfl
        refine ⟨rfl, by rw [f3]; exact (Array.getElem?_eq_some_iff.1 c2).1, fun hm => ?_, ?_, by rw [hgd]; exact d2.1⟩
        · rcases hm with ⟨l, hl'⟩ | hm
          · unfold Pl.kill at hl'
            simp only at hl'
            split at hl'
            · cases hl'
            · rename_i hne; exact hne (hR.heap.inj _ _ _ hl' c1)
          · exact (hR.heap.xs _ hm).2 ⟨id, c1⟩
        · rw [cell_of_row _ g _ cur t _ f1, d1, hgd]
      · rw [hcl] at hk
        obtain ⟨v, d1, d2⟩ := hex k hk
        have hgd : cur.getD (st + k) undef = v := by rw [Array.getD_eq_getD_getElem?, d1]; rfl
        have hmem : xs.getD (st + k) .junk ∈ xs := by rw [getD_get _ _ (by omega)]; exact List.getElem_mem _
        rw [hgd, getD_get _ _ (by rw [hcl]; exact hk), List.getElem_take, List.getElem_drop, ← getD_get _ _ (by omega)]
        exact RepC.toF (d2.2.step k2) (hn _ hmem).1 (hn _ hmem).2
theorem cnvG_ok {P : Program} {o : Oper} {s : St} {C : List Prop} {x : AV} {H' : List Blk} (h : cnvG P s o.op = some (C, x, H')) (hC : allP C) : OpV P o s fun a b => a = x ∧ b = H' := by
  unfold cnvG at h
  split at h
  · rename_i src dst y hop
    cases hsd : Nat.beq src dst with
    | false => rw [hsd] at h; cases h
    | true =>
      rw [hsd, cond_true] at h
      obtain rfl := Nat.eq_of_beq_eq_true hsd
      split at h
      · rename_i e id st len h1 hx
        split at h
        · rename_i t xs hb
          cases h
          rw [allP_append, allP_dec] at hC
          obtain ⟨hC, c1, c2, c3⟩ := hC
          have h2 : P.underlying e = some (.int .u8) := by
            unfold isBytes at hC
            split at hC
            · assumption
            · cases hC
          exact op_cnv hop h1 h2 hx hb c1 c2 c3
        · cases h
      · cases h
  · cases h
def mainG0 (P : Program) (s : St) (op : Op) (d : Dec) : ER := match d with
  | .callS ks fl av H1 fl2 => match callOf s.ev op with
    | some (f, l) => some (dec (callable P f && (keepB 0 ks s.H && Nat.ble ks.length H1.length)) ++ (stayP fl (ks.map fun i => s.H.getD i .dead) ++ (stayL fl2 H1 ++ [CallsV P f (l.map (ren (idxK ks))) (keepF ks s.H ks fl) fun a b => a = av ∧ b = H1])),
        ren (subF ks s.H.length) av, setAll ks (mapF (subF ks s.H.length) fl2 H1) s.H ++ (mapF (subF ks s.H.length) fl2 H1).drop ks.length)
    | none => none
  | .callH av H' => match callOf s.ev op with
    | some (f, l) => some (dec (callable P f) ++ [CallsV P f l s.H fun a b => a = av ∧ b = H'], av, H')
    | none => none
  | d => match cnvG P s op with
    | some r => adj d (some r)
    | none => match kindOf op with
      | 3 => adj d (turnP P s op)
      | _ => mainB0 P s op d
theorem mainG0_ok {P : Program} {o : Oper} {s : St} {d : Dec} {C : List Prop} {x : AV} {H' : List Blk} (h : mainG0 P s o.op d = some (C, x, H')) (hC : allP C) : OpV P o s fun a b => a = x ∧ b = H' := by
  unfold mainG0 at h
  split at h
  · rename_i ks fl av H1 fl2
    split at h
    · rename_i f l hc
      cases h
      rw [allP_append, allP_append, allP_append, allP_dec] at hC
      simp only [Bool.and_eq_true, Nat.ble_eq] at hC
      obtain ⟨⟨c1, c2, c3⟩, c4, c5, c6⟩ := hC
      refine op_callx (callOf_run hc c1) fun p w vals hH hv => ?_
      refine (CallsV.sub (args := l) c6 c2 c4 c5 c3 hH hv).mono ?_
      rintro e w' ⟨v, p', k1, k2, k3, k4⟩
      exact ⟨v, _, _, p', k1, ⟨rfl, rfl⟩, k2, k3, k4⟩
    · cases h
  · split at h
    · rename_i f l hc
      cases h
      rw [allP_append, allP_dec] at hC
      exact callOf_op hc hC.1 hC.2
    · cases h
  · split at h
    · rename_i r hr
      exact adj_okV h hC fun C v H he hc => cnvG_ok (hr.trans he) hc
    · split at h
      · exact adj_okV h hC fun C v H hr hc => turnP_ok hr hc
      · exact (mainB0_ok h hC).opV
def mainB (P : Program) (s : St) (op : Op) (d : Dec) : ER := match d with
  | .vw l d => mainB0 P (viewS l s) op d
  | d => mainB0 P s op d
theorem mainB_ok {P : Program} {o : Oper} {s : St} {d : Dec} {C : List Prop} {x : AV} {H' : List Blk} (h : mainB P s o.op d = some (C, x, H')) (hC : allP C) : OpB P o s fun a b => a = x ∧ b = H' := by
  unfold mainB at h
  split at h
  · exact (mainB0_ok h hC).view
  · exact mainB0_ok h hC
def mainG (P : Program) (s : St) (op : Op) (d : Dec) : ER := match d with
  | .vw l d => mainG0 P (viewS l s) op d
  | d => mainG0 P s op d
theorem mainG_ok {P : Program} {o : Oper} {s : St} {d : Dec} {C : List Prop} {x : AV} {H' : List Blk} (h : mainG P s o.op d = some (C, x, H')) (hC : allP C) : OpV P o s fun a b => a = x ∧ b = H' := by
  unfold mainG at h
  split at h
  · exact (mainG0_ok h hC).view
  · exact mainG0_ok h hC
section
variable {P : Program} {n0 : Nat} {Q : Exit → St → Prop} {s : St} {ops : Array Oper} {i : Nat} {o : Oper}
theorem goN_op {l : List Nat} (ho : ops[i]? = some o) (hw : wantG ops s o = some true) {x : AV} {H' : List Blk} (h : OpV P o s fun a b => a = x ∧ b = H') (k : GoN P n0 ops Q l (St.put ⟨s.t, H'⟩ o.dst x)) : GoN P n0 ops Q (i :: l) s := fun p0 w0 p w a Qr hn hS hR hQ => by
  rw [wpOps_cons]
  unfold wpOp
  rw [ho]
  simp only [wantG_ok hR hw, if_true]
  refine Or.inl (h p w a _ _ hR fun v av H2 p' w' ⟨e1, e2⟩ hH hv hS' => ?_)
  subst e1 e2
  exact k p0 w0 p' w' _ Qr hn (hS.trans hS') (Rst.put (hR.step hS' hH) _ hv) hQ
theorem goN_skip {l : List Nat} (ho : ops[i]? = some o) (hw : wantG ops s o = some false) (k : GoN P n0 ops Q l (s.put o.dst skipped)) : GoN P n0 ops Q (i :: l) s := fun p0 w0 p w a Qr hn hS hR hQ => by
  rw [wpOps_cons]
  unfold wpOp
  rw [ho]
  simp only [wantG_ok hR hw, Bool.false_eq_true, if_false]
  exact k p0 w0 p w _ Qr hn hS (hR.put _ (skipped_rep p w)) hQ
theorem goN_guard {l : List Nat} {g : Bool} (ho : ops[i]? = some o) (hg : guardE ops s o = some g) (hok : allP (pureG P s o g).1) {x : AV} (hx : (pureG P s o g).2 = x) (k : GoN P n0 ops Q l (s.put o.dst x)) : GoN P n0 ops Q (i :: l) s := fun p0 w0 p w a Qr hn hS hR hQ => by
  subst hx
  rw [wpOps_cons]
  unfold wpOp
  rw [ho]
  simp only [guardE_wanted hg hR]
  cases g with
  | true =>
    simp only [if_true]
    have hok := under_ok hok rfl
    rw [allP_append, allP_append, allP_dec] at hok
    obtain ⟨h1, hnc, h2⟩ := hok
    obtain ⟨v, hv, hrun⟩ := pureE_gen (o := o) rfl h2 hR.heap (evG_rep h1 hR)
    refine Or.inl ?_
    unfold Oper.wp
    rw [hrun w (Below.refl _ _)]
    refine k p0 w0 p w _ Qr hn hS (hR.put _ ?_) hQ
    refine ⟨fun _ => ?_, fun h => by cases h⟩
    exact notCnd_repT hv hnc
  | false =>
    simp only [Bool.false_eq_true, if_false]
    exact k p0 w0 p w _ Qr hn hS (hR.put _ ⟨fun h => (by cases h), fun _ => rfl⟩) hQ
end
/-- is the operation wanted: what is asked, and the answer; under directions -/
def wantD (ops : Array Oper) (s : St) (o : Oper) : Dec → Option (List Prop × Bool × Dec)
  | .br b d => match guardE ops s o with
    | some g => some ([g = b], b, d)
    | none => none
  | d => match o.guard with
    | none => some ([], true, d)
    | some _ => match guardE ops s o with
      | some g => some ([], g, d)
      | none => none
theorem wantD_ok {ops : Array Oper} {s : St} {o : Oper} {d d' : Dec} {C : List Prop} {b : Bool} (h : wantD ops s o d = some (C, b, d')) (hC : allP C) : wantG ops s o = some b := by
  have hsome : ∀ g, guardE ops s o = some g → o.guard ≠ none := fun g hg hn => by unfold guardE at hg; rw [hn] at hg; cases hg
  unfold wantD at h
  unfold wantG
  split at h
  · split at h
    · rename_i g hg
      cases h
      have h1 := hsome g hg
      have h2 : g = b := hC
      subst h2
      split
      · rename_i hn; exact (h1 hn).elim
      · exact hg
    · cases h
  · split at h
    · rename_i hn; cases h; rw [hn]
    · rename_i g' hg'
      split at h
      · rename_i g hg; cases h; rw [hg']; exact hg
      · cases h
abbrev GR := Option (List Prop × St)
def opG (P : Program) (n0 : Nat) (ops : Array Oper) (s : St) (o : Oper) (pd : List Pre × Dec) : GR :=
  match preL n0 pd.1 s with
  | none => none
  | some (C1, s1) => match pd.2 with
    | .gd => match guardE ops s1 o with
      | some g => some (C1 ++ (pureG P s1 o g).1, s1.put o.dst (pureG P s1 o g).2)
      | none => none
    | .gda x => match guardE ops s1 o with
      | some g => some (C1 ++ ((pureG P s1 o g).1 ++ [(pureG P s1 o g).2 = x]), s1.put o.dst x)
      | none => none
    | d => match wantD ops s1 o d with
      | some (C2, b, d') => bif b then (match mainG P s1 o.op d' with
          | some (C3, x, H) => some (C1 ++ (C2 ++ C3), St.put ⟨s1.t, H⟩ o.dst x)
          | none => none)
        else some (C1 ++ C2, s1.put o.dst skipped)
      | none => none
theorem opG_ok {P : Program} {n0 : Nat} {ops : Array Oper} {Q : Exit → St → Prop} {i : Nat} {l : List Nat} {s s' : St} {o : Oper} {pd : List Pre × Dec} {C : List Prop} (h : opG P n0 ops s o pd = some (C, s')) (hC : allP C) (ho : ops[i]? = some o) (k : GoN P n0 ops Q l s') : GoN P n0 ops Q (i :: l) s := by
  unfold opG at h
  split at h
  · cases h
  · rename_i C1 s1 h1
    split at h
    · split at h
      · rename_i g hg; cases h; rw [allP_append] at hC; exact (goN_guard ho hg hC.2 rfl k).wkn (preL_ok h1 hC.1)
      · cases h
    · split at h
      · rename_i x _ g hg; cases h; rw [allP_append, allP_append] at hC; exact (goN_guard ho hg hC.2.1 hC.2.2 k).wkn (preL_ok h1 hC.1)
      · cases h
    · split at h
      · rename_i C2 b d' hw
        rw [cond_eq_ite] at h
        split at h
        · rename_i hb
          subst hb
          split at h
          · rename_i C3 x H hm
            cases h
            rw [allP_append, allP_append] at hC
            exact (goN_op ho (wantD_ok hw hC.2.1) (mainG_ok hm hC.2.2) k).wkn (preL_ok h1 hC.1)
          · cases h
        · rename_i hb
          have hb : b = false := by simpa using hb
          subst hb
          cases h
          rw [allP_append] at hC
          exact (goN_skip ho (wantD_ok hw hC.2) k).wkn (preL_ok h1 hC.1)
      · cases h
def rgN (P : Program) (n0 : Nat) (ds : List Ent) (ops : Array Oper) (base : Nat) : List Nat → St → GR
  | [], s => some ([], s)
  | i :: l, s => match ops[i]? with
    | none => none
    | some o => match opG P n0 ops s o (look ds (base + i)) with
      | none => none
      | some (C, s1) => match rgN P n0 ds ops base l s1 with
        | none => none
        | some (D, s2) => some (C ++ D, s2)
theorem rgN_ok {P : Program} {n0 : Nat} {ds : List Ent} {ops : Array Oper} {Q : Exit → St → Prop} {base : Nat} : ∀ {l : List Nat} {s s' : St} {C : List Prop}, rgN P n0 ds ops base l s = some (C, s') → allP C → Q .normal s' → GoN P n0 ops Q l s
  | [], s, s', C, h, hC, hq => by cases h; exact fun p0 w0 p w a Qr hn hS hR hQ => hQ _ _ _ _ _ hq hR hS
  | i :: l, s, s', C, h, hC, hq => by
    unfold rgN at h
    split at h
    · cases h
    · rename_i o ho
      split at h
      · cases h
      · rename_i C1 s1 h1
        split at h
        · cases h
        · rename_i D s2 h2
          cases h
          rw [allP_append] at hC
          exact opG_ok h1 hC.1 ho (rgN_ok h2 hC.2 hq)

/-! ### regions that draw their order -/
def freeI (ops : Array Oper) (listed : Array Bool) (i : Nat) : Bool := Region.noSelect ops && (Region.free .any ops listed i && (Region.ready .any ops listed).contains i)
/-- reading operations, taken first -/
def takeR (P : Program) (s : St) (op : Op) (d : Dec) : Option (List Prop × AV) := match kindOf op, newP P s op with
  | 0, none => match adj d (some ((pureE P s.H s.ev op).1, (pureE P s.H s.ev op).2, s.H)) with
    | some (C, x, _) => some (C, x)
    | none => none
  | _, _ => none
theorem PureV.weak {P : Program} {o : Oper} {s : St} {v x : AV} (h : PureV P o s v) (hw : ∀ (p : Pl) (w : World) (u : Value), Rep p w u v → Rep p w u x) : PureV P o s x := fun p w a hR => by
  obtain ⟨u, h1, h2⟩ := h p w a hR
  exact ⟨u, hw _ _ _ h1, h2⟩
theorem takeR_ok {P : Program} {o : Oper} {s : St} {d : Dec} {C : List Prop} {x : AV} (h : takeR P s o.op d = some (C, x)) (hC : allP C) : PureV P o s x := by
  unfold takeR at h
  split at h
  · split at h
    · rename_i C1 y H hy
      cases h
      unfold adj at hy
      simp only [] at hy
      split at hy
      · cases hy; exact pureE_ok rfl hC
      · cases hy; rw [allP_append] at hC; exact (pureE_ok rfl hC.1).weak fun p w u hu => by have h2 : (pureE P s.H s.ev o.op).2 = x := hC.2; rw [← h2]; exact hu
      · cases hy; rw [allP_append] at hC; exact (pureE_ok rfl hC.1).weak hC.2
      · cases hy
    · cases h
  · cases h
def kindB (P : Program) (s : St) (i : Nat) (ops : Array Oper) : Bool := match ops[i]? with
  | some o => (kindOf o.op).beq 0 && (match newP P s o.op with | none => true | some _ => false)
  | none => false
def stillI (P : Program) (s : St) (i : Nat) (ops : Array Oper) : Bool := match ops[i]? with
  | some o => (match o.guard with | none => true | some _ => false) && stillB P s.ev o.op
  | none => false
def flagsOf : List Pre → List Bool × Bool
  | [] => ([], false)
  | .flags bf nf :: _ => (bf, nf)
  | _ :: r => flagsOf r
def below (al : List Nat) (i : Nat) : Nat := (al.filter fun j => Nat.blt j i).length
/-- new blocks in the order of their operations -/
def renumK (n1 p len d : Nat) : List Nat := List.range (n1 + p) ++ ((List.range d).map (len + ·) ++ (List.range (len - (n1 + p))).map (n1 + p + ·))
def renumF (ds : List Ent) (base n1 len i : Nat) (al : List Nat) (bf : List Bool) (ks : List Nat) : List Bool := ks.map fun k => bif Nat.blt k n1 then bf.getD k false else bif Nat.blt k len then (flagsOf (look ds (base + al.getD (k - n1) 0)).1).2 else (flagsOf (look ds (base + i)).1).2
def renumG (n0 : Nat) (ds : List Ent) (base n1 i : Nat) (al : List Nat) (len : Nat) (s : St) : Option (List Prop × List Nat × St) :=
  bif (s.H.length.beq len) || (below al i).beq al.length then some ([], al ++ List.replicate (s.H.length - len) i, s)
  else match preE n0 (.keep (renumK n1 (below al i) len (s.H.length - len)) (renumF ds base n1 len i al (flagsOf (look ds (base + i)).1).1 (renumK n1 (below al i) len (s.H.length - len)))) s with
    | some (C, s') => some (C, al.take (below al i) ++ (List.replicate (s.H.length - len) i ++ al.drop (below al i)), s')
    | none => none
theorem renumG_ok {n0 : Nat} {ds : List Ent} {base n1 i : Nat} {al al' : List Nat} {len : Nat} {s s' : St} {C : List Prop} (h : renumG n0 ds base n1 i al len s = some (C, al', s')) (hC : allP C) : Wkn n0 s s' := by
  unfold renumG at h
  rw [cond_eq_ite] at h
  split at h
  · cases h; exact Wkn.refl _ _
  · split at h
    · rename_i D s2 h2; cases h; exact preE_ok h2 hC
    · cases h
abbrev DS := Array Bool × List Nat × St
/-- one operation of a region that draws its order -/
def stepD (P : Program) (n0 : Nat) (ds : List Ent) (ops : Array Oper) (base : Nat) (qc : Bool) (n1 : Nat) (q : DS) (i : Nat) : Option (List Prop × DS) := match ops[i]? with
  | none => none
  | some o => match preL n0 (look ds (base + i)).1 q.2.2 with
    | none => none
    | some (C1, s1) => match wantD ops s1 o (look ds (base + i)).2 with
      | none => none
      | some (C2, b, d') => bif b then (match (bif quietB qc ops i then mainB P s1 o.op d' else mainG P s1 o.op d') with
          | none => none
          | some (C3, x, H) => match renumG n0 ds base n1 i q.2.1 s1.H.length (St.put ⟨s1.t, H⟩ o.dst x) with
            | none => none
            | some (C4, al, s2) => some (C1 ++ (C2 ++ (C3 ++ C4)), (q.1.setIfInBounds i true, al, s2)))
        else some (C1 ++ C2, (q.1.setIfInBounds i true, q.2.1, s1.put o.dst skipped))
section
variable {P : Program} {n0 : Nat} {Q : Exit → St → Prop} {ops : Array Oper} {quiet : Nat → Bool} {n : Nat}
/-- one operation, wherever it comes -/
def OpT (P : Program) (ops : Array Oper) (Q : Exit → St → Prop) (quiet : Nat → Bool) (n0 n : Nat) (listed : Array Bool) (s : St) (i : Nat) : Prop :=
  ∀ (p0 : Pl) (w0 : World) (p : Pl) (w : World) (a : Act) (K : Act → World → Prop), p0.n = n0 → listed.size = ops.size → Closed ops listed → i ∈ Region.ready .any ops listed → Step p0 w0 p w → Rst p s a w → (∀ s' p' a' w', Q .normal s' → Rst p' s' a' w' → Step p0 w0 p' w' → K a' w') →
    wpOp P ops (fun e a' w' => e = .normal ∧ K a' w') i (fun a' w' => (quiet i = true → Below w.heap.size w w') ∧ wpAnyT P ops (fun e a' w' => e = .normal ∧ K a' w') quiet n (listed.setIfInBounds i true) a' w') a w
theorem runT_all {listed : Array Bool} {s : St} {r : List Nat} (hr : Region.ready .any ops listed = r) (hne : r ≠ []) (h : ∀ i ∈ r, OpT P ops Q quiet n0 n listed s i) : RunT P ops Q quiet n0 (n + 1) listed s := fun p0 w0 p w a K hn hsz hcl hS hR hQ =>
  wpAnyT_all hr hne fun i hi => h i hi p0 w0 p w a K hn hsz hcl (hr.symm ▸ hi) hS hR hQ
end
theorem stepD_ok {P : Program} {n0 : Nat} {ds : List Ent} {ops : Array Oper} {Q : Exit → St → Prop} {base : Nat} {qc : Bool} {n1 n i : Nat} {q q' : DS} {C : List Prop} (h : stepD P n0 ds ops base qc n1 q i = some (C, q')) (hC : allP C) (k : RunT P ops Q (quietB qc ops) n0 n q'.1 q'.2.2) : OpT P ops Q (quietB qc ops) n0 n q.1 q.2.2 i := by
  unfold stepD at h
  split at h
  · cases h
  · rename_i o ho
    split at h
    · cases h
    · rename_i C1 s1 h1
      split at h
      · cases h
      · rename_i C2 b d' hw
        rw [cond_eq_ite] at h
        intro p0 w0 p w a K hn hsz hcl hr hS hR hQ
        have hcl' := closed_set hcl hr
        have hsz' : (q.1.setIfInBounds i true).size = ops.size := by simpa using hsz
        split at h
        · rename_i hb
          subst hb
          split at h
          · cases h
          · rename_i C3 x H h3
            split at h
            · cases h
            · rename_i C4 al s2 h4
              cases h
              rw [allP_append, allP_append, allP_append] at hC
              obtain ⟨c1, c2, c3, c4⟩ := hC
              have k' := k.wkn (renumG_ok h4 c4)
              obtain ⟨p1, hR1, hS1⟩ := preL_ok h1 c1 p0 w0 p a w hn hS hR
              unfold wpOp
              rw [ho]
              simp only [wantG_ok hR1 (wantD_ok hw c2), if_true]
              refine Or.inl ?_
              cases hq1 : quietB qc ops i with
              | true =>
                rw [hq1] at h3
                refine mainB_ok h3 c3 p1 w a _ _ hR1 fun v av H2 p' w' ⟨e1, e2⟩ a1 a2 a3 a4 => ⟨fun _ => a4, ?_⟩
                subst e1 e2
                exact k' p0 w0 p' w' _ K hn hsz' hcl' (hS1.trans a3) (Rst.put (hR1.step a3 a1) _ a2) hQ
              | false =>
                rw [hq1] at h3
                refine mainG_ok h3 c3 p1 w a _ _ hR1 fun v av H2 p' w' ⟨e1, e2⟩ a1 a2 a3 => ⟨fun h => (by cases h), ?_⟩
                subst e1 e2
                exact k' p0 w0 p' w' _ K hn hsz' hcl' (hS1.trans a3) (Rst.put (hR1.step a3 a1) _ a2) hQ
        · rename_i hb
          have hb : b = false := by simpa using hb
          subst hb
          cases h
          rw [allP_append] at hC
          obtain ⟨p1, hR1, hS1⟩ := preL_ok h1 hC.1 p0 w0 p a w hn hS hR
          unfold wpOp
          rw [ho]
          simp only [wantG_ok hR1 (wantD_ok hw hC.2), Bool.false_eq_true, if_false]
          exact ⟨fun _ => Below.refl _ _, k p0 w0 p1 w _ K hn hsz' hcl' hS1 (hR1.put _ (skipped_rep p1 w)) hQ⟩
def adjS : Dec → AV → Option (List Prop × AV)
  | .no, v => some ([], v)
  | .as x, v => some ([v = x], x)
  | _, _ => none
theorem adjS_ok {d : Dec} {v x : AV} {C : List Prop} (h : adjS d v = some (C, x)) (hC : allP C) : x = v := by
  unfold adjS at h
  split at h
  · cases h; rfl
  · cases h; exact Eq.symm (show v = x from hC)
  · cases h
/-- a reading operation, taken first -/
def takeD (P : Program) (n0 : Nat) (ds : List Ent) (ops : Array Oper) (base : Nat) (qc : Bool) (q : DS) (i : Nat) : Option (List Prop × DS) := match ops[i]? with
  | none => none
  | some o => bif freeI ops q.1 i && firstB ops (quietB qc ops) q.1 i then
      (match preL n0 (look ds (base + i)).1 q.2.2 with
      | some (C1, s1) => match wantD ops s1 o (look ds (base + i)).2 with
        | some (C2, b, d') => bif b then (match takeR P s1 o.op d' with
            | some (C3, x) => some (C1 ++ (C2 ++ C3), (q.1.setIfInBounds i true, q.2.1, s1.put o.dst x))
            | none => none)
          else some (C1 ++ C2, (q.1.setIfInBounds i true, q.2.1, s1.put o.dst skipped))
        | none => none
      | none => none)
    else bif freeI ops q.1 i then
      (match preL n0 (look ds (base + i)).1 q.2.2 with
      | some (C1, s1) => bif stillI P s1 i ops then (match adjS (look ds (base + i)).2 (pureE P s1.H s1.ev o.op).2 with
          | some (C3, x) => some (C1 ++ C3, (q.1.setIfInBounds i true, q.2.1, s1.put o.dst x))
          | none => none) else none
      | none => none)
    else none
theorem takeD_ok {P : Program} {n0 : Nat} {ds : List Ent} {ops : Array Oper} {Q : Exit → St → Prop} {base : Nat} {qc : Bool} {n i : Nat} {q q' : DS} {C : List Prop} (h : takeD P n0 ds ops base qc q i = some (C, q')) (hC : allP C) (k : RunT P ops Q (quietB qc ops) n0 n q'.1 q'.2.2) : RunT P ops Q (quietB qc ops) n0 (n + 1) q.1 q.2.2 := by
  unfold takeD at h
  split at h
  · cases h
  · rename_i o ho
    rw [cond_eq_ite] at h
    split at h
    · rename_i hc
      rw [Bool.and_eq_true] at hc
      split at h
      · rename_i C1 s1 h1
        split at h
        · rename_i C2 b d' hw
          rw [cond_eq_ite] at h
          split at h
          · rename_i hb
            subst hb
            split at h
            · rename_i C3 x h3
              cases h
              rw [allP_append, allP_append] at hC
              exact (runT_take ho hc.1 hc.2 (wantD_ok hw hC.2.1) (takeR_ok h3 hC.2.2) k).wkn (preL_ok h1 hC.1)
            · cases h
          · rename_i hb
            have hb : b = false := by simpa using hb
            subst hb
            cases h
            rw [allP_append] at hC
            exact (runT_skip ho hc.1 (wantD_ok hw hC.2) k).wkn (preL_ok h1 hC.1)
        · cases h
      · cases h
    · rw [cond_eq_ite] at h
      split at h
      · rename_i hc
        split at h
        · rename_i C1 s1 h1
          rw [cond_eq_ite] at h
          split at h
          · rename_i hst
            split at h
            · rename_i C3 x h3
              cases h
              rw [allP_append] at hC
              obtain rfl := adjS_ok h3 hC.2
              unfold stillI at hst
              rw [ho] at hst
              simp only [Bool.and_eq_true] at hst
              have hg : o.guard = none := by
                cases hg : o.guard with
                | none => rfl
                | some g => rw [hg] at hst; exact absurd hst.1 (by simp)
              exact (runT_still ho hc (by unfold wantG; rw [hg]) hst.2 k).wkn (preL_ok h1 hC.1)
            · cases h
          · cases h
        · cases h
      · cases h
/-- what is asked: conditions, and states that are to be one -/
structure CB where
  c : List Prop
  b : List (St × St)
def CB.add (x y : CB) : CB := ⟨x.c ++ y.c, x.b ++ y.b⟩
def CB.of (c : List Prop) : CB := ⟨c, []⟩
def CB.eqs (b : List (St × St)) : CB := ⟨[], b⟩
def CB.ok (x : CB) : Prop := allP x.c ∧ ∀ z ∈ x.b, z.1 = z.2
theorem CB.ok_add {x y : CB} : (x.add y).ok ↔ x.ok ∧ y.ok := by
  unfold CB.ok CB.add
  simp only [allP_append, List.mem_append]
  exact ⟨fun ⟨⟨a, b⟩, h⟩ => ⟨⟨a, fun z hz => h z (Or.inl hz)⟩, b, fun z hz => h z (Or.inr hz)⟩, fun ⟨⟨a, h1⟩, b, h2⟩ => ⟨⟨a, b⟩, fun z hz => hz.elim (h1 z) (h2 z)⟩⟩
theorem CB.ok_of {c : List Prop} : (CB.of c).ok ↔ allP c := ⟨fun h => h.1, fun h => ⟨h, fun z hz => absurd hz (by simp [CB.of])⟩⟩
theorem CB.ok_eqs {b : List (St × St)} : (CB.eqs b).ok ↔ ∀ z ∈ b, z.1 = z.2 := ⟨fun h => h.2, fun h => ⟨trivial, h⟩⟩
/-- the states that are come to, all orders: those of the same operations are to be one -/
def insD (q : DS) : List DS → List (St × St) × List DS
  | [] => ([], [q])
  | q' :: r => bif q.1.toList == q'.1.toList then ([(q.2.2, q'.2.2)], q' :: r) else ((insD q r).1, q' :: (insD q r).2)
theorem insD_ok {P : Program} {n0 n : Nat} {ops : Array Oper} {Q : Exit → St → Prop} {quiet : Nat → Bool} {q : DS} : ∀ {l : List DS}, (∀ z ∈ (insD q l).1, z.1 = z.2) → (∀ x ∈ (insD q l).2, RunT P ops Q quiet n0 n x.1 x.2.2) → RunT P ops Q quiet n0 n q.1 q.2.2 ∧ ∀ x ∈ l, RunT P ops Q quiet n0 n x.1 x.2.2
  | [], _, h => ⟨h q (by simp [insD]), fun x hx => absurd hx (by simp)⟩
  | q' :: r, hC, h => by
    unfold insD at hC h
    rw [cond_eq_ite] at hC h
    split at hC
    · rename_i he
      rw [if_pos he] at h
      rw [beq_iff_eq] at he
      have he' : q.1 = q'.1 := Array.ext' he
      have hs : q.2.2 = q'.2.2 := hC (q.2.2, q'.2.2) (by simp)
      refine ⟨?_, h⟩
      rw [he', hs]
      exact h q' (by simp)
    · rename_i he
      rw [if_neg he] at h
      obtain ⟨a1, a2⟩ := insD_ok hC fun x hx => h x (by simp [hx])
      exact ⟨a1, fun x hx => (List.mem_cons.1 hx).elim (fun e => e ▸ h q' (by simp)) (a2 x)⟩
/-- all that may come next -/
def nextD (P : Program) (n0 : Nat) (ds : List Ent) (ops : Array Oper) (base : Nat) (qc : Bool) (n1 : Nat) (q : DS) : List Nat → List DS → Option (CB × List DS)
  | [], acc => some (CB.of [], acc)
  | i :: r, acc => match stepD P n0 ds ops base qc n1 q i with
    | none => none
    | some (C, q') => match nextD P n0 ds ops base qc n1 q r (insD q' acc).2 with
      | none => none
      | some (D, acc') => some ((CB.of C).add ((CB.eqs (insD q' acc).1).add D), acc')
theorem nextD_ok {P : Program} {n0 n : Nat} {ds : List Ent} {ops : Array Oper} {Q : Exit → St → Prop} {base : Nat} {qc : Bool} {n1 : Nat} {q : DS} : ∀ {r : List Nat} {acc acc' : List DS} {C : CB}, nextD P n0 ds ops base qc n1 q r acc = some (C, acc') → C.ok → (∀ x ∈ acc', RunT P ops Q (quietB qc ops) n0 n x.1 x.2.2) →
    (∀ i ∈ r, OpT P ops Q (quietB qc ops) n0 n q.1 q.2.2 i) ∧ ∀ x ∈ acc, RunT P ops Q (quietB qc ops) n0 n x.1 x.2.2
  | [], acc, acc', C, h, hC, k => by cases h; exact ⟨fun i hi => absurd hi (by simp), k⟩
  | i :: r, acc, acc', C, h, hC, k => by
    unfold nextD at h
    split at h
    · cases h
    · rename_i C1 q' h1
      split at h
      · cases h
      · rename_i D acc2 h2
        cases h
        rw [CB.ok_add, CB.ok_add, CB.ok_of, CB.ok_eqs] at hC
        obtain ⟨a1, a2⟩ := nextD_ok h2 hC.2.2 k
        obtain ⟨b1, b2⟩ := insD_ok hC.2.1 a2
        refine ⟨fun j hj => ?_, b2⟩
        rcases List.mem_cons.1 hj with rfl | hj
        · exact stepD_ok h1 hC.1 b1
        · exact a1 j hj
/-- one level: every state one operation on -/
def lineD (P : Program) (n0 : Nat) (ds : List Ent) (ops : Array Oper) (base : Nat) (qc : Bool) (n1 : Nat) : List DS → List DS → Option (CB × List DS)
  | [], acc => some (CB.of [], acc)
  | q :: r, acc => match (match Region.ready .any ops q.1 with
      | [] => none
      | l => match l.find? (fun i => kindB P q.2.2 i ops && (freeI ops q.1 i && (firstB ops (quietB qc ops) q.1 i || stillI P q.2.2 i ops))) with
        | some i => (match takeD P n0 ds ops base qc q i with
          | some (C, q') => some ((CB.of C).add (CB.eqs (insD q' acc).1), (insD q' acc).2)
          | none => none)
        | none => nextD P n0 ds ops base qc n1 q l acc) with
    | none => none
    | some (C, acc1) => match lineD P n0 ds ops base qc n1 r acc1 with
      | none => none
      | some (D, acc2) => some (C.add D, acc2)
theorem lineD_ok {P : Program} {n0 n : Nat} {ds : List Ent} {ops : Array Oper} {Q : Exit → St → Prop} {base : Nat} {qc : Bool} {n1 : Nat} : ∀ {l acc acc' : List DS} {C : CB}, lineD P n0 ds ops base qc n1 l acc = some (C, acc') → C.ok → (∀ x ∈ acc', RunT P ops Q (quietB qc ops) n0 n x.1 x.2.2) →
    (∀ x ∈ l, RunT P ops Q (quietB qc ops) n0 (n + 1) x.1 x.2.2) ∧ ∀ x ∈ acc, RunT P ops Q (quietB qc ops) n0 n x.1 x.2.2
  | [], acc, acc', C, h, hC, k => by cases h; exact ⟨fun i hi => absurd hi (by simp), k⟩
  | q :: r, acc, acc', C, h, hC, k => by
    unfold lineD at h
    split at h
    · cases h
    · rename_i C1 acc1 h1
      split at h
      · cases h
      · rename_i D acc2 h2
        cases h
        rw [CB.ok_add] at hC
        obtain ⟨a1, a2⟩ := lineD_ok h2 hC.2 k
        have key : RunT P ops Q (quietB qc ops) n0 (n + 1) q.1 q.2.2 ∧ ∀ x ∈ acc, RunT P ops Q (quietB qc ops) n0 n x.1 x.2.2 := by
          split at h1
          · cases h1
          · rename_i l hne
            split at h1
            · split at h1
              · rename_i C2 q' h3
                cases h1
                rw [CB.ok_add, CB.ok_of, CB.ok_eqs] at hC
                obtain ⟨b1, b2⟩ := insD_ok hC.1.2 a2
                exact ⟨takeD_ok h3 hC.1.1 b1, b2⟩
              · cases h1
            · obtain ⟨b1, b2⟩ := nextD_ok h1 hC.1 a2
              exact ⟨runT_all rfl hne b1, b2⟩
        refine ⟨fun x hx => ?_, key.2⟩
        rcases List.mem_cons.1 hx with rfl | hx
        · exact key.1
        · exact a1 x hx
def drT (P : Program) (n0 : Nat) (ds : List Ent) (ops : Array Oper) (base : Nat) (qc : Bool) (n1 : Nat) : Nat → List DS → Option (CB × St)
  | 0, l => match l with
    | [q] => match Region.ready .any ops q.1 with | [] => some (CB.of [], q.2.2) | _ => none
    | _ => none
  | n + 1, l => match lineD P n0 ds ops base qc n1 l [] with
    | none => none
    | some (C, l') => match drT P n0 ds ops base qc n1 n l' with
      | none => none
      | some (D, s) => some (C.add D, s)
theorem drT_ok {P : Program} {n0 : Nat} {ds : List Ent} {ops : Array Oper} {Q : Exit → St → Prop} {base : Nat} {qc : Bool} {n1 : Nat} : ∀ (n : Nat) (l : List DS) (s' : St) (C : CB), drT P n0 ds ops base qc n1 n l = some (C, s') → C.ok → Q .normal s' → ∀ x ∈ l, RunT P ops Q (quietB qc ops) n0 n x.1 x.2.2
  | 0, l, s', C, h, hC, hq => by
    unfold drT at h
    split at h
    · rename_i q
      split at h
      · rename_i hr; cases h; intro x hx; rw [List.mem_singleton] at hx; subst hx; exact runT_done hr hq
      · cases h
    · cases h
  | n + 1, l, s', C, h, hC, hq => by
    unfold drT at h
    split at h
    · cases h
    · rename_i C1 l' h1
      split at h
      · cases h
      · rename_i D s2 h2
        cases h
        rw [CB.ok_add] at hC
        exact (lineD_ok h1 hC.1 (drT_ok n l' s' D h2 hC.2 hq)).1
def isHeapCall : Dec → Bool | .callH _ _ => true | .callS _ _ _ _ _ => true | .br _ d => isHeapCall d | _ => false
/-- calls are lent what they are passed, or none is made with the heap -/
def qcOf (ds : List Ent) (base n : Nat) : Bool := !ds.any fun e => isHeapCall e.d && (Nat.ble base e.k && Nat.blt e.k (base + n))
def drG (P : Program) (n0 : Nat) (ds : List Ent) (ops : Array Oper) (base : Nat) (s : St) : Option (CB × St) := drT P n0 ds ops base (qcOf ds base ops.size) s.H.length ops.size [(Array.replicate ops.size false, [], s)]
theorem drG_ok {P : Program} {n0 : Nat} {ds : List Ent} {ops : Array Oper} {Q : Exit → St → Prop} {base : Nat} {id : Nat} {s s' : St} {C : CB} (hm : P.follows .mixedOrders = true) (h : drG P n0 ds ops base s = some (C, s')) (hC : C.ok) (hq : Q .normal s') : GoV P n0 (.region id ops true) Q s := fun p0 w0 p w a Qr hn hS hR hQ => by
  have hb : Below w.heap.size w { w with drawn := w.drawn + 1 } := ⟨rfl, rfl, rfl, Nat.le_refl _, fun _ _ => rfl⟩
  have hS0 := Step.of_below hb hR.heap.lt
  refine wp_mono (wp_region_any (Q := fun e a' w' => e = .normal ∧ Qr .normal a' w') hm (wpAny_of_T _ _ _ _ (drT_ok _ _ s' C h hC (Q := Q) hq (Array.replicate ops.size false, [], s) (by simp) p0 w0 p _ a (Qr .normal) hn (by simp) (closed0 ops) (hS.trans hS0) (hR.below hb) fun s' p' a' w' q r k => hQ _ _ _ _ _ q r k))) ?_
  rintro e a' w' ⟨rfl, h⟩
  exact h

/-! ### code -/
section
variable {P : Program} {n0 : Nat} {Q : Exit → St → Prop} {s : St}
theorem goV_seq {x y : Code} (h : GoV P n0 x (fun e s1 => match e with | .normal => GoV P n0 y Q s1 | e => Q e s1) s) : GoV P n0 (.seq x y) Q s := fun p0 w0 p w a Qr hn hS hR hQ =>
  wp_seq (h p0 w0 p w a _ hn hS hR fun e s' p' a' w' hq hR' hS' => by
    cases e with
    | normal => exact hq p0 w0 p' w' a' Qr hn hS' hR' hQ
    | _ => exact hQ _ _ _ _ _ hq hR' hS')
theorem goV_cond {c : Operand} {x y : Code} (b : Bool) (hc : s.ev c = .bool b) (h1 : b = true → GoV P n0 x Q s) (h2 : b = false → GoV P n0 y Q s) : GoV P n0 (.cond c x y) Q s := fun p0 w0 p w a Qr hn hS hR hQ => by
  have hb : a.eval c = .bool b := rep_bool (hc ▸ hR.ev c)
  exact wp_cond_split hb (fun hb => h1 hb p0 w0 p w a Qr hn hS hR hQ) (fun hb => h2 hb p0 w0 p w a Qr hn hS hR hQ)
theorem goV_block {id : Nat} {c : Code} (h : GoV P n0 c (blockV id Q) s) : GoV P n0 (.block id c) Q s := fun p0 w0 p w a Qr hn hS hR hQ => by
  refine wp_block (h p0 w0 p w a _ hn hS hR fun e s' p' a' w' hq hR' hS => ?_)
  cases e with
  | exit id' =>
    simp only [blockV, Exit.inBlock] at hq ⊢
    split at hq <;> rename_i he
    · rw [if_pos he]; exact hQ _ _ _ _ _ hq hR' hS
    · rw [if_neg he]; exact hQ _ _ _ _ _ hq hR' hS
  | _ => exact hQ _ _ _ _ _ hq hR' hS
theorem goV_loop {c : Code} (I : Nat → St → Prop) (n : Nat) (h0 : I n s) (h : ∀ n s, I n s → GoV P n0 c (fun e s1 => match e with | .normal => ∃ m, m < n ∧ I m s1 | e => Q e s1) s) : GoV P n0 (.loop c) Q s := fun p0 w0 p w a Qr hn hS hR hQ => by
  refine wp_loop_ghost (fun n a' w' => ∃ s' p', I n s' ∧ Rst p' s' a' w' ∧ Step p0 w0 p' w') n ⟨s, p, h0, hR, hS⟩ ?_
  rintro n a1 w1 ⟨s1, p1, hI, hR1, hS1⟩
  refine h n s1 hI p0 w0 p1 w1 a1 _ hn hS1 hR1 fun e s2 p2 a2 w2 hq hR2 hS2 => ?_
  cases e with
  | normal => obtain ⟨m, hm, hI2⟩ := hq; exact ⟨m, hm, _, p2, hI2, hR2, hS2⟩
  | _ => exact hQ _ _ _ _ _ hq hR2 hS2
theorem goV_region {id : Nat} {ops : Array Oper} (h : GoN P n0 ops Q (List.range ops.size) s) : GoV P n0 (.region id ops false) Q s := fun p0 w0 p w a Qr hn hS hR hQ => wp_region (h p0 w0 p w a Qr hn hS hR hQ)
end
/-- the loops of a piece of code, by number: their bodies -/
def nLoops : Code → Nat
  | .seq x y => nLoops x + nLoops y
  | .cond _ x y => nLoops x + nLoops y
  | .block _ x => nLoops x
  | .loop x => nLoops x + 1
  | .scope x => nLoops x
  | _ => 0
def nthLoop : Code → Nat → Code
  | .seq x y, i => bif Nat.blt i (nLoops x) then nthLoop x i else nthLoop y (i - nLoops x)
  | .cond _ x y, i => bif Nat.blt i (nLoops x) then nthLoop x i else nthLoop y (i - nLoops x)
  | .block _ x, i => nthLoop x i
  | .loop x, i => match i with | 0 => x | j + 1 => nthLoop x j
  | .scope x, i => nthLoop x i
  | _, _ => .skip
def loopB (fn : Func) (i : Nat) : Code := nthLoop (bodyOf fn) i
/-- a loop that ends in one state -/
def LoopG (P : Program) (n0 : Nat) (fn : Func) (i : Nat) (e : Exit) (s' s : St) : Prop := GoV P n0 (.loop (loopB fn i)) (isX e s') s
def addC (C : CB) (r : Option (CB × Exit × St × Nat)) : Option (CB × Exit × St × Nat) := match r with
  | some (D, q) => some (C.add D, q)
  | none => none
def loopD : Dec → Option (Exit × St) | .loop e s => some (e, s) | _ => none
def brD : Dec → Option Bool | .br b _ => some b | _ => none
abbrev XR := Option (CB × Exit × St × Nat)
def runG (P : Program) (n0 : Nat) (ds : List Ent) (m : Nat) : Bool → Code → St → Nat → XR :=
  Nat.rec (fun _ _ _ _ => none) (fun _ ih fl c s k => match c with
    | .skip => some (CB.of [], .normal, s, k)
    | .ret => some (CB.of [], .ret, s, k)
    | .exit i => some (CB.of [], .exit i, s, k)
    | .seq x y => match ih false x s k with
      | some (C, .normal, s', k') => addC C (ih false y s' k')
      | r => r
    | .cond c x y => match preL n0 (look ds k).1 s with
      | none => none
      | some (C, s1) => match s1.ev c with
        | .bool b => match brD (look ds k).2 with
          | some b' => addC (CB.of (C ++ [b = b'])) (bif b' then ih false x s1 (k + 1) else ih false y s1 (k + 1))
          | none => addC (CB.of C) (bif b then ih false x s1 (k + 1) else ih false y s1 (k + 1))
        | _ => none
    | .block i b => match ih false b s k with
      | some (C, .exit j, s', k') => bif j == i then some (C, .normal, s', k') else some (C, .exit j, s', k')
      | r => r
    | .loop b => match preL n0 (look ds k).1 s with
      | none => none
      | some (C, s1) => match (bif fl then none else loopD (look ds k).2) with
        | some (e, s') => some (CB.of (C ++ [GoV P n0 (.loop b) (isX e s') s1]), e, s', k + 1)
        | none => match ih false b s1 (k + 1) with
          | some (D, .normal, s', k') => addC ((CB.of C).add D) (ih true (.loop b) s' k')
          | r => addC (CB.of C) r
    | .region _ ops d => match (bif d then (bif P.follows .mixedOrders then drG P n0 ds ops k s else none) else (match rgN P n0 ds ops k (List.range ops.size) s with | some (C, s1) => some (CB.of C, s1) | none => none)) with
      | some (C, s') => some (C, .normal, s', k + ops.size)
      | none => none
    | _ => none) m
theorem addC_ok {C : CB} {r : Option (CB × Exit × St × Nat)} {D : CB} {q : Exit × St × Nat} (h : addC C r = some (D, q)) : ∃ E, r = some (E, q) ∧ D = C.add E := by
  unfold addC at h
  split at h
  · rename_i E q'; cases h; exact ⟨E, rfl, rfl⟩
  · cases h
theorem runG_loop {P : Program} {n0 : Nat} {ds : List Ent} (n : Nat) (fl : Bool) (b : Code) (s : St) (k : Nat) : runG P n0 ds (n + 1) fl (.loop b) s k = match preL n0 (look ds k).1 s with
      | none => none
      | some (C, s1) => match (bif fl then none else loopD (look ds k).2) with
        | some (e, s') => some (CB.of (C ++ [GoV P n0 (.loop b) (isX e s') s1]), e, s', k + 1)
        | none => match runG P n0 ds n false b s1 (k + 1) with
          | some (D, .normal, s', k') => addC ((CB.of C).add D) (runG P n0 ds n true (.loop b) s' k')
          | r => addC (CB.of C) r := rfl
theorem runG_ok {P : Program} {n0 : Nat} {ds : List Ent} : ∀ (m : Nat) (fl : Bool) (c : Code) (s : St) (k : Nat) (C : CB) (e : Exit) (s' : St) (k' : Nat), runG P n0 ds m fl c s k = some (C, e, s', k') → C.ok → GoV P n0 c (isX e s') s
  | 0, fl, c, s, k, C, e, s', k', h, _ => by cases h
  | m + 1, fl, c, s, k, C, e, s', k', h, hC => by
    have ih := runG_ok (P := P) (n0 := n0) (ds := ds) m
    cases c with
    | skip => cases h; exact .of (wpV_skip ⟨rfl, rfl⟩)
    | ret => cases h; exact .of (wpV_ret ⟨rfl, rfl⟩)
    | exit i => cases h; exact .of (wpV_exit ⟨rfl, rfl⟩)
    | seq x y =>
      change (match runG P n0 ds m false x s k with | some (C, .normal, s', k') => addC C (runG P n0 ds m false y s' k') | r => r) = _ at h
      refine goV_seq ?_
      split at h
      · rename_i C1 s1 k1 hx
        obtain ⟨E, h2, rfl⟩ := addC_ok h
        rw [CB.ok_add] at hC
        refine (ih false x s k _ _ _ _ hx hC.1).mono ?_
        rintro e2 s2 ⟨rfl, rfl⟩
        exact ih false y s2 k1 _ _ _ _ h2 hC.2
      · rename_i hne
        refine (ih false x s k _ _ _ _ h hC).mono ?_
        rintro e2 s2 ⟨rfl, rfl⟩
        cases e2 with
        | normal => exact (hne _ _ _ h).elim
        | _ => exact ⟨rfl, rfl⟩
    | cond b x y =>
      change (match preL n0 (look ds k).1 s with
        | none => none
        | some (C, s1) => match s1.ev b with
          | .bool b => match brD (look ds k).2 with
            | some b' => addC (CB.of (C ++ [b = b'])) (bif b' then runG P n0 ds m false x s1 (k + 1) else runG P n0 ds m false y s1 (k + 1))
            | none => addC (CB.of C) (bif b then runG P n0 ds m false x s1 (k + 1) else runG P n0 ds m false y s1 (k + 1))
          | _ => none) = _ at h
      split at h
      · cases h
      · rename_i C1 s1 h1
        split at h
        · rename_i bb hb
          have key : ∀ (b' : Bool) (D : CB), bb = b' → (bif b' then runG P n0 ds m false x s1 (k + 1) else runG P n0 ds m false y s1 (k + 1)) = some (D, e, s', k') → D.ok → GoV P n0 (.cond b x y) (isX e s') s1 := fun b' D hbb h2 hD => by
            subst hbb
            refine goV_cond bb hb (fun ht => ?_) (fun hf => ?_)
            · rw [ht] at h2; exact ih false x s1 _ _ _ _ _ h2 hD
            · rw [hf] at h2; exact ih false y s1 _ _ _ _ _ h2 hD
          split at h
          · rename_i b' _
            obtain ⟨E, h2, rfl⟩ := addC_ok h
            rw [CB.ok_add, CB.ok_of, allP_append] at hC
            exact (key b' E hC.1.2 h2 hC.2).wkn (preL_ok h1 hC.1.1)
          · obtain ⟨E, h2, rfl⟩ := addC_ok h
            rw [CB.ok_add, CB.ok_of] at hC
            exact (key bb E rfl h2 hC.2).wkn (preL_ok h1 hC.1)
        · cases h
    | block i b =>
      change (match runG P n0 ds m false b s k with | some (C, .exit j, s', k') => bif j == i then some (C, Exit.normal, s', k') else some (C, Exit.exit j, s', k') | r => r) = _ at h
      refine goV_block ?_
      split at h
      · rename_i C1 j s1 k1 hx
        rw [cond_eq_ite] at h
        have hC1 : C1.ok := by split at h <;> (cases h; exact hC)
        refine (ih false b s k _ _ _ _ hx hC1).mono ?_
        rintro e2 s2 ⟨rfl, rfl⟩
        simp only [blockV]
        simp only [beq_iff_eq] at h
        split at h
        · rename_i hj; rw [if_pos hj]; cases h; exact ⟨rfl, rfl⟩
        · rename_i hj; rw [if_neg hj]; cases h; exact ⟨rfl, rfl⟩
      · rename_i hne
        refine (ih false b s k _ _ _ _ h hC).mono ?_
        rintro e2 s2 ⟨rfl, rfl⟩
        cases e2 with
        | exit j => exact (hne _ _ _ _ h).elim
        | _ => exact ⟨rfl, rfl⟩
    | loop b =>
      have h0 := h
      rw [runG_loop] at h
      split at h
      · cases h
      · rename_i C1 s1 h1
        split at h
        · cases h
          rw [CB.ok_of, allP_append] at hC
          have hg : GoV P n0 (.loop b) (isX e s') s1 := hC.2
          exact hg.wkn (preL_ok h1 hC.1)
        · rename_i hfl
          clear h h1
          refine goV_loop (fun n s1 => n ≤ m + 1 ∧ ∃ f k1 D k2, runG P n0 ds n f (.loop b) s1 k1 = some (D, e, s', k2) ∧ D.ok ∧ (bif f then none else loopD (look ds k1).2) = none) (m + 1) ⟨Nat.le_refl _, fl, k, C, k', h0, hC, hfl⟩ ?_
          rintro n s2 ⟨hn, f, k1, D, k2, h2, hD, hf⟩
          cases n with
          | zero => cases h2
          | succ n =>
            rw [runG_loop, hf] at h2
            split at h2
            · cases h2
            · rename_i C2 s3 h3
              have hle : n ≤ m := by omega
              simp only [] at h2
              split at h2
              · rename_i D2 s4 k4 h4
                obtain ⟨E, h5, rfl⟩ := addC_ok h2
                rw [CB.ok_add, CB.ok_add, CB.ok_of] at hD
                refine ((runG_ok n false b s3 _ _ _ _ _ h4 hD.1.2).mono ?_).wkn (preL_ok h3 hD.1.1)
                rintro e5 s5 ⟨rfl, rfl⟩
                exact ⟨n, by omega, by omega, true, _, _, _, h5, hD.2, rfl⟩
              · rename_i hne
                obtain ⟨E, h5, rfl⟩ := addC_ok h2
                rw [CB.ok_add, CB.ok_of] at hD
                refine ((runG_ok n false b s3 _ _ _ _ _ h5 hD.2).mono ?_).wkn (preL_ok h3 hD.1)
                rintro e5 s5 ⟨rfl, rfl⟩
                cases e5 with
                | normal => exact (hne _ _ _ h5).elim
                | _ => exact ⟨rfl, rfl⟩
    | region i ops d =>
      cases d with
      | true =>
        change (match (bif P.follows .mixedOrders then drG P n0 ds ops k s else none) with | some (C, s') => some (C, Exit.normal, s', k + ops.size) | none => none) = _ at h
        rw [cond_eq_ite] at h
        split at h
        · rename_i C1 s1 h1
          cases h
          split at h1
          · rename_i hm; exact drG_ok hm h1 hC ⟨rfl, rfl⟩
          · cases h1
        · cases h
      | false =>
        change (match (match rgN P n0 ds ops k (List.range ops.size) s with | some (C, s1) => some (CB.of C, s1) | none => none) with | some (C, s') => some (C, Exit.normal, s', k + ops.size) | none => none) = _ at h
        cases h1 : rgN P n0 ds ops k (List.range ops.size) s with
        | none => rw [h1] at h; cases h
        | some q =>
          obtain ⟨C1, s1⟩ := q
          rw [h1] at h
          cases h
          exact goV_region (rgN_ok h1 (CB.ok_of.1 hC) ⟨rfl, rfl⟩)
    | _ => cases h
termination_by m => m

/-! ### as rules -/
/-- a piece of code under directions, and the state behind it written otherwise -/
def goE (P : Program) (n0 : Nat) (ds : List Ent) (m : Nat) (c : Code) (s : St) (fin : List Pre) : Option (Prop × Exit × St × List (St × St)) := match runG P n0 ds m false c s 0 with
  | some (C, e, s1, _) => match preL n0 fin s1 with
    | some (D, s2) => some (allP (C.c ++ D), e, s2, C.b)
    | none => none
  | none => none
theorem goE_ok {P : Program} {n0 : Nat} {ds : List Ent} {m : Nat} {c : Code} {s : St} {fin : List Pre} {C : Prop} {e : Exit} {s' : St} {B : List (St × St)} {Q : Exit → St → Prop} (h : goE P n0 ds m c s fin = some (C, e, s', B)) (hC : C) (hB : ∀ z ∈ B, z.1 = z.2) (k : Q e s') : GoV P n0 c Q s := by
  unfold goE at h
  split at h
  · rename_i C1 e1 s1 k1 h1
    split at h
    · rename_i D s2 h2
      cases h
      rw [allP_append] at hC
      refine (runG_ok m false c s 0 _ _ _ _ h1 ⟨hC.1, hB⟩).post ?_
      rintro e2 s3 ⟨rfl, rfl⟩
      exact ⟨_, preL_ok h2 hC.2, k⟩
    · cases h
  · cases h
def noB (r : Option (Prop × Exit × St × List (St × St))) : Option (Prop × Exit × St) := match r with | some (C, e, s, _) => some (C, e, s) | none => none
def lefts (r : Option (Prop × Exit × St × List (St × St))) : List St := match r with | some (_, _, _, b) => b.map (·.1) | none => []
def rights (r : Option (Prop × Exit × St × List (St × St))) : List St := match r with | some (_, _, _, b) => b.map (·.2) | none => []
section
variable {P : Program} {n0 : Nat} {Q : Exit → St → Prop} {s : St} {c : Code}
theorem g_go (m : Nat) (ds : List Ent) (fin : List Pre) (C : Prop) (e : Exit) (s' : St) (h : goE P n0 ds m c s fin = some (C, e, s', [])) (hC : C) (k : Q e s') : GoV P n0 c Q s := goE_ok h hC (fun z hz => absurd hz (by simp)) k
/-- the same where orders meet again -/
theorem g_goB (m : Nat) (ds : List Ent) (fin : List Pre) (C : Prop) (e : Exit) (s' : St) (h : noB (goE P n0 ds m c s fin) = some (C, e, s')) (hB : lefts (goE P n0 ds m c s fin) = rights (goE P n0 ds m c s fin)) (hC : C) (k : Q e s') : GoV P n0 c Q s := by
  cases hg : goE P n0 ds m c s fin with
  | none => rw [hg] at h; cases h
  | some q =>
    obtain ⟨C1, e1, s1, B⟩ := q
    rw [hg] at h hB
    cases h
    refine goE_ok hg hC ?_ k
    have hB' : B.map (·.1) = B.map (·.2) := hB
    clear hg hB
    induction B with
    | nil => intro z hz; exact absurd hz (by simp)
    | cons q r ih =>
      simp only [List.map_cons, List.cons.injEq] at hB'
      intro z hz
      rcases List.mem_cons.1 hz with rfl | hz
      · exact hB'.1
      · exact ih hB'.2 z hz
/-- what an equation, a contract, a loop's lemma speak of -/
def rhsOf {α : Type} {a b : α} (_ : a = b) : α := b
def avOf {f : FuncId} {args : List AV} {H : List Blk} {X : AV} {Bs : List Blk} (_ : CallsV P f args H fun a b => a = X ∧ b = Bs) : AV := X
def blOf {f : FuncId} {args : List AV} {H : List Blk} {X : AV} {Bs : List Blk} (_ : CallsV P f args H fun a b => a = X ∧ b = Bs) : List Blk := Bs
def rdOf {H : List Blk} {l l' : List AV} (_ : Reads H l l') : List AV := l'
def exOf {fn : Func} {i : Nat} {e : Exit} {s' : St} (_ : LoopG P n0 fn i e s' s) : Exit := e
def endOf {fn : Func} {i : Nat} {e : Exit} {s' : St} (_ : LoopG P n0 fn i e s' s) : St := s'
theorem g_x {e : Exit} {s' : St} (ds : List Ent) (fin : List Pre) {C : Prop} (hC : C) (h : goE P n0 ds 1000 c s fin = some (C, e, s', []) := by kernel_rfl) : GoV P n0 c (isX e s') s := goE_ok h hC (fun z hz => absurd hz (by simp)) ⟨rfl, rfl⟩
theorem g_xB {e : Exit} {s' : St} (ds : List Ent) (fin : List Pre) {C : Prop} (hC : C) (h : noB (goE P n0 ds 1000 c s fin) = some (C, e, s') := by kernel_rfl) (hB : lefts (goE P n0 ds 1000 c s fin) = rights (goE P n0 ds 1000 c s fin) := by kernel_rfl) : GoV P n0 c (isX e s') s := g_goB 1000 ds fin C e s' h hB hC ⟨rfl, rfl⟩
theorem g_q (ds : List Ent) (fin : List Pre) (e : Exit) (s' : St) {C : Prop} (hC : C) (k : Q e s') (h : goE P n0 ds 1000 c s fin = some (C, e, s', []) := by kernel_rfl) : GoV P n0 c Q s := g_go 1000 ds fin C e s' h hC k
theorem g_qB (ds : List Ent) (fin : List Pre) (e : Exit) (s' : St) {C : Prop} (hC : C) (k : Q e s') (h : noB (goE P n0 ds 1000 c s fin) = some (C, e, s') := by kernel_rfl) (hB : lefts (goE P n0 ds 1000 c s fin) = rights (goE P n0 ds 1000 c s fin) := by kernel_rfl) : GoV P n0 c Q s := g_goB 1000 ds fin C e s' h hB hC k
theorem callsG_at {f : FuncId} {fn : Func} {args : List AV} {H : List Blk} {R : AV → List Blk → Prop} (hf : P.funcs[f]? = some fn) (hb : fn.body.isSome = true)
    (h : GoV P H.length (bodyOf fn) (bodyV P fn.results.toList H.length R) ⟨args ++ List.replicate (fn.ntmps - args.length) .junk, H⟩) : CallsV P f args H R := callsV_at hf hb (GoV.wpV h)
/-- N full rounds, then the last one -/
theorem loopG_of {fn : Func} {i : Nat} {e : Exit} {s' : St} (N : Nat) (S : Nat → St) (h0 : S 0 = s) (he : e ≠ .normal) (hr : ∀ k, k < N → GoV P n0 (loopB fn i) (isX .normal (S (k + 1))) (S k)) (hx : GoV P n0 (loopB fn i) (isX e s') (S N)) : LoopG P n0 fn i e s' s := by
  unfold LoopG
  refine goV_loop (fun n s1 => ∃ k, n = N - k ∧ k ≤ N ∧ s1 = S k) N ⟨0, rfl, Nat.zero_le _, h0.symm⟩ ?_
  rintro n _ ⟨k, rfl, hk, rfl⟩
  rcases Nat.lt_or_ge k N with h1 | h1
  · refine (hr k h1).mono ?_
    rintro _ _ ⟨rfl, rfl⟩
    exact ⟨N - (k + 1), by omega, k + 1, rfl, by omega, rfl⟩
  · obtain rfl : k = N := by omega
    refine hx.mono ?_
    rintro e2 s2 ⟨rfl, rfl⟩
    cases e2 with
    | normal => exact (he rfl).elim
    | _ => exact ⟨rfl, rfl⟩
/-- a loop by an invariant that bears a number -/
theorem loopG_inv {fn : Func} {i : Nat} {e : Exit} {s' : St} (N : Nat) (I : Nat → St → Prop) (h0 : I N s) (he : e ≠ .normal) (h : ∀ n s1, I n s1 → GoV P n0 (loopB fn i) (fun e2 s2 => (e2 = .normal ∧ ∃ m, m < n ∧ I m s2) ∨ (e2 = e ∧ s2 = s')) s1) : LoopG P n0 fn i e s' s := by
  unfold LoopG
  refine goV_loop I N h0 ?_
  intro n s1 hI
  refine (h n s1 hI).mono ?_
  intro e2 s2 hq
  cases e2 with
  | normal =>
    rcases hq with ⟨_, h2⟩ | ⟨h2, _⟩
    · exact h2
    · exact (he h2.symm).elim
  | _ =>
    rcases hq with ⟨h2, _⟩ | h2
    · cases h2
    · exact h2
/-- what a function hands back, some of the blocks being kept -/
theorem g_fin {rs : List ResultVar} {R : AV → List Blk → Prop} (ks : List Nat) (fl : List Bool) (C : Prop) (av : AV) (H' : List Blk) (hC : allP ((resL P s rs).1 ++ (dec (keepB n0 ks s.H) ++ stayP fl (ks.map fun i => s.H.getD i .dead))) = C) (hav : ren (idxK ks) (packE (resL P s rs).2) = av) (hH : keepF ks s.H ks fl = H') (hok : C) (h : R av H') : bodyV P rs n0 R .ret s := by
  subst hC hav hH
  rw [allP_append, allP_append, allP_dec] at hok
  have hk0 := keepB_ok hok.2.1
  exact ⟨hok.1, ks, _, ⟨hk0.nodup, hk0.lt, hk0.n0le, hk0.pre, keepF_len _ _ _ _, fun j h1 h2 h3 => keepF_ok ks s.H ks fl hok.2.2 j h1 h2 h3⟩, h⟩
theorem g_f {rs : List ResultVar} {R : AV → List Blk → Prop} (ks : List Nat) (fl : List Bool) (av : AV) (H' : List Blk) {C : Prop} (hok : C) (h : R av H') (hC : allP ((resL P s rs).1 ++ (dec (keepB n0 ks s.H) ++ stayP fl (ks.map fun i => s.H.getD i .dead))) = C := by kernel_rfl) (hav : ren (idxK ks) (packE (resL P s rs).2) = av := by kernel_rfl) (hH : keepF ks s.H ks fl = H' := by kernel_rfl) : bodyV P rs n0 R .ret s := g_fin ks fl C av H' hC hav hH hok h
theorem g_finn {rs : List ResultVar} {R : AV → List Blk → Prop} (k : bodyV P rs n0 R .ret s) : bodyV P rs n0 R .normal s := k
theorem g_split (b : Bool) (h1 : b = true → GoV P n0 c Q s) (h2 : b = false → GoV P n0 c Q s) : GoV P n0 c Q s := by
  cases b with
  | true => exact h1 rfl
  | false => exact h2 rfl
end
/-- behind a call the result may be written otherwise -/
theorem CallsV.post {P : Program} {f : FuncId} {args : List AV} {H : List Blk} {R R' : AV → List Blk → Prop} (h : CallsV P f args H R) (hq : ∀ av H1, R av H1 → ∃ av' H2, Wkn H.length ⟨[av], H1⟩ ⟨[av'], H2⟩ ∧ R' av' H2) : CallsV P f args H R' := fun p w vals hH hv => by
  refine (h p w vals hH hv).mono ?_
  rintro e w' ⟨v, av, H1, p1, h1, h2, h3, h4, h5⟩
  obtain ⟨av', H2, k1, k2⟩ := hq av H1 h2
  have hR : Rst p1 ⟨[av], H1⟩ { tmps := #[v], defers := [] } w' := ⟨rfl, ⟨rfl, fun i a b => by
    have : i = 0 := by simp at a; omega
    subst this; exact h4⟩, h3⟩
  obtain ⟨p2, r1, r2⟩ := k1 p w p1 _ w' hH.n h5 hR
  exact ⟨v, av', H2, p2, h1, k2, r1.heap, r1.reps.2 0 (by simp) (by simp), r2⟩
end Go.Proofs.Ytkdgnjoofhckeaa.V
/-
  Rows of elements of one form: reading, writing, appending, cutting. Over any program.
-/
namespace Go.Proofs.Ytkdgnjoofhckeaa.V
open Go Go.RowKit
set_option linter.unusedSimpArgs false
set_option linter.unusedVariables false
section
variable {α : Type} {enc : α → List AV} {n : Nat}
theorem flatA_noid (enc : α → List AV) (h : ∀ a, ∀ x ∈ enc a, noid0 x = true) (l : List α) : ∀ x ∈ flatA enc l, noid0 x = true := by
  induction l with
  | nil => intro x hx; cases hx
  | cons e l ih =>
    intro x hx
    rcases List.mem_append.1 (show x ∈ enc e ++ flatA enc l from hx) with h' | h'
    · exact h e x h'
    · exact ih x h'
theorem flatA_all_take (h : ∀ x, (enc x).length = n) (l : List α) : (flatA enc l).take (l.length * n) = flatA enc l := List.take_of_length_le (Nat.le_of_eq (flatA_length h l))
theorem flatA_snoc (h : ∀ x, (enc x).length = n) (l : List α) (x : α) : (flatA enc l).take (l.length * n) ++ enc x = flatA enc (l ++ [x]) := by
  rw [flatA_all_take h, flatA_append]; simp [flatA]
theorem flatA_set (h : ∀ x, (enc x).length = n) : ∀ (l : List α) (k : Nat) (_ : k < l.length) (x : α), flatA enc (l.set k x) = (flatA enc l).take (k * n) ++ enc x ++ (flatA enc l).drop (k * n + n)
  | [], k, hk, _ => absurd hk (by simp)
  | a :: l, 0, _, x => by
    rw [List.set_cons_zero, flatA_cons, flatA_cons, Nat.zero_mul, List.take_zero, List.nil_append, Nat.zero_add, ← h a, List.drop_left]
  | a :: l, k + 1, hk, x => by
    have ih := flatA_set h l k (by simpa using hk) x
    rw [List.set_cons_succ, flatA_cons, flatA_cons, ih]
    have e1 : (k + 1) * n = (enc a).length + k * n := by rw [h a, Nat.succ_mul]; omega
    have e2 : (k + 1) * n + n = (enc a).length + (k * n + n) := by rw [e1]; omega
    rw [e2, e1, List.take_length_add_append, List.drop_length_add_append]
    simp only [List.append_assoc]
theorem flatA_set0 (h : ∀ x, (enc x).length = n) (l : List α) (k : Nat) (hk : k < l.length) (x : α) : (flatA enc l).take (0 + (k : Int).toNat * n) ++ enc x ++ (flatA enc l).drop (0 + (k : Int).toNat * n + n) = flatA enc (l.set k x) := by
  rw [Int.toNat_natCast, Nat.zero_add]; exact (flatA_set h l k hk x).symm
/-- one cell of an element written -/
theorem flatA_put (h : ∀ x, (enc x).length = n) (l : List α) (k : Nat) (hk : k < l.length) (d x : α) (o : Nat) (ho : o < n) (v : AV) (hx : enc x = (enc (l.getD k d)).set o v) : (flatA enc l).take (0 + (k : Int).toNat * n + o) ++ [v] ++ (flatA enc l).drop (0 + (k : Int).toNat * n + o + 1) = flatA enc (l.set k x) := by
  rw [flatA_set h l k hk x, hx, Int.toNat_natCast, Nat.zero_add]
  have hc : (flatA enc l).drop (k * n) = enc (l.getD k d) ++ flatA enc (l.drop (k + 1)) := by
    have := flatA_at h l d k hk
    rwa [Int.toNat_natCast] at this
  have hl := h (l.getD k d)
  generalize enc (l.getD k d) = c at hc hl
  have e : flatA enc l = (flatA enc l).take (k * n) ++ (c ++ flatA enc (l.drop (k + 1))) := by rw [← hc, List.take_append_drop]
  have e0 : ((flatA enc l).take (k * n)).length = k * n := by
    rw [List.length_take, flatA_length h]
    have : k * n ≤ l.length * n := Nat.mul_le_mul_right _ (Nat.le_of_lt hk)
    omega
  generalize (flatA enc l).take (k * n) = A at e e0
  rw [e, ← e0, Nat.add_assoc, List.take_length_add_append, List.drop_length_add_append, List.drop_length_add_append, List.take_append_of_le_length (by omega), List.drop_append_of_le_length (by omega), List.set_eq_take_append_cons_drop]
  rw [if_pos (by omega), List.drop_append_of_le_length (by omega)]
  rw [List.drop_eq_nil_of_le (show c.length ≤ n by omega)]
  simp only [List.append_assoc, List.cons_append, List.nil_append]
/-- a part of a row, copied -/
theorem flatA_cut (h : ∀ x, (enc x).length = n) (l : List α) (i j : Nat) : ((flatA enc l).drop (i * n)).take ((j - i) * n) = flatA enc ((l.drop i).take (j - i)) := by
  rw [flatA_drop h, flatA_take h]
theorem getD_mem' {l : List α} {k : Nat} (hk : k < l.length) (d : α) : l.getD k d ∈ l := by
  rw [List.getD_eq_getElem?_getD, List.getElem?_eq_getElem hk]; exact List.getElem_mem hk
theorem getD_snoc_last (l : List α) (x d : α) : (l ++ [x]).getD l.length d = x := by
  simp [List.getD_eq_getElem?_getD]
theorem getD_snoc_lt (l : List α) (x d : α) (k : Nat) (hk : k < l.length) : (l ++ [x]).getD k d = l.getD k d := by
  simp [List.getD_eq_getElem?_getD, List.getElem?_append_left hk]
theorem snoc_length (l : List α) (x : α) : (l ++ [x]).length = l.length + 1 := by simp
end
end Go.Proofs.Ytkdgnjoofhckeaa.V
/-
  An argument of a plain type, decoded. Over any program.
-/
namespace Go.Proofs.Ytkdgnjoofhckeaa.V
open Go Go.RowKit
set_option linter.unusedSimpArgs false
set_option linter.unusedVariables false
theorem sh_int {P : Program} {n : Nat} {t : TypeId} {x : AV} {k : IntKind} (ht : P.underlying t = some (.int k)) (h : Sh P (n + 1) t x) : ∃ z, x = .int k z ∧ (Lit.int k z).wf = true := by
  unfold Sh at h; rw [ht] at h; exact h
theorem sh_str {P : Program} {n : Nat} {t : TypeId} {x : AV} (ht : P.underlying t = some .string) (h : Sh P (n + 1) t x) : ∃ s : ByteArray, x = .str s ∧ s.size ≤ 9223372036854775807 := by
  unfold Sh at h; rw [ht] at h; exact h
theorem sh_bool {P : Program} {n : Nat} {t : TypeId} {x : AV} (ht : P.underlying t = some .bool) (h : Sh P (n + 1) t x) : ∃ b, x = .bool b := by
  unfold Sh at h; rw [ht] at h; exact h
theorem cells_rows {α : Type} {enc : α → List AV} {n : Nat} {good : α → Prop} : ∀ (len : Nat) (cells : List AV), cells.length = len * n → (∀ i, i < len → ∃ a, (cells.drop (i * n)).take n = enc a ∧ good a) → ∃ l : List α, l.length = len ∧ cells = flatA enc l ∧ ∀ a ∈ l, good a
  | 0, cells, h, _ => ⟨[], rfl, by simpa [flatA] using h, fun a ha => absurd ha (by simp)⟩
  | len + 1, cells, h, hd => by
    obtain ⟨a, e1, g1⟩ := hd 0 (by omega)
    rw [Nat.zero_mul, List.drop_zero] at e1
    obtain ⟨l, h1, h2, h3⟩ := cells_rows (n := n) (enc := enc) (good := good) len (cells.drop n) (by rw [List.length_drop, h, Nat.succ_mul]; omega) (fun i hi => by
      obtain ⟨b, e2, g2⟩ := hd (i + 1) (by omega)
      refine ⟨b, ?_, g2⟩
      rw [List.drop_drop, show n + i * n = (i + 1) * n by rw [Nat.succ_mul]; omega]
      exact e2)
    refine ⟨a :: l, by simp [h1], ?_, fun b hb => ?_⟩
    · rw [flatA_cons, ← h2, ← e1, List.take_append_drop]
    · rcases List.mem_cons.1 hb with rfl | hb
      · exact g1
      · exact h3 b hb
theorem sh_slice {P : Program} {n : Nat} {t e : TypeId} {ts : List TypeId} {x : AV} {α : Type} (enc : α → List AV) (good : α → Prop) (ht : P.underlying t = some (.slice e)) (hl : leafs P 8 e = some ts)
    (hd : ∀ c : List AV, c.length = ts.length → (∀ j (hj : j < ts.length), Sh P n ts[j] (c.getD j .junk)) → ∃ a, c = enc a ∧ good a) (h : Sh P (n + 1) t x) :
    ∃ l : List α, x = .slv l.length ts.length (flatA enc l) ∧ l.length ≤ 9223372036854775807 ∧ ∀ a ∈ l, good a := by
  unfold Sh at h
  rw [ht] at h
  obtain ⟨ts', h1, len, cells, rfl, h2, h3, h4⟩ := h
  rw [hl] at h1
  cases h1
  obtain ⟨l, rfl, rfl, g⟩ := cells_rows (enc := enc) (good := good) len cells h2 (fun i hi => by
    have hlen : i * ts.length + ts.length ≤ cells.length := by
      rw [h2]
      have : (i + 1) * ts.length ≤ len * ts.length := Nat.mul_le_mul_right _ hi
      rw [Nat.succ_mul] at this
      exact this
    refine hd _ (by rw [List.length_take, List.length_drop]; omega) fun j hj => ?_
    have := h4 i hi j hj
    rw [List.getD_eq_getElem?_getD, List.getElem?_take_of_lt hj, List.getElem?_drop, ← List.getD_eq_getElem?_getD]
    exact this)
  exact ⟨l, rfl, h3, g⟩
theorem flatA_one {α : Type} (f : α → AV) (l : List α) : flatA (fun z => [f z]) l = l.map f := by
  induction l with
  | nil => rfl
  | cons a l ih => rw [flatA_cons, ih]; rfl
/-- rows of one cell -/
theorem sh_ints {P : Program} {n : Nat} {t e : TypeId} {x : AV} {k : IntKind} (ht : P.underlying t = some (.slice e)) (hl : leafs P 8 e = some [e]) (he : P.underlying e = some (.int k)) (h : Sh P (n + 2) t x) :
    ∃ l : List Int, x = .slv l.length 1 (l.map (AV.int k)) ∧ l.length ≤ 9223372036854775807 ∧ ∀ z ∈ l, (Lit.int k z).wf = true := by
  obtain ⟨l, h1, h2, h3⟩ := sh_slice (n := n + 1) (fun z : Int => [AV.int k z]) (fun z => (Lit.int k z).wf = true) ht hl (fun c hc hs => by
    match c, hc with
    | [a], _ =>
      obtain ⟨z, hz, hw⟩ := sh_int he (hs 0 (by simp))
      exact ⟨z, by rw [← hz]; rfl, hw⟩) h
  exact ⟨l, by rw [h1]; exact congrArg _ (flatA_one _ l), h2, h3⟩
theorem sh_strs {P : Program} {n : Nat} {t e : TypeId} {x : AV} (ht : P.underlying t = some (.slice e)) (hl : leafs P 8 e = some [e]) (he : P.underlying e = some .string) (h : Sh P (n + 2) t x) :
    ∃ l : List ByteArray, x = .slv l.length 1 (l.map AV.str) ∧ l.length ≤ 9223372036854775807 ∧ ∀ z ∈ l, z.size ≤ 9223372036854775807 := by
  obtain ⟨l, h1, h2, h3⟩ := sh_slice (n := n + 1) (fun z : ByteArray => [AV.str z]) (fun z => z.size ≤ 9223372036854775807) ht hl (fun c hc hs => by
    match c, hc with
    | [a], _ =>
      obtain ⟨z, hz, hw⟩ := sh_str he (hs 0 (by simp))
      exact ⟨z, by rw [← hz]; rfl, hw⟩) h
  exact ⟨l, by rw [h1]; exact congrArg _ (flatA_one _ l), h2, h3⟩
end Go.Proofs.Ytkdgnjoofhckeaa.V
