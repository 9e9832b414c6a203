/-
  The logic of values: own blocks lent to a call as values, or handed over to it for good. Over any program.
-/
import Derived.Test.YtcmbhebgpboepaaVr
namespace Go.Proofs.Ytcmbhebgpboepaa.V
open Go Go.RowKit
set_option linter.unusedSimpArgs false
set_option linter.unusedVariables false

mutual
/-- a value with the own blocks behind it read as values -/
def val0 (used : Nat → Bool) (H : List Blk) : Nat → AV → Option AV
  | 0, _ => none
  | d + 1, x => match x with
    | .sl id st len sz => bif used id then (match H[id]? with
      | some (.row _ xs) => bif Nat.ble (st + len * sz) xs.length then (match valL used H d ((xs.drop st).take (len * sz)) with | some cs => some (.slv len sz cs) | none => none) else none
      | _ => none) else none
    | .ptr id o => bif used id then (match H[id]? with
      | some (.row _ xs) => (match valL used H d (xs.drop o) with | some cs => some (.fptr cs) | none => none)
      | _ => none) else none
    | .junk | .slc _ _ _ _ _ | .map _ | .iter _ | .agg _ | .tuple _ | .cnd _ _ => none
    | .fn f a b => bif a.isEmpty && b.isEmpty then some (.fn f [] []) else none
    | x => some x
def valL (used : Nat → Bool) (H : List Blk) : Nat → List AV → Option (List AV)
  | 0, _ => none
  | _ + 1, [] => some []
  | d + 1, x :: r => match val0 used H d x, valL used H d r with | some y, some l => some (y :: l) | _, _ => none
end
def val1 (used : Nat → Bool) (H : List Blk) (d : Nat) : AV → Option AV
  | .agg cs => match valL used H d cs with | some l => some (.agg l) | none => none
  | .fn f a b => match valL used H d a, valL used H d b with | some l, some m => some (.fn f l m) | _, _ => none
  | x => val0 used H d x
def valA (used : Nat → Bool) (H : List Blk) (d : Nat) : List AV → Option (List AV)
  | [] => some []
  | x :: r => match val1 used H d x, valA used H d r with | some y, some l => some (y :: l) | _, _ => none
structure Lends (used : Nat → Bool) (p p1 : Pl) : Prop where
  M : ∀ g, p1.M g → p.M g
  no : ∀ id g, used id = true → p.at_ id = some (some g) → ¬ p1.M g
theorem repF_anti {p p1 : Pl} (hM : ∀ g, p1.M g → p.M g) {w : World} {v : Value} {x : AV} (h : RepF p.M w v x) : RepF p1.M w v x := RepF.anti hM h
theorem RepL.map2 {R R' : Value → AV → Prop} {vs : List Value} {xs ys : List AV} (h : RepL R vs xs) (hl : ys.length = xs.length) (hg : ∀ i (h1 : i < xs.length) (h2 : i < ys.length) v, R v xs[i] → R' v ys[i]) : RepL R' vs ys :=
  ⟨h.1.trans hl.symm, fun i a b => hg i (by omega) b _ (h.2 i a (by omega))⟩
mutual
theorem val0_rep {used : Nat → Bool} {H : List Blk} {p p1 : Pl} {w : World} (hH : RH p H w) (hL : Lends used p p1) : ∀ (d : Nat) (x y : AV) (v : Value), val0 used H d x = some y → Rep0 p w v x → RepF p1.M w v y
  | 0, x, y, v, h, _ => by simp [val0] at h
  | d + 1, x, y, v, h, hr => by
    unfold val0 at h
    split at h
    · rename_i id st len sz
      rw [cond_eq_ite] at h
      split at h
      · rename_i hu
        split at h
        · rename_i t xs hb
          rw [cond_eq_ite] at h
          split at h
          · rename_i hle
            have hle : st + len * sz ≤ xs.length := Nat.le_of_ble_eq_true hle
            split at h
            · rename_i cs hc
              cases h
              obtain ⟨q, hq⟩ := hH.live hb
              obtain ⟨a, cap, rfl, hcap, hcm, hsz, hn, ha⟩ := hr.2 q hq
              have hvl := valL_rep hH hL d ((xs.drop st).take (len * sz)) cs hc
              have hcl : cs.length = len * sz := by rw [hvl.1]; simp; omega
              rcases hH.row hb with ⟨h1, h2⟩ | ⟨g, cur, h1, h2, h3, h4⟩
              · subst h2
                have h0 : len * sz = 0 := by simp at hle; omega
                have hcs : cs = [] := List.eq_nil_of_length_eq_zero (by omega)
                subst hcs
                have ho : a = some (a.getD ⟨0, 0, none⟩) ∨ (a = none ∧ cap = 0) := by
                  cases a with
                  | none => exact Or.inr ⟨rfl, hn rfl⟩
                  | some a => exact Or.inl rfl
                exact .slv a _ len cap sz [] (fun _ => undef) ho (by simpa using h0.symm) hcap hcm hsz (fun i hi => absurd hi (by simp)) (fun i hi => absurd hi (by simp))
              · by_cases hc0 : cap = 0
                · have h0 : len = 0 := by omega
                  subst h0
                  have hcs : cs = [] := List.eq_nil_of_length_eq_zero (by omega)
                  subst hcs
                  have ho : a = some (a.getD ⟨0, 0, none⟩) ∨ (a = none ∧ cap = 0) := by
                    cases a with
                    | none => exact Or.inr ⟨rfl, hn rfl⟩
                    | some a => exact Or.inl rfl
                  exact .slv a _ 0 cap sz [] (fun _ => undef) ho (by simp) hcap hcm hsz (fun i hi => absurd hi (by simp)) (fun i hi => absurd hi (by simp))
                · rcases ha with ha | ⟨g', hg', rfl, hrs⟩
                  · exact absurd ha hc0
                  · rw [hq] at h1; cases h1; cases hg'
                    have hgl : g < w.heap.size := (Array.getElem?_eq_some_iff.1 h2).1
                    refine .slv _ ⟨g, st, none⟩ len cap sz cs (fun i => (cur[st + i]?).getD undef) (Or.inl rfl) hcl hcap hcm hsz (fun i hi => ?_) (fun i hi => ?_)
                    · obtain ⟨u, hu1, hu2⟩ := h4 (st + i) (by omega)
                      refine ⟨rfl, hgl, hL.no id g hu hq, ?_, ?_⟩
                      · rw [cell_of_row w g _ cur t (0, 0) h2, hu1]; rfl
                      · rw [hu1]; exact hu2.1
                    · obtain ⟨u, hu1, hu2⟩ := h4 (st + i) (by omega)
                      rw [hu1]
                      rw [getD_get _ _ hi]
                      refine hvl.2 i (by rw [← hvl.1]; exact hi) hi u ?_
                      simp only [List.getElem_take, List.getElem_drop]
                      exact hu2.2
            · cases h
          · cases h
        · cases h
      · cases h
    · rename_i id o
      rw [cond_eq_ite] at h
      split at h
      · rename_i hu
        split at h
        · rename_i t xs hb
          split at h
          · rename_i cs hc
            cases h
            obtain ⟨q, hq⟩ := hH.live hb
            obtain ⟨g, rfl, rfl⟩ := hr.2 q hq
            have hvl := valL_rep hH hL d (xs.drop o) cs hc
            rcases hH.row hb with ⟨h1, h2⟩ | ⟨g', cur, h1, h2, h3, h4⟩
            · rw [hq] at h1; cases h1
            · rw [hq] at h1; cases h1
              have hgl : g < w.heap.size := (Array.getElem?_eq_some_iff.1 h2).1
              have hcl : cs.length = xs.length - o := by rw [hvl.1]; simp
              refine .fptr ⟨g, o, none⟩ cs (fun i => (cur[o + i]?).getD undef) (fun i hi => ?_) (fun i hi => ?_)
              · obtain ⟨u, hu1, hu2⟩ := h4 (o + i) (by omega)
                refine ⟨rfl, hgl, hL.no id g hu hq, ?_, ?_⟩
                · rw [cell_of_row w g _ cur t (0, 0) h2, hu1]; rfl
                · rw [hu1]; exact hu2.1
              · obtain ⟨u, hu1, hu2⟩ := h4 (o + i) (by omega)
                rw [hu1]
                rw [getD_get _ _ hi]
                refine hvl.2 i (by rw [← hvl.1]; exact hi) hi u ?_
                simp only [List.getElem_drop]
                exact hu2.2
          · cases h
        · cases h
      · cases h
    all_goals first
      | (cases h; done)
      | skip
    · rename_i f a b
      rw [cond_eq_ite] at h
      split at h
      · rename_i he
        simp only [Bool.and_eq_true, List.isEmpty_iff] at he
        obtain ⟨rfl, rfl⟩ := he
        cases h
        exact repF_anti hL.M hr
      · cases h
    · rename_i n1 n2 n3 nc n4 n5 n6 n7 n8 n9
      cases h
      cases x <;> first | exact repF_anti hL.M hr | exact (n1 _ _ _ _ rfl).elim | exact (n2 _ _ rfl).elim | exact (n3 rfl).elim | exact (nc _ _ _ _ _ rfl).elim | exact (n4 _ rfl).elim | exact (n5 _ rfl).elim | exact (n6 _ rfl).elim | exact (n7 _ rfl).elim | exact (n8 _ _ rfl).elim | exact (n9 _ _ _ rfl).elim
theorem valL_rep {used : Nat → Bool} {H : List Blk} {p p1 : Pl} {w : World} (hH : RH p H w) (hL : Lends used p p1) : ∀ (d : Nat) (xs ys : List AV), valL used H d xs = some ys → ys.length = xs.length ∧ ∀ i (h1 : i < xs.length) (h2 : i < ys.length) v, Rep0 p w v xs[i] → RepF p1.M w v ys[i]
  | 0, xs, ys, h => by simp [valL] at h
  | d + 1, [], ys, h => by simp [valL] at h; subst h; exact ⟨rfl, fun i h1 => absurd h1 (by simp)⟩
  | d + 1, x :: r, ys, h => by
    unfold valL at h
    split at h
    · rename_i y l hy hl
      cases h
      obtain ⟨e1, e2⟩ := valL_rep hH hL d r l hl
      refine ⟨by simp [e1], fun i h1 h2 v hv => ?_⟩
      cases i with
      | zero => exact val0_rep hH hL d x y v hy hv
      | succ i => exact e2 i (by simpa using h1) (by simpa using h2) v (by simpa using hv)
    · cases h
end
theorem val1_rep {used : Nat → Bool} {H : List Blk} {p p1 : Pl} {w : World} (hH : RH p H w) (hL : Lends used p p1) (d : Nat) (x y : AV) (v : Value) (h : val1 used H d x = some y) (hr : Rep p w v x) : Rep p1 w v y := by
  unfold val1 at h
  split at h
  · rename_i cs
    split at h
    · rename_i l hl
      cases h
      obtain ⟨vs, rfl, h2⟩ := hr
      obtain ⟨e1, e2⟩ := valL_rep hH hL d cs l hl
      exact ⟨vs, rfl, h2.map2 e1 fun i a b u hu => ⟨hu.1, (e2 i a b u hu.2).rep0⟩⟩
    · cases h
  · rename_i f a b
    split at h
    · rename_i l m h1 h2
      cases h
      obtain ⟨vs, us, rfl, r1, r2⟩ := hr
      obtain ⟨e1, e2⟩ := valL_rep hH hL d a l h1
      obtain ⟨e3, e4⟩ := valL_rep hH hL d b m h2
      exact ⟨vs, us, rfl, r1.map2 e1 fun i a b u hu => (e2 i a b u hu).rep0, r2.map2 e3 fun i a b u hu => (e4 i a b u hu).rep0⟩
    · cases h
  · rename_i x0 h1 h2
    refine (val0_rep hH hL d x y v h ?_).rep
    cases d with
    | zero => simp [val0] at h
    | succ d => cases x <;> first | exact hr | (simp [val0] at h; done) | exact absurd rfl (h1 _) | exact absurd rfl (h2 _ _ _)
theorem valA_rep {used : Nat → Bool} {H : List Blk} {p p1 : Pl} {w : World} (hH : RH p H w) (hL : Lends used p p1) (d : Nat) : ∀ {xs ys : List AV} {vs : List Value}, valA used H d xs = some ys → RepL (Rep p w) vs xs → RepL (Rep p1 w) vs ys
  | [], ys, [], h, hr => by simp [valA] at h; subst h; exact RepL.nil
  | x :: r, ys, v :: vs, h, hr => by
    unfold valA at h
    split at h
    · rename_i y l hy hl
      cases h
      have h0 := hr.2 0 (by simp) (by simp)
      exact RepL.cons (val1_rep hH hL d x y v hy h0) (valA_rep hH hL d hl ⟨by simpa using hr.1, fun i a b => by have := hr.2 (i + 1) (by simpa using a) (by simpa using b); simpa using this⟩)
    · cases h
  | [], _, _ :: _, _, hr => absurd hr.1 (by simp)
  | _ :: _, _, [], _, hr => absurd hr.1 (by simp)
/-! ### lending: the result bears no value that lies in lent memory -/
def nov0 : AV → Bool
  | .bool _ | .int _ _ | .str _ | .nilptr | .nilsl | .nilmap | .nilfn | .sl _ _ _ _ | .ptr _ _ | .map _ | .iter _ | .junk => true
  | .fn _ a b => a.isEmpty && b.isEmpty
  | _ => false
def nov1 : AV → Bool
  | .agg cs => cs.all nov0
  | x => nov0 x
def novR : AV → Bool
  | .tuple vs => vs.all nov1
  | x => nov1 x
def novB : Blk → Bool
  | .row _ xs => xs.all nov0
  | .map kv => kv.all fun q => nov1 q.1 && nov1 q.2
  | _ => true
theorem nov0_rep {p p' : Pl} {w : World} {v : Value} {x : AV} (hn : nov0 x = true) (hp : ∀ id, p'.at_ id = p.at_ id) (hpn : p'.n = p.n) (h : Rep0 p w v x) : Rep0 p' w v x := by
  cases x <;> first | trivial | (simp [nov0] at hn; done) | skip
  case sl => exact ⟨by rw [hpn]; exact h.1, fun q hq => h.2 q (by rw [← hp]; exact hq)⟩
  case ptr => exact ⟨by rw [hpn]; exact h.1, fun q hq => h.2 q (by rw [← hp]; exact hq)⟩
  case map => exact ⟨by rw [hpn]; exact h.1, fun q hq => h.2 q (by rw [← hp]; exact hq)⟩
  case iter => exact ⟨by rw [hpn]; exact h.1, fun q hq => h.2 q (by rw [← hp]; exact hq)⟩
  all_goals (cases h; constructor)
theorem nov1_rep {p p' : Pl} {w : World} {v : Value} {x : AV} (hn : nov1 x = true) (hp : ∀ id, p'.at_ id = p.at_ id) (hpn : p'.n = p.n) (h : Rep1 p w v x) : Rep1 p' w v x := by
  cases x
  case agg cs =>
    obtain ⟨vs, h1, h2⟩ := h
    simp only [nov1, List.all_eq_true] at hn
    exact ⟨vs, h1, h2.1, fun i a b => ⟨(h2.2 i a b).1, nov0_rep (hn _ (List.getElem_mem b)) hp hpn (h2.2 i a b).2⟩⟩
  case fn f a b =>
    simp only [nov1, nov0, Bool.and_eq_true, List.isEmpty_iff] at hn
    obtain ⟨rfl, rfl⟩ := hn
    obtain ⟨vs, us, h1, h2, h3⟩ := h
    exact ⟨vs, us, h1, ⟨h2.1, fun i a b => absurd b (by simp)⟩, ⟨h3.1, fun i a b => absurd b (by simp)⟩⟩
  case tuple => exact (rep1_tuple h).elim
  case cnd => exact (rep1_cnd h).elim
  all_goals (simp only [nov1] at hn; simp only [Rep1] at h ⊢; exact nov0_rep hn hp hpn h)
theorem novR_rep {p p' : Pl} {w : World} {v : Value} {x : AV} (hn : novR x = true) (hp : ∀ id, p'.at_ id = p.at_ id) (hpn : p'.n = p.n) (h : Rep p w v x) : Rep p' w v x := by
  cases x
  case tuple ts =>
    obtain ⟨vs, h1, h2⟩ := h
    simp only [novR, List.all_eq_true] at hn
    exact ⟨vs, h1, h2.1, fun i a b => nov1_rep (hn _ (List.getElem_mem b)) hp hpn (h2.2 i a b)⟩
  case cnd => simp [novR, nov1, nov0] at hn
  all_goals (simp only [novR] at hn; exact (nov1_rep (p := p) (p' := p') hn hp hpn h).repT.rep)
theorem novB_ok {p p' : Pl} {w : World} {id : Nat} {b : Blk} (hn : novB b = true) (hp : ∀ id, p'.at_ id = p.at_ id) (hpn : p'.n = p.n) (h : BlkIs p w id b) : BlkIs p' w id b := by
  cases b with
  | dead => exact (hp id).trans h
  | row t xs =>
    simp only [novB, List.all_eq_true] at hn
    rcases h with ⟨h1, h2⟩ | ⟨g, cur, h1, h2, h3, h4⟩
    · exact Or.inl ⟨(hp id).trans h1, h2⟩
    · exact Or.inr ⟨g, cur, (hp id).trans h1, h2, h3, fun i hi => let ⟨v, a, b⟩ := h4 i hi; ⟨v, a, b.1, nov0_rep (hn _ (List.getElem_mem hi)) hp hpn b.2⟩⟩
  | map kv =>
    simp only [novB, List.all_eq_true, Bool.and_eq_true] at hn
    obtain ⟨g, es, cl, h1, h2, h3, h4⟩ := h
    exact ⟨g, es, cl, (hp id).trans h1, h2, h3, fun i hi hi' => ⟨nov1_rep (hn _ (List.getElem_mem hi)).1 hp hpn (h4 i hi hi').1, nov1_rep (hn _ (List.getElem_mem hi)).2 hp hpn (h4 i hi hi').2⟩⟩
  | iter s pos => obtain ⟨g, h1, h2⟩ := h; exact ⟨g, (hp id).trans h1, h2⟩
/-- how the arguments read where the own blocks are lent -/
def Reads (H : List Blk) (args as' : List AV) : Prop := ∀ (p p1 : Pl) (w : World) (vs : List Value), RH p H w → Lends (fun _ => true) p p1 → RepL (Rep p w) vs args → RepL (Rep p1 w) vs as'
/-- a call to which own blocks are lent -/
theorem CallsV.lendR {P : Program} {f : FuncId} {args as' : List AV} {av : AV} {H1 : List Blk} (h : CallsV P f as' [] fun a b => a = av ∧ b = H1) (hn : (novR av && H1.all novB) = true) {p : Pl} {H : List Blk} {w : World} {vals : Array Value} (hH : RH p H w)
    (ha : RepL (Rep ⟨0, fun _ => none, p.x⟩ w) vals.toList as') :
    Calls P f vals w fun e w' => ∃ v p', e = .returned v ∧ RH p' (H ++ H1.map (shiftB H.length)) w' ∧ Rep p' w' v (ren (shf H.length) av) ∧ Step p w p' w' ∧ Below w.heap.size w w' := by
  simp only [Bool.and_eq_true] at hn
  let p0 : Pl := ⟨0, fun _ => none, p.x⟩
  have hown0 : ∀ g, ¬ p0.own g := fun g ⟨id, hid⟩ => by cases hid
  have hH0 : RH p0 [] w := ⟨rfl, fun _ _ => rfl, fun _ _ _ h => (by cases h), fun id h => absurd h (by simp), fun g hg => ⟨(hH.xs g hg).1, hown0 g⟩⟩
  refine (h p0 w vals hH0 ha).mono ?_
  rintro e w' ⟨v, a1, b1, q, rfl, ⟨e1, e2⟩, hHq, hrep, hS⟩
  subst e1 e2
  have hB : Below w.heap.size w w' := ⟨hS.os, hS.tape, hS.output, hS.size, fun g hg => hS.froz g hg (hown0 g)⟩
  -- the same places, seen from where all of p's blocks may be written
  let q2 : Pl := ⟨q.n, q.at_, p.M⟩
  have hqnew : ∀ g, q.own g → w.heap.size ≤ g := fun g hg => by
    rcases Nat.lt_or_ge g w.heap.size with h1 | h1
    · exact (hown0 g (hS.old g h1 hg)).elim
    · exact h1
  have hMlt : ∀ g, p.M g → g < w.heap.size := fun g hg => hg.elim (hH.lt g) fun hx => (hH.xs g hx).1
  have hHq2 : RH q2 b1 w' := ⟨hHq.n, hHq.out, hHq.inj, fun id hid => novB_ok (p := q) (p' := q2) (List.all_eq_true.1 hn.2 _ (List.getElem_mem hid)) (fun _ => rfl) rfl (hHq.blk id hid), fun g hg => ⟨Nat.lt_of_lt_of_le (hMlt g hg) hB.size, fun ho => by have := hqnew g ho; have := hMlt g hg; omega⟩⟩
  have hrep2 : Rep q2 w' v a1 := novR_rep (p := q) (p' := q2) hn.1 (fun _ => rfl) rfl hrep
  have hS2 : Step ⟨0, fun _ => none, p.M⟩ w q2 w' := ⟨hS.os, hS.tape, hS.output, hS.size, hS.n, fun id q hid => absurd hid (by simp), fun g hg ho => (by have := hqnew g ho; omega), fun g hg _ => hB.block g hg, rfl⟩
  -- as a call that has no block of the run's own
  have hpn : p.n = H.length := hH.n
  let pc : Pl := ⟨p.n + q.n, fun id => if id < p.n then p.at_ id else q.at_ (id - p.n), p.x⟩
  have key : CallsV P f as' [] (fun a b => a = a1 ∧ b = b1) := h
  have hpcown : ∀ g, pc.own g → p.own g ∨ q.own g := fun g ⟨id, hid⟩ => by
    simp only [pc] at hid
    split at hid
    · exact Or.inl ⟨id, hid⟩
    · exact Or.inr ⟨_, hid⟩
  have hdisj : ∀ g, p.own g → ¬ q.own g := fun g h1 h2 => by have := hH.lt g h1; have := hqnew g h2; omega
  have hemb : Emb (shf H.length) q2 pc := by
    refine ⟨fun id j hf hid => ?_, fun g hg => ?_⟩
    · simp only [shf, Option.some.injEq] at hf
      subst hf
      refine ⟨by simp only [pc, q2] at hid ⊢; omega, fun q0 hq0 => ?_⟩
      simp only [pc] at hq0
      rw [if_neg (by omega)] at hq0
      rw [show id + H.length - p.n = id by omega] at hq0
      exact hq0
    · rcases hg with hg | hg
      · rcases hpcown g hg with h1 | h1
        · exact Or.inr (Or.inl h1)
        · exact Or.inl h1
      · exact Or.inr (Or.inr hg)
  have hst : Step p w pc w' := by
    refine ⟨hS.os, hS.tape, hS.output, hS.size, by simp [pc], fun id q0 hid hq0 => ?_, fun g hg ho => ?_, fun g hg _ => hB.block g hg, rfl⟩
    · simp only [pc] at hq0
      rw [if_pos hid] at hq0
      refine ⟨hq0, fun g hg => ?_⟩
      subst hg
      unfold rowSize
      rw [hB.block g (hH.lt g ⟨id, hq0⟩)]
    · rcases hpcown g ho with h1 | h1
      · exact h1
      · have := hqnew g h1; omega
  refine ⟨v, pc, rfl, ⟨?_, fun id hid => ?_, fun i j g hi hj => ?_, fun id hid => ?_, fun g hg => ⟨Nat.lt_of_lt_of_le (hH.xs g hg).1 hB.size, fun ho => ?_⟩⟩, hrep2.ren hemb, hst, hB⟩
  · simp [pc, hpn, hHq.n]
  · simp only [pc] at hid ⊢
    rw [if_neg (by omega)]
    exact hHq.out _ (by omega)
  · simp only [pc] at hi hj
    split at hi <;> split at hj
    · exact hH.inj _ _ _ hi hj
    · exact (hdisj g ⟨i, hi⟩ ⟨_, hj⟩).elim
    · exact (hdisj g ⟨j, hj⟩ ⟨_, hi⟩).elim
    · have := hHq.inj _ _ _ hi hj; omega
  · by_cases hlt' : id < H.length
    · rw [List.getElem_append_left hlt']
      refine (hH.blk id hlt').step hst ?_ fun g hg => hB.block g (hH.lt g ⟨id, hg⟩)
      simp only [pc]
      rw [if_pos (by omega)]
    · simp only [List.length_append, List.length_map] at hid
      rw [List.getElem_append_right (by omega), List.getElem_map]
      refine BlkIs.ren (id := id - H.length) hemb ?_ (hHq2.blk _ (by omega)) (shiftB_ren _ _)
      simp only [pc, q2]
      rw [if_neg (by omega), hpn]
  · rcases hpcown g ho with h1 | h1
    · exact (hH.xs g hg).2 h1
    · have h3 := hqnew g h1; have h4 := (hH.xs g hg).1; omega

theorem lends0 {p : Pl} {H : List Blk} {w : World} (hH : RH p H w) (used : Nat → Bool) : Lends used p ⟨0, fun _ => none, p.x⟩ :=
  ⟨fun g hg => hg.elim (fun ⟨id, hid⟩ => by cases hid) Or.inr, fun id g _ hid hm => hm.elim (fun ⟨id, hid⟩ => by cases hid) fun hx => (hH.xs g hx).2 ⟨id, hid⟩⟩
theorem CallsV.lend {P : Program} {used : Nat → Bool} {f : FuncId} {args as' : List AV} {av : AV} {H1 : List Blk} {d : Nat} (h : CallsV P f as' [] fun a b => a = av ∧ b = H1) (hn : (novR av && H1.all novB) = true) {p : Pl} {H : List Blk} {w : World} {vals : Array Value} (hH : RH p H w) (hv : RepL (Rep p w) vals.toList args)
    (ha : valA used H d args = some as') :
    Calls P f vals w fun e w' => ∃ v p', e = .returned v ∧ RH p' (H ++ H1.map (shiftB H.length)) w' ∧ Rep p' w' v (ren (shf H.length) av) ∧ Step p w p' w' ∧ Below w.heap.size w w' :=
  CallsV.lendR (args := args) h hn hH (valA_rep hH (lends0 hH used) d ha hv)
/-- a row of plain cells, lent -/
theorem reads_sl {H : List Blk} {id st len sz : Nat} {t : TypeId} {xs : List AV} (hb : H[id]? = some (.row t xs)) (hn : ∀ x ∈ xs, noid0 x = true ∧ x ≠ .junk) (hl : st + len * sz ≤ xs.length) {p p1 : Pl} {w : World} {v : Value} (hH : RH p H w) (hL : Lends (fun _ => true) p p1) (h : Rep p w v (.sl id st len sz)) :
    Rep p1 w v (.slv len sz ((xs.drop st).take (len * sz))) := by
  obtain ⟨q, hq⟩ := hH.live hb
  obtain ⟨a, cap, rfl, hcap, hcm, hsz, hno, ha⟩ := h.2 q hq
  have hcl : ((xs.drop st).take (len * sz)).length = len * sz := by simp; omega
  refine RepF.rep ?_
  by_cases hc0 : cap = 0
  · have h0 : len = 0 := by omega
    subst h0
    have ho : a = some (a.getD ⟨0, 0, none⟩) ∨ (a = none ∧ cap = 0) := by
      cases a with
      | none => exact Or.inr ⟨rfl, hno rfl⟩
      | some a => exact Or.inl rfl
    exact .slv a _ 0 cap sz _ (fun _ => undef) ho hcl hcap hcm hsz (fun i hi => absurd hi (by simp)) (fun i hi => absurd hi (by simp))
  · rcases ha with ha | ⟨g', hg', rfl, hrs⟩
    · exact absurd ha hc0
    · rcases hH.row hb with ⟨h1, h2⟩ | ⟨g, cur, h1, h2, h3, h4⟩
      · rw [hq] at h1; cases h1; cases hg'
      · rw [hq] at h1; cases h1; cases hg'
        have hgl : g' < w.heap.size := (Array.getElem?_eq_some_iff.1 h2).1
        refine .slv _ ⟨g', st, none⟩ len cap sz _ (fun i => (cur[st + i]?).getD undef) (Or.inl rfl) hcl hcap hcm hsz (fun i hi => ?_) (fun i hi => ?_)
        · obtain ⟨u, hu1, hu2⟩ := h4 (st + i) (by omega)
          refine ⟨rfl, hgl, hL.no id g' rfl hq, ?_, ?_⟩
          · rw [cell_of_row w g' _ cur t (0, 0) h2, hu1]; rfl
          · rw [hu1]; exact hu2.1
        · obtain ⟨u, hu1, hu2⟩ := h4 (st + i) (by omega)
          rw [hu1, getD_get _ _ hi]
          simp only [List.getElem_take, List.getElem_drop]
          obtain ⟨k1, k2⟩ := hn _ (List.getElem_mem (show st + i < xs.length by omega))
          exact repF_anti hL.M (RepC.toF hu2.2 k1 k2)
/-! ### handing over for good -/
def killAll (H : List Blk) : List Nat → List Blk
  | [] => H
  | i :: r => killAll (H.set i .dead) r
theorem killAll_ok {w : World} : ∀ (ids : List Nat) {p : Pl} {H : List Blk}, RH p H w → ∃ p1, RH p1 (killAll H ids) w ∧ Step p w p1 w ∧ (∀ id ∈ ids, p1.at_ id = none) ∧ p1.x = p.x ∧ ∀ id q, p1.at_ id = some q → p.at_ id = some q
  | [], p, H, hH => ⟨p, hH, Step.refl _ _, fun id h => absurd h (by simp), rfl, fun _ _ h => h⟩
  | i :: r, p, H, hH => by
    obtain ⟨h1, h2⟩ := frz_step hH i
    obtain ⟨p1, a1, a2, a3, a4, a5⟩ := killAll_ok r h1
    have hsub : ∀ id q, p1.at_ id = some q → id ≠ i ∧ p.at_ id = some q := fun id q hq => by
      have := a5 id q hq
      simp only at this
      split at this
      · cases this
      · rename_i hne; exact ⟨hne, this⟩
    refine ⟨p1, a1, h2.trans a2, fun id hid => ?_, a4, fun id q hq => (hsub id q hq).2⟩
    cases hc : p1.at_ id with
    | none => rfl
    | some q =>
      rcases List.mem_cons.1 hid with rfl | hid
      · exact absurd rfl (hsub _ _ hc).1
      · rw [a3 id hid] at hc; cases hc
theorem CallsV.handover {P : Program} {f : FuncId} {args as' : List AV} {av : AV} {H1 : List Blk} {d : Nat} {ids : List Nat} (h : CallsV P f as' [] fun a b => a = av ∧ b = H1) (hn : as'.all noid1 = true) {p : Pl} {H : List Blk} {w : World} {vals : Array Value} (hH : RH p H w) (hv : RepL (Rep p w) vals.toList args)
    (ha : valA (fun i => ids.contains i) H d args = some as') :
    Calls P f vals w fun e w' => ∃ v p', e = .returned v ∧ RH p' (killAll H ids ++ H1.map (shiftB (killAll H ids).length)) w' ∧ Rep p' w' v (ren (shf (killAll H ids).length) av) ∧ Step p w p' w' ∧ Below w.heap.size w w' := by
  obtain ⟨p1, h1, h2, h3, h4, h5⟩ := killAll_ok ids hH
  have hown : ∀ g, p1.own g → p.own g := fun g ⟨id, hid⟩ => ⟨id, h5 _ _ hid⟩
  have hL : Lends (fun i => ids.contains i) p p1 := ⟨fun g hg => hg.elim (fun h => Or.inl (hown g h)) fun hx => Or.inr (h4 ▸ hx), fun id g hu hid hm => by
    rcases hm with ⟨j, hj⟩ | hx
    · have hj' := h5 _ _ hj
      have he := hH.inj _ _ _ hj' hid
      subst he
      rw [h3 j (by simpa using hu)] at hj; cases hj
    · exact (hH.xs g (h4 ▸ hx)).2 ⟨id, hid⟩⟩
  refine (h.frame (fun a ha => List.all_eq_true.1 hn a ha) h1 (valA_rep hH hL d ha hv)).mono ?_
  rintro e w' ⟨v, a1, b1, p', rfl, ⟨e1, e2⟩, k1, k2, k3, k4⟩
  subst e1 e2
  exact ⟨v, p', rfl, k1, k2, h2.trans k3, k4⟩
section
variable {P : Program} {s : St} {o : Oper} {R : AV → List Blk → Prop}
theorem op_callw {f : FuncId} {l : List AV} (hop : ∀ (p : Pl) (w : World) (a : Act), Rst p s a w → ∃ vals : Array Value, RepL (Rep p w) vals.toList l ∧ (execOp a.eval o).run P w = .ok (.enter f vals) w)
    (h : ∀ (p : Pl) (w : World) (vals : Array Value), RH p s.H w → RepL (Rep p w) vals.toList l → Calls P f vals w fun e w' => ∃ v av H' p', e = .returned v ∧ R av H' ∧ RH p' H' w' ∧ Rep p' w' v av ∧ Step p w p' w' ∧ Below w.heap.size w w') : OpB P o s R := fun p w a K Q hR hK => by
  obtain ⟨vals, hv, hrun⟩ := hop p w a hR
  unfold Oper.wp
  rw [hrun, Oper.upon_enter]
  refine (h p w vals hR.heap hv).mono ?_
  rintro e w' ⟨v, av, H', p', rfl, h1, h2, h3, h4, h5⟩
  exact hK v av H' p' w' h1 h2 h3 h4 h5
/-- a slice of an array behind an address -/
theorem op_arrSlice {t arr e : TypeId} {n : Nat} {x : Operand} {lo hi : Option Operand} {id off : Nat} {t' : TypeId} {xs : List AV} {l h' : Int} (ho : o.op = .slice t x lo hi none) (ht : P.underlying t = some (.pointer arr)) (ha : P.underlying arr = some (.array n e)) (hk : knownT P e = true)
    (hx : s.ev x = .ptr id off) (hb : s.H[id]? = some (.row t' xs)) (hsz : 0 < sizeT P e) (hl : loE (lo.map s.ev) = some l) (hh : hiE n (hi.map s.ev) = some h') (hbd : 0 ≤ l ∧ l ≤ h' ∧ h' ≤ n) (hfit : off + n * sizeT P e ≤ xs.length) (hn : n ≤ maxLen)
    (h : R (.sl id (off + l.toNat * sizeT P e) (h'.toNat - l.toNat) (sizeT P e)) s.H) : OpB P o s R := opB_of fun p w a hR => by
  have hv := hR.ev x
  rw [hx] at hv
  rcases hR.heap.row hb with ⟨h1, h2⟩ | ⟨g, cur, h1, h2, h3, h4⟩
  · obtain ⟨g, hg, _⟩ := hv.2 _ h1; cases hg
  · obtain ⟨g', hg', hve⟩ := hv.2 _ h1
    cases hg'
    have e1 : RepO p w (lo.map a.eval) (lo.map s.ev) := by cases lo <;> first | trivial | exact hR.ev _
    have e2 : RepO p w (hi.map a.eval) (hi.map s.ev) := by cases hi <;> first | trivial | exact hR.ev _
    have hbs := run_bounds (P := P) e1 e2 (isSl := false) hl hh hbd (Nat.le_refl n) w
    refine ⟨.slice (some (if n = l.toNat then ⟨g, off, none⟩ else (⟨g, off, none⟩ : Addr).add (l.toNat * sizeT P e))) (h'.toNat - l.toNat) (n - l.toNat), _, _, p, w, ?_, h, hR.heap, ?_, Step.refl _ _, Below.refl _ _⟩
    · unfold execOp
      rw [ho]
      simp only [Instr.sliceAt, Instr.sureAddr, hve, Sem.run_bind, Sem.run_pure, Result.andThen_ok, Instr.slice, run_underlying ht, run_underlying ha, asAddr, hbs, run_sizeT hk, Option.map_none]
    · have hlt : id < p.n := hv.1
      refine ⟨hlt, fun q hq => ?_⟩
      rw [h1] at hq
      cases hq
      refine ⟨_, _, rfl, by omega, by omega, hsz, (fun h => by cases h), ?_⟩
      by_cases hnl : n = l.toNat
      · left; omega
      · right
        refine ⟨g, rfl, ?_, ?_⟩
        · rw [if_neg hnl, add_none _ rfl]
        · unfold rowSize
          rw [h2]
          have : (n - l.toNat) * sizeT P e + l.toNat * sizeT P e = n * sizeT P e := by rw [← Nat.add_mul]; congr 1; omega
          show _ ≤ cur.size
          omega
/-- the address of the array in a slice -/
theorem op_arrAt {arr e : TypeId} {n : Nat} {x : Operand} {id st len sz : Nat} {t' : TypeId} {xs : List AV} (ho : o.op = .sliceToArrayPointer arr x) (ha : P.underlying arr = some (.array n e)) (hx : s.ev x = .sl id st len sz) (hb : s.H[id]? = some (.row t' xs)) (hn : 0 < n) (hl : n ≤ len)
    (h : R (.ptr id st) s.H) : OpB P o s R := opB_of fun p w a hR => by
  have hv := hR.ev x
  rw [hx] at hv
  obtain ⟨q, hq⟩ := hR.heap.live hb
  obtain ⟨ad, cap, hve, hcap, hcm, hsz, hno, hc⟩ := hv.2 q hq
  rcases hc with hc | ⟨g, rfl, rfl, _⟩
  · omega
  · refine ⟨.pointer (some ⟨g, st, none⟩), _, _, p, w, ?_, h, hR.heap, ⟨hv.1, fun q' hq' => ?_⟩, Step.refl _ _, Below.refl _ _⟩
    · unfold execOp
      rw [ho]
      have : ¬ len < n := by omega
      simp [Instr.arrayAt, run_underlying ha, hve, this]
    · rw [hq] at hq'; cases hq'; exact ⟨g, rfl, rfl⟩
theorem op_arrAtV {arr e : TypeId} {n : Nat} {x : Operand} {len sz : Nat} {cs : List AV} (ho : o.op = .sliceToArrayPointer arr x) (ha : P.underlying arr = some (.array n e)) (hx : s.ev x = .slv len sz cs) (hn : 0 < n) (hl : n ≤ len)
    (h : R (.fptr cs) s.H) : OpB P o s R := opB_of fun p w a hR => by
  have hv := hR.ev x
  rw [hx] at hv
  generalize hq : a.eval x = v at hv
  simp only [Rep, RepT, Rep1, Rep0] at hv
  cases hv with
  | slv oa ad _ cap _ _ vs hoa hlen hcap hcm hsz hc hr =>
    have : oa = some ad := by
      rcases hoa with h1 | ⟨_, h1⟩
      · exact h1
      · omega
    subst this
    refine ⟨.pointer (some ad), _, _, p, w, ?_, h, hR.heap, RepF.rep (.fptr ad cs vs hc hr), Step.refl _ _, Below.refl _ _⟩
    unfold execOp
    rw [ho]
    have : ¬ len < n := by omega
    simp [Instr.arrayAt, run_underlying ha, hq, this]
end
end Go.Proofs.Ytcmbhebgpboepaa.V
