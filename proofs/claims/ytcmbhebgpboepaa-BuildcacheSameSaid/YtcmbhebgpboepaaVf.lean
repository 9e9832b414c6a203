/-
  The logic of values: operations that make or change memory of the run's own: new blocks, stores, append. Over any program.
-/
import Derived.Test.YtcmbhebgpboepaaVe
import Derived.Laws.CopyRow
import Derived.Great.BuildSlice
namespace Go.Proofs.Ytcmbhebgpboepaa.V
open Go Go.RowKit
set_option linter.unusedSimpArgs false
set_option linter.unusedVariables false

def Pl.mv (p : Pl) (k : Option Nat) (q : Option Nat) : Pl := ⟨p.n + 1, fun id => if id = p.n then some q else if some id = k then none else p.at_ id, p.x⟩
def killB (H : List Blk) (k : Option Nat) : List Blk := match k with | some id => H.set id .dead | none => H
theorem killB_length (H : List Blk) (k : Option Nat) : (killB H k).length = H.length := by cases k <;> simp [killB]
theorem killB_get (H : List Blk) (k : Option Nat) (id : Nat) (h : id < (killB H k).length) : (killB H k)[id] = if some id = k then .dead else H[id]'(by rw [killB_length] at h; exact h) := by
  cases k with
  | none => simp [killB]
  | some j =>
    simp only [killB, List.getElem_set, Option.some.injEq]
    by_cases hj : j = id
    · simp [hj]
    · rw [if_neg hj, if_neg (fun h => hj h.symm)]

theorem mv_ok {p : Pl} {H : List Blk} {w w' : World} (hH : RH p H w) (k : Option Nat) (q : Option Nat) (t : TypeId) (xs : List AV)
    (hos : w'.os = w.os) (htape : w'.tape = w.tape) (hout : w'.output = w.output) (hsize : w.heap.size ≤ w'.heap.size)
    (hfroz : ∀ g, g < w.heap.size → (∀ id, k = some id → p.at_ id ≠ some (some g)) → w'.heap[g]? = w.heap[g]?)
    (hq : ∀ g, q = some g → w.heap.size ≤ g ∨ ∃ id, k = some id ∧ p.at_ id = some (some g))
    (hrow : (q = none ∧ xs = []) ∨ ∃ g cur, q = some g ∧ w'.heap[g]? = some (.cells cur t (0, 0)) ∧ xs.length ≤ cur.size ∧ ∀ (i : Nat) (h : i < xs.length), ∃ v, cur[i]? = some v ∧ RepC p w v xs[i]) :
    RH (p.mv k q) (killB H k ++ [.row t xs]) w' ∧ Step p w (p.mv k q) w' := by
  have hat : ∀ id q0, (p.mv k q).at_ id = some q0 → (id = p.n ∧ q0 = q) ∨ (id < p.n ∧ some id ≠ k ∧ p.at_ id = some q0) := by
    intro id q0 h
    simp only [Pl.mv] at h
    split at h
    · rename_i he; exact Or.inl ⟨he, by cases h; rfl⟩
    · split at h
      · cases h
      · rename_i h1 h2
        refine Or.inr ⟨?_, h2, h⟩
        rcases Nat.lt_or_ge id p.n with h3 | h3
        · exact h3
        · rw [hH.out id h3] at h; cases h
  have hs : Step p w (p.mv k q) w' := by
    refine ⟨hos, htape, hout, hsize, Nat.le_succ _, fun id q0 hid h => ?_, fun g hg hm => ?_, fun g hg hm => ?_, rfl⟩
    · rcases hat id q0 h with ⟨h1, _⟩ | ⟨_, h2, h3⟩
      · omega
      · refine ⟨h3, fun g hg => ?_⟩
        subst hg
        unfold rowSize
        rw [hfroz g (hH.lt g ⟨id, h3⟩) (fun j hj hja => h2 (by rw [hj, hH.inj _ _ _ h3 hja]))]
    · obtain ⟨id, hid⟩ := hm
      rcases hat id _ hid with ⟨_, h2⟩ | ⟨_, _, h3⟩
      · rcases hq g h2.symm with h4 | ⟨j, _, hj⟩
        · omega
        · exact ⟨j, hj⟩
      · exact ⟨id, h3⟩
    · exact hfroz g hg fun id _ h => hm ⟨id, h⟩
  refine ⟨⟨?_, fun id hid => ?_, fun i j g hi hj => ?_, fun id hid => ?_, fun g hg => ⟨Nat.lt_of_lt_of_le (hH.xs g hg).1 hsize, fun ho => (hH.xs g hg).2 (hs.old g (hH.xs g hg).1 ho)⟩⟩, hs⟩
  · simp [Pl.mv, killB_length, hH.n]
  · simp only [Pl.mv] at hid ⊢
    rw [if_neg (by omega)]
    split
    · rfl
    · exact hH.out id (by omega)
  · have new : ∀ i, i < p.n → some i ≠ k → p.at_ i = some (some g) → q = some g → False := fun i _ h2 h3 h4 => by
      rcases hq g h4 with h5 | ⟨l, h6, h7⟩
      · have := hH.lt g ⟨i, h3⟩; omega
      · exact h2 (by rw [h6, hH.inj _ _ _ h3 h7])
    rcases hat i _ hi with ⟨h1, h2⟩ | ⟨h1, h2, h3⟩ <;> rcases hat j _ hj with ⟨h4, h5⟩ | ⟨h4, h5, h6⟩
    · omega
    · exact (new j h4 h5 h6 h2.symm).elim
    · exact (new i h1 h2 h3 h5.symm).elim
    · exact hH.inj _ _ _ h3 h6
  · simp only [List.length_append, killB_length, List.length_singleton] at hid
    by_cases hlt : id < H.length
    · rw [List.getElem_append_left (by rw [killB_length]; exact hlt), killB_get]
      have hne : id ≠ p.n := by rw [hH.n]; omega
      split
      · rename_i he
        show (p.mv k q).at_ id = none
        simp [Pl.mv, hne, he]
      · rename_i he
        have hb := hH.blk id hlt
        have ha : (p.mv k q).at_ id = p.at_ id := by simp [Pl.mv, hne, he]
        exact hb.step hs ha fun g hg => hfroz g (hH.lt g ⟨id, hg⟩) fun j hj hja => he (by rw [hj, hH.inj _ _ _ hg hja])
    · have he : id = H.length := by omega
      subst he
      rw [List.getElem_append_right (by rw [killB_length]; exact Nat.le_refl _)]
      simp only [killB_length, Nat.sub_self, List.getElem_singleton]
      have ha : (p.mv k q).at_ H.length = some q := by simp [Pl.mv, hH.n]
      rcases hrow with ⟨h1, h2⟩ | ⟨g, cur, h1, h2, h3, h4⟩
      · exact Or.inl ⟨by rw [ha, h1], h2⟩
      · exact Or.inr ⟨g, cur, by rw [ha, h1], h2, h3, fun i hi => let ⟨v, a, b⟩ := h4 i hi; ⟨v, a, b.step hs⟩⟩
theorem repl_get {R : Value → AV → Prop} {cur : Array Value} {xs : List AV} (h : RepL R cur.toList xs) : xs.length ≤ cur.size ∧ ∀ (i : Nat) (hi : i < xs.length), ∃ v, cur[i]? = some v ∧ R v xs[i] := by
  have hl : cur.size = xs.length := by simpa using h.1
  refine ⟨by omega, fun i hi => ⟨cur[i]'(by omega), by simp, ?_⟩⟩
  have := h.2 i (by simpa using (show i < cur.size by omega)) hi
  simpa using this
/-- a new block -/
theorem alloc_ok {p : Pl} {H : List Blk} {w : World} (hH : RH p H w) (cur : Array Value) (t : TypeId) (xs : List AV) (hx : RepL (RepC p w) cur.toList xs) :
    RH (p.mv none (some w.heap.size)) (H ++ [.row t xs]) (w.alloc (.cells cur t)) ∧ Step p w (p.mv none (some w.heap.size)) (w.alloc (.cells cur t)) ∧ Below w.heap.size w (w.alloc (.cells cur t)) := by
  have hb : Below w.heap.size w (w.alloc (.cells cur t)) := (Below.refl _ _).alloc (Nat.le_refl _) _
  obtain ⟨h1, h2⟩ := repl_get hx
  obtain ⟨a, b⟩ := mv_ok hH none (some w.heap.size) t xs hb.os hb.tape hb.output hb.size (fun g hg _ => hb.block g hg) (fun g hg => Or.inl (by cases hg; exact Nat.le_refl _)) (Or.inr ⟨_, cur, rfl, heap_alloc_new w _, h1, h2⟩)
  exact ⟨a, b, hb⟩
theorem ptr_new {p : Pl} {H : List Blk} {w : World} (hH : RH p H w) (g o : Nat) (k : Option Nat) (w' : World) : Rep (p.mv k (some g)) w' (.pointer (some ⟨g, o, none⟩)) (.ptr H.length o) :=
  ⟨by simp [Pl.mv, hH.n], fun q hq => by simp only [Pl.mv, hH.n, if_true, Option.some.injEq] at hq; exact ⟨g, hq.symm, rfl⟩⟩

def leafOK (H : List Blk) : AV → Bool
  | .bool _ | .int _ _ | .str _ | .nilptr | .nilsl | .nilmap | .nilfn | .fptr _ | .slv _ _ _ => true
  | .sl id _ _ _ => liveRow H id
  | .slc id _ _ _ _ => liveRow H id
  | .ptr id _ => liveRow H id
  | .map id => match H[id]? with | some (.map _) => true | _ => false
  | _ => false
theorem leaf_one {p : Pl} {H : List Blk} {w : World} {v : Value} {x : AV} (hH : RH p H w) (h : Rep p w v x) (hl : leafOK H x = true) : RepC p w v x := by
  cases x <;> simp only [leafOK] at hl <;> try cases hl
  case bool => cases rep_bool h; exact ⟨rfl, h⟩
  case int => cases rep_int h; exact ⟨rfl, h⟩
  case str => cases rep_str h; exact ⟨rfl, h⟩
  case nilptr => cases rep_nilptr h; exact ⟨rfl, h⟩
  case nilsl => cases rep_nilsl h; exact ⟨rfl, h⟩
  case nilmap => cases rep_nilmap h; exact ⟨rfl, h⟩
  case nilfn => have h' : RepF p.M w v .nilfn := h; cases h'; exact ⟨rfl, h⟩
  case fptr => obtain ⟨_, rfl, _⟩ := at_fptr h; exact ⟨rfl, h⟩
  case slv => obtain ⟨_, _, _, rfl, _⟩ := at_slv h; exact ⟨rfl, h⟩
  case sl id _ _ _ => obtain ⟨q, hq⟩ := liveRow_spec hH hl; obtain ⟨_, _, rfl, _⟩ := h.2 q hq; exact ⟨rfl, h⟩
  case slc id _ _ _ _ => obtain ⟨q, hq⟩ := liveRow_spec hH hl; obtain ⟨_, _, rfl, _⟩ := h.2 q hq; exact ⟨rfl, h⟩
  case ptr id _ => obtain ⟨q, hq⟩ := liveRow_spec hH hl; obtain ⟨_, _, rfl⟩ := h.2 q hq; exact ⟨rfl, h⟩
  case map id =>
    split at hl
    · rename_i kv hb
      obtain ⟨hlt, he⟩ := List.getElem?_eq_some_iff.1 hb
      have := hH.blk id hlt
      rw [he] at this
      obtain ⟨g, es, clock, h1, _⟩ := this
      obtain ⟨_, _, rfl⟩ := h.2 _ h1
      exact ⟨rfl, h⟩
    · cases hl
def cellsAV (H : List Blk) (x : AV) : Option (List AV) := match x with
  | .agg cs => some cs
  | x => bif leafOK H x then some [x] else none
theorem cells_rep {p : Pl} {H : List Blk} {w : World} {v : Value} {x : AV} {cs : List AV} (hH : RH p H w) (h : Rep p w v x) (hc : cellsAV H x = some cs) : RepL (RepC p w) v.cells.toList cs := by
  unfold cellsAV at hc
  split at hc
  · cases hc; obtain ⟨vs, rfl, h2⟩ := h; exact h2
  · cases hl : leafOK H x with
    | false => rw [hl] at hc; cases hc
    | true =>
      rw [hl] at hc
      cases hc
      have h1 := leaf_one hH h hl
      have hv : v.cells.toList = [v] := by
        have := h1.1
        cases v <;> first | rfl | cases this
      rw [hv]
      exact RepL.cons h1 RepL.nil

/-! ### literals of structs and arrays -/
def fillL (place : Nat → Option (Nat × Nat)) (cells : List AV) : List (Nat × List AV) → Option (List AV)
  | [] => some cells
  | (i, cs) :: r => match place i with
    | none => none
    | some (off, size) => if cs.length = size ∧ off + cs.length ≤ cells.length then fillL place (cells.take off ++ cs ++ cells.drop (off + cs.length)) r else none
theorem fold_set (off : Nat) : ∀ (l : List Value) (s : Nat) (cs : Array Value), off + s + l.length ≤ cs.size →
    ((l.zipIdx s).foldl (fun cs (x : Value × Nat) => cs.setIfInBounds (off + x.2) x.1) cs).toList = cs.toList.take (off + s) ++ l ++ cs.toList.drop (off + s + l.length)
  | [], s, cs, _ => by simp
  | v :: r, s, cs, h => by
    simp only [List.length_cons] at h
    rw [List.zipIdx_cons, List.foldl_cons, fold_set off r (s + 1) _ (by simp only [Array.size_setIfInBounds]; omega)]
    simp only [Array.toList_setIfInBounds, List.length_cons]
    have hlt : off + s < cs.toList.length := by simpa using (show off + s < cs.size by omega)
    rw [← Nat.add_assoc off s 1, List.take_set, List.drop_set_of_lt (by omega)]
    rw [List.take_succ_eq_append_getElem hlt, List.set_append]
    simp only [List.length_take, Nat.min_eq_left (Nat.le_of_lt hlt), Nat.lt_irrefl, if_false, Nat.sub_self, List.set_cons_zero]
    simp [Nat.add_assoc, Nat.add_comm 1]
theorem fill_rep {p : Pl} {w : World} {place : Nat → Option (Nat × Nat)} : ∀ (parts : List (Nat × Value)) (xs : List (Nat × List AV)) (cells : Array Value) (cs ds : List AV),
    parts.length = xs.length → (∀ (i : Nat) (h : i < parts.length) (h' : i < xs.length), parts[i].1 = xs[i].1 ∧ RepL (RepC p w) parts[i].2.cells.toList xs[i].2) → RepL (RepC p w) cells.toList cs → fillL place cs xs = some ds →
    ∃ arr, Instr.fill place cells parts = some arr ∧ RepL (RepC p w) arr.toList ds
  | [], xs, cells, cs, ds, hl, _, hc, h => by
    have : xs = [] := List.eq_nil_of_length_eq_zero (by simpa using hl.symm)
    subst this
    simp only [fillL, Option.some.injEq] at h
    subst h
    exact ⟨cells, rfl, hc⟩
  | (i, v) :: r, [], cells, cs, ds, hl, _, _, _ => by simp at hl
  | (i, v) :: r, (j, ys) :: xr, cells, cs, ds, hl, hp, hc, h => by
    obtain ⟨h1, h2⟩ := hp 0 (by simp) (by simp)
    simp only [List.getElem_cons_zero] at h1 h2
    subst h1
    unfold fillL at h
    unfold Instr.fill
    cases hpl : place i with
    | none => simp [hpl] at h
    | some os =>
      obtain ⟨off, size⟩ := os
      simp only [hpl] at h ⊢
      split at h
      · rename_i hcond
        have hvl : v.cells.size = ys.length := by have := h2.1; simpa using this
        have hcl : cells.size = cs.length := by have := hc.1; simpa using this
        rw [if_neg (by simp [hvl, hcl]; omega)]
        have hfold : (v.cells.zipIdx.foldl (fun cs (x : Value × Nat) => cs.setIfInBounds (off + x.2) x.1) cells).toList = cells.toList.take off ++ v.cells.toList ++ cells.toList.drop (off + ys.length) := by
          have := fold_set off v.cells.toList 0 cells (by simp [hvl, hcl]; omega)
          rw [← Array.foldl_toList, Array.toList_zipIdx]
          simpa [hvl] using this
        refine fill_rep r xr _ _ ds (by simpa using hl) (fun k h3 h4 => by have := hp (k + 1) (by simpa using h3) (by simpa using h4); simpa using this) ?_ h
        rw [hfold]
        exact ((hc.take off).append h2).append (hc.drop _)
      · cases h
def partsAV (H : List Blk) (ev : Operand → AV) : List (Nat × Operand) → Option (List (Nat × List AV))
  | [] => some []
  | (i, x) :: r => match cellsAV H (ev x), partsAV H ev r with | some cs, some l => some ((i, cs) :: l) | _, _ => none
theorem parts_rep {p : Pl} {H : List Blk} {w : World} {a : Act} {ev : Operand → AV} (hH : RH p H w) (hev : ∀ x, Rep p w (a.eval x) (ev x)) : ∀ (l : List (Nat × Operand)) (xs : List (Nat × List AV)), partsAV H ev l = some xs →
    (l.map fun (q : Nat × Operand) => (q.1, a.eval q.2)).length = xs.length ∧ ∀ (i : Nat) (h : i < (l.map fun (q : Nat × Operand) => (q.1, a.eval q.2)).length) (h' : i < xs.length), (l.map fun (q : Nat × Operand) => (q.1, a.eval q.2))[i].1 = xs[i].1 ∧ RepL (RepC p w) (l.map fun (q : Nat × Operand) => (q.1, a.eval q.2))[i].2.cells.toList xs[i].2
  | [], xs, h => by cases h; exact ⟨rfl, fun i h => by simp at h⟩
  | (i, x) :: r, xs, h => by
    unfold partsAV at h
    split at h
    · rename_i cs l h1 h2
      cases h
      obtain ⟨a1, a2⟩ := parts_rep hH hev r l h2
      refine ⟨by simp only [List.map_cons, List.length_cons, a1], fun k h3 h4 => ?_⟩
      cases k with
      | zero => exact ⟨rfl, cells_rep hH (hev x) h1⟩
      | succ k =>
        simp only [List.map_cons, List.getElem_cons_succ]
        exact a2 k (by simpa using h3) (by simpa using h4)
    · cases h
def zeroL (P : Program) (t : TypeId) : Option (List AV) := match P.info? t with | some i => (match i.zero with | some z => consts z.cells.toList | none => none) | none => none
def placeE (P : Program) (t : TypeId) : Option (Nat → Option (Nat × Nat)) := match P.underlying t with
  | some (.struct fields) => (fields.toList.mapM (fun f => (P.info? f.type).map fun i => (f.offset, i.size))).map fun places => (places.toArray[·]?)
  | some (.array _ e) => (P.info? e).map fun ie => fun i => some (i * ie.size, ie.size)
  | _ => none
def buildE (P : Program) (H : List Blk) (ev : Operand → AV) (t : TypeId) (parts : Array (Nat × Operand)) : Option (List AV) :=
  match zeroL P t, placeE P t, partsAV H ev parts.toList with
  | some zs, some place, some xs => fillL place zs xs
  | _, _, _ => none
theorem build_rd {P : Program} {p : Pl} {H : List Blk} {w : World} {a : Act} {ev : Operand → AV} (hH : RH p H w) (hev : ∀ x, Rep p w (a.eval x) (ev x)) {t : TypeId} {parts : Array (Nat × Operand)} {ds : List AV} (h : buildE P H ev t parts = some ds) :
    Rd P p w (Instr.build t (parts.map fun (i, x) => (i, a.eval x))) (.agg ds) := by
  unfold buildE at h
  split at h
  · rename_i zs place xs h1 h2 h3
    obtain ⟨b1, b2⟩ := parts_rep hH hev parts.toList xs h3
    unfold zeroL at h1
    split at h1
    · rename_i i hi
      split at h1
      · rename_i z hz
        have hzr := consts_rep (p := p) (w := w) h1
        obtain ⟨arr, h4, h5⟩ := fill_rep (p := p) (w := w) (place := place) _ xs z.cells zs ds b1 b2 hzr h
        refine ⟨.agg arr, ⟨arr, rfl, h5⟩, fun w' _ => ?_⟩
        refine run_build w' t _ arr ?_
        have hpl : (parts.map fun (x : Nat × Operand) => (x.1, a.eval x.2)).toList = parts.toList.map fun (q : Nat × Operand) => (q.1, a.eval q.2) := by simp
        unfold Program.built
        rw [hpl]
        unfold placeE at h2
        split at h2
        · rename_i fields hu
          obtain ⟨places, hpq, rfl⟩ := Option.map_eq_some_iff.1 h2
          simp only [hi, hu, hz, hpq]
          exact h4
        · rename_i n e hu
          obtain ⟨ie, hie, rfl⟩ := Option.map_eq_some_iff.1 h2
          simp only [hi, hu, hz, hie]
          exact h4
        · cases h2
      · cases h1
    · cases h1
  · cases h
end Go.Proofs.Ytcmbhebgpboepaa.V
