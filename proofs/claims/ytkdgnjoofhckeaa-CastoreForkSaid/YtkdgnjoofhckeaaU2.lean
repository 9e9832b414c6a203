/-
  The logic of values, part 2.
-/
import Derived.Test.YtkdgnjoofhckeaaU1
import Derived.IntWalk
import Derived.Laws.MakeOwn
import Derived.Laws.RangeAny
import Derived.Lib.OthersKept
/-
  The logic of values: append, slice literals, calls, entering a function, renumbering. Over any program.
-/
namespace Go.Proofs.Ytkdgnjoofhckeaa.V
open Go Go.RowKit
set_option linter.unusedSimpArgs false
set_option linter.unusedVariables false

/-- an element type, by its numbers -/
def elT (P : Program) (t e : TypeId) (sz bytes : Nat) : Bool := match P.underlying t, P.info? e with
  | some (.slice e'), some i => e' == e && (i.size == sz && (i.bytes == bytes && (decide (0 < sz) && match i.zero with | some z => z.cells.size == sz | none => false)))
  | _, _ => false
theorem elT_spec {P : Program} {t e : TypeId} {sz bytes : Nat} (h : elT P t e sz bytes = true) : P.underlying t = some (.slice e) ∧ ∃ i z, P.info? e = some i ∧ i.zero = some z ∧ z.cells.size = i.size ∧ 0 < i.size ∧ i.size = sz ∧ i.bytes = bytes := by
  unfold elT at h
  split at h
  · rename_i e' i hu hi
    simp only [Bool.and_eq_true, beq_iff_eq, decide_eq_true_eq] at h
    obtain ⟨h1, h2, h3, h4, h5⟩ := h
    subst h1
    split at h5
    · rename_i z hz
      exact ⟨hu, i, z, hi, hz, by rw [h2]; simpa using h5, by omega, h2, h3⟩
    · cases h5
  · cases h
def IsDst (H : List Blk) (e : TypeId) (sz : Nat) (x : AV) (k : Option Nat) (len : Nat) (xs : List AV) : Prop :=
  (x = .nilsl ∧ k = none ∧ len = 0 ∧ xs = []) ∨ ∃ id r, x = .sl id 0 len sz ∧ k = some id ∧ H[id]? = some (.row e r) ∧ xs = r.take (len * sz) ∧ len * sz ≤ r.length
def IsSrc (H : List Blk) (sz : Nat) (y : AV) (m : Nat) (ys : List AV) : Prop :=
  y = .slv m sz ys ∨ (y = .nilsl ∧ m = 0 ∧ ys = []) ∨ ∃ id st t r, y = .sl id st m sz ∧ H[id]? = some (.row t r) ∧ ys = (r.drop st).take (m * sz) ∧ st + m * sz ≤ r.length
theorem IsSrc.src {p : Pl} {H : List Blk} {w : World} {u : Value} {y : AV} {m sz : Nat} {ys : List AV} (hH : RH p H w) (hu : Rep p w u y) (h : IsSrc H sz y m ys) : SrcOf p w u m sz ys := by
  rcases h with rfl | ⟨rfl, rfl, rfl⟩ | ⟨id, st, t, r, rfl, hr, rfl, hl⟩
  · obtain ⟨oa, ad, cap, rfl, ho, hcap, _, hsz, hlen, hat⟩ := at_slv hu
    obtain ⟨us, h1, h2⟩ := hat.list
    refine ⟨oa, cap, rfl, us, h1, by rw [h1.1]; exact hlen, ?_⟩
    rcases ho with rfl | ⟨rfl, h0⟩
    · exact Or.inr ⟨ad, rfl, h2 w (Below.refl _ _)⟩
    · left; omega
  · cases rep_nilsl hu
    exact ⟨none, 0, rfl, [], RepL.nil, by simp, Or.inl rfl⟩
  · obtain ⟨q, hq⟩ := hH.live hr
    obtain ⟨a, cap, rfl, hcap, _, hsz, hn, ha⟩ := hu.2 q hq
    rcases hH.row hr with ⟨h1, h2⟩ | ⟨g, cur, h1, h2, h3, h4⟩
    · subst h2
      have hm : m * sz = 0 := by simp at hl; omega
      have hm0 : m = 0 := by rcases Nat.mul_eq_zero.1 hm with h | h <;> omega
      subst hm0
      exact ⟨a, cap, rfl, [], by simpa using RepL.nil, by simp, Or.inl rfl⟩
    · have hpre := ((row_pre h3 h4).drop st).take (m * sz)
      refine ⟨a, cap, rfl, _, hpre, by rw [hpre.1, List.length_take, List.length_drop]; omega, ?_⟩
      by_cases hm0 : m = 0
      · exact Or.inl hm0
      · right
        rcases ha with h0 | ⟨g', hg', rfl, _⟩
        · omega
        · rw [hq] at h1
          cases h1
          cases hg'
          refine ⟨_, rfl, fun j v hj => ?_⟩
          rw [List.getElem?_take] at hj
          split at hj
          · rw [List.getElem?_drop, List.getElem?_take] at hj
            split at hj
            · rw [add_none _ rfl, cell_of_row w g _ cur t (0, 0) h2]; simpa using hj
            · cases hj
          · cases hj
section
variable {P : Program} {s : St} {o : Oper} {R : AV → List Blk → Prop}
theorem op_append {t e ty : TypeId} {sz bytes len m : Nat} {x y : Operand} {k : Option Nat} {xs ys : List AV} (ho : o.op = .call ⟨.builtin .append, ⟨[x, y]⟩, ⟨[t, t]⟩⟩) (hT : elT P t e sz bytes = true) (hd : IsDst s.H e sz (s.ev x) k len xs) (hs : IsSrc s.H sz (s.ev y) m ys)
    (hb : (len + m) * bytes ≤ 140737488355328) (hm : len + m ≤ maxLen) (h : R (.sl s.H.length 0 (len + m) sz) (killB s.H k ++ [.row e (xs ++ ys)])) : OpV P o s R := opV_of fun p w a hR => by
  obtain ⟨hu, i, z, hi, hz, hzs, hpos, rfl, rfl⟩ := elT_spec hT
  obtain ⟨v', w', q, h1, h2, h3, h4⟩ := append_core (ty := o.type) hR.heap hu hi hz hzs hpos (hR.ev x) hd (hs.src hR.heap (hR.ev y)) hb hm
  refine ⟨.value v', v', _, _, _, w', ?_, Or.inl rfl, h, h2, h4, h3⟩
  unfold execOp
  rw [ho]
  simp [resolve, invoke, builtin, h1]
/-- a slice literal -/
def zerosL (zs : List AV) (n : Nat) : List AV := (List.range n).map fun i => zs.getD (i % zs.length) .junk
def sliceLitE (P : Program) (H : List Blk) (ev : Operand → AV) (e : TypeId) (len : Nat) (parts : Array (Nat × Operand)) : Option (List AV) :=
  match zeroL P e, partsAV H ev parts.toList with
  | some zs, some xs => fillL (fun i => some (i * sizeT P e, sizeT P e)) (zerosL zs (len * sizeT P e)) xs
  | _, _ => none
theorem zeros_rep {p : Pl} {w : World} {z : Array Value} {zs : List AV} (h : RepL (RepC p w) z.toList zs) (n : Nat) (hz : 0 < z.size) : RepL (RepC p w) ((Array.range n).map (z[· % z.size]!)).toList (zerosL zs n) := by
  have hl : zs.length = z.size := by rw [← h.1]; simp
  refine ⟨by simp [zerosL], fun i h1 h2 => ?_⟩
  have hi : i % z.size < z.size := Nat.mod_lt _ hz
  simp only [zerosL, List.getElem_map, List.getElem_range, hl, Array.toList_map, Array.toList_range]
  rw [getElem!_pos z (i % z.size) hi, getD_get _ _ (by omega)]
  have := h.2 (i % z.size) (by simpa using hi) (by omega)
  simpa using this
theorem run_buildSlice_any {P : Program} (w : World) (t e : TypeId) (len : Nat) (parts : Array (Nat × Value)) (cells : Array Value) (ie : TypeInfo) (z : Value)
    (hu : P.underlying t = some (.slice e)) (hie : P.info? e = some ie) (hz : ie.zero = some z) (hsmall : len * ie.size ≤ 16777216)
    (h : Instr.fill (fun i => some (i * ie.size, ie.size)) ((Array.range (len * ie.size)).map (z.cells[· % z.cells.size]!)) parts.toList = some cells) :
    (Instr.buildSlice t len parts).run P w = .ok (.slice (some ⟨w.heap.size, 0, none⟩) len len) (w.alloc (.cells cells e)) := by
  by_cases h0 : len * ie.size = 0
  · rw [h0] at h
    simp only [show Array.range 0 = #[] from rfl, Array.map_empty] at h
    simp [Instr.buildSlice, run_underlying hu, sizeOf, typeInfo, hie, h0, show Array.range 0 = #[] from rfl, h, newRow]
  · exact run_buildSlice w t e len parts cells ie z hu hie hz (by omega) h0 h
theorem op_sliceLit {t e : TypeId} {sz bytes len : Nat} {parts : Array (Nat × Operand)} {ds : List AV} (ho : o.op = .buildSlice t len parts) (hT : elT P t e sz bytes = true) (hk : knownT P e = true) (hd : sliceLitE P s.H s.ev e len parts = some ds) (hs : (decide (len * sz ≤ 16777216)) = true) (hdl : ds.length = len * sz)
    (h : R (.sl s.H.length 0 len sz) (s.H ++ [.row e ds])) : OpB P o s R := opB_of fun p w a hR => by
  obtain ⟨hu, i, z, hi, hz, hzs, hpos, rfl, rfl⟩ := elT_spec hT
  have hsz : sizeT P e = i.size := by simp [sizeT, hi]
  simp only [decide_eq_true_eq] at hs
  unfold sliceLitE at hd
  split at hd
  · rename_i zs xs h1 h2
    obtain ⟨b1, b2⟩ := parts_rep hR.heap hR.ev parts.toList xs h2
    unfold zeroL at h1
    simp only [hi, hz] at h1
    rw [hsz] at hd
    have hzr := zeros_rep (consts_rep (p := p) (w := w) h1) (len * i.size) (by simpa [hzs] using hpos)
    obtain ⟨arr, h4, h5⟩ := fill_rep (p := p) (w := w) _ xs _ _ ds b1 b2 hzr hd
    have hpl : (parts.map fun (x : Nat × Operand) => (x.1, a.eval x.2)).toList = parts.toList.map fun (q : Nat × Operand) => (q.1, a.eval q.2) := by simp
    have hrun := run_buildSlice_any (P := P) w t e len (parts.map fun (x : Nat × Operand) => (x.1, a.eval x.2)) arr i z hu hi hz hs (by rw [hpl]; exact h4)
    obtain ⟨r1, r2, r3⟩ := alloc_ok hR.heap arr e ds h5
    have hal : arr.size = len * i.size := by have := h5.1; simp at this; omega
    refine ⟨.slice (some ⟨w.heap.size, 0, none⟩) len len, _, _, _, _, ?_, h, r1, ?_, r2, r3⟩
    · unfold execOp
      rw [ho]
      simp only [Sem.run_bind, hrun, Result.andThen_ok, Sem.run_pure]
    · refine ⟨by simp [Pl.mv, hR.heap.n], fun q hq => ?_⟩
      simp only [Pl.mv, hR.heap.n, if_true, Option.some.injEq] at hq
      refine ⟨_, _, rfl, Nat.le_refl _, ?_, hpos, (fun h => by cases h), Or.inr ⟨_, hq.symm, rfl, ?_⟩⟩
      · have : len ≤ len * i.size := Nat.le_mul_of_pos_right _ hpos
        unfold maxLen; omega
      · unfold rowSize
        rw [heap_alloc_new]
        simp only
        omega
  · cases hd

/-! ### calls -/
def callable (P : Program) (f : FuncId) : Bool := match P.funcs[f]? with | some fn => fn.name != "runtime.NumGoroutine" && fn.body.isSome | none => false
theorem run_callFunc {P : Program} {f : FuncId} (h : callable P f = true) (args : Array Value) (w : World) : (callFunc f args).run P w = .ok (.enter f args) w := by
  unfold callable at h
  split at h
  · rename_i fn hf
    simp only [Bool.and_eq_true, bne_iff_ne] at h
    cases hb : fn.body with
    | none => simp [hb] at h
    | some c => simp [callFunc, hf, h.1, hb]
  · cases h
theorem evals {p : Pl} {w : World} {a : Act} (hR : Rst p s a w) (l : List Operand) : RepL (Rep p w) (l.map a.eval) (l.map s.ev) :=
  ⟨by simp, fun i h1 h2 => by simp only [List.getElem_map]; exact hR.ev _⟩
theorem op_call {f : FuncId} {xs : Array Operand} {ts : Array TypeId} (ho : o.op = .call ⟨.value (.func f), xs, ts⟩) (hc : callable P f = true) (h : CallsV P f (xs.toList.map s.ev) s.H R) : OpV P o s R := fun p w a K Q hR hK => by
  have hrun : (execOp a.eval o).run P w = .ok (.enter f (xs.map a.eval)) w := by
    unfold execOp
    rw [ho]
    simp [resolve, invoke, Act.eval, Deferred.ofValue, run_callFunc hc]
  unfold Oper.wp
  rw [hrun, Oper.upon_enter]
  refine (h p w (xs.map a.eval) hR.heap (by simpa using evals hR xs.toList)).mono ?_
  rintro e w' ⟨v, av, H', p', rfl, h1, h2, h3, h4⟩
  exact hK v av H' p' w' h1 h2 h3 h4
/-! #### a call that has no block of the run's own -/
def noid0 : AV → Bool
  | .sl _ _ _ _ | .slc _ _ _ _ _ | .ptr _ _ | .map _ | .iter _ | .agg _ | .tuple _ | .cnd _ _ => false
  | .fn _ x y => x.isEmpty && y.isEmpty
  | _ => true
def noid1 : AV → Bool
  | .agg cs => cs.all noid0
  | x => noid0 x
theorem RepF.anti {M M' : Nat → Prop} {w : World} (hM : ∀ g, M' g → M g) {v : Value} {x : AV} (h : RepF M w v x) : RepF M' w v x := by
  induction h with
  | bool b => exact .bool b
  | int k n => exact .int k n
  | str s => exact .str s
  | nilptr => exact .nilptr
  | nilsl => exact .nilsl
  | nilmap => exact .nilmap
  | nilfn => exact .nilfn
  | fn f => exact .fn f
  | fptr a cells vs hc hr ih =>
    refine .fptr a cells vs (fun i hi => ?_) ih
    obtain ⟨h1, h2, h3, h4⟩ := hc i hi
    exact ⟨h1, h2, fun hm => h3 (hM _ hm), h4⟩
  | slv oa a len cap sz cells vs ho hl hcap hcm hsz hc hr ih =>
    refine .slv oa a len cap sz cells vs ho hl hcap hcm hsz (fun i hi => ?_) ih
    obtain ⟨h1, h2, h3, h4⟩ := hc i hi
    exact ⟨h1, h2, fun hm => h3 (hM _ hm), h4⟩
theorem Rep0.noid {p p' : Pl} {w : World} (hM : ∀ g, p'.M g → p.M g) {v : Value} {x : AV} (hx : noid0 x = true) (h : Rep0 p w v x) : Rep0 p' w v x := by
  cases x <;> simp [noid0] at hx <;> first | trivial | exact RepF.anti hM h
theorem Rep.noid {p p' : Pl} {w : World} (hM : ∀ g, p'.M g → p.M g) {v : Value} {x : AV} (hx : noid1 x = true) (h : Rep p w v x) : Rep p' w v x := by
  cases x
  case agg cs =>
    obtain ⟨vs, h1, h2⟩ := h
    refine ⟨vs, h1, h2.1, fun i a b => ?_⟩
    have := h2.2 i a b
    simp only [noid1, List.all_eq_true] at hx
    exact ⟨this.1, this.2.noid hM (hx _ (List.getElem_mem b))⟩
  case fn f x y =>
    simp only [noid1, noid0, Bool.and_eq_true, List.isEmpty_iff] at hx
    obtain ⟨rfl, rfl⟩ := hx
    obtain ⟨vs, us, h1, h2, h3⟩ := h
    exact ⟨vs, us, h1, ⟨h2.1, fun i a b => absurd b (by simp)⟩, ⟨h3.1, fun i a b => absurd b (by simp)⟩⟩
  case tuple => simp [noid1, noid0] at hx
  case cnd => simp [noid1, noid0] at hx
  all_goals (simp only [noid1] at hx; simp only [Rep, RepT, Rep1] at h ⊢; exact Rep0.noid (p := p) hM hx h)
end
end Go.Proofs.Ytkdgnjoofhckeaa.V
/-
  The logic of values: renumbering of blocks, calls without blocks of the run's own, entering a function, freezing a row. Over any program.
-/
namespace Go.Proofs.Ytkdgnjoofhckeaa.V
open Go Go.RowKit
set_option linter.unusedSimpArgs false
set_option linter.unusedVariables false

def ren0 (f : Nat → Option Nat) : AV → AV
  | .sl id st len sz => match f id with | some j => .sl j st len sz | none => .junk
  | .slc id st len c sz => match f id with | some j => .slc j st len c sz | none => .junk
  | .ptr id o => match f id with | some j => .ptr j o | none => .junk
  | .map id => match f id with | some j => .map j | none => .junk
  | .iter id => match f id with | some j => .iter j | none => .junk
  | .agg _ | .tuple _ | .fn _ _ _ | .cnd _ _ => .junk
  | x => x
def ren1 (f : Nat → Option Nat) : AV → AV
  | .agg cs => .agg (cs.map (ren0 f))
  | .fn g x y => .fn g (x.map (ren0 f)) (y.map (ren0 f))
  | x => ren0 f x
def renP (f : Nat → Option Nat) : AV → AV
  | .tuple vs => .tuple (vs.map (ren1 f))
  | x => ren1 f x
def ren (f : Nat → Option Nat) : AV → AV
  | .cnd g x => .cnd g (renP f x)
  | x => renP f x
structure Emb (f : Nat → Option Nat) (p p' : Pl) : Prop where
  at_ : ∀ id j, f id = some j → id < p.n → j < p'.n ∧ ∀ q, p'.at_ j = some q → p.at_ id = some q
  M : ∀ g, p'.M g → p.M g
theorem Rep0.ren {f : Nat → Option Nat} {p p' : Pl} (h : Emb f p p') {w : World} {v : Value} {x : AV} (hx : Rep0 p w v x) : Rep0 p' w v (ren0 f x) := by
  cases x
  case sl id st len sz =>
    simp only [ren0]
    cases hf : f id with
    | none => trivial
    | some j => exact ⟨(h.at_ id j hf hx.1).1, fun q hq => hx.2 q ((h.at_ id j hf hx.1).2 q hq)⟩
  case slc id st len c sz =>
    simp only [ren0]
    cases hf : f id with
    | none => trivial
    | some j => exact ⟨(h.at_ id j hf hx.1).1, fun q hq => hx.2 q ((h.at_ id j hf hx.1).2 q hq)⟩
  case ptr id o =>
    simp only [ren0]
    cases hf : f id with
    | none => trivial
    | some j => exact ⟨(h.at_ id j hf hx.1).1, fun q hq => hx.2 q ((h.at_ id j hf hx.1).2 q hq)⟩
  case map id =>
    simp only [ren0]
    cases hf : f id with
    | none => trivial
    | some j => exact ⟨(h.at_ id j hf hx.1).1, fun q hq => hx.2 q ((h.at_ id j hf hx.1).2 q hq)⟩
  case iter id =>
    simp only [ren0]
    cases hf : f id with
    | none => trivial
    | some j => exact ⟨(h.at_ id j hf hx.1).1, fun q hq => hx.2 q ((h.at_ id j hf hx.1).2 q hq)⟩
  all_goals first | trivial | exact RepF.anti h.M hx
theorem RepL.map {R R' : Value → AV → Prop} {g : AV → AV} {vs : List Value} {xs : List AV} (h : RepL R vs xs) (hg : ∀ v x, R v x → R' v (g x)) : RepL R' vs (xs.map g) :=
  ⟨by rw [List.length_map]; exact h.1, fun i a b => by rw [List.getElem_map]; exact hg _ _ (h.2 i a (by rw [List.length_map] at b; exact b))⟩
theorem RepC.ren {f : Nat → Option Nat} {p p' : Pl} (h : Emb f p p') {w : World} {v : Value} {x : AV} (hx : RepC p w v x) : RepC p' w v (ren0 f x) := ⟨hx.1, hx.2.ren h⟩
theorem Rep0.rep1 {p : Pl} {w : World} {v : Value} {x : AV} (h : Rep0 p w v x) : Rep1 p w v x := by
  cases x
  case fn f x y =>
    have h' : RepF p.M w v (.fn f x y) := h
    cases h'; exact ⟨#[], #[], rfl, RepL.nil, RepL.nil⟩
  case agg cs => cases h
  all_goals exact h
theorem Rep1.ren {f : Nat → Option Nat} {p p' : Pl} (h : Emb f p p') {w : World} {v : Value} {x : AV} (hx : Rep1 p w v x) : Rep1 p' w v (ren1 f x) := by
  cases x
  case agg cs => obtain ⟨vs, h1, h2⟩ := hx; exact ⟨vs, h1, h2.map fun _ _ => RepC.ren h⟩
  case fn g x y => obtain ⟨vs, us, h1, h2, h3⟩ := hx; exact ⟨vs, us, h1, h2.map fun _ _ => Rep0.ren h, h3.map fun _ _ => Rep0.ren h⟩
  case tuple vs => exact (rep1_tuple hx).elim
  all_goals (simp only [Rep1] at hx; exact (Rep0.ren h hx).rep1)
theorem Rep1.repT {p : Pl} {w : World} {v : Value} {x : AV} (h : Rep1 p w v x) : RepT p w v x := by
  cases x
  case tuple vs => exact (rep1_tuple h).elim
  all_goals exact h
theorem RepT.rep {p : Pl} {w : World} {v : Value} {x : AV} (h : RepT p w v x) : Rep p w v x := by
  cases x
  case cnd g x => exact (rep1_cnd h).elim
  all_goals exact h
theorem RepT.ren {f : Nat → Option Nat} {p p' : Pl} (h : Emb f p p') {w : World} {v : Value} {x : AV} (hx : RepT p w v x) : RepT p' w v (renP f x) := by
  cases x
  case tuple vs => obtain ⟨us, h1, h2⟩ := hx; exact ⟨us, h1, h2.map fun _ _ => Rep1.ren h⟩
  case agg cs => exact Rep1.ren h (x := .agg cs) hx
  case fn g x y => exact Rep1.ren h (x := .fn g x y) hx
  all_goals (simp only [RepT, Rep1] at hx; exact (Rep0.ren h hx).rep1.repT)
theorem Rep.ren {f : Nat → Option Nat} {p p' : Pl} (h : Emb f p p') {w : World} {v : Value} {x : AV} (hx : Rep p w v x) : Rep p' w v (V.ren f x) := by
  cases x
  case cnd g x => exact ⟨fun hg => (hx.1 hg).ren h, hx.2⟩
  all_goals (simp only [Rep] at hx; exact (RepT.ren h hx).rep)
/-- a block under other numbers -/
def RenB (f : Nat → Option Nat) : Blk → Blk → Prop
  | .dead, .dead => True
  | .row t xs, .row t' ys => t' = t ∧ ((ys = xs ∧ ∀ x ∈ xs, noid0 x = true) ∨ ys = xs.map (ren0 f))
  | .map kv, .map kv' => kv' = kv.map fun q => (ren1 f q.1, ren1 f q.2)
  | .iter s n, .iter s' n' => s' = s ∧ n' = n
  | _, _ => False
theorem BlkIs.ren {f : Nat → Option Nat} {p p' : Pl} (h : Emb f p p') {w : World} {id j : Nat} {b b' : Blk} (hat : p'.at_ j = p.at_ id) (hb : BlkIs p w id b) (hr : RenB f b b') : BlkIs p' w j b' := by
  cases b <;> cases b' <;> simp only [RenB] at hr
  case dead.dead => exact hat.trans hb
  case row.row t xs t' ys =>
    obtain ⟨rfl, hr⟩ := hr
    rcases hb with ⟨h1, h2⟩ | ⟨g, cur, h1, h2, h3, h4⟩
    · subst h2
      refine Or.inl ⟨hat.trans h1, ?_⟩
      rcases hr with ⟨rfl, _⟩ | rfl <;> rfl
    · refine Or.inr ⟨g, cur, hat.trans h1, h2, ?_, ?_⟩
      · rcases hr with ⟨rfl, _⟩ | rfl
        · exact h3
        · rw [List.length_map]; exact h3
      · rcases hr with ⟨rfl, hn⟩ | rfl
        · intro i hi
          obtain ⟨v, a, b⟩ := h4 i hi
          exact ⟨v, a, b.1, b.2.noid h.M (hn _ (List.getElem_mem hi))⟩
        · intro i hi
          obtain ⟨v, a, b⟩ := h4 i (by rw [List.length_map] at hi; exact hi)
          exact ⟨v, a, by rw [List.getElem_map]; exact b.ren h⟩
  case map.map kv kv' =>
    subst hr
    obtain ⟨g, es, clock, h1, h2, h3, h4⟩ := hb
    refine ⟨g, es, clock, hat.trans h1, h2, by rw [List.length_map]; exact h3, fun i a b => ?_⟩
    obtain ⟨c, d⟩ := h4 i (by rw [List.length_map] at a; exact a) b
    rw [List.getElem_map]
    exact ⟨c.ren h, d.ren h⟩
  case iter.iter =>
    obtain ⟨rfl, rfl⟩ := hr
    obtain ⟨g, h1, h2⟩ := hb
    exact ⟨g, hat.trans h1, h2⟩

/-! ### a call that has no block of the run's own -/
def shf (n : Nat) (id : Nat) : Option Nat := some (id + n)
def shiftB (n : Nat) : Blk → Blk
  | .row t xs => .row t (xs.map (ren0 (shf n)))
  | .map kv => .map (kv.map fun q => (ren1 (shf n) q.1, ren1 (shf n) q.2))
  | b => b
theorem shiftB_ren (n : Nat) (b : Blk) : RenB (shf n) b (shiftB n b) := by cases b <;> simp [shiftB, RenB]
theorem CallsV.frame {P : Program} {f : FuncId} {args : List AV} {R : AV → List Blk → Prop} (h : CallsV P f args [] R) (hn : ∀ a ∈ args, noid1 a = true) {p : Pl} {H : List Blk} {w : World} {vals : Array Value} (hH : RH p H w) (hv : RepL (Rep p w) vals.toList args) :
    Calls P f vals w fun e w' => ∃ v av H' p', e = .returned v ∧ R av H' ∧ RH p' (H ++ H'.map (shiftB H.length)) w' ∧ Rep p' w' v (ren (shf H.length) av) ∧ Step p w p' w' ∧ Below w.heap.size w w' := by
  let p0 : Pl := ⟨0, fun _ => none, p.M⟩
  have hown0 : ∀ g, ¬ p0.own g := fun g ⟨id, hid⟩ => by cases hid
  have hM0 : ∀ g, p0.M g → p.M g := fun g hg => hg.elim (fun h => (hown0 g h).elim) id
  have hlt : ∀ g, p.M g → g < w.heap.size := fun g hg => hg.elim (hH.lt g) fun hx => (hH.xs g hx).1
  have hH0 : RH p0 [] w := ⟨rfl, fun _ _ => rfl, fun _ _ _ h => (by cases h), fun id h => absurd h (by simp), fun g hg => ⟨hlt g hg, hown0 g⟩⟩
  refine (h p0 w vals hH0 ⟨hv.1, fun i a b => (hv.2 i a b).noid hM0 (hn _ (List.getElem_mem b))⟩).mono ?_
  rintro e w' ⟨v, av, H', q, rfl, hR, hHq, hrep, hS⟩
  have hqx : q.x = p.M := hS.x
  let pc : Pl := ⟨p.n + q.n, fun id => if id < p.n then p.at_ id else q.at_ (id - p.n), p.x⟩
  have hpn : p.n = H.length := hH.n
  have hB : Below w.heap.size w w' := ⟨hS.os, hS.tape, hS.output, hS.size, fun g hg => hS.froz g hg (hown0 g)⟩
  have hqnew : ∀ g, q.own g → w.heap.size ≤ g := fun g hg => by
    rcases Nat.lt_or_ge g w.heap.size with h1 | h1
    · exact (hown0 g (hS.old g h1 hg)).elim
    · exact h1
  have hpcown : ∀ g, pc.own g → p.own g ∨ q.own g := fun g ⟨id, hid⟩ => by
    simp only [pc] at hid
    split at hid
    · exact Or.inl ⟨id, hid⟩
    · exact Or.inr ⟨_, hid⟩
  have hdisj : ∀ g, p.own g → ¬ q.own g := fun g h1 h2 => by have := hH.lt g h1; have := hqnew g h2; omega
  have hemb : Emb (shf H.length) q pc := by
    refine ⟨fun id j hf hid => ?_, fun g hg => ?_⟩
    · simp only [shf, Option.some.injEq] at hf
      subst hf
      refine ⟨by simp only [pc]; omega, fun q' hq' => ?_⟩
      simp only [pc] at hq'
      rw [if_neg (by omega), hpn, Nat.add_sub_cancel] at hq'
      exact hq'
    · rcases hg with hg | hg
      · rcases hpcown g hg with h1 | h1
        · exact Or.inr (hqx ▸ Or.inl h1)
        · exact Or.inl h1
      · exact Or.inr (hqx ▸ Or.inr hg)
  have hst : Step p w pc w' := by
    refine ⟨hB.os, hB.tape, hB.output, hB.size, Nat.le_add_right _ _, fun id q' hid hq' => ?_, fun g hg hm => ?_, fun g hg _ => hB.block g hg, rfl⟩
    · simp only [pc, if_pos hid] at hq'
      refine ⟨hq', fun g hg => ?_⟩
      subst hg
      unfold rowSize
      rw [hB.block g (hH.lt g ⟨id, hq'⟩)]
    · rcases hpcown g hm with h1 | h1
      · exact h1
      · have := hqnew g h1; omega
  refine ⟨v, av, H', pc, rfl, hR, ⟨?_, fun id hid => ?_, fun i j g hi hj => ?_, fun id hid => ?_, fun g hg => ⟨Nat.lt_of_lt_of_le (hH.xs g hg).1 hB.size, fun ho => ?_⟩⟩, hrep.ren hemb, hst, hB⟩
  · simp [pc, hpn, hHq.n]
  · simp only [pc] at hid ⊢
    rw [if_neg (by omega)]
    exact hHq.out _ (by omega)
  · simp only [pc] at hi hj
    split at hi <;> split at hj
    · exact hH.inj _ _ _ hi hj
    · exact (hdisj g ⟨i, hi⟩ ⟨_, hj⟩).elim
    · exact (hdisj g ⟨j, hj⟩ ⟨_, hi⟩).elim
    · have := hHq.inj _ _ _ hi hj; omega
  · by_cases hlt' : id < H.length
    · rw [List.getElem_append_left hlt']
      exact (hH.blk id hlt').step hst (by simp only [pc]; rw [if_pos (by omega)]) fun g hg => hB.block g (hH.lt g ⟨id, hg⟩)
    · simp only [List.length_append, List.length_map] at hid
      rw [List.getElem_append_right (by omega), List.getElem_map]
      refine (hHq.blk (id - H.length) (by omega)).ren hemb ?_ (shiftB_ren _ _)
      simp only [pc]
      rw [if_neg (by omega), hpn]
  · rcases hpcown g ho with h1 | h1
    · exact (hH.xs g hg).2 h1
    · exact (hHq.xs g (hqx ▸ Or.inr hg)).2 h1
section
variable {P : Program} {s : St} {o : Oper} {R : AV → List Blk → Prop}
theorem op_callB {f : FuncId} {xs : Array Operand} {ts : Array TypeId} (ho : o.op = .call ⟨.value (.func f), xs, ts⟩) (hc : callable P f = true) (hn : (xs.toList.map s.ev).all noid1 = true)
    (h : CallsV P f (xs.toList.map s.ev) [] fun av H' => R (ren (shf s.H.length) av) (s.H ++ H'.map (shiftB s.H.length))) : OpB P o s R := fun p w a K Q hR hK => by
  have hrun : (execOp a.eval o).run P w = .ok (.enter f (xs.map a.eval)) w := by
    unfold execOp
    rw [ho]
    simp [resolve, invoke, Act.eval, Deferred.ofValue, run_callFunc hc]
  unfold Oper.wp
  rw [hrun, Oper.upon_enter]
  refine (h.frame (fun x hx => List.all_eq_true.1 hn x hx) hR.heap (vals := xs.map a.eval) (by simpa using evals hR xs.toList)).mono ?_
  rintro e w' ⟨v, av, H', p', rfl, h1, h2, h3, h4, h5⟩
  exact hK v _ _ p' w' h1 h2 h3 h4 h5

/-! ### entering a function -/
def res1 (P : Program) (s : St) : ResultVar → List Prop × AV
  | .tmp t => ([], s.t.getD t .junk)
  | .cell a t => match cellsAt s.H (s.t.getD a .junk) with
    | some cs => (dec (knownT P t) ++ [(bif isAggT P t then sizeT P t else 1) ≤ cs.length], loadE P t cs)
    | none => ([False], .junk)
def notTup : AV → Bool | .tuple _ => false | .cnd _ _ => false | _ => true
def resL (P : Program) (s : St) : List ResultVar → List Prop × List AV
  | [] => ([], [])
  | r :: l => match res1 P s r, resL P s l with | (c, x), (d, xs) => (c ++ (dec (notTup x) ++ d), x :: xs)
def packE : List AV → AV
  | [x] => x
  | l => .tuple l
theorem rep_rep1 {p : Pl} {w : World} {v : Value} {x : AV} (h : Rep p w v x) (hn : notTup x = true) : Rep1 p w v x := by
  cases x <;> first | exact h | (simp [notTup] at hn)
def resF (tmps : Array Value) : ResultVar → Sem Value
  | .tmp t => pure (tmps.getD t undef)
  | .cell a t => do loadVar t (← asAddr (tmps.getD a undef))
theorem results_eq (fn : Func) (tmps : Array Value) : results fn tmps = (do let vs ← fn.results.mapM (resF tmps); pure (if h : vs.size = 1 then vs[0] else .tuple vs)) := by
  unfold results
  congr 1
theorem run_results {P : Program} {p : Pl} {w : World} {a : Act} (hR : Rst p s a w) : ∀ (l : List ResultVar), allP (resL P s l).1 → ∃ vs : List Value, (l.mapM (resF a.tmps) : Sem (List Value)).run P w = .ok vs w ∧ RepL (Rep1 p w) vs (resL P s l).2
  | [], _ => ⟨[], rfl, RepL.nil⟩
  | r :: l, hc => by
    unfold resL at hc ⊢
    rw [allP_append, allP_append, allP_dec] at hc
    obtain ⟨h1, h2, h3⟩ := hc
    obtain ⟨vs, hv, hl⟩ := run_results hR l h3
    cases r with
    | tmp t =>
      refine ⟨a.tmps.getD t undef :: vs, by simp only [List.mapM_cons, resF, Sem.run_bind, Sem.run_pure, Result.andThen_ok, hv], RepL.cons (rep_rep1 (hR.ev (.tmp t)) h2) hl⟩
    | cell b t =>
      simp only [res1] at h1 h2 ⊢
      split at h1
      · rename_i cs hcs
        simp only [hcs] at h2 ⊢
        rw [allP_append, allP_dec] at h1
        obtain ⟨u, h4, h5⟩ := load_rd hR.heap (hR.ev (.tmp b)) hcs h1.1 h1.2
        obtain ⟨ad, h6, _⟩ := cellsAt_rep hR.heap (hR.ev (.tmp b)) hcs
        have h6' : a.tmps.getD b undef = .pointer (some ad) := h6
        have h7 := h5 w (Below.refl _ _)
        rw [h6] at h7
        simp only [Instr.loadAt, Instr.sureAddr, Sem.run_bind, Sem.run_pure, Result.andThen_ok] at h7
        refine ⟨u :: vs, by simp only [List.mapM_cons, resF, Sem.run_bind, Sem.run_pure, Result.andThen_ok, h6', asAddr, h7, hv], RepL.cons (rep_rep1 h4 h2) hl⟩
      · exact h1.elim
theorem run_resultsE {P : Program} {p : Pl} {w : World} {a : Act} (hR : Rst p s a w) (fn : Func) (hc : allP (resL P s fn.results.toList).1) : ∃ v, (results fn a.tmps).run P w = .ok v w ∧ Rep p w v (packE (resL P s fn.results.toList).2) := by
  obtain ⟨vs, h1, h2⟩ := run_results hR _ hc
  have hm : (fn.results.mapM (resF a.tmps) : Sem (Array Value)).run P w = .ok vs.toArray w := by
    rw [Array.mapM_eq_mapM_toList]
    simp only [map_eq_pure_bind, Sem.run_bind, Sem.run_pure]
    rw [h1]
    rfl
  refine ⟨if h : vs.toArray.size = 1 then vs.toArray[0] else .tuple vs.toArray, ?_, ?_⟩
  · rw [results_eq, Sem.run_bind, hm, Result.andThen_ok]
    rfl
  · generalize (resL P s fn.results.toList).2 = xs at *
    match vs, xs, h2 with
    | [], [], h2 => exact ⟨#[], rfl, RepL.nil⟩
    | [v], [x], h2 =>
      have h3 := h2.2 0 (by simp) (by simp)
      have h4 : Rep1 p w v x := h3
      show Rep p w v x
      cases x
      case tuple => exact (rep1_tuple h4).elim
      case cnd => exact (rep1_cnd h4).elim
      all_goals exact h4
    | v :: u :: r, x :: y :: q, h2 =>
      rw [dif_neg (by simp)]
      exact ⟨_, rfl, by simpa using h2⟩
    | [], _ :: _, h2 => exact absurd h2.1 (by simp)
    | _ :: _, [], h2 => exact absurd h2.1 (by simp)
    | [_], _ :: _ :: _, h2 => exact absurd h2.1 (by simp)
    | _ :: _ :: _, [_], h2 => exact absurd h2.1 (by simp)
end
end Go.Proofs.Ytkdgnjoofhckeaa.V
/-
  The logic of values: entering a function, keeping some blocks, freezing a row, closing a law. Over any program.
-/
namespace Go.Proofs.Ytkdgnjoofhckeaa.V
open Go Go.RowKit
set_option linter.unusedSimpArgs false
set_option linter.unusedVariables false

/-! ### keeping some of the blocks -/
def idxK (keep : List Nat) (id : Nat) : Option Nat := keep.idxOf? id
structure KeepOK (n0 : Nat) (keep : List Nat) (H H' : List Blk) : Prop where
  nodup : keep.Nodup
  lt : ∀ i ∈ keep, i < H.length
  n0le : n0 ≤ keep.length
  pre : ∀ j, j < n0 → keep[j]? = some j
  len : H'.length = keep.length
  ren : ∀ (j : Nat) (h : j < keep.length) (h1 : keep[j] < H.length) (h' : j < H'.length), RenB (idxK keep) H[keep[j]] H'[j]
def Pl.keep (p : Pl) (keep : List Nat) : Pl := ⟨keep.length, fun j => match keep[j]? with | some i => p.at_ i | none => none, p.x⟩
theorem idxK_spec {keep : List Nat} {id j : Nat} (h : idxK keep id = some j) : keep[j]? = some id := by
  unfold idxK at h
  rw [List.idxOf?, List.findIdx?_eq_some_iff_getElem] at h
  obtain ⟨h1, h2, _⟩ := h
  rw [List.getElem?_eq_getElem h1]
  simpa using h2
theorem keep_emb {p : Pl} {keep : List Nat} (hlt : ∀ i ∈ keep, i < p.n) : Emb (idxK keep) p (p.keep keep) := by
  refine ⟨fun id j hf hid => ?_, fun g hg => ?_⟩
  · have h := idxK_spec hf
    refine ⟨(List.getElem?_eq_some_iff.1 h).1, fun q hq => ?_⟩
    simp only [Pl.keep, h] at hq
    exact hq
  · rcases hg with ⟨j, hj⟩ | hg
    · simp only [Pl.keep] at hj
      split at hj
      · rename_i i hi; exact Or.inl ⟨i, hj⟩
      · cases hj
    · exact Or.inr hg
theorem keep_ok {p0 p : Pl} {w0 w : World} {H H' : List Blk} {keep : List Nat} (hS : Step p0 w0 p w) (hH : RH p H w) (hk : KeepOK p0.n keep H H') : RH (p.keep keep) H' w ∧ Step p0 w0 (p.keep keep) w ∧ Emb (idxK keep) p (p.keep keep) := by
  have hlt : ∀ i ∈ keep, i < p.n := fun i hi => by rw [hH.n]; exact hk.lt i hi
  have hE := keep_emb hlt
  have hown : ∀ g, (p.keep keep).own g → p.own g := fun g ⟨j, hj⟩ => by
    simp only [Pl.keep] at hj
    split at hj
    · rename_i i hi; exact ⟨i, hj⟩
    · cases hj
  refine ⟨⟨hk.len.symm, fun id hid => ?_, fun i j g hi hj => ?_, fun id hid => ?_, fun g hg => ⟨(hH.xs g hg).1, fun ho => (hH.xs g hg).2 (hown g ho)⟩⟩, ⟨hS.os, hS.tape, hS.output, hS.size, hk.n0le, fun id q hid hq => ?_, fun g hg hm => hS.old g hg (hown g hm), hS.froz, hS.x⟩, hE⟩
  · simp only [Pl.keep] at hid ⊢
    rw [List.getElem?_eq_none hid]
  · simp only [Pl.keep] at hi hj
    split at hi
    · rename_i a ha
      split at hj
      · rename_i b hb
        have hab := hH.inj _ _ _ hi hj
        subst hab
        obtain ⟨l1, e1⟩ := List.getElem?_eq_some_iff.1 ha
        obtain ⟨l2, e2⟩ := List.getElem?_eq_some_iff.1 hb
        have hpw := List.pairwise_iff_getElem.1 hk.nodup
        rcases Nat.lt_trichotomy i j with h3 | h3 | h3
        · exact (hpw i j l1 l2 h3 (e1.trans e2.symm)).elim
        · exact h3
        · exact (hpw j i l2 l1 h3 (e2.trans e1.symm)).elim
      · cases hj
    · cases hi
  · have hj : id < keep.length := by rw [← hk.len]; exact hid
    have hm : keep[id] < H.length := hk.lt _ (List.getElem_mem hj)
    refine (hH.blk keep[id] hm).ren hE ?_ (hk.ren id hj hm hid)
    simp only [Pl.keep, List.getElem?_eq_getElem hj]
  · simp only [Pl.keep, hk.pre id hid] at hq
    exact hS.keep id q hid hq
def renT (f : Nat → Option Nat) : List AV → List AV → Prop
  | [], [] => True
  | a :: xs, b :: ys => (b = .junk ∨ b = ren f a) ∧ renT f xs ys
  | _, _ => False
theorem renT_rep {f : Nat → Option Nat} {p p' : Pl} (hE : Emb f p p') {w : World} : ∀ {vs : List Value} {xs ys : List AV}, RepL (Rep p w) vs xs → renT f xs ys → RepL (Rep p' w) vs ys
  | [], [], [], _, _ => RepL.nil
  | v :: vs, a :: xs, b :: ys, h, hr => by
    have h0 := h.2 0 (by simp) (by simp)
    refine RepL.cons ?_ (renT_rep hE ⟨by simpa using h.1, fun i h1 h2 => by have := h.2 (i + 1) (by simpa using h1) (by simpa using h2); simpa using this⟩ hr.2)
    rcases hr.1 with rfl | rfl
    · trivial
    · exact Rep.ren hE h0
  | [], _ :: _, _, h, _ => absurd h.1 (by simp)
  | _ :: _, [], _, h, _ => absurd h.1 (by simp)
  | _, [], _ :: _, _, hr => hr.elim
  | _, _ :: _, [], _, hr => hr.elim
section
variable {P : Program} {s : St} {Q : Exit → St → Prop}
/-- behind a piece of code: only some of the blocks are kept -/
theorem WpV.keep {c : Code} {Q' : Exit → St → Prop} (h : WpV P c Q' s) (hq : ∀ e s', Q' e s' → ∃ keep s'', KeepOK s.H.length keep s'.H s''.H ∧ renT (idxK keep) s'.t s''.t ∧ Q e s'') : WpV P c Q s := fun p w a Qr hR hQ => by
  refine h p w a Qr hR fun e s' p' a' w' hq' hR' hS => ?_
  obtain ⟨keep, s'', h1, h2, h3⟩ := hq e s' hq'
  rw [← hR.heap.n] at h1
  obtain ⟨k1, k2, k3⟩ := keep_ok hS hR'.heap h1
  exact hQ e s'' _ a' w' h3 ⟨hR'.defers, renT_rep k3 hR'.reps h2, k1⟩ k2

/-! ### entering a function -/
def bodyV (P : Program) (rs : List ResultVar) (n0 : Nat) (R : AV → List Blk → Prop) : Exit → St → Prop
  | .normal, s | .ret, s => allP (resL P s rs).1 ∧ ∃ keep H', KeepOK n0 keep s.H H' ∧ R (ren (idxK keep) (packE (resL P s rs).2)) H'
  | _, _ => False
theorem callsV_of {f : FuncId} {fn : Func} {c : Code} {args : List AV} {H : List Blk} {R : AV → List Blk → Prop} (hf : P.funcs[f]? = some fn) (hb : fn.body = some c)
    (h : WpV P c (bodyV P fn.results.toList H.length R) ⟨args ++ List.replicate (fn.ntmps - args.length) .junk, H⟩) : CallsV P f args H R := fun p w vals hH hv => by
  have hR : Rst p ⟨args ++ List.replicate (fn.ntmps - args.length) .junk, H⟩ { tmps := vals ++ Array.replicate (fn.ntmps - vals.size) undef, defers := [] } w := by
    refine ⟨rfl, ?_, hH⟩
    have hl : vals.size = args.length := by simpa using hv.1
    simp only [Array.toList_append, Array.toList_replicate, hl]
    refine hv.append ⟨by simp, fun i h1 h2 => ?_⟩
    simp only [List.getElem_replicate]
    trivial
  refine calls_of_wp hf hb (h p w _ _ hR fun e s' p' a' w' hq hR' hS => ?_)
  have key : allP (resL P s' fn.results.toList).1 ∧ (∃ keep H', KeepOK H.length keep s'.H H' ∧ R (ren (idxK keep) (packE (resL P s' fn.results.toList).2)) H') → a'.defers = [] ∧ ∃ v, (results fn a'.tmps).run P w' = .ok v w' ∧ ∃ v' av H' p', Ending.returned v = .returned v' ∧ R av H' ∧ RH p' H' w' ∧ Rep p' w' v' av ∧ Step p w p' w' := by
    rintro ⟨h1, keep, H', h2, h3⟩
    obtain ⟨v, h4, h5⟩ := run_resultsE hR' fn h1
    rw [← hH.n] at h2
    obtain ⟨k1, k2, k3⟩ := keep_ok hS hR'.heap h2
    exact ⟨hR'.defers, v, h4, v, _, H', _, rfl, h3, k1, h5.ren k3, k2⟩
  cases e with
  | normal => exact key hq
  | ret => exact key hq
  | _ => exact hq.elim
theorem CallsV.mono {f : FuncId} {args : List AV} {H : List Blk} {R R' : AV → List Blk → Prop} (h : CallsV P f args H R) (hr : ∀ av H', R av H' → R' av H') : CallsV P f args H R' := fun p w vals hH hv =>
  (h p w vals hH hv).mono fun e w' ⟨v, av, H', p', h1, h2, h3⟩ => ⟨v, av, H', p', h1, hr _ _ h2, h3⟩
/-- nothing is kept, one plain result -/
theorem keep_nil (H : List Blk) : KeepOK 0 [] H [] := ⟨List.nodup_nil, fun i h => by simp at h, Nat.le_refl _, fun j h => by omega, rfl, fun j h => by simp at h⟩

/-! ### a row that nobody writes any more -/
theorem frz_step {p : Pl} {H : List Blk} {w : World} (hH : RH p H w) (id : Nat) : RH ⟨p.n, fun i => if i = id then none else p.at_ i, p.x⟩ (H.set id .dead) w ∧ Step p w ⟨p.n, fun i => if i = id then none else p.at_ i, p.x⟩ w := by
  have hown : ∀ g, (⟨p.n, fun i => if i = id then none else p.at_ i, p.x⟩ : Pl).own g → p.own g := fun g ⟨j, hj⟩ => by
    simp only at hj
    split at hj
    · cases hj
    · exact ⟨j, hj⟩
  have hS : Step p w ⟨p.n, fun i => if i = id then none else p.at_ i, p.x⟩ w := ⟨rfl, rfl, rfl, Nat.le_refl _, Nat.le_refl _, fun i q _ hq => by
    simp only at hq
    split at hq
    · cases hq
    · exact ⟨hq, fun _ _ => rfl⟩, fun g _ h => hown g h, fun _ _ _ => rfl, rfl⟩
  refine ⟨⟨by simpa using hH.n, fun i hi => ?_, fun i j g hi hj => ?_, fun i hi => ?_, fun g hg => ⟨(hH.xs g hg).1, fun ho => (hH.xs g hg).2 (hown g ho)⟩⟩, hS⟩
  · simp only
    split
    · rfl
    · exact hH.out i hi
  · simp only at hi hj
    split at hi <;> split at hj
    · cases hi
    · cases hi
    · cases hj
    · exact hH.inj _ _ _ hi hj
  · rw [List.getElem_set]
    split
    · rename_i he
      show (if i = id then none else p.at_ i) = none
      rw [if_pos he.symm]
    · rename_i he
      exact (hH.blk i (by simpa using hi)).step hS (by simp only; rw [if_neg (fun h => he h.symm)]) fun _ _ => rfl
theorem RepC.toF {p : Pl} {w : World} {v : Value} {x : AV} (h : Rep0 p w v x) (hn : noid0 x = true) (hj : x ≠ .junk) : RepF p.M w v x := by
  cases x <;> first | exact (hj rfl).elim | (simp [noid0] at hn; done) | exact h
/-- a slice of a row that nobody writes any more is a value -/
theorem Rst.freeze {p s a w} (h : Rst p s a w) (i id st len sz : Nat) (t : TypeId) (xs : List AV) (hi : s.t[i]? = some (.sl id st len sz)) (hb : s.H[id]? = some (.row t xs)) (hn : ∀ x ∈ xs, noid0 x = true ∧ x ≠ .junk) (hl : st + len * sz ≤ xs.length) :
    ∃ p', Rst p' ⟨s.t.set i (.slv len sz ((xs.drop st).take (len * sz))), s.H.set id .dead⟩ a w ∧ Step p w p' w := by
  obtain ⟨h1, h2⟩ := frz_step h.heap id
  refine ⟨_, ⟨h.defers, ⟨by rw [List.length_set]; exact h.reps.1, fun j a1 a2 => ?_⟩, h1⟩, h2⟩
  have hjl : j < s.t.length := by rw [← h.reps.1]; exact a1
  rw [List.getElem_set]
  split
  · rename_i he
    subst he
    have hv := h.reps.2 i a1 hjl
    have hx : s.t[i] = .sl id st len sz := by
      obtain ⟨_, e⟩ := List.getElem?_eq_some_iff.1 hi
      exact e
    rw [hx] at hv
    generalize hgv : a.tmps.toList[i] = v at hv
    obtain ⟨q, hq⟩ := h.heap.live hb
    obtain ⟨oa, cap, rfl, b1, b2, b3, b4, b5⟩ := hv.2 q hq
    have hcl : ((xs.drop st).take (len * sz)).length = len * sz := by rw [List.length_take, List.length_drop]; omega
    rcases h.heap.row hb with ⟨c1, c2⟩ | ⟨g, cur, c1, c2, c3, c4⟩
    · subst c2
      have hlen : len = 0 := by
        have hm : len * sz = 0 := by simp at hl; omega
        rcases Nat.mul_eq_zero.1 hm with h' | h' <;> omega
      subst hlen
      refine RepF.rep (.slv oa (oa.getD ⟨0, 0, none⟩) _ _ _ _ (fun _ => undef) ?_ hcl b1 b2 b3 (fun i hi => by rw [hcl] at hi; omega) (fun i hi => by rw [hcl] at hi; omega))
      cases oa with
      | none => exact Or.inr ⟨rfl, b4 rfl⟩
      | some _ => exact Or.inl rfl
    · rw [c1] at hq
      cases hq
      have hex : ∀ k, k < len * sz → ∃ v, cur[st + k]? = some v ∧ RepC p w v (xs.getD (st + k) .junk) := fun k hk => by
        obtain ⟨v, d1, d2⟩ := c4 (st + k) (by omega)
        exact ⟨v, d1, by rw [getD_get _ _ (by omega)]; exact d2⟩
      refine RepF.rep (.slv oa (oa.getD ⟨0, 0, none⟩) _ _ _ _ (fun k => cur.getD (st + k) undef) ?_ hcl b1 b2 b3 (fun k hk => ?_) (fun k hk => ?_))
      · cases oa with
        | none => exact Or.inr ⟨rfl, b4 rfl⟩
        | some _ => exact Or.inl rfl
      · rw [hcl] at hk
        rcases b5 with h0 | ⟨g', e1, e2, e3⟩
        · have : len = 0 := by omega
          subst this; omega
        · cases e1
          subst e2
          obtain ⟨v, d1, d2⟩ := hex k hk
          have hgd : cur.getD (st + k) undef = v := by rw [Array.getD_eq_getD_getElem?, d1]; rfl
          refine ⟨rfl, (Array.getElem?_eq_some_iff.1 c2).1, fun hm => ?_, ?_, by rw [hgd]; exact d2.1⟩
          · rcases hm with ⟨l, hl'⟩ | hm
            · simp only at hl'
              split at hl'
              · cases hl'
              · rename_i hne; exact hne (h.heap.inj _ _ _ hl' c1)
            · exact (h.heap.xs _ hm).2 ⟨id, c1⟩
          · simp only [Option.getD_some]
            rw [cell_of_row w g _ cur t (0, 0) c2, d1, hgd]
      · rw [hcl] at hk
        obtain ⟨v, d1, d2⟩ := hex k hk
        have hgd : cur.getD (st + k) undef = v := by rw [Array.getD_eq_getD_getElem?, d1]; rfl
        have hmem : xs.getD (st + k) .junk ∈ xs := by rw [getD_get _ _ (by omega)]; exact List.getElem_mem _
        rw [hgd, getD_get _ _ (by rw [hcl]; exact hk), List.getElem_take, List.getElem_drop, ← getD_get _ _ (by omega)]
        refine RepF.anti (fun g' hg' => ?_) (RepC.toF d2.2 (hn _ hmem).1 (hn _ hmem).2)
        rcases hg' with ho | hx'
        · obtain ⟨l, hl'⟩ := ho
          simp only at hl'
          split at hl'
          · cases hl'
          · exact Or.inl ⟨l, hl'⟩
        · exact Or.inr hx'
  · exact (h.reps.2 j a1 hjl).step h2
end
/-! ### a law -/
theorem law_calls {P : Program} {f : FuncId} {args : List AV} (h : CallsV P f args [] fun av _ => av = .bool true) {w : World} {vals : Array Value} (hv : RepL (Rep ⟨0, fun _ => none, fun _ => False⟩ w) vals.toList args) :
    Calls P f vals w fun e w' => e = .returned (.bool true) ∧ Below w.heap.size w w' := by
  have hown0 : ∀ g, ¬ (⟨0, fun _ => none, fun _ => False⟩ : Pl).own g := fun g ⟨id, hid⟩ => by cases hid
  refine (h _ w vals ⟨rfl, fun _ _ => rfl, fun _ _ _ h => (by cases h), fun id h => absurd h (by simp), fun g (hg : False) => hg.elim⟩ hv).mono ?_
  rintro e w' ⟨v, av, H', p', rfl, rfl, _, hr, hS⟩
  exact ⟨by rw [rep_bool hr], hS.os, hS.tape, hS.output, hS.size, fun g hg => hS.froz g hg (hown0 g)⟩
end Go.Proofs.Ytkdgnjoofhckeaa.V
/-
  The logic of values: the rules as steps of a proof: pieces of a program are named by their place. Over any program.
-/
namespace Go.Proofs.Ytkdgnjoofhckeaa.V
open Go Go.RowKit
set_option linter.unusedSimpArgs false
set_option linter.unusedVariables false

def cL : Code → Code | .seq a _ => a | c => c
def cR : Code → Code | .seq _ b => b | c => c
def cC : Code → Operand | .cond c _ _ => c | _ => .func 0
def cT : Code → Code | .cond _ a _ => a | c => c
def cE : Code → Code | .cond _ _ b => b | c => c
def cB : Code → Code | .block _ b => b | .loop b => b | .scope b => b | c => c
def cO : Code → Array Oper | .region _ ops _ => ops | _ => #[]
def cI : Code → Nat | .block i _ => i | .exit i => i | .region i _ _ => i | _ => 0
def kd : Code → Nat
  | .skip => 0 | .region _ _ false => 1 | .region _ _ true => 2 | .seq _ _ => 3 | .cond _ _ _ => 4 | .block _ _ => 5 | .loop _ => 6 | .exit _ => 7 | .ret => 8 | .scope _ => 9 | .label _ => 10 | _ => 11
def bodyOf (fn : Func) : Code := fn.body.getD .skip
section
variable {P : Program} {s : St} {Q : Exit → St → Prop} {c : Code}
theorem q_seq (h : kd c = 3) (k : WpV P (cL c) (thenV P (cR c) Q) s) : WpV P c Q s := by cases c <;> first | exact wpV_seq k | (simp [kd] at h; done) | (rename_i d; cases d <;> simp [kd] at h)
theorem q_cond (h : kd c = 4) (b : Bool) (hc : s.ev (cC c) = .bool b) (h1 : b = true → WpV P (cT c) Q s) (h2 : b = false → WpV P (cE c) Q s) : WpV P c Q s := by cases c <;> first | exact wpV_cond b hc h1 h2 | (simp [kd] at h; done) | (rename_i d; cases d <;> simp [kd] at h)
theorem q_yes (h : kd c = 4) (b : Bool) (hc : s.ev (cC c) = .bool b) (hb : b = true) (h1 : WpV P (cT c) Q s) : WpV P c Q s := q_cond h b hc (fun _ => h1) (fun h => by rw [hb] at h; cases h)
theorem q_no (h : kd c = 4) (b : Bool) (hc : s.ev (cC c) = .bool b) (hb : b = false) (h1 : WpV P (cE c) Q s) : WpV P c Q s := q_cond h b hc (fun h => by rw [hb] at h; cases h) (fun _ => h1)
theorem q_block (h : kd c = 5) (k : WpV P (cB c) (blockV (cI c) Q) s) : WpV P c Q s := by cases c <;> first | exact wpV_block k | (simp [kd] at h; done) | (rename_i d; cases d <;> simp [kd] at h)
theorem q_loop (h : kd c = 6) (ks : List Nat) (n0 : Nat) (I : Nat → St → Prop) (h0 : I n0 (selS ks s)) (k : ∀ n s, I n s → WpV P (cB c) (loopV I ks n Q) s) : WpV P c Q s := by
  refine WpV.weaken (s' := selS ks s) ?_ fun p _ _ hR => ⟨p, hR.sel ks, Step.refl _ _⟩
  cases c <;> first | exact wpV_loop I ks n0 h0 k | (simp [kd] at h; done) | (rename_i d; cases d <;> simp [kd] at h)
theorem q_exit (h : kd c = 7) (i : Nat) (hi : cI c = i) (k : Q (.exit i) s) : WpV P c Q s := by
  subst hi
  cases c <;> first | exact wpV_exit k | (simp [kd] at h; done) | (rename_i d; cases d <;> simp [kd] at h)
theorem q_ret (h : kd c = 8) (k : Q .ret s) : WpV P c Q s := by cases c <;> first | exact wpV_ret k | (simp [kd] at h; done) | (rename_i d; cases d <;> simp [kd] at h)
theorem q_skip (h : kd c = 0) (k : Q .normal s) : WpV P c Q s := by cases c <;> first | exact wpV_skip k | (simp [kd] at h; done) | (rename_i d; cases d <;> simp [kd] at h)
theorem q_reg (h : kd c = 1) (k : RunN P (cO c) Q (List.range (cO c).size) s) : WpV P c Q s := by
  cases c <;> first | (simp [kd] at h; done) | skip
  rename_i i ops d
  cases d with
  | true => simp [kd] at h
  | false => exact wpV_region k
theorem q_draw (h : kd c = 2) (hm : P.follows .mixedOrders = true) (k : RunD P (cO c) Q (cO c).size (Array.replicate (cO c).size false) s) : WpV P c Q s := by
  cases c <;> first | (simp [kd] at h; done) | skip
  rename_i i ops d
  cases d with
  | false => simp [kd] at h
  | true => exact wpV_draw hm k
/-- a region of reading operations alone -/
def rg (P : Program) (c : Code) (s : St) : List Prop × St := pureN P (cO c) (cO c).size (List.range (cO c).size) s
theorem q_pure (C : Prop) (h : (kd c == 1 && true) = true) (hC : allP (rg P c s).1 = C) (hok : C) (k : Q .normal (rg P c s).2) : WpV P c Q s := by
  subst hC
  refine q_reg (by simpa using h) (runN_pure _ _ _ hok ?_)
  rw [List.drop_of_length_le (by simp)]
  exact runN_done k
theorem q_sp (C : Prop) (h : (kd c == 3 && kd (cL c) == 1) = true) (hC : allP (rg P (cL c) s).1 = C) (hok : C) (k : WpV P (cR c) Q (rg P (cL c) s).2) : WpV P c Q s := by
  simp only [Bool.and_eq_true, beq_iff_eq] at h
  exact q_seq h.1 (q_pure C (by simp [h.2]) hC hok k)
/-- the same state, written otherwise -/
theorem q_as {s' : St} (h : s = s') (k : WpV P c Q s') : WpV P c Q s := h ▸ k
theorem callsV_at {f : FuncId} {fn : Func} {args : List AV} {H : List Blk} {R : AV → List Blk → Prop} (hf : P.funcs[f]? = some fn) (hb : fn.body.isSome = true)
    (h : WpV P (bodyOf fn) (bodyV P fn.results.toList H.length R) ⟨args ++ List.replicate (fn.ntmps - args.length) .junk, H⟩) : CallsV P f args H R := by
  refine callsV_of hf ?_ h
  unfold bodyOf
  cases hb' : fn.body with
  | none => rw [hb'] at hb; cases hb
  | some c => rfl
end
end Go.Proofs.Ytkdgnjoofhckeaa.V
/-
  The logic of values: whole regions, step by step, with the states written out. Over any program.
-/
namespace Go.Proofs.Ytkdgnjoofhckeaa.V
open Go Go.RowKit
set_option linter.unusedSimpArgs false
set_option linter.unusedVariables false

/-- a state of n slots, those that matter written out -/
def lk (i : Nat) : List (Nat × AV) → AV
  | [] => .junk
  | (j, x) :: r => bif j == i then x else lk i r
def stOf (n : Nat) (l : List (Nat × AV)) (H : List Blk) : St := ⟨(List.range n).map fun i => lk i l, H⟩
section
variable {P : Program} {s s' : St} {Q : Exit → St → Prop} {c : Code} {ops : Array Oper} {l l' : List Nat}
theorem q_sel (ks : List Nat) (s' : St) (h : selS ks s = s') (k : WpV P c Q s') : WpV P c Q s := WpV.weaken (h ▸ k) fun p _ _ hR => ⟨p, hR.sel ks, Step.refl _ _⟩
theorem n_sel (ks : List Nat) (s' : St) (h : selS ks s = s') (k : RunN P ops Q l s') : RunN P ops Q l s := RunN.weaken (h ▸ k) fun p _ _ hR => ⟨p, hR.sel ks, Step.refl _ _⟩
/-- a slot's value, written otherwise -/
theorem q_set (i : Nat) (x y : AV) (hx : s.t.getD i .junk = x) (h : x = y) (k : WpV P c Q ⟨s.t.set i y, s.H⟩) : WpV P c Q s := WpV.weaken k fun p w _ hR => ⟨p, hR.set i y (fun v hv => by rw [hx, h] at hv; exact hv), Step.refl _ _⟩
theorem n_set (i : Nat) (x y : AV) (hx : s.t.getD i .junk = x) (h : x = y) (k : RunN P ops Q l ⟨s.t.set i y, s.H⟩) : RunN P ops Q l s := RunN.weaken k fun p w _ hR => ⟨p, hR.set i y (fun v hv => by rw [hx, h] at hv; exact hv), Step.refl _ _⟩

/-! ### what follows -/
theorem k_then {y : Code} (k : WpV P y Q s) : thenV P y Q .normal s := k
theorem k_thenx {y : Code} {i : Nat} (k : Q (.exit i) s) : thenV P y Q (.exit i) s := k
theorem k_thenr {y : Code} (k : Q .ret s) : thenV P y Q .ret s := k
theorem k_block {i : Nat} (k : Q .normal s) : blockV i Q .normal s := k
theorem k_blockx {i j : Nat} (h : j = i) (k : Q .normal s) : blockV i Q (.exit j) s := by subst h; simp [blockV, k]
theorem k_blocky {i j : Nat} (h : (j == i) = false) (k : Q (.exit j) s) : blockV i Q (.exit j) s := by
  have : j ≠ i := by simpa using h
  simp [blockV, this, k]
theorem k_blockr {i : Nat} (k : Q .ret s) : blockV i Q .ret s := k
theorem k_loop {I : Nat → St → Prop} {ks : List Nat} {n : Nat} (m : Nat) (h : m < n) (k : I m (selS ks s)) : loopV I ks n Q .normal s := ⟨m, h, k⟩
theorem k_loopx {I : Nat → St → Prop} {ks : List Nat} {n i : Nat} (k : Q (.exit i) s) : loopV I ks n Q (.exit i) s := k
theorem k_loopr {I : Nat → St → Prop} {ks : List Nat} {n : Nat} (k : Q .ret s) : loopV I ks n Q .ret s := k
theorem k_fin {rs : List ResultVar} {n0 : Nat} {R : AV → List Blk → Prop} (C : Prop) (av : AV) (keep : List Nat) (H' : List Blk) (av' : AV) (hC : allP (resL P s rs).1 = C) (hav : packE (resL P s rs).2 = av) (hren : ren (idxK keep) av = av') (hok : C) (hk : KeepOK n0 keep s.H H') (hr : R av' H') : bodyV P rs n0 R .ret s := by
  subst hC hav hren
  exact ⟨hok, keep, H', hk, hr⟩
theorem k_finn {rs : List ResultVar} {n0 : Nat} {R : AV → List Blk → Prop} (k : bodyV P rs n0 R .ret s) : bodyV P rs n0 R .normal s := k

/-! ### regions -/
def opAt (ops : Array Oper) (i : Nat) : Oper := (ops[i]?).getD default
def bytesT (P : Program) (e : TypeId) : Nat := match P.info? e with | some i => i.bytes | none => 0
/-- an operation that needs no call: what is asked, its value, the blocks behind it -/
def eff1 (P : Program) (ops : Array Oper) (s : St) (o : Oper) : List Prop × AV × List Blk :=
  match o.guard, o.op with
  | none, .box t x => match cellsAV s.H (s.ev x) with
    | some cs => ([], .ptr s.H.length 0, s.H ++ [.row t cs])
    | none => ([False], .junk, s.H)
  | none, .alloc t => match zeroL P t with
    | some cs => ([], .ptr s.H.length 0, s.H ++ [.row t cs])
    | none => ([False], .junk, s.H)
  | none, .store t x y => match s.ev x, cellsAV s.H (s.ev y) with
    | .ptr id off, some cs => match s.H[id]? with
      | some (.row t' xs) => (dec (knownT P t && sizeT P t == cs.length) ++ [off + cs.length ≤ xs.length], .junk, s.H.set id (.row t' (xs.take off ++ cs ++ xs.drop (off + cs.length))))
      | _ => ([False], .junk, s.H)
    | _, _ => ([False], .junk, s.H)
  | none, .buildSlice t len parts => match sliceLitE P s.H s.ev (elemTy P t) len parts with
    | some ds => (dec (elT P t (elemTy P t) (sizeT P (elemTy P t)) (bytesT P (elemTy P t)) && (knownT P (elemTy P t) && (decide (len * sizeT P (elemTy P t) ≤ 16777216) && ds.length == len * sizeT P (elemTy P t)))), .sl s.H.length 0 len (sizeT P (elemTy P t)), s.H ++ [.row (elemTy P t) ds])
    | none => ([False], .junk, s.H)
  | _, _ => match pure1 P ops s o with | (c, x) => (c, x, s.H)
theorem eff1_ok {o : Oper} (i : Nat) (ho : ops[i]? = some o) (hok : allP (eff1 P ops s o).1) (h : RunN P ops Q l (St.put ⟨s.t, (eff1 P ops s o).2.2⟩ o.dst (eff1 P ops s o).2.1)) : RunN P ops Q (i :: l) s := by
  unfold eff1 at hok h
  split at hok
  · rename_i t x hg hop
    simp only [hg, hop] at h
    split at hok
    · rename_i cs hc
      simp only [hc] at h
      exact runN_op ho (wanted_none hg) (op_box hop hc h).opV
    · exact hok.elim
  · rename_i t hg hop
    simp only [hg, hop] at h
    split at hok
    · rename_i cs hc
      simp only [hc] at h
      exact runN_op ho (wanted_none hg) (op_alloc hop hc h).opV
    · exact hok.elim
  · rename_i t x y hg hop
    simp only [hg, hop] at h
    split at hok
    · rename_i id off cs hx hy
      simp only [hx, hy] at h
      split at hok
      · rename_i t' xs hb
        simp only [hb] at h
        rw [allP_append, allP_dec] at hok
        simp only [Bool.and_eq_true, beq_iff_eq] at hok
        exact runN_op ho (wanted_none hg) (op_store hop hx hb hy hok.1 hok.2 h)
      · exact hok.elim
    · exact hok.elim
  · rename_i t len parts hg hop
    simp only [hg, hop] at h
    split at hok
    · rename_i ds hd
      simp only [hd] at h
      rw [allP_dec] at hok
      simp only [Bool.and_eq_true, beq_iff_eq] at hok
      exact runN_op ho (wanted_none hg) (op_sliceLit hop hok.1 hok.2.1 hd hok.2.2.1 hok.2.2.2 h).opV
    · exact hok.elim
  · rename_i hn1 hn2 hn3 hn4
    have h' : RunN P ops Q l (s.put o.dst (pure1 P ops s o).2) := by
      revert h
      split <;> intro h
      · rename_i t x hg hop; exact (hn1 _ _ hg hop).elim
      · rename_i t hg hop; exact (hn2 _ hg hop).elim
      · rename_i t x y hg hop; exact (hn3 _ _ _ hg hop).elim
      · rename_i t n ps hg hop; exact (hn4 _ _ _ hg hop).elim
      · exact h
    have hok' : allP (pure1 P ops s o).1 := hok
    unfold pure1 at hok' h'
    split at hok'
    · rename_i hg
      simp only [hg] at h'
      exact runN_op ho (wanted_none hg) ((pureE_ok rfl hok').opV h')
    · rename_i g hg
      simp only [hg] at h'
      split at hok'
      · rename_i b hb
        simp only [hb] at h'
        exact runN_guard ho hb hok' h'
      · exact hok'.elim
def effN (P : Program) (ops : Array Oper) : Nat → List Nat → St → List Prop × List Nat × St
  | 0, l, s => ([], l, s)
  | _ + 1, [], s => ([False], [], s)
  | n + 1, i :: l, s => match ops[i]? with
    | none => ([False], [], s)
    | some o => match eff1 P ops s o with
      | (c, x, H) => match effN P ops n l (St.put ⟨s.t, H⟩ o.dst x) with | (d, r) => (c ++ d, r)
theorem effN_ok : ∀ (n : Nat) (l : List Nat) (s : St), allP (effN P ops n l s).1 → RunN P ops Q (effN P ops n l s).2.1 (effN P ops n l s).2.2 → RunN P ops Q l s
  | 0, _, _, _, h => h
  | n + 1, [], s, hc, _ => hc.elim
  | n + 1, i :: l, s, hc, h => by
    unfold effN at hc h
    split at hc
    · exact hc.elim
    · rename_i o ho
      simp only [ho] at h
      obtain ⟨hc1, hc2⟩ := allP_append.1 hc
      exact eff1_ok i ho hc1 (effN_ok n l _ hc2 h)
/-- k operations without calls -/
theorem n_run (k : Nat) (C : Prop) (l' : List Nat) (s' : St) (h0 : (effN P ops k l s).2 = (l', s')) (hC : allP (effN P ops k l s).1 = C) (hok : C) (h : RunN P ops Q l' s') : RunN P ops Q l s := by
  subst hC
  exact effN_ok k l s hok (by rw [h0]; exact h)
theorem n_done (h : Q .normal s) : RunN P ops Q [] s := runN_done h
/-- a whole region without calls -/
theorem q_run (C : Prop) (ks : List Nat) (s' : St) (h : kd c = 1) (h0 : selS ks (effN P (cO c) (cO c).size (List.range (cO c).size) s).2.2 = s') (hl : (effN P (cO c) (cO c).size (List.range (cO c).size) s).2.1 = []) (hC : allP (effN P (cO c) (cO c).size (List.range (cO c).size) s).1 = C) (hok : C) (k : Q .normal s') : WpV P c Q s := by
  subst hC
  refine q_reg h (effN_ok _ _ _ hok ?_)
  rw [hl]
  refine n_sel ks s' h0 (n_done k)
/-- is the operation an unguarded call of f? -/
def isCall (o : Oper) (f : FuncId) (xs : List Operand) : Bool := match o.guard, o.op with
  | none, .call ⟨.value (.func g), ys, _⟩ => g == f && (ys.toList.length == xs.length && (ys.toList.zip xs).all fun q => match q with | (.tmp a, .tmp b) => a == b | _ => false)
  | _, _ => false
def callArgs (o : Oper) : List Operand := match o.op with | .call ⟨_, ys, _⟩ => ys.toList | _ => []
def calls (o : Oper) : Option FuncId := match o.guard, o.op with
  | none, .call ⟨.value (.func g), _, _⟩ => some g
  | _, _ => none
theorem calls_spec {o : Oper} {f : FuncId} (h : calls o = some f) : o.guard = none ∧ ∃ ts, o.op = .call ⟨.value (.func f), (callArgs o).toArray, ts⟩ := by
  unfold calls at h
  split at h
  · rename_i g ys ts hg hop
    cases h
    refine ⟨hg, ts, ?_⟩
    unfold callArgs
    rw [hop]
  · cases h
theorem opAt_get {i : Nat} (h : i < ops.size) : ops[i]? = some (opAt ops i) := by
  unfold opAt
  rw [Array.getElem?_eq_getElem h]
  rfl
/-- a call, by its contract -/
theorem n_call (f : FuncId) (as' : List AV) {R : AV → List Blk → Prop} {i : Nat} (hc : (decide (i < ops.size) && (callable P f && (match calls (opAt ops i) with | some g => g == f | none => false))) = true) (ha : (callArgs (opAt ops i)).map s.ev = as')
    (h : CallsV P f as' s.H R) (k : ∀ av H', R av H' → RunN P ops Q l (St.put ⟨s.t, H'⟩ (opAt ops i).dst av)) : RunN P ops Q (i :: l) s := by
  simp only [Bool.and_eq_true, decide_eq_true_eq] at hc
  obtain ⟨h1, h2, h3⟩ := hc
  have h4 : calls (opAt ops i) = some f := by
    split at h3
    · rename_i g hg; rw [hg]; simp only [beq_iff_eq] at h3; rw [h3]
    · cases h3
  obtain ⟨h5, ts, h6⟩ := calls_spec h4
  subst ha
  exact runN_op (opAt_get h1) (wanted_none h5) (op_call h6 h2 (by simpa using h.mono fun av H' hr => k av H' hr))
/-- a call that has no block of the run's own -/
theorem n_callq (f : FuncId) (as' : List AV) {R : AV → List Blk → Prop} {i : Nat} (hc : (decide (i < ops.size) && (callable P f && (match calls (opAt ops i) with | some g => g == f | none => false))) = true) (ha : (callArgs (opAt ops i)).map s.ev = as') (hn : as'.all noid1 = true)
    (h : CallsV P f as' [] R) (k : ∀ av H', R av H' → RunN P ops Q l (St.put ⟨s.t, s.H ++ H'.map (shiftB s.H.length)⟩ (opAt ops i).dst (ren (shf s.H.length) av))) : RunN P ops Q (i :: l) s := by
  simp only [Bool.and_eq_true, decide_eq_true_eq] at hc
  obtain ⟨h1, h2, h3⟩ := hc
  have h4 : calls (opAt ops i) = some f := by
    split at h3
    · rename_i g hg; rw [hg]; simp only [beq_iff_eq] at h3; rw [h3]
    · cases h3
  obtain ⟨h5, ts, h6⟩ := calls_spec h4
  subst ha
  exact runN_op (opAt_get h1) (wanted_none h5) (op_callB h6 h2 (by simpa using hn) (by simpa using h.mono fun av H' hr => k av H' hr)).opV
theorem ren0_noid {f : Nat → Option Nat} {x : AV} (h : noid0 x = true) (hf : ∀ a b c, x ≠ .fn a b c) : ren0 f x = x := by
  cases x <;> first | rfl | (simp [noid0] at h; done) | exact absurd rfl (hf _ _ _)
def plain0 : AV → Bool | .fn _ _ _ => false | x => noid0 x
def plain1 : AV → Bool | .agg cs => cs.all plain0 | .fn _ _ _ => false | .cnd _ _ => false | x => noid0 x
def plain2 : AV → Bool | .tuple vs => vs.all plain1 | x => plain1 x
theorem ren0_plain {f : Nat → Option Nat} {x : AV} (h : plain0 x = true) : ren0 f x = x := by
  cases x <;> first | rfl | (simp [plain0, noid0] at h; done)
theorem map_id_of {g : AV → AV} : ∀ (l : List AV), (∀ x ∈ l, g x = x) → l.map g = l
  | [], _ => rfl
  | a :: r, h => by rw [List.map_cons, h a (List.mem_cons_self), map_id_of r fun x hx => h x (List.mem_cons_of_mem _ hx)]
theorem ren1_plain {f : Nat → Option Nat} {x : AV} (h : plain1 x = true) : ren1 f x = x := by
  cases x
  case agg cs =>
    simp only [plain1, List.all_eq_true] at h
    simp only [ren1]
    rw [map_id_of cs fun x hx => ren0_plain (h x hx)]
  all_goals first | rfl | (simp [plain1, noid0] at h; done)
theorem ren_plain {f : Nat → Option Nat} {x : AV} (h : plain2 x = true) : ren f x = x := by
  cases x
  case tuple vs =>
    simp only [plain2, List.all_eq_true] at h
    simp only [ren, renP]
    rw [map_id_of vs fun x hx => ren1_plain (h x hx)]
  case agg cs => exact ren1_plain (x := .agg cs) h
  all_goals first | rfl | (simp [plain2, plain1, noid0] at h; done)
theorem noid1_plain2 {x : AV} (h : plain1 x = true) : notCnd x = true := by cases x <;> first | rfl | (simp [plain1] at h)
/-- is it a call of f, under a guard or not? -/
def callsG (o : Oper) : Option FuncId := match o.op with
  | .call ⟨.value (.func g), _, _⟩ => some g
  | _ => none
theorem callsG_spec {o : Oper} {f : FuncId} (h : callsG o = some f) : ∃ ts, o.op = .call ⟨.value (.func f), (callArgs o).toArray, ts⟩ := by
  unfold callsG at h
  split at h
  · rename_i g ys ts hop
    cases h
    refine ⟨ts, ?_⟩
    unfold callArgs
    rw [hop]
  · cases h
/-- a call with a plain result, that has no block of the run's own -/
theorem n_callp (f : FuncId) (as' : List AV) (x : AV) {i : Nat} (s' : St) (hc : (decide (i < ops.size) && (callable P f && (match calls (opAt ops i) with | some g => g == f | none => false))) = true) (ha : (callArgs (opAt ops i)).map s.ev = as') (hn : (as'.all noid1 && plain2 x) = true)
    (hs : s.put (opAt ops i).dst x = s') (h : CallsV P f as' [] fun av H' => av = x ∧ H' = []) (k : RunN P ops Q l s') : RunN P ops Q (i :: l) s := by
  simp only [Bool.and_eq_true] at hn
  refine n_callq f as' hc ha hn.1 h ?_
  rintro av H' ⟨rfl, rfl⟩
  rw [ren_plain hn.2, List.map_nil, List.append_nil]
  subst hs
  exact k
theorem n_callg (f : FuncId) (as' : List AV) (x : AV) (g : Bool) {i : Nat} (s' : St) (hc : (decide (i < ops.size) && (callable P f && (match callsG (opAt ops i) with | some g => g == f | none => false))) = true) (hg : guardE ops s (opAt ops i) = some g) (ha : (callArgs (opAt ops i)).map (evG s (callArgs (opAt ops i))) = as') (hn : (as'.all noid1 && plain1 x) = true)
    (hs : s.put (opAt ops i).dst (.cnd g x) = s') (C : Prop) (hC : allP (there s.ev (callArgs (opAt ops i))) = C) (ht : g = true → C) (h : g = true → CallsV P f as' [] fun av H' => av = x ∧ H' = []) (k : RunN P ops Q l s') : RunN P ops Q (i :: l) s := fun p w a Qr hR hQ => by
  subst hC ha hs
  simp only [Bool.and_eq_true, decide_eq_true_eq] at hc hn
  obtain ⟨h1, h2, h3⟩ := hc
  have h4 : callsG (opAt ops i) = some f := by
    split at h3
    · rename_i g' hg'; rw [hg']; simp only [beq_iff_eq] at h3; rw [h3]
    · cases h3
  obtain ⟨ts, h6⟩ := callsG_spec h4
  rw [wpOps_cons]
  unfold wpOp
  rw [opAt_get h1]
  simp only [guardE_wanted hg hR]
  cases g with
  | true =>
    simp only [if_true]
    refine Or.inl ?_
    have hrun : (execOp a.eval (opAt ops i)).run P w = .ok (.enter f ((callArgs (opAt ops i)).toArray.map a.eval)) w := by
      unfold execOp
      rw [h6]
      simp [resolve, invoke, Act.eval, Deferred.ofValue, run_callFunc h2]
    unfold Oper.wp
    rw [hrun, Oper.upon_enter]
    have hreps : RepL (Rep p w) ((callArgs (opAt ops i)).toArray.map a.eval).toList ((callArgs (opAt ops i)).map (evG s (callArgs (opAt ops i)))) :=
      ⟨by simp, fun j e1 e2 => by
        have := evG_rep (ht rfl) hR ((callArgs (opAt ops i))[j]'(by simpa using e2))
        simpa using this⟩
    refine ((h rfl).frame (fun y hy => List.all_eq_true.1 hn.1 y hy) hR.heap hreps).mono ?_
    rintro e w' ⟨v, av, H', p', rfl, ⟨rfl, rfl⟩, b1, b2, b3, b4⟩
    have hp2 : plain2 av = true := by cases av <;> first | exact hn.2 | (have := hn.2; simp [plain1, noid0] at this)
    rw [ren_plain hp2] at b2
    rw [List.map_nil, List.append_nil] at b1
    exact k p' w' _ Qr (Rst.put (hR.step b3 b1) _ ⟨fun _ => notCnd_repT b2 (noid1_plain2 hn.2), fun h => by cases h⟩) fun e s2 p2 a2 w2 q r kk => hQ e s2 p2 a2 w2 q r (b3.trans kk)
  | false =>
    simp only [Bool.false_eq_true, if_false]
    exact k p w _ Qr (hR.put _ ⟨fun h => (by cases h), fun _ => rfl⟩) hQ
end
end Go.Proofs.Ytkdgnjoofhckeaa.V
/-
  The logic of values: numbers within their bounds, regions that draw their order, results frozen. Over any program.
-/
namespace Go.Proofs.Ytkdgnjoofhckeaa.V
open Go Go.RowKit
set_option linter.unusedSimpArgs false
set_option linter.unusedVariables false

theorem wrap_i64 {e : Int} (h1 : -9223372036854775808 ≤ e) (h2 : e ≤ 9223372036854775807) : IntKind.i64.wrap e = e := by rw [IntKind.wrap_i64]; omega
theorem wrap_u8 {e : Int} (h1 : 0 ≤ e) (h2 : e ≤ 255) : IntKind.u8.wrap e = e := by
  simp only [IntKind.wrap, IntKind.signed, IntKind.bits, Bool.false_and, Bool.false_eq_true, if_false]; omega
theorem wrap_u16 {e : Int} (h1 : 0 ≤ e) (h2 : e ≤ 65535) : IntKind.u16.wrap e = e := by
  simp only [IntKind.wrap, IntKind.signed, IntKind.bits, Bool.false_and, Bool.false_eq_true, if_false]; omega
theorem wrap_u32 {e : Int} (h1 : 0 ≤ e) (h2 : e ≤ 4294967295) : IntKind.u32.wrap e = e := by
  simp only [IntKind.wrap, IntKind.signed, IntKind.bits, Bool.false_and, Bool.false_eq_true, if_false]; omega
theorem wrap_u64 {e : Int} (h1 : 0 ≤ e) (h2 : e ≤ 18446744073709551615) : IntKind.u64.wrap e = e := by
  simp only [IntKind.wrap, IntKind.signed, IntKind.bits, Bool.false_and, Bool.false_eq_true, if_false]; omega
theorem wrap_i32 {e : Int} (h1 : -2147483648 ≤ e) (h2 : e ≤ 2147483647) : IntKind.i32.wrap e = e := by
  simp only [IntKind.wrap, IntKind.signed, IntKind.bits]
  by_cases h : e % (2 ^ 32 : Int) ≥ 2 ^ (32 - 1)
  · simp only [h, decide_true, Bool.and_self, if_true]; omega
  · simp only [h, decide_false, Bool.and_false, Bool.false_eq_true, if_false]; omega
theorem wrap_i8 {e : Int} (h1 : -128 ≤ e) (h2 : e ≤ 127) : IntKind.i8.wrap e = e := by
  simp only [IntKind.wrap, IntKind.signed, IntKind.bits]
  by_cases h : e % (2 ^ 8 : Int) ≥ 2 ^ (8 - 1)
  · simp only [h, decide_true, Bool.and_self, if_true]; omega
  · simp only [h, decide_false, Bool.and_false, Bool.false_eq_true, if_false]; omega
section
variable {P : Program} {s s' : St} {Q : Exit → St → Prop} {c : Code} {ops : Array Oper} {l l' : List Nat}
/-- a slot's value, weakened -/
theorem q_weak (i : Nat) (x y : AV) (hx : s.t.getD i .junk = x) (h : ∀ (p : Pl) (w : World) (v : Value), Rep p w v x → Rep p w v y) (k : WpV P c Q ⟨s.t.set i y, s.H⟩) : WpV P c Q s := WpV.weaken k fun p _ w hR => ⟨p, hR.set i y (fun v hv => by rw [hx] at hv; exact h p w v hv), Step.refl _ _⟩
theorem n_weak (i : Nat) (x y : AV) (hx : s.t.getD i .junk = x) (h : ∀ (p : Pl) (w : World) (v : Value), Rep p w v x → Rep p w v y) (k : RunN P ops Q l ⟨s.t.set i y, s.H⟩) : RunN P ops Q l s := RunN.weaken k fun p _ w hR => ⟨p, hR.set i y (fun v hv => by rw [hx] at hv; exact h p w v hv), Step.refl _ _⟩
theorem nil_slv (sz : Nat) (h : 0 < sz) (p : Pl) (w : World) (v : Value) (hv : Rep p w v .nilsl) : Rep p w v (.slv 0 sz []) := by
  cases rep_nilsl hv
  exact RepF.rep (.slv none ⟨0, 0, none⟩ 0 0 sz [] (fun _ => undef) (Or.inr ⟨rfl, rfl⟩) (by simp) (Nat.le_refl _) (by simp [maxLen]) h (fun i hi => absurd hi (by simp)) (fun i hi => absurd hi (by simp)))
/-- a slice of a row that nobody writes any more is a value -/
theorem q_frz (i id st len sz : Nat) (t : TypeId) (xs : List AV) (hi : s.t[i]? = some (.sl id st len sz)) (hb : s.H[id]? = some (.row t xs)) (hn : ∀ x ∈ xs, noid0 x = true ∧ x ≠ .junk) (hl : st + len * sz ≤ xs.length)
    (k : WpV P c Q ⟨s.t.set i (.slv len sz ((xs.drop st).take (len * sz))), s.H.set id .dead⟩) : WpV P c Q s := WpV.weaken k fun p w _ hR => hR.freeze i id st len sz t xs hi hb hn hl
theorem n_frz (i id st len sz : Nat) (t : TypeId) (xs : List AV) (hi : s.t[i]? = some (.sl id st len sz)) (hb : s.H[id]? = some (.row t xs)) (hn : ∀ x ∈ xs, noid0 x = true ∧ x ≠ .junk) (hl : st + len * sz ≤ xs.length)
    (k : RunN P ops Q l ⟨s.t.set i (.slv len sz ((xs.drop st).take (len * sz))), s.H.set id .dead⟩) : RunN P ops Q l s := RunN.weaken k fun p w _ hR => hR.freeze i id st len sz t xs hi hb hn hl
/-- an append -/
theorem n_append (t e sz bytes len m : Nat) {k : Option Nat} (xs ys : List AV) {i : Nat} (x y : Operand) (s' : St) (ho : (decide (i < ops.size) && (match (opAt ops i).guard, (opAt ops i).op with | none, .call ⟨.builtin .append, ⟨[_, _]⟩, ⟨[t1, t2]⟩⟩ => t1 == t && t2 == t | _, _ => false)) = true)
    (hxy : callArgs (opAt ops i) = [x, y]) (hT : elT P t e sz bytes = true) (hd : IsDst s.H e sz (s.ev x) k len xs) (hs : IsSrc s.H sz (s.ev y) m ys) (hb : (len + m) * bytes ≤ 140737488355328) (hm : len + m ≤ maxLen)
    (he : St.put ⟨s.t, killB s.H k ++ [.row e (xs ++ ys)]⟩ (opAt ops i).dst (.sl s.H.length 0 (len + m) sz) = s') (h : RunN P ops Q l s') : RunN P ops Q (i :: l) s := by
  simp only [Bool.and_eq_true, decide_eq_true_eq] at ho
  obtain ⟨h1, h2⟩ := ho
  subst he
  split at h2
  · rename_i a b t1 t2 hg hop
    simp only [Bool.and_eq_true, beq_iff_eq] at h2
    obtain ⟨rfl, rfl⟩ := h2
    have hab : a = x ∧ b = y := by simpa [callArgs, hop] using hxy
    obtain ⟨rfl, rfl⟩ := hab
    exact runN_op (opAt_get h1) (wanted_none hg) (op_append (ty := 0) hop hT hd hs hb hm h)
  · cases h2
/-! ### regions that draw their order, step by step -/
theorem d_takes (is : List Nat) (C : Prop) (m : Nat) (listed' : Array Bool) (s' : St) {n : Nat} {listed : Array Bool} (hn : m + is.length = n) (h0 : (takeN P ops is listed s).2 = (listed', s')) (hC : allP (takeN P ops is listed s).1 = C) (hok : C) (h : RunD P ops Q m listed' s') : RunD P ops Q n listed s := by
  subst hn hC
  exact runD_takes is m listed s hok (by rw [h0]; exact h)
theorem d_done {n : Nat} {listed : Array Bool} (ks : List Nat) (s' : St) (hr : Region.ready .any ops listed = []) (hs : selS ks s = s') (h : Q .normal s') : RunD P ops Q n listed s := RunD.weaken (runD_done hr (hs ▸ h)) fun p _ _ hR => ⟨p, hR.sel ks, Step.refl _ _⟩
theorem d_callp (i f : Nat) (as' : List AV) (x : AV) (m : Nat) (listed' : Array Bool) (s' : St) {n : Nat} {listed : Array Bool} (hn : m + 1 = n) (hr : Region.ready .any ops listed = [i]) (hc : (decide (i < ops.size) && (callable P f && (match calls (opAt ops i) with | some g => g == f | none => false))) = true)
    (ha : (callArgs (opAt ops i)).map s.ev = as') (hpl : (as'.all noid1 && plain2 x) = true) (hl : listed.setIfInBounds i true = listed') (hs : s.put (opAt ops i).dst x = s') (h : CallsV P f as' [] fun av H' => av = x ∧ H' = []) (k : RunD P ops Q m listed' s') : RunD P ops Q n listed s := by
  subst hn ha hs hl
  simp only [Bool.and_eq_true, decide_eq_true_eq] at hc hpl
  obtain ⟨h1, h2, h3⟩ := hc
  have h4 : calls (opAt ops i) = some f := by
    split at h3
    · rename_i g hg; rw [hg]; simp only [beq_iff_eq] at h3; rw [h3]
    · cases h3
  obtain ⟨h5, ts, h6⟩ := calls_spec h4
  refine runD_one i (opAt_get h1) hr (wanted_none h5) (op_callB h6 h2 (by simpa using hpl.1) ?_)
  refine (show CallsV P f ((callArgs (opAt ops i)).toArray.toList.map s.ev) [] _ from by simpa using h).mono ?_
  rintro av H' ⟨rfl, rfl⟩
  rw [ren_plain hpl.2, List.map_nil, List.append_nil]
  exact k
/-- a new block among operations that draw their order -/
theorem d_new (i m : Nat) (listed' : Array Bool) (s' : St) {n : Nat} {listed : Array Bool} (hn : m + 1 = n) (hr : Region.ready .any ops listed = [i]) (C : Prop)
    (ho : (decide (i < ops.size) && (match (opAt ops i).guard, (opAt ops i).op with | none, .box _ _ => true | none, .alloc _ => true | none, .buildSlice _ _ _ => true | _, _ => false)) = true) (hC : allP (eff1 P ops s (opAt ops i)).1 = C) (hok : C)
    (hl : listed.setIfInBounds i true = listed') (hs : St.put ⟨s.t, (eff1 P ops s (opAt ops i)).2.2⟩ (opAt ops i).dst (eff1 P ops s (opAt ops i)).2.1 = s') (k : RunD P ops Q m listed' s') : RunD P ops Q n listed s := by
  subst hn hC hs hl
  simp only [Bool.and_eq_true, decide_eq_true_eq] at ho
  obtain ⟨h1, h2⟩ := ho
  unfold eff1 at hok k
  split at h2
  · rename_i t x hg hop
    simp only [hg, hop] at hok k
    split at hok
    · rename_i cs hc
      simp only [hc] at k
      exact runD_one i (opAt_get h1) hr (wanted_none hg) (op_box hop hc k)
    · exact hok.elim
  · rename_i t hg hop
    simp only [hg, hop] at hok k
    split at hok
    · rename_i cs hc
      simp only [hc] at k
      exact runD_one i (opAt_get h1) hr (wanted_none hg) (op_alloc hop hc k)
    · exact hok.elim
  · rename_i t len parts hg hop
    simp only [hg, hop] at hok k
    split at hok
    · rename_i ds hd
      simp only [hd] at k
      rw [allP_dec] at hok
      simp only [Bool.and_eq_true, beq_iff_eq] at hok
      exact runD_one i (opAt_get h1) hr (wanted_none hg) (op_sliceLit hop hok.1 hok.2.1 hd hok.2.2.1 hok.2.2.2 k)
    · exact hok.elim
  · cases h2
theorem d_set {n : Nat} {listed : Array Bool} (i : Nat) (x y : AV) (hx : s.t.getD i .junk = x) (h : x = y) (k : RunD P ops Q n listed ⟨s.t.set i y, s.H⟩) : RunD P ops Q n listed s := RunD.weaken k fun p w _ hR => ⟨p, hR.set i y (fun v hv => by rw [hx, h] at hv; exact hv), Step.refl _ _⟩
end
/-! ### lists of things that take several cells -/
def flatA {α : Type} (enc : α → List AV) (xs : List α) : List AV := xs.flatMap enc
section
variable {α : Type} {enc : α → List AV} {n : Nat}
theorem flatA_length (h : ∀ x, (enc x).length = n) (xs : List α) : (flatA enc xs).length = xs.length * n := by
  induction xs with
  | nil => simp [flatA]
  | cons x r ih => simp only [flatA, List.flatMap_cons, List.length_append, List.length_cons] at ih ⊢; rw [ih, h, Nat.succ_mul, Nat.add_comm]
theorem flatA_cons (x : α) (xs : List α) : flatA enc (x :: xs) = enc x ++ flatA enc xs := rfl
theorem flatA_append (xs ys : List α) : flatA enc (xs ++ ys) = flatA enc xs ++ flatA enc ys := by simp [flatA]
theorem flatA_drop (h : ∀ x, (enc x).length = n) (xs : List α) (k : Nat) : (flatA enc xs).drop (k * n) = flatA enc (xs.drop k) := by
  induction xs generalizing k with
  | nil => simp [flatA]
  | cons x r ih =>
    cases k with
    | zero => simp
    | succ k => rw [flatA_cons, List.drop_succ_cons, List.drop_append, h, Nat.succ_mul, Nat.add_sub_cancel, ih, List.drop_eq_nil_of_le (by rw [h]; omega), List.nil_append]
theorem flatA_take (h : ∀ x, (enc x).length = n) (xs : List α) (k : Nat) : (flatA enc xs).take (k * n) = flatA enc (xs.take k) := by
  induction xs generalizing k with
  | nil => simp [flatA]
  | cons x r ih =>
    cases k with
    | zero => simp [flatA]
    | succ k => rw [flatA_cons, List.take_succ_cons, flatA_cons, List.take_append, h, Nat.succ_mul, Nat.add_sub_cancel, ih, List.take_of_length_le (by rw [h]; omega)]
theorem flatA_at (h : ∀ x, (enc x).length = n) (xs : List α) (d : α) (k : Nat) (hk : k < xs.length) : (flatA enc xs).drop ((k : Int).toNat * n) = enc (xs.getD k d) ++ flatA enc (xs.drop (k + 1)) := by
  rw [Int.toNat_natCast, flatA_drop h, List.drop_eq_getElem_cons hk, flatA_cons]
  simp [List.getD_eq_getElem?_getD, hk]
theorem flatA_all {p : AV → Prop} (h : ∀ x, ∀ a ∈ enc x, p a) (xs : List α) : ∀ a ∈ flatA enc xs, p a := fun a ha => by
  simp only [flatA, List.mem_flatMap] at ha
  obtain ⟨x, _, hx⟩ := ha
  exact h x a hx
end
/-! ### loops whose rounds leave blocks behind -/
theorem renT_map (f : Nat → Option Nat) (xs : List AV) : renT f xs (xs.map (ren f)) := by
  induction xs with
  | nil => trivial
  | cons a r ih => exact ⟨Or.inr rfl, ih⟩
def dropI (n0 : Nat) (I : Nat → St → Prop) (m : Nat) (s : St) : Prop := ∃ keep s3, KeepOK n0 keep s.H s3.H ∧ renT (idxK keep) s.t s3.t ∧ I m s3
section
variable {P : Program} {Q : Exit → St → Prop} {s : St} {c : Code}
theorem wpV_loopd (I : Nat → St → Prop) (ks : List Nat) (n0 : Nat) (h0 : I n0 s) (h : ∀ n s1, I n s1 → WpV P c (loopV (dropI s.H.length I) ks n Q) s1) : WpV P (.loop c) Q s := fun p w a Qr hR hQ => by
  refine wp_loop_ghost (fun n a' w' => ∃ s' p', I n s' ∧ Rst p' s' a' w' ∧ Step p w p' w') n0 ⟨s, p, h0, hR, Step.refl _ _⟩ ?_
  rintro n a1 w1 ⟨s1, p1, hI, hR1, hS1⟩
  refine h n s1 hI p1 w1 a1 _ hR1 fun e s2 p2 a2 w2 hq hR2 hS2 => ?_
  cases e with
  | normal =>
    obtain ⟨m, hm, keep, s3, h1, h2, h3⟩ := hq
    have hR3 := hR2.sel ks
    rw [← hR.heap.n] at h1
    obtain ⟨k1, k2, k3⟩ := keep_ok (hS1.trans hS2) hR3.heap h1
    exact ⟨m, hm, s3, _, h3, ⟨hR3.defers, renT_rep k3 hR3.reps h2, k1⟩, k2⟩
  | _ => exact hQ _ _ _ _ _ hq hR2 (hS1.trans hS2)
theorem q_loopd (h : kd c = 6) (ks : List Nat) (n0 : Nat) (I : Nat → St → Prop) (h0 : I n0 (selS ks s)) (k : ∀ n s1, I n s1 → WpV P (cB c) (loopV (dropI (selS ks s).H.length I) ks n Q) s1) : WpV P c Q s := by
  refine WpV.weaken (s' := selS ks s) ?_ fun p _ _ hR => ⟨p, hR.sel ks, Step.refl _ _⟩
  cases c <;> first | exact wpV_loopd I ks n0 h0 k | (simp [kd] at h; done) | (rename_i d; cases d <;> simp [kd] at h)
/-- a round's end: every block that the round made is left behind -/
theorem k_loopd {I : Nat → St → Prop} {ks : List Nat} {n : Nat} (m : Nat) (h : m < n) (k : I m ⟨(selS ks s).t.map (ren (idxK [])), []⟩) : loopV (dropI 0 I) ks n Q .normal s :=
  ⟨m, h, [], _, keep_nil _, renT_map _ _, k⟩
/-- the same where one row of plain cells goes on -/
theorem k_loopd1 {I : Nat → St → Prop} {ks : List Nat} {n : Nat} (m : Nat) (h : m < n) (j : Nat) (t : TypeId) (xs : List AV) (hj : s.H[j]? = some (.row t xs)) (hn : ∀ x ∈ xs, noid0 x = true)
    (k : I m ⟨(selS ks s).t.map (ren (idxK [j])), [.row t xs]⟩) : loopV (dropI 0 I) ks n Q .normal s := by
  refine ⟨m, h, [j], ⟨_, [.row t xs]⟩, ⟨by simp, fun i hi => ?_, by simp, fun i hi => by omega, rfl, fun i h1 h2 h3 => ?_⟩, renT_map _ _, k⟩
  · obtain rfl : i = j := by simpa using hi
    exact (List.getElem?_eq_some_iff.1 hj).1
  · obtain rfl : i = 0 := by simp at h1; omega
    obtain ⟨q1, q2⟩ := List.getElem?_eq_some_iff.1 hj
    simp only [List.getElem_cons_zero] at h2 ⊢
    simp only [selS] at h2 ⊢
    rw [q2]
    exact ⟨rfl, Or.inl ⟨rfl, hn⟩⟩
end
end Go.Proofs.Ytkdgnjoofhckeaa.V
/-
  The logic of values: further operations: make of slices, strings to bytes, closures, iterators over strings. Over any program.
-/
namespace Go.Proofs.Ytkdgnjoofhckeaa.V
open Go Go.RowKit
set_option linter.unusedSimpArgs false
set_option linter.unusedVariables false

/-- a new block of any kind -/
theorem mv_gen {p : Pl} {H : List Blk} {w w' : World} (hH : RH p H w) (B : Blk) (g0 : Nat)
    (hB : Below w.heap.size w w') (hg0 : w.heap.size ≤ g0)
    (hblk : Step p w (p.mv none (some g0)) w' → BlkIs (p.mv none (some g0)) w' p.n B) :
    RH (p.mv none (some g0)) (H ++ [B]) w' ∧ Step p w (p.mv none (some g0)) w' := by
  have hfroz : ∀ g, g < w.heap.size → w'.heap[g]? = w.heap[g]? := fun g hg => hB.block g hg
  have hat : ∀ id q0, (p.mv none (some g0)).at_ id = some q0 → (id = p.n ∧ q0 = some g0) ∨ (id < p.n ∧ p.at_ id = some q0) := by
    intro id q0 h
    simp only [Pl.mv] at h
    split at h
    · rename_i he; exact Or.inl ⟨he, by cases h; rfl⟩
    · split at h
      · cases h
      · rename_i h1 h2
        refine Or.inr ⟨?_, h⟩
        rcases Nat.lt_or_ge id p.n with h3 | h3
        · exact h3
        · rw [hH.out id h3] at h; cases h
  have hs : Step p w (p.mv none (some g0)) w' := by
    refine ⟨hB.os, hB.tape, hB.output, hB.size, Nat.le_succ _, fun id q0 hid h => ?_, fun g hg hm => ?_, fun g hg hm => hfroz g hg, rfl⟩
    · rcases hat id q0 h with ⟨h1, _⟩ | ⟨_, h3⟩
      · omega
      · refine ⟨h3, fun g hg => ?_⟩
        subst hg
        unfold rowSize
        rw [hfroz g (hH.lt g ⟨id, h3⟩)]
    · obtain ⟨id, hid⟩ := hm
      rcases hat id _ hid with ⟨_, h2⟩ | ⟨_, h3⟩
      · cases h2; omega
      · exact ⟨id, h3⟩
  refine ⟨⟨?_, fun id hid => ?_, fun i j g hi hj => ?_, fun id hid => ?_, fun g hg => ⟨Nat.lt_of_lt_of_le (hH.xs g hg).1 hB.size, fun ho => (hH.xs g hg).2 (hs.old g (hH.xs g hg).1 ho)⟩⟩, hs⟩
  · simp [Pl.mv, hH.n]
  · simp only [Pl.mv] at hid ⊢
    rw [if_neg (by omega), if_neg (by simp)]
    exact hH.out id (by omega)
  · have new : ∀ i, p.at_ i = some (some g0) → False := fun i h3 => by have := hH.lt g0 ⟨i, h3⟩; omega
    rcases hat i _ hi with ⟨h1, h2⟩ | ⟨h1, h3⟩ <;> rcases hat j _ hj with ⟨h4, h5⟩ | ⟨h4, h6⟩
    · omega
    · cases h2; exact (new j h6).elim
    · cases h5; exact (new i h3).elim
    · exact hH.inj _ _ _ h3 h6
  · simp only [List.length_append, List.length_singleton] at hid
    by_cases hlt : id < H.length
    · rw [List.getElem_append_left hlt]
      have hne : id ≠ p.n := by rw [hH.n]; omega
      have hb := hH.blk id hlt
      have ha : (p.mv none (some g0)).at_ id = p.at_ id := by simp [Pl.mv, hne]
      exact hb.step hs ha fun g hg => hfroz g (hH.lt g ⟨id, hg⟩)
    · have he : id = H.length := by omega
      subst he
      rw [List.getElem_append_right (Nat.le_refl _)]
      simp only [Nat.sub_self, List.getElem_cons_zero]
      rw [← hH.n]
      exact hblk hs
theorem below_alloc (w : World) (o : Obj) : Below w.heap.size w (w.alloc o) := by
  refine ⟨rfl, rfl, rfl, by show w.heap.size ≤ (w.heap.push o).size; simp, fun g hg => ?_⟩
  show (w.heap.push o)[g]? = _
  rw [Array.getElem?_push_lt hg, Array.getElem?_eq_getElem hg]
/-- a block that is no row, written anew in its place -/
theorem set_gen {p : Pl} {H : List Blk} {w w' : World} (hH : RH p H w) {id g : Nat} (B : Blk) (hl : id < H.length) (hg : p.at_ id = some (some g))
    (hos : w'.os = w.os) (htape : w'.tape = w.tape) (hout : w'.output = w.output) (hsz : w'.heap.size = w.heap.size) (hoth : ∀ g', g' ≠ g → w'.heap[g']? = w.heap[g']?) (hrs : rowSize w' g = rowSize w g)
    (hblk : Step p w p w' → BlkIs p w' id B) : RH p (H.set id B) w' ∧ Step p w p w' := by
  have hst : Step p w p w' := by
    refine ⟨hos, htape, hout, by omega, Nat.le_refl _, fun j q _ hq => ⟨hq, fun g' hg' => ?_⟩, fun _ _ h => h, fun g' hg' hm => hoth g' (fun he => hm (he ▸ ⟨id, hg⟩)), rfl⟩
    by_cases he : g' = g
    · subst he; exact hrs
    · unfold rowSize; rw [hoth g' he]
  refine ⟨⟨by rw [List.length_set]; exact hH.n, hH.out, hH.inj, fun j hj => ?_, fun g' hg' => ⟨Nat.lt_of_lt_of_le (hH.xs g' hg').1 hst.size, (hH.xs g' hg').2⟩⟩, hst⟩
  rw [List.getElem_set]
  split
  · rename_i he; subst he; exact hblk hst
  · rename_i he
    exact (hH.blk j (by rw [List.length_set] at hj; exact hj)).step hst rfl fun g' hg' => hoth g' (fun h => he (hH.inj _ _ _ hg (h ▸ hg')))
section
variable {P : Program} {s : St} {o : Oper} {R : AV → List Blk → Prop}
/-- make of a slice -/
theorem op_makeSlice {t e : TypeId} {sz bytes : Nat} {l c : Operand} {kl kc : IntKind} {n m : Int} {zs : List AV} (ho : o.op = .makeSlice t l c) (hT : elT P t e sz bytes = true) (hz : zeroL P e = some zs)
    (hl : s.ev l = .int kl n) (hc : s.ev c = .int kc m) (h0 : 0 ≤ n) (hnm : n ≤ m) (hb : (bytes : Int) * m ≤ 281474976710656) (hm : m ≤ 9223372036854775807)
    (h : R (.sl s.H.length 0 n.toNat sz) (s.H ++ [.row e (zerosL zs (m.toNat * sz))])) : OpB P o s R := opB_of fun p w a hR => by
  obtain ⟨hu, i, z, hi, hzi, hzs, hpos, rfl, rfl⟩ := elT_spec hT
  have el := rep_int (hl ▸ hR.ev l)
  have ec := rep_int (hc ▸ hR.ev c)
  have hrun := run_make (P := P) w t e i z hu hi hzi kl kc n m h0 hnm hb hm
  unfold zeroL at hz
  simp only [hi, hzi] at hz
  have hzr := zeros_rep (consts_rep (p := p) (w := w) hz) (m.toNat * i.size) (by simpa [hzs] using hpos)
  obtain ⟨r1, r2, r3⟩ := alloc_ok hR.heap (madeCells z.cells (m.toNat * i.size)) e _ hzr
  refine ⟨.slice (some ⟨w.heap.size, 0, none⟩) n.toNat m.toNat, _, _, _, _, ?_, h, r1, ?_, r2, r3⟩
  · unfold execOp
    rw [ho]
    simp only [el, ec, Sem.run_bind, hrun, Result.andThen_ok, Sem.run_pure]
  · refine ⟨by simp [Pl.mv, hR.heap.n], fun q hq => ?_⟩
    simp only [Pl.mv, hR.heap.n, if_true, Option.some.injEq] at hq
    refine ⟨_, _, rfl, by omega, by unfold maxLen; omega, hpos, (fun h => by cases h), Or.inr ⟨_, hq.symm, rfl, ?_⟩⟩
    unfold rowSize
    rw [heap_alloc_new]
    simp [size_madeCells]
/-- the bytes of a string, as values -/
def bytesAV (s : ByteArray) : List AV := s.data.toList.map fun b => .int .u8 (b.toNat : Int)
theorem op_strBytes {src dst e : TypeId} {x : Operand} {b : ByteArray} {u : TypeDesc} (ho : o.op = .convert src dst x) (hs : P.underlying src = some u) (hd : P.underlying dst = some (.slice e)) (he : P.underlying e = some (.int .u8))
    (hx : s.ev x = .str b) (hb : b.size ≤ maxLen) (h : R (.slv b.size 1 (bytesAV b)) s.H) : OpB P o s R := opB_of fun p w a hR => by
  have ex := rep_str (hx ▸ hR.ev x)
  have hB : Below w.heap.size w (Lib.bytesWorld w e b) := by
    refine ⟨rfl, rfl, rfl, by rw [Lib.bytesWorld_size]; omega, fun g hg => Lib.bytesWorld_at_old w e b g hg⟩
  refine ⟨.slice (some ⟨w.heap.size, 0, none⟩) b.size (grownCap w b.size 0 e), _, _, p, _, ?_, h, hR.heap.below hB, ?_, Step.of_below hB hR.heap.lt, hB⟩
  · unfold execOp
    rw [ho]
    simp only [ex, Sem.run_bind, Lib.run_convert_string_bytes w src dst e b hs hd he, Result.andThen_ok, Sem.run_pure]
  · have hlen : (bytesAV b).length = b.size := by simp [bytesAV]
    refine RepF.rep (.slv _ ⟨w.heap.size, 0, none⟩ b.size _ 1 (bytesAV b) (fun j => .int .u8 (b.data.toList.getD j 0).toNat) (Or.inl rfl) (by rw [hlen, Nat.mul_one]) (grownCap_ge _ _ _ _) (grownCap_le_maxLen _ _ _ _ hb) (by omega) (fun i hi => ?_) (fun i hi => ?_))
    · rw [hlen] at hi
      refine ⟨rfl, by rw [Lib.bytesWorld_size]; simp, fun hm => ?_, ?_, rfl⟩
      · rcases hm with hm | hm
        · have := hR.heap.lt _ hm; simp at this
        · have := (hR.heap.xs _ hm).1; simp at this
      · simp only [Nat.zero_add]; exact Lib.bytesWorld_cell w e b i hi
    · have hi' : i < b.data.toList.length := by simpa [bytesAV] using hi
      have : (bytesAV b).getD i .junk = .int .u8 (b.data.toList.getD i 0).toNat := by
        rw [List.getD_eq_getElem?_getD, List.getElem?_eq_getElem hi, List.getD_eq_getElem?_getD, List.getElem?_eq_getElem hi']
        simp [bytesAV]
      rw [this]
      exact .int _ _
/-- a function value with what it captures -/
theorem op_makeFunc {f : Fn} {fs cs : Array Operand} (ho : o.op = .makeFunc f fs cs) (h1 : ∀ x ∈ fs.toList, leafOK s.H (s.ev x) = true) (h2 : ∀ x ∈ cs.toList, leafOK s.H (s.ev x) = true)
    (h : R (.fn f (fs.toList.map s.ev) (cs.toList.map s.ev)) s.H) : OpB P o s R := opB_of fun p w a hR => by
  refine ⟨.func f (fs.map a.eval) (cs.map a.eval), _, _, p, w, ?_, h, hR.heap, ?_, Step.refl _ _, Below.refl _ _⟩
  · unfold execOp
    rw [ho]
    rfl
  · have key : ∀ l : List Operand, (∀ x ∈ l, leafOK s.H (s.ev x) = true) → RepL (Rep0 p w) (l.map a.eval) (l.map s.ev) := fun l hl =>
      ⟨by simp, fun i a1 a2 => by simp only [List.getElem_map]; exact (leaf_one hR.heap (hR.ev _) (hl _ (List.getElem_mem _))).2⟩
    exact ⟨_, _, rfl, by simpa using key fs.toList h1, by simpa using key cs.toList h2⟩
/-- a call of a function value -/
theorem op_callv {x : Operand} {f : FuncId} {fs cs : List AV} {xs : Array Operand} {ts : Array TypeId} (ho : o.op = .call ⟨.value x, xs, ts⟩) (hx : s.ev x = .fn (.func f) fs cs) (hc : callable P f = true) (h : CallsV P f (fs ++ xs.toList.map s.ev ++ cs) s.H R) : OpV P o s R := fun p w a K Q hR hK => by
  have hv := hR.ev x
  rw [hx] at hv
  obtain ⟨vs, us, e1, e2, e3⟩ := hv
  have hrun : (execOp a.eval o).run P w = .ok (.enter f (vs ++ xs.map a.eval ++ us)) w := by
    unfold execOp
    rw [ho]
    simp [resolve, invoke, e1, Deferred.ofValue, run_callFunc hc]
  unfold Oper.wp
  rw [hrun, Oper.upon_enter]
  refine (h p w (vs ++ xs.map a.eval ++ us) hR.heap ?_).mono ?_
  · simp only [Array.toList_append, Array.toList_map]
    exact ((e2.mono fun _ _ => Rep0.rep).append (evals hR xs.toList)).append (e3.mono fun _ _ => Rep0.rep)
  · rintro e w' ⟨v, av, H', p', rfl, h1, h2, h3, h4⟩
    exact hK v av H' p' w' h1 h2 h3 h4
theorem op_callvB {x : Operand} {f : FuncId} {fs cs : List AV} {xs : Array Operand} {ts : Array TypeId} (ho : o.op = .call ⟨.value x, xs, ts⟩) (hx : s.ev x = .fn (.func f) fs cs) (hc : callable P f = true) (hn : (fs ++ xs.toList.map s.ev ++ cs).all noid1 = true)
    (h : CallsV P f (fs ++ xs.toList.map s.ev ++ cs) [] fun av H' => R (ren (shf s.H.length) av) (s.H ++ H'.map (shiftB s.H.length))) : OpB P o s R := fun p w a K Q hR hK => by
  have hv := hR.ev x
  rw [hx] at hv
  obtain ⟨vs, us, e1, e2, e3⟩ := hv
  have hrun : (execOp a.eval o).run P w = .ok (.enter f (vs ++ xs.map a.eval ++ us)) w := by
    unfold execOp
    rw [ho]
    simp [resolve, invoke, e1, Deferred.ofValue, run_callFunc hc]
  unfold Oper.wp
  rw [hrun, Oper.upon_enter]
  refine (h.frame (fun x hx => List.all_eq_true.1 hn x hx) hR.heap (vals := vs ++ xs.map a.eval ++ us) ?_).mono ?_
  · simp only [Array.toList_append, Array.toList_map]
    exact ((e2.mono fun _ _ => Rep0.rep).append (evals hR xs.toList)).append (e3.mono fun _ _ => Rep0.rep)
  · rintro e w' ⟨v, av, H', p', rfl, h1, h2, h3, h4, h5⟩
    exact hK v _ _ p' w' h1 h2 h3 h4 h5
/-- an iterator over a string -/
theorem op_range {t : TypeId} {x : Operand} {b : ByteArray} (ho : o.op = .range t x) (ht : P.underlying t = some .string) (hx : s.ev x = .str b) (h : R (.iter s.H.length) (s.H ++ [.iter b 0])) : OpB P o s R := opB_of fun p w a hR => by
  have ex := rep_str (hx ▸ hR.ev x)
  have hB := below_alloc w (.stringIter b 0)
  obtain ⟨r1, r2⟩ := mv_gen hR.heap (.iter b 0) w.heap.size hB (Nat.le_refl _) fun _ => ⟨w.heap.size, by simp [Pl.mv], heap_alloc_new _ _⟩
  refine ⟨.pointer (some ⟨w.heap.size, 0, none⟩), _, _, _, _, ?_, h, r1, ?_, r2, hB⟩
  · unfold execOp
    rw [ho]
    simp only [ex, Sem.run_bind, run_range_string (P := P) w t b ht, Result.andThen_ok, Sem.run_pure]
    rfl
  · refine ⟨by simp [Pl.mv, hR.heap.n], fun q hq => ?_⟩
    simp only [Pl.mv, hR.heap.n, if_true, Option.some.injEq] at hq
    exact ⟨_, hq.symm, rfl⟩
theorem op_next {x : Operand} {id : Nat} {b : ByteArray} {pos : Nat} (ho : o.op = .next x true) (hx : s.ev x = .iter id) (hb : s.H[id]? = some (.iter b pos))
    (h : R (bif Nat.blt pos b.size then .tuple [.bool true, .int .i64 pos, .int .i32 (Utf8.decode b pos).1] else .tuple [.bool false])
      (bif Nat.blt pos b.size then s.H.set id (.iter b (pos + (Utf8.decode b pos).2)) else s.H)) : OpV P o s R := opV_of fun p w a hR => by
  obtain ⟨hl, he⟩ := List.getElem?_eq_some_iff.1 hb
  have hbk := hR.heap.blk id hl
  rw [he] at hbk
  obtain ⟨g, hg, hh⟩ := hbk
  have hv := hR.ev x
  rw [hx] at hv
  obtain ⟨g', hg', ev⟩ := hv.2 _ hg
  cases hg'
  cases hc : Nat.blt pos b.size with
  | true =>
    have hlt : pos < b.size := by rw [Nat.blt_eq] at hc; exact hc
    rw [hc] at h
    have hrun := Lib.run_next_any_at (P := P) w g b pos o.type hh hlt
    obtain ⟨r1, r2⟩ := set_gen hR.heap (w' := w.iterAt g b (pos + (Utf8.decode b pos).2)) (.iter b (pos + (Utf8.decode b pos).2)) hl hg rfl rfl rfl (by simp [World.iterAt]) (fun g' hne => by simp [World.iterAt, Array.getElem?_setIfInBounds, Ne.symm hne])
      (by unfold rowSize; rw [Lib.iterAt_heap w g b pos _ hh, hh]) fun _ => ⟨g, hg, Lib.iterAt_heap w g b pos _ hh⟩
    refine ⟨.value (.tuple #[.bool true, .int .i64 pos, .int .i32 (Utf8.decode b pos).1]), .tuple #[.bool true, .int .i64 pos, .int .i32 (Utf8.decode b pos).1], _, _, p, _, ?_, Or.inl rfl, h, r1, ?_, r2⟩
    · unfold execOp
      rw [ho]
      simp only [ev, Sem.run_bind, hrun, Result.andThen_ok, Sem.run_pure]
    · exact ⟨_, rfl, RepL.cons (RepF.rep0 (.bool true)) (RepL.cons (RepF.rep0 (.int _ _)) (RepL.cons (RepF.rep0 (.int _ _)) RepL.nil))⟩
  | false =>
    have hlt : ¬ pos < b.size := fun hh => by rw [← Nat.blt_eq, hc] at hh; cases hh
    rw [hc] at h
    have hrun := Lib.run_next_end_at (P := P) w g b pos o.type hh hlt
    refine ⟨.value (.tuple #[.bool false]), .tuple #[.bool false], _, _, p, w, ?_, Or.inl rfl, h, hR.heap, ?_, Step.refl _ _⟩
    · unfold execOp
      rw [ho]
      simp only [ev, Sem.run_bind, hrun, Result.andThen_ok, Sem.run_pure]
    · exact ⟨_, rfl, RepL.cons (RepF.rep0 (.bool false)) RepL.nil⟩
end
end Go.Proofs.Ytkdgnjoofhckeaa.V
/-
  The logic of values: own blocks lent to a call as values, or handed over to it for good. Over any program.
-/
namespace Go.Proofs.Ytkdgnjoofhckeaa.V
open Go Go.RowKit
set_option linter.unusedSimpArgs false
set_option linter.unusedVariables false

mutual
/-- a value with the own blocks behind it read as values -/
def val0 (used : Nat → Bool) (H : List Blk) : Nat → AV → Option AV
  | 0, _ => none
  | d + 1, x => match x with
    | .sl id st len sz => bif used id then (match H[id]? with
      | some (.row _ xs) => bif Nat.ble (st + len * sz) xs.length then (match valL used H d ((xs.drop st).take (len * sz)) with | some cs => some (.slv len sz cs) | none => none) else none
      | _ => none) else none
    | .ptr id o => bif used id then (match H[id]? with
      | some (.row _ xs) => (match valL used H d (xs.drop o) with | some cs => some (.fptr cs) | none => none)
      | _ => none) else none
    | .junk | .slc _ _ _ _ _ | .map _ | .iter _ | .agg _ | .tuple _ | .cnd _ _ => none
    | .fn f a b => bif a.isEmpty && b.isEmpty then some (.fn f [] []) else none
    | x => some x
def valL (used : Nat → Bool) (H : List Blk) : Nat → List AV → Option (List AV)
  | 0, _ => none
  | _ + 1, [] => some []
  | d + 1, x :: r => match val0 used H d x, valL used H d r with | some y, some l => some (y :: l) | _, _ => none
end
def val1 (used : Nat → Bool) (H : List Blk) (d : Nat) : AV → Option AV
  | .agg cs => match valL used H d cs with | some l => some (.agg l) | none => none
  | .fn f a b => match valL used H d a, valL used H d b with | some l, some m => some (.fn f l m) | _, _ => none
  | x => val0 used H d x
def valA (used : Nat → Bool) (H : List Blk) (d : Nat) : List AV → Option (List AV)
  | [] => some []
  | x :: r => match val1 used H d x, valA used H d r with | some y, some l => some (y :: l) | _, _ => none
structure Lends (used : Nat → Bool) (p p1 : Pl) : Prop where
  M : ∀ g, p1.M g → p.M g
  no : ∀ id g, used id = true → p.at_ id = some (some g) → ¬ p1.M g
theorem repF_anti {p p1 : Pl} (hM : ∀ g, p1.M g → p.M g) {w : World} {v : Value} {x : AV} (h : RepF p.M w v x) : RepF p1.M w v x := RepF.anti hM h
theorem RepL.map2 {R R' : Value → AV → Prop} {vs : List Value} {xs ys : List AV} (h : RepL R vs xs) (hl : ys.length = xs.length) (hg : ∀ i (h1 : i < xs.length) (h2 : i < ys.length) v, R v xs[i] → R' v ys[i]) : RepL R' vs ys :=
  ⟨h.1.trans hl.symm, fun i a b => hg i (by omega) b _ (h.2 i a (by omega))⟩
mutual
theorem val0_rep {used : Nat → Bool} {H : List Blk} {p p1 : Pl} {w : World} (hH : RH p H w) (hL : Lends used p p1) : ∀ (d : Nat) (x y : AV) (v : Value), val0 used H d x = some y → Rep0 p w v x → RepF p1.M w v y
  | 0, x, y, v, h, _ => by simp [val0] at h
  | d + 1, x, y, v, h, hr => by
    unfold val0 at h
    split at h
    · rename_i id st len sz
      rw [cond_eq_ite] at h
      split at h
      · rename_i hu
        split at h
        · rename_i t xs hb
          rw [cond_eq_ite] at h
          split at h
          · rename_i hle
            have hle : st + len * sz ≤ xs.length := Nat.le_of_ble_eq_true hle
            split at h
            · rename_i cs hc
              cases h
              obtain ⟨q, hq⟩ := hH.live hb
              obtain ⟨a, cap, rfl, hcap, hcm, hsz, hn, ha⟩ := hr.2 q hq
              have hvl := valL_rep hH hL d ((xs.drop st).take (len * sz)) cs hc
              have hcl : cs.length = len * sz := by rw [hvl.1]; simp; omega
              rcases hH.row hb with ⟨h1, h2⟩ | ⟨g, cur, h1, h2, h3, h4⟩
              · subst h2
                have h0 : len * sz = 0 := by simp at hle; omega
                have hcs : cs = [] := List.eq_nil_of_length_eq_zero (by omega)
                subst hcs
                have ho : a = some (a.getD ⟨0, 0, none⟩) ∨ (a = none ∧ cap = 0) := by
                  cases a with
                  | none => exact Or.inr ⟨rfl, hn rfl⟩
                  | some a => exact Or.inl rfl
                exact .slv a _ len cap sz [] (fun _ => undef) ho (by simpa using h0.symm) hcap hcm hsz (fun i hi => absurd hi (by simp)) (fun i hi => absurd hi (by simp))
              · by_cases hc0 : cap = 0
                · have h0 : len = 0 := by omega
                  subst h0
                  have hcs : cs = [] := List.eq_nil_of_length_eq_zero (by omega)
                  subst hcs
                  have ho : a = some (a.getD ⟨0, 0, none⟩) ∨ (a = none ∧ cap = 0) := by
                    cases a with
                    | none => exact Or.inr ⟨rfl, hn rfl⟩
                    | some a => exact Or.inl rfl
                  exact .slv a _ 0 cap sz [] (fun _ => undef) ho (by simp) hcap hcm hsz (fun i hi => absurd hi (by simp)) (fun i hi => absurd hi (by simp))
                · rcases ha with ha | ⟨g', hg', rfl, hrs⟩
                  · exact absurd ha hc0
                  · rw [hq] at h1; cases h1; cases hg'
                    have hgl : g < w.heap.size := (Array.getElem?_eq_some_iff.1 h2).1
                    refine .slv _ ⟨g, st, none⟩ len cap sz cs (fun i => (cur[st + i]?).getD undef) (Or.inl rfl) hcl hcap hcm hsz (fun i hi => ?_) (fun i hi => ?_)
                    · obtain ⟨u, hu1, hu2⟩ := h4 (st + i) (by omega)
                      refine ⟨rfl, hgl, hL.no id g hu hq, ?_, ?_⟩
                      · rw [cell_of_row w g _ cur t (0, 0) h2, hu1]; rfl
                      · rw [hu1]; exact hu2.1
                    · obtain ⟨u, hu1, hu2⟩ := h4 (st + i) (by omega)
                      rw [hu1]
                      rw [getD_get _ _ hi]
                      refine hvl.2 i (by rw [← hvl.1]; exact hi) hi u ?_
                      simp only [List.getElem_take, List.getElem_drop]
                      exact hu2.2
            · cases h
          · cases h
        · cases h
      · cases h
    · rename_i id o
      rw [cond_eq_ite] at h
      split at h
      · rename_i hu
        split at h
        · rename_i t xs hb
          split at h
          · rename_i cs hc
            cases h
            obtain ⟨q, hq⟩ := hH.live hb
            obtain ⟨g, rfl, rfl⟩ := hr.2 q hq
            have hvl := valL_rep hH hL d (xs.drop o) cs hc
            rcases hH.row hb with ⟨h1, h2⟩ | ⟨g', cur, h1, h2, h3, h4⟩
            · rw [hq] at h1; cases h1
            · rw [hq] at h1; cases h1
              have hgl : g < w.heap.size := (Array.getElem?_eq_some_iff.1 h2).1
              have hcl : cs.length = xs.length - o := by rw [hvl.1]; simp
              refine .fptr ⟨g, o, none⟩ cs (fun i => (cur[o + i]?).getD undef) (fun i hi => ?_) (fun i hi => ?_)
              · obtain ⟨u, hu1, hu2⟩ := h4 (o + i) (by omega)
                refine ⟨rfl, hgl, hL.no id g hu hq, ?_, ?_⟩
                · rw [cell_of_row w g _ cur t (0, 0) h2, hu1]; rfl
                · rw [hu1]; exact hu2.1
              · obtain ⟨u, hu1, hu2⟩ := h4 (o + i) (by omega)
                rw [hu1]
                rw [getD_get _ _ hi]
                refine hvl.2 i (by rw [← hvl.1]; exact hi) hi u ?_
                simp only [List.getElem_drop]
                exact hu2.2
          · cases h
        · cases h
      · cases h
    all_goals first
      | (cases h; done)
      | skip
    · rename_i f a b
      rw [cond_eq_ite] at h
      split at h
      · rename_i he
        simp only [Bool.and_eq_true, List.isEmpty_iff] at he
        obtain ⟨rfl, rfl⟩ := he
        cases h
        exact repF_anti hL.M hr
      · cases h
    · rename_i n1 n2 n3 nc n4 n5 n6 n7 n8 n9
      cases h
      cases x <;> first | exact repF_anti hL.M hr | exact (n1 _ _ _ _ rfl).elim | exact (n2 _ _ rfl).elim | exact (n3 rfl).elim | exact (nc _ _ _ _ _ rfl).elim | exact (n4 _ rfl).elim | exact (n5 _ rfl).elim | exact (n6 _ rfl).elim | exact (n7 _ rfl).elim | exact (n8 _ _ rfl).elim | exact (n9 _ _ _ rfl).elim
theorem valL_rep {used : Nat → Bool} {H : List Blk} {p p1 : Pl} {w : World} (hH : RH p H w) (hL : Lends used p p1) : ∀ (d : Nat) (xs ys : List AV), valL used H d xs = some ys → ys.length = xs.length ∧ ∀ i (h1 : i < xs.length) (h2 : i < ys.length) v, Rep0 p w v xs[i] → RepF p1.M w v ys[i]
  | 0, xs, ys, h => by simp [valL] at h
  | d + 1, [], ys, h => by simp [valL] at h; subst h; exact ⟨rfl, fun i h1 => absurd h1 (by simp)⟩
  | d + 1, x :: r, ys, h => by
    unfold valL at h
    split at h
    · rename_i y l hy hl
      cases h
      obtain ⟨e1, e2⟩ := valL_rep hH hL d r l hl
      refine ⟨by simp [e1], fun i h1 h2 v hv => ?_⟩
      cases i with
      | zero => exact val0_rep hH hL d x y v hy hv
      | succ i => exact e2 i (by simpa using h1) (by simpa using h2) v (by simpa using hv)
    · cases h
end
theorem val1_rep {used : Nat → Bool} {H : List Blk} {p p1 : Pl} {w : World} (hH : RH p H w) (hL : Lends used p p1) (d : Nat) (x y : AV) (v : Value) (h : val1 used H d x = some y) (hr : Rep p w v x) : Rep p1 w v y := by
  unfold val1 at h
  split at h
  · rename_i cs
    split at h
    · rename_i l hl
      cases h
      obtain ⟨vs, rfl, h2⟩ := hr
      obtain ⟨e1, e2⟩ := valL_rep hH hL d cs l hl
      exact ⟨vs, rfl, h2.map2 e1 fun i a b u hu => ⟨hu.1, (e2 i a b u hu.2).rep0⟩⟩
    · cases h
  · rename_i f a b
    split at h
    · rename_i l m h1 h2
      cases h
      obtain ⟨vs, us, rfl, r1, r2⟩ := hr
      obtain ⟨e1, e2⟩ := valL_rep hH hL d a l h1
      obtain ⟨e3, e4⟩ := valL_rep hH hL d b m h2
      exact ⟨vs, us, rfl, r1.map2 e1 fun i a b u hu => (e2 i a b u hu).rep0, r2.map2 e3 fun i a b u hu => (e4 i a b u hu).rep0⟩
    · cases h
  · rename_i x0 h1 h2
    refine (val0_rep hH hL d x y v h ?_).rep
    cases d with
    | zero => simp [val0] at h
    | succ d => cases x <;> first | exact hr | (simp [val0] at h; done) | exact absurd rfl (h1 _) | exact absurd rfl (h2 _ _ _)
theorem valA_rep {used : Nat → Bool} {H : List Blk} {p p1 : Pl} {w : World} (hH : RH p H w) (hL : Lends used p p1) (d : Nat) : ∀ {xs ys : List AV} {vs : List Value}, valA used H d xs = some ys → RepL (Rep p w) vs xs → RepL (Rep p1 w) vs ys
  | [], ys, [], h, hr => by simp [valA] at h; subst h; exact RepL.nil
  | x :: r, ys, v :: vs, h, hr => by
    unfold valA at h
    split at h
    · rename_i y l hy hl
      cases h
      have h0 := hr.2 0 (by simp) (by simp)
      exact RepL.cons (val1_rep hH hL d x y v hy h0) (valA_rep hH hL d hl ⟨by simpa using hr.1, fun i a b => by have := hr.2 (i + 1) (by simpa using a) (by simpa using b); simpa using this⟩)
    · cases h
  | [], _, _ :: _, _, hr => absurd hr.1 (by simp)
  | _ :: _, _, [], _, hr => absurd hr.1 (by simp)
/-! ### lending: the result bears no value that lies in lent memory -/
def nov0 : AV → Bool
  | .bool _ | .int _ _ | .str _ | .nilptr | .nilsl | .nilmap | .nilfn | .sl _ _ _ _ | .ptr _ _ | .map _ | .iter _ | .junk => true
  | .fn _ a b => a.isEmpty && b.isEmpty
  | _ => false
def nov1 : AV → Bool
  | .agg cs => cs.all nov0
  | x => nov0 x
def novR : AV → Bool
  | .tuple vs => vs.all nov1
  | x => nov1 x
def novB : Blk → Bool
  | .row _ xs => xs.all nov0
  | .map kv => kv.all fun q => nov1 q.1 && nov1 q.2
  | _ => true
theorem nov0_rep {p p' : Pl} {w : World} {v : Value} {x : AV} (hn : nov0 x = true) (hp : ∀ id, p'.at_ id = p.at_ id) (hpn : p'.n = p.n) (h : Rep0 p w v x) : Rep0 p' w v x := by
  cases x <;> first | trivial | (simp [nov0] at hn; done) | skip
  case sl => exact ⟨by rw [hpn]; exact h.1, fun q hq => h.2 q (by rw [← hp]; exact hq)⟩
  case ptr => exact ⟨by rw [hpn]; exact h.1, fun q hq => h.2 q (by rw [← hp]; exact hq)⟩
  case map => exact ⟨by rw [hpn]; exact h.1, fun q hq => h.2 q (by rw [← hp]; exact hq)⟩
  case iter => exact ⟨by rw [hpn]; exact h.1, fun q hq => h.2 q (by rw [← hp]; exact hq)⟩
  all_goals (cases h; constructor)
theorem nov1_rep {p p' : Pl} {w : World} {v : Value} {x : AV} (hn : nov1 x = true) (hp : ∀ id, p'.at_ id = p.at_ id) (hpn : p'.n = p.n) (h : Rep1 p w v x) : Rep1 p' w v x := by
  cases x
  case agg cs =>
    obtain ⟨vs, h1, h2⟩ := h
    simp only [nov1, List.all_eq_true] at hn
    exact ⟨vs, h1, h2.1, fun i a b => ⟨(h2.2 i a b).1, nov0_rep (hn _ (List.getElem_mem b)) hp hpn (h2.2 i a b).2⟩⟩
  case fn f a b =>
    simp only [nov1, nov0, Bool.and_eq_true, List.isEmpty_iff] at hn
    obtain ⟨rfl, rfl⟩ := hn
    obtain ⟨vs, us, h1, h2, h3⟩ := h
    exact ⟨vs, us, h1, ⟨h2.1, fun i a b => absurd b (by simp)⟩, ⟨h3.1, fun i a b => absurd b (by simp)⟩⟩
  case tuple => exact (rep1_tuple h).elim
  case cnd => exact (rep1_cnd h).elim
  all_goals (simp only [nov1] at hn; simp only [Rep1] at h ⊢; exact nov0_rep hn hp hpn h)
theorem novR_rep {p p' : Pl} {w : World} {v : Value} {x : AV} (hn : novR x = true) (hp : ∀ id, p'.at_ id = p.at_ id) (hpn : p'.n = p.n) (h : Rep p w v x) : Rep p' w v x := by
  cases x
  case tuple ts =>
    obtain ⟨vs, h1, h2⟩ := h
    simp only [novR, List.all_eq_true] at hn
    exact ⟨vs, h1, h2.1, fun i a b => nov1_rep (hn _ (List.getElem_mem b)) hp hpn (h2.2 i a b)⟩
  case cnd => simp [novR, nov1, nov0] at hn
  all_goals (simp only [novR] at hn; exact (nov1_rep (p := p) (p' := p') hn hp hpn h).repT.rep)
theorem novB_ok {p p' : Pl} {w : World} {id : Nat} {b : Blk} (hn : novB b = true) (hp : ∀ id, p'.at_ id = p.at_ id) (hpn : p'.n = p.n) (h : BlkIs p w id b) : BlkIs p' w id b := by
  cases b with
  | dead => exact (hp id).trans h
  | row t xs =>
    simp only [novB, List.all_eq_true] at hn
    rcases h with ⟨h1, h2⟩ | ⟨g, cur, h1, h2, h3, h4⟩
    · exact Or.inl ⟨(hp id).trans h1, h2⟩
    · exact Or.inr ⟨g, cur, (hp id).trans h1, h2, h3, fun i hi => let ⟨v, a, b⟩ := h4 i hi; ⟨v, a, b.1, nov0_rep (hn _ (List.getElem_mem hi)) hp hpn b.2⟩⟩
  | map kv =>
    simp only [novB, List.all_eq_true, Bool.and_eq_true] at hn
    obtain ⟨g, es, cl, h1, h2, h3, h4⟩ := h
    exact ⟨g, es, cl, (hp id).trans h1, h2, h3, fun i hi hi' => ⟨nov1_rep (hn _ (List.getElem_mem hi)).1 hp hpn (h4 i hi hi').1, nov1_rep (hn _ (List.getElem_mem hi)).2 hp hpn (h4 i hi hi').2⟩⟩
  | iter s pos => obtain ⟨g, h1, h2⟩ := h; exact ⟨g, (hp id).trans h1, h2⟩
/-- how the arguments read where the own blocks are lent -/
def Reads (H : List Blk) (args as' : List AV) : Prop := ∀ (p p1 : Pl) (w : World) (vs : List Value), RH p H w → Lends (fun _ => true) p p1 → RepL (Rep p w) vs args → RepL (Rep p1 w) vs as'
/-- a call to which own blocks are lent -/
theorem CallsV.lendR {P : Program} {f : FuncId} {args as' : List AV} {av : AV} {H1 : List Blk} (h : CallsV P f as' [] fun a b => a = av ∧ b = H1) (hn : (novR av && H1.all novB) = true) {p : Pl} {H : List Blk} {w : World} {vals : Array Value} (hH : RH p H w)
    (ha : RepL (Rep ⟨0, fun _ => none, p.x⟩ w) vals.toList as') :
    Calls P f vals w fun e w' => ∃ v p', e = .returned v ∧ RH p' (H ++ H1.map (shiftB H.length)) w' ∧ Rep p' w' v (ren (shf H.length) av) ∧ Step p w p' w' ∧ Below w.heap.size w w' := by
  simp only [Bool.and_eq_true] at hn
  let p0 : Pl := ⟨0, fun _ => none, p.x⟩
  have hown0 : ∀ g, ¬ p0.own g := fun g ⟨id, hid⟩ => by cases hid
  have hH0 : RH p0 [] w := ⟨rfl, fun _ _ => rfl, fun _ _ _ h => (by cases h), fun id h => absurd h (by simp), fun g hg => ⟨(hH.xs g hg).1, hown0 g⟩⟩
  refine (h p0 w vals hH0 ha).mono ?_
  rintro e w' ⟨v, a1, b1, q, rfl, ⟨e1, e2⟩, hHq, hrep, hS⟩
  subst e1 e2
  have hB : Below w.heap.size w w' := ⟨hS.os, hS.tape, hS.output, hS.size, fun g hg => hS.froz g hg (hown0 g)⟩
  -- the same places, seen from where all of p's blocks may be written
  let q2 : Pl := ⟨q.n, q.at_, p.M⟩
  have hqnew : ∀ g, q.own g → w.heap.size ≤ g := fun g hg => by
    rcases Nat.lt_or_ge g w.heap.size with h1 | h1
    · exact (hown0 g (hS.old g h1 hg)).elim
    · exact h1
  have hMlt : ∀ g, p.M g → g < w.heap.size := fun g hg => hg.elim (hH.lt g) fun hx => (hH.xs g hx).1
  have hHq2 : RH q2 b1 w' := ⟨hHq.n, hHq.out, hHq.inj, fun id hid => novB_ok (p := q) (p' := q2) (List.all_eq_true.1 hn.2 _ (List.getElem_mem hid)) (fun _ => rfl) rfl (hHq.blk id hid), fun g hg => ⟨Nat.lt_of_lt_of_le (hMlt g hg) hB.size, fun ho => by have := hqnew g ho; have := hMlt g hg; omega⟩⟩
  have hrep2 : Rep q2 w' v a1 := novR_rep (p := q) (p' := q2) hn.1 (fun _ => rfl) rfl hrep
  have hS2 : Step ⟨0, fun _ => none, p.M⟩ w q2 w' := ⟨hS.os, hS.tape, hS.output, hS.size, hS.n, fun id q hid => absurd hid (by simp), fun g hg ho => (by have := hqnew g ho; omega), fun g hg _ => hB.block g hg, rfl⟩
  -- as a call that has no block of the run's own
  have hpn : p.n = H.length := hH.n
  let pc : Pl := ⟨p.n + q.n, fun id => if id < p.n then p.at_ id else q.at_ (id - p.n), p.x⟩
  have key : CallsV P f as' [] (fun a b => a = a1 ∧ b = b1) := h
  have hpcown : ∀ g, pc.own g → p.own g ∨ q.own g := fun g ⟨id, hid⟩ => by
    simp only [pc] at hid
    split at hid
    · exact Or.inl ⟨id, hid⟩
    · exact Or.inr ⟨_, hid⟩
  have hdisj : ∀ g, p.own g → ¬ q.own g := fun g h1 h2 => by have := hH.lt g h1; have := hqnew g h2; omega
  have hemb : Emb (shf H.length) q2 pc := by
    refine ⟨fun id j hf hid => ?_, fun g hg => ?_⟩
    · simp only [shf, Option.some.injEq] at hf
      subst hf
      refine ⟨by simp only [pc, q2] at hid ⊢; omega, fun q0 hq0 => ?_⟩
      simp only [pc] at hq0
      rw [if_neg (by omega)] at hq0
      rw [show id + H.length - p.n = id by omega] at hq0
      exact hq0
    · rcases hg with hg | hg
      · rcases hpcown g hg with h1 | h1
        · exact Or.inr (Or.inl h1)
        · exact Or.inl h1
      · exact Or.inr (Or.inr hg)
  have hst : Step p w pc w' := by
    refine ⟨hS.os, hS.tape, hS.output, hS.size, by simp [pc], fun id q0 hid hq0 => ?_, fun g hg ho => ?_, fun g hg _ => hB.block g hg, rfl⟩
    · simp only [pc] at hq0
      rw [if_pos hid] at hq0
      refine ⟨hq0, fun g hg => ?_⟩
      subst hg
      unfold rowSize
      rw [hB.block g (hH.lt g ⟨id, hq0⟩)]
    · rcases hpcown g ho with h1 | h1
      · exact h1
      · have := hqnew g h1; omega
  refine ⟨v, pc, rfl, ⟨?_, fun id hid => ?_, fun i j g hi hj => ?_, fun id hid => ?_, fun g hg => ⟨Nat.lt_of_lt_of_le (hH.xs g hg).1 hB.size, fun ho => ?_⟩⟩, hrep2.ren hemb, hst, hB⟩
  · simp [pc, hpn, hHq.n]
  · simp only [pc] at hid ⊢
    rw [if_neg (by omega)]
    exact hHq.out _ (by omega)
  · simp only [pc] at hi hj
    split at hi <;> split at hj
    · exact hH.inj _ _ _ hi hj
    · exact (hdisj g ⟨i, hi⟩ ⟨_, hj⟩).elim
    · exact (hdisj g ⟨j, hj⟩ ⟨_, hi⟩).elim
    · have := hHq.inj _ _ _ hi hj; omega
  · by_cases hlt' : id < H.length
    · rw [List.getElem_append_left hlt']
      refine (hH.blk id hlt').step hst ?_ fun g hg => hB.block g (hH.lt g ⟨id, hg⟩)
      simp only [pc]
      rw [if_pos (by omega)]
    · simp only [List.length_append, List.length_map] at hid
      rw [List.getElem_append_right (by omega), List.getElem_map]
      refine BlkIs.ren (id := id - H.length) hemb ?_ (hHq2.blk _ (by omega)) (shiftB_ren _ _)
      simp only [pc, q2]
      rw [if_neg (by omega), hpn]
  · rcases hpcown g ho with h1 | h1
    · exact (hH.xs g hg).2 h1
    · have h3 := hqnew g h1; have h4 := (hH.xs g hg).1; omega

theorem lends0 {p : Pl} {H : List Blk} {w : World} (hH : RH p H w) (used : Nat → Bool) : Lends used p ⟨0, fun _ => none, p.x⟩ :=
  ⟨fun g hg => hg.elim (fun ⟨id, hid⟩ => by cases hid) Or.inr, fun id g _ hid hm => hm.elim (fun ⟨id, hid⟩ => by cases hid) fun hx => (hH.xs g hx).2 ⟨id, hid⟩⟩
theorem CallsV.lend {P : Program} {used : Nat → Bool} {f : FuncId} {args as' : List AV} {av : AV} {H1 : List Blk} {d : Nat} (h : CallsV P f as' [] fun a b => a = av ∧ b = H1) (hn : (novR av && H1.all novB) = true) {p : Pl} {H : List Blk} {w : World} {vals : Array Value} (hH : RH p H w) (hv : RepL (Rep p w) vals.toList args)
    (ha : valA used H d args = some as') :
    Calls P f vals w fun e w' => ∃ v p', e = .returned v ∧ RH p' (H ++ H1.map (shiftB H.length)) w' ∧ Rep p' w' v (ren (shf H.length) av) ∧ Step p w p' w' ∧ Below w.heap.size w w' :=
  CallsV.lendR (args := args) h hn hH (valA_rep hH (lends0 hH used) d ha hv)
/-- a row of plain cells, lent -/
theorem reads_sl {H : List Blk} {id st len sz : Nat} {t : TypeId} {xs : List AV} (hb : H[id]? = some (.row t xs)) (hn : ∀ x ∈ xs, noid0 x = true ∧ x ≠ .junk) (hl : st + len * sz ≤ xs.length) {p p1 : Pl} {w : World} {v : Value} (hH : RH p H w) (hL : Lends (fun _ => true) p p1) (h : Rep p w v (.sl id st len sz)) :
    Rep p1 w v (.slv len sz ((xs.drop st).take (len * sz))) := by
  obtain ⟨q, hq⟩ := hH.live hb
  obtain ⟨a, cap, rfl, hcap, hcm, hsz, hno, ha⟩ := h.2 q hq
  have hcl : ((xs.drop st).take (len * sz)).length = len * sz := by simp; omega
  refine RepF.rep ?_
  by_cases hc0 : cap = 0
  · have h0 : len = 0 := by omega
    subst h0
    have ho : a = some (a.getD ⟨0, 0, none⟩) ∨ (a = none ∧ cap = 0) := by
      cases a with
      | none => exact Or.inr ⟨rfl, hno rfl⟩
      | some a => exact Or.inl rfl
    exact .slv a _ 0 cap sz _ (fun _ => undef) ho hcl hcap hcm hsz (fun i hi => absurd hi (by simp)) (fun i hi => absurd hi (by simp))
  · rcases ha with ha | ⟨g', hg', rfl, hrs⟩
    · exact absurd ha hc0
    · rcases hH.row hb with ⟨h1, h2⟩ | ⟨g, cur, h1, h2, h3, h4⟩
      · rw [hq] at h1; cases h1; cases hg'
      · rw [hq] at h1; cases h1; cases hg'
        have hgl : g' < w.heap.size := (Array.getElem?_eq_some_iff.1 h2).1
        refine .slv _ ⟨g', st, none⟩ len cap sz _ (fun i => (cur[st + i]?).getD undef) (Or.inl rfl) hcl hcap hcm hsz (fun i hi => ?_) (fun i hi => ?_)
        · obtain ⟨u, hu1, hu2⟩ := h4 (st + i) (by omega)
          refine ⟨rfl, hgl, hL.no id g' rfl hq, ?_, ?_⟩
          · rw [cell_of_row w g' _ cur t (0, 0) h2, hu1]; rfl
          · rw [hu1]; exact hu2.1
        · obtain ⟨u, hu1, hu2⟩ := h4 (st + i) (by omega)
          rw [hu1, getD_get _ _ hi]
          simp only [List.getElem_take, List.getElem_drop]
          obtain ⟨k1, k2⟩ := hn _ (List.getElem_mem (show st + i < xs.length by omega))
          exact repF_anti hL.M (RepC.toF hu2.2 k1 k2)
/-! ### handing over for good -/
def killAll (H : List Blk) : List Nat → List Blk
  | [] => H
  | i :: r => killAll (H.set i .dead) r
theorem killAll_ok {w : World} : ∀ (ids : List Nat) {p : Pl} {H : List Blk}, RH p H w → ∃ p1, RH p1 (killAll H ids) w ∧ Step p w p1 w ∧ (∀ id ∈ ids, p1.at_ id = none) ∧ p1.x = p.x ∧ ∀ id q, p1.at_ id = some q → p.at_ id = some q
  | [], p, H, hH => ⟨p, hH, Step.refl _ _, fun id h => absurd h (by simp), rfl, fun _ _ h => h⟩
  | i :: r, p, H, hH => by
    obtain ⟨h1, h2⟩ := frz_step hH i
    obtain ⟨p1, a1, a2, a3, a4, a5⟩ := killAll_ok r h1
    have hsub : ∀ id q, p1.at_ id = some q → id ≠ i ∧ p.at_ id = some q := fun id q hq => by
      have := a5 id q hq
      simp only at this
      split at this
      · cases this
      · rename_i hne; exact ⟨hne, this⟩
    refine ⟨p1, a1, h2.trans a2, fun id hid => ?_, a4, fun id q hq => (hsub id q hq).2⟩
    cases hc : p1.at_ id with
    | none => rfl
    | some q =>
      rcases List.mem_cons.1 hid with rfl | hid
      · exact absurd rfl (hsub _ _ hc).1
      · rw [a3 id hid] at hc; cases hc
theorem CallsV.handover {P : Program} {f : FuncId} {args as' : List AV} {av : AV} {H1 : List Blk} {d : Nat} {ids : List Nat} (h : CallsV P f as' [] fun a b => a = av ∧ b = H1) (hn : as'.all noid1 = true) {p : Pl} {H : List Blk} {w : World} {vals : Array Value} (hH : RH p H w) (hv : RepL (Rep p w) vals.toList args)
    (ha : valA (fun i => ids.contains i) H d args = some as') :
    Calls P f vals w fun e w' => ∃ v p', e = .returned v ∧ RH p' (killAll H ids ++ H1.map (shiftB (killAll H ids).length)) w' ∧ Rep p' w' v (ren (shf (killAll H ids).length) av) ∧ Step p w p' w' ∧ Below w.heap.size w w' := by
  obtain ⟨p1, h1, h2, h3, h4, h5⟩ := killAll_ok ids hH
  have hown : ∀ g, p1.own g → p.own g := fun g ⟨id, hid⟩ => ⟨id, h5 _ _ hid⟩
  have hL : Lends (fun i => ids.contains i) p p1 := ⟨fun g hg => hg.elim (fun h => Or.inl (hown g h)) fun hx => Or.inr (h4 ▸ hx), fun id g hu hid hm => by
    rcases hm with ⟨j, hj⟩ | hx
    · have hj' := h5 _ _ hj
      have he := hH.inj _ _ _ hj' hid
      subst he
      rw [h3 j (by simpa using hu)] at hj; cases hj
    · exact (hH.xs g (h4 ▸ hx)).2 ⟨id, hid⟩⟩
  refine (h.frame (fun a ha => List.all_eq_true.1 hn a ha) h1 (valA_rep hH hL d ha hv)).mono ?_
  rintro e w' ⟨v, a1, b1, p', rfl, ⟨e1, e2⟩, k1, k2, k3, k4⟩
  subst e1 e2
  exact ⟨v, p', rfl, k1, k2, h2.trans k3, k4⟩
section
variable {P : Program} {s : St} {o : Oper} {R : AV → List Blk → Prop}
theorem op_callw {f : FuncId} {l : List AV} (hop : ∀ (p : Pl) (w : World) (a : Act), Rst p s a w → ∃ vals : Array Value, RepL (Rep p w) vals.toList l ∧ (execOp a.eval o).run P w = .ok (.enter f vals) w)
    (h : ∀ (p : Pl) (w : World) (vals : Array Value), RH p s.H w → RepL (Rep p w) vals.toList l → Calls P f vals w fun e w' => ∃ v av H' p', e = .returned v ∧ R av H' ∧ RH p' H' w' ∧ Rep p' w' v av ∧ Step p w p' w' ∧ Below w.heap.size w w') : OpB P o s R := fun p w a K Q hR hK => by
  obtain ⟨vals, hv, hrun⟩ := hop p w a hR
  unfold Oper.wp
  rw [hrun, Oper.upon_enter]
  refine (h p w vals hR.heap hv).mono ?_
  rintro e w' ⟨v, av, H', p', rfl, h1, h2, h3, h4, h5⟩
  exact hK v av H' p' w' h1 h2 h3 h4 h5
/-- a slice of an array behind an address -/
theorem op_arrSlice {t arr e : TypeId} {n : Nat} {x : Operand} {lo hi : Option Operand} {id off : Nat} {t' : TypeId} {xs : List AV} {l h' : Int} (ho : o.op = .slice t x lo hi none) (ht : P.underlying t = some (.pointer arr)) (ha : P.underlying arr = some (.array n e)) (hk : knownT P e = true)
    (hx : s.ev x = .ptr id off) (hb : s.H[id]? = some (.row t' xs)) (hsz : 0 < sizeT P e) (hl : loE (lo.map s.ev) = some l) (hh : hiE n (hi.map s.ev) = some h') (hbd : 0 ≤ l ∧ l ≤ h' ∧ h' ≤ n) (hfit : off + n * sizeT P e ≤ xs.length) (hn : n ≤ maxLen)
    (h : R (.sl id (off + l.toNat * sizeT P e) (h'.toNat - l.toNat) (sizeT P e)) s.H) : OpB P o s R := opB_of fun p w a hR => by
  have hv := hR.ev x
  rw [hx] at hv
  rcases hR.heap.row hb with ⟨h1, h2⟩ | ⟨g, cur, h1, h2, h3, h4⟩
  · obtain ⟨g, hg, _⟩ := hv.2 _ h1; cases hg
  · obtain ⟨g', hg', hve⟩ := hv.2 _ h1
    cases hg'
    have e1 : RepO p w (lo.map a.eval) (lo.map s.ev) := by cases lo <;> first | trivial | exact hR.ev _
    have e2 : RepO p w (hi.map a.eval) (hi.map s.ev) := by cases hi <;> first | trivial | exact hR.ev _
    have hbs := run_bounds (P := P) e1 e2 (isSl := false) hl hh hbd (Nat.le_refl n) w
    refine ⟨.slice (some (if n = l.toNat then ⟨g, off, none⟩ else (⟨g, off, none⟩ : Addr).add (l.toNat * sizeT P e))) (h'.toNat - l.toNat) (n - l.toNat), _, _, p, w, ?_, h, hR.heap, ?_, Step.refl _ _, Below.refl _ _⟩
    · unfold execOp
      rw [ho]
      simp only [Instr.sliceAt, Instr.sureAddr, hve, Sem.run_bind, Sem.run_pure, Result.andThen_ok, Instr.slice, run_underlying ht, run_underlying ha, asAddr, hbs, run_sizeT hk, Option.map_none]
    · have hlt : id < p.n := hv.1
      refine ⟨hlt, fun q hq => ?_⟩
      rw [h1] at hq
      cases hq
      refine ⟨_, _, rfl, by omega, by omega, hsz, (fun h => by cases h), ?_⟩
      by_cases hnl : n = l.toNat
      · left; omega
      · right
        refine ⟨g, rfl, ?_, ?_⟩
        · rw [if_neg hnl, add_none _ rfl]
        · unfold rowSize
          rw [h2]
          have : (n - l.toNat) * sizeT P e + l.toNat * sizeT P e = n * sizeT P e := by rw [← Nat.add_mul]; congr 1; omega
          show _ ≤ cur.size
          omega
/-- the address of the array in a slice -/
theorem op_arrAt {arr e : TypeId} {n : Nat} {x : Operand} {id st len sz : Nat} {t' : TypeId} {xs : List AV} (ho : o.op = .sliceToArrayPointer arr x) (ha : P.underlying arr = some (.array n e)) (hx : s.ev x = .sl id st len sz) (hb : s.H[id]? = some (.row t' xs)) (hn : 0 < n) (hl : n ≤ len)
    (h : R (.ptr id st) s.H) : OpB P o s R := opB_of fun p w a hR => by
  have hv := hR.ev x
  rw [hx] at hv
  obtain ⟨q, hq⟩ := hR.heap.live hb
  obtain ⟨ad, cap, hve, hcap, hcm, hsz, hno, hc⟩ := hv.2 q hq
  rcases hc with hc | ⟨g, rfl, rfl, _⟩
  · omega
  · refine ⟨.pointer (some ⟨g, st, none⟩), _, _, p, w, ?_, h, hR.heap, ⟨hv.1, fun q' hq' => ?_⟩, Step.refl _ _, Below.refl _ _⟩
    · unfold execOp
      rw [ho]
      have : ¬ len < n := by omega
      simp [Instr.arrayAt, run_underlying ha, hve, this]
    · rw [hq] at hq'; cases hq'; exact ⟨g, rfl, rfl⟩
theorem op_arrAtV {arr e : TypeId} {n : Nat} {x : Operand} {len sz : Nat} {cs : List AV} (ho : o.op = .sliceToArrayPointer arr x) (ha : P.underlying arr = some (.array n e)) (hx : s.ev x = .slv len sz cs) (hn : 0 < n) (hl : n ≤ len)
    (h : R (.fptr cs) s.H) : OpB P o s R := opB_of fun p w a hR => by
  have hv := hR.ev x
  rw [hx] at hv
  generalize hq : a.eval x = v at hv
  simp only [Rep, RepT, Rep1, Rep0] at hv
  cases hv with
  | slv oa ad _ cap _ _ vs hoa hlen hcap hcm hsz hc hr =>
    have : oa = some ad := by
      rcases hoa with h1 | ⟨_, h1⟩
      · exact h1
      · omega
    subst this
    refine ⟨.pointer (some ad), _, _, p, w, ?_, h, hR.heap, RepF.rep (.fptr ad cs vs hc hr), Step.refl _ _, Below.refl _ _⟩
    unfold execOp
    rw [ho]
    have : ¬ len < n := by omega
    simp [Instr.arrayAt, run_underlying ha, hq, this]
end
end Go.Proofs.Ytkdgnjoofhckeaa.V
