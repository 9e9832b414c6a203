/-
  The logic of values: append, slice literals, calls, entering a function, renumbering. Over any program.
-/
import Derived.Test.YtcmbhebgpboepaaVh
namespace Go.Proofs.Ytcmbhebgpboepaa.V
open Go Go.RowKit
set_option linter.unusedSimpArgs false
set_option linter.unusedVariables false

/-- an element type, by its numbers -/
def elT (P : Program) (t e : TypeId) (sz bytes : Nat) : Bool := match P.underlying t, P.info? e with
  | some (.slice e'), some i => e' == e && (i.size == sz && (i.bytes == bytes && (decide (0 < sz) && match i.zero with | some z => z.cells.size == sz | none => false)))
  | _, _ => false
theorem elT_spec {P : Program} {t e : TypeId} {sz bytes : Nat} (h : elT P t e sz bytes = true) : P.underlying t = some (.slice e) ∧ ∃ i z, P.info? e = some i ∧ i.zero = some z ∧ z.cells.size = i.size ∧ 0 < i.size ∧ i.size = sz ∧ i.bytes = bytes := by
  unfold elT at h
  split at h
  · rename_i e' i hu hi
    simp only [Bool.and_eq_true, beq_iff_eq, decide_eq_true_eq] at h
    obtain ⟨h1, h2, h3, h4, h5⟩ := h
    subst h1
    split at h5
    · rename_i z hz
      exact ⟨hu, i, z, hi, hz, by rw [h2]; simpa using h5, by omega, h2, h3⟩
    · cases h5
  · cases h
def IsDst (H : List Blk) (e : TypeId) (sz : Nat) (x : AV) (k : Option Nat) (len : Nat) (xs : List AV) : Prop :=
  (x = .nilsl ∧ k = none ∧ len = 0 ∧ xs = []) ∨ ∃ id r, x = .sl id 0 len sz ∧ k = some id ∧ H[id]? = some (.row e r) ∧ xs = r.take (len * sz) ∧ len * sz ≤ r.length
def IsSrc (H : List Blk) (sz : Nat) (y : AV) (m : Nat) (ys : List AV) : Prop :=
  y = .slv m sz ys ∨ (y = .nilsl ∧ m = 0 ∧ ys = []) ∨ ∃ id st t r, y = .sl id st m sz ∧ H[id]? = some (.row t r) ∧ ys = (r.drop st).take (m * sz) ∧ st + m * sz ≤ r.length
theorem IsSrc.src {p : Pl} {H : List Blk} {w : World} {u : Value} {y : AV} {m sz : Nat} {ys : List AV} (hH : RH p H w) (hu : Rep p w u y) (h : IsSrc H sz y m ys) : SrcOf p w u m sz ys := by
  rcases h with rfl | ⟨rfl, rfl, rfl⟩ | ⟨id, st, t, r, rfl, hr, rfl, hl⟩
  · obtain ⟨oa, ad, cap, rfl, ho, hcap, _, hsz, hlen, hat⟩ := at_slv hu
    obtain ⟨us, h1, h2⟩ := hat.list
    refine ⟨oa, cap, rfl, us, h1, by rw [h1.1]; exact hlen, ?_⟩
    rcases ho with rfl | ⟨rfl, h0⟩
    · exact Or.inr ⟨ad, rfl, h2 w (Below.refl _ _)⟩
    · left; omega
  · cases rep_nilsl hu
    exact ⟨none, 0, rfl, [], RepL.nil, by simp, Or.inl rfl⟩
  · obtain ⟨q, hq⟩ := hH.live hr
    obtain ⟨a, cap, rfl, hcap, _, hsz, hn, ha⟩ := hu.2 q hq
    rcases hH.row hr with ⟨h1, h2⟩ | ⟨g, cur, h1, h2, h3, h4⟩
    · subst h2
      have hm : m * sz = 0 := by simp at hl; omega
      have hm0 : m = 0 := by rcases Nat.mul_eq_zero.1 hm with h | h <;> omega
      subst hm0
      exact ⟨a, cap, rfl, [], by simpa using RepL.nil, by simp, Or.inl rfl⟩
    · have hpre := ((row_pre h3 h4).drop st).take (m * sz)
      refine ⟨a, cap, rfl, _, hpre, by rw [hpre.1, List.length_take, List.length_drop]; omega, ?_⟩
      by_cases hm0 : m = 0
      · exact Or.inl hm0
      · right
        rcases ha with h0 | ⟨g', hg', rfl, _⟩
        · omega
        · rw [hq] at h1
          cases h1
          cases hg'
          refine ⟨_, rfl, fun j v hj => ?_⟩
          rw [List.getElem?_take] at hj
          split at hj
          · rw [List.getElem?_drop, List.getElem?_take] at hj
            split at hj
            · rw [add_none _ rfl, cell_of_row w g _ cur t (0, 0) h2]; simpa using hj
            · cases hj
          · cases hj
section
variable {P : Program} {s : St} {o : Oper} {R : AV → List Blk → Prop}
theorem op_append {t e ty : TypeId} {sz bytes len m : Nat} {x y : Operand} {k : Option Nat} {xs ys : List AV} (ho : o.op = .call ⟨.builtin .append, ⟨[x, y]⟩, ⟨[t, t]⟩⟩) (hT : elT P t e sz bytes = true) (hd : IsDst s.H e sz (s.ev x) k len xs) (hs : IsSrc s.H sz (s.ev y) m ys)
    (hb : (len + m) * bytes ≤ 140737488355328) (hm : len + m ≤ maxLen) (h : R (.sl s.H.length 0 (len + m) sz) (killB s.H k ++ [.row e (xs ++ ys)])) : OpV P o s R := opV_of fun p w a hR => by
  obtain ⟨hu, i, z, hi, hz, hzs, hpos, rfl, rfl⟩ := elT_spec hT
  obtain ⟨v', w', q, h1, h2, h3, h4⟩ := append_core (ty := o.type) hR.heap hu hi hz hzs hpos (hR.ev x) hd (hs.src hR.heap (hR.ev y)) hb hm
  refine ⟨.value v', v', _, _, _, w', ?_, Or.inl rfl, h, h2, h4, h3⟩
  unfold execOp
  rw [ho]
  simp [resolve, invoke, builtin, h1]
/-- a slice literal -/
def zerosL (zs : List AV) (n : Nat) : List AV := (List.range n).map fun i => zs.getD (i % zs.length) .junk
def sliceLitE (P : Program) (H : List Blk) (ev : Operand → AV) (e : TypeId) (len : Nat) (parts : Array (Nat × Operand)) : Option (List AV) :=
  match zeroL P e, partsAV H ev parts.toList with
  | some zs, some xs => fillL (fun i => some (i * sizeT P e, sizeT P e)) (zerosL zs (len * sizeT P e)) xs
  | _, _ => none
theorem zeros_rep {p : Pl} {w : World} {z : Array Value} {zs : List AV} (h : RepL (RepC p w) z.toList zs) (n : Nat) (hz : 0 < z.size) : RepL (RepC p w) ((Array.range n).map (z[· % z.size]!)).toList (zerosL zs n) := by
  have hl : zs.length = z.size := by rw [← h.1]; simp
  refine ⟨by simp [zerosL], fun i h1 h2 => ?_⟩
  have hi : i % z.size < z.size := Nat.mod_lt _ hz
  simp only [zerosL, List.getElem_map, List.getElem_range, hl, Array.toList_map, Array.toList_range]
  rw [getElem!_pos z (i % z.size) hi, getD_get _ _ (by omega)]
  have := h.2 (i % z.size) (by simpa using hi) (by omega)
  simpa using this
theorem run_buildSlice_any {P : Program} (w : World) (t e : TypeId) (len : Nat) (parts : Array (Nat × Value)) (cells : Array Value) (ie : TypeInfo) (z : Value)
    (hu : P.underlying t = some (.slice e)) (hie : P.info? e = some ie) (hz : ie.zero = some z) (hsmall : len * ie.size ≤ 16777216)
    (h : Instr.fill (fun i => some (i * ie.size, ie.size)) ((Array.range (len * ie.size)).map (z.cells[· % z.cells.size]!)) parts.toList = some cells) :
    (Instr.buildSlice t len parts).run P w = .ok (.slice (some ⟨w.heap.size, 0, none⟩) len len) (w.alloc (.cells cells e)) := by
  by_cases h0 : len * ie.size = 0
  · rw [h0] at h
    simp only [show Array.range 0 = #[] from rfl, Array.map_empty] at h
    simp [Instr.buildSlice, run_underlying hu, sizeOf, typeInfo, hie, h0, show Array.range 0 = #[] from rfl, h, newRow]
  · exact run_buildSlice w t e len parts cells ie z hu hie hz (by omega) h0 h
theorem op_sliceLit {t e : TypeId} {sz bytes len : Nat} {parts : Array (Nat × Operand)} {ds : List AV} (ho : o.op = .buildSlice t len parts) (hT : elT P t e sz bytes = true) (hk : knownT P e = true) (hd : sliceLitE P s.H s.ev e len parts = some ds) (hs : (decide (len * sz ≤ 16777216)) = true) (hdl : ds.length = len * sz)
    (h : R (.sl s.H.length 0 len sz) (s.H ++ [.row e ds])) : OpB P o s R := opB_of fun p w a hR => by
  obtain ⟨hu, i, z, hi, hz, hzs, hpos, rfl, rfl⟩ := elT_spec hT
  have hsz : sizeT P e = i.size := by simp [sizeT, hi]
  simp only [decide_eq_true_eq] at hs
  unfold sliceLitE at hd
  split at hd
  · rename_i zs xs h1 h2
    obtain ⟨b1, b2⟩ := parts_rep hR.heap hR.ev parts.toList xs h2
    unfold zeroL at h1
    simp only [hi, hz] at h1
    rw [hsz] at hd
    have hzr := zeros_rep (consts_rep (p := p) (w := w) h1) (len * i.size) (by simpa [hzs] using hpos)
    obtain ⟨arr, h4, h5⟩ := fill_rep (p := p) (w := w) _ xs _ _ ds b1 b2 hzr hd
    have hpl : (parts.map fun (x : Nat × Operand) => (x.1, a.eval x.2)).toList = parts.toList.map fun (q : Nat × Operand) => (q.1, a.eval q.2) := by simp
    have hrun := run_buildSlice_any (P := P) w t e len (parts.map fun (x : Nat × Operand) => (x.1, a.eval x.2)) arr i z hu hi hz hs (by rw [hpl]; exact h4)
    obtain ⟨r1, r2, r3⟩ := alloc_ok hR.heap arr e ds h5
    have hal : arr.size = len * i.size := by have := h5.1; simp at this; omega
    refine ⟨.slice (some ⟨w.heap.size, 0, none⟩) len len, _, _, _, _, ?_, h, r1, ?_, r2, r3⟩
    · unfold execOp
      rw [ho]
      simp only [Sem.run_bind, hrun, Result.andThen_ok, Sem.run_pure]
    · refine ⟨by simp [Pl.mv, hR.heap.n], fun q hq => ?_⟩
      simp only [Pl.mv, hR.heap.n, if_true, Option.some.injEq] at hq
      refine ⟨_, _, rfl, Nat.le_refl _, ?_, hpos, (fun h => by cases h), Or.inr ⟨_, hq.symm, rfl, ?_⟩⟩
      · have : len ≤ len * i.size := Nat.le_mul_of_pos_right _ hpos
        unfold maxLen; omega
      · unfold rowSize
        rw [heap_alloc_new]
        simp only
        omega
  · cases hd

/-! ### calls -/
def callable (P : Program) (f : FuncId) : Bool := match P.funcs[f]? with | some fn => fn.name != "runtime.NumGoroutine" && fn.body.isSome | none => false
theorem run_callFunc {P : Program} {f : FuncId} (h : callable P f = true) (args : Array Value) (w : World) : (callFunc f args).run P w = .ok (.enter f args) w := by
  unfold callable at h
  split at h
  · rename_i fn hf
    simp only [Bool.and_eq_true, bne_iff_ne] at h
    cases hb : fn.body with
    | none => simp [hb] at h
    | some c => simp [callFunc, hf, h.1, hb]
  · cases h
theorem evals {p : Pl} {w : World} {a : Act} (hR : Rst p s a w) (l : List Operand) : RepL (Rep p w) (l.map a.eval) (l.map s.ev) :=
  ⟨by simp, fun i h1 h2 => by simp only [List.getElem_map]; exact hR.ev _⟩
theorem op_call {f : FuncId} {xs : Array Operand} {ts : Array TypeId} (ho : o.op = .call ⟨.value (.func f), xs, ts⟩) (hc : callable P f = true) (h : CallsV P f (xs.toList.map s.ev) s.H R) : OpV P o s R := fun p w a K Q hR hK => by
  have hrun : (execOp a.eval o).run P w = .ok (.enter f (xs.map a.eval)) w := by
    unfold execOp
    rw [ho]
    simp [resolve, invoke, Act.eval, Deferred.ofValue, run_callFunc hc]
  unfold Oper.wp
  rw [hrun, Oper.upon_enter]
  refine (h p w (xs.map a.eval) hR.heap (by simpa using evals hR xs.toList)).mono ?_
  rintro e w' ⟨v, av, H', p', rfl, h1, h2, h3, h4⟩
  exact hK v av H' p' w' h1 h2 h3 h4
/-! #### a call that has no block of the run's own -/
def noid0 : AV → Bool
  | .sl _ _ _ _ | .slc _ _ _ _ _ | .ptr _ _ | .map _ | .iter _ | .agg _ | .tuple _ | .cnd _ _ => false
  | .fn _ x y => x.isEmpty && y.isEmpty
  | _ => true
def noid1 : AV → Bool
  | .agg cs => cs.all noid0
  | x => noid0 x
theorem RepF.anti {M M' : Nat → Prop} {w : World} (hM : ∀ g, M' g → M g) {v : Value} {x : AV} (h : RepF M w v x) : RepF M' w v x := by
  induction h with
  | bool b => exact .bool b
  | int k n => exact .int k n
  | str s => exact .str s
  | nilptr => exact .nilptr
  | nilsl => exact .nilsl
  | nilmap => exact .nilmap
  | nilfn => exact .nilfn
  | fn f => exact .fn f
  | fptr a cells vs hc hr ih =>
    refine .fptr a cells vs (fun i hi => ?_) ih
    obtain ⟨h1, h2, h3, h4⟩ := hc i hi
    exact ⟨h1, h2, fun hm => h3 (hM _ hm), h4⟩
  | slv oa a len cap sz cells vs ho hl hcap hcm hsz hc hr ih =>
    refine .slv oa a len cap sz cells vs ho hl hcap hcm hsz (fun i hi => ?_) ih
    obtain ⟨h1, h2, h3, h4⟩ := hc i hi
    exact ⟨h1, h2, fun hm => h3 (hM _ hm), h4⟩
theorem Rep0.noid {p p' : Pl} {w : World} (hM : ∀ g, p'.M g → p.M g) {v : Value} {x : AV} (hx : noid0 x = true) (h : Rep0 p w v x) : Rep0 p' w v x := by
  cases x <;> simp [noid0] at hx <;> first | trivial | exact RepF.anti hM h
theorem Rep.noid {p p' : Pl} {w : World} (hM : ∀ g, p'.M g → p.M g) {v : Value} {x : AV} (hx : noid1 x = true) (h : Rep p w v x) : Rep p' w v x := by
  cases x
  case agg cs =>
    obtain ⟨vs, h1, h2⟩ := h
    refine ⟨vs, h1, h2.1, fun i a b => ?_⟩
    have := h2.2 i a b
    simp only [noid1, List.all_eq_true] at hx
    exact ⟨this.1, this.2.noid hM (hx _ (List.getElem_mem b))⟩
  case fn f x y =>
    simp only [noid1, noid0, Bool.and_eq_true, List.isEmpty_iff] at hx
    obtain ⟨rfl, rfl⟩ := hx
    obtain ⟨vs, us, h1, h2, h3⟩ := h
    exact ⟨vs, us, h1, ⟨h2.1, fun i a b => absurd b (by simp)⟩, ⟨h3.1, fun i a b => absurd b (by simp)⟩⟩
  case tuple => simp [noid1, noid0] at hx
  case cnd => simp [noid1, noid0] at hx
  all_goals (simp only [noid1] at hx; simp only [Rep, RepT, Rep1] at h ⊢; exact Rep0.noid (p := p) hM hx h)
end
end Go.Proofs.Ytcmbhebgpboepaa.V
