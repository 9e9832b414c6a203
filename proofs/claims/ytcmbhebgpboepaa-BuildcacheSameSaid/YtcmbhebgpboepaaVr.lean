/-
  The logic of values: further operations: make of slices, strings to bytes, closures, iterators over strings. Over any program.
-/
import Derived.Test.YtcmbhebgpboepaaVn
import Derived.Laws.MakeOwn
import Derived.Laws.RangeAny
import Derived.Lib.OthersKept
namespace Go.Proofs.Ytcmbhebgpboepaa.V
open Go Go.RowKit
set_option linter.unusedSimpArgs false
set_option linter.unusedVariables false

/-- a new block of any kind -/
theorem mv_gen {p : Pl} {H : List Blk} {w w' : World} (hH : RH p H w) (B : Blk) (g0 : Nat)
    (hB : Below w.heap.size w w') (hg0 : w.heap.size ≤ g0)
    (hblk : Step p w (p.mv none (some g0)) w' → BlkIs (p.mv none (some g0)) w' p.n B) :
    RH (p.mv none (some g0)) (H ++ [B]) w' ∧ Step p w (p.mv none (some g0)) w' := by
  have hfroz : ∀ g, g < w.heap.size → w'.heap[g]? = w.heap[g]? := fun g hg => hB.block g hg
  have hat : ∀ id q0, (p.mv none (some g0)).at_ id = some q0 → (id = p.n ∧ q0 = some g0) ∨ (id < p.n ∧ p.at_ id = some q0) := by
    intro id q0 h
    simp only [Pl.mv] at h
    split at h
    · rename_i he; exact Or.inl ⟨he, by cases h; rfl⟩
    · split at h
      · cases h
      · rename_i h1 h2
        refine Or.inr ⟨?_, h⟩
        rcases Nat.lt_or_ge id p.n with h3 | h3
        · exact h3
        · rw [hH.out id h3] at h; cases h
  have hs : Step p w (p.mv none (some g0)) w' := by
    refine ⟨hB.os, hB.tape, hB.output, hB.size, Nat.le_succ _, fun id q0 hid h => ?_, fun g hg hm => ?_, fun g hg hm => hfroz g hg, rfl⟩
    · rcases hat id q0 h with ⟨h1, _⟩ | ⟨_, h3⟩
      · omega
      · refine ⟨h3, fun g hg => ?_⟩
        subst hg
        unfold rowSize
        rw [hfroz g (hH.lt g ⟨id, h3⟩)]
    · obtain ⟨id, hid⟩ := hm
      rcases hat id _ hid with ⟨_, h2⟩ | ⟨_, h3⟩
      · cases h2; omega
      · exact ⟨id, h3⟩
  refine ⟨⟨?_, fun id hid => ?_, fun i j g hi hj => ?_, fun id hid => ?_, fun g hg => ⟨Nat.lt_of_lt_of_le (hH.xs g hg).1 hB.size, fun ho => (hH.xs g hg).2 (hs.old g (hH.xs g hg).1 ho)⟩⟩, hs⟩
  · simp [Pl.mv, hH.n]
  · simp only [Pl.mv] at hid ⊢
    rw [if_neg (by omega), if_neg (by simp)]
    exact hH.out id (by omega)
  · have new : ∀ i, p.at_ i = some (some g0) → False := fun i h3 => by have := hH.lt g0 ⟨i, h3⟩; omega
    rcases hat i _ hi with ⟨h1, h2⟩ | ⟨h1, h3⟩ <;> rcases hat j _ hj with ⟨h4, h5⟩ | ⟨h4, h6⟩
    · omega
    · cases h2; exact (new j h6).elim
    · cases h5; exact (new i h3).elim
    · exact hH.inj _ _ _ h3 h6
  · simp only [List.length_append, List.length_singleton] at hid
    by_cases hlt : id < H.length
    · rw [List.getElem_append_left hlt]
      have hne : id ≠ p.n := by rw [hH.n]; omega
      have hb := hH.blk id hlt
      have ha : (p.mv none (some g0)).at_ id = p.at_ id := by simp [Pl.mv, hne]
      exact hb.step hs ha fun g hg => hfroz g (hH.lt g ⟨id, hg⟩)
    · have he : id = H.length := by omega
      subst he
      rw [List.getElem_append_right (Nat.le_refl _)]
      simp only [Nat.sub_self, List.getElem_cons_zero]
      rw [← hH.n]
      exact hblk hs
theorem below_alloc (w : World) (o : Obj) : Below w.heap.size w (w.alloc o) := by
  refine ⟨rfl, rfl, rfl, by show w.heap.size ≤ (w.heap.push o).size; simp, fun g hg => ?_⟩
  show (w.heap.push o)[g]? = _
  rw [Array.getElem?_push_lt hg, Array.getElem?_eq_getElem hg]
/-- a block that is no row, written anew in its place -/
theorem set_gen {p : Pl} {H : List Blk} {w w' : World} (hH : RH p H w) {id g : Nat} (B : Blk) (hl : id < H.length) (hg : p.at_ id = some (some g))
    (hos : w'.os = w.os) (htape : w'.tape = w.tape) (hout : w'.output = w.output) (hsz : w'.heap.size = w.heap.size) (hoth : ∀ g', g' ≠ g → w'.heap[g']? = w.heap[g']?) (hrs : rowSize w' g = rowSize w g)
    (hblk : Step p w p w' → BlkIs p w' id B) : RH p (H.set id B) w' ∧ Step p w p w' := by
  have hst : Step p w p w' := by
    refine ⟨hos, htape, hout, by omega, Nat.le_refl _, fun j q _ hq => ⟨hq, fun g' hg' => ?_⟩, fun _ _ h => h, fun g' hg' hm => hoth g' (fun he => hm (he ▸ ⟨id, hg⟩)), rfl⟩
    by_cases he : g' = g
    · subst he; exact hrs
    · unfold rowSize; rw [hoth g' he]
  refine ⟨⟨by rw [List.length_set]; exact hH.n, hH.out, hH.inj, fun j hj => ?_, fun g' hg' => ⟨Nat.lt_of_lt_of_le (hH.xs g' hg').1 hst.size, (hH.xs g' hg').2⟩⟩, hst⟩
  rw [List.getElem_set]
  split
  · rename_i he; subst he; exact hblk hst
  · rename_i he
    exact (hH.blk j (by rw [List.length_set] at hj; exact hj)).step hst rfl fun g' hg' => hoth g' (fun h => he (hH.inj _ _ _ hg (h ▸ hg')))
section
variable {P : Program} {s : St} {o : Oper} {R : AV → List Blk → Prop}
/-- make of a slice -/
theorem op_makeSlice {t e : TypeId} {sz bytes : Nat} {l c : Operand} {kl kc : IntKind} {n m : Int} {zs : List AV} (ho : o.op = .makeSlice t l c) (hT : elT P t e sz bytes = true) (hz : zeroL P e = some zs)
    (hl : s.ev l = .int kl n) (hc : s.ev c = .int kc m) (h0 : 0 ≤ n) (hnm : n ≤ m) (hb : (bytes : Int) * m ≤ 281474976710656) (hm : m ≤ 9223372036854775807)
    (h : R (.sl s.H.length 0 n.toNat sz) (s.H ++ [.row e (zerosL zs (m.toNat * sz))])) : OpB P o s R := opB_of fun p w a hR => by
  obtain ⟨hu, i, z, hi, hzi, hzs, hpos, rfl, rfl⟩ := elT_spec hT
  have el := rep_int (hl ▸ hR.ev l)
  have ec := rep_int (hc ▸ hR.ev c)
  have hrun := run_make (P := P) w t e i z hu hi hzi kl kc n m h0 hnm hb hm
  unfold zeroL at hz
  simp only [hi, hzi] at hz
  have hzr := zeros_rep (consts_rep (p := p) (w := w) hz) (m.toNat * i.size) (by simpa [hzs] using hpos)
  obtain ⟨r1, r2, r3⟩ := alloc_ok hR.heap (madeCells z.cells (m.toNat * i.size)) e _ hzr
  refine ⟨.slice (some ⟨w.heap.size, 0, none⟩) n.toNat m.toNat, _, _, _, _, ?_, h, r1, ?_, r2, r3⟩
  · unfold execOp
    rw [ho]
    simp only [el, ec, Sem.run_bind, hrun, Result.andThen_ok, Sem.run_pure]
  · refine ⟨by simp [Pl.mv, hR.heap.n], fun q hq => ?_⟩
    simp only [Pl.mv, hR.heap.n, if_true, Option.some.injEq] at hq
    refine ⟨_, _, rfl, by omega, by unfold maxLen; omega, hpos, (fun h => by cases h), Or.inr ⟨_, hq.symm, rfl, ?_⟩⟩
    unfold rowSize
    rw [heap_alloc_new]
    simp [size_madeCells]
/-- the bytes of a string, as values -/
def bytesAV (s : ByteArray) : List AV := s.data.toList.map fun b => .int .u8 (b.toNat : Int)
theorem op_strBytes {src dst e : TypeId} {x : Operand} {b : ByteArray} {u : TypeDesc} (ho : o.op = .convert src dst x) (hs : P.underlying src = some u) (hd : P.underlying dst = some (.slice e)) (he : P.underlying e = some (.int .u8))
    (hx : s.ev x = .str b) (hb : b.size ≤ maxLen) (h : R (.slv b.size 1 (bytesAV b)) s.H) : OpB P o s R := opB_of fun p w a hR => by
  have ex := rep_str (hx ▸ hR.ev x)
  have hB : Below w.heap.size w (Lib.bytesWorld w e b) := by
    refine ⟨rfl, rfl, rfl, by rw [Lib.bytesWorld_size]; omega, fun g hg => Lib.bytesWorld_at_old w e b g hg⟩
  refine ⟨.slice (some ⟨w.heap.size, 0, none⟩) b.size (grownCap w b.size 0 e), _, _, p, _, ?_, h, hR.heap.below hB, ?_, Step.of_below hB hR.heap.lt, hB⟩
  · unfold execOp
    rw [ho]
    simp only [ex, Sem.run_bind, Lib.run_convert_string_bytes w src dst e b hs hd he, Result.andThen_ok, Sem.run_pure]
  · have hlen : (bytesAV b).length = b.size := by simp [bytesAV]
    refine RepF.rep (.slv _ ⟨w.heap.size, 0, none⟩ b.size _ 1 (bytesAV b) (fun j => .int .u8 (b.data.toList.getD j 0).toNat) (Or.inl rfl) (by rw [hlen, Nat.mul_one]) (grownCap_ge _ _ _ _) (grownCap_le_maxLen _ _ _ _ hb) (by omega) (fun i hi => ?_) (fun i hi => ?_))
    · rw [hlen] at hi
      refine ⟨rfl, by rw [Lib.bytesWorld_size]; simp, fun hm => ?_, ?_, rfl⟩
      · rcases hm with hm | hm
        · have := hR.heap.lt _ hm; simp at this
        · have := (hR.heap.xs _ hm).1; simp at this
      · simp only [Nat.zero_add]; exact Lib.bytesWorld_cell w e b i hi
    · have hi' : i < b.data.toList.length := by simpa [bytesAV] using hi
      have : (bytesAV b).getD i .junk = .int .u8 (b.data.toList.getD i 0).toNat := by
        rw [List.getD_eq_getElem?_getD, List.getElem?_eq_getElem hi, List.getD_eq_getElem?_getD, List.getElem?_eq_getElem hi']
        simp [bytesAV]
      rw [this]
      exact .int _ _
/-- a function value with what it captures -/
theorem op_makeFunc {f : Fn} {fs cs : Array Operand} (ho : o.op = .makeFunc f fs cs) (h1 : ∀ x ∈ fs.toList, leafOK s.H (s.ev x) = true) (h2 : ∀ x ∈ cs.toList, leafOK s.H (s.ev x) = true)
    (h : R (.fn f (fs.toList.map s.ev) (cs.toList.map s.ev)) s.H) : OpB P o s R := opB_of fun p w a hR => by
  refine ⟨.func f (fs.map a.eval) (cs.map a.eval), _, _, p, w, ?_, h, hR.heap, ?_, Step.refl _ _, Below.refl _ _⟩
  · unfold execOp
    rw [ho]
    rfl
  · have key : ∀ l : List Operand, (∀ x ∈ l, leafOK s.H (s.ev x) = true) → RepL (Rep0 p w) (l.map a.eval) (l.map s.ev) := fun l hl =>
      ⟨by simp, fun i a1 a2 => by simp only [List.getElem_map]; exact (leaf_one hR.heap (hR.ev _) (hl _ (List.getElem_mem _))).2⟩
    exact ⟨_, _, rfl, by simpa using key fs.toList h1, by simpa using key cs.toList h2⟩
/-- a call of a function value -/
theorem op_callv {x : Operand} {f : FuncId} {fs cs : List AV} {xs : Array Operand} {ts : Array TypeId} (ho : o.op = .call ⟨.value x, xs, ts⟩) (hx : s.ev x = .fn (.func f) fs cs) (hc : callable P f = true) (h : CallsV P f (fs ++ xs.toList.map s.ev ++ cs) s.H R) : OpV P o s R := fun p w a K Q hR hK => by
  have hv := hR.ev x
  rw [hx] at hv
  obtain ⟨vs, us, e1, e2, e3⟩ := hv
  have hrun : (execOp a.eval o).run P w = .ok (.enter f (vs ++ xs.map a.eval ++ us)) w := by
    unfold execOp
    rw [ho]
    simp [resolve, invoke, e1, Deferred.ofValue, run_callFunc hc]
  unfold Oper.wp
  rw [hrun, Oper.upon_enter]
  refine (h p w (vs ++ xs.map a.eval ++ us) hR.heap ?_).mono ?_
  · simp only [Array.toList_append, Array.toList_map]
    exact ((e2.mono fun _ _ => Rep0.rep).append (evals hR xs.toList)).append (e3.mono fun _ _ => Rep0.rep)
  · rintro e w' ⟨v, av, H', p', rfl, h1, h2, h3, h4⟩
    exact hK v av H' p' w' h1 h2 h3 h4
theorem op_callvB {x : Operand} {f : FuncId} {fs cs : List AV} {xs : Array Operand} {ts : Array TypeId} (ho : o.op = .call ⟨.value x, xs, ts⟩) (hx : s.ev x = .fn (.func f) fs cs) (hc : callable P f = true) (hn : (fs ++ xs.toList.map s.ev ++ cs).all noid1 = true)
    (h : CallsV P f (fs ++ xs.toList.map s.ev ++ cs) [] fun av H' => R (ren (shf s.H.length) av) (s.H ++ H'.map (shiftB s.H.length))) : OpB P o s R := fun p w a K Q hR hK => by
  have hv := hR.ev x
  rw [hx] at hv
  obtain ⟨vs, us, e1, e2, e3⟩ := hv
  have hrun : (execOp a.eval o).run P w = .ok (.enter f (vs ++ xs.map a.eval ++ us)) w := by
    unfold execOp
    rw [ho]
    simp [resolve, invoke, e1, Deferred.ofValue, run_callFunc hc]
  unfold Oper.wp
  rw [hrun, Oper.upon_enter]
  refine (h.frame (fun x hx => List.all_eq_true.1 hn x hx) hR.heap (vals := vs ++ xs.map a.eval ++ us) ?_).mono ?_
  · simp only [Array.toList_append, Array.toList_map]
    exact ((e2.mono fun _ _ => Rep0.rep).append (evals hR xs.toList)).append (e3.mono fun _ _ => Rep0.rep)
  · rintro e w' ⟨v, av, H', p', rfl, h1, h2, h3, h4, h5⟩
    exact hK v _ _ p' w' h1 h2 h3 h4 h5
/-- an iterator over a string -/
theorem op_range {t : TypeId} {x : Operand} {b : ByteArray} (ho : o.op = .range t x) (ht : P.underlying t = some .string) (hx : s.ev x = .str b) (h : R (.iter s.H.length) (s.H ++ [.iter b 0])) : OpB P o s R := opB_of fun p w a hR => by
  have ex := rep_str (hx ▸ hR.ev x)
  have hB := below_alloc w (.stringIter b 0)
  obtain ⟨r1, r2⟩ := mv_gen hR.heap (.iter b 0) w.heap.size hB (Nat.le_refl _) fun _ => ⟨w.heap.size, by simp [Pl.mv], heap_alloc_new _ _⟩
  refine ⟨.pointer (some ⟨w.heap.size, 0, none⟩), _, _, _, _, ?_, h, r1, ?_, r2, hB⟩
  · unfold execOp
    rw [ho]
    simp only [ex, Sem.run_bind, run_range_string (P := P) w t b ht, Result.andThen_ok, Sem.run_pure]
    rfl
  · refine ⟨by simp [Pl.mv, hR.heap.n], fun q hq => ?_⟩
    simp only [Pl.mv, hR.heap.n, if_true, Option.some.injEq] at hq
    exact ⟨_, hq.symm, rfl⟩
theorem op_next {x : Operand} {id : Nat} {b : ByteArray} {pos : Nat} (ho : o.op = .next x true) (hx : s.ev x = .iter id) (hb : s.H[id]? = some (.iter b pos))
    (h : R (bif Nat.blt pos b.size then .tuple [.bool true, .int .i64 pos, .int .i32 (Utf8.decode b pos).1] else .tuple [.bool false])
      (bif Nat.blt pos b.size then s.H.set id (.iter b (pos + (Utf8.decode b pos).2)) else s.H)) : OpV P o s R := opV_of fun p w a hR => by
  obtain ⟨hl, he⟩ := List.getElem?_eq_some_iff.1 hb
  have hbk := hR.heap.blk id hl
  rw [he] at hbk
  obtain ⟨g, hg, hh⟩ := hbk
  have hv := hR.ev x
  rw [hx] at hv
  obtain ⟨g', hg', ev⟩ := hv.2 _ hg
  cases hg'
  cases hc : Nat.blt pos b.size with
  | true =>
    have hlt : pos < b.size := by rw [Nat.blt_eq] at hc; exact hc
    rw [hc] at h
    have hrun := Lib.run_next_any_at (P := P) w g b pos o.type hh hlt
    obtain ⟨r1, r2⟩ := set_gen hR.heap (w' := w.iterAt g b (pos + (Utf8.decode b pos).2)) (.iter b (pos + (Utf8.decode b pos).2)) hl hg rfl rfl rfl (by simp [World.iterAt]) (fun g' hne => by simp [World.iterAt, Array.getElem?_setIfInBounds, Ne.symm hne])
      (by unfold rowSize; rw [Lib.iterAt_heap w g b pos _ hh, hh]) fun _ => ⟨g, hg, Lib.iterAt_heap w g b pos _ hh⟩
    refine ⟨.value (.tuple #[.bool true, .int .i64 pos, .int .i32 (Utf8.decode b pos).1]), .tuple #[.bool true, .int .i64 pos, .int .i32 (Utf8.decode b pos).1], _, _, p, _, ?_, Or.inl rfl, h, r1, ?_, r2⟩
    · unfold execOp
      rw [ho]
      simp only [ev, Sem.run_bind, hrun, Result.andThen_ok, Sem.run_pure]
    · exact ⟨_, rfl, RepL.cons (RepF.rep0 (.bool true)) (RepL.cons (RepF.rep0 (.int _ _)) (RepL.cons (RepF.rep0 (.int _ _)) RepL.nil))⟩
  | false =>
    have hlt : ¬ pos < b.size := fun hh => by rw [← Nat.blt_eq, hc] at hh; cases hh
    rw [hc] at h
    have hrun := Lib.run_next_end_at (P := P) w g b pos o.type hh hlt
    refine ⟨.value (.tuple #[.bool false]), .tuple #[.bool false], _, _, p, w, ?_, Or.inl rfl, h, hR.heap, ?_, Step.refl _ _⟩
    · unfold execOp
      rw [ho]
      simp only [ev, Sem.run_bind, hrun, Result.andThen_ok, Sem.run_pure]
    · exact ⟨_, rfl, RepL.cons (RepF.rep0 (.bool false)) RepL.nil⟩
end
end Go.Proofs.Ytcmbhebgpboepaa.V
