/-
  The logic of values, part 5.
-/
import Derived.Test.YtkdgnjoofhckeaaU4
/-
  The logic of values: own slices of which the capacity is known from below: slicing up to it, length, append in place; clear. Over any program.
-/
namespace Go.Proofs.Ytkdgnjoofhckeaa.V
open Go Go.RowKit
set_option linter.unusedSimpArgs false
set_option linter.unusedVariables false

theorem store_at {p : Pl} {H : List Blk} {w : World} (hH : RH p H w) {id g off : Nat} {t : TypeId} {xs ys : List AV} {cur : Array Value} {news : List Value} (hb : H[id]? = some (.row t xs)) (h1 : p.at_ id = some (some g)) (h2 : w.heap[g]? = some (.cells cur t (0, 0)))
    (h3 : xs.length ≤ cur.size) (h4 : ∀ (i : Nat) (h : i < xs.length), ∃ v, cur[i]? = some v ∧ RepC p w v xs[i]) (hcs : RepL (RepC p w) news ys) (hl : off + ys.length ≤ xs.length) :
    RH p (H.set id (.row t (xs.take off ++ ys ++ xs.drop (off + ys.length)))) (w.setRow g (cur.toList.take off ++ news ++ cur.toList.drop (off + news.length)).toArray) ∧ Step p w p (w.setRow g (cur.toList.take off ++ news ++ cur.toList.drop (off + news.length)).toArray) := by
  have hlen : news.length = ys.length := hcs.1
  have hpre := row_pre h3 h4
  refine set_ok hH (xs' := xs.take off ++ ys ++ xs.drop (off + ys.length)) hb h1 h2 (by simp [hlen]; omega) ?_
  have hll : (xs.take off ++ ys ++ xs.drop (off + ys.length)).length = xs.length := by simp; omega
  have := splice_take cur.toList news off xs.length (by rw [hlen]; exact hl) (by simpa using h3)
  rw [hll]
  simp only [List.toList_toArray]
  rw [this, hlen]
  exact ((hpre.take off).append hcs).append (hpre.drop _)
section
variable {P : Program} {s : St} {o : Oper} {R : AV → List Blk → Prop}
theorem op_slcLen {t : TypeId} {x : Operand} {id st len cap sz : Nat} {e : TypeId} {T : TypeId} {xs : List AV} (ho : o.op = .call ⟨.builtin .len, ⟨[x]⟩, ⟨[t]⟩⟩) (hu : P.underlying t = some (.slice e)) (hx : s.ev x = .slc id st len cap sz) (hb : s.H[id]? = some (.row T xs))
    (h : R (.int .i64 len) s.H) : OpB P o s R := opB_of fun p w a hR => by
  have hv := hR.ev x
  rw [hx] at hv
  obtain ⟨q, hq⟩ := hR.heap.live hb
  obtain ⟨ad, c, hve, _⟩ := hv.2 q hq
  refine ⟨goInt len, _, _, p, w, ?_, h, hR.heap, RepF.rep (.int _ _), Step.refl _ _, Below.refl _ _⟩
  unfold execOp
  rw [ho]
  simp [resolve, invoke, builtin, hve, Builtin.len_, run_underlying hu]
theorem op_slcSlice {t e T : TypeId} {x : Operand} {lo hi : Option Operand} {id st len cap sz : Nat} {xs : List AV} {l h' : Int} (ho : o.op = .slice t x lo hi none) (hu : P.underlying t = some (.slice e)) (hk : knownT P e = true) (hs : sizeT P e = sz)
    (hx : s.ev x = .slc id st len cap sz) (hb : s.H[id]? = some (.row T xs)) (e1 : loE (lo.map s.ev) = some l) (e2 : hiE len (hi.map s.ev) = some h') (hbd : 0 ≤ l ∧ l ≤ h' ∧ (h' ≤ len ∨ h' + 1 ≤ cap))
    (h : R (.slc id (st + l.toNat * sz) (h'.toNat - l.toNat) (cap - l.toNat) sz) s.H) : OpB P o s R := opB_of fun p w a hR => by
  have hv := hR.ev x
  rw [hx] at hv
  obtain ⟨q, hq⟩ := hR.heap.live hb
  obtain ⟨ad, c, hve, hlc, hcm, hpos, hno, hc, hcc⟩ := hv.2 q hq
  have hcc' : cap ≤ c + 1 := by
    rcases Nat.eq_zero_or_pos cap with h0 | h0
    · omega
    · exact (hcc h0).2
  have hbd2 : (Instr.sliceBounds true len c (lo.map a.eval) (hi.map a.eval) none).run P w = .ok (l.toNat, h'.toNat, c) w := by
    have hR2 : ∀ y, Rep p w (a.eval y) (s.ev y) := hR.ev
    cases hi with
    | none =>
      have : h' = len := by simpa [hiE] using e2.symm
      subst this
      cases lo with
      | none =>
        have : l = 0 := by simpa [loE] using e1.symm
        subst this
        simp [Instr.sliceBounds]
      | some lo =>
        simp only [Option.map_some, loE] at e1
        cases hlo : s.ev lo <;> rw [hlo] at e1 <;> cases e1
        rename_i kl
        have el := rep_int (hlo ▸ hR2 lo)
        have h1 : 0 ≤ l := by omega
        have h2 : l ≤ (len : Int) := by omega
        simp [Instr.sliceBounds, el, Instr.sliceBound, asIntOf, h1, h2]
    | some hi =>
      simp only [Option.map_some, hiE] at e2
      cases hhi : s.ev hi <;> rw [hhi] at e2 <;> cases e2
      rename_i kh
      have eh := rep_int (hhi ▸ hR2 hi)
      have h3 : 0 ≤ h' := by omega
      have h4 : h' ≤ (c : Int) := by clear hc hcc; omega
      cases lo with
      | none =>
        have : l = 0 := by simpa [loE] using e1.symm
        subst this
        simp [Instr.sliceBounds, eh, Instr.sliceBound, asIntOf, h3, h4]
      | some lo =>
        simp only [Option.map_some, loE] at e1
        cases hlo : s.ev lo <;> rw [hlo] at e1 <;> cases e1
        rename_i kl
        have el := rep_int (hlo ▸ hR2 lo)
        have h1 : 0 ≤ l := by omega
        have h2 : l ≤ max h' 0 := by omega
        simp [Instr.sliceBounds, el, eh, Instr.sliceBound, asIntOf, h1, h2, h3, h4]
  refine ⟨.slice (if c = l.toNat then ad else ad.map (·.add (l.toNat * sz))) (h'.toNat - l.toNat) (c - l.toNat), _, _, p, w, ?_, h, hR.heap, ⟨hv.1, fun q' hq' => ?_⟩, Step.refl _ _, Below.refl _ _⟩
  · unfold execOp
    rw [ho]
    simp only [Option.map_none, Instr.sliceAt, hve, Sem.run_bind, Sem.run_pure, Result.andThen_ok, run_underlying hu, Instr.slice, hbd2, run_sizeT hk, hs]
  · rw [hq] at hq'
    cases hq'
    have hb1 : h'.toNat - l.toNat ≤ c - l.toNat ∧ c - l.toNat ≤ maxLen ∧ cap - l.toNat ≤ c - l.toNat + 1 ∧ h'.toNat ≤ c := by clear hc hcc hno; omega
    refine ⟨_, _, rfl, hb1.1, hb1.2.1, hpos, fun hn0 => ?_, ?_, fun h0 => ⟨fun hn0 => ?_, hb1.2.2.1⟩⟩
    rotate_left 2
    · have h1 := (hcc (by omega)).1
      split at hn0
      · exact h1 hn0
      · cases ad with
        | none => exact h1 rfl
        | some ad => simp at hn0
    · by_cases hml : c = l.toNat
      · omega
      · rw [if_neg hml] at hn0
        cases ad with
        | none => have := hno rfl; clear hc hcc; omega
        | some ad => simp at hn0
    · by_cases hml : c = l.toNat
      · left; omega
      · rcases hc with hc | ⟨g, rfl, rfl, hrs⟩
        · omega
        · right
          refine ⟨g, rfl, ?_, ?_⟩
          · rw [if_neg hml, Option.map_some, add_none _ rfl]
          · have h1 : (c - l.toNat) * sz + l.toNat * sz = c * sz := by rw [← Nat.add_mul]; congr 1; omega
            omega
/-- append within the capacity: the row is written in its place -/
theorem op_appendIn {t e T ty : TypeId} {sz bytes id st len cap m : Nat} {x y : Operand} {xs ys : List AV} (ho : o.op = .call ⟨.builtin .append, ⟨[x, y]⟩, ⟨[t, t]⟩⟩) (hT : elT P t e sz bytes = true) (hx : s.ev x = .slc id st len cap sz) (hb : s.H[id]? = some (.row T xs)) (hs : IsSrc s.H sz (s.ev y) m ys)
    (hroom : len + m + 1 ≤ cap) (hfit : st + (len + m) * sz ≤ xs.length) (hyl : ys.length = m * sz) (h : R (.slc id st (len + m) cap sz) (s.H.set id (.row T (xs.take (st + len * sz) ++ ys ++ xs.drop (st + len * sz + ys.length))))) : OpV P o s R := opV_of fun p w a hR => by
  obtain ⟨hu, i, z, hi, hz, hzs, hpos, rfl, rfl⟩ := elT_spec hT
  obtain ⟨b, c, hye, news, hn1, hn2, hn3⟩ := hs.src hR.heap (hR.ev y)
  have hv := hR.ev x
  rw [hx] at hv
  obtain ⟨q, hq⟩ := hR.heap.live hb
  obtain ⟨ad, c', hve, hlc, hcm, _, hno, hc, hcc⟩ := hv.2 q hq
  have hcc' := (hcc (by omega)).2
  by_cases hm0 : m = 0
  · subst hm0
    have hys : ys = [] := List.eq_nil_of_length_eq_zero (by simpa using hyl)
    subst hys
    have hrun := run_append_zero (P := P) w t o.type e i hu hi ad b len c' c hlc
    have hset : s.H.set id (.row T (xs.take (st + len * i.size) ++ [] ++ xs.drop (st + len * i.size + ([] : List AV).length))) = s.H := by
      rw [List.append_nil, List.length_nil, Nat.add_zero, List.take_append_drop]
      obtain ⟨h1, h2⟩ := List.getElem?_eq_some_iff.1 hb
      rw [← h2]
      exact List.set_getElem_self h1
    rw [hset] at h
    refine ⟨.value (.slice ad len c'), .slice ad len c', _, _, p, w, ?_, Or.inl rfl, h, hR.heap, ?_, Step.refl _ _⟩
    · unfold execOp
      rw [ho]
      simp [resolve, invoke, builtin, hve, hye, hrun]
    · exact ⟨hv.1, fun q' hq' => by rw [hq] at hq'; cases hq'; exact ⟨ad, c', rfl, hlc, hcm, hpos, hno, hc, hcc⟩⟩
  · obtain ⟨ad2, rfl, hcell⟩ := hn3.resolve_left hm0
    rcases hc with hc | ⟨g, rfl, rfl, hrs⟩
    · omega
    · rcases hR.heap.row hb with ⟨h3, _⟩ | ⟨g', cur, h3, h4, h5, h6⟩
      · rw [hq] at h3; cases h3
      · rw [hq] at h3; cases h3
        have h1c : ∀ u ∈ news, u.oneCell' = true := fun u hu => by
          obtain ⟨j, hj, rfl⟩ := List.mem_iff_getElem.1 hu
          exact (hn1.2 j hj (by rw [← hn1.1]; exact hj)).1
        have hlm : (len + m) * i.size = len * i.size + m * i.size := Nat.add_mul _ _ _
        have hfc := run_firstCells_some (P := P) w i.size m ad2 m c news hn2 hcell
        have hst := run_storeCells_at P g (st + len * i.size) T news 0 cur w h4 (by rw [hn2]; omega) h1c
        simp only [Nat.add_zero] at hst
        have hrun : (Builtin.append_ #[t, t] o.type #[.slice (some ⟨g, st, none⟩) len c', .slice (some ad2) m c]).run P w = .ok (.slice (some ⟨g, st, none⟩) (len + m) c') (w.setRow g (cur.toList.take (st + len * i.size) ++ news ++ cur.toList.drop (st + len * i.size + news.length)).toArray) := by
          have hroom' : len + m ≤ c' := by omega
          simp [Builtin.append_, run_underlying hu, sizeOf, typeInfo, hi, Builtin.lenOf, hroom', hfc, Addr.add_lit, hst]
        obtain ⟨r1, r2⟩ := store_at hR.heap (off := st + len * i.size) hb hq h4 h5 h6 hn1 (by rw [hyl]; omega)
        refine ⟨.value (.slice (some ⟨g, st, none⟩) (len + m) c'), _, _, _, p, _, ?_, Or.inl rfl, h, r1, ?_, r2⟩
        · unfold execOp
          rw [ho]
          simp [resolve, invoke, builtin, hve, hye, hrun]
        · refine ⟨hv.1, fun q' hq' => ?_⟩
          rw [hq] at hq'
          cases hq'
          refine ⟨_, c', rfl, by omega, hcm, hpos, fun h => (by cases h), Or.inr ⟨g, rfl, rfl, ?_⟩, hcc⟩
          have := r2.keep id _ hv.1 hq
          rw [this.2 g rfl]
          exact hrs
/-- clear of an own row -/
def slAny : AV → Option (Nat × Nat × Nat × Nat)
  | .sl id st len sz => some (id, st, len, sz)
  | .slc id st len _ sz => some (id, st, len, sz)
  | _ => none
theorem slAny_ok {p : Pl} {w : World} {v : Value} {x : AV} {id st len sz : Nat} (hx : slAny x = some (id, st, len, sz)) (h : Rep p w v x) : Rep p w v (.sl id st len sz) := by
  cases x <;> simp only [slAny] at hx <;> try cases hx
  case sl => exact h
  case slc => exact ⟨h.1, fun q hq => by obtain ⟨a, c, h1, h2, h3, h4, h5, h6, _⟩ := h.2 q hq; exact ⟨a, c, h1, h2, h3, h4, h5, h6⟩⟩
theorem op_clear {t e T : TypeId} {sz bytes id st len : Nat} {x : Operand} {xs zs : List AV} (ho : o.op = .call ⟨.builtin .clear, ⟨[x]⟩, ⟨[t]⟩⟩) (hT : elT P t e sz bytes = true) (hz : zeroL P e = some zs) (hx : slAny (s.ev x) = some (id, st, len, sz)) (hb : s.H[id]? = some (.row T xs))
    (hfit : st + len * sz ≤ xs.length) (h : R (.tuple []) (s.H.set id (.row T (xs.take st ++ zerosL zs (len * sz) ++ xs.drop (st + len * sz))))) : OpV P o s R := opV_of fun p w a hR => by
  obtain ⟨hu, i, z, hi, hzz, hzs, hpos, rfl, rfl⟩ := elT_spec hT
  have hv := slAny_ok hx (hR.ev x)
  obtain ⟨q, hq⟩ := hR.heap.live hb
  obtain ⟨ad, c', hve, hlc, hcm, _, hno, hc⟩ := hv.2 q hq
  have hzl : zs.length = i.size := by
    unfold zeroL at hz
    simp only [hi, hzz] at hz
    have := (consts_rep (p := p) (w := w) hz).1
    rw [← this]; simpa using hzs
  by_cases hl0 : len = 0
  · subst hl0
    have hz0 : zerosL zs (0 * i.size) = [] := by simp [zerosL]
    rw [hz0] at h
    have hset : s.H.set id (.row T (xs.take st ++ [] ++ xs.drop (st + 0 * i.size))) = s.H := by
      rw [List.append_nil, Nat.zero_mul, Nat.add_zero, List.take_append_drop]
      obtain ⟨h1, h2⟩ := List.getElem?_eq_some_iff.1 hb
      rw [← h2]
      exact List.set_getElem_self h1
    rw [hset] at h
    refine ⟨.value (.tuple #[]), .tuple #[], _, _, p, w, ?_, Or.inl rfl, h, hR.heap, ⟨#[], rfl, RepL.nil⟩, Step.refl _ _⟩
    unfold execOp
    rw [ho]
    cases ad <;> simp [resolve, invoke, builtin, hve, Builtin.clear_, run_underlying hu]
  · rcases hc with hc | ⟨g, rfl, rfl, hrs⟩
    · omega
    · rcases hR.heap.row hb with ⟨h3, _⟩ | ⟨g', cur, h3, h4, h5, h6⟩
      · rw [hq] at h3; cases h3
      · rw [hq] at h3; cases h3
        have hzr : RepL (RepC p w) (Builtin.zeroCells z.cells len).toList (zerosL zs (len * i.size)) := by
          unfold zeroL at hz
          simp only [hi, hzz] at hz
          have := zeros_rep (consts_rep (p := p) (w := w) hz) (len * i.size) (by rw [hzs]; exact hpos)
          unfold Builtin.zeroCells
          simp only [hzs] at this ⊢
          exact this
        have hnl : (Builtin.zeroCells z.cells len).toList.length = len * i.size := by rw [hzr.1]; simp [zerosL]
        have h1c : ∀ u ∈ (Builtin.zeroCells z.cells len).toList, u.oneCell' = true := fun u hu => by
          obtain ⟨j, hj, rfl⟩ := List.mem_iff_getElem.1 hu
          exact (hzr.2 j hj (by rw [← hzr.1]; exact hj)).1
        have hst := run_storeCells_at P g st T (Builtin.zeroCells z.cells len).toList 0 cur w h4 (by rw [hnl]; omega) h1c
        simp only [Nat.add_zero] at hst
        have hzv : (zeroValue e).run P w = .ok z w := by simp [zeroValue, typeInfo, hi, hzz]
        have hzy : (zerosL zs (len * i.size)).length = len * i.size := by simp [zerosL]
        obtain ⟨r1, r2⟩ := store_at hR.heap (off := st) hb hq h4 h5 h6 hzr (by rw [hzy]; exact hfit)
        rw [hzy] at r1
        refine ⟨.value (.tuple #[]), .tuple #[], _, _, p, _, ?_, Or.inl rfl, h, r1, ⟨#[], rfl, RepL.nil⟩, r2⟩
        unfold execOp
        rw [ho]
        obtain ⟨n, rfl⟩ : ∃ n, len = n + 1 := ⟨len - 1, by omega⟩
        simp [resolve, invoke, builtin, hve, Builtin.clear_, run_underlying hu, hzv, hst]
end
/-- a nil slice as an own row without cells -/
theorem own_nil {p : Pl} {H : List Blk} {w : World} (hH : RH p H w) (t : TypeId) : ∃ p', RH p' (H ++ [.row t []]) w ∧ Step p w p' w ∧ p'.n = H.length + 1 ∧ ∀ q, p'.at_ H.length = some q → q = none := by
  have hn := hH.n
  let p' : Pl := ⟨p.n + 1, fun i => if i = p.n then some none else p.at_ i, p.x⟩
  have hat : ∀ i g, p'.at_ i = some (some g) → p.at_ i = some (some g) := fun i g h => by
    simp only [p'] at h
    split at h
    · cases h
    · exact h
  have hown : ∀ g, p'.own g → p.own g := fun g ⟨i, hi⟩ => ⟨i, hat i g hi⟩
  have hS : Step p w p' w := ⟨rfl, rfl, rfl, Nat.le_refl _, Nat.le_succ _, fun i q hi hq => by
    simp only [p'] at hq
    rw [if_neg (by omega)] at hq
    exact ⟨hq, fun _ _ => rfl⟩, fun g _ h => hown g h, fun _ _ _ => rfl, rfl⟩
  refine ⟨p', ⟨by simp [p', hn], fun i hi => ?_, fun i j g hi hj => hH.inj i j g (hat i g hi) (hat j g hj), fun i hi => ?_, fun g hg => ⟨(hH.xs g hg).1, fun ho => (hH.xs g hg).2 (hown g ho)⟩⟩, hS, by simp [p', hn], fun q hq => ?_⟩
  · simp only [p'] at hi ⊢
    rw [if_neg (by omega)]
    exact hH.out i (by omega)
  · by_cases h : i < H.length
    · rw [List.getElem_append_left h]
      exact (hH.blk i h).step hS (by simp only [p']; rw [if_neg (by omega)]) fun _ _ => rfl
    · have he : i = H.length := by simp at hi; omega
      subst he
      rw [List.getElem_append_right (Nat.le_refl _)]
      simp only [Nat.sub_self, List.getElem_cons_zero]
      exact Or.inl ⟨by simp only [p']; rw [if_pos hn.symm], rfl⟩
  · simp only [p'] at hq
    rw [if_pos hn.symm] at hq
    cases hq; rfl
def noneV : AV → Bool | .slv _ _ _ => true | .nilsl => true | _ => false
section
variable {P : Program} {s : St} {o : Oper} {R : AV → List Blk → Prop}
/-- a slice without elements and without capacity, as an own row -/
theorem op_slice3v {t e : TypeId} {x hi mx : Operand} {lo : Option Operand} {kh km : IntKind} (ho : o.op = .slice t x lo (some hi) (some mx)) (ht : P.underlying t = some (.slice e)) (hk : knownT P e = true) (hpos : 0 < sizeT P e) (hx : noneV (s.ev x) = true)
    (hl : loE (lo.map s.ev) = some 0) (hh : s.ev hi = .int kh 0) (hm : s.ev mx = .int km 0) (h : R (.sl s.H.length 0 0 (sizeT P e)) (s.H ++ [.row e []])) : OpB P o s R := opB_of fun p w a hR => by
  have hv : ∃ a0 len cap, a.eval x = .slice a0 len cap := by
    have hv := hR.ev x
    cases hxx : s.ev x <;> rw [hxx] at hx hv <;> try cases hx
    case slv => obtain ⟨oa, ad, cap, he, _⟩ := at_slv hv; exact ⟨_, _, _, he⟩
    case nilsl => exact ⟨_, _, _, rep_nilsl hv⟩
  obtain ⟨a0, len, cap, hve⟩ := hv
  have eh := rep_int (hh ▸ hR.ev hi)
  have em := rep_int (hm ▸ hR.ev mx)
  have hbs : (Instr.sliceBounds true len cap (lo.map a.eval) (some (a.eval hi)) (some (a.eval mx))).run P w = .ok (0, 0, 0) w := by
    rw [eh, em]
    cases lo with
    | none => simp [Instr.sliceBounds, Instr.sliceBound, asIntOf]
    | some lo =>
      simp only [Option.map_some, loE] at hl
      cases hlo : s.ev lo <;> rw [hlo] at hl <;> cases hl
      rename_i kl
      have el := rep_int (hlo ▸ hR.ev lo)
      simp [Instr.sliceBounds, Instr.sliceBound, asIntOf, el]
  obtain ⟨p', h1, h2, h3, h4⟩ := own_nil hR.heap e
  refine ⟨.slice a0 0 0, _, _, p', w, ?_, h, h1, ⟨by omega, fun q hq => ?_⟩, h2, Below.refl _ _⟩
  · unfold execOp
    rw [ho]
    simp [Instr.sliceAt, hve, run_underlying ht, Instr.slice, hbs, run_sizeT hk]
  · rw [h4 q hq]
    exact ⟨_, _, rfl, Nat.le_refl _, Nat.zero_le _, hpos, fun _ => rfl, Or.inl rfl⟩
end
end Go.Proofs.Ytkdgnjoofhckeaa.V
/-
  The logic of values: a run that is reckoned out under directions: the judgment, changes of the state's writing, single operations. Over any program.
-/
namespace Go.Proofs.Ytkdgnjoofhckeaa.V
open Go Go.RowKit
set_option linter.unusedSimpArgs false
set_option linter.unusedVariables false

/-- seen from the function's beginning, where n0 blocks stood -/
def GoV (P : Program) (n0 : Nat) (c : Code) (Q : Exit → St → Prop) (s : St) : Prop :=
  ∀ (p0 : Pl) (w0 : World) (p : Pl) (w : World) (a : Act) (Qr : Exit → Act → World → Prop), p0.n = n0 → Step p0 w0 p w → Rst p s a w →
    (∀ e s' p' a' w', Q e s' → Rst p' s' a' w' → Step p0 w0 p' w' → Qr e a' w') → c.wp P Qr a w
def GoN (P : Program) (n0 : Nat) (ops : Array Oper) (Q : Exit → St → Prop) (l : List Nat) (s : St) : Prop :=
  ∀ (p0 : Pl) (w0 : World) (p : Pl) (w : World) (a : Act) (Qr : Exit → Act → World → Prop), p0.n = n0 → Step p0 w0 p w → Rst p s a w →
    (∀ e s' p' a' w', Q e s' → Rst p' s' a' w' → Step p0 w0 p' w' → Qr e a' w') → wpOps P ops Qr l a w
def Wkn (n0 : Nat) (s s' : St) : Prop := ∀ (p0 : Pl) (w0 : World) (p : Pl) (a : Act) (w : World), p0.n = n0 → Step p0 w0 p w → Rst p s a w → ∃ p', Rst p' s' a w ∧ Step p0 w0 p' w
section
variable {P : Program} {n0 : Nat} {Q : Exit → St → Prop} {s s' : St} {c : Code}
theorem GoV.of (h : WpV P c Q s) : GoV P n0 c Q s := fun p0 w0 p w a Qr _ hS hR hQ => h p w a Qr hR fun e s' p' a' w' q r k => hQ e s' p' a' w' q r (hS.trans k)
theorem GoV.wpV (h : GoV P s.H.length c Q s) : WpV P c Q s := fun p w a Qr hR hQ => h p w p w a Qr hR.heap.n (Step.refl p w) hR hQ
theorem GoV.wkn (h : GoV P n0 c Q s') (k : Wkn n0 s s') : GoV P n0 c Q s := fun p0 w0 p w a Qr hn hS hR hQ => by
  obtain ⟨p', h1, h2⟩ := k p0 w0 p a w hn hS hR
  exact h p0 w0 p' w a Qr hn h2 h1 hQ
theorem GoN.wkn {ops : Array Oper} {l : List Nat} (h : GoN P n0 ops Q l s') (k : Wkn n0 s s') : GoN P n0 ops Q l s := fun p0 w0 p w a Qr hn hS hR hQ => by
  obtain ⟨p', h1, h2⟩ := k p0 w0 p a w hn hS hR
  exact h p0 w0 p' w a Qr hn h2 h1 hQ
theorem RunT.wkn {ops : Array Oper} {quiet : Nat → Bool} {n : Nat} {listed : Array Bool} (h : RunT P ops Q quiet n0 n listed s') (k : Wkn n0 s s') : RunT P ops Q quiet n0 n listed s := fun p0 w0 p w a K hn hsz hc hS hR hQ => by
  obtain ⟨p', h1, h2⟩ := k p0 w0 p a w hn hS hR
  exact h p0 w0 p' w a K hn hsz hc h2 h1 hQ
theorem GoV.mono {Q' : Exit → St → Prop} (h : GoV P n0 c Q s) (hq : ∀ e s, Q e s → Q' e s) : GoV P n0 c Q' s := fun p0 w0 p w a Qr hn hS hR hQ => h p0 w0 p w a Qr hn hS hR fun e s' p' a' w' q => hQ e s' p' a' w' (hq e s' q)
theorem Wkn.refl (n0 : Nat) (s : St) : Wkn n0 s s := fun _ _ p _ _ _ hS hR => ⟨p, hR, hS⟩
theorem Wkn.trans {s1 s2 s3 : St} (h : Wkn n0 s1 s2) (k : Wkn n0 s2 s3) : Wkn n0 s1 s3 := fun p0 w0 p a w hn hS hR => by
  obtain ⟨p', h1, h2⟩ := h p0 w0 p a w hn hS hR
  exact k p0 w0 p' a w hn h2 h1
/-- behind a piece of code the state may be written otherwise -/
theorem GoV.post {Q' : Exit → St → Prop} (h : GoV P n0 c Q s) (hq : ∀ e s1, Q e s1 → ∃ s2, Wkn n0 s1 s2 ∧ Q' e s2) : GoV P n0 c Q' s := fun p0 w0 p w a Qr hn hS hR hQ =>
  h p0 w0 p w a Qr hn hS hR fun e s1 p1 a1 w1 q r k => by
    obtain ⟨s2, h1, h2⟩ := hq e s1 q
    obtain ⟨p', h3, h4⟩ := h1 p0 w0 p1 a1 w1 hn k r
    exact hQ e s2 p' a1 w1 h2 h3 h4
end

/-! ### the state written otherwise -/
inductive Pre where
  | sel (ks : List Nat)
  | tm (i : Nat) (x : AV)
  | tw (i : Nat) (x : AV)
  | hp (id : Nat) (b : Blk)
  | frz (i : Nat)
  | keep (ks : List Nat) (fl : List Bool)
  | own (i : Nat) (t : TypeId) (sz : Nat)
  | place (ks : List (Option Nat)) (fl : List Bool)
  | flags (bf : List Bool) (nf : Bool)
  | cut (id n : Nat)
  | ownc (id i : Nat) (t : TypeId) (sz : Nat)
  | frzc (id i : Nat)
/-- of a row only the first cells are known -/
theorem cut_ok {p : Pl} {H : List Blk} {w : World} (hH : RH p H w) {id : Nat} {t : TypeId} {xs : List AV} (hb : H[id]? = some (.row t xs)) (n : Nat) : RH p (H.set id (.row t (xs.take n))) w := by
  refine ⟨by rw [List.length_set]; exact hH.n, hH.out, hH.inj, fun j hj => ?_, hH.xs⟩
  rw [List.getElem_set]
  split
  · rename_i he
    subst he
    rcases hH.row hb with ⟨h1, h2⟩ | ⟨g, cur, h1, h2, h3, h4⟩
    · subst h2
      exact Or.inl ⟨h1, by simp⟩
    · refine Or.inr ⟨g, cur, h1, h2, by rw [List.length_take]; omega, fun i hi => ?_⟩
      rw [List.length_take] at hi
      obtain ⟨v, a, b⟩ := h4 i (by omega)
      exact ⟨v, a, by rw [List.getElem_take]; exact b⟩
  · exact hH.blk j (by rw [List.length_set] at hj; exact hj)
/-- one cell of a row seen otherwise -/
theorem cell_ok {p : Pl} {H : List Blk} {w : World} (hH : RH p H w) {id i : Nat} {t : TypeId} {xs : List AV} {x y : AV} (hb : H[id]? = some (.row t xs)) (hi : xs[i]? = some x) (hw : ∀ v, Rep0 p w v x → Rep0 p w v y) : RH p (H.set id (.row t (xs.set i y))) w := by
  refine ⟨by rw [List.length_set]; exact hH.n, hH.out, hH.inj, fun j hj => ?_, hH.xs⟩
  rw [List.getElem_set]
  split
  · rename_i he
    subst he
    rcases hH.row hb with ⟨h1, h2⟩ | ⟨g, cur, h1, h2, h3, h4⟩
    · subst h2
      exact Or.inl ⟨h1, by simp⟩
    · refine Or.inr ⟨g, cur, h1, h2, by rw [List.length_set]; exact h3, fun k hk => ?_⟩
      rw [List.length_set] at hk
      obtain ⟨v, a, b⟩ := h4 k hk
      refine ⟨v, a, ?_⟩
      rw [List.getElem_set]
      split
      · rename_i he
        subst he
        have : xs[i] = x := (List.getElem?_eq_some_iff.1 hi).2
        rw [this] at b
        exact ⟨b.1, hw v b.2⟩
      · exact b
  · exact hH.blk j (by rw [List.length_set] at hj; exact hj)
/-- an own row that a cell leads to, as a value -/
theorem cell_frz {p : Pl} {H : List Blk} {w : World} (hH : RH p H w) {id i j st len sz : Nat} {t T : TypeId} {xs ys : List AV} (hb : H[id]? = some (.row T xs)) (hi : xs[i]? = some (.sl j st len sz)) (hj : H[j]? = some (.row t ys)) (hne : id ≠ j)
    (hn : ∀ x ∈ ys, noid0 x = true ∧ x ≠ .junk) (hl : st + len * sz ≤ ys.length) : ∃ p', RH p' ((H.set j .dead).set id (.row T (xs.set i (.slv len sz ((ys.drop st).take (len * sz)))))) w ∧ Step p w p' w := by
  obtain ⟨hil, hix⟩ := List.getElem?_eq_some_iff.1 hi
  rcases hH.row hb with ⟨_, h2⟩ | ⟨g, cur, h1, h2, h3, h4⟩
  · subst h2; simp at hil
  · obtain ⟨v, hv1, hv2⟩ := h4 i hil
    rw [hix] at hv2
    have hR : Rst p ⟨[.sl j st len sz], H⟩ { tmps := #[v], defers := [] } w := ⟨rfl, ⟨rfl, fun k a b => by
      have : k = 0 := by simp at a; omega
      subst this; exact hv2.2⟩, hH⟩
    obtain ⟨p', hR', hS⟩ := hR.freeze 0 j st len sz t ys rfl hj hn hl
    have hv3 := hR'.reps.2 0 (by simp) (by simp)
    refine ⟨p', ⟨by rw [List.length_set]; exact hR'.heap.n, hR'.heap.out, hR'.heap.inj, fun k hk => ?_, hR'.heap.xs⟩, hS⟩
    rw [List.getElem_set]
    split
    · rename_i he
      subst he
      have hidl : id < (H.set j .dead).length := by rw [List.length_set]; exact (List.getElem?_eq_some_iff.1 hb).1
      have hB := hR'.heap.blk id hidl
      have hb' : (H.set j .dead)[id]'hidl = .row T xs := by
        rw [List.getElem_set, if_neg (fun h => hne h.symm)]
        exact (List.getElem?_eq_some_iff.1 hb).2
      rw [hb'] at hB
      rcases hB with ⟨_, k2⟩ | ⟨g', cur', k1, k2, k3, k4⟩
      · subst k2; simp at hil
      · have hg := (hS.keep id _ (by rw [hH.n]; exact (List.getElem?_eq_some_iff.1 hb).1) k1).1
        rw [h1] at hg
        cases hg
        rw [h2] at k2
        cases k2
        refine Or.inr ⟨g, cur, k1, h2, by rw [List.length_set]; exact k3, fun m hm => ?_⟩
        rw [List.length_set] at hm
        rw [List.getElem_set]
        split
        · rename_i he
          subst he
          exact ⟨v, hv1, hv2.1, hv3⟩
        · exact k4 m hm
    · exact hR'.heap.blk k (by rw [List.length_set] at hk; exact hk)
/-- no cell bears a block -/
def StayB : Blk → Prop
  | .row _ xs => ∀ x ∈ xs, noid0 x = true
  | .map kv => kv = kv.map fun q => (ren1 (fun _ => none) q.1, ren1 (fun _ => none) q.2)
  | _ => True
def keepBlk (f : Nat → Option Nat) (fl : Bool) (b : Blk) : Blk := bif fl then b else renBlk f b
theorem map_plain {f : Nat → Option Nat} : ∀ {kv : List (AV × AV)}, (∀ q ∈ kv, plain1 q.1 = true ∧ plain1 q.2 = true) → kv = kv.map fun q => (ren1 f q.1, ren1 f q.2)
  | [], _ => rfl
  | q :: r, h => by
    have h1 := h q (by simp)
    rw [List.map_cons, ren1_plain h1.1, ren1_plain h1.2, ← map_plain fun x hx => h x (List.mem_cons_of_mem _ hx)]
def stayP : List Bool → List Blk → List Prop
  | true :: r, .row _ xs :: l => (∀ x ∈ xs, noid0 x = true) :: stayP r l
  | true :: r, .map kv :: l => (∀ q ∈ kv, plain1 q.1 = true ∧ plain1 q.2 = true) :: stayP r l
  | _ :: r, _ :: l => stayP r l
  | _, _ => []
def keepF (ks : List Nat) (H : List Blk) : List Nat → List Bool → List Blk
  | [], _ => []
  | i :: r, [] => renBlk (idxK ks) (H.getD i .dead) :: keepF ks H r []
  | i :: r, b :: l => keepBlk (idxK ks) b (H.getD i .dead) :: keepF ks H r l
theorem keepF_len (ks : List Nat) (H : List Blk) : ∀ (l : List Nat) (fl : List Bool), (keepF ks H l fl).length = l.length
  | [], _ => rfl
  | i :: r, [] => by simp [keepF, keepF_len ks H r []]
  | i :: r, b :: l => by simp [keepF, keepF_len ks H r l]
theorem keepF_ok (ks : List Nat) (H : List Blk) : ∀ (l : List Nat) (fl : List Bool), allP (stayP fl (l.map fun i => H.getD i .dead)) → ∀ (j : Nat) (h : j < l.length) (h1 : l[j] < H.length) (h' : j < (keepF ks H l fl).length), RenB (idxK ks) H[l[j]] (keepF ks H l fl)[j]
  | [], _, _, j, h, _, _ => absurd h (by simp)
  | i :: r, [], hp, j, h, h1, h' => by
    cases j with
    | zero =>
      simp only [List.getElem_cons_zero] at h1
      simp only [keepF, List.getElem_cons_zero]
      rw [show H.getD i .dead = H[i] by simp [List.getD_eq_getElem?_getD, h1]]
      exact renBlk_ok _ _
    | succ j =>
      simp only [keepF, List.getElem_cons_succ] at h1 ⊢
      exact keepF_ok ks H r [] (by cases r <;> simp [stayP, allP]) j (by simpa using h) h1 (by simpa [keepF] using h')
  | i :: r, b :: l, hp, j, h, h1, h' => by
    have hp2 : allP (stayP l (r.map fun i => H.getD i .dead)) := by
      simp only [List.map_cons] at hp
      cases hb : H.getD i .dead <;> cases b <;> rw [hb] at hp <;> simp only [stayP] at hp <;> first | exact hp | (rw [allP_cons] at hp; exact hp.2)
    cases j with
    | zero =>
      simp only [List.getElem_cons_zero] at h1
      simp only [keepF, List.getElem_cons_zero]
      have he : H.getD i .dead = H[i] := by simp [List.getD_eq_getElem?_getD, h1]
      cases b with
      | false => simp only [keepBlk, cond_false]; rw [he]; exact renBlk_ok _ _
      | true =>
        simp only [keepBlk, cond_true]
        rw [List.map_cons, he] at hp
        rw [he]
        generalize H[i] = B at hp
        cases B with
        | dead => trivial
        | row t xs => simp only [stayP] at hp; rw [allP_cons] at hp; exact ⟨rfl, Or.inl ⟨rfl, hp.1⟩⟩
        | map kv => simp only [stayP] at hp; rw [allP_cons] at hp; exact map_plain hp.1
        | iter s n => exact ⟨rfl, rfl⟩
    | succ j =>
      simp only [keepF, List.getElem_cons_succ] at h1 ⊢
      exact keepF_ok ks H r l hp2 j (by simpa using h) h1 (by simpa [keepF] using h')
/-! the blocks in other places -/
def Pl.place (p : Pl) (ks : List (Option Nat)) : Pl := ⟨ks.length, fun j => match ks[j]? with | some (some i) => p.at_ i | _ => none, p.x⟩
def idxP (ks : List (Option Nat)) (id : Nat) : Option Nat := ks.findIdx? fun q => match q with | some i => i.beq id | none => false
def placeB (n0 n : Nat) (ks : List (Option Nat)) : Bool := Nat.ble n0 ks.length && (List.range ks.length).all fun i => match ks[i]? with
  | some (some a) => (match idxP ks a with | some j => j.beq i | none => false) && (Nat.blt a n && (!Nat.blt i n0 || a.beq i))
  | _ => true
theorem idxP_spec {ks : List (Option Nat)} {id j : Nat} (h : idxP ks id = some j) : ks[j]? = some (some id) := by
  unfold idxP at h
  rw [List.findIdx?_eq_some_iff_getElem] at h
  obtain ⟨h1, h2, _⟩ := h
  rw [List.getElem?_eq_getElem h1]
  split at h2
  · rename_i i hi; rw [hi, Nat.eq_of_beq_eq_true h2]
  · cases h2
theorem placeB_ok {n0 n : Nat} {ks : List (Option Nat)} (h : placeB n0 n ks = true) : n0 ≤ ks.length ∧ ∀ i a, ks[i]? = some (some a) → idxP ks a = some i ∧ a < n ∧ (i < n0 → a = i) := by
  simp only [placeB, Bool.and_eq_true, Nat.ble_eq, List.all_eq_true] at h
  refine ⟨h.1, fun i a hi => ?_⟩
  have h1 := h.2 i (List.mem_range.2 (List.getElem?_eq_some_iff.1 hi).1)
  rw [hi] at h1
  simp only [Bool.and_eq_true, Bool.or_eq_true, Bool.not_eq_true', Nat.blt_eq] at h1
  obtain ⟨h2, h3, h4⟩ := h1
  refine ⟨?_, h3, fun hlt => ?_⟩
  · split at h2
    · rename_i j hj; rw [hj, Nat.eq_of_beq_eq_true h2]
    · cases h2
  · rcases h4 with h4 | h4
    · rw [← Bool.not_eq_true, Nat.blt_eq] at h4; exact absurd hlt h4
    · exact Nat.eq_of_beq_eq_true h4
def placeF (ks : List (Option Nat)) (H : List Blk) : List (Option Nat) → List Bool → List Blk
  | [], _ => []
  | none :: r, fl => .dead :: placeF ks H r fl.tail
  | some i :: r, fl => keepBlk (idxP ks) (fl.headD false) (H.getD i .dead) :: placeF ks H r fl.tail
theorem placeF_len (ks : List (Option Nat)) (H : List Blk) : ∀ (l : List (Option Nat)) (fl : List Bool), (placeF ks H l fl).length = l.length
  | [], _ => rfl
  | none :: r, fl => by simp [placeF, placeF_len ks H r]
  | some i :: r, fl => by simp [placeF, placeF_len ks H r]
def stayQ (H : List Blk) : List (Option Nat) → List Bool → List Prop
  | some i :: r, true :: l => (match H.getD i .dead with | .row _ xs => [∀ x ∈ xs, noid0 x = true] | .map kv => [∀ q ∈ kv, plain1 q.1 = true ∧ plain1 q.2 = true] | _ => []) ++ stayQ H r l
  | _ :: r, _ :: l => stayQ H r l
  | _, _ => []
theorem keepBlk_ok {f : Nat → Option Nat} {fl : Bool} {b : Blk} (h : fl = true → allP (match b with | .row _ xs => [∀ x ∈ xs, noid0 x = true] | .map kv => [∀ q ∈ kv, plain1 q.1 = true ∧ plain1 q.2 = true] | _ => [])) : RenB f b (keepBlk f fl b) := by
  cases fl with
  | false => exact renBlk_ok f b
  | true =>
    have h := h rfl
    cases b with
    | dead => trivial
    | row t xs => exact ⟨rfl, Or.inl ⟨rfl, h⟩⟩
    | map kv => exact map_plain h
    | iter s n => exact ⟨rfl, rfl⟩
theorem placeF_at (ks : List (Option Nat)) (H : List Blk) : ∀ (l : List (Option Nat)) (fl : List Bool) (j : Nat), (l[j]? = some none → (placeF ks H l fl)[j]? = some .dead) ∧ ∀ i, l[j]? = some (some i) → ∃ b, (placeF ks H l fl)[j]? = some b ∧ (allP (stayQ H l fl) → RenB (idxP ks) (H.getD i .dead) b)
  | [], _, j => ⟨fun h => by simp at h, fun i h => by simp at h⟩
  | q :: r, fl, 0 => by
    refine ⟨fun h => ?_, fun i h => ?_⟩
    · simp only [List.getElem?_cons_zero, Option.some.injEq] at h; subst h; rfl
    · simp only [List.getElem?_cons_zero, Option.some.injEq] at h
      subst h
      refine ⟨_, rfl, fun hs => keepBlk_ok fun hf => ?_⟩
      cases fl with
      | nil => cases hf
      | cons b l =>
        simp only [List.headD_cons] at hf
        subst hf
        simp only [stayQ] at hs
        rw [allP_append] at hs
        exact hs.1
  | q :: r, fl, j + 1 => by
    have ih := placeF_at ks H r fl.tail j
    have e : (placeF ks H (q :: r) fl)[j + 1]? = (placeF ks H r fl.tail)[j]? := by cases q <;> simp [placeF]
    rw [e]
    simp only [List.getElem?_cons_succ]
    refine ⟨ih.1, fun i h => ?_⟩
    obtain ⟨b, h1, h2⟩ := ih.2 i h
    refine ⟨b, h1, fun hs => h2 ?_⟩
    cases fl with
    | nil => cases r with
      | nil => trivial
      | cons q' r' => simp [stayQ, allP]
    | cons b' l =>
      simp only [List.tail_cons]
      cases q with
      | none => exact hs
      | some i' =>
        cases b' with
        | false => exact hs
        | true => simp only [stayQ] at hs; rw [allP_append] at hs; exact hs.2
theorem place_ok {p0 p : Pl} {w0 w : World} {H : List Blk} {ks : List (Option Nat)} {fl : List Bool} (hS : Step p0 w0 p w) (hH : RH p H w) (hk : placeB p0.n H.length ks = true) (hst : allP (stayQ H ks fl)) : RH (p.place ks) (placeF ks H ks fl) w ∧ Step p0 w0 (p.place ks) w ∧ Emb (idxP ks) p (p.place ks) := by
  obtain ⟨hn, hks⟩ := placeB_ok hk
  have hat : ∀ j q, (p.place ks).at_ j = some q → ∃ i, ks[j]? = some (some i) ∧ p.at_ i = some q := fun j q h => by
    simp only [Pl.place] at h
    split at h
    · rename_i i hi; exact ⟨i, hi, h⟩
    · cases h
  have hown : ∀ g, (p.place ks).own g → p.own g := fun g ⟨j, hj⟩ => by
    obtain ⟨i, _, hi⟩ := hat j _ hj
    exact ⟨i, hi⟩
  have hE : Emb (idxP ks) p (p.place ks) := by
    refine ⟨fun id j hf hid => ?_, fun g hg => hg.imp (hown g) id⟩
    have h := idxP_spec hf
    refine ⟨(List.getElem?_eq_some_iff.1 h).1, fun q hq => ?_⟩
    simp only [Pl.place, h] at hq
    exact hq
  refine ⟨⟨(placeF_len _ _ _ _).symm, fun id hid => ?_, fun i j g hi hj => ?_, fun id hid => ?_, fun g hg => ⟨(hH.xs g hg).1, fun ho => (hH.xs g hg).2 (hown g ho)⟩⟩, ⟨hS.os, hS.tape, hS.output, hS.size, hn, fun id q hid hq => ?_, fun g hg hm => hS.old g hg (hown g hm), hS.froz, hS.x⟩, hE⟩
  · simp only [Pl.place] at hid ⊢
    rw [List.getElem?_eq_none hid]
  · obtain ⟨a, ha, ha2⟩ := hat i _ hi
    obtain ⟨b, hb, hb2⟩ := hat j _ hj
    have := hH.inj _ _ _ ha2 hb2
    subst this
    have h1 := (hks i a ha).1
    rw [(hks j a hb).1] at h1
    cases h1; rfl
  · have hl : id < ks.length := by rw [placeF_len] at hid; exact hid
    have hq := placeF_at ks H ks fl id
    have hg : (placeF ks H ks fl)[id]? = some (placeF ks H ks fl)[id] := List.getElem?_eq_getElem hid
    cases hkid : ks[id]? with
    | none => rw [List.getElem?_eq_none_iff] at hkid; omega
    | some q =>
      cases q with
      | none =>
        have := hq.1 hkid
        rw [hg] at this
        cases this' : (placeF ks H ks fl)[id] <;> rw [this'] at this <;> cases this
        simp only [BlkIs, Pl.place, hkid]
      | some i =>
        obtain ⟨b, h1, h2⟩ := hq.2 i hkid
        rw [hg] at h1
        cases h1
        have hi : i < H.length := (hks id i hkid).2.1
        have he : H.getD i .dead = H[i] := by simp [List.getD_eq_getElem?_getD, hi]
        have h3 := h2 hst
        rw [he] at h3
        exact (hH.blk i hi).ren hE (by simp only [Pl.place, hkid]) h3
  · obtain ⟨i, hi, hi2⟩ := hat id _ hq
    have := (hks id i hi).2.2 hid
    subst this
    exact hS.keep _ q hid hi2
def preE (n0 : Nat) : Pre → St → Option (List Prop × St)
  | .sel ks, s => some ([], selS ks s)
  | .tm i x, s => some ([s.t.getD i .junk = x], ⟨s.t.set i x, s.H⟩)
  | .tw i x, s => some ([∀ (p : Pl) (w : World) (v : Value), Rep p w v (s.t.getD i .junk) → Rep p w v x], ⟨s.t.set i x, s.H⟩)
  | .hp id b, s => some ([s.H[id]? = some b], ⟨s.t, s.H.set id b⟩)
  | .frz i, s => match s.t[i]? with
    | some (.sl id st len sz) => match s.H[id]? with
      | some (.row _ xs) => some ([∀ x ∈ xs, noid0 x = true ∧ x ≠ .junk, st + len * sz ≤ xs.length], ⟨s.t.set i (.slv len sz ((xs.drop st).take (len * sz))), s.H.set id .dead⟩)
      | _ => none
    | _ => none
  | .keep ks fl, s => some (dec (keepB n0 ks s.H) ++ stayP fl (ks.map fun i => s.H.getD i .dead), ⟨s.t.map (ren (idxK ks)), keepF ks s.H ks fl⟩)
  | .own i t sz, s => match s.t[i]? with
    | some .nilsl => some (dec (Nat.blt 0 sz), ⟨s.t.set i (.sl s.H.length 0 0 sz), s.H ++ [.row t []]⟩)
    | _ => none
  | .flags _ _, s => some ([], s)
  | .cut id n, s => match s.H[id]? with
    | some (.row t xs) => some ([], ⟨s.t, s.H.set id (.row t (xs.take n))⟩)
    | _ => none
  | .ownc id i t sz, s => match s.H[id]? with
    | some (.row T xs) => match xs[i]? with
      | some .nilsl => some (dec (Nat.blt 0 sz), ⟨s.t, (s.H ++ [Blk.row t []]).set id (.row T (xs.set i (.sl s.H.length 0 0 sz)))⟩)
      | _ => none
    | _ => none
  | .frzc id i, s => match s.H[id]? with
    | some (.row T xs) => match xs[i]? with
      | some (.sl j st len sz) => match s.H[j]? with
        | some (.row _ ys) => some (dec (!id.beq j) ++ [∀ x ∈ ys, noid0 x = true ∧ x ≠ .junk, st + len * sz ≤ ys.length], ⟨s.t, (s.H.set j .dead).set id (.row T (xs.set i (.slv len sz ((ys.drop st).take (len * sz)))))⟩)
        | _ => none
      | _ => none
    | _ => none
  | .place ks fl, s => some (dec (placeB n0 s.H.length ks) ++ stayQ s.H ks fl, ⟨s.t.map (ren (idxP ks)), placeF ks s.H ks fl⟩)
theorem preE_ok {n0 : Nat} {d : Pre} {s s' : St} {C : List Prop} (h : preE n0 d s = some (C, s')) (hC : allP C) : Wkn n0 s s' := by
  unfold preE at h
  split at h
  · cases h; exact fun p0 w0 p a w hn hS hR => ⟨p, hR.sel _, hS⟩
  · cases h
    exact fun p0 w0 p a w hn hS hR => ⟨p, hR.set _ _ fun v hv => by rw [← hC]; exact hv, hS⟩
  · cases h
    exact fun p0 w0 p a w hn hS hR => ⟨p, hR.set _ _ fun v hv => hC p w v hv, hS⟩
  · rename_i id b
    cases h
    have e : s.H.set id b = s.H := by
      obtain ⟨h1, h2⟩ := List.getElem?_eq_some_iff.1 (show s.H[id]? = some b from hC)
      rw [← h2]
      exact List.set_getElem_self h1
    rw [e]
    exact Wkn.refl _ _
  · split at h
    · rename_i id st len sz hi
      split at h
      · rename_i t xs hb
        cases h
        exact fun p0 w0 p a w hn hS hR => by
          obtain ⟨p', h1, h2⟩ := hR.freeze _ id st len sz t xs hi hb hC.1 hC.2
          exact ⟨p', h1, hS.trans h2⟩
      · cases h
    · cases h
  · rename_i ks fl
    cases h
    rw [allP_append, allP_dec] at hC
    exact fun p0 w0 p a w hn hS hR => by
      have hk0 := keepB_ok hC.1
      have hk : KeepOK p0.n ks s.H (keepF ks s.H ks fl) := ⟨hk0.nodup, hk0.lt, by rw [hn]; exact hk0.n0le, fun j hj => hk0.pre j (by rw [← hn]; exact hj), keepF_len _ _ _ _, fun j h1 h2 h3 => keepF_ok ks s.H ks fl hC.2 j h1 h2 h3⟩
      obtain ⟨k1, k2, k3⟩ := keep_ok hS hR.heap hk
      exact ⟨_, ⟨hR.defers, renT_rep k3 hR.reps (renT_map _ _), k1⟩, k2⟩
  · rename_i i t sz
    split at h
    · rename_i hi
      cases h
      rw [allP_dec, Nat.blt_eq] at hC
      exact fun p0 w0 p a w hn hS hR => by
        obtain ⟨p', h1, h2, h3, h4⟩ := own_nil hR.heap t
        refine ⟨p', ?_, hS.trans h2⟩
        have hR' : Rst p' ⟨s.t, s.H ++ [.row t []]⟩ a w := hR.step h2 h1
        refine hR'.set i (.sl s.H.length 0 0 sz) fun v hv => ?_
        have hv' : Rep p' w v .nilsl := by
          have e : s.t.getD i .junk = .nilsl := by rw [List.getD_eq_getElem?_getD, hi]; rfl
          rw [show (St.mk s.t (s.H ++ [.row t []])).t.getD i .junk = .nilsl from e] at hv
          exact hv
        rw [rep_nilsl hv']
        exact ⟨by omega, fun q hq => by rw [h4 q hq]; exact ⟨none, 0, rfl, Nat.le_refl _, Nat.zero_le _, hC, fun _ => rfl, Or.inl rfl⟩⟩
    · cases h
  · cases h; exact Wkn.refl _ _
  · rename_i id n
    split at h
    · rename_i t xs hb
      cases h
      exact fun p0 w0 p a w hn hS hR => ⟨p, ⟨hR.defers, hR.reps, cut_ok hR.heap hb n⟩, hS⟩
    · cases h
  · rename_i id i t sz
    split at h
    · rename_i T xs hb
      split at h
      · rename_i hx
        cases h
        rw [allP_dec, Nat.blt_eq] at hC
        exact fun p0 w0 p a w hn hS hR => by
          obtain ⟨p', h1, h2, h3, h4⟩ := own_nil hR.heap t
          have hb' : (s.H ++ [.row t []])[id]? = some (.row T xs) := by
            rw [List.getElem?_append_left (List.getElem?_eq_some_iff.1 hb).1]; exact hb
          refine ⟨p', ⟨hR.defers, (hR.step h2 h1 : Rst p' ⟨s.t, s.H ++ [.row t []]⟩ a w).reps, cell_ok h1 hb' hx fun v hv => ?_⟩, hS.trans h2⟩
          have hv' : RepF p'.M w v .nilsl := hv
          cases hv'
          exact ⟨by omega, fun q hq => by rw [h4 q hq]; exact ⟨none, 0, rfl, Nat.le_refl _, Nat.zero_le _, hC, fun _ => rfl, Or.inl rfl⟩⟩
      · cases h
    · cases h
  · rename_i id i
    split at h
    · rename_i T xs hb
      split at h
      · rename_i j st len sz hi
        split at h
        · rename_i t ys hj
          cases h
          rw [allP_append, allP_dec] at hC
          obtain ⟨c1, c2, c3⟩ := hC
          exact fun p0 w0 p a w hn hS hR => by
            obtain ⟨p', k1, k2⟩ := cell_frz hR.heap hb hi hj (fun he => by subst he; simp at c1) c2 c3
            exact ⟨p', hR.step k2 k1, hS.trans k2⟩
        · cases h
      · cases h
    · cases h
  · rename_i ks fl
    cases h
    rw [allP_append, allP_dec] at hC
    exact fun p0 w0 p a w hn hS hR => by
      obtain ⟨k1, k2, k3⟩ := place_ok hS hR.heap (by rw [hn]; exact hC.1) hC.2
      exact ⟨_, ⟨hR.defers, renT_rep k3 hR.reps (renT_map _ _), k1⟩, k2⟩
def preL (n0 : Nat) : List Pre → St → Option (List Prop × St)
  | [], s => some ([], s)
  | d :: r, s => match preE n0 d s with
    | some (C, s1) => match preL n0 r s1 with
      | some (D, s2) => some (C ++ D, s2)
      | none => none
    | none => none
theorem preL_ok {n0 : Nat} : ∀ {l : List Pre} {s s' : St} {C : List Prop}, preL n0 l s = some (C, s') → allP C → Wkn n0 s s'
  | [], s, s', C, h, hC => by cases h; exact Wkn.refl _ _
  | d :: r, s, s', C, h, hC => by
    unfold preL at h
    split at h
    · rename_i C1 s1 h1
      split at h
      · rename_i D s2 h2
        cases h
        rw [allP_append] at hC
        exact (preE_ok h1 hC.1).trans (preL_ok h2 hC.2)
      · cases h
    · cases h

/-! ### own blocks lent, one argument after the other -/
def Reads1 (H : List Blk) (x y : AV) : Prop := ∀ (p p1 : Pl) (w : World) (v : Value), RH p H w → Lends (fun _ => true) p p1 → Rep p w v x → Rep p1 w v y
theorem Reads.nil {H : List Blk} : Reads H [] [] := fun p p1 w vs hH hL h => by
  cases vs with
  | nil => exact RepL.nil
  | cons _ _ => exact absurd h.1 (by simp)
theorem Reads.cons {H : List Blk} {x y : AV} {l l' : List AV} (h : Reads1 H x y) (k : Reads H l l') : Reads H (x :: l) (y :: l') := fun p p1 w vs hH hL hv => by
  cases vs with
  | nil => exact absurd hv.1 (by simp)
  | cons v vs => exact RepL.cons (h p p1 w v hH hL (hv.2 0 (by simp) (by simp))) (k p p1 w vs hH hL ⟨by simpa using hv.1, fun i a b => by have := hv.2 (i + 1) (by simpa using a) (by simpa using b); simpa using this⟩)
/-! a load within a row of which a part is written out -/
theorem drop_hd {a o : Nat} {xs ys : List AV} {v : AV} (h : xs.drop a = ys) (k : (ys.drop o).headD .junk = v) : (xs.drop (a + o)).headD .junk = v := by rw [← k, ← h, List.drop_drop]
theorem drop_hd0 {a : Nat} {xs ys : List AV} {v : AV} (h : xs.drop a = ys) (k : ys.headD .junk = v) : (xs.drop a).headD .junk = v := by rw [← k, ← h]
theorem drop_ag {a o n : Nat} {xs ys : List AV} {v : AV} (h : xs.drop a = ys) (k : AV.agg ((ys.drop o).take n) = v) : AV.agg ((xs.drop (a + o)).take n) = v := by rw [← k, ← h, List.drop_drop]
theorem drop_ag0 {a n : Nat} {xs ys : List AV} {v : AV} (h : xs.drop a = ys) (k : AV.agg (ys.take n) = v) : AV.agg ((xs.drop a).take n) = v := by rw [← k, ← h]
theorem drop_le {a o n : Nat} {xs ys : List AV} (h : xs.drop a = ys) (k : n ≤ (ys.drop o).length) : n ≤ (xs.drop (a + o)).length := by rw [← h, List.drop_drop] at k; exact k
theorem drop_le0 {a n : Nat} {xs ys : List AV} (h : xs.drop a = ys) (k : n ≤ ys.length) : n ≤ (xs.drop a).length := by rw [← h] at k; exact k
theorem sl_slc {p : Pl} {w : World} {v : Value} {id st len sz : Nat} (h0 : 0 < len) (h : Rep p w v (.sl id st len sz)) : Rep p w v (.slc id st len (len + 1) sz) :=
  ⟨h.1, fun q hq => by obtain ⟨a, c, h1, h2, h3, h4, h5, h6⟩ := h.2 q hq; exact ⟨a, c, h1, h2, h3, h4, h5, h6, fun _ => ⟨fun ha => by have := h5 ha; omega, by omega⟩⟩⟩
/-- an own slice without elements: nil, or not -/
theorem GoV.nilor {P : Program} {n0 : Nat} {c : Code} {Q : Exit → St → Prop} {s : St} (i : Nat) {id st sz : Nat} {t : TypeId} {xs : List AV} (hi : s.t[i]? = some (.sl id st 0 sz)) (hb : s.H[id]? = some (.row t xs)) (h1 : GoV P n0 c Q ⟨s.t.set i .nilsl, s.H⟩) (h2 : GoV P n0 c Q ⟨s.t.set i (.slc id st 0 1 sz), s.H⟩) : GoV P n0 c Q s := fun p0 w0 p w a Qr hn hS hR hQ => by
  have hit : i < a.tmps.toList.length := by rw [hR.reps.1]; exact (List.getElem?_eq_some_iff.1 hi).1
  have hgi : s.t[i]'(by rw [← hR.reps.1]; exact hit) = .sl id st 0 sz := (List.getElem?_eq_some_iff.1 hi).2
  have hv := hR.reps.2 i hit (by rw [← hR.reps.1]; exact hit)
  rw [hgi] at hv
  obtain ⟨q, hq⟩ := hR.heap.live hb
  obtain ⟨ad, cap, e1, e2, e3, e4, e5, e6⟩ := hv.2 q hq
  have hset : ∀ x, Rep p w a.tmps.toList[i] x → Rst p ⟨s.t.set i x, s.H⟩ a w := fun x hx => ⟨hR.defers, ⟨by rw [List.length_set]; exact hR.reps.1, fun j j1 j2 => by
    rw [List.getElem_set]
    split
    · rename_i he; subst he; exact hx
    · exact hR.reps.2 j j1 (by rw [List.length_set] at j2; exact j2)⟩, hR.heap⟩
  cases ad with
  | none =>
    have hc0 := e5 rfl
    subst hc0
    exact h1 p0 w0 p w a Qr hn hS (hset _ (by rw [e1]; exact RepF.rep .nilsl)) hQ
  | some ad => exact h2 p0 w0 p w a Qr hn hS (hset _ ⟨hv.1, fun q' hq' => by rw [hq] at hq'; cases hq'; exact ⟨_, _, e1, e2, e3, e4, e5, e6, fun _ => ⟨fun hh => (by cases hh), by omega⟩⟩⟩) hQ
theorem slc_sl {p : Pl} {w : World} {v : Value} {id st len c sz : Nat} (h : Rep p w v (.slc id st len c sz)) : Rep p w v (.sl id st len sz) :=
  ⟨h.1, fun q hq => by obtain ⟨a, c, h1, h2, h3, h4, h5, h6, _⟩ := h.2 q hq; exact ⟨a, c, h1, h2, h3, h4, h5, h6⟩⟩
theorem Reads1.val {H : List Blk} {x y : AV} (h : val1 (fun _ => true) H 100 x = some y) : Reads1 H x y := fun p p1 w v hH hL hv => val1_rep hH hL 100 x y v h hv
theorem Reads1.sl {H : List Blk} {id st len sz : Nat} {cs : List AV} {t : TypeId} {xs : List AV} (hb : H[id]? = some (.row t xs)) (hn : ∀ x ∈ xs, noid0 x = true ∧ x ≠ .junk) (hl : st + len * sz ≤ xs.length) (hc : (xs.drop st).take (len * sz) = cs) : Reads1 H (.sl id st len sz) (.slv len sz cs) := fun p p1 w v hH hL hv => by
  subst hc
  exact reads_sl hb hn hl hH hL hv
/-! ### a call that is handed some of the blocks -/
def subF (ks : List Nat) (n j : Nat) : Option Nat := bif Nat.blt j ks.length then ks[j]? else some (n + (j - ks.length))
def mapF (f : Nat → Option Nat) : List Bool → List Blk → List Blk
  | fl, b :: l => keepBlk f (fl.headD false) b :: mapF f fl.tail l
  | _, [] => []
def stayL : List Bool → List Blk → List Prop
  | true :: r, b :: l => (match b with | .row _ xs => [∀ x ∈ xs, noid0 x = true] | .map kv => [∀ q ∈ kv, plain1 q.1 = true ∧ plain1 q.2 = true] | _ => []) ++ stayL r l
  | _ :: r, _ :: l => stayL r l
  | _, _ => []
theorem mapF_at (f : Nat → Option Nat) : ∀ (l : List Blk) (fl : List Bool), allP (stayL fl l) → (mapF f fl l).length = l.length ∧ ∀ (j : Nat) b, l[j]? = some b → ∃ b', (mapF f fl l)[j]? = some b' ∧ RenB f b b'
  | [], fl, _ => ⟨rfl, fun j b h => by simp at h⟩
  | x :: l, fl, hs => by
    have hs2 : allP (stayL fl.tail l) := by
      cases fl with
      | nil => cases l <;> simp [stayL, allP]
      | cons b r =>
        cases b with
        | false => exact hs
        | true => simp only [stayL] at hs; rw [allP_append] at hs; exact hs.2
    obtain ⟨e1, e2⟩ := mapF_at f l fl.tail hs2
    refine ⟨by simp [mapF, e1], fun j b h => ?_⟩
    cases j with
    | zero =>
      simp only [List.getElem?_cons_zero, Option.some.injEq] at h
      subst h
      refine ⟨_, rfl, keepBlk_ok fun hf => ?_⟩
      cases fl with
      | nil => cases hf
      | cons b r =>
        simp only [List.headD_cons] at hf
        subst hf
        simp only [stayL] at hs
        rw [allP_append] at hs
        exact hs.1
    | succ j => exact e2 j b (by simpa using h)
/-- the heap behind: the blocks that were handed in their old places, the new ones at the end -/
def setAll : List Nat → List Blk → List Blk → List Blk
  | i :: r, b :: l, H => setAll r l (H.set i b)
  | _, _, H => H
theorem setAll_len : ∀ (ks : List Nat) (Bs H : List Blk), (setAll ks Bs H).length = H.length
  | [], _, _ => rfl
  | _ :: _, [], _ => rfl
  | i :: r, b :: l, H => by rw [setAll, setAll_len r l]; simp
theorem setAll_other : ∀ (ks : List Nat) (Bs H : List Blk) (id : Nat), id ∉ ks → (setAll ks Bs H)[id]? = H[id]?
  | [], _, _, _, _ => rfl
  | _ :: _, [], _, _, _ => rfl
  | i :: r, b :: l, H, id, h => by
    simp only [List.mem_cons, not_or] at h
    rw [setAll, setAll_other r l _ id h.2, List.getElem?_set_ne (fun e => h.1 e.symm)]
theorem setAll_at : ∀ (ks : List Nat) (Bs H : List Blk) (j i : Nat), ks.Nodup → (∀ i ∈ ks, i < H.length) → ks[j]? = some i → ∀ b, Bs[j]? = some b → (setAll ks Bs H)[i]? = some b
  | [], _, _, _, _, _, _, h, _, _ => by simp at h
  | _ :: _, [], _, _, _, _, _, _, _, h => by simp at h
  | k :: r, b :: l, H, j, i, hnd, hlt, h, b', h' => by
    rw [List.nodup_cons] at hnd
    rw [setAll]
    cases j with
    | zero =>
      simp only [List.getElem?_cons_zero, Option.some.injEq] at h h'
      subst h h'
      rw [setAll_other r l _ _ hnd.1, List.getElem?_set_self (hlt _ (by simp))]
    | succ j => exact setAll_at r l _ j i hnd.2 (fun i hi => by rw [List.length_set]; exact hlt i (by simp [hi])) (by simpa using h) b' (by simpa using h')
theorem CallsV.sub {P : Program} {f : FuncId} {args : List AV} {ks : List Nat} {fl fl2 : List Bool} {H : List Blk} {av : AV} {H1 : List Blk}
    (h : CallsV P f (args.map (ren (idxK ks))) (keepF ks H ks fl) fun a b => a = av ∧ b = H1) (hk : keepB 0 ks H = true) (hst : allP (stayP fl (ks.map fun i => H.getD i .dead))) (hst2 : allP (stayL fl2 H1)) (hlen : ks.length ≤ H1.length)
    {p : Pl} {w : World} {vals : Array Value} (hH : RH p H w) (hv : RepL (Rep p w) vals.toList args) :
    Calls P f vals w fun e w' => ∃ v p', e = .returned v ∧ RH p' (setAll ks (mapF (subF ks H.length) fl2 H1) H ++ (mapF (subF ks H.length) fl2 H1).drop ks.length) w' ∧ Rep p' w' v (ren (subF ks H.length) av) ∧ Step p w p' w' := by
  have hk0 := keepB_ok hk
  have hpn : p.n = H.length := hH.n
  have hklt : ∀ i ∈ ks, i < p.n := fun i hi => by rw [hpn]; exact hk0.lt i hi
  -- the places that the call sees
  let fr : Nat → Prop := fun g => ∃ id, id ∉ ks ∧ p.at_ id = some (some g)
  let p1 : Pl := ⟨ks.length, fun j => match ks[j]? with | some i => p.at_ i | none => none, fun g => p.x g ∨ fr g⟩
  have hat1 : ∀ j q, p1.at_ j = some q → ∃ i, ks[j]? = some i ∧ p.at_ i = some q := fun j q hj => by
    simp only [p1] at hj
    split at hj
    · rename_i i hi; exact ⟨i, hi, hj⟩
    · cases hj
  have hown1 : ∀ g, p1.own g → p.own g := fun g ⟨j, hj⟩ => by
    obtain ⟨i, _, hi⟩ := hat1 j _ hj
    exact ⟨i, hi⟩
  have hfr1 : ∀ g, fr g → ¬ p1.own g := fun g ⟨id, h1, h2⟩ ⟨j, hj⟩ => by
    obtain ⟨i, hi, hi2⟩ := hat1 j _ hj
    have := hH.inj _ _ _ h2 hi2
    subst this
    exact h1 (List.mem_of_getElem? hi)
  have hfrlt : ∀ g, fr g → g < w.heap.size := fun g ⟨id, _, h2⟩ => hH.lt g ⟨id, h2⟩
  have hM1 : ∀ g, p1.M g → p.M g := fun g hg => by
    rcases hg with hg | hg | ⟨id, _, hg⟩
    · exact Or.inl (hown1 g hg)
    · exact Or.inr hg
    · exact Or.inl ⟨id, hg⟩
  have hE1 : Emb (idxK ks) p p1 := ⟨fun id j hf hid => by
    have h1 := idxK_spec hf
    refine ⟨(List.getElem?_eq_some_iff.1 h1).1, fun q hq => ?_⟩
    simp only [p1, h1] at hq
    exact hq, hM1⟩
  have hnd := hk0.nodup
  have hH1 : RH p1 (keepF ks H ks fl) w := by
    refine ⟨(keepF_len _ _ _ _).symm, fun id hid => ?_, fun i j g hi hj => ?_, fun id hid => ?_, fun g hg => ⟨?_, fun ho => ?_⟩⟩
    · simp only [p1] at hid ⊢
      rw [List.getElem?_eq_none hid]
    · obtain ⟨a, ha, ha2⟩ := hat1 i _ hi
      obtain ⟨b, hb, hb2⟩ := hat1 j _ hj
      have := hH.inj _ _ _ ha2 hb2
      subst this
      obtain ⟨l1, e1⟩ := List.getElem?_eq_some_iff.1 ha
      obtain ⟨l2, e2⟩ := List.getElem?_eq_some_iff.1 hb
      have hpw := List.pairwise_iff_getElem.1 hnd
      rcases Nat.lt_trichotomy i j with h3 | h3 | h3
      · exact (hpw i j l1 l2 h3 (e1.trans e2.symm)).elim
      · exact h3
      · exact (hpw j i l2 l1 h3 (e2.trans e1.symm)).elim
    · have hl : id < ks.length := by rw [keepF_len] at hid; exact hid
      have hm : ks[id] < H.length := hk0.lt _ (List.getElem_mem hl)
      refine (hH.blk ks[id] hm).ren hE1 ?_ (keepF_ok ks H ks fl hst id hl hm hid)
      simp only [p1, List.getElem?_eq_getElem hl]
    · rcases hg with hg | hg
      · exact (hH.xs g hg).1
      · exact hfrlt g hg
    · rcases hg with hg | hg
      · exact (hH.xs g hg).2 (hown1 g ho)
      · exact hfr1 g hg ho
  have hv1 : RepL (Rep p1 w) vals.toList (args.map (ren (idxK ks))) := renT_rep hE1 hv (renT_map _ _)
  refine (h p1 w vals hH1 hv1).mono ?_
  rintro e w' ⟨v, a1, b1, q, rfl, ⟨e1, e2⟩, hHq, hrep, hS⟩
  subst e1 e2
  obtain ⟨m1, m2⟩ := mapF_at (subF ks H.length) b1 fl2 hst2
  have hqn : q.n = b1.length := hHq.n
  -- the places behind
  let p' : Pl := ⟨p.n + (q.n - ks.length), fun id => if id < p.n then (match idxK ks id with | some j => q.at_ j | none => p.at_ id) else q.at_ (ks.length + (id - p.n)), p.x⟩
  have hidx : ∀ id j, idxK ks id = some j → ks[j]? = some id := fun id j hj => idxK_spec hj
  have hidxN : ∀ id, idxK ks id = none → id ∉ ks := fun id hn hm => by
    unfold idxK at hn
    rw [List.idxOf?, List.findIdx?_eq_none_iff] at hn
    have := hn id hm
    simp at this
  have hidxS : ∀ id, id ∈ ks → ∃ j, idxK ks id = some j := fun id hm => by
    cases hc : idxK ks id with
    | some j => exact ⟨j, rfl⟩
    | none => exact absurd hm (hidxN id hc)
  have hcase : ∀ id g, p'.at_ id = some (some g) → (∃ j, q.at_ j = some (some g) ∧ ((id < p.n ∧ ks[j]? = some id) ∨ (p.n ≤ id ∧ j = ks.length + (id - p.n)))) ∨ (id < p.n ∧ id ∉ ks ∧ p.at_ id = some (some g)) := fun id g hid => by
    simp only [p'] at hid
    split at hid
    · rename_i hlt
      split at hid
      · rename_i j hj; exact Or.inl ⟨j, hid, Or.inl ⟨hlt, hidx id j hj⟩⟩
      · rename_i hn; exact Or.inr ⟨hlt, hidxN id hn, hid⟩
    · rename_i hlt; exact Or.inl ⟨_, hid, Or.inr ⟨by omega, rfl⟩⟩
  have hqown : ∀ g, q.own g → p.own g ∨ w.heap.size ≤ g := fun g hg => by
    rcases Nat.lt_or_ge g w.heap.size with h1 | h1
    · exact Or.inl (hown1 g (hS.old g h1 hg))
    · exact Or.inr h1
  have hqfr : ∀ g, fr g → ¬ q.own g := fun g hg ho => hfr1 g hg (hS.old g (hfrlt g hg) ho)
  have hown' : ∀ g, p'.own g → q.own g ∨ fr g := fun g ⟨id, hid⟩ => by
    rcases hcase id g hid with ⟨j, hj, _⟩ | ⟨_, h2, h3⟩
    · exact Or.inl ⟨j, hj⟩
    · exact Or.inr ⟨id, h2, h3⟩
  have hE : Emb (subF ks H.length) q p' := by
    refine ⟨fun j id hf hj => ?_, fun g hg => ?_⟩
    · unfold subF at hf
      rw [cond_eq_ite] at hf
      split at hf
      · rename_i hlt
        rw [Nat.blt_eq] at hlt
        have hm : id ∈ ks := List.mem_of_getElem? hf
        have hid := hklt id hm
        refine ⟨by simp only [p']; omega, fun q0 hq0 => ?_⟩
        simp only [p'] at hq0
        rw [if_pos hid] at hq0
        obtain ⟨j2, hj2⟩ := hidxS id hm
        rw [hj2] at hq0
        simp only at hq0
        have hjj : j2 = j := by
          have h1 := hidx id j2 hj2
          obtain ⟨l1, e1⟩ := List.getElem?_eq_some_iff.1 h1
          obtain ⟨l2, e2⟩ := List.getElem?_eq_some_iff.1 hf
          have hpw := List.pairwise_iff_getElem.1 hnd
          rcases Nat.lt_trichotomy j2 j with h3 | h3 | h3
          · exact (hpw j2 j l1 l2 h3 (e1.trans e2.symm)).elim
          · exact h3
          · exact (hpw j j2 l2 l1 h3 (e2.trans e1.symm)).elim
        rw [hjj] at hq0
        exact hq0
      · rename_i hlt
        rw [Nat.blt_eq] at hlt
        cases hf
        refine ⟨by simp only [p']; omega, fun q0 hq0 => ?_⟩
        simp only [p'] at hq0
        rw [if_neg (by omega)] at hq0
        rw [show ks.length + (H.length + (j - ks.length) - p.n) = j by omega] at hq0
        exact hq0
    · rcases hg with hg | hg
      · rcases hown' g hg with h1 | h1
        · exact Or.inl h1
        · exact Or.inr (hS.x ▸ Or.inr h1)
      · exact Or.inr (hS.x ▸ Or.inl hg)
  have hst' : Step p w p' w' := by
    refine ⟨hS.os, hS.tape, hS.output, hS.size, by simp [p'], fun id q0 hid hq0 => ?_, fun g hg ho => ?_, fun g hg ho => hS.froz g hg fun h1 => ho (hown1 g h1), rfl⟩
    · simp only [p'] at hq0
      rw [if_pos hid] at hq0
      split at hq0
      · rename_i j hj
        have h1 := hidx id j hj
        have hjl : j < p1.n := (List.getElem?_eq_some_iff.1 h1).1
        obtain ⟨h2, h3⟩ := hS.keep j q0 hjl hq0
        simp only [p1, h1] at h2
        exact ⟨h2, h3⟩
      · rename_i hn
        refine ⟨hq0, fun g hg => ?_⟩
        subst hg
        unfold rowSize
        rw [hS.froz g (hH.lt g ⟨id, hq0⟩) (hfr1 g ⟨id, hidxN id hn, hq0⟩)]
    · rcases hown' g ho with h1 | ⟨id, _, h1⟩
      · exact hown1 g (hS.old g hg h1)
      · exact ⟨id, h1⟩
  refine ⟨v, p', rfl, ⟨?_, fun id hid => ?_, fun i j g hi hj => ?_, fun id hid => ?_, fun g hg => ⟨Nat.lt_of_lt_of_le (hH.xs g hg).1 hS.size, fun ho => ?_⟩⟩, hrep.ren hE, hst'⟩
  · simp only [p', List.length_append, setAll_len, List.length_drop, m1]; omega
  · simp only [p'] at hid ⊢
    rw [if_neg (by omega)]
    exact hHq.out _ (by omega)
  · rcases hcase i g hi with ⟨a, ha, ha2⟩ | ⟨a1, a2, a3⟩ <;> rcases hcase j g hj with ⟨b, hb, hb2⟩ | ⟨b1, b2, b3⟩
    · have := hHq.inj _ _ _ ha hb
      subst this
      rcases ha2 with ⟨c1, c2⟩ | ⟨c1, c2⟩ <;> rcases hb2 with ⟨d1, d2⟩ | ⟨d1, d2⟩
      · rw [c2] at d2; cases d2; rfl
      · have := (List.getElem?_eq_some_iff.1 c2).1; omega
      · have := (List.getElem?_eq_some_iff.1 d2).1; omega
      · omega
    · exact (hqfr g ⟨j, b2, b3⟩ ⟨_, ha⟩).elim
    · exact (hqfr g ⟨i, a2, a3⟩ ⟨_, hb⟩).elim
    · exact hH.inj _ _ _ a3 b3
  · have hl : (setAll ks (mapF (subF ks H.length) fl2 b1) H ++ (mapF (subF ks H.length) fl2 b1).drop ks.length)[id]? = some (setAll ks (mapF (subF ks H.length) fl2 b1) H ++ (mapF (subF ks H.length) fl2 b1).drop ks.length)[id] := List.getElem?_eq_getElem hid
    generalize hB : (setAll ks (mapF (subF ks H.length) fl2 b1) H ++ (mapF (subF ks H.length) fl2 b1).drop ks.length)[id] = B at hl
    by_cases hlt : id < H.length
    · rw [List.getElem?_append_left (by rw [setAll_len]; exact hlt)] at hl
      by_cases hm : id ∈ ks
      · obtain ⟨j, hj⟩ := hidxS id hm
        have h1 := hidx id j hj
        have hjk : j < ks.length := (List.getElem?_eq_some_iff.1 h1).1
        obtain ⟨b', h2, h3⟩ := m2 j b1[j] (List.getElem?_eq_getElem (by omega))
        rw [setAll_at ks _ H j id hnd (fun i hi => hk0.lt i hi) h1 b' h2] at hl
        cases hl
        refine (hHq.blk j (by omega)).ren hE ?_ h3
        simp only [p']
        rw [if_pos (by omega), hj]
      · rw [setAll_other _ _ _ _ hm, List.getElem?_eq_getElem hlt] at hl
        cases hl
        have hnone : idxK ks id = none := by
          cases hc : idxK ks id with
          | none => rfl
          | some j => exact absurd (List.mem_of_getElem? (hidx id j hc)) hm
        refine (hH.blk id hlt).step hst' ?_ fun g hg => hS.froz g (hH.lt g ⟨id, hg⟩) (hfr1 g ⟨id, hm, hg⟩)
        simp only [p']
        rw [if_pos (by omega), hnone]
    · rw [List.getElem?_append_right (by rw [setAll_len]; omega), setAll_len, List.getElem?_drop] at hl
      have hjl : ks.length + (id - H.length) < b1.length := by
        simp only [List.length_append, setAll_len, List.length_drop, m1] at hid; omega
      obtain ⟨b', h2, h3⟩ := m2 (ks.length + (id - H.length)) b1[ks.length + (id - H.length)] (List.getElem?_eq_getElem hjl)
      rw [h2] at hl
      cases hl
      refine (hHq.blk _ hjl).ren hE ?_ h3
      simp only [p']
      rw [if_neg (by omega), hpn]
  · rcases hown' g ho with h1 | h1
    · rcases hqown g h1 with h2 | h2
      · exact (hH.xs g hg).2 h2
      · have := (hH.xs g hg).1; omega
    · obtain ⟨id, _, h1⟩ := h1
      exact (hH.xs g hg).2 ⟨id, h1⟩

/-! ### operations, with what they ask -/
def dstP (H : List Blk) (e : TypeId) (sz : Nat) : AV → Option (List Prop × Option Nat × Nat × List AV)
  | .nilsl => some ([], none, 0, [])
  | .sl id 0 len sz' => match H[id]? with
    | some (.row e' r) => some (dec (e' == e && sz' == sz) ++ [len * sz ≤ r.length], some id, len, r.take (len * sz))
    | _ => none
  | _ => none
theorem dstP_ok {H : List Blk} {e : TypeId} {sz : Nat} {x : AV} {k : Option Nat} {len : Nat} {xs : List AV} {C : List Prop} (h : dstP H e sz x = some (C, k, len, xs)) (hC : allP C) : IsDst H e sz x k len xs := by
  unfold dstP at h
  split at h
  · cases h; exact Or.inl ⟨rfl, rfl, rfl, rfl⟩
  · rename_i id len' sz'
    split at h
    · rename_i e' r hb
      cases h
      rw [allP_append, allP_dec] at hC
      simp only [Bool.and_eq_true, beq_iff_eq] at hC
      obtain ⟨⟨rfl, rfl⟩, hl⟩ := hC
      exact Or.inr ⟨id, r, rfl, rfl, hb, rfl, hl⟩
    · cases h
  · cases h
def srcP (H : List Blk) (sz : Nat) : AV → Option (List Prop × Nat × List AV)
  | .slv m sz' ys => some (dec (sz' == sz), m, ys)
  | .nilsl => some ([], 0, [])
  | .sl id st m sz' => match H[id]? with
    | some (.row _ r) => some (dec (sz' == sz) ++ [st + m * sz ≤ r.length], m, (r.drop st).take (m * sz))
    | _ => none
  | _ => none
theorem srcP_ok {H : List Blk} {sz : Nat} {y : AV} {m : Nat} {ys : List AV} {C : List Prop} (h : srcP H sz y = some (C, m, ys)) (hC : allP C) : IsSrc H sz y m ys := by
  unfold srcP at h
  split at h
  · cases h
    rw [allP_dec, beq_iff_eq] at hC
    subst hC
    exact Or.inl rfl
  · cases h; exact Or.inr (Or.inl ⟨rfl, rfl, rfl⟩)
  · rename_i id st m' sz'
    split at h
    · rename_i t r hb
      cases h
      rw [allP_append, allP_dec, beq_iff_eq] at hC
      obtain ⟨rfl, hl⟩ := hC
      exact Or.inr (Or.inr ⟨id, st, t, r, rfl, hb, rfl, hl⟩)
    · cases h
  · cases h
abbrev ER := Option (List Prop × AV × List Blk)
/-- what a map says, once it is known where to look -/
def lookF (ok : Bool) (z : AV) (kv : List (AV × AV)) : Option (Option Nat) → AV
  | some (some j) => lookA ok (kv.getD j (.junk, .junk)).2 true
  | some none => lookA ok z false
  | none => .junk
def updF (kv : List (AV × AV)) (k v : AV) : Option (Option Nat) → List (AV × AV)
  | some r => updA kv r k v
  | none => kv
/-- operations that make blocks and turn none -/
def newP (P : Program) (s : St) : Op → ER
  | .box t x => match cellsAV s.H (s.ev x) with
    | some cs => some ([], .ptr s.H.length 0, s.H ++ [.row t cs])
    | none => none
  | .alloc t => match zeroL P t with
    | some cs => some ([], .ptr s.H.length 0, s.H ++ [.row t cs])
    | none => none
  | .buildSlice t len parts => match sliceLitE P s.H s.ev (elemTy P t) len parts with
    | some ds => some (dec (elT P t (elemTy P t) (sizeT P (elemTy P t)) (bytesT P (elemTy P t)) && (knownT P (elemTy P t) && (decide (len * sizeT P (elemTy P t) ≤ 16777216) && ds.length == len * sizeT P (elemTy P t)))),
        .sl s.H.length 0 len (sizeT P (elemTy P t)), s.H ++ [.row (elemTy P t) ds])
    | none => none
  | .makeSlice t l c => match zeroL P (elemTy P t), s.ev l, s.ev c with
    | some zs, .int _ n, .int _ m => some (dec (elT P t (elemTy P t) (sizeT P (elemTy P t)) (bytesT P (elemTy P t))) ++ [0 ≤ n ∧ n ≤ m, (bytesT P (elemTy P t) : Int) * m ≤ 281474976710656 ∧ m ≤ 9223372036854775807],
        .sl s.H.length 0 n.toNat (sizeT P (elemTy P t)), s.H ++ [.row (elemTy P t) (zerosL zs (m.toNat * sizeT P (elemTy P t)))])
    | _, _, _ => none
  | .convert src dst x => match P.underlying src, P.underlying dst, s.ev x with
    | some _, some (.slice e), .str b => some (dec (isBytes P e) ++ [b.size ≤ maxLen], .slv b.size 1 (bytesAV b), s.H)
    | _, _, _ => none
  | .makeFunc f fs cs => bif (fs.toList.all fun x => leafOK s.H (s.ev x)) && (cs.toList.all fun x => leafOK s.H (s.ev x)) then some ([], .fn f (fs.toList.map s.ev) (cs.toList.map s.ev), s.H) else none
  | .range t x => match P.underlying t, s.ev x with
    | some .string, .str b => some ([], .iter s.H.length, s.H ++ [.iter b 0])
    | _, _ => none
  | .call ⟨.builtin .len, ⟨[x]⟩, ⟨[t]⟩⟩ => match P.underlying t, s.ev x with
    | some (.slice _), .slc id _ len _ _ => match s.H[id]? with
      | some (.row _ _) => some ([], .int .i64 len, s.H)
      | _ => none
    | _, _ => none
  | .slice t x lo hi none => match P.underlying t, s.ev x with
    | some (.slice e), .slc id st len cap sz => match s.H[id]?, loE (lo.map s.ev), hiE len (hi.map s.ev) with
      | some (.row _ _), some l, some h => some (dec (knownT P e && Nat.beq (sizeT P e) sz) ++ [0 ≤ l ∧ l ≤ h ∧ (h ≤ len ∨ h + 1 ≤ cap)],
          .slc id (st + l.toNat * sz) (h.toNat - l.toNat) (cap - l.toNat) sz, s.H)
      | _, _, _ => none
    | some (.pointer arr), .ptr id off => match P.underlying arr, s.H[id]? with
      | some (.array n e), some (.row _ xs) => match loE (lo.map s.ev), hiE n (hi.map s.ev) with
        | some l, some h => some (dec (knownT P e && (Nat.blt 0 (sizeT P e) && Nat.ble n maxLen)) ++ [0 ≤ l ∧ l ≤ h ∧ h ≤ n, off + n * sizeT P e ≤ xs.length],
            .sl id (off + l.toNat * sizeT P e) (h.toNat - l.toNat) (sizeT P e), s.H)
        | _, _ => none
      | _, _ => none
    | some (.array n e), .ptr id off => match s.H[id]? with
      | some (.row _ xs) => match loE (lo.map s.ev), hiE n (hi.map s.ev) with
        | some l, some h => some (dec (knownT P e && (Nat.blt 0 (sizeT P e) && Nat.ble n maxLen)) ++ [0 ≤ l ∧ l ≤ h ∧ h ≤ n, off + n * sizeT P e ≤ xs.length],
            .sl id (off + l.toNat * sizeT P e) (h.toNat - l.toNat) (sizeT P e), s.H)
        | _, _ => none
      | _ => none
    | _, _ => none
  | .slice t x lo (some hi) (some mx) => match P.underlying t, s.ev x with
    | some (.slice e), .sl id st len sz => match s.H[id]?, loE (lo.map s.ev), s.ev hi, s.ev mx with
      | some (.row _ _), some l, .int _ h, .int _ m => some (dec (knownT P e && Nat.beq (sizeT P e) sz) ++ [0 ≤ l ∧ l ≤ h ∧ h ≤ m ∧ m ≤ len], .sl id (st + l.toNat * sz) (h.toNat - l.toNat) sz, s.H)
      | _, _, _, _ => none
    | some (.slice e), x => bif noneV x then (match loE (lo.map s.ev), s.ev hi, s.ev mx with
      | some l, .int _ h, .int _ m => some (dec (knownT P e && Nat.blt 0 (sizeT P e)) ++ [l = 0 ∧ h = 0 ∧ m = 0], .sl s.H.length 0 0 (sizeT P e), s.H ++ [.row e []])
      | _, _, _ => none) else none
    | _, _ => none
  | .sliceToArrayPointer arr x => match P.underlying arr, s.ev x with
    | some (.array n _), .sl id st len sz => match s.H[id]? with
      | some (.row _ _) => some (dec (Nat.blt 0 n) ++ [n ≤ len], .ptr id st, s.H)
      | _ => none
    | some (.array n _), .slv len sz cs => some (dec (Nat.blt 0 n) ++ [n ≤ len], .fptr cs, s.H)
    | _, _ => none
  | .makeMap t none => some ([], .map s.H.length, s.H ++ [.map []])
  | .lookup t x i ok => match P.underlying t with
    | some (.map kt et) => match entA s.H (s.ev x), zeroA P et with
      | some kv, some z => some (dec (leafD (P.underlying kt)) ++ [(findA (P.underlying kt) (s.ev i) kv).isSome = true], lookF ok z kv (findA (P.underlying kt) (s.ev i) kv), s.H)
      | _, _ => none
    | _ => none
  | _ => none
theorem newP_ok {P : Program} {s : St} {o : Oper} {C : List Prop} {x : AV} {H' : List Blk} (h : newP P s o.op = some (C, x, H')) (hC : allP C) : OpB P o s fun a b => a = x ∧ b = H' := by
  unfold newP at h
  split at h
  · rename_i t y hop
    split at h
    · rename_i cs hc; cases h; exact op_box hop hc ⟨rfl, rfl⟩
    · cases h
  · rename_i t hop
    split at h
    · rename_i cs hc; cases h; exact op_alloc hop hc ⟨rfl, rfl⟩
    · cases h
  · rename_i t len parts hop
    split at h
    · rename_i ds hd
      cases h
      rw [allP_dec] at hC
      simp only [Bool.and_eq_true, beq_iff_eq] at hC
      exact op_sliceLit hop hC.1 hC.2.1 hd hC.2.2.1 hC.2.2.2 ⟨rfl, rfl⟩
    · cases h
  · rename_i t l c hop
    split at h
    · rename_i zs _ n _ m hz hl hc'
      cases h
      rw [allP_append, allP_dec] at hC
      exact op_makeSlice hop hC.1 hz hl hc' hC.2.1.1 hC.2.1.2 hC.2.2.1 hC.2.2.2 ⟨rfl, rfl⟩
    · cases h
  · rename_i src dst y hop
    split at h
    · rename_i u e b hs hd hx
      cases h
      rw [allP_append, allP_dec] at hC
      have he : P.underlying e = some (.int .u8) := by
        have h1 := hC.1
        unfold isBytes at h1
        split at h1
        · rename_i he; exact he
        · cases h1
      exact op_strBytes hop hs hd he hx hC.2 ⟨rfl, rfl⟩
    · cases h
  · rename_i f fs cs hop
    rw [cond_eq_ite] at h
    split at h
    · rename_i hc
      simp only [Bool.and_eq_true, List.all_eq_true] at hc
      cases h
      exact op_makeFunc hop hc.1 hc.2 ⟨rfl, rfl⟩
    · cases h
  · rename_i t y hop
    split at h
    · rename_i b ht hx; cases h; exact op_range hop ht hx ⟨rfl, rfl⟩
    · cases h
  · rename_i y t hop
    split at h
    · rename_i e id st len cap sz hu hx
      split at h
      · rename_i T xs hb
        cases h
        exact op_slcLen hop hu hx hb ⟨rfl, rfl⟩
      · cases h
    · cases h
  · rename_i t y lo hi hop
    split at h
    · rename_i e id st len cap sz hu hx
      split at h
      · rename_i T xs l h' hb e1 e2
        cases h
        rw [allP_append, allP_dec] at hC
        simp only [Bool.and_eq_true] at hC
        exact op_slcSlice hop hu hC.1.1 (Nat.eq_of_beq_eq_true hC.1.2) hx hb e1 e2 hC.2 ⟨rfl, rfl⟩
      · cases h
    · rename_i arr id off ht hx
      split at h
      · rename_i n e t' xs ha hb
        split at h
        · rename_i l h' hl hh
          cases h
          rw [allP_append, allP_dec] at hC
          simp only [Bool.and_eq_true, Nat.blt_eq, Nat.ble_eq] at hC
          exact op_arrSlice hop ht ha hC.1.1 hx hb hC.1.2.1 hl hh hC.2.1 hC.2.2 hC.1.2.2 ⟨rfl, rfl⟩
        · cases h
      · cases h
    · rename_i n e id off ha hx
      split at h
      · rename_i t' xs hb
        split at h
        · rename_i l h' hl hh
          cases h
          rw [allP_append, allP_dec] at hC
          simp only [Bool.and_eq_true, Nat.blt_eq, Nat.ble_eq] at hC
          exact op_arrSliceA hop ha hC.1.1 hx hb hC.1.2.1 hl hh hC.2.1 hC.2.2 hC.1.2.2 ⟨rfl, rfl⟩
        · cases h
      · cases h
    · cases h
  · rename_i t y lo hi mx hop
    split at h
    · rename_i e id st len sz ht hx
      split at h
      · rename_i t' xs l kh h' km m hb hl hh hm
        cases h
        rw [allP_append, allP_dec] at hC
        simp only [Bool.and_eq_true] at hC
        exact op_slice3 hop ht hC.1.1 (Nat.eq_of_beq_eq_true hC.1.2) hx hb hl hh hm hC.2 ⟨rfl, rfl⟩
      · cases h
    · rename_i e x ht _
      rw [cond_eq_ite] at h
      split at h
      · rename_i hx
        split at h
        · rename_i l kh h' km m hl hh hm
          cases h
          rw [allP_append, allP_dec] at hC
          simp only [Bool.and_eq_true, Nat.blt_eq] at hC
          obtain ⟨⟨c1, c2⟩, c3, c4, c5⟩ := hC
          subst c3 c4 c5
          exact op_slice3v hop ht c1 c2 hx hl hh hm ⟨rfl, rfl⟩
        · cases h
      · cases h
    · cases h
  · rename_i arr y hop
    split at h
    · rename_i n e id st len sz ha hx
      split at h
      · rename_i t' xs hb
        cases h
        rw [allP_append, allP_dec, Nat.blt_eq] at hC
        exact op_arrAt hop ha hx hb hC.1 hC.2 ⟨rfl, rfl⟩
      · cases h
    · rename_i n e len sz cs ha hx
      cases h
      rw [allP_append, allP_dec, Nat.blt_eq] at hC
      exact op_arrAtV hop ha hx hC.1 hC.2 ⟨rfl, rfl⟩
    · cases h
  · rename_i t hop; cases h; exact op_makeMap hop ⟨rfl, rfl⟩
  · rename_i t y i ok hop
    split at h
    · rename_i kt et ht
      split at h
      · rename_i kv z hx hz
        injection h with h
        injection h with h1 h2
        injection h2 with h2 h3
        subst h1 h2 h3
        rw [allP_append, allP_dec] at hC
        obtain ⟨hC, hs⟩ := hC
        have hs : (findA (P.underlying kt) (s.ev i) kv).isSome = true := hs
        cases hf : findA (P.underlying kt) (s.ev i) kv with
        | none => rw [hf] at hs; cases hs
        | some r => exact op_lookup hop ht hC hx hf hz ⟨by cases r <;> rfl, rfl⟩
      · cases h
    · cases h
  · cases h
def updP (P : Program) (s : St) (t : TypeId) (m k v : Operand) : ER := match P.underlying t, s.ev m with
  | some (.map kt _), .map id => match s.H[id]? with
    | some (.map kv) => some (dec (leafD (P.underlying kt) && (notTup (s.ev k) && notTup (s.ev v))) ++ [(findA (P.underlying kt) (s.ev k) kv).isSome = true], .junk, s.H.set id (.map (updF kv (s.ev k) (s.ev v) (findA (P.underlying kt) (s.ev k) kv))))
    | _ => none
  | _, _ => none
theorem updP_ok {P : Program} {s : St} {o : Oper} {t : TypeId} {m k v : Operand} {C : List Prop} {x : AV} {H' : List Blk} (ho : o.op = .mapUpdate t m k v ∨ o.op = .insert t m k v) (h : updP P s t m k v = some (C, x, H')) (hC : allP C) : OpV P o s fun a b => a = x ∧ b = H' := by
  unfold updP at h
  split at h
  · rename_i kt et id ht hm
    split at h
    · rename_i kv hb
      cases h
      rw [allP_append, allP_dec] at hC
      obtain ⟨hC, hs⟩ := hC
      simp only [Bool.and_eq_true] at hC
      have hs : (findA (P.underlying kt) (s.ev k) kv).isSome = true := hs
      cases hf : findA (P.underlying kt) (s.ev k) kv with
      | none => rw [hf] at hs; cases hs
      | some r => exact op_mapUpdate ho ht hC.1 hm hb hf hC.2.1 hC.2.2 ⟨rfl, rfl⟩
    · cases h
  · cases h
def strOf? : AV → Option ByteArray | .str b => some b | _ => none
/-- append within the capacity; clear -/
def roomP (P : Program) (s : St) (t t' : TypeId) (x y : AV) : Option ER := match x with
  | .slc id st len cap sz => some (match s.H[id]?, srcP s.H sz y with
    | some (.row T xs), some (E, m, ys) => some (E ++ (dec (t' == t && elT P t (elemTy P t) sz (bytesT P (elemTy P t))) ++ [len + m + 1 ≤ cap, st + (len + m) * sz ≤ xs.length, ys.length = m * sz]),
        .slc id st (len + m) cap sz, s.H.set id (.row T (xs.take (st + len * sz) ++ ys ++ xs.drop (st + len * sz + ys.length))))
    | _, _ => none)
  | _ => none
theorem roomP_ok {P : Program} {s : St} {o : Oper} {t t' : TypeId} {x y : Operand} {C : List Prop} {v : AV} {H' : List Blk} (ho : o.op = .call ⟨.builtin .append, ⟨[x, y]⟩, ⟨[t, t']⟩⟩) (h : roomP P s t t' (s.ev x) (s.ev y) = some (some (C, v, H'))) (hC : allP C) : OpV P o s fun a b => a = v ∧ b = H' := by
  unfold roomP at h
  split at h
  · rename_i id st len cap sz hx
    split at h
    · rename_i T xs E m ys hb hs
      cases h
      rw [allP_append, allP_append, allP_dec] at hC
      simp only [Bool.and_eq_true, beq_iff_eq] at hC
      obtain ⟨hE, ⟨rfl, hc1⟩, hc2, hc3, hc4⟩ := hC
      exact op_appendIn (ty := t') ho hc1 hx hb (srcP_ok hs hE) hc2 hc3 hc4 ⟨rfl, rfl⟩
    · cases h
  · cases h
def clearP (P : Program) (s : St) (t : TypeId) (x : AV) : ER := match slAny x with
  | some (id, st, len, sz) => match s.H[id]?, zeroL P (elemTy P t) with
    | some (.row T xs), some zs => some (dec (elT P t (elemTy P t) sz (bytesT P (elemTy P t))) ++ [st + len * sz ≤ xs.length], .tuple [], s.H.set id (.row T (xs.take st ++ zerosL zs (len * sz) ++ xs.drop (st + len * sz))))
    | _, _ => none
  | none => none
theorem clearP_ok {P : Program} {s : St} {o : Oper} {t : TypeId} {x : Operand} {C : List Prop} {v : AV} {H' : List Blk} (ho : o.op = .call ⟨.builtin .clear, ⟨[x]⟩, ⟨[t]⟩⟩) (h : clearP P s t (s.ev x) = some (C, v, H')) (hC : allP C) : OpV P o s fun a b => a = v ∧ b = H' := by
  unfold clearP at h
  split at h
  · rename_i id st len sz hx
    split at h
    · rename_i T xs zs hb hz
      cases h
      rw [allP_append, allP_dec] at hC
      exact op_clear ho hC.1 hz hx hb hC.2 ⟨rfl, rfl⟩
    · cases h
  · cases h
/-- all that blocks do, without calls -/
def turnP (P : Program) (s : St) : Op → ER
  | .store t x y => match s.ev x, cellsAV s.H (s.ev y) with
    | .ptr id off, some cs => match s.H[id]? with
      | some (.row t' xs) => some (dec (knownT P t && sizeT P t == cs.length) ++ [off + cs.length ≤ xs.length], .junk, s.H.set id (.row t' (xs.take off ++ cs ++ xs.drop (off + cs.length))))
      | _ => none
    | _, _ => none
  | .call ⟨.builtin .clear, ⟨[x]⟩, ⟨[t]⟩⟩ => clearP P s t (s.ev x)
  | .call ⟨.builtin .append, ⟨[x, y]⟩, ⟨[t, t']⟩⟩ => (match roomP P s t t' (s.ev x) (s.ev y) with
  | some r => r
  | none => match strOf? (s.ev y) with
   | some bs => match dstP s.H (elemTy P t) 1 (s.ev x), P.underlying t' with
    | some (D, k, len, xs), some .string => some (D ++ (dec (elT P t (elemTy P t) 1 (bytesT P (elemTy P t))) ++ [(len + bs.size) * bytesT P (elemTy P t) ≤ 140737488355328, len + bs.size ≤ maxLen]),
        .sl s.H.length 0 (len + bs.size) 1, killB s.H k ++ [.row (elemTy P t) (xs ++ bytesAV bs)])
    | _, _ => none
   | none => match dstP s.H (elemTy P t) (sizeT P (elemTy P t)) (s.ev x), srcP s.H (sizeT P (elemTy P t)) (s.ev y) with
    | some (D, k, len, xs), some (E, m, ys) => some (D ++ (E ++ (dec (t' == t && elT P t (elemTy P t) (sizeT P (elemTy P t)) (bytesT P (elemTy P t))) ++ [(len + m) * bytesT P (elemTy P t) ≤ 140737488355328, len + m ≤ maxLen])),
        .sl s.H.length 0 (len + m) (sizeT P (elemTy P t)), killB s.H k ++ [.row (elemTy P t) (xs ++ ys)])
    | _, _ => none)
  | .next x true => match s.ev x with
    | .iter id => match s.H[id]? with
      | some (.iter b pos) => some ([], bif Nat.blt pos b.size then .tuple [.bool true, .int .i64 pos, .int .i32 (Utf8.decode b pos).1] else .tuple [.bool false],
          bif Nat.blt pos b.size then s.H.set id (.iter b (pos + (Utf8.decode b pos).2)) else s.H)
      | _ => none
    | _ => none
  | .mapUpdate t m k v => updP P s t m k v
  | .insert t m k v => updP P s t m k v
  | .call ⟨.builtin .copy, ⟨[x, y]⟩, ⟨[dT, sT]⟩⟩ => match P.underlying dT, s.ev x, srcP s.H 1 (s.ev y) with
    | some (.slice e), .sl id st dlen 1, some (E, m, ys) => match s.H[id]? with
      | some (.row t xs) => some (E ++ (dec ((P.info? e).isSome && (sizeT P e).beq 1) ++ [st + dlen ≤ xs.length]),
          .int .i64 (Nat.min m dlen : Nat), s.H.set id (.row t (xs.take st ++ ys.take (Nat.min m dlen) ++ xs.drop (st + Nat.min m dlen))))
      | _ => none
    | _, _, _ => none
  | _ => none
theorem turnP_ok {P : Program} {s : St} {o : Oper} {C : List Prop} {x : AV} {H' : List Blk} (h : turnP P s o.op = some (C, x, H')) (hC : allP C) : OpV P o s fun a b => a = x ∧ b = H' := by
  unfold turnP at h
  split at h
  · rename_i t y z hop
    split at h
    · rename_i id off cs hx hy
      split at h
      · rename_i t' xs hb
        cases h
        rw [allP_append, allP_dec] at hC
        simp only [Bool.and_eq_true, beq_iff_eq] at hC
        exact op_store hop hx hb hy hC.1 hC.2 ⟨rfl, rfl⟩
      · cases h
    · cases h
  · rename_i y t hop; exact clearP_ok hop h hC
  · rename_i y z t t' hop
    split at h
    · rename_i r hr; subst h; exact roomP_ok hop hr hC
    split at h
    · rename_i bs hy
      have hy' : s.ev z = .str bs := by
        unfold strOf? at hy
        split at hy
        · rename_i b hb; cases hy; exact hb
        · cases hy
      split at h
      · rename_i D k len xs h1 hts
        cases h
        rw [allP_append, allP_append, allP_dec] at hC
        exact op_appendStr (ty := t') hop hC.2.1 hts (dstP_ok h1 hC.1) hy' hC.2.2.1 hC.2.2.2 ⟨rfl, rfl⟩
      · cases h
    · split at h
      · rename_i D k len xs E m ys h1 h2
        cases h
        rw [allP_append, allP_append, allP_append, allP_dec] at hC
        simp only [Bool.and_eq_true, beq_iff_eq] at hC
        obtain ⟨hD, hE, ⟨rfl, hc1⟩, hc2, hc3⟩ := hC
        exact op_append (ty := t') hop hc1 (dstP_ok h1 hD) (srcP_ok h2 hE) hc2 hc3 ⟨rfl, rfl⟩
      · cases h
  · rename_i y hop
    split at h
    · rename_i id hx
      split at h
      · rename_i b pos hb; cases h; exact op_next hop hx hb ⟨rfl, rfl⟩
      · cases h
    · cases h
  · rename_i t m k v hop; exact updP_ok (Or.inl hop) h hC
  · rename_i t m k v hop; exact updP_ok (Or.inr hop) h hC
  · rename_i y z dT sT hop
    split at h
    · rename_i e id st dlen E m ys hu hx hs
      split at h
      · rename_i t xs hb
        injection h with h
        injection h with h1 h2
        injection h2 with h2 h3
        subst h1 h2 h3
        rw [allP_append, allP_append, allP_dec] at hC
        simp only [Bool.and_eq_true] at hC
        refine op_copy hop hu hC.2.1.1 (Nat.eq_of_beq_eq_true hC.2.1.2) hx hb (srcP_ok hs hC.1) hC.2.2 ⟨rfl, ?_⟩
        cases h0 : (Nat.min m dlen).beq 0 with
        | false => rfl
        | true =>
          have h0 := Nat.eq_of_beq_eq_true h0
          rw [h0]
          simp only [cond_true, List.take_zero, List.append_nil, Nat.add_zero, List.take_append_drop]
          obtain ⟨h1, h2⟩ := List.getElem?_eq_some_iff.1 hb
          rw [← h2]
          exact (List.set_getElem_self h1).symm
      · cases h
    · cases h
  · cases h
end Go.Proofs.Ytkdgnjoofhckeaa.V
