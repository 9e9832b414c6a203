/-
  The logic of values: own slices of which the capacity is known from below: slicing up to it, length, append in place; clear. Over any program.
-/
import Derived.Test.YtcmbhebgpboepaaVgood
import Derived.Test.YtcmbhebgpboepaaVnt
namespace Go.Proofs.Ytcmbhebgpboepaa.V
open Go Go.RowKit
set_option linter.unusedSimpArgs false
set_option linter.unusedVariables false

theorem store_at {p : Pl} {H : List Blk} {w : World} (hH : RH p H w) {id g off : Nat} {t : TypeId} {xs ys : List AV} {cur : Array Value} {news : List Value} (hb : H[id]? = some (.row t xs)) (h1 : p.at_ id = some (some g)) (h2 : w.heap[g]? = some (.cells cur t (0, 0)))
    (h3 : xs.length ≤ cur.size) (h4 : ∀ (i : Nat) (h : i < xs.length), ∃ v, cur[i]? = some v ∧ RepC p w v xs[i]) (hcs : RepL (RepC p w) news ys) (hl : off + ys.length ≤ xs.length) :
    RH p (H.set id (.row t (xs.take off ++ ys ++ xs.drop (off + ys.length)))) (w.setRow g (cur.toList.take off ++ news ++ cur.toList.drop (off + news.length)).toArray) ∧ Step p w p (w.setRow g (cur.toList.take off ++ news ++ cur.toList.drop (off + news.length)).toArray) := by
  have hlen : news.length = ys.length := hcs.1
  have hpre := row_pre h3 h4
  refine set_ok hH (xs' := xs.take off ++ ys ++ xs.drop (off + ys.length)) hb h1 h2 (by simp [hlen]; omega) ?_
  have hll : (xs.take off ++ ys ++ xs.drop (off + ys.length)).length = xs.length := by simp; omega
  have := splice_take cur.toList news off xs.length (by rw [hlen]; exact hl) (by simpa using h3)
  rw [hll]
  simp only [List.toList_toArray]
  rw [this, hlen]
  exact ((hpre.take off).append hcs).append (hpre.drop _)
section
variable {P : Program} {s : St} {o : Oper} {R : AV → List Blk → Prop}
theorem op_slcLen {t : TypeId} {x : Operand} {id st len cap sz : Nat} {e : TypeId} {T : TypeId} {xs : List AV} (ho : o.op = .call ⟨.builtin .len, ⟨[x]⟩, ⟨[t]⟩⟩) (hu : P.underlying t = some (.slice e)) (hx : s.ev x = .slc id st len cap sz) (hb : s.H[id]? = some (.row T xs))
    (h : R (.int .i64 len) s.H) : OpB P o s R := opB_of fun p w a hR => by
  have hv := hR.ev x
  rw [hx] at hv
  obtain ⟨q, hq⟩ := hR.heap.live hb
  obtain ⟨ad, c, hve, _⟩ := hv.2 q hq
  refine ⟨goInt len, _, _, p, w, ?_, h, hR.heap, RepF.rep (.int _ _), Step.refl _ _, Below.refl _ _⟩
  unfold execOp
  rw [ho]
  simp [resolve, invoke, builtin, hve, Builtin.len_, run_underlying hu]
theorem op_slcSlice {t e T : TypeId} {x : Operand} {lo hi : Option Operand} {id st len cap sz : Nat} {xs : List AV} {l h' : Int} (ho : o.op = .slice t x lo hi none) (hu : P.underlying t = some (.slice e)) (hk : knownT P e = true) (hs : sizeT P e = sz)
    (hx : s.ev x = .slc id st len cap sz) (hb : s.H[id]? = some (.row T xs)) (e1 : loE (lo.map s.ev) = some l) (e2 : hiE len (hi.map s.ev) = some h') (hbd : 0 ≤ l ∧ l ≤ h' ∧ (h' ≤ len ∨ h' + 1 ≤ cap))
    (h : R (.slc id (st + l.toNat * sz) (h'.toNat - l.toNat) (cap - l.toNat) sz) s.H) : OpB P o s R := opB_of fun p w a hR => by
  have hv := hR.ev x
  rw [hx] at hv
  obtain ⟨q, hq⟩ := hR.heap.live hb
  obtain ⟨ad, c, hve, hlc, hcm, hpos, hno, hc, hcc⟩ := hv.2 q hq
  have hcc' : cap ≤ c + 1 := by
    rcases Nat.eq_zero_or_pos cap with h0 | h0
    · omega
    · exact (hcc h0).2
  have hbd2 : (Instr.sliceBounds true len c (lo.map a.eval) (hi.map a.eval) none).run P w = .ok (l.toNat, h'.toNat, c) w := by
    have hR2 : ∀ y, Rep p w (a.eval y) (s.ev y) := hR.ev
    cases hi with
    | none =>
      have : h' = len := by simpa [hiE] using e2.symm
      subst this
      cases lo with
      | none =>
        have : l = 0 := by simpa [loE] using e1.symm
        subst this
        simp [Instr.sliceBounds]
      | some lo =>
        simp only [Option.map_some, loE] at e1
        cases hlo : s.ev lo <;> rw [hlo] at e1 <;> cases e1
        rename_i kl
        have el := rep_int (hlo ▸ hR2 lo)
        have h1 : 0 ≤ l := by omega
        have h2 : l ≤ (len : Int) := by omega
        simp [Instr.sliceBounds, el, Instr.sliceBound, asIntOf, h1, h2]
    | some hi =>
      simp only [Option.map_some, hiE] at e2
      cases hhi : s.ev hi <;> rw [hhi] at e2 <;> cases e2
      rename_i kh
      have eh := rep_int (hhi ▸ hR2 hi)
      have h3 : 0 ≤ h' := by omega
      have h4 : h' ≤ (c : Int) := by clear hc hcc; omega
      cases lo with
      | none =>
        have : l = 0 := by simpa [loE] using e1.symm
        subst this
        simp [Instr.sliceBounds, eh, Instr.sliceBound, asIntOf, h3, h4]
      | some lo =>
        simp only [Option.map_some, loE] at e1
        cases hlo : s.ev lo <;> rw [hlo] at e1 <;> cases e1
        rename_i kl
        have el := rep_int (hlo ▸ hR2 lo)
        have h1 : 0 ≤ l := by omega
        have h2 : l ≤ max h' 0 := by omega
        simp [Instr.sliceBounds, el, eh, Instr.sliceBound, asIntOf, h1, h2, h3, h4]
  refine ⟨.slice (if c = l.toNat then ad else ad.map (·.add (l.toNat * sz))) (h'.toNat - l.toNat) (c - l.toNat), _, _, p, w, ?_, h, hR.heap, ⟨hv.1, fun q' hq' => ?_⟩, Step.refl _ _, Below.refl _ _⟩
  · unfold execOp
    rw [ho]
    simp only [Option.map_none, Instr.sliceAt, hve, Sem.run_bind, Sem.run_pure, Result.andThen_ok, run_underlying hu, Instr.slice, hbd2, run_sizeT hk, hs]
  · rw [hq] at hq'
    cases hq'
    have hb1 : h'.toNat - l.toNat ≤ c - l.toNat ∧ c - l.toNat ≤ maxLen ∧ cap - l.toNat ≤ c - l.toNat + 1 ∧ h'.toNat ≤ c := by clear hc hcc hno; omega
    refine ⟨_, _, rfl, hb1.1, hb1.2.1, hpos, fun hn0 => ?_, ?_, fun h0 => ⟨fun hn0 => ?_, hb1.2.2.1⟩⟩
    rotate_left 2
    · have h1 := (hcc (by omega)).1
      split at hn0
      · exact h1 hn0
      · cases ad with
        | none => exact h1 rfl
        | some ad => simp at hn0
    · by_cases hml : c = l.toNat
      · omega
      · rw [if_neg hml] at hn0
        cases ad with
        | none => have := hno rfl; clear hc hcc; omega
        | some ad => simp at hn0
    · by_cases hml : c = l.toNat
      · left; omega
      · rcases hc with hc | ⟨g, rfl, rfl, hrs⟩
        · omega
        · right
          refine ⟨g, rfl, ?_, ?_⟩
          · rw [if_neg hml, Option.map_some, add_none _ rfl]
          · have h1 : (c - l.toNat) * sz + l.toNat * sz = c * sz := by rw [← Nat.add_mul]; congr 1; omega
            omega
/-- append within the capacity: the row is written in its place -/
theorem op_appendIn {t e T ty : TypeId} {sz bytes id st len cap m : Nat} {x y : Operand} {xs ys : List AV} (ho : o.op = .call ⟨.builtin .append, ⟨[x, y]⟩, ⟨[t, t]⟩⟩) (hT : elT P t e sz bytes = true) (hx : s.ev x = .slc id st len cap sz) (hb : s.H[id]? = some (.row T xs)) (hs : IsSrc s.H sz (s.ev y) m ys)
    (hroom : len + m + 1 ≤ cap) (hfit : st + (len + m) * sz ≤ xs.length) (hyl : ys.length = m * sz) (h : R (.slc id st (len + m) cap sz) (s.H.set id (.row T (xs.take (st + len * sz) ++ ys ++ xs.drop (st + len * sz + ys.length))))) : OpV P o s R := opV_of fun p w a hR => by
  obtain ⟨hu, i, z, hi, hz, hzs, hpos, rfl, rfl⟩ := elT_spec hT
  obtain ⟨b, c, hye, news, hn1, hn2, hn3⟩ := hs.src hR.heap (hR.ev y)
  have hv := hR.ev x
  rw [hx] at hv
  obtain ⟨q, hq⟩ := hR.heap.live hb
  obtain ⟨ad, c', hve, hlc, hcm, _, hno, hc, hcc⟩ := hv.2 q hq
  have hcc' := (hcc (by omega)).2
  by_cases hm0 : m = 0
  · subst hm0
    have hys : ys = [] := List.eq_nil_of_length_eq_zero (by simpa using hyl)
    subst hys
    have hrun := run_append_zero (P := P) w t o.type e i hu hi ad b len c' c hlc
    have hset : s.H.set id (.row T (xs.take (st + len * i.size) ++ [] ++ xs.drop (st + len * i.size + ([] : List AV).length))) = s.H := by
      rw [List.append_nil, List.length_nil, Nat.add_zero, List.take_append_drop]
      obtain ⟨h1, h2⟩ := List.getElem?_eq_some_iff.1 hb
      rw [← h2]
      exact List.set_getElem_self h1
    rw [hset] at h
    refine ⟨.value (.slice ad len c'), .slice ad len c', _, _, p, w, ?_, Or.inl rfl, h, hR.heap, ?_, Step.refl _ _⟩
    · unfold execOp
      rw [ho]
      simp [resolve, invoke, builtin, hve, hye, hrun]
    · exact ⟨hv.1, fun q' hq' => by rw [hq] at hq'; cases hq'; exact ⟨ad, c', rfl, hlc, hcm, hpos, hno, hc, hcc⟩⟩
  · obtain ⟨ad2, rfl, hcell⟩ := hn3.resolve_left hm0
    rcases hc with hc | ⟨g, rfl, rfl, hrs⟩
    · omega
    · rcases hR.heap.row hb with ⟨h3, _⟩ | ⟨g', cur, h3, h4, h5, h6⟩
      · rw [hq] at h3; cases h3
      · rw [hq] at h3; cases h3
        have h1c : ∀ u ∈ news, u.oneCell' = true := fun u hu => by
          obtain ⟨j, hj, rfl⟩ := List.mem_iff_getElem.1 hu
          exact (hn1.2 j hj (by rw [← hn1.1]; exact hj)).1
        have hlm : (len + m) * i.size = len * i.size + m * i.size := Nat.add_mul _ _ _
        have hfc := run_firstCells_some (P := P) w i.size m ad2 m c news hn2 hcell
        have hst := run_storeCells_at P g (st + len * i.size) T news 0 cur w h4 (by rw [hn2]; omega) h1c
        simp only [Nat.add_zero] at hst
        have hrun : (Builtin.append_ #[t, t] o.type #[.slice (some ⟨g, st, none⟩) len c', .slice (some ad2) m c]).run P w = .ok (.slice (some ⟨g, st, none⟩) (len + m) c') (w.setRow g (cur.toList.take (st + len * i.size) ++ news ++ cur.toList.drop (st + len * i.size + news.length)).toArray) := by
          have hroom' : len + m ≤ c' := by omega
          simp [Builtin.append_, run_underlying hu, sizeOf, typeInfo, hi, Builtin.lenOf, hroom', hfc, Addr.add_lit, hst]
        obtain ⟨r1, r2⟩ := store_at hR.heap (off := st + len * i.size) hb hq h4 h5 h6 hn1 (by rw [hyl]; omega)
        refine ⟨.value (.slice (some ⟨g, st, none⟩) (len + m) c'), _, _, _, p, _, ?_, Or.inl rfl, h, r1, ?_, r2⟩
        · unfold execOp
          rw [ho]
          simp [resolve, invoke, builtin, hve, hye, hrun]
        · refine ⟨hv.1, fun q' hq' => ?_⟩
          rw [hq] at hq'
          cases hq'
          refine ⟨_, c', rfl, by omega, hcm, hpos, fun h => (by cases h), Or.inr ⟨g, rfl, rfl, ?_⟩, hcc⟩
          have := r2.keep id _ hv.1 hq
          rw [this.2 g rfl]
          exact hrs
/-- clear of an own row -/
def slAny : AV → Option (Nat × Nat × Nat × Nat)
  | .sl id st len sz => some (id, st, len, sz)
  | .slc id st len _ sz => some (id, st, len, sz)
  | _ => none
theorem slAny_ok {p : Pl} {w : World} {v : Value} {x : AV} {id st len sz : Nat} (hx : slAny x = some (id, st, len, sz)) (h : Rep p w v x) : Rep p w v (.sl id st len sz) := by
  cases x <;> simp only [slAny] at hx <;> try cases hx
  case sl => exact h
  case slc => exact ⟨h.1, fun q hq => by obtain ⟨a, c, h1, h2, h3, h4, h5, h6, _⟩ := h.2 q hq; exact ⟨a, c, h1, h2, h3, h4, h5, h6⟩⟩
theorem op_clear {t e T : TypeId} {sz bytes id st len : Nat} {x : Operand} {xs zs : List AV} (ho : o.op = .call ⟨.builtin .clear, ⟨[x]⟩, ⟨[t]⟩⟩) (hT : elT P t e sz bytes = true) (hz : zeroL P e = some zs) (hx : slAny (s.ev x) = some (id, st, len, sz)) (hb : s.H[id]? = some (.row T xs))
    (hfit : st + len * sz ≤ xs.length) (h : R (.tuple []) (s.H.set id (.row T (xs.take st ++ zerosL zs (len * sz) ++ xs.drop (st + len * sz))))) : OpV P o s R := opV_of fun p w a hR => by
  obtain ⟨hu, i, z, hi, hzz, hzs, hpos, rfl, rfl⟩ := elT_spec hT
  have hv := slAny_ok hx (hR.ev x)
  obtain ⟨q, hq⟩ := hR.heap.live hb
  obtain ⟨ad, c', hve, hlc, hcm, _, hno, hc⟩ := hv.2 q hq
  have hzl : zs.length = i.size := by
    unfold zeroL at hz
    simp only [hi, hzz] at hz
    have := (consts_rep (p := p) (w := w) hz).1
    rw [← this]; simpa using hzs
  by_cases hl0 : len = 0
  · subst hl0
    have hz0 : zerosL zs (0 * i.size) = [] := by simp [zerosL]
    rw [hz0] at h
    have hset : s.H.set id (.row T (xs.take st ++ [] ++ xs.drop (st + 0 * i.size))) = s.H := by
      rw [List.append_nil, Nat.zero_mul, Nat.add_zero, List.take_append_drop]
      obtain ⟨h1, h2⟩ := List.getElem?_eq_some_iff.1 hb
      rw [← h2]
      exact List.set_getElem_self h1
    rw [hset] at h
    refine ⟨.value (.tuple #[]), .tuple #[], _, _, p, w, ?_, Or.inl rfl, h, hR.heap, ⟨#[], rfl, RepL.nil⟩, Step.refl _ _⟩
    unfold execOp
    rw [ho]
    cases ad <;> simp [resolve, invoke, builtin, hve, Builtin.clear_, run_underlying hu]
  · rcases hc with hc | ⟨g, rfl, rfl, hrs⟩
    · omega
    · rcases hR.heap.row hb with ⟨h3, _⟩ | ⟨g', cur, h3, h4, h5, h6⟩
      · rw [hq] at h3; cases h3
      · rw [hq] at h3; cases h3
        have hzr : RepL (RepC p w) (Builtin.zeroCells z.cells len).toList (zerosL zs (len * i.size)) := by
          unfold zeroL at hz
          simp only [hi, hzz] at hz
          have := zeros_rep (consts_rep (p := p) (w := w) hz) (len * i.size) (by rw [hzs]; exact hpos)
          unfold Builtin.zeroCells
          simp only [hzs] at this ⊢
          exact this
        have hnl : (Builtin.zeroCells z.cells len).toList.length = len * i.size := by rw [hzr.1]; simp [zerosL]
        have h1c : ∀ u ∈ (Builtin.zeroCells z.cells len).toList, u.oneCell' = true := fun u hu => by
          obtain ⟨j, hj, rfl⟩ := List.mem_iff_getElem.1 hu
          exact (hzr.2 j hj (by rw [← hzr.1]; exact hj)).1
        have hst := run_storeCells_at P g st T (Builtin.zeroCells z.cells len).toList 0 cur w h4 (by rw [hnl]; omega) h1c
        simp only [Nat.add_zero] at hst
        have hzv : (zeroValue e).run P w = .ok z w := by simp [zeroValue, typeInfo, hi, hzz]
        have hzy : (zerosL zs (len * i.size)).length = len * i.size := by simp [zerosL]
        obtain ⟨r1, r2⟩ := store_at hR.heap (off := st) hb hq h4 h5 h6 hzr (by rw [hzy]; exact hfit)
        rw [hzy] at r1
        refine ⟨.value (.tuple #[]), .tuple #[], _, _, p, _, ?_, Or.inl rfl, h, r1, ⟨#[], rfl, RepL.nil⟩, r2⟩
        unfold execOp
        rw [ho]
        obtain ⟨n, rfl⟩ : ∃ n, len = n + 1 := ⟨len - 1, by omega⟩
        simp [resolve, invoke, builtin, hve, Builtin.clear_, run_underlying hu, hzv, hst]
end
/-- a nil slice as an own row without cells -/
theorem own_nil {p : Pl} {H : List Blk} {w : World} (hH : RH p H w) (t : TypeId) : ∃ p', RH p' (H ++ [.row t []]) w ∧ Step p w p' w ∧ p'.n = H.length + 1 ∧ ∀ q, p'.at_ H.length = some q → q = none := by
  have hn := hH.n
  let p' : Pl := ⟨p.n + 1, fun i => if i = p.n then some none else p.at_ i, p.x⟩
  have hat : ∀ i g, p'.at_ i = some (some g) → p.at_ i = some (some g) := fun i g h => by
    simp only [p'] at h
    split at h
    · cases h
    · exact h
  have hown : ∀ g, p'.own g → p.own g := fun g ⟨i, hi⟩ => ⟨i, hat i g hi⟩
  have hS : Step p w p' w := ⟨rfl, rfl, rfl, Nat.le_refl _, Nat.le_succ _, fun i q hi hq => by
    simp only [p'] at hq
    rw [if_neg (by omega)] at hq
    exact ⟨hq, fun _ _ => rfl⟩, fun g _ h => hown g h, fun _ _ _ => rfl, rfl⟩
  refine ⟨p', ⟨by simp [p', hn], fun i hi => ?_, fun i j g hi hj => hH.inj i j g (hat i g hi) (hat j g hj), fun i hi => ?_, fun g hg => ⟨(hH.xs g hg).1, fun ho => (hH.xs g hg).2 (hown g ho)⟩⟩, hS, by simp [p', hn], fun q hq => ?_⟩
  · simp only [p'] at hi ⊢
    rw [if_neg (by omega)]
    exact hH.out i (by omega)
  · by_cases h : i < H.length
    · rw [List.getElem_append_left h]
      exact (hH.blk i h).step hS (by simp only [p']; rw [if_neg (by omega)]) fun _ _ => rfl
    · have he : i = H.length := by simp at hi; omega
      subst he
      rw [List.getElem_append_right (Nat.le_refl _)]
      simp only [Nat.sub_self, List.getElem_cons_zero]
      exact Or.inl ⟨by simp only [p']; rw [if_pos hn.symm], rfl⟩
  · simp only [p'] at hq
    rw [if_pos hn.symm] at hq
    cases hq; rfl
def noneV : AV → Bool | .slv _ _ _ => true | .nilsl => true | _ => false
section
variable {P : Program} {s : St} {o : Oper} {R : AV → List Blk → Prop}
/-- a slice without elements and without capacity, as an own row -/
theorem op_slice3v {t e : TypeId} {x hi mx : Operand} {lo : Option Operand} {kh km : IntKind} (ho : o.op = .slice t x lo (some hi) (some mx)) (ht : P.underlying t = some (.slice e)) (hk : knownT P e = true) (hpos : 0 < sizeT P e) (hx : noneV (s.ev x) = true)
    (hl : loE (lo.map s.ev) = some 0) (hh : s.ev hi = .int kh 0) (hm : s.ev mx = .int km 0) (h : R (.sl s.H.length 0 0 (sizeT P e)) (s.H ++ [.row e []])) : OpB P o s R := opB_of fun p w a hR => by
  have hv : ∃ a0 len cap, a.eval x = .slice a0 len cap := by
    have hv := hR.ev x
    cases hxx : s.ev x <;> rw [hxx] at hx hv <;> try cases hx
    case slv => obtain ⟨oa, ad, cap, he, _⟩ := at_slv hv; exact ⟨_, _, _, he⟩
    case nilsl => exact ⟨_, _, _, rep_nilsl hv⟩
  obtain ⟨a0, len, cap, hve⟩ := hv
  have eh := rep_int (hh ▸ hR.ev hi)
  have em := rep_int (hm ▸ hR.ev mx)
  have hbs : (Instr.sliceBounds true len cap (lo.map a.eval) (some (a.eval hi)) (some (a.eval mx))).run P w = .ok (0, 0, 0) w := by
    rw [eh, em]
    cases lo with
    | none => simp [Instr.sliceBounds, Instr.sliceBound, asIntOf]
    | some lo =>
      simp only [Option.map_some, loE] at hl
      cases hlo : s.ev lo <;> rw [hlo] at hl <;> cases hl
      rename_i kl
      have el := rep_int (hlo ▸ hR.ev lo)
      simp [Instr.sliceBounds, Instr.sliceBound, asIntOf, el]
  obtain ⟨p', h1, h2, h3, h4⟩ := own_nil hR.heap e
  refine ⟨.slice a0 0 0, _, _, p', w, ?_, h, h1, ⟨by omega, fun q hq => ?_⟩, h2, Below.refl _ _⟩
  · unfold execOp
    rw [ho]
    simp [Instr.sliceAt, hve, run_underlying ht, Instr.slice, hbs, run_sizeT hk]
  · rw [h4 q hq]
    exact ⟨_, _, rfl, Nat.le_refl _, Nat.zero_le _, hpos, fun _ => rfl, Or.inl rfl⟩
end
end Go.Proofs.Ytcmbhebgpboepaa.V
