/-
  What the law leans on.
-/
import Derived.Test.YthcaeofgegfncaaDoorK2
namespace Go.Proofs.YthcaeofgegfncaaDoor.V
open Go Go.RowKit
set_option linter.unusedSimpArgs false
set_option linter.unusedVariables false

theorem store_at {p : Pl} {H : List Blk} {w : World} (hH : RH p H w) {id g off : Nat} {t : TypeId} {xs ys : List AV} {cur : Array Value} {news : List Value} (hb : H[id]? = some (.row t xs)) (h1 : p.at_ id = some (some g)) (h2 : w.heap[g]? = some (.cells cur t (0, 0)))
    (h3 : xs.length ≤ cur.size) (h4 : ∀ (i : Nat) (h : i < xs.length), ∃ v, cur[i]? = some v ∧ RepC p w v xs[i]) (hcs : RepL (RepC p w) news ys) (hl : off + ys.length ≤ xs.length) :
    RH p (H.set id (.row t (xs.take off ++ ys ++ xs.drop (off + ys.length)))) (w.setRow g (cur.toList.take off ++ news ++ cur.toList.drop (off + news.length)).toArray) ∧ Step p w p (w.setRow g (cur.toList.take off ++ news ++ cur.toList.drop (off + news.length)).toArray) := by
  have hlen : news.length = ys.length := hcs.1
  have hpre := row_pre h3 h4
  refine set_ok hH (xs' := xs.take off ++ ys ++ xs.drop (off + ys.length)) hb h1 h2 (by simp [hlen]; omega) ?_
  have hll : (xs.take off ++ ys ++ xs.drop (off + ys.length)).length = xs.length := by simp; omega
  have := splice_take cur.toList news off xs.length (by rw [hlen]; exact hl) (by simpa using h3)
  rw [hll]
  simp only [List.toList_toArray]
  rw [this, hlen]
  exact ((hpre.take off).append hcs).append (hpre.drop _)
section
variable {P : Program} {s : St} {o : Oper} {R : AV → List Blk → Prop}
theorem op_slcLen {t : TypeId} {x : Operand} {id st len cap sz : Nat} {e : TypeId} {T : TypeId} {xs : List AV} (ho : o.op = .call ⟨.builtin .len, ⟨[x]⟩, ⟨[t]⟩⟩) (hu : P.underlying t = some (.slice e)) (hx : s.ev x = .slc id st len cap sz) (hb : s.H[id]? = some (.row T xs))
    (h : R (.int .i64 len) s.H) : OpB P o s R := opB_of fun p w a hR => by
  have hv := hR.ev x
  rw [hx] at hv
  obtain ⟨q, hq⟩ := hR.heap.live hb
  obtain ⟨ad, c, hve, _⟩ := hv.2 q hq
  refine ⟨goInt len, _, _, p, w, ?_, h, hR.heap, RepF.rep (.int _ _), Step.refl _ _, Below.refl _ _⟩
  unfold execOp
  rw [ho]
  simp [resolve, invoke, builtin, hve, Builtin.len_, run_underlying hu]
theorem op_slcSlice {t e T : TypeId} {x : Operand} {lo hi : Option Operand} {id st len cap sz : Nat} {xs : List AV} {l h' : Int} (ho : o.op = .slice t x lo hi none) (hu : P.underlying t = some (.slice e)) (hk : knownT P e = true) (hs : sizeT P e = sz)
    (hx : s.ev x = .slc id st len cap sz) (hb : s.H[id]? = some (.row T xs)) (e1 : loE (lo.map s.ev) = some l) (e2 : hiE len (hi.map s.ev) = some h') (hbd : 0 ≤ l ∧ l ≤ h' ∧ (h' ≤ len ∨ h' + 1 ≤ cap))
    (h : R (.slc id (st + l.toNat * sz) (h'.toNat - l.toNat) (cap - l.toNat) sz) s.H) : OpB P o s R := opB_of fun p w a hR => by
  have hv := hR.ev x
  rw [hx] at hv
  obtain ⟨q, hq⟩ := hR.heap.live hb
  obtain ⟨ad, c, hve, hlc, hcm, hpos, hno, hc, hcc⟩ := hv.2 q hq
  have hcc' : cap ≤ c + 1 := by
    rcases Nat.eq_zero_or_pos cap with h0 | h0
    · omega
    · exact (hcc h0).2
  have hbd2 : (Instr.sliceBounds true len c (lo.map a.eval) (hi.map a.eval) none).run P w = .ok (l.toNat, h'.toNat, c) w := by
    have hR2 : ∀ y, Rep p w (a.eval y) (s.ev y) := hR.ev
    cases hi with
    | none =>
      have : h' = len := by simpa [hiE] using e2.symm
      subst this
      cases lo with
      | none =>
        have : l = 0 := by simpa [loE] using e1.symm
        subst this
        simp [Instr.sliceBounds]
      | some lo =>
        simp only [Option.map_some, loE] at e1
        cases hlo : s.ev lo <;> rw [hlo] at e1 <;> cases e1
        rename_i kl
        have el := rep_int (hlo ▸ hR2 lo)
        have h1 : 0 ≤ l := by omega
        have h2 : l ≤ (len : Int) := by omega
        simp [Instr.sliceBounds, el, Instr.sliceBound, asIntOf, h1, h2]
    | some hi =>
      simp only [Option.map_some, hiE] at e2
      cases hhi : s.ev hi <;> rw [hhi] at e2 <;> cases e2
      rename_i kh
      have eh := rep_int (hhi ▸ hR2 hi)
      have h3 : 0 ≤ h' := by omega
      have h4 : h' ≤ (c : Int) := by clear hc hcc; omega
      cases lo with
      | none =>
        have : l = 0 := by simpa [loE] using e1.symm
        subst this
        simp [Instr.sliceBounds, eh, Instr.sliceBound, asIntOf, h3, h4]
      | some lo =>
        simp only [Option.map_some, loE] at e1
        cases hlo : s.ev lo <;> rw [hlo] at e1 <;> cases e1
        rename_i kl
        have el := rep_int (hlo ▸ hR2 lo)
        have h1 : 0 ≤ l := by omega
        have h2 : l ≤ max h' 0 := by omega
        simp [Instr.sliceBounds, el, eh, Instr.sliceBound, asIntOf, h1, h2, h3, h4]
  refine ⟨.slice (if c = l.toNat then ad else ad.map (·.add (l.toNat * sz))) (h'.toNat - l.toNat) (c - l.toNat), _, _, p, w, ?_, h, hR.heap, ⟨hv.1, fun q' hq' => ?_⟩, Step.refl _ _, Below.refl _ _⟩
  · unfold execOp
    rw [ho]
    simp only [Option.map_none, Instr.sliceAt, hve, Sem.run_bind, Sem.run_pure, Result.andThen_ok, run_underlying hu, Instr.slice, hbd2, run_sizeT hk, hs]
  · rw [hq] at hq'
    cases hq'
    have hb1 : h'.toNat - l.toNat ≤ c - l.toNat ∧ c - l.toNat ≤ maxLen ∧ cap - l.toNat ≤ c - l.toNat + 1 ∧ h'.toNat ≤ c := by clear hc hcc hno; omega
    refine ⟨_, _, rfl, hb1.1, hb1.2.1, hpos, fun hn0 => ?_, ?_, fun h0 => ⟨fun hn0 => ?_, hb1.2.2.1⟩⟩
    rotate_left 2
    · have h1 := (hcc (by omega)).1
      split at hn0
      · exact h1 hn0
      · cases ad with
        | none => exact h1 rfl
        | some ad => simp at hn0
    · by_cases hml : c = l.toNat
      · omega
      · rw [if_neg hml] at hn0
        cases ad with
        | none => have := hno rfl; clear hc hcc; omega
        | some ad => simp at hn0
    · by_cases hml : c = l.toNat
      · left; omega
      · rcases hc with hc | ⟨g, rfl, rfl, hrs⟩
        · omega
        · right
          refine ⟨g, rfl, ?_, ?_⟩
          · rw [if_neg hml, Option.map_some, add_none _ rfl]
          · have h1 : (c - l.toNat) * sz + l.toNat * sz = c * sz := by rw [← Nat.add_mul]; congr 1; omega
            omega
/-- append within the capacity: the row is written in its place -/
theorem op_appendIn {t e T ty : TypeId} {sz bytes id st len cap m : Nat} {x y : Operand} {xs ys : List AV} (ho : o.op = .call ⟨.builtin .append, ⟨[x, y]⟩, ⟨[t, t]⟩⟩) (hT : elT P t e sz bytes = true) (hx : s.ev x = .slc id st len cap sz) (hb : s.H[id]? = some (.row T xs)) (hs : IsSrc s.H sz (s.ev y) m ys)
    (hroom : len + m + 1 ≤ cap) (hfit : st + (len + m) * sz ≤ xs.length) (hyl : ys.length = m * sz) (h : R (.slc id st (len + m) cap sz) (s.H.set id (.row T (xs.take (st + len * sz) ++ ys ++ xs.drop (st + len * sz + ys.length))))) : OpV P o s R := opV_of fun p w a hR => by
  obtain ⟨hu, i, z, hi, hz, hzs, hpos, rfl, rfl⟩ := elT_spec hT
  obtain ⟨b, c, hye, news, hn1, hn2, hn3⟩ := hs.src hR.heap (hR.ev y)
  have hv := hR.ev x
  rw [hx] at hv
  obtain ⟨q, hq⟩ := hR.heap.live hb
  obtain ⟨ad, c', hve, hlc, hcm, _, hno, hc, hcc⟩ := hv.2 q hq
  have hcc' := (hcc (by omega)).2
  by_cases hm0 : m = 0
  · subst hm0
    have hys : ys = [] := List.eq_nil_of_length_eq_zero (by simpa using hyl)
    subst hys
    have hrun := run_append_zero (P := P) w t o.type e i hu hi ad b len c' c hlc
    have hset : s.H.set id (.row T (xs.take (st + len * i.size) ++ [] ++ xs.drop (st + len * i.size + ([] : List AV).length))) = s.H := by
      rw [List.append_nil, List.length_nil, Nat.add_zero, List.take_append_drop]
      obtain ⟨h1, h2⟩ := List.getElem?_eq_some_iff.1 hb
      rw [← h2]
      exact List.set_getElem_self h1
    rw [hset] at h
    refine ⟨.value (.slice ad len c'), .slice ad len c', _, _, p, w, ?_, Or.inl rfl, h, hR.heap, ?_, Step.refl _ _⟩
    · unfold execOp
      rw [ho]
      simp [resolve, invoke, builtin, hve, hye, hrun]
    · exact ⟨hv.1, fun q' hq' => by rw [hq] at hq'; cases hq'; exact ⟨ad, c', rfl, hlc, hcm, hpos, hno, hc, hcc⟩⟩
  · obtain ⟨ad2, rfl, hcell⟩ := hn3.resolve_left hm0
    rcases hc with hc | ⟨g, rfl, rfl, hrs⟩
    · omega
    · rcases hR.heap.row hb with ⟨h3, _⟩ | ⟨g', cur, h3, h4, h5, h6⟩
      · rw [hq] at h3; cases h3
      · rw [hq] at h3; cases h3
        have h1c : ∀ u ∈ news, u.oneCell' = true := fun u hu => by
          obtain ⟨j, hj, rfl⟩ := List.mem_iff_getElem.1 hu
          exact (hn1.2 j hj (by rw [← hn1.1]; exact hj)).1
        have hlm : (len + m) * i.size = len * i.size + m * i.size := Nat.add_mul _ _ _
        have hfc := run_firstCells_some (P := P) w i.size m ad2 m c news hn2 hcell
        have hst := run_storeCells_at P g (st + len * i.size) T news 0 cur w h4 (by rw [hn2]; omega) h1c
        simp only [Nat.add_zero] at hst
        have hrun : (Builtin.append_ #[t, t] o.type #[.slice (some ⟨g, st, none⟩) len c', .slice (some ad2) m c]).run P w = .ok (.slice (some ⟨g, st, none⟩) (len + m) c') (w.setRow g (cur.toList.take (st + len * i.size) ++ news ++ cur.toList.drop (st + len * i.size + news.length)).toArray) := by
          have hroom' : len + m ≤ c' := by omega
          simp [Builtin.append_, run_underlying hu, sizeOf, typeInfo, hi, Builtin.lenOf, hroom', hfc, Addr.add_lit, hst]
        obtain ⟨r1, r2⟩ := store_at hR.heap (off := st + len * i.size) hb hq h4 h5 h6 hn1 (by rw [hyl]; omega)
        refine ⟨.value (.slice (some ⟨g, st, none⟩) (len + m) c'), _, _, _, p, _, ?_, Or.inl rfl, h, r1, ?_, r2⟩
        · unfold execOp
          rw [ho]
          simp [resolve, invoke, builtin, hve, hye, hrun]
        · refine ⟨hv.1, fun q' hq' => ?_⟩
          rw [hq] at hq'
          cases hq'
          refine ⟨_, c', rfl, by omega, hcm, hpos, fun h => (by cases h), Or.inr ⟨g, rfl, rfl, ?_⟩, hcc⟩
          have := r2.keep id _ hv.1 hq
          rw [this.2 g rfl]
          exact hrs
/-- clear of an own row -/
def slAny : AV → Option (Nat × Nat × Nat × Nat)
  | .sl id st len sz => some (id, st, len, sz)
  | .slc id st len _ sz => some (id, st, len, sz)
  | _ => none
theorem slAny_ok {p : Pl} {w : World} {v : Value} {x : AV} {id st len sz : Nat} (hx : slAny x = some (id, st, len, sz)) (h : Rep p w v x) : Rep p w v (.sl id st len sz) := by
  cases x <;> simp only [slAny] at hx <;> try cases hx
  case sl => exact h
  case slc => exact ⟨h.1, fun q hq => by obtain ⟨a, c, h1, h2, h3, h4, h5, h6, _⟩ := h.2 q hq; exact ⟨a, c, h1, h2, h3, h4, h5, h6⟩⟩
theorem op_clear {t e T : TypeId} {sz bytes id st len : Nat} {x : Operand} {xs zs : List AV} (ho : o.op = .call ⟨.builtin .clear, ⟨[x]⟩, ⟨[t]⟩⟩) (hT : elT P t e sz bytes = true) (hz : zeroL P e = some zs) (hx : slAny (s.ev x) = some (id, st, len, sz)) (hb : s.H[id]? = some (.row T xs))
    (hfit : st + len * sz ≤ xs.length) (h : R (.tuple []) (s.H.set id (.row T (xs.take st ++ zerosL zs (len * sz) ++ xs.drop (st + len * sz))))) : OpV P o s R := opV_of fun p w a hR => by
  obtain ⟨hu, i, z, hi, hzz, hzs, hpos, rfl, rfl⟩ := elT_spec hT
  have hv := slAny_ok hx (hR.ev x)
  obtain ⟨q, hq⟩ := hR.heap.live hb
  obtain ⟨ad, c', hve, hlc, hcm, _, hno, hc⟩ := hv.2 q hq
  have hzl : zs.length = i.size := by
    unfold zeroL at hz
    simp only [hi, hzz] at hz
    have := (consts_rep (p := p) (w := w) hz).1
    rw [← this]; simpa using hzs
  by_cases hl0 : len = 0
  · subst hl0
    have hz0 : zerosL zs (0 * i.size) = [] := by simp [zerosL]
    rw [hz0] at h
    have hset : s.H.set id (.row T (xs.take st ++ [] ++ xs.drop (st + 0 * i.size))) = s.H := by
      rw [List.append_nil, Nat.zero_mul, Nat.add_zero, List.take_append_drop]
      obtain ⟨h1, h2⟩ := List.getElem?_eq_some_iff.1 hb
      rw [← h2]
      exact List.set_getElem_self h1
    rw [hset] at h
    refine ⟨.value (.tuple #[]), .tuple #[], _, _, p, w, ?_, Or.inl rfl, h, hR.heap, ⟨#[], rfl, RepL.nil⟩, Step.refl _ _⟩
    unfold execOp
    rw [ho]
    cases ad <;> simp [resolve, invoke, builtin, hve, Builtin.clear_, run_underlying hu]
  · rcases hc with hc | ⟨g, rfl, rfl, hrs⟩
    · omega
    · rcases hR.heap.row hb with ⟨h3, _⟩ | ⟨g', cur, h3, h4, h5, h6⟩
      · rw [hq] at h3; cases h3
      · rw [hq] at h3; cases h3
        have hzr : RepL (RepC p w) (Builtin.zeroCells z.cells len).toList (zerosL zs (len * i.size)) := by
          unfold zeroL at hz
          simp only [hi, hzz] at hz
          have := zeros_rep (consts_rep (p := p) (w := w) hz) (len * i.size) (by rw [hzs]; exact hpos)
          unfold Builtin.zeroCells
          simp only [hzs] at this ⊢
          exact this
        have hnl : (Builtin.zeroCells z.cells len).toList.length = len * i.size := by rw [hzr.1]; simp [zerosL]
        have h1c : ∀ u ∈ (Builtin.zeroCells z.cells len).toList, u.oneCell' = true := fun u hu => by
          obtain ⟨j, hj, rfl⟩ := List.mem_iff_getElem.1 hu
          exact (hzr.2 j hj (by rw [← hzr.1]; exact hj)).1
        have hst := run_storeCells_at P g st T (Builtin.zeroCells z.cells len).toList 0 cur w h4 (by rw [hnl]; omega) h1c
        simp only [Nat.add_zero] at hst
        have hzv : (zeroValue e).run P w = .ok z w := by simp [zeroValue, typeInfo, hi, hzz]
        have hzy : (zerosL zs (len * i.size)).length = len * i.size := by simp [zerosL]
        obtain ⟨r1, r2⟩ := store_at hR.heap (off := st) hb hq h4 h5 h6 hzr (by rw [hzy]; exact hfit)
        rw [hzy] at r1
        refine ⟨.value (.tuple #[]), .tuple #[], _, _, p, _, ?_, Or.inl rfl, h, r1, ⟨#[], rfl, RepL.nil⟩, r2⟩
        unfold execOp
        rw [ho]
        obtain ⟨n, rfl⟩ : ∃ n, len = n + 1 := ⟨len - 1, by omega⟩
        simp [resolve, invoke, builtin, hve, Builtin.clear_, run_underlying hu, hzv, hst]
end
/-- a nil slice as an own row without cells -/
theorem own_nil {p : Pl} {H : List Blk} {w : World} (hH : RH p H w) (t : TypeId) : ∃ p', RH p' (H ++ [.row t []]) w ∧ Step p w p' w ∧ p'.n = H.length + 1 ∧ ∀ q, p'.at_ H.length = some q → q = none := by
  have hn := hH.n
  let p' : Pl := ⟨p.n + 1, fun i => if i = p.n then some none else p.at_ i, p.x⟩
  have hat : ∀ i g, p'.at_ i = some (some g) → p.at_ i = some (some g) := fun i g h => by
    simp only [p'] at h
    split at h
    · cases h
    · exact h
  have hown : ∀ g, p'.own g → p.own g := fun g ⟨i, hi⟩ => ⟨i, hat i g hi⟩
  have hS : Step p w p' w := ⟨rfl, rfl, rfl, Nat.le_refl _, Nat.le_succ _, fun i q hi hq => by
    simp only [p'] at hq
    rw [if_neg (by omega)] at hq
    exact ⟨hq, fun _ _ => rfl⟩, fun g _ h => hown g h, fun _ _ _ => rfl, rfl⟩
  refine ⟨p', ⟨by simp [p', hn], fun i hi => ?_, fun i j g hi hj => hH.inj i j g (hat i g hi) (hat j g hj), fun i hi => ?_, fun g hg => ⟨(hH.xs g hg).1, fun ho => (hH.xs g hg).2 (hown g ho)⟩⟩, hS, by simp [p', hn], fun q hq => ?_⟩
  · simp only [p'] at hi ⊢
    rw [if_neg (by omega)]
    exact hH.out i (by omega)
  · by_cases h : i < H.length
    · rw [List.getElem_append_left h]
      exact (hH.blk i h).step hS (by simp only [p']; rw [if_neg (by omega)]) fun _ _ => rfl
    · have he : i = H.length := by simp at hi; omega
      subst he
      rw [List.getElem_append_right (Nat.le_refl _)]
      simp only [Nat.sub_self, List.getElem_cons_zero]
      exact Or.inl ⟨by simp only [p']; rw [if_pos hn.symm], rfl⟩
  · simp only [p'] at hq
    rw [if_pos hn.symm] at hq
    cases hq; rfl
def noneV : AV → Bool | .slv _ _ _ => true | .nilsl => true | _ => false
section
variable {P : Program} {s : St} {o : Oper} {R : AV → List Blk → Prop}
/-- a slice without elements and without capacity, as an own row -/
theorem op_slice3v {t e : TypeId} {x hi mx : Operand} {lo : Option Operand} {kh km : IntKind} (ho : o.op = .slice t x lo (some hi) (some mx)) (ht : P.underlying t = some (.slice e)) (hk : knownT P e = true) (hpos : 0 < sizeT P e) (hx : noneV (s.ev x) = true)
    (hl : loE (lo.map s.ev) = some 0) (hh : s.ev hi = .int kh 0) (hm : s.ev mx = .int km 0) (h : R (.sl s.H.length 0 0 (sizeT P e)) (s.H ++ [.row e []])) : OpB P o s R := opB_of fun p w a hR => by
  have hv : ∃ a0 len cap, a.eval x = .slice a0 len cap := by
    have hv := hR.ev x
    cases hxx : s.ev x <;> rw [hxx] at hx hv <;> try cases hx
    case slv => obtain ⟨oa, ad, cap, he, _⟩ := at_slv hv; exact ⟨_, _, _, he⟩
    case nilsl => exact ⟨_, _, _, rep_nilsl hv⟩
  obtain ⟨a0, len, cap, hve⟩ := hv
  have eh := rep_int (hh ▸ hR.ev hi)
  have em := rep_int (hm ▸ hR.ev mx)
  have hbs : (Instr.sliceBounds true len cap (lo.map a.eval) (some (a.eval hi)) (some (a.eval mx))).run P w = .ok (0, 0, 0) w := by
    rw [eh, em]
    cases lo with
    | none => simp [Instr.sliceBounds, Instr.sliceBound, asIntOf]
    | some lo =>
      simp only [Option.map_some, loE] at hl
      cases hlo : s.ev lo <;> rw [hlo] at hl <;> cases hl
      rename_i kl
      have el := rep_int (hlo ▸ hR.ev lo)
      simp [Instr.sliceBounds, Instr.sliceBound, asIntOf, el]
  obtain ⟨p', h1, h2, h3, h4⟩ := own_nil hR.heap e
  refine ⟨.slice a0 0 0, _, _, p', w, ?_, h, h1, ⟨by omega, fun q hq => ?_⟩, h2, Below.refl _ _⟩
  · unfold execOp
    rw [ho]
    simp [Instr.sliceAt, hve, run_underlying ht, Instr.slice, hbs, run_sizeT hk]
  · rw [h4 q hq]
    exact ⟨_, _, rfl, Nat.le_refl _, Nat.zero_le _, hpos, fun _ => rfl, Or.inl rfl⟩
end
end Go.Proofs.YthcaeofgegfncaaDoor.V
namespace Go.Proofs.YthcaeofgegfncaaDoor.V
open Go Go.RowKit
set_option linter.unusedSimpArgs false
set_option linter.unusedVariables false

/-- seen from the function's beginning, where n0 blocks stood -/
def GoV (P : Program) (n0 : Nat) (c : Code) (Q : Exit → St → Prop) (s : St) : Prop :=
  ∀ (p0 : Pl) (w0 : World) (p : Pl) (w : World) (a : Act) (Qr : Exit → Act → World → Prop), p0.n = n0 → Step p0 w0 p w → Rst p s a w →
    (∀ e s' p' a' w', Q e s' → Rst p' s' a' w' → Step p0 w0 p' w' → Qr e a' w') → c.wp P Qr a w
def GoN (P : Program) (n0 : Nat) (ops : Array Oper) (Q : Exit → St → Prop) (l : List Nat) (s : St) : Prop :=
  ∀ (p0 : Pl) (w0 : World) (p : Pl) (w : World) (a : Act) (Qr : Exit → Act → World → Prop), p0.n = n0 → Step p0 w0 p w → Rst p s a w →
    (∀ e s' p' a' w', Q e s' → Rst p' s' a' w' → Step p0 w0 p' w' → Qr e a' w') → wpOps P ops Qr l a w
def Wkn (n0 : Nat) (s s' : St) : Prop := ∀ (p0 : Pl) (w0 : World) (p : Pl) (a : Act) (w : World), p0.n = n0 → Step p0 w0 p w → Rst p s a w → ∃ p', Rst p' s' a w ∧ Step p0 w0 p' w
section
variable {P : Program} {n0 : Nat} {Q : Exit → St → Prop} {s s' : St} {c : Code}
theorem GoV.of (h : WpV P c Q s) : GoV P n0 c Q s := fun p0 w0 p w a Qr _ hS hR hQ => h p w a Qr hR fun e s' p' a' w' q r k => hQ e s' p' a' w' q r (hS.trans k)
theorem GoV.wpV (h : GoV P s.H.length c Q s) : WpV P c Q s := fun p w a Qr hR hQ => h p w p w a Qr hR.heap.n (Step.refl p w) hR hQ
theorem GoV.wkn (h : GoV P n0 c Q s') (k : Wkn n0 s s') : GoV P n0 c Q s := fun p0 w0 p w a Qr hn hS hR hQ => by
  obtain ⟨p', h1, h2⟩ := k p0 w0 p a w hn hS hR
  exact h p0 w0 p' w a Qr hn h2 h1 hQ
theorem GoN.wkn {ops : Array Oper} {l : List Nat} (h : GoN P n0 ops Q l s') (k : Wkn n0 s s') : GoN P n0 ops Q l s := fun p0 w0 p w a Qr hn hS hR hQ => by
  obtain ⟨p', h1, h2⟩ := k p0 w0 p a w hn hS hR
  exact h p0 w0 p' w a Qr hn h2 h1 hQ
theorem RunT.wkn {ops : Array Oper} {quiet : Nat → Bool} {n : Nat} {listed : Array Bool} (h : RunT P ops Q quiet n0 n listed s') (k : Wkn n0 s s') : RunT P ops Q quiet n0 n listed s := fun p0 w0 p w a K hn hsz hc hS hR hQ => by
  obtain ⟨p', h1, h2⟩ := k p0 w0 p a w hn hS hR
  exact h p0 w0 p' w a K hn hsz hc h2 h1 hQ
theorem GoV.mono {Q' : Exit → St → Prop} (h : GoV P n0 c Q s) (hq : ∀ e s, Q e s → Q' e s) : GoV P n0 c Q' s := fun p0 w0 p w a Qr hn hS hR hQ => h p0 w0 p w a Qr hn hS hR fun e s' p' a' w' q => hQ e s' p' a' w' (hq e s' q)
theorem Wkn.refl (n0 : Nat) (s : St) : Wkn n0 s s := fun _ _ p _ _ _ hS hR => ⟨p, hR, hS⟩
theorem Wkn.trans {s1 s2 s3 : St} (h : Wkn n0 s1 s2) (k : Wkn n0 s2 s3) : Wkn n0 s1 s3 := fun p0 w0 p a w hn hS hR => by
  obtain ⟨p', h1, h2⟩ := h p0 w0 p a w hn hS hR
  exact k p0 w0 p' a w hn h2 h1
/-- behind a piece of code the state may be written otherwise -/
theorem GoV.post {Q' : Exit → St → Prop} (h : GoV P n0 c Q s) (hq : ∀ e s1, Q e s1 → ∃ s2, Wkn n0 s1 s2 ∧ Q' e s2) : GoV P n0 c Q' s := fun p0 w0 p w a Qr hn hS hR hQ =>
  h p0 w0 p w a Qr hn hS hR fun e s1 p1 a1 w1 q r k => by
    obtain ⟨s2, h1, h2⟩ := hq e s1 q
    obtain ⟨p', h3, h4⟩ := h1 p0 w0 p1 a1 w1 hn k r
    exact hQ e s2 p' a1 w1 h2 h3 h4
end

inductive Pre where
  | sel (ks : List Nat)
  | tm (i : Nat) (x : AV)
  | tw (i : Nat) (x : AV)
  | hp (id : Nat) (b : Blk)
  | frz (i : Nat)
  | keep (ks : List Nat) (fl : List Bool)
  | own (i : Nat) (t : TypeId) (sz : Nat)
  | place (ks : List (Option Nat)) (fl : List Bool)
  | flags (bf : List Bool) (nf : Bool)
  | cut (id n : Nat)
  | ownc (id i : Nat) (t : TypeId) (sz : Nat)
  | frzc (id i : Nat)
/-- of a row only the first cells are known -/
theorem cut_ok {p : Pl} {H : List Blk} {w : World} (hH : RH p H w) {id : Nat} {t : TypeId} {xs : List AV} (hb : H[id]? = some (.row t xs)) (n : Nat) : RH p (H.set id (.row t (xs.take n))) w := by
  refine ⟨by rw [List.length_set]; exact hH.n, hH.out, hH.inj, fun j hj => ?_, hH.xs⟩
  rw [List.getElem_set]
  split
  · rename_i he
    subst he
    rcases hH.row hb with ⟨h1, h2⟩ | ⟨g, cur, h1, h2, h3, h4⟩
    · subst h2
      exact Or.inl ⟨h1, by simp⟩
    · refine Or.inr ⟨g, cur, h1, h2, by rw [List.length_take]; omega, fun i hi => ?_⟩
      rw [List.length_take] at hi
      obtain ⟨v, a, b⟩ := h4 i (by omega)
      exact ⟨v, a, by rw [List.getElem_take]; exact b⟩
  · exact hH.blk j (by rw [List.length_set] at hj; exact hj)
/-- one cell of a row seen otherwise -/
theorem cell_ok {p : Pl} {H : List Blk} {w : World} (hH : RH p H w) {id i : Nat} {t : TypeId} {xs : List AV} {x y : AV} (hb : H[id]? = some (.row t xs)) (hi : xs[i]? = some x) (hw : ∀ v, Rep0 p w v x → Rep0 p w v y) : RH p (H.set id (.row t (xs.set i y))) w := by
  refine ⟨by rw [List.length_set]; exact hH.n, hH.out, hH.inj, fun j hj => ?_, hH.xs⟩
  rw [List.getElem_set]
  split
  · rename_i he
    subst he
    rcases hH.row hb with ⟨h1, h2⟩ | ⟨g, cur, h1, h2, h3, h4⟩
    · subst h2
      exact Or.inl ⟨h1, by simp⟩
    · refine Or.inr ⟨g, cur, h1, h2, by rw [List.length_set]; exact h3, fun k hk => ?_⟩
      rw [List.length_set] at hk
      obtain ⟨v, a, b⟩ := h4 k hk
      refine ⟨v, a, ?_⟩
      rw [List.getElem_set]
      split
      · rename_i he
        subst he
        have : xs[i] = x := (List.getElem?_eq_some_iff.1 hi).2
        rw [this] at b
        exact ⟨b.1, hw v b.2⟩
      · exact b
  · exact hH.blk j (by rw [List.length_set] at hj; exact hj)
/-- an own row that a cell leads to, as a value -/
theorem cell_frz {p : Pl} {H : List Blk} {w : World} (hH : RH p H w) {id i j st len sz : Nat} {t T : TypeId} {xs ys : List AV} (hb : H[id]? = some (.row T xs)) (hi : xs[i]? = some (.sl j st len sz)) (hj : H[j]? = some (.row t ys)) (hne : id ≠ j)
    (hn : ∀ x ∈ ys, noid0 x = true ∧ x ≠ .junk) (hl : st + len * sz ≤ ys.length) : ∃ p', RH p' ((H.set j .dead).set id (.row T (xs.set i (.slv len sz ((ys.drop st).take (len * sz)))))) w ∧ Step p w p' w := by
  obtain ⟨hil, hix⟩ := List.getElem?_eq_some_iff.1 hi
  rcases hH.row hb with ⟨_, h2⟩ | ⟨g, cur, h1, h2, h3, h4⟩
  · subst h2; simp at hil
  · obtain ⟨v, hv1, hv2⟩ := h4 i hil
    rw [hix] at hv2
    have hR : Rst p ⟨[.sl j st len sz], H⟩ { tmps := #[v], defers := [] } w := ⟨rfl, ⟨rfl, fun k a b => by
      have : k = 0 := by simp at a; omega
      subst this; exact hv2.2⟩, hH⟩
    obtain ⟨p', hR', hS⟩ := hR.freeze 0 j st len sz t ys rfl hj hn hl
    have hv3 := hR'.reps.2 0 (by simp) (by simp)
    refine ⟨p', ⟨by rw [List.length_set]; exact hR'.heap.n, hR'.heap.out, hR'.heap.inj, fun k hk => ?_, hR'.heap.xs⟩, hS⟩
    rw [List.getElem_set]
    split
    · rename_i he
      subst he
      have hidl : id < (H.set j .dead).length := by rw [List.length_set]; exact (List.getElem?_eq_some_iff.1 hb).1
      have hB := hR'.heap.blk id hidl
      have hb' : (H.set j .dead)[id]'hidl = .row T xs := by
        rw [List.getElem_set, if_neg (fun h => hne h.symm)]
        exact (List.getElem?_eq_some_iff.1 hb).2
      rw [hb'] at hB
      rcases hB with ⟨_, k2⟩ | ⟨g', cur', k1, k2, k3, k4⟩
      · subst k2; simp at hil
      · have hg := (hS.keep id _ (by rw [hH.n]; exact (List.getElem?_eq_some_iff.1 hb).1) k1).1
        rw [h1] at hg
        cases hg
        rw [h2] at k2
        cases k2
        refine Or.inr ⟨g, cur, k1, h2, by rw [List.length_set]; exact k3, fun m hm => ?_⟩
        rw [List.length_set] at hm
        rw [List.getElem_set]
        split
        · rename_i he
          subst he
          exact ⟨v, hv1, hv2.1, hv3⟩
        · exact k4 m hm
    · exact hR'.heap.blk k (by rw [List.length_set] at hk; exact hk)
/-- no cell bears a block -/
def StayB : Blk → Prop
  | .row _ xs => ∀ x ∈ xs, noid0 x = true
  | .map kv => kv = kv.map fun q => (ren1 (fun _ => none) q.1, ren1 (fun _ => none) q.2)
  | _ => True
def keepBlk (f : Nat → Option Nat) (fl : Bool) (b : Blk) : Blk := bif fl then b else renBlk f b
theorem map_plain {f : Nat → Option Nat} : ∀ {kv : List (AV × AV)}, (∀ q ∈ kv, plain1 q.1 = true ∧ plain1 q.2 = true) → kv = kv.map fun q => (ren1 f q.1, ren1 f q.2)
  | [], _ => rfl
  | q :: r, h => by
    have h1 := h q (by simp)
    rw [List.map_cons, ren1_plain h1.1, ren1_plain h1.2, ← map_plain fun x hx => h x (List.mem_cons_of_mem _ hx)]
def stayP : List Bool → List Blk → List Prop
  | true :: r, .row _ xs :: l => (∀ x ∈ xs, noid0 x = true) :: stayP r l
  | true :: r, .map kv :: l => (∀ q ∈ kv, plain1 q.1 = true ∧ plain1 q.2 = true) :: stayP r l
  | _ :: r, _ :: l => stayP r l
  | _, _ => []
def keepF (ks : List Nat) (H : List Blk) : List Nat → List Bool → List Blk
  | [], _ => []
  | i :: r, [] => renBlk (idxK ks) (H.getD i .dead) :: keepF ks H r []
  | i :: r, b :: l => keepBlk (idxK ks) b (H.getD i .dead) :: keepF ks H r l
theorem keepF_len (ks : List Nat) (H : List Blk) : ∀ (l : List Nat) (fl : List Bool), (keepF ks H l fl).length = l.length
  | [], _ => rfl
  | i :: r, [] => by simp [keepF, keepF_len ks H r []]
  | i :: r, b :: l => by simp [keepF, keepF_len ks H r l]
theorem keepF_ok (ks : List Nat) (H : List Blk) : ∀ (l : List Nat) (fl : List Bool), allP (stayP fl (l.map fun i => H.getD i .dead)) → ∀ (j : Nat) (h : j < l.length) (h1 : l[j] < H.length) (h' : j < (keepF ks H l fl).length), RenB (idxK ks) H[l[j]] (keepF ks H l fl)[j]
  | [], _, _, j, h, _, _ => absurd h (by simp)
  | i :: r, [], hp, j, h, h1, h' => by
    cases j with
    | zero =>
      simp only [List.getElem_cons_zero] at h1
      simp only [keepF, List.getElem_cons_zero]
      rw [show H.getD i .dead = H[i] by simp [List.getD_eq_getElem?_getD, h1]]
      exact renBlk_ok _ _
    | succ j =>
      simp only [keepF, List.getElem_cons_succ] at h1 ⊢
      exact keepF_ok ks H r [] (by cases r <;> simp [stayP, allP]) j (by simpa using h) h1 (by simpa [keepF] using h')
  | i :: r, b :: l, hp, j, h, h1, h' => by
    have hp2 : allP (stayP l (r.map fun i => H.getD i .dead)) := by
      simp only [List.map_cons] at hp
      cases hb : H.getD i .dead <;> cases b <;> rw [hb] at hp <;> simp only [stayP] at hp <;> first | exact hp | (rw [allP_cons] at hp; exact hp.2)
    cases j with
    | zero =>
      simp only [List.getElem_cons_zero] at h1
      simp only [keepF, List.getElem_cons_zero]
      have he : H.getD i .dead = H[i] := by simp [List.getD_eq_getElem?_getD, h1]
      cases b with
      | false => simp only [keepBlk, cond_false]; rw [he]; exact renBlk_ok _ _
      | true =>
        simp only [keepBlk, cond_true]
        rw [List.map_cons, he] at hp
        rw [he]
        generalize H[i] = B at hp
        cases B with
        | dead => trivial
        | row t xs => simp only [stayP] at hp; rw [allP_cons] at hp; exact ⟨rfl, Or.inl ⟨rfl, hp.1⟩⟩
        | map kv => simp only [stayP] at hp; rw [allP_cons] at hp; exact map_plain hp.1
        | iter s n => exact ⟨rfl, rfl⟩
    | succ j =>
      simp only [keepF, List.getElem_cons_succ] at h1 ⊢
      exact keepF_ok ks H r l hp2 j (by simpa using h) h1 (by simpa [keepF] using h')
def Pl.place (p : Pl) (ks : List (Option Nat)) : Pl := ⟨ks.length, fun j => match ks[j]? with | some (some i) => p.at_ i | _ => none, p.x⟩
def idxP (ks : List (Option Nat)) (id : Nat) : Option Nat := ks.findIdx? fun q => match q with | some i => i.beq id | none => false
def placeB (n0 n : Nat) (ks : List (Option Nat)) : Bool := Nat.ble n0 ks.length && (List.range ks.length).all fun i => match ks[i]? with
  | some (some a) => (match idxP ks a with | some j => j.beq i | none => false) && (Nat.blt a n && (!Nat.blt i n0 || a.beq i))
  | _ => true
theorem idxP_spec {ks : List (Option Nat)} {id j : Nat} (h : idxP ks id = some j) : ks[j]? = some (some id) := by
  unfold idxP at h
  rw [List.findIdx?_eq_some_iff_getElem] at h
  obtain ⟨h1, h2, _⟩ := h
  rw [List.getElem?_eq_getElem h1]
  split at h2
  · rename_i i hi; rw [hi, Nat.eq_of_beq_eq_true h2]
  · cases h2
theorem placeB_ok {n0 n : Nat} {ks : List (Option Nat)} (h : placeB n0 n ks = true) : n0 ≤ ks.length ∧ ∀ i a, ks[i]? = some (some a) → idxP ks a = some i ∧ a < n ∧ (i < n0 → a = i) := by
  simp only [placeB, Bool.and_eq_true, Nat.ble_eq, List.all_eq_true] at h
  refine ⟨h.1, fun i a hi => ?_⟩
  have h1 := h.2 i (List.mem_range.2 (List.getElem?_eq_some_iff.1 hi).1)
  rw [hi] at h1
  simp only [Bool.and_eq_true, Bool.or_eq_true, Bool.not_eq_true', Nat.blt_eq] at h1
  obtain ⟨h2, h3, h4⟩ := h1
  refine ⟨?_, h3, fun hlt => ?_⟩
  · split at h2
    · rename_i j hj; rw [hj, Nat.eq_of_beq_eq_true h2]
    · cases h2
  · rcases h4 with h4 | h4
    · rw [← Bool.not_eq_true, Nat.blt_eq] at h4; exact absurd hlt h4
    · exact Nat.eq_of_beq_eq_true h4
def placeF (ks : List (Option Nat)) (H : List Blk) : List (Option Nat) → List Bool → List Blk
  | [], _ => []
  | none :: r, fl => .dead :: placeF ks H r fl.tail
  | some i :: r, fl => keepBlk (idxP ks) (fl.headD false) (H.getD i .dead) :: placeF ks H r fl.tail
theorem placeF_len (ks : List (Option Nat)) (H : List Blk) : ∀ (l : List (Option Nat)) (fl : List Bool), (placeF ks H l fl).length = l.length
  | [], _ => rfl
  | none :: r, fl => by simp [placeF, placeF_len ks H r]
  | some i :: r, fl => by simp [placeF, placeF_len ks H r]
def stayQ (H : List Blk) : List (Option Nat) → List Bool → List Prop
  | some i :: r, true :: l => (match H.getD i .dead with | .row _ xs => [∀ x ∈ xs, noid0 x = true] | .map kv => [∀ q ∈ kv, plain1 q.1 = true ∧ plain1 q.2 = true] | _ => []) ++ stayQ H r l
  | _ :: r, _ :: l => stayQ H r l
  | _, _ => []
theorem keepBlk_ok {f : Nat → Option Nat} {fl : Bool} {b : Blk} (h : fl = true → allP (match b with | .row _ xs => [∀ x ∈ xs, noid0 x = true] | .map kv => [∀ q ∈ kv, plain1 q.1 = true ∧ plain1 q.2 = true] | _ => [])) : RenB f b (keepBlk f fl b) := by
  cases fl with
  | false => exact renBlk_ok f b
  | true =>
    have h := h rfl
    cases b with
    | dead => trivial
    | row t xs => exact ⟨rfl, Or.inl ⟨rfl, h⟩⟩
    | map kv => exact map_plain h
    | iter s n => exact ⟨rfl, rfl⟩
theorem placeF_at (ks : List (Option Nat)) (H : List Blk) : ∀ (l : List (Option Nat)) (fl : List Bool) (j : Nat), (l[j]? = some none → (placeF ks H l fl)[j]? = some .dead) ∧ ∀ i, l[j]? = some (some i) → ∃ b, (placeF ks H l fl)[j]? = some b ∧ (allP (stayQ H l fl) → RenB (idxP ks) (H.getD i .dead) b)
  | [], _, j => ⟨fun h => by simp at h, fun i h => by simp at h⟩
  | q :: r, fl, 0 => by
    refine ⟨fun h => ?_, fun i h => ?_⟩
    · simp only [List.getElem?_cons_zero, Option.some.injEq] at h; subst h; rfl
    · simp only [List.getElem?_cons_zero, Option.some.injEq] at h
      subst h
      refine ⟨_, rfl, fun hs => keepBlk_ok fun hf => ?_⟩
      cases fl with
      | nil => cases hf
      | cons b l =>
        simp only [List.headD_cons] at hf
        subst hf
        simp only [stayQ] at hs
        rw [allP_append] at hs
        exact hs.1
  | q :: r, fl, j + 1 => by
    have ih := placeF_at ks H r fl.tail j
    have e : (placeF ks H (q :: r) fl)[j + 1]? = (placeF ks H r fl.tail)[j]? := by cases q <;> simp [placeF]
    rw [e]
    simp only [List.getElem?_cons_succ]
    refine ⟨ih.1, fun i h => ?_⟩
    obtain ⟨b, h1, h2⟩ := ih.2 i h
    refine ⟨b, h1, fun hs => h2 ?_⟩
    cases fl with
    | nil => cases r with
      | nil => trivial
      | cons q' r' => simp [stayQ, allP]
    | cons b' l =>
      simp only [List.tail_cons]
      cases q with
      | none => exact hs
      | some i' =>
        cases b' with
        | false => exact hs
        | true => simp only [stayQ] at hs; rw [allP_append] at hs; exact hs.2
theorem place_ok {p0 p : Pl} {w0 w : World} {H : List Blk} {ks : List (Option Nat)} {fl : List Bool} (hS : Step p0 w0 p w) (hH : RH p H w) (hk : placeB p0.n H.length ks = true) (hst : allP (stayQ H ks fl)) : RH (p.place ks) (placeF ks H ks fl) w ∧ Step p0 w0 (p.place ks) w ∧ Emb (idxP ks) p (p.place ks) := by
  obtain ⟨hn, hks⟩ := placeB_ok hk
  have hat : ∀ j q, (p.place ks).at_ j = some q → ∃ i, ks[j]? = some (some i) ∧ p.at_ i = some q := fun j q h => by
    simp only [Pl.place] at h
    split at h
    · rename_i i hi; exact ⟨i, hi, h⟩
    · cases h
  have hown : ∀ g, (p.place ks).own g → p.own g := fun g ⟨j, hj⟩ => by
    obtain ⟨i, _, hi⟩ := hat j _ hj
    exact ⟨i, hi⟩
  have hE : Emb (idxP ks) p (p.place ks) := by
    refine ⟨fun id j hf hid => ?_, fun g hg => hg.imp (hown g) id⟩
    have h := idxP_spec hf
    refine ⟨(List.getElem?_eq_some_iff.1 h).1, fun q hq => ?_⟩
    simp only [Pl.place, h] at hq
    exact hq
  refine ⟨⟨(placeF_len _ _ _ _).symm, fun id hid => ?_, fun i j g hi hj => ?_, fun id hid => ?_, fun g hg => ⟨(hH.xs g hg).1, fun ho => (hH.xs g hg).2 (hown g ho)⟩⟩, ⟨hS.os, hS.tape, hS.output, hS.size, hn, fun id q hid hq => ?_, fun g hg hm => hS.old g hg (hown g hm), hS.froz, hS.x⟩, hE⟩
  · simp only [Pl.place] at hid ⊢
    rw [List.getElem?_eq_none hid]
  · obtain ⟨a, ha, ha2⟩ := hat i _ hi
    obtain ⟨b, hb, hb2⟩ := hat j _ hj
    have := hH.inj _ _ _ ha2 hb2
    subst this
    have h1 := (hks i a ha).1
    rw [(hks j a hb).1] at h1
    cases h1; rfl
  · have hl : id < ks.length := by rw [placeF_len] at hid; exact hid
    have hq := placeF_at ks H ks fl id
    have hg : (placeF ks H ks fl)[id]? = some (placeF ks H ks fl)[id] := List.getElem?_eq_getElem hid
    cases hkid : ks[id]? with
    | none => rw [List.getElem?_eq_none_iff] at hkid; omega
    | some q =>
      cases q with
      | none =>
        have := hq.1 hkid
        rw [hg] at this
        cases this' : (placeF ks H ks fl)[id] <;> rw [this'] at this <;> cases this
        simp only [BlkIs, Pl.place, hkid]
      | some i =>
        obtain ⟨b, h1, h2⟩ := hq.2 i hkid
        rw [hg] at h1
        cases h1
        have hi : i < H.length := (hks id i hkid).2.1
        have he : H.getD i .dead = H[i] := by simp [List.getD_eq_getElem?_getD, hi]
        have h3 := h2 hst
        rw [he] at h3
        exact (hH.blk i hi).ren hE (by simp only [Pl.place, hkid]) h3
  · obtain ⟨i, hi, hi2⟩ := hat id _ hq
    have := (hks id i hi).2.2 hid
    subst this
    exact hS.keep _ q hid hi2
def preE (n0 : Nat) : Pre → St → Option (List Prop × St)
  | .sel ks, s => some ([], selS ks s)
  | .tm i x, s => some ([s.t.getD i .junk = x], ⟨s.t.set i x, s.H⟩)
  | .tw i x, s => some ([∀ (p : Pl) (w : World) (v : Value), Rep p w v (s.t.getD i .junk) → Rep p w v x], ⟨s.t.set i x, s.H⟩)
  | .hp id b, s => some ([s.H[id]? = some b], ⟨s.t, s.H.set id b⟩)
  | .frz i, s => match s.t[i]? with
    | some (.sl id st len sz) => match s.H[id]? with
      | some (.row _ xs) => some ([∀ x ∈ xs, noid0 x = true ∧ x ≠ .junk, st + len * sz ≤ xs.length], ⟨s.t.set i (.slv len sz ((xs.drop st).take (len * sz))), s.H.set id .dead⟩)
      | _ => none
    | _ => none
  | .keep ks fl, s => some (dec (keepB n0 ks s.H) ++ stayP fl (ks.map fun i => s.H.getD i .dead), ⟨s.t.map (ren (idxK ks)), keepF ks s.H ks fl⟩)
  | .own i t sz, s => match s.t[i]? with
    | some .nilsl => some (dec (Nat.blt 0 sz), ⟨s.t.set i (.sl s.H.length 0 0 sz), s.H ++ [.row t []]⟩)
    | _ => none
  | .flags _ _, s => some ([], s)
  | .cut id n, s => match s.H[id]? with
    | some (.row t xs) => some ([], ⟨s.t, s.H.set id (.row t (xs.take n))⟩)
    | _ => none
  | .ownc id i t sz, s => match s.H[id]? with
    | some (.row T xs) => match xs[i]? with
      | some .nilsl => some (dec (Nat.blt 0 sz), ⟨s.t, (s.H ++ [Blk.row t []]).set id (.row T (xs.set i (.sl s.H.length 0 0 sz)))⟩)
      | _ => none
    | _ => none
  | .frzc id i, s => match s.H[id]? with
    | some (.row T xs) => match xs[i]? with
      | some (.sl j st len sz) => match s.H[j]? with
        | some (.row _ ys) => some (dec (!id.beq j) ++ [∀ x ∈ ys, noid0 x = true ∧ x ≠ .junk, st + len * sz ≤ ys.length], ⟨s.t, (s.H.set j .dead).set id (.row T (xs.set i (.slv len sz ((ys.drop st).take (len * sz)))))⟩)
        | _ => none
      | _ => none
    | _ => none
  | .place ks fl, s => some (dec (placeB n0 s.H.length ks) ++ stayQ s.H ks fl, ⟨s.t.map (ren (idxP ks)), placeF ks s.H ks fl⟩)
theorem preE_ok {n0 : Nat} {d : Pre} {s s' : St} {C : List Prop} (h : preE n0 d s = some (C, s')) (hC : allP C) : Wkn n0 s s' := by
  unfold preE at h
  split at h
  · cases h; exact fun p0 w0 p a w hn hS hR => ⟨p, hR.sel _, hS⟩
  · cases h
    exact fun p0 w0 p a w hn hS hR => ⟨p, hR.set _ _ fun v hv => by rw [← hC]; exact hv, hS⟩
  · cases h
    exact fun p0 w0 p a w hn hS hR => ⟨p, hR.set _ _ fun v hv => hC p w v hv, hS⟩
  · rename_i id b
    cases h
    have e : s.H.set id b = s.H := by
      obtain ⟨h1, h2⟩ := List.getElem?_eq_some_iff.1 (show s.H[id]? = some b from hC)
      rw [← h2]
      exact List.set_getElem_self h1
    rw [e]
    exact Wkn.refl _ _
  · split at h
    · rename_i id st len sz hi
      split at h
      · rename_i t xs hb
        cases h
        exact fun p0 w0 p a w hn hS hR => by
          obtain ⟨p', h1, h2⟩ := hR.freeze _ id st len sz t xs hi hb hC.1 hC.2
          exact ⟨p', h1, hS.trans h2⟩
      · cases h
    · cases h
  · rename_i ks fl
    cases h
    rw [allP_append, allP_dec] at hC
    exact fun p0 w0 p a w hn hS hR => by
      have hk0 := keepB_ok hC.1
      have hk : KeepOK p0.n ks s.H (keepF ks s.H ks fl) := ⟨hk0.nodup, hk0.lt, by rw [hn]; exact hk0.n0le, fun j hj => hk0.pre j (by rw [← hn]; exact hj), keepF_len _ _ _ _, fun j h1 h2 h3 => keepF_ok ks s.H ks fl hC.2 j h1 h2 h3⟩
      obtain ⟨k1, k2, k3⟩ := keep_ok hS hR.heap hk
      exact ⟨_, ⟨hR.defers, renT_rep k3 hR.reps (renT_map _ _), k1⟩, k2⟩
  · rename_i i t sz
    split at h
    · rename_i hi
      cases h
      rw [allP_dec, Nat.blt_eq] at hC
      exact fun p0 w0 p a w hn hS hR => by
        obtain ⟨p', h1, h2, h3, h4⟩ := own_nil hR.heap t
        refine ⟨p', ?_, hS.trans h2⟩
        have hR' : Rst p' ⟨s.t, s.H ++ [.row t []]⟩ a w := hR.step h2 h1
        refine hR'.set i (.sl s.H.length 0 0 sz) fun v hv => ?_
        have hv' : Rep p' w v .nilsl := by
          have e : s.t.getD i .junk = .nilsl := by rw [List.getD_eq_getElem?_getD, hi]; rfl
          rw [show (St.mk s.t (s.H ++ [.row t []])).t.getD i .junk = .nilsl from e] at hv
          exact hv
        rw [rep_nilsl hv']
        exact ⟨by omega, fun q hq => by rw [h4 q hq]; exact ⟨none, 0, rfl, Nat.le_refl _, Nat.zero_le _, hC, fun _ => rfl, Or.inl rfl⟩⟩
    · cases h
  · cases h; exact Wkn.refl _ _
  · rename_i id n
    split at h
    · rename_i t xs hb
      cases h
      exact fun p0 w0 p a w hn hS hR => ⟨p, ⟨hR.defers, hR.reps, cut_ok hR.heap hb n⟩, hS⟩
    · cases h
  · rename_i id i t sz
    split at h
    · rename_i T xs hb
      split at h
      · rename_i hx
        cases h
        rw [allP_dec, Nat.blt_eq] at hC
        exact fun p0 w0 p a w hn hS hR => by
          obtain ⟨p', h1, h2, h3, h4⟩ := own_nil hR.heap t
          have hb' : (s.H ++ [.row t []])[id]? = some (.row T xs) := by
            rw [List.getElem?_append_left (List.getElem?_eq_some_iff.1 hb).1]; exact hb
          refine ⟨p', ⟨hR.defers, (hR.step h2 h1 : Rst p' ⟨s.t, s.H ++ [.row t []]⟩ a w).reps, cell_ok h1 hb' hx fun v hv => ?_⟩, hS.trans h2⟩
          have hv' : RepF p'.M w v .nilsl := hv
          cases hv'
          exact ⟨by omega, fun q hq => by rw [h4 q hq]; exact ⟨none, 0, rfl, Nat.le_refl _, Nat.zero_le _, hC, fun _ => rfl, Or.inl rfl⟩⟩
      · cases h
    · cases h
  · rename_i id i
    split at h
    · rename_i T xs hb
      split at h
      · rename_i j st len sz hi
        split at h
        · rename_i t ys hj
          cases h
          rw [allP_append, allP_dec] at hC
          obtain ⟨c1, c2, c3⟩ := hC
          exact fun p0 w0 p a w hn hS hR => by
            obtain ⟨p', k1, k2⟩ := cell_frz hR.heap hb hi hj (fun he => by subst he; simp at c1) c2 c3
            exact ⟨p', hR.step k2 k1, hS.trans k2⟩
        · cases h
      · cases h
    · cases h
  · rename_i ks fl
    cases h
    rw [allP_append, allP_dec] at hC
    exact fun p0 w0 p a w hn hS hR => by
      obtain ⟨k1, k2, k3⟩ := place_ok hS hR.heap (by rw [hn]; exact hC.1) hC.2
      exact ⟨_, ⟨hR.defers, renT_rep k3 hR.reps (renT_map _ _), k1⟩, k2⟩
def preL (n0 : Nat) : List Pre → St → Option (List Prop × St)
  | [], s => some ([], s)
  | d :: r, s => match preE n0 d s with
    | some (C, s1) => match preL n0 r s1 with
      | some (D, s2) => some (C ++ D, s2)
      | none => none
    | none => none
theorem preL_ok {n0 : Nat} : ∀ {l : List Pre} {s s' : St} {C : List Prop}, preL n0 l s = some (C, s') → allP C → Wkn n0 s s'
  | [], s, s', C, h, hC => by cases h; exact Wkn.refl _ _
  | d :: r, s, s', C, h, hC => by
    unfold preL at h
    split at h
    · rename_i C1 s1 h1
      split at h
      · rename_i D s2 h2
        cases h
        rw [allP_append] at hC
        exact (preE_ok h1 hC.1).trans (preL_ok h2 hC.2)
      · cases h
    · cases h

def Reads1 (H : List Blk) (x y : AV) : Prop := ∀ (p p1 : Pl) (w : World) (v : Value), RH p H w → Lends (fun _ => true) p p1 → Rep p w v x → Rep p1 w v y
theorem Reads.nil {H : List Blk} : Reads H [] [] := fun p p1 w vs hH hL h => by
  cases vs with
  | nil => exact RepL.nil
  | cons _ _ => exact absurd h.1 (by simp)
theorem Reads.cons {H : List Blk} {x y : AV} {l l' : List AV} (h : Reads1 H x y) (k : Reads H l l') : Reads H (x :: l) (y :: l') := fun p p1 w vs hH hL hv => by
  cases vs with
  | nil => exact absurd hv.1 (by simp)
  | cons v vs => exact RepL.cons (h p p1 w v hH hL (hv.2 0 (by simp) (by simp))) (k p p1 w vs hH hL ⟨by simpa using hv.1, fun i a b => by have := hv.2 (i + 1) (by simpa using a) (by simpa using b); simpa using this⟩)
theorem drop_hd {a o : Nat} {xs ys : List AV} {v : AV} (h : xs.drop a = ys) (k : (ys.drop o).headD .junk = v) : (xs.drop (a + o)).headD .junk = v := by rw [← k, ← h, List.drop_drop]
theorem drop_hd0 {a : Nat} {xs ys : List AV} {v : AV} (h : xs.drop a = ys) (k : ys.headD .junk = v) : (xs.drop a).headD .junk = v := by rw [← k, ← h]
theorem drop_le {a o n : Nat} {xs ys : List AV} (h : xs.drop a = ys) (k : n ≤ (ys.drop o).length) : n ≤ (xs.drop (a + o)).length := by rw [← h, List.drop_drop] at k; exact k
theorem drop_le0 {a n : Nat} {xs ys : List AV} (h : xs.drop a = ys) (k : n ≤ ys.length) : n ≤ (xs.drop a).length := by rw [← h] at k; exact k
/-- an own slice without elements: nil, or not -/
theorem GoV.nilor {P : Program} {n0 : Nat} {c : Code} {Q : Exit → St → Prop} {s : St} (i : Nat) {id st sz : Nat} {t : TypeId} {xs : List AV} (hi : s.t[i]? = some (.sl id st 0 sz)) (hb : s.H[id]? = some (.row t xs)) (h1 : GoV P n0 c Q ⟨s.t.set i .nilsl, s.H⟩) (h2 : GoV P n0 c Q ⟨s.t.set i (.slc id st 0 1 sz), s.H⟩) : GoV P n0 c Q s := fun p0 w0 p w a Qr hn hS hR hQ => by
  have hit : i < a.tmps.toList.length := by rw [hR.reps.1]; exact (List.getElem?_eq_some_iff.1 hi).1
  have hgi : s.t[i]'(by rw [← hR.reps.1]; exact hit) = .sl id st 0 sz := (List.getElem?_eq_some_iff.1 hi).2
  have hv := hR.reps.2 i hit (by rw [← hR.reps.1]; exact hit)
  rw [hgi] at hv
  obtain ⟨q, hq⟩ := hR.heap.live hb
  obtain ⟨ad, cap, e1, e2, e3, e4, e5, e6⟩ := hv.2 q hq
  have hset : ∀ x, Rep p w a.tmps.toList[i] x → Rst p ⟨s.t.set i x, s.H⟩ a w := fun x hx => ⟨hR.defers, ⟨by rw [List.length_set]; exact hR.reps.1, fun j j1 j2 => by
    rw [List.getElem_set]
    split
    · rename_i he; subst he; exact hx
    · exact hR.reps.2 j j1 (by rw [List.length_set] at j2; exact j2)⟩, hR.heap⟩
  cases ad with
  | none =>
    have hc0 := e5 rfl
    subst hc0
    exact h1 p0 w0 p w a Qr hn hS (hset _ (by rw [e1]; exact RepF.rep .nilsl)) hQ
  | some ad => exact h2 p0 w0 p w a Qr hn hS (hset _ ⟨hv.1, fun q' hq' => by rw [hq] at hq'; cases hq'; exact ⟨_, _, e1, e2, e3, e4, e5, e6, fun _ => ⟨fun hh => (by cases hh), by omega⟩⟩⟩) hQ
theorem Reads1.val {H : List Blk} {x y : AV} (h : val1 (fun _ => true) H 100 x = some y) : Reads1 H x y := fun p p1 w v hH hL hv => val1_rep hH hL 100 x y v h hv
theorem Reads1.sl {H : List Blk} {id st len sz : Nat} {cs : List AV} {t : TypeId} {xs : List AV} (hb : H[id]? = some (.row t xs)) (hn : ∀ x ∈ xs, noid0 x = true ∧ x ≠ .junk) (hl : st + len * sz ≤ xs.length) (hc : (xs.drop st).take (len * sz) = cs) : Reads1 H (.sl id st len sz) (.slv len sz cs) := fun p p1 w v hH hL hv => by
  subst hc
  exact reads_sl hb hn hl hH hL hv
def subF (ks : List Nat) (n j : Nat) : Option Nat := bif Nat.blt j ks.length then ks[j]? else some (n + (j - ks.length))
def mapF (f : Nat → Option Nat) : List Bool → List Blk → List Blk
  | fl, b :: l => keepBlk f (fl.headD false) b :: mapF f fl.tail l
  | _, [] => []
def stayL : List Bool → List Blk → List Prop
  | true :: r, b :: l => (match b with | .row _ xs => [∀ x ∈ xs, noid0 x = true] | .map kv => [∀ q ∈ kv, plain1 q.1 = true ∧ plain1 q.2 = true] | _ => []) ++ stayL r l
  | _ :: r, _ :: l => stayL r l
  | _, _ => []
theorem mapF_at (f : Nat → Option Nat) : ∀ (l : List Blk) (fl : List Bool), allP (stayL fl l) → (mapF f fl l).length = l.length ∧ ∀ (j : Nat) b, l[j]? = some b → ∃ b', (mapF f fl l)[j]? = some b' ∧ RenB f b b'
  | [], fl, _ => ⟨rfl, fun j b h => by simp at h⟩
  | x :: l, fl, hs => by
    have hs2 : allP (stayL fl.tail l) := by
      cases fl with
      | nil => cases l <;> simp [stayL, allP]
      | cons b r =>
        cases b with
        | false => exact hs
        | true => simp only [stayL] at hs; rw [allP_append] at hs; exact hs.2
    obtain ⟨e1, e2⟩ := mapF_at f l fl.tail hs2
    refine ⟨by simp [mapF, e1], fun j b h => ?_⟩
    cases j with
    | zero =>
      simp only [List.getElem?_cons_zero, Option.some.injEq] at h
      subst h
      refine ⟨_, rfl, keepBlk_ok fun hf => ?_⟩
      cases fl with
      | nil => cases hf
      | cons b r =>
        simp only [List.headD_cons] at hf
        subst hf
        simp only [stayL] at hs
        rw [allP_append] at hs
        exact hs.1
    | succ j => exact e2 j b (by simpa using h)
/-- the heap behind: the blocks that were handed in their old places, the new ones at the end -/
def setAll : List Nat → List Blk → List Blk → List Blk
  | i :: r, b :: l, H => setAll r l (H.set i b)
  | _, _, H => H
theorem setAll_len : ∀ (ks : List Nat) (Bs H : List Blk), (setAll ks Bs H).length = H.length
  | [], _, _ => rfl
  | _ :: _, [], _ => rfl
  | i :: r, b :: l, H => by rw [setAll, setAll_len r l]; simp
theorem setAll_other : ∀ (ks : List Nat) (Bs H : List Blk) (id : Nat), id ∉ ks → (setAll ks Bs H)[id]? = H[id]?
  | [], _, _, _, _ => rfl
  | _ :: _, [], _, _, _ => rfl
  | i :: r, b :: l, H, id, h => by
    simp only [List.mem_cons, not_or] at h
    rw [setAll, setAll_other r l _ id h.2, List.getElem?_set_ne (fun e => h.1 e.symm)]
theorem setAll_at : ∀ (ks : List Nat) (Bs H : List Blk) (j i : Nat), ks.Nodup → (∀ i ∈ ks, i < H.length) → ks[j]? = some i → ∀ b, Bs[j]? = some b → (setAll ks Bs H)[i]? = some b
  | [], _, _, _, _, _, _, h, _, _ => by simp at h
  | _ :: _, [], _, _, _, _, _, _, _, h => by simp at h
  | k :: r, b :: l, H, j, i, hnd, hlt, h, b', h' => by
    rw [List.nodup_cons] at hnd
    rw [setAll]
    cases j with
    | zero =>
      simp only [List.getElem?_cons_zero, Option.some.injEq] at h h'
      subst h h'
      rw [setAll_other r l _ _ hnd.1, List.getElem?_set_self (hlt _ (by simp))]
    | succ j => exact setAll_at r l _ j i hnd.2 (fun i hi => by rw [List.length_set]; exact hlt i (by simp [hi])) (by simpa using h) b' (by simpa using h')
theorem CallsV.sub {P : Program} {f : FuncId} {args : List AV} {ks : List Nat} {fl fl2 : List Bool} {H : List Blk} {av : AV} {H1 : List Blk}
    (h : CallsV P f (args.map (ren (idxK ks))) (keepF ks H ks fl) fun a b => a = av ∧ b = H1) (hk : keepB 0 ks H = true) (hst : allP (stayP fl (ks.map fun i => H.getD i .dead))) (hst2 : allP (stayL fl2 H1)) (hlen : ks.length ≤ H1.length)
    {p : Pl} {w : World} {vals : Array Value} (hH : RH p H w) (hv : RepL (Rep p w) vals.toList args) :
    Calls P f vals w fun e w' => ∃ v p', e = .returned v ∧ RH p' (setAll ks (mapF (subF ks H.length) fl2 H1) H ++ (mapF (subF ks H.length) fl2 H1).drop ks.length) w' ∧ Rep p' w' v (ren (subF ks H.length) av) ∧ Step p w p' w' := by
  have hk0 := keepB_ok hk
  have hpn : p.n = H.length := hH.n
  have hklt : ∀ i ∈ ks, i < p.n := fun i hi => by rw [hpn]; exact hk0.lt i hi
  -- the places that the call sees
  let fr : Nat → Prop := fun g => ∃ id, id ∉ ks ∧ p.at_ id = some (some g)
  let p1 : Pl := ⟨ks.length, fun j => match ks[j]? with | some i => p.at_ i | none => none, fun g => p.x g ∨ fr g⟩
  have hat1 : ∀ j q, p1.at_ j = some q → ∃ i, ks[j]? = some i ∧ p.at_ i = some q := fun j q hj => by
    simp only [p1] at hj
    split at hj
    · rename_i i hi; exact ⟨i, hi, hj⟩
    · cases hj
  have hown1 : ∀ g, p1.own g → p.own g := fun g ⟨j, hj⟩ => by
    obtain ⟨i, _, hi⟩ := hat1 j _ hj
    exact ⟨i, hi⟩
  have hfr1 : ∀ g, fr g → ¬ p1.own g := fun g ⟨id, h1, h2⟩ ⟨j, hj⟩ => by
    obtain ⟨i, hi, hi2⟩ := hat1 j _ hj
    have := hH.inj _ _ _ h2 hi2
    subst this
    exact h1 (List.mem_of_getElem? hi)
  have hfrlt : ∀ g, fr g → g < w.heap.size := fun g ⟨id, _, h2⟩ => hH.lt g ⟨id, h2⟩
  have hM1 : ∀ g, p1.M g → p.M g := fun g hg => by
    rcases hg with hg | hg | ⟨id, _, hg⟩
    · exact Or.inl (hown1 g hg)
    · exact Or.inr hg
    · exact Or.inl ⟨id, hg⟩
  have hE1 : Emb (idxK ks) p p1 := ⟨fun id j hf hid => by
    have h1 := idxK_spec hf
    refine ⟨(List.getElem?_eq_some_iff.1 h1).1, fun q hq => ?_⟩
    simp only [p1, h1] at hq
    exact hq, hM1⟩
  have hnd := hk0.nodup
  have hH1 : RH p1 (keepF ks H ks fl) w := by
    refine ⟨(keepF_len _ _ _ _).symm, fun id hid => ?_, fun i j g hi hj => ?_, fun id hid => ?_, fun g hg => ⟨?_, fun ho => ?_⟩⟩
    · simp only [p1] at hid ⊢
      rw [List.getElem?_eq_none hid]
    · obtain ⟨a, ha, ha2⟩ := hat1 i _ hi
      obtain ⟨b, hb, hb2⟩ := hat1 j _ hj
      have := hH.inj _ _ _ ha2 hb2
      subst this
      obtain ⟨l1, e1⟩ := List.getElem?_eq_some_iff.1 ha
      obtain ⟨l2, e2⟩ := List.getElem?_eq_some_iff.1 hb
      have hpw := List.pairwise_iff_getElem.1 hnd
      rcases Nat.lt_trichotomy i j with h3 | h3 | h3
      · exact (hpw i j l1 l2 h3 (e1.trans e2.symm)).elim
      · exact h3
      · exact (hpw j i l2 l1 h3 (e2.trans e1.symm)).elim
    · have hl : id < ks.length := by rw [keepF_len] at hid; exact hid
      have hm : ks[id] < H.length := hk0.lt _ (List.getElem_mem hl)
      refine (hH.blk ks[id] hm).ren hE1 ?_ (keepF_ok ks H ks fl hst id hl hm hid)
      simp only [p1, List.getElem?_eq_getElem hl]
    · rcases hg with hg | hg
      · exact (hH.xs g hg).1
      · exact hfrlt g hg
    · rcases hg with hg | hg
      · exact (hH.xs g hg).2 (hown1 g ho)
      · exact hfr1 g hg ho
  have hv1 : RepL (Rep p1 w) vals.toList (args.map (ren (idxK ks))) := renT_rep hE1 hv (renT_map _ _)
  refine (h p1 w vals hH1 hv1).mono ?_
  rintro e w' ⟨v, a1, b1, q, rfl, ⟨e1, e2⟩, hHq, hrep, hS⟩
  subst e1 e2
  obtain ⟨m1, m2⟩ := mapF_at (subF ks H.length) b1 fl2 hst2
  have hqn : q.n = b1.length := hHq.n
  -- the places behind
  let p' : Pl := ⟨p.n + (q.n - ks.length), fun id => if id < p.n then (match idxK ks id with | some j => q.at_ j | none => p.at_ id) else q.at_ (ks.length + (id - p.n)), p.x⟩
  have hidx : ∀ id j, idxK ks id = some j → ks[j]? = some id := fun id j hj => idxK_spec hj
  have hidxN : ∀ id, idxK ks id = none → id ∉ ks := fun id hn hm => by
    unfold idxK at hn
    rw [List.idxOf?, List.findIdx?_eq_none_iff] at hn
    have := hn id hm
    simp at this
  have hidxS : ∀ id, id ∈ ks → ∃ j, idxK ks id = some j := fun id hm => by
    cases hc : idxK ks id with
    | some j => exact ⟨j, rfl⟩
    | none => exact absurd hm (hidxN id hc)
  have hcase : ∀ id g, p'.at_ id = some (some g) → (∃ j, q.at_ j = some (some g) ∧ ((id < p.n ∧ ks[j]? = some id) ∨ (p.n ≤ id ∧ j = ks.length + (id - p.n)))) ∨ (id < p.n ∧ id ∉ ks ∧ p.at_ id = some (some g)) := fun id g hid => by
    simp only [p'] at hid
    split at hid
    · rename_i hlt
      split at hid
      · rename_i j hj; exact Or.inl ⟨j, hid, Or.inl ⟨hlt, hidx id j hj⟩⟩
      · rename_i hn; exact Or.inr ⟨hlt, hidxN id hn, hid⟩
    · rename_i hlt; exact Or.inl ⟨_, hid, Or.inr ⟨by omega, rfl⟩⟩
  have hqown : ∀ g, q.own g → p.own g ∨ w.heap.size ≤ g := fun g hg => by
    rcases Nat.lt_or_ge g w.heap.size with h1 | h1
    · exact Or.inl (hown1 g (hS.old g h1 hg))
    · exact Or.inr h1
  have hqfr : ∀ g, fr g → ¬ q.own g := fun g hg ho => hfr1 g hg (hS.old g (hfrlt g hg) ho)
  have hown' : ∀ g, p'.own g → q.own g ∨ fr g := fun g ⟨id, hid⟩ => by
    rcases hcase id g hid with ⟨j, hj, _⟩ | ⟨_, h2, h3⟩
    · exact Or.inl ⟨j, hj⟩
    · exact Or.inr ⟨id, h2, h3⟩
  have hE : Emb (subF ks H.length) q p' := by
    refine ⟨fun j id hf hj => ?_, fun g hg => ?_⟩
    · unfold subF at hf
      rw [cond_eq_ite] at hf
      split at hf
      · rename_i hlt
        rw [Nat.blt_eq] at hlt
        have hm : id ∈ ks := List.mem_of_getElem? hf
        have hid := hklt id hm
        refine ⟨by simp only [p']; omega, fun q0 hq0 => ?_⟩
        simp only [p'] at hq0
        rw [if_pos hid] at hq0
        obtain ⟨j2, hj2⟩ := hidxS id hm
        rw [hj2] at hq0
        simp only at hq0
        have hjj : j2 = j := by
          have h1 := hidx id j2 hj2
          obtain ⟨l1, e1⟩ := List.getElem?_eq_some_iff.1 h1
          obtain ⟨l2, e2⟩ := List.getElem?_eq_some_iff.1 hf
          have hpw := List.pairwise_iff_getElem.1 hnd
          rcases Nat.lt_trichotomy j2 j with h3 | h3 | h3
          · exact (hpw j2 j l1 l2 h3 (e1.trans e2.symm)).elim
          · exact h3
          · exact (hpw j j2 l2 l1 h3 (e2.trans e1.symm)).elim
        rw [hjj] at hq0
        exact hq0
      · rename_i hlt
        rw [Nat.blt_eq] at hlt
        cases hf
        refine ⟨by simp only [p']; omega, fun q0 hq0 => ?_⟩
        simp only [p'] at hq0
        rw [if_neg (by omega)] at hq0
        rw [show ks.length + (H.length + (j - ks.length) - p.n) = j by omega] at hq0
        exact hq0
    · rcases hg with hg | hg
      · rcases hown' g hg with h1 | h1
        · exact Or.inl h1
        · exact Or.inr (hS.x ▸ Or.inr h1)
      · exact Or.inr (hS.x ▸ Or.inl hg)
  have hst' : Step p w p' w' := by
    refine ⟨hS.os, hS.tape, hS.output, hS.size, by simp [p'], fun id q0 hid hq0 => ?_, fun g hg ho => ?_, fun g hg ho => hS.froz g hg fun h1 => ho (hown1 g h1), rfl⟩
    · simp only [p'] at hq0
      rw [if_pos hid] at hq0
      split at hq0
      · rename_i j hj
        have h1 := hidx id j hj
        have hjl : j < p1.n := (List.getElem?_eq_some_iff.1 h1).1
        obtain ⟨h2, h3⟩ := hS.keep j q0 hjl hq0
        simp only [p1, h1] at h2
        exact ⟨h2, h3⟩
      · rename_i hn
        refine ⟨hq0, fun g hg => ?_⟩
        subst hg
        unfold rowSize
        rw [hS.froz g (hH.lt g ⟨id, hq0⟩) (hfr1 g ⟨id, hidxN id hn, hq0⟩)]
    · rcases hown' g ho with h1 | ⟨id, _, h1⟩
      · exact hown1 g (hS.old g hg h1)
      · exact ⟨id, h1⟩
  refine ⟨v, p', rfl, ⟨?_, fun id hid => ?_, fun i j g hi hj => ?_, fun id hid => ?_, fun g hg => ⟨Nat.lt_of_lt_of_le (hH.xs g hg).1 hS.size, fun ho => ?_⟩⟩, hrep.ren hE, hst'⟩
  · simp only [p', List.length_append, setAll_len, List.length_drop, m1]; omega
  · simp only [p'] at hid ⊢
    rw [if_neg (by omega)]
    exact hHq.out _ (by omega)
  · rcases hcase i g hi with ⟨a, ha, ha2⟩ | ⟨a1, a2, a3⟩ <;> rcases hcase j g hj with ⟨b, hb, hb2⟩ | ⟨b1, b2, b3⟩
    · have := hHq.inj _ _ _ ha hb
      subst this
      rcases ha2 with ⟨c1, c2⟩ | ⟨c1, c2⟩ <;> rcases hb2 with ⟨d1, d2⟩ | ⟨d1, d2⟩
      · rw [c2] at d2; cases d2; rfl
      · have := (List.getElem?_eq_some_iff.1 c2).1; omega
      · have := (List.getElem?_eq_some_iff.1 d2).1; omega
      · omega
    · exact (hqfr g ⟨j, b2, b3⟩ ⟨_, ha⟩).elim
    · exact (hqfr g ⟨i, a2, a3⟩ ⟨_, hb⟩).elim
    · exact hH.inj _ _ _ a3 b3
  · have hl : (setAll ks (mapF (subF ks H.length) fl2 b1) H ++ (mapF (subF ks H.length) fl2 b1).drop ks.length)[id]? = some (setAll ks (mapF (subF ks H.length) fl2 b1) H ++ (mapF (subF ks H.length) fl2 b1).drop ks.length)[id] := List.getElem?_eq_getElem hid
    generalize hB : (setAll ks (mapF (subF ks H.length) fl2 b1) H ++ (mapF (subF ks H.length) fl2 b1).drop ks.length)[id] = B at hl
    by_cases hlt : id < H.length
    · rw [List.getElem?_append_left (by rw [setAll_len]; exact hlt)] at hl
      by_cases hm : id ∈ ks
      · obtain ⟨j, hj⟩ := hidxS id hm
        have h1 := hidx id j hj
        have hjk : j < ks.length := (List.getElem?_eq_some_iff.1 h1).1
        obtain ⟨b', h2, h3⟩ := m2 j b1[j] (List.getElem?_eq_getElem (by omega))
        rw [setAll_at ks _ H j id hnd (fun i hi => hk0.lt i hi) h1 b' h2] at hl
        cases hl
        refine (hHq.blk j (by omega)).ren hE ?_ h3
        simp only [p']
        rw [if_pos (by omega), hj]
      · rw [setAll_other _ _ _ _ hm, List.getElem?_eq_getElem hlt] at hl
        cases hl
        have hnone : idxK ks id = none := by
          cases hc : idxK ks id with
          | none => rfl
          | some j => exact absurd (List.mem_of_getElem? (hidx id j hc)) hm
        refine (hH.blk id hlt).step hst' ?_ fun g hg => hS.froz g (hH.lt g ⟨id, hg⟩) (hfr1 g ⟨id, hm, hg⟩)
        simp only [p']
        rw [if_pos (by omega), hnone]
    · rw [List.getElem?_append_right (by rw [setAll_len]; omega), setAll_len, List.getElem?_drop] at hl
      have hjl : ks.length + (id - H.length) < b1.length := by
        simp only [List.length_append, setAll_len, List.length_drop, m1] at hid; omega
      obtain ⟨b', h2, h3⟩ := m2 (ks.length + (id - H.length)) b1[ks.length + (id - H.length)] (List.getElem?_eq_getElem hjl)
      rw [h2] at hl
      cases hl
      refine (hHq.blk _ hjl).ren hE ?_ h3
      simp only [p']
      rw [if_neg (by omega), hpn]
  · rcases hown' g ho with h1 | h1
    · rcases hqown g h1 with h2 | h2
      · exact (hH.xs g hg).2 h2
      · have := (hH.xs g hg).1; omega
    · obtain ⟨id, _, h1⟩ := h1
      exact (hH.xs g hg).2 ⟨id, h1⟩

def dstP (H : List Blk) (e : TypeId) (sz : Nat) : AV → Option (List Prop × Option Nat × Nat × List AV)
  | .nilsl => some ([], none, 0, [])
  | .sl id 0 len sz' => match H[id]? with
    | some (.row e' r) => some (dec (e' == e && sz' == sz) ++ [len * sz ≤ r.length], some id, len, r.take (len * sz))
    | _ => none
  | _ => none
theorem dstP_ok {H : List Blk} {e : TypeId} {sz : Nat} {x : AV} {k : Option Nat} {len : Nat} {xs : List AV} {C : List Prop} (h : dstP H e sz x = some (C, k, len, xs)) (hC : allP C) : IsDst H e sz x k len xs := by
  unfold dstP at h
  split at h
  · cases h; exact Or.inl ⟨rfl, rfl, rfl, rfl⟩
  · rename_i id len' sz'
    split at h
    · rename_i e' r hb
      cases h
      rw [allP_append, allP_dec] at hC
      simp only [Bool.and_eq_true, beq_iff_eq] at hC
      obtain ⟨⟨rfl, rfl⟩, hl⟩ := hC
      exact Or.inr ⟨id, r, rfl, rfl, hb, rfl, hl⟩
    · cases h
  · cases h
def srcP (H : List Blk) (sz : Nat) : AV → Option (List Prop × Nat × List AV)
  | .slv m sz' ys => some (dec (sz' == sz), m, ys)
  | .nilsl => some ([], 0, [])
  | .sl id st m sz' => match H[id]? with
    | some (.row _ r) => some (dec (sz' == sz) ++ [st + m * sz ≤ r.length], m, (r.drop st).take (m * sz))
    | _ => none
  | _ => none
theorem srcP_ok {H : List Blk} {sz : Nat} {y : AV} {m : Nat} {ys : List AV} {C : List Prop} (h : srcP H sz y = some (C, m, ys)) (hC : allP C) : IsSrc H sz y m ys := by
  unfold srcP at h
  split at h
  · cases h
    rw [allP_dec, beq_iff_eq] at hC
    subst hC
    exact Or.inl rfl
  · cases h; exact Or.inr (Or.inl ⟨rfl, rfl, rfl⟩)
  · rename_i id st m' sz'
    split at h
    · rename_i t r hb
      cases h
      rw [allP_append, allP_dec, beq_iff_eq] at hC
      obtain ⟨rfl, hl⟩ := hC
      exact Or.inr (Or.inr ⟨id, st, t, r, rfl, hb, rfl, hl⟩)
    · cases h
  · cases h
abbrev ER := Option (List Prop × AV × List Blk)
/-- what a map says, once it is known where to look -/
def lookF (ok : Bool) (z : AV) (kv : List (AV × AV)) : Option (Option Nat) → AV
  | some (some j) => lookA ok (kv.getD j (.junk, .junk)).2 true
  | some none => lookA ok z false
  | none => .junk
def updF (kv : List (AV × AV)) (k v : AV) : Option (Option Nat) → List (AV × AV)
  | some r => updA kv r k v
  | none => kv
/-- operations that make blocks and turn none -/
def newP (P : Program) (s : St) : Op → ER
  | .box t x => match cellsAV s.H (s.ev x) with
    | some cs => some ([], .ptr s.H.length 0, s.H ++ [.row t cs])
    | none => none
  | .alloc t => match zeroL P t with
    | some cs => some ([], .ptr s.H.length 0, s.H ++ [.row t cs])
    | none => none
  | .buildSlice t len parts => match sliceLitE P s.H s.ev (elemTy P t) len parts with
    | some ds => some (dec (elT P t (elemTy P t) (sizeT P (elemTy P t)) (bytesT P (elemTy P t)) && (knownT P (elemTy P t) && (decide (len * sizeT P (elemTy P t) ≤ 16777216) && ds.length == len * sizeT P (elemTy P t)))),
        .sl s.H.length 0 len (sizeT P (elemTy P t)), s.H ++ [.row (elemTy P t) ds])
    | none => none
  | .makeSlice t l c => match zeroL P (elemTy P t), s.ev l, s.ev c with
    | some zs, .int _ n, .int _ m => some (dec (elT P t (elemTy P t) (sizeT P (elemTy P t)) (bytesT P (elemTy P t))) ++ [0 ≤ n ∧ n ≤ m, (bytesT P (elemTy P t) : Int) * m ≤ 281474976710656 ∧ m ≤ 9223372036854775807],
        .sl s.H.length 0 n.toNat (sizeT P (elemTy P t)), s.H ++ [.row (elemTy P t) (zerosL zs (m.toNat * sizeT P (elemTy P t)))])
    | _, _, _ => none
  | .convert src dst x => match P.underlying src, P.underlying dst, s.ev x with
    | some _, some (.slice e), .str b => some (dec (isBytes P e) ++ [b.size ≤ maxLen], .slv b.size 1 (bytesAV b), s.H)
    | _, _, _ => none
  | .makeFunc f fs cs => bif (fs.toList.all fun x => leafOK s.H (s.ev x)) && (cs.toList.all fun x => leafOK s.H (s.ev x)) then some ([], .fn f (fs.toList.map s.ev) (cs.toList.map s.ev), s.H) else none
  | .range t x => match P.underlying t, s.ev x with
    | some .string, .str b => some ([], .iter s.H.length, s.H ++ [.iter b 0])
    | _, _ => none
  | .call ⟨.builtin .len, ⟨[x]⟩, ⟨[t]⟩⟩ => match P.underlying t, s.ev x with
    | some (.slice _), .slc id _ len _ _ => match s.H[id]? with
      | some (.row _ _) => some ([], .int .i64 len, s.H)
      | _ => none
    | _, _ => none
  | .slice t x lo hi none => match P.underlying t, s.ev x with
    | some (.slice e), .slc id st len cap sz => match s.H[id]?, loE (lo.map s.ev), hiE len (hi.map s.ev) with
      | some (.row _ _), some l, some h => some (dec (knownT P e && Nat.beq (sizeT P e) sz) ++ [0 ≤ l ∧ l ≤ h ∧ (h ≤ len ∨ h + 1 ≤ cap)],
          .slc id (st + l.toNat * sz) (h.toNat - l.toNat) (cap - l.toNat) sz, s.H)
      | _, _, _ => none
    | some (.pointer arr), .ptr id off => match P.underlying arr, s.H[id]? with
      | some (.array n e), some (.row _ xs) => match loE (lo.map s.ev), hiE n (hi.map s.ev) with
        | some l, some h => some (dec (knownT P e && (Nat.blt 0 (sizeT P e) && Nat.ble n maxLen)) ++ [0 ≤ l ∧ l ≤ h ∧ h ≤ n, off + n * sizeT P e ≤ xs.length],
            .sl id (off + l.toNat * sizeT P e) (h.toNat - l.toNat) (sizeT P e), s.H)
        | _, _ => none
      | _, _ => none
    | some (.array n e), .ptr id off => match s.H[id]? with
      | some (.row _ xs) => match loE (lo.map s.ev), hiE n (hi.map s.ev) with
        | some l, some h => some (dec (knownT P e && (Nat.blt 0 (sizeT P e) && Nat.ble n maxLen)) ++ [0 ≤ l ∧ l ≤ h ∧ h ≤ n, off + n * sizeT P e ≤ xs.length],
            .sl id (off + l.toNat * sizeT P e) (h.toNat - l.toNat) (sizeT P e), s.H)
        | _, _ => none
      | _ => none
    | _, _ => none
  | .slice t x lo (some hi) (some mx) => match P.underlying t, s.ev x with
    | some (.slice e), .sl id st len sz => match s.H[id]?, loE (lo.map s.ev), s.ev hi, s.ev mx with
      | some (.row _ _), some l, .int _ h, .int _ m => some (dec (knownT P e && Nat.beq (sizeT P e) sz) ++ [0 ≤ l ∧ l ≤ h ∧ h ≤ m ∧ m ≤ len], .sl id (st + l.toNat * sz) (h.toNat - l.toNat) sz, s.H)
      | _, _, _, _ => none
    | some (.slice e), x => bif noneV x then (match loE (lo.map s.ev), s.ev hi, s.ev mx with
      | some l, .int _ h, .int _ m => some (dec (knownT P e && Nat.blt 0 (sizeT P e)) ++ [l = 0 ∧ h = 0 ∧ m = 0], .sl s.H.length 0 0 (sizeT P e), s.H ++ [.row e []])
      | _, _, _ => none) else none
    | _, _ => none
  | .sliceToArrayPointer arr x => match P.underlying arr, s.ev x with
    | some (.array n _), .sl id st len sz => match s.H[id]? with
      | some (.row _ _) => some (dec (Nat.blt 0 n) ++ [n ≤ len], .ptr id st, s.H)
      | _ => none
    | some (.array n _), .slv len sz cs => some (dec (Nat.blt 0 n) ++ [n ≤ len], .fptr cs, s.H)
    | _, _ => none
  | .makeMap t none => some ([], .map s.H.length, s.H ++ [.map []])
  | .lookup t x i ok => match P.underlying t with
    | some (.map kt et) => match entA s.H (s.ev x), zeroA P et with
      | some kv, some z => some (dec (leafD (P.underlying kt)) ++ [(findA (P.underlying kt) (s.ev i) kv).isSome = true], lookF ok z kv (findA (P.underlying kt) (s.ev i) kv), s.H)
      | _, _ => none
    | _ => none
  | _ => none
theorem newP_ok {P : Program} {s : St} {o : Oper} {C : List Prop} {x : AV} {H' : List Blk} (h : newP P s o.op = some (C, x, H')) (hC : allP C) : OpB P o s fun a b => a = x ∧ b = H' := by
  unfold newP at h
  split at h
  · rename_i t y hop
    split at h
    · rename_i cs hc; cases h; exact op_box hop hc ⟨rfl, rfl⟩
    · cases h
  · rename_i t hop
    split at h
    · rename_i cs hc; cases h; exact op_alloc hop hc ⟨rfl, rfl⟩
    · cases h
  · rename_i t len parts hop
    split at h
    · rename_i ds hd
      cases h
      rw [allP_dec] at hC
      simp only [Bool.and_eq_true, beq_iff_eq] at hC
      exact op_sliceLit hop hC.1 hC.2.1 hd hC.2.2.1 hC.2.2.2 ⟨rfl, rfl⟩
    · cases h
  · rename_i t l c hop
    split at h
    · rename_i zs _ n _ m hz hl hc'
      cases h
      rw [allP_append, allP_dec] at hC
      exact op_makeSlice hop hC.1 hz hl hc' hC.2.1.1 hC.2.1.2 hC.2.2.1 hC.2.2.2 ⟨rfl, rfl⟩
    · cases h
  · rename_i src dst y hop
    split at h
    · rename_i u e b hs hd hx
      cases h
      rw [allP_append, allP_dec] at hC
      have he : P.underlying e = some (.int .u8) := by
        have h1 := hC.1
        unfold isBytes at h1
        split at h1
        · rename_i he; exact he
        · cases h1
      exact op_strBytes hop hs hd he hx hC.2 ⟨rfl, rfl⟩
    · cases h
  · rename_i f fs cs hop
    rw [cond_eq_ite] at h
    split at h
    · rename_i hc
      simp only [Bool.and_eq_true, List.all_eq_true] at hc
      cases h
      exact op_makeFunc hop hc.1 hc.2 ⟨rfl, rfl⟩
    · cases h
  · rename_i t y hop
    split at h
    · rename_i b ht hx; cases h; exact op_range hop ht hx ⟨rfl, rfl⟩
    · cases h
  · rename_i y t hop
    split at h
    · rename_i e id st len cap sz hu hx
      split at h
      · rename_i T xs hb
        cases h
        exact op_slcLen hop hu hx hb ⟨rfl, rfl⟩
      · cases h
    · cases h
  · rename_i t y lo hi hop
    split at h
    · rename_i e id st len cap sz hu hx
      split at h
      · rename_i T xs l h' hb e1 e2
        cases h
        rw [allP_append, allP_dec] at hC
        simp only [Bool.and_eq_true] at hC
        exact op_slcSlice hop hu hC.1.1 (Nat.eq_of_beq_eq_true hC.1.2) hx hb e1 e2 hC.2 ⟨rfl, rfl⟩
      · cases h
    · rename_i arr id off ht hx
      split at h
      · rename_i n e t' xs ha hb
        split at h
        · rename_i l h' hl hh
          cases h
          rw [allP_append, allP_dec] at hC
          simp only [Bool.and_eq_true, Nat.blt_eq, Nat.ble_eq] at hC
          exact op_arrSlice hop ht ha hC.1.1 hx hb hC.1.2.1 hl hh hC.2.1 hC.2.2 hC.1.2.2 ⟨rfl, rfl⟩
        · cases h
      · cases h
    · rename_i n e id off ha hx
      split at h
      · rename_i t' xs hb
        split at h
        · rename_i l h' hl hh
          cases h
          rw [allP_append, allP_dec] at hC
          simp only [Bool.and_eq_true, Nat.blt_eq, Nat.ble_eq] at hC
          exact op_arrSliceA hop ha hC.1.1 hx hb hC.1.2.1 hl hh hC.2.1 hC.2.2 hC.1.2.2 ⟨rfl, rfl⟩
        · cases h
      · cases h
    · cases h
  · rename_i t y lo hi mx hop
    split at h
    · rename_i e id st len sz ht hx
      split at h
      · rename_i t' xs l kh h' km m hb hl hh hm
        cases h
        rw [allP_append, allP_dec] at hC
        simp only [Bool.and_eq_true] at hC
        exact op_slice3 hop ht hC.1.1 (Nat.eq_of_beq_eq_true hC.1.2) hx hb hl hh hm hC.2 ⟨rfl, rfl⟩
      · cases h
    · rename_i e x ht _
      rw [cond_eq_ite] at h
      split at h
      · rename_i hx
        split at h
        · rename_i l kh h' km m hl hh hm
          cases h
          rw [allP_append, allP_dec] at hC
          simp only [Bool.and_eq_true, Nat.blt_eq] at hC
          obtain ⟨⟨c1, c2⟩, c3, c4, c5⟩ := hC
          subst c3 c4 c5
          exact op_slice3v hop ht c1 c2 hx hl hh hm ⟨rfl, rfl⟩
        · cases h
      · cases h
    · cases h
  · rename_i arr y hop
    split at h
    · rename_i n e id st len sz ha hx
      split at h
      · rename_i t' xs hb
        cases h
        rw [allP_append, allP_dec, Nat.blt_eq] at hC
        exact op_arrAt hop ha hx hb hC.1 hC.2 ⟨rfl, rfl⟩
      · cases h
    · rename_i n e len sz cs ha hx
      cases h
      rw [allP_append, allP_dec, Nat.blt_eq] at hC
      exact op_arrAtV hop ha hx hC.1 hC.2 ⟨rfl, rfl⟩
    · cases h
  · rename_i t hop; cases h; exact op_makeMap hop ⟨rfl, rfl⟩
  · rename_i t y i ok hop
    split at h
    · rename_i kt et ht
      split at h
      · rename_i kv z hx hz
        injection h with h
        injection h with h1 h2
        injection h2 with h2 h3
        subst h1 h2 h3
        rw [allP_append, allP_dec] at hC
        obtain ⟨hC, hs⟩ := hC
        have hs : (findA (P.underlying kt) (s.ev i) kv).isSome = true := hs
        cases hf : findA (P.underlying kt) (s.ev i) kv with
        | none => rw [hf] at hs; cases hs
        | some r => exact op_lookup hop ht hC hx hf hz ⟨by cases r <;> rfl, rfl⟩
      · cases h
    · cases h
  · cases h
def updP (P : Program) (s : St) (t : TypeId) (m k v : Operand) : ER := match P.underlying t, s.ev m with
  | some (.map kt _), .map id => match s.H[id]? with
    | some (.map kv) => some (dec (leafD (P.underlying kt) && (notTup (s.ev k) && notTup (s.ev v))) ++ [(findA (P.underlying kt) (s.ev k) kv).isSome = true], .junk, s.H.set id (.map (updF kv (s.ev k) (s.ev v) (findA (P.underlying kt) (s.ev k) kv))))
    | _ => none
  | _, _ => none
theorem updP_ok {P : Program} {s : St} {o : Oper} {t : TypeId} {m k v : Operand} {C : List Prop} {x : AV} {H' : List Blk} (ho : o.op = .mapUpdate t m k v ∨ o.op = .insert t m k v) (h : updP P s t m k v = some (C, x, H')) (hC : allP C) : OpV P o s fun a b => a = x ∧ b = H' := by
  unfold updP at h
  split at h
  · rename_i kt et id ht hm
    split at h
    · rename_i kv hb
      cases h
      rw [allP_append, allP_dec] at hC
      obtain ⟨hC, hs⟩ := hC
      simp only [Bool.and_eq_true] at hC
      have hs : (findA (P.underlying kt) (s.ev k) kv).isSome = true := hs
      cases hf : findA (P.underlying kt) (s.ev k) kv with
      | none => rw [hf] at hs; cases hs
      | some r => exact op_mapUpdate ho ht hC.1 hm hb hf hC.2.1 hC.2.2 ⟨rfl, rfl⟩
    · cases h
  · cases h
def strOf? : AV → Option ByteArray | .str b => some b | _ => none
/-- append within the capacity; clear -/
def roomP (P : Program) (s : St) (t t' : TypeId) (x y : AV) : Option ER := match x with
  | .slc id st len cap sz => some (match s.H[id]?, srcP s.H sz y with
    | some (.row T xs), some (E, m, ys) => some (E ++ (dec (t' == t && elT P t (elemTy P t) sz (bytesT P (elemTy P t))) ++ [len + m + 1 ≤ cap, st + (len + m) * sz ≤ xs.length, ys.length = m * sz]),
        .slc id st (len + m) cap sz, s.H.set id (.row T (xs.take (st + len * sz) ++ ys ++ xs.drop (st + len * sz + ys.length))))
    | _, _ => none)
  | _ => none
theorem roomP_ok {P : Program} {s : St} {o : Oper} {t t' : TypeId} {x y : Operand} {C : List Prop} {v : AV} {H' : List Blk} (ho : o.op = .call ⟨.builtin .append, ⟨[x, y]⟩, ⟨[t, t']⟩⟩) (h : roomP P s t t' (s.ev x) (s.ev y) = some (some (C, v, H'))) (hC : allP C) : OpV P o s fun a b => a = v ∧ b = H' := by
  unfold roomP at h
  split at h
  · rename_i id st len cap sz hx
    split at h
    · rename_i T xs E m ys hb hs
      cases h
      rw [allP_append, allP_append, allP_dec] at hC
      simp only [Bool.and_eq_true, beq_iff_eq] at hC
      obtain ⟨hE, ⟨rfl, hc1⟩, hc2, hc3, hc4⟩ := hC
      exact op_appendIn (ty := t') ho hc1 hx hb (srcP_ok hs hE) hc2 hc3 hc4 ⟨rfl, rfl⟩
    · cases h
  · cases h
def clearP (P : Program) (s : St) (t : TypeId) (x : AV) : ER := match slAny x with
  | some (id, st, len, sz) => match s.H[id]?, zeroL P (elemTy P t) with
    | some (.row T xs), some zs => some (dec (elT P t (elemTy P t) sz (bytesT P (elemTy P t))) ++ [st + len * sz ≤ xs.length], .tuple [], s.H.set id (.row T (xs.take st ++ zerosL zs (len * sz) ++ xs.drop (st + len * sz))))
    | _, _ => none
  | none => none
theorem clearP_ok {P : Program} {s : St} {o : Oper} {t : TypeId} {x : Operand} {C : List Prop} {v : AV} {H' : List Blk} (ho : o.op = .call ⟨.builtin .clear, ⟨[x]⟩, ⟨[t]⟩⟩) (h : clearP P s t (s.ev x) = some (C, v, H')) (hC : allP C) : OpV P o s fun a b => a = v ∧ b = H' := by
  unfold clearP at h
  split at h
  · rename_i id st len sz hx
    split at h
    · rename_i T xs zs hb hz
      cases h
      rw [allP_append, allP_dec] at hC
      exact op_clear ho hC.1 hz hx hb hC.2 ⟨rfl, rfl⟩
    · cases h
  · cases h
/-- all that blocks do, without calls -/
def turnP (P : Program) (s : St) : Op → ER
  | .store t x y => match s.ev x, cellsAV s.H (s.ev y) with
    | .ptr id off, some cs => match s.H[id]? with
      | some (.row t' xs) => some (dec (knownT P t && sizeT P t == cs.length) ++ [off + cs.length ≤ xs.length], .junk, s.H.set id (.row t' (xs.take off ++ cs ++ xs.drop (off + cs.length))))
      | _ => none
    | _, _ => none
  | .call ⟨.builtin .clear, ⟨[x]⟩, ⟨[t]⟩⟩ => clearP P s t (s.ev x)
  | .call ⟨.builtin .append, ⟨[x, y]⟩, ⟨[t, t']⟩⟩ => (match roomP P s t t' (s.ev x) (s.ev y) with
  | some r => r
  | none => match strOf? (s.ev y) with
   | some bs => match dstP s.H (elemTy P t) 1 (s.ev x), P.underlying t' with
    | some (D, k, len, xs), some .string => some (D ++ (dec (elT P t (elemTy P t) 1 (bytesT P (elemTy P t))) ++ [(len + bs.size) * bytesT P (elemTy P t) ≤ 140737488355328, len + bs.size ≤ maxLen]),
        .sl s.H.length 0 (len + bs.size) 1, killB s.H k ++ [.row (elemTy P t) (xs ++ bytesAV bs)])
    | _, _ => none
   | none => match dstP s.H (elemTy P t) (sizeT P (elemTy P t)) (s.ev x), srcP s.H (sizeT P (elemTy P t)) (s.ev y) with
    | some (D, k, len, xs), some (E, m, ys) => some (D ++ (E ++ (dec (t' == t && elT P t (elemTy P t) (sizeT P (elemTy P t)) (bytesT P (elemTy P t))) ++ [(len + m) * bytesT P (elemTy P t) ≤ 140737488355328, len + m ≤ maxLen])),
        .sl s.H.length 0 (len + m) (sizeT P (elemTy P t)), killB s.H k ++ [.row (elemTy P t) (xs ++ ys)])
    | _, _ => none)
  | .next x true => match s.ev x with
    | .iter id => match s.H[id]? with
      | some (.iter b pos) => some ([], bif Nat.blt pos b.size then .tuple [.bool true, .int .i64 pos, .int .i32 (Utf8.decode b pos).1] else .tuple [.bool false],
          bif Nat.blt pos b.size then s.H.set id (.iter b (pos + (Utf8.decode b pos).2)) else s.H)
      | _ => none
    | _ => none
  | .mapUpdate t m k v => updP P s t m k v
  | .insert t m k v => updP P s t m k v
  | .call ⟨.builtin .copy, ⟨[x, y]⟩, ⟨[dT, sT]⟩⟩ => match P.underlying dT, s.ev x, srcP s.H 1 (s.ev y) with
    | some (.slice e), .sl id st dlen 1, some (E, m, ys) => match s.H[id]? with
      | some (.row t xs) => some (E ++ (dec ((P.info? e).isSome && (sizeT P e).beq 1) ++ [st + dlen ≤ xs.length]),
          .int .i64 (Nat.min m dlen : Nat), s.H.set id (.row t (xs.take st ++ ys.take (Nat.min m dlen) ++ xs.drop (st + Nat.min m dlen))))
      | _ => none
    | _, _, _ => none
  | _ => none
theorem turnP_ok {P : Program} {s : St} {o : Oper} {C : List Prop} {x : AV} {H' : List Blk} (h : turnP P s o.op = some (C, x, H')) (hC : allP C) : OpV P o s fun a b => a = x ∧ b = H' := by
  unfold turnP at h
  split at h
  · rename_i t y z hop
    split at h
    · rename_i id off cs hx hy
      split at h
      · rename_i t' xs hb
        cases h
        rw [allP_append, allP_dec] at hC
        simp only [Bool.and_eq_true, beq_iff_eq] at hC
        exact op_store hop hx hb hy hC.1 hC.2 ⟨rfl, rfl⟩
      · cases h
    · cases h
  · rename_i y t hop; exact clearP_ok hop h hC
  · rename_i y z t t' hop
    split at h
    · rename_i r hr; subst h; exact roomP_ok hop hr hC
    split at h
    · rename_i bs hy
      have hy' : s.ev z = .str bs := by
        unfold strOf? at hy
        split at hy
        · rename_i b hb; cases hy; exact hb
        · cases hy
      split at h
      · rename_i D k len xs h1 hts
        cases h
        rw [allP_append, allP_append, allP_dec] at hC
        exact op_appendStr (ty := t') hop hC.2.1 hts (dstP_ok h1 hC.1) hy' hC.2.2.1 hC.2.2.2 ⟨rfl, rfl⟩
      · cases h
    · split at h
      · rename_i D k len xs E m ys h1 h2
        cases h
        rw [allP_append, allP_append, allP_append, allP_dec] at hC
        simp only [Bool.and_eq_true, beq_iff_eq] at hC
        obtain ⟨hD, hE, ⟨rfl, hc1⟩, hc2, hc3⟩ := hC
        exact op_append (ty := t') hop hc1 (dstP_ok h1 hD) (srcP_ok h2 hE) hc2 hc3 ⟨rfl, rfl⟩
      · cases h
  · rename_i y hop
    split at h
    · rename_i id hx
      split at h
      · rename_i b pos hb; cases h; exact op_next hop hx hb ⟨rfl, rfl⟩
      · cases h
    · cases h
  · rename_i t m k v hop; exact updP_ok (Or.inl hop) h hC
  · rename_i t m k v hop; exact updP_ok (Or.inr hop) h hC
  · rename_i y z dT sT hop
    split at h
    · rename_i e id st dlen E m ys hu hx hs
      split at h
      · rename_i t xs hb
        injection h with h
        injection h with h1 h2
        injection h2 with h2 h3
        subst h1 h2 h3
        rw [allP_append, allP_append, allP_dec] at hC
        simp only [Bool.and_eq_true] at hC
        refine op_copy hop hu hC.2.1.1 (Nat.eq_of_beq_eq_true hC.2.1.2) hx hb (srcP_ok hs hC.1) hC.2.2 ⟨rfl, ?_⟩
        cases h0 : (Nat.min m dlen).beq 0 with
        | false => rfl
        | true =>
          have h0 := Nat.eq_of_beq_eq_true h0
          rw [h0]
          simp only [cond_true, List.take_zero, List.append_nil, Nat.add_zero, List.take_append_drop]
          obtain ⟨h1, h2⟩ := List.getElem?_eq_some_iff.1 hb
          rw [← h2]
          exact (List.set_getElem_self h1).symm
      · cases h
    · cases h
  · cases h
end Go.Proofs.YthcaeofgegfncaaDoor.V
namespace Go.Proofs.YthcaeofgegfncaaDoor.V
open Go Go.RowKit
set_option linter.unusedSimpArgs false
set_option linter.unusedVariables false

inductive Dec where
  | no
  | as (x : AV)
  | weak (x : AV)
  | br (b : Bool) (d : Dec)
  | vw (l : List Nat) (d : Dec)
  | gd
  | gda (x : AV)
  | call (av : AV) (Bs : List Blk) (fl : List Bool)
  | lend (as' : List AV) (av : AV) (Bs : List Blk) (fl : List Bool)
  | callH (av : AV) (H' : List Blk)
  | callS (ks : List Nat) (fl : List Bool) (av : AV) (H1 : List Blk) (fl2 : List Bool)
  | loop (e : Exit) (s : St)
structure Ent where
  k : Nat
  pre : List Pre
  d : Dec
def look : List Ent → Nat → List Pre × Dec
  | [], _ => ([], .no)
  | e :: r, k => bif e.k.beq k then (e.pre, e.d) else look r k
def plainP : List Bool → List Blk → List Prop
  | true :: r, .row _ xs :: l => (∀ x ∈ xs, plain0 x = true) :: plainP r l
  | true :: r, .map kv :: l => (∀ q ∈ kv, plain1 q.1 = true ∧ plain1 q.2 = true) :: plainP r l
  | _ :: r, _ :: l => plainP r l
  | _, _ => []
def shiftF (n : Nat) : List Bool → List Blk → List Blk
  | true :: r, b :: l => b :: shiftF n r l
  | false :: r, b :: l => shiftB n b :: shiftF n r l
  | [], l => l.map (shiftB n)
  | _ :: _, [] => []
theorem shiftF_eq (n : Nat) : ∀ (fl : List Bool) (Bs : List Blk), allP (plainP fl Bs) → shiftF n fl Bs = Bs.map (shiftB n)
  | [], _, _ => by simp [shiftF]
  | _ :: _, [], _ => by simp [shiftF]
  | false :: r, b :: l, h => by
    have h2 : allP (plainP r l) := by cases b <;> exact h
    simp [shiftF, shiftF_eq n r l h2]
  | true :: r, b :: l, h => by
    have h2 : allP (plainP r l) := by cases b <;> simp only [plainP] at h <;> first | exact h | (rw [allP_cons] at h; exact h.2)
    have h1 : shiftB n b = b := by
      cases b with
      | dead => rfl
      | row t xs =>
        simp only [plainP] at h
        rw [allP_cons] at h
        simp only [shiftB]
        rw [map_id_of xs fun x hx => ren0_plain (h.1 x hx)]
      | map kv => simp only [plainP] at h; rw [allP_cons] at h; exact congrArg Blk.map (map_plain h.1).symm
      | iter s n => rfl
    simp [shiftF, shiftF_eq n r l h2, h1]
theorem OpB.weak {P : Program} {o : Oper} {s : St} {v x : AV} {H' : List Blk} (h : OpB P o s fun a b => a = v ∧ b = H') (hw : ∀ (p : Pl) (w : World) (u : Value), Rep p w u v → Rep p w u x) : OpB P o s fun a b => a = x ∧ b = H' :=
  fun p w a K Q hR hK => h p w a K Q hR fun u av H2 p' w' ⟨e1, e2⟩ a1 a2 a3 a4 => hK u x H2 p' w' ⟨rfl, e2⟩ a1 (hw _ _ _ (e1 ▸ a2)) a3 a4
theorem OpV.weak {P : Program} {o : Oper} {s : St} {v x : AV} {H' : List Blk} (h : OpV P o s fun a b => a = v ∧ b = H') (hw : ∀ (p : Pl) (w : World) (u : Value), Rep p w u v → Rep p w u x) : OpV P o s fun a b => a = x ∧ b = H' :=
  fun p w a K Q hR hK => h p w a K Q hR fun u av H2 p' w' ⟨e1, e2⟩ a1 a2 a3 => hK u x H2 p' w' ⟨rfl, e2⟩ a1 (hw _ _ _ (e1 ▸ a2)) a3
def adj (d : Dec) (r : ER) : ER := match r with
  | some (C, v, H) => match d with
    | .no => some (C, v, H)
    | .as x => some (C ++ [v = x], x, H)
    | .weak x => some (C ++ [∀ (p : Pl) (w : World) (u : Value), Rep p w u v → Rep p w u x], x, H)
    | _ => none
  | none => none
theorem adj_okB {P : Program} {o : Oper} {s : St} {d : Dec} {r : ER} {C : List Prop} {x : AV} {H' : List Blk} (h : adj d r = some (C, x, H')) (hC : allP C) (hr : ∀ C v H, r = some (C, v, H) → allP C → OpB P o s fun a b => a = v ∧ b = H) : OpB P o s fun a b => a = x ∧ b = H' := by
  unfold adj at h
  split at h
  · rename_i D v H
    split at h
    · cases h; exact hr _ _ _ rfl hC
    · cases h; rw [allP_append] at hC; exact (hr _ _ _ rfl hC.1).weak fun p w u hu => by have h2 : v = x := hC.2; rw [← h2]; exact hu
    · cases h; rw [allP_append] at hC; exact (hr _ _ _ rfl hC.1).weak hC.2
    · cases h
  · cases h
theorem adj_okV {P : Program} {o : Oper} {s : St} {d : Dec} {r : ER} {C : List Prop} {x : AV} {H' : List Blk} (h : adj d r = some (C, x, H')) (hC : allP C) (hr : ∀ C v H, r = some (C, v, H) → allP C → OpV P o s fun a b => a = v ∧ b = H) : OpV P o s fun a b => a = x ∧ b = H' := by
  unfold adj at h
  split at h
  · rename_i D v H
    split at h
    · cases h; exact hr _ _ _ rfl hC
    · cases h; rw [allP_append] at hC; exact (hr _ _ _ rfl hC.1).weak fun p w u hu => by have h2 : v = x := hC.2; rw [← h2]; exact hu
    · cases h; rw [allP_append] at hC; exact (hr _ _ _ rfl hC.1).weak hC.2
    · cases h
  · cases h
/-- operations that turn nothing -/
def baseQ (P : Program) (s : St) (op : Op) : ER := match kindOf op with
  | 0 => match newP P s op with
    | some r => some r
    | none => some ((pureE P s.H s.ev op).1, (pureE P s.H s.ev op).2, s.H)
  | 1 => newP P s op
  | 2 => match callOf s.ev op with
    | some (f, l) => bif callable P f then none else (match extE (extK P f) l with | some x => some ([], x, s.H) | none => none)
    | none => none
  | _ => none
theorem baseQ_ok {P : Program} {o : Oper} {s : St} {C : List Prop} {x : AV} {H' : List Blk} (h : baseQ P s o.op = some (C, x, H')) (hC : allP C) : OpB P o s fun a b => a = x ∧ b = H' := by
  unfold baseQ at h
  split at h
  · split at h
    · rename_i r hr; cases h; exact newP_ok hr hC
    · cases h; exact (pureE_ok rfl hC).opB ⟨rfl, rfl⟩
  · exact newP_ok h hC
  · split at h
    · rename_i f l hc
      rw [cond_eq_ite] at h
      split at h
      · cases h
      · split at h
        · rename_i y hy; cases h; exact op_ext hc hy ⟨rfl, rfl⟩
        · cases h
    · cases h
  · cases h
def callQ (P : Program) (s : St) (op : Op) : Dec → ER
  | .call av Bs fl => match callOf s.ev op with
    | some (f, l) => some (dec (callable P f && l.all noid1) ++ (plainP fl Bs ++ [CallsV P f l [] fun a b => a = av ∧ b = Bs]), ren (shf s.H.length) av, s.H ++ shiftF s.H.length fl Bs)
    | none => none
  | .lend as' av Bs fl => match callOf s.ev op with
    | some (f, l) => some (dec (callable P f) ++ (plainP fl Bs ++ [Reads s.H l as', (novR av && Bs.all novB) = true, CallsV P f as' [] fun a b => a = av ∧ b = Bs]), ren (shf s.H.length) av, s.H ++ shiftF s.H.length fl Bs)
    | none => none
  | _ => none
theorem callQ_ok {P : Program} {o : Oper} {s : St} {d : Dec} {C : List Prop} {x : AV} {H' : List Blk} (h : callQ P s o.op d = some (C, x, H')) (hC : allP C) : OpB P o s fun a b => a = x ∧ b = H' := by
  unfold callQ at h
  split at h
  · rename_i av Bs fl
    split at h
    · rename_i f l hc
      cases h
      rw [allP_append, allP_append, allP_dec] at hC
      simp only [Bool.and_eq_true] at hC
      obtain ⟨⟨h1, h2⟩, h3, h4⟩ := hC
      rw [shiftF_eq _ _ _ h3]
      have h4' : CallsV P f l [] fun a b => a = av ∧ b = Bs := h4
      exact callOf_opB hc h1 h2 (h4'.mono fun a b ⟨e1, e2⟩ => by subst e1 e2; exact ⟨rfl, rfl⟩)
    · cases h
  · rename_i as' av Bs fl
    split at h
    · rename_i f l hc
      cases h
      rw [allP_append, allP_append, allP_dec] at hC
      obtain ⟨h1, h3, h4, h5, h6⟩ := hC
      have h6' : CallsV P f as' [] fun a b => a = av ∧ b = Bs := h6
      rw [shiftF_eq _ _ _ h3]
      refine op_callw (callOf_run hc h1) fun p w vals hH hv => ?_
      refine (CallsV.lendR (args := l) h6' h5 hH ?_).mono ?_
      · exact h4 p _ w vals.toList hH (lends0 hH _) hv
      · rintro e w' ⟨v, p', k1, k2, k3, k4, k5⟩
        exact ⟨v, _, _, p', k1, ⟨rfl, rfl⟩, k2, k3, k4, k5⟩
    · cases h
  · cases h
def wkA : AV → AV | .slc id st len _ sz => .sl id st len sz | x => x
theorem wkA_rep {p : Pl} {w : World} {v : Value} {x : AV} (h : Rep p w v x) : Rep p w v (wkA x) := by
  cases x <;> try exact h
  case slc => exact ⟨h.1, fun q hq => by obtain ⟨a, c, h1, h2, h3, h4, h5, h6, _⟩ := h.2 q hq; exact ⟨a, c, h1, h2, h3, h4, h5, h6⟩⟩
def viewS : List Nat → St → St
  | [], s => s
  | i :: l, s => viewS l ⟨s.t.set i (wkA (s.t.getD i .junk)), s.H⟩
theorem viewS_ok : ∀ {l : List Nat} {s : St} {p : Pl} {a : Act} {w : World}, Rst p s a w → Rst p (viewS l s) a w
  | [], _, _, _, _, h => h
  | i :: l, s, p, a, w, h => viewS_ok (l := l) (h.set i _ fun v hv => wkA_rep hv)
theorem OpB.view {P : Program} {o : Oper} {l : List Nat} {s : St} {R : AV → List Blk → Prop} (h : OpB P o (viewS l s) R) : OpB P o s R := fun p w a K Q hR hK => h p w a K Q (viewS_ok hR) hK
theorem OpV.view {P : Program} {o : Oper} {l : List Nat} {s : St} {R : AV → List Blk → Prop} (h : OpV P o (viewS l s) R) : OpV P o s R := fun p w a K Q hR hK => h p w a K Q (viewS_ok hR) hK
/-- what turns nothing -/
def mainB0 (P : Program) (s : St) (op : Op) (d : Dec) : ER := match d with
  | .call _ _ _ => callQ P s op d
  | .lend _ _ _ _ => callQ P s op d
  | d => adj d (baseQ P s op)
theorem mainB0_ok {P : Program} {o : Oper} {s : St} {d : Dec} {C : List Prop} {x : AV} {H' : List Blk} (h : mainB0 P s o.op d = some (C, x, H')) (hC : allP C) : OpB P o s fun a b => a = x ∧ b = H' := by
  unfold mainB0 at h
  split at h
  · exact callQ_ok h hC
  · exact callQ_ok h hC
  · exact adj_okB h hC fun C v H hr hc => baseQ_ok hr hc
theorem op_callx {P : Program} {s : St} {o : Oper} {R : AV → List Blk → Prop} {f : FuncId} {l : List AV} (hop : ∀ (p : Pl) (w : World) (a : Act), Rst p s a w → ∃ vals : Array Value, RepL (Rep p w) vals.toList l ∧ (execOp a.eval o).run P w = .ok (.enter f vals) w)
    (h : ∀ (p : Pl) (w : World) (vals : Array Value), RH p s.H w → RepL (Rep p w) vals.toList l → Calls P f vals w fun e w' => ∃ v av H' p', e = .returned v ∧ R av H' ∧ RH p' H' w' ∧ Rep p' w' v av ∧ Step p w p' w') : OpV P o s R := fun p w a K Q hR hK => by
  obtain ⟨vals, hv, hrun⟩ := hop p w a hR
  unfold Oper.wp
  rw [hrun, Oper.upon_enter]
  refine (h p w vals hR.heap hv).mono ?_
  rintro e w' ⟨v, av, H', p', rfl, h1, h2, h3, h4⟩
  exact hK v av H' p' w' h1 h2 h3 h4
def Pl.kill (p : Pl) (id : Nat) : Pl := ⟨p.n, fun i => if i = id then none else p.at_ i, p.x⟩
theorem kill_own {p : Pl} {id g : Nat} (h : (p.kill id).own g) : p.own g := by
  obtain ⟨j, hj⟩ := h
  unfold Pl.kill at hj
  simp only at hj
  split at hj
  · cases hj
  · exact ⟨j, hj⟩
theorem frz_world {p : Pl} {H : List Blk} {w w' : World} (hH : RH p H w) {id g : Nat} {t : TypeId} {cur : Array Value} {fl : Nat × Nat} (hg : p.at_ id = some (some g)) (hc : w.heap[g]? = some (.cells cur t (0, 0)))
    (e1 : w'.os = w.os) (e2 : w'.tape = w.tape) (e3 : w'.output = w.output) (e4 : w'.heap.size = w.heap.size) (e5 : ∀ g', g' ≠ g → w'.heap[g']? = w.heap[g']?) (e6 : w'.heap[g]? = some (.cells cur t fl)) :
    RH (p.kill id) (H.set id .dead) w' ∧ Step p w (p.kill id) w' := by
  have hS : Step p w (p.kill id) w' := ⟨e1, e2, e3, Nat.le_of_eq e4.symm, Nat.le_refl _, fun i q _ hq => by
    unfold Pl.kill at hq
    simp only at hq
    split at hq
    · cases hq
    · refine ⟨hq, fun g' _ => ?_⟩
      unfold rowSize
      by_cases he : g' = g
      · subst he; rw [e6, hc]
      · rw [e5 g' he], fun g' _ h => kill_own h, fun g' _ hm => e5 g' fun he => hm (he ▸ ⟨id, hg⟩), rfl⟩
  refine ⟨⟨by rw [List.length_set]; exact hH.n, fun i hi => ?_, fun i j g' hi hj => ?_, fun i hi => ?_, fun g' hg' => ⟨Nat.lt_of_lt_of_le (hH.xs g' hg').1 (Nat.le_of_eq e4.symm), fun ho => (hH.xs g' hg').2 (kill_own ho)⟩⟩, hS⟩
  · unfold Pl.kill
    simp only
    split
    · rfl
    · exact hH.out i hi
  · unfold Pl.kill at hi hj
    simp only at hi hj
    split at hi <;> split at hj
    · cases hi
    · cases hi
    · cases hj
    · exact hH.inj _ _ _ hi hj
  · rw [List.getElem_set]
    split
    · rename_i he
      show (if i = id then none else p.at_ i) = none
      rw [if_pos he.symm]
    · rename_i he
      exact (hH.blk i (by rw [List.length_set] at hi; exact hi)).step hS (by unfold Pl.kill; simp only; rw [if_neg (fun h => he h.symm)]) fun g' hg' => e5 g' fun h => he (hH.inj _ _ _ hg (h ▸ hg'))
theorem freeze_heap (w : World) (g n : Nat) (cur : Array Value) (t : TypeId) (hc : w.heap[g]? = some (.cells cur t (0, 0))) :
    (w.freeze ⟨g, n, none⟩ 1).heap[g]? = some (.cells cur t (n, n + 1)) ∧ (∀ g', g' ≠ g → (w.freeze ⟨g, n, none⟩ 1).heap[g']? = w.heap[g']?) ∧ (w.freeze ⟨g, n, none⟩ 1).heap.size = w.heap.size := by
  unfold World.freeze
  rw [if_neg (by decide)]
  refine ⟨?_, fun g' hg' => ?_, by simp⟩
  · simp only [Array.getElem?_modify, if_pos, hc]
    rfl
  · simp only [Array.getElem?_modify]
    rw [if_neg (fun h => hg' h.symm)]
def cnvG (P : Program) (s : St) : Op → ER
  | .convert src dst x => bif Nat.beq src dst then (match P.underlying src, s.ev x with
    | some (.slice e), .sl id st len 1 => match s.H[id]? with
      | some (.row _ xs) => some (dec (isBytes P e) ++ [∀ y ∈ xs, noid0 y = true ∧ y ≠ .junk, 0 < len, st + len ≤ xs.length], .slv len 1 ((xs.drop st).take len), s.H.set id .dead)
      | _ => none
    | _, _ => none) else none
  | _ => none
theorem op_cnv {P : Program} {o : Oper} {s : St} {src e : TypeId} {x : Operand} {id st len : Nat} {t : TypeId} {xs : List AV} (ho : o.op = .convert src src x) (h1 : P.underlying src = some (.slice e)) (h2 : P.underlying e = some (.int .u8)) (hx : s.ev x = .sl id st len 1) (hb : s.H[id]? = some (.row t xs))
    (hn : ∀ y ∈ xs, noid0 y = true ∧ y ≠ .junk) (h0 : 0 < len) (hl : st + len ≤ xs.length) : OpV P o s fun a b => a = .slv len 1 ((xs.drop st).take len) ∧ b = s.H.set id .dead := opV_of fun p w a hR => by
  have hv := hR.ev x
  rw [hx] at hv
  generalize hgv : a.eval x = v at hv
  obtain ⟨q, hq⟩ := hR.heap.live hb
  obtain ⟨oa, cap, rfl, b1, b2, b3, b4, b5⟩ := hv.2 q hq
  have hcl : ((xs.drop st).take len).length = len := by rw [List.length_take, List.length_drop]; omega
  rcases hR.heap.row hb with ⟨c1, c2⟩ | ⟨g, cur, c1, c2, c3, c4⟩
  · subst c2; simp at hl; omega
  · rw [c1] at hq
    cases hq
    rcases b5 with h0' | ⟨g', e1, e2, e3⟩
    · omega
    · cases e1
      subst e2
      obtain ⟨f1, f2, f3⟩ := freeze_heap w g cur.size cur t c2
      obtain ⟨k1, k2⟩ := frz_world (w' := w.freeze ⟨g, cur.size, none⟩ 1) hR.heap c1 c2 (by unfold World.freeze; rw [if_neg (by decide)]) (by unfold World.freeze; rw [if_neg (by decide)]) (by unfold World.freeze; rw [if_neg (by decide)]) f3 f2 f1
      have hex : ∀ k, k < len → ∃ v, cur[st + k]? = some v ∧ RepC p w v (xs.getD (st + k) .junk) := fun k hk => by
        obtain ⟨v, d1, d2⟩ := c4 (st + k) (by omega)
        exact ⟨v, d1, by rw [getD_get _ _ (by omega)]; exact d2⟩
      refine ⟨_, _, _, _, _, _, ?_, Or.inl rfl, ⟨rfl, rfl⟩, k1, RepF.rep (.slv _ ⟨g, st, none⟩ len cap 1 _ (fun k => cur.getD (st + k) undef) (Or.inl rfl) (by rw [hcl, Nat.mul_one]) b1 b2 (by decide) (fun k hk => ?_) (fun k hk => ?_)), k2⟩
      · have hsh : w.shape? g = some (t, cur.size) := by unfold World.shape?; rw [c2]
        unfold execOp
        rw [ho]
        simp [Go.convert, hgv, run_underlying h1, run_underlying h2, markStringish, hsh]
      · rw [hcl] at hk
        obtain ⟨v, d1, d2⟩ := hex k hk
        have hgd : cur.getD (st + k) undef = v := by rw [Array.getD_eq_getD_getElem?, d1]; rfl
        refine ⟨rfl, by rw [f3]; exact (Array.getElem?_eq_some_iff.1 c2).1, fun hm => ?_, ?_, by rw [hgd]; exact d2.1⟩
        · rcases hm with ⟨l, hl'⟩ | hm
          · unfold Pl.kill at hl'
            simp only at hl'
            split at hl'
            · cases hl'
            · rename_i hne; exact hne (hR.heap.inj _ _ _ hl' c1)
          · exact (hR.heap.xs _ hm).2 ⟨id, c1⟩
        · rw [cell_of_row _ g _ cur t _ f1, d1, hgd]
      · rw [hcl] at hk
        obtain ⟨v, d1, d2⟩ := hex k hk
        have hgd : cur.getD (st + k) undef = v := by rw [Array.getD_eq_getD_getElem?, d1]; rfl
        have hmem : xs.getD (st + k) .junk ∈ xs := by rw [getD_get _ _ (by omega)]; exact List.getElem_mem _
        rw [hgd, getD_get _ _ (by rw [hcl]; exact hk), List.getElem_take, List.getElem_drop, ← getD_get _ _ (by omega)]
        exact RepC.toF (d2.2.step k2) (hn _ hmem).1 (hn _ hmem).2
theorem cnvG_ok {P : Program} {o : Oper} {s : St} {C : List Prop} {x : AV} {H' : List Blk} (h : cnvG P s o.op = some (C, x, H')) (hC : allP C) : OpV P o s fun a b => a = x ∧ b = H' := by
  unfold cnvG at h
  split at h
  · rename_i src dst y hop
    cases hsd : Nat.beq src dst with
    | false => rw [hsd] at h; cases h
    | true =>
      rw [hsd, cond_true] at h
      obtain rfl := Nat.eq_of_beq_eq_true hsd
      split at h
      · rename_i e id st len h1 hx
        split at h
        · rename_i t xs hb
          cases h
          rw [allP_append, allP_dec] at hC
          obtain ⟨hC, c1, c2, c3⟩ := hC
          have h2 : P.underlying e = some (.int .u8) := by
            unfold isBytes at hC
            split at hC
            · assumption
            · cases hC
          exact op_cnv hop h1 h2 hx hb c1 c2 c3
        · cases h
      · cases h
  · cases h
def mainG0 (P : Program) (s : St) (op : Op) (d : Dec) : ER := match d with
  | .callS ks fl av H1 fl2 => match callOf s.ev op with
    | some (f, l) => some (dec (callable P f && (keepB 0 ks s.H && Nat.ble ks.length H1.length)) ++ (stayP fl (ks.map fun i => s.H.getD i .dead) ++ (stayL fl2 H1 ++ [CallsV P f (l.map (ren (idxK ks))) (keepF ks s.H ks fl) fun a b => a = av ∧ b = H1])),
        ren (subF ks s.H.length) av, setAll ks (mapF (subF ks s.H.length) fl2 H1) s.H ++ (mapF (subF ks s.H.length) fl2 H1).drop ks.length)
    | none => none
  | .callH av H' => match callOf s.ev op with
    | some (f, l) => some (dec (callable P f) ++ [CallsV P f l s.H fun a b => a = av ∧ b = H'], av, H')
    | none => none
  | d => match cnvG P s op with
    | some r => adj d (some r)
    | none => match kindOf op with
      | 3 => adj d (turnP P s op)
      | _ => mainB0 P s op d
theorem mainG0_ok {P : Program} {o : Oper} {s : St} {d : Dec} {C : List Prop} {x : AV} {H' : List Blk} (h : mainG0 P s o.op d = some (C, x, H')) (hC : allP C) : OpV P o s fun a b => a = x ∧ b = H' := by
  unfold mainG0 at h
  split at h
  · rename_i ks fl av H1 fl2
    split at h
    · rename_i f l hc
      cases h
      rw [allP_append, allP_append, allP_append, allP_dec] at hC
      simp only [Bool.and_eq_true, Nat.ble_eq] at hC
      obtain ⟨⟨c1, c2, c3⟩, c4, c5, c6⟩ := hC
      refine op_callx (callOf_run hc c1) fun p w vals hH hv => ?_
      refine (CallsV.sub (args := l) c6 c2 c4 c5 c3 hH hv).mono ?_
      rintro e w' ⟨v, p', k1, k2, k3, k4⟩
      exact ⟨v, _, _, p', k1, ⟨rfl, rfl⟩, k2, k3, k4⟩
    · cases h
  · split at h
    · rename_i f l hc
      cases h
      rw [allP_append, allP_dec] at hC
      exact callOf_op hc hC.1 hC.2
    · cases h
  · split at h
    · rename_i r hr
      exact adj_okV h hC fun C v H he hc => cnvG_ok (hr.trans he) hc
    · split at h
      · exact adj_okV h hC fun C v H hr hc => turnP_ok hr hc
      · exact (mainB0_ok h hC).opV
def mainB (P : Program) (s : St) (op : Op) (d : Dec) : ER := match d with
  | .vw l d => mainB0 P (viewS l s) op d
  | d => mainB0 P s op d
theorem mainB_ok {P : Program} {o : Oper} {s : St} {d : Dec} {C : List Prop} {x : AV} {H' : List Blk} (h : mainB P s o.op d = some (C, x, H')) (hC : allP C) : OpB P o s fun a b => a = x ∧ b = H' := by
  unfold mainB at h
  split at h
  · exact (mainB0_ok h hC).view
  · exact mainB0_ok h hC
def mainG (P : Program) (s : St) (op : Op) (d : Dec) : ER := match d with
  | .vw l d => mainG0 P (viewS l s) op d
  | d => mainG0 P s op d
theorem mainG_ok {P : Program} {o : Oper} {s : St} {d : Dec} {C : List Prop} {x : AV} {H' : List Blk} (h : mainG P s o.op d = some (C, x, H')) (hC : allP C) : OpV P o s fun a b => a = x ∧ b = H' := by
  unfold mainG at h
  split at h
  · exact (mainG0_ok h hC).view
  · exact mainG0_ok h hC
section
variable {P : Program} {n0 : Nat} {Q : Exit → St → Prop} {s : St} {ops : Array Oper} {i : Nat} {o : Oper}
theorem goN_op {l : List Nat} (ho : ops[i]? = some o) (hw : wantG ops s o = some true) {x : AV} {H' : List Blk} (h : OpV P o s fun a b => a = x ∧ b = H') (k : GoN P n0 ops Q l (St.put ⟨s.t, H'⟩ o.dst x)) : GoN P n0 ops Q (i :: l) s := fun p0 w0 p w a Qr hn hS hR hQ => by
  rw [wpOps_cons]
  unfold wpOp
  rw [ho]
  simp only [wantG_ok hR hw, if_true]
  refine Or.inl (h p w a _ _ hR fun v av H2 p' w' ⟨e1, e2⟩ hH hv hS' => ?_)
  subst e1 e2
  exact k p0 w0 p' w' _ Qr hn (hS.trans hS') (Rst.put (hR.step hS' hH) _ hv) hQ
theorem goN_skip {l : List Nat} (ho : ops[i]? = some o) (hw : wantG ops s o = some false) (k : GoN P n0 ops Q l (s.put o.dst skipped)) : GoN P n0 ops Q (i :: l) s := fun p0 w0 p w a Qr hn hS hR hQ => by
  rw [wpOps_cons]
  unfold wpOp
  rw [ho]
  simp only [wantG_ok hR hw, Bool.false_eq_true, if_false]
  exact k p0 w0 p w _ Qr hn hS (hR.put _ (skipped_rep p w)) hQ
theorem goN_guard {l : List Nat} {g : Bool} (ho : ops[i]? = some o) (hg : guardE ops s o = some g) (hok : allP (pureG P s o g).1) {x : AV} (hx : (pureG P s o g).2 = x) (k : GoN P n0 ops Q l (s.put o.dst x)) : GoN P n0 ops Q (i :: l) s := fun p0 w0 p w a Qr hn hS hR hQ => by
  subst hx
  rw [wpOps_cons]
  unfold wpOp
  rw [ho]
  simp only [guardE_wanted hg hR]
  cases g with
  | true =>
    simp only [if_true]
    have hok := under_ok hok rfl
    rw [allP_append, allP_append, allP_dec] at hok
    obtain ⟨h1, hnc, h2⟩ := hok
    obtain ⟨v, hv, hrun⟩ := pureE_gen (o := o) rfl h2 hR.heap (evG_rep h1 hR)
    refine Or.inl ?_
    unfold Oper.wp
    rw [hrun w (Below.refl _ _)]
    refine k p0 w0 p w _ Qr hn hS (hR.put _ ?_) hQ
    refine ⟨fun _ => ?_, fun h => by cases h⟩
    exact notCnd_repT hv hnc
  | false =>
    simp only [Bool.false_eq_true, if_false]
    exact k p0 w0 p w _ Qr hn hS (hR.put _ ⟨fun h => (by cases h), fun _ => rfl⟩) hQ
end
/-- is the operation wanted: what is asked, and the answer; under directions -/
def wantD (ops : Array Oper) (s : St) (o : Oper) : Dec → Option (List Prop × Bool × Dec)
  | .br b d => match guardE ops s o with
    | some g => some ([g = b], b, d)
    | none => none
  | d => match o.guard with
    | none => some ([], true, d)
    | some _ => match guardE ops s o with
      | some g => some ([], g, d)
      | none => none
theorem wantD_ok {ops : Array Oper} {s : St} {o : Oper} {d d' : Dec} {C : List Prop} {b : Bool} (h : wantD ops s o d = some (C, b, d')) (hC : allP C) : wantG ops s o = some b := by
  have hsome : ∀ g, guardE ops s o = some g → o.guard ≠ none := fun g hg hn => by unfold guardE at hg; rw [hn] at hg; cases hg
  unfold wantD at h
  unfold wantG
  split at h
  · split at h
    · rename_i g hg
      cases h
      have h1 := hsome g hg
      have h2 : g = b := hC
      subst h2
      split
      · rename_i hn; exact (h1 hn).elim
      · exact hg
    · cases h
  · split at h
    · rename_i hn; cases h; rw [hn]
    · rename_i g' hg'
      split at h
      · rename_i g hg; cases h; rw [hg']; exact hg
      · cases h
abbrev GR := Option (List Prop × St)
def opG (P : Program) (n0 : Nat) (ops : Array Oper) (s : St) (o : Oper) (pd : List Pre × Dec) : GR :=
  match preL n0 pd.1 s with
  | none => none
  | some (C1, s1) => match pd.2 with
    | .gd => match guardE ops s1 o with
      | some g => some (C1 ++ (pureG P s1 o g).1, s1.put o.dst (pureG P s1 o g).2)
      | none => none
    | .gda x => match guardE ops s1 o with
      | some g => some (C1 ++ ((pureG P s1 o g).1 ++ [(pureG P s1 o g).2 = x]), s1.put o.dst x)
      | none => none
    | d => match wantD ops s1 o d with
      | some (C2, b, d') => bif b then (match mainG P s1 o.op d' with
          | some (C3, x, H) => some (C1 ++ (C2 ++ C3), St.put ⟨s1.t, H⟩ o.dst x)
          | none => none)
        else some (C1 ++ C2, s1.put o.dst skipped)
      | none => none
theorem opG_ok {P : Program} {n0 : Nat} {ops : Array Oper} {Q : Exit → St → Prop} {i : Nat} {l : List Nat} {s s' : St} {o : Oper} {pd : List Pre × Dec} {C : List Prop} (h : opG P n0 ops s o pd = some (C, s')) (hC : allP C) (ho : ops[i]? = some o) (k : GoN P n0 ops Q l s') : GoN P n0 ops Q (i :: l) s := by
  unfold opG at h
  split at h
  · cases h
  · rename_i C1 s1 h1
    split at h
    · split at h
      · rename_i g hg; cases h; rw [allP_append] at hC; exact (goN_guard ho hg hC.2 rfl k).wkn (preL_ok h1 hC.1)
      · cases h
    · split at h
      · rename_i x _ g hg; cases h; rw [allP_append, allP_append] at hC; exact (goN_guard ho hg hC.2.1 hC.2.2 k).wkn (preL_ok h1 hC.1)
      · cases h
    · split at h
      · rename_i C2 b d' hw
        rw [cond_eq_ite] at h
        split at h
        · rename_i hb
          subst hb
          split at h
          · rename_i C3 x H hm
            cases h
            rw [allP_append, allP_append] at hC
            exact (goN_op ho (wantD_ok hw hC.2.1) (mainG_ok hm hC.2.2) k).wkn (preL_ok h1 hC.1)
          · cases h
        · rename_i hb
          have hb : b = false := by simpa using hb
          subst hb
          cases h
          rw [allP_append] at hC
          exact (goN_skip ho (wantD_ok hw hC.2) k).wkn (preL_ok h1 hC.1)
      · cases h
def rgN (P : Program) (n0 : Nat) (ds : List Ent) (ops : Array Oper) (base : Nat) : List Nat → St → GR
  | [], s => some ([], s)
  | i :: l, s => match ops[i]? with
    | none => none
    | some o => match opG P n0 ops s o (look ds (base + i)) with
      | none => none
      | some (C, s1) => match rgN P n0 ds ops base l s1 with
        | none => none
        | some (D, s2) => some (C ++ D, s2)
theorem rgN_ok {P : Program} {n0 : Nat} {ds : List Ent} {ops : Array Oper} {Q : Exit → St → Prop} {base : Nat} : ∀ {l : List Nat} {s s' : St} {C : List Prop}, rgN P n0 ds ops base l s = some (C, s') → allP C → Q .normal s' → GoN P n0 ops Q l s
  | [], s, s', C, h, hC, hq => by cases h; exact fun p0 w0 p w a Qr hn hS hR hQ => hQ _ _ _ _ _ hq hR hS
  | i :: l, s, s', C, h, hC, hq => by
    unfold rgN at h
    split at h
    · cases h
    · rename_i o ho
      split at h
      · cases h
      · rename_i C1 s1 h1
        split at h
        · cases h
        · rename_i D s2 h2
          cases h
          rw [allP_append] at hC
          exact opG_ok h1 hC.1 ho (rgN_ok h2 hC.2 hq)

def freeI (ops : Array Oper) (listed : Array Bool) (i : Nat) : Bool := Region.noSelect ops && (Region.free .any ops listed i && (Region.ready .any ops listed).contains i)
/-- reading operations, taken first -/
def takeR (P : Program) (s : St) (op : Op) (d : Dec) : Option (List Prop × AV) := match kindOf op, newP P s op with
  | 0, none => match adj d (some ((pureE P s.H s.ev op).1, (pureE P s.H s.ev op).2, s.H)) with
    | some (C, x, _) => some (C, x)
    | none => none
  | _, _ => none
theorem PureV.weak {P : Program} {o : Oper} {s : St} {v x : AV} (h : PureV P o s v) (hw : ∀ (p : Pl) (w : World) (u : Value), Rep p w u v → Rep p w u x) : PureV P o s x := fun p w a hR => by
  obtain ⟨u, h1, h2⟩ := h p w a hR
  exact ⟨u, hw _ _ _ h1, h2⟩
theorem takeR_ok {P : Program} {o : Oper} {s : St} {d : Dec} {C : List Prop} {x : AV} (h : takeR P s o.op d = some (C, x)) (hC : allP C) : PureV P o s x := by
  unfold takeR at h
  split at h
  · split at h
    · rename_i C1 y H hy
      cases h
      unfold adj at hy
      simp only [] at hy
      split at hy
      · cases hy; exact pureE_ok rfl hC
      · cases hy; rw [allP_append] at hC; exact (pureE_ok rfl hC.1).weak fun p w u hu => by have h2 : (pureE P s.H s.ev o.op).2 = x := hC.2; rw [← h2]; exact hu
      · cases hy; rw [allP_append] at hC; exact (pureE_ok rfl hC.1).weak hC.2
      · cases hy
    · cases h
  · cases h
def kindB (P : Program) (s : St) (i : Nat) (ops : Array Oper) : Bool := match ops[i]? with
  | some o => (kindOf o.op).beq 0 && (match newP P s o.op with | none => true | some _ => false)
  | none => false
def stillI (P : Program) (s : St) (i : Nat) (ops : Array Oper) : Bool := match ops[i]? with
  | some o => (match o.guard with | none => true | some _ => false) && stillB P s.ev o.op
  | none => false
def flagsOf : List Pre → List Bool × Bool
  | [] => ([], false)
  | .flags bf nf :: _ => (bf, nf)
  | _ :: r => flagsOf r
def below (al : List Nat) (i : Nat) : Nat := (al.filter fun j => Nat.blt j i).length
/-- new blocks in the order of their operations -/
def renumK (n1 p len d : Nat) : List Nat := List.range (n1 + p) ++ ((List.range d).map (len + ·) ++ (List.range (len - (n1 + p))).map (n1 + p + ·))
def renumF (ds : List Ent) (base n1 len i : Nat) (al : List Nat) (bf : List Bool) (ks : List Nat) : List Bool := ks.map fun k => bif Nat.blt k n1 then bf.getD k false else bif Nat.blt k len then (flagsOf (look ds (base + al.getD (k - n1) 0)).1).2 else (flagsOf (look ds (base + i)).1).2
def renumG (n0 : Nat) (ds : List Ent) (base n1 i : Nat) (al : List Nat) (len : Nat) (s : St) : Option (List Prop × List Nat × St) :=
  bif (s.H.length.beq len) || (below al i).beq al.length then some ([], al ++ List.replicate (s.H.length - len) i, s)
  else match preE n0 (.keep (renumK n1 (below al i) len (s.H.length - len)) (renumF ds base n1 len i al (flagsOf (look ds (base + i)).1).1 (renumK n1 (below al i) len (s.H.length - len)))) s with
    | some (C, s') => some (C, al.take (below al i) ++ (List.replicate (s.H.length - len) i ++ al.drop (below al i)), s')
    | none => none
theorem renumG_ok {n0 : Nat} {ds : List Ent} {base n1 i : Nat} {al al' : List Nat} {len : Nat} {s s' : St} {C : List Prop} (h : renumG n0 ds base n1 i al len s = some (C, al', s')) (hC : allP C) : Wkn n0 s s' := by
  unfold renumG at h
  rw [cond_eq_ite] at h
  split at h
  · cases h; exact Wkn.refl _ _
  · split at h
    · rename_i D s2 h2; cases h; exact preE_ok h2 hC
    · cases h
abbrev DS := Array Bool × List Nat × St
/-- one operation of a region that draws its order -/
def stepD (P : Program) (n0 : Nat) (ds : List Ent) (ops : Array Oper) (base : Nat) (qc : Bool) (n1 : Nat) (q : DS) (i : Nat) : Option (List Prop × DS) := match ops[i]? with
  | none => none
  | some o => match preL n0 (look ds (base + i)).1 q.2.2 with
    | none => none
    | some (C1, s1) => match wantD ops s1 o (look ds (base + i)).2 with
      | none => none
      | some (C2, b, d') => bif b then (match (bif quietB qc ops i then mainB P s1 o.op d' else mainG P s1 o.op d') with
          | none => none
          | some (C3, x, H) => match renumG n0 ds base n1 i q.2.1 s1.H.length (St.put ⟨s1.t, H⟩ o.dst x) with
            | none => none
            | some (C4, al, s2) => some (C1 ++ (C2 ++ (C3 ++ C4)), (q.1.setIfInBounds i true, al, s2)))
        else some (C1 ++ C2, (q.1.setIfInBounds i true, q.2.1, s1.put o.dst skipped))
section
variable {P : Program} {n0 : Nat} {Q : Exit → St → Prop} {ops : Array Oper} {quiet : Nat → Bool} {n : Nat}
/-- one operation, wherever it comes -/
def OpT (P : Program) (ops : Array Oper) (Q : Exit → St → Prop) (quiet : Nat → Bool) (n0 n : Nat) (listed : Array Bool) (s : St) (i : Nat) : Prop :=
  ∀ (p0 : Pl) (w0 : World) (p : Pl) (w : World) (a : Act) (K : Act → World → Prop), p0.n = n0 → listed.size = ops.size → Closed ops listed → i ∈ Region.ready .any ops listed → Step p0 w0 p w → Rst p s a w → (∀ s' p' a' w', Q .normal s' → Rst p' s' a' w' → Step p0 w0 p' w' → K a' w') →
    wpOp P ops (fun e a' w' => e = .normal ∧ K a' w') i (fun a' w' => (quiet i = true → Below w.heap.size w w') ∧ wpAnyT P ops (fun e a' w' => e = .normal ∧ K a' w') quiet n (listed.setIfInBounds i true) a' w') a w
theorem runT_all {listed : Array Bool} {s : St} {r : List Nat} (hr : Region.ready .any ops listed = r) (hne : r ≠ []) (h : ∀ i ∈ r, OpT P ops Q quiet n0 n listed s i) : RunT P ops Q quiet n0 (n + 1) listed s := fun p0 w0 p w a K hn hsz hcl hS hR hQ =>
  wpAnyT_all hr hne fun i hi => h i hi p0 w0 p w a K hn hsz hcl (hr.symm ▸ hi) hS hR hQ
end
theorem stepD_ok {P : Program} {n0 : Nat} {ds : List Ent} {ops : Array Oper} {Q : Exit → St → Prop} {base : Nat} {qc : Bool} {n1 n i : Nat} {q q' : DS} {C : List Prop} (h : stepD P n0 ds ops base qc n1 q i = some (C, q')) (hC : allP C) (k : RunT P ops Q (quietB qc ops) n0 n q'.1 q'.2.2) : OpT P ops Q (quietB qc ops) n0 n q.1 q.2.2 i := by
  unfold stepD at h
  split at h
  · cases h
  · rename_i o ho
    split at h
    · cases h
    · rename_i C1 s1 h1
      split at h
      · cases h
      · rename_i C2 b d' hw
        rw [cond_eq_ite] at h
        intro p0 w0 p w a K hn hsz hcl hr hS hR hQ
        have hcl' := closed_set hcl hr
        have hsz' : (q.1.setIfInBounds i true).size = ops.size := by simpa using hsz
        split at h
        · rename_i hb
          subst hb
          split at h
          · cases h
          · rename_i C3 x H h3
            split at h
            · cases h
            · rename_i C4 al s2 h4
              cases h
              rw [allP_append, allP_append, allP_append] at hC
              obtain ⟨c1, c2, c3, c4⟩ := hC
              have k' := k.wkn (renumG_ok h4 c4)
              obtain ⟨p1, hR1, hS1⟩ := preL_ok h1 c1 p0 w0 p a w hn hS hR
              unfold wpOp
              rw [ho]
              simp only [wantG_ok hR1 (wantD_ok hw c2), if_true]
              refine Or.inl ?_
              cases hq1 : quietB qc ops i with
              | true =>
                rw [hq1] at h3
                refine mainB_ok h3 c3 p1 w a _ _ hR1 fun v av H2 p' w' ⟨e1, e2⟩ a1 a2 a3 a4 => ⟨fun _ => a4, ?_⟩
                subst e1 e2
                exact k' p0 w0 p' w' _ K hn hsz' hcl' (hS1.trans a3) (Rst.put (hR1.step a3 a1) _ a2) hQ
              | false =>
                rw [hq1] at h3
                refine mainG_ok h3 c3 p1 w a _ _ hR1 fun v av H2 p' w' ⟨e1, e2⟩ a1 a2 a3 => ⟨fun h => (by cases h), ?_⟩
                subst e1 e2
                exact k' p0 w0 p' w' _ K hn hsz' hcl' (hS1.trans a3) (Rst.put (hR1.step a3 a1) _ a2) hQ
        · rename_i hb
          have hb : b = false := by simpa using hb
          subst hb
          cases h
          rw [allP_append] at hC
          obtain ⟨p1, hR1, hS1⟩ := preL_ok h1 hC.1 p0 w0 p a w hn hS hR
          unfold wpOp
          rw [ho]
          simp only [wantG_ok hR1 (wantD_ok hw hC.2), Bool.false_eq_true, if_false]
          exact ⟨fun _ => Below.refl _ _, k p0 w0 p1 w _ K hn hsz' hcl' hS1 (hR1.put _ (skipped_rep p1 w)) hQ⟩
def adjS : Dec → AV → Option (List Prop × AV)
  | .no, v => some ([], v)
  | .as x, v => some ([v = x], x)
  | _, _ => none
theorem adjS_ok {d : Dec} {v x : AV} {C : List Prop} (h : adjS d v = some (C, x)) (hC : allP C) : x = v := by
  unfold adjS at h
  split at h
  · cases h; rfl
  · cases h; exact Eq.symm (show v = x from hC)
  · cases h
/-- a reading operation, taken first -/
def takeD (P : Program) (n0 : Nat) (ds : List Ent) (ops : Array Oper) (base : Nat) (qc : Bool) (q : DS) (i : Nat) : Option (List Prop × DS) := match ops[i]? with
  | none => none
  | some o => bif freeI ops q.1 i && firstB ops (quietB qc ops) q.1 i then
      (match preL n0 (look ds (base + i)).1 q.2.2 with
      | some (C1, s1) => match wantD ops s1 o (look ds (base + i)).2 with
        | some (C2, b, d') => bif b then (match takeR P s1 o.op d' with
            | some (C3, x) => some (C1 ++ (C2 ++ C3), (q.1.setIfInBounds i true, q.2.1, s1.put o.dst x))
            | none => none)
          else some (C1 ++ C2, (q.1.setIfInBounds i true, q.2.1, s1.put o.dst skipped))
        | none => none
      | none => none)
    else bif freeI ops q.1 i then
      (match preL n0 (look ds (base + i)).1 q.2.2 with
      | some (C1, s1) => bif stillI P s1 i ops then (match adjS (look ds (base + i)).2 (pureE P s1.H s1.ev o.op).2 with
          | some (C3, x) => some (C1 ++ C3, (q.1.setIfInBounds i true, q.2.1, s1.put o.dst x))
          | none => none) else none
      | none => none)
    else none
theorem takeD_ok {P : Program} {n0 : Nat} {ds : List Ent} {ops : Array Oper} {Q : Exit → St → Prop} {base : Nat} {qc : Bool} {n i : Nat} {q q' : DS} {C : List Prop} (h : takeD P n0 ds ops base qc q i = some (C, q')) (hC : allP C) (k : RunT P ops Q (quietB qc ops) n0 n q'.1 q'.2.2) : RunT P ops Q (quietB qc ops) n0 (n + 1) q.1 q.2.2 := by
  unfold takeD at h
  split at h
  · cases h
  · rename_i o ho
    rw [cond_eq_ite] at h
    split at h
    · rename_i hc
      rw [Bool.and_eq_true] at hc
      split at h
      · rename_i C1 s1 h1
        split at h
        · rename_i C2 b d' hw
          rw [cond_eq_ite] at h
          split at h
          · rename_i hb
            subst hb
            split at h
            · rename_i C3 x h3
              cases h
              rw [allP_append, allP_append] at hC
              exact (runT_take ho hc.1 hc.2 (wantD_ok hw hC.2.1) (takeR_ok h3 hC.2.2) k).wkn (preL_ok h1 hC.1)
            · cases h
          · rename_i hb
            have hb : b = false := by simpa using hb
            subst hb
            cases h
            rw [allP_append] at hC
            exact (runT_skip ho hc.1 (wantD_ok hw hC.2) k).wkn (preL_ok h1 hC.1)
        · cases h
      · cases h
    · rw [cond_eq_ite] at h
      split at h
      · rename_i hc
        split at h
        · rename_i C1 s1 h1
          rw [cond_eq_ite] at h
          split at h
          · rename_i hst
            split at h
            · rename_i C3 x h3
              cases h
              rw [allP_append] at hC
              obtain rfl := adjS_ok h3 hC.2
              unfold stillI at hst
              rw [ho] at hst
              simp only [Bool.and_eq_true] at hst
              have hg : o.guard = none := by
                cases hg : o.guard with
                | none => rfl
                | some g => rw [hg] at hst; exact absurd hst.1 (by simp)
              exact (runT_still ho hc (by unfold wantG; rw [hg]) hst.2 k).wkn (preL_ok h1 hC.1)
            · cases h
          · cases h
        · cases h
      · cases h
/-- what is asked: conditions, and states that are to be one -/
structure CB where
  c : List Prop
  b : List (St × St)
def CB.add (x y : CB) : CB := ⟨x.c ++ y.c, x.b ++ y.b⟩
def CB.of (c : List Prop) : CB := ⟨c, []⟩
def CB.eqs (b : List (St × St)) : CB := ⟨[], b⟩
def CB.ok (x : CB) : Prop := allP x.c ∧ ∀ z ∈ x.b, z.1 = z.2
theorem CB.ok_add {x y : CB} : (x.add y).ok ↔ x.ok ∧ y.ok := by
  unfold CB.ok CB.add
  simp only [allP_append, List.mem_append]
  exact ⟨fun ⟨⟨a, b⟩, h⟩ => ⟨⟨a, fun z hz => h z (Or.inl hz)⟩, b, fun z hz => h z (Or.inr hz)⟩, fun ⟨⟨a, h1⟩, b, h2⟩ => ⟨⟨a, b⟩, fun z hz => hz.elim (h1 z) (h2 z)⟩⟩
theorem CB.ok_of {c : List Prop} : (CB.of c).ok ↔ allP c := ⟨fun h => h.1, fun h => ⟨h, fun z hz => absurd hz (by simp [CB.of])⟩⟩
theorem CB.ok_eqs {b : List (St × St)} : (CB.eqs b).ok ↔ ∀ z ∈ b, z.1 = z.2 := ⟨fun h => h.2, fun h => ⟨trivial, h⟩⟩
/-- the states that are come to, all orders: those of the same operations are to be one -/
def insD (q : DS) : List DS → List (St × St) × List DS
  | [] => ([], [q])
  | q' :: r => bif q.1.toList == q'.1.toList then ([(q.2.2, q'.2.2)], q' :: r) else ((insD q r).1, q' :: (insD q r).2)
theorem insD_ok {P : Program} {n0 n : Nat} {ops : Array Oper} {Q : Exit → St → Prop} {quiet : Nat → Bool} {q : DS} : ∀ {l : List DS}, (∀ z ∈ (insD q l).1, z.1 = z.2) → (∀ x ∈ (insD q l).2, RunT P ops Q quiet n0 n x.1 x.2.2) → RunT P ops Q quiet n0 n q.1 q.2.2 ∧ ∀ x ∈ l, RunT P ops Q quiet n0 n x.1 x.2.2
  | [], _, h => ⟨h q (by simp [insD]), fun x hx => absurd hx (by simp)⟩
  | q' :: r, hC, h => by
    unfold insD at hC h
    rw [cond_eq_ite] at hC h
    split at hC
    · rename_i he
      rw [if_pos he] at h
      rw [beq_iff_eq] at he
      have he' : q.1 = q'.1 := Array.ext' he
      have hs : q.2.2 = q'.2.2 := hC (q.2.2, q'.2.2) (by simp)
      refine ⟨?_, h⟩
      rw [he', hs]
      exact h q' (by simp)
    · rename_i he
      rw [if_neg he] at h
      obtain ⟨a1, a2⟩ := insD_ok hC fun x hx => h x (by simp [hx])
      exact ⟨a1, fun x hx => (List.mem_cons.1 hx).elim (fun e => e ▸ h q' (by simp)) (a2 x)⟩
/-- all that may come next -/
def nextD (P : Program) (n0 : Nat) (ds : List Ent) (ops : Array Oper) (base : Nat) (qc : Bool) (n1 : Nat) (q : DS) : List Nat → List DS → Option (CB × List DS)
  | [], acc => some (CB.of [], acc)
  | i :: r, acc => match stepD P n0 ds ops base qc n1 q i with
    | none => none
    | some (C, q') => match nextD P n0 ds ops base qc n1 q r (insD q' acc).2 with
      | none => none
      | some (D, acc') => some ((CB.of C).add ((CB.eqs (insD q' acc).1).add D), acc')
theorem nextD_ok {P : Program} {n0 n : Nat} {ds : List Ent} {ops : Array Oper} {Q : Exit → St → Prop} {base : Nat} {qc : Bool} {n1 : Nat} {q : DS} : ∀ {r : List Nat} {acc acc' : List DS} {C : CB}, nextD P n0 ds ops base qc n1 q r acc = some (C, acc') → C.ok → (∀ x ∈ acc', RunT P ops Q (quietB qc ops) n0 n x.1 x.2.2) →
    (∀ i ∈ r, OpT P ops Q (quietB qc ops) n0 n q.1 q.2.2 i) ∧ ∀ x ∈ acc, RunT P ops Q (quietB qc ops) n0 n x.1 x.2.2
  | [], acc, acc', C, h, hC, k => by cases h; exact ⟨fun i hi => absurd hi (by simp), k⟩
  | i :: r, acc, acc', C, h, hC, k => by
    unfold nextD at h
    split at h
    · cases h
    · rename_i C1 q' h1
      split at h
      · cases h
      · rename_i D acc2 h2
        cases h
        rw [CB.ok_add, CB.ok_add, CB.ok_of, CB.ok_eqs] at hC
        obtain ⟨a1, a2⟩ := nextD_ok h2 hC.2.2 k
        obtain ⟨b1, b2⟩ := insD_ok hC.2.1 a2
        refine ⟨fun j hj => ?_, b2⟩
        rcases List.mem_cons.1 hj with rfl | hj
        · exact stepD_ok h1 hC.1 b1
        · exact a1 j hj
/-- one level: every state one operation on -/
def lineD (P : Program) (n0 : Nat) (ds : List Ent) (ops : Array Oper) (base : Nat) (qc : Bool) (n1 : Nat) : List DS → List DS → Option (CB × List DS)
  | [], acc => some (CB.of [], acc)
  | q :: r, acc => match (match Region.ready .any ops q.1 with
      | [] => none
      | l => match l.find? (fun i => kindB P q.2.2 i ops && (freeI ops q.1 i && (firstB ops (quietB qc ops) q.1 i || stillI P q.2.2 i ops))) with
        | some i => (match takeD P n0 ds ops base qc q i with
          | some (C, q') => some ((CB.of C).add (CB.eqs (insD q' acc).1), (insD q' acc).2)
          | none => none)
        | none => nextD P n0 ds ops base qc n1 q l acc) with
    | none => none
    | some (C, acc1) => match lineD P n0 ds ops base qc n1 r acc1 with
      | none => none
      | some (D, acc2) => some (C.add D, acc2)
theorem lineD_ok {P : Program} {n0 n : Nat} {ds : List Ent} {ops : Array Oper} {Q : Exit → St → Prop} {base : Nat} {qc : Bool} {n1 : Nat} : ∀ {l acc acc' : List DS} {C : CB}, lineD P n0 ds ops base qc n1 l acc = some (C, acc') → C.ok → (∀ x ∈ acc', RunT P ops Q (quietB qc ops) n0 n x.1 x.2.2) →
    (∀ x ∈ l, RunT P ops Q (quietB qc ops) n0 (n + 1) x.1 x.2.2) ∧ ∀ x ∈ acc, RunT P ops Q (quietB qc ops) n0 n x.1 x.2.2
  | [], acc, acc', C, h, hC, k => by cases h; exact ⟨fun i hi => absurd hi (by simp), k⟩
  | q :: r, acc, acc', C, h, hC, k => by
    unfold lineD at h
    split at h
    · cases h
    · rename_i C1 acc1 h1
      split at h
      · cases h
      · rename_i D acc2 h2
        cases h
        rw [CB.ok_add] at hC
        obtain ⟨a1, a2⟩ := lineD_ok h2 hC.2 k
        have key : RunT P ops Q (quietB qc ops) n0 (n + 1) q.1 q.2.2 ∧ ∀ x ∈ acc, RunT P ops Q (quietB qc ops) n0 n x.1 x.2.2 := by
          split at h1
          · cases h1
          · rename_i l hne
            split at h1
            · split at h1
              · rename_i C2 q' h3
                cases h1
                rw [CB.ok_add, CB.ok_of, CB.ok_eqs] at hC
                obtain ⟨b1, b2⟩ := insD_ok hC.1.2 a2
                exact ⟨takeD_ok h3 hC.1.1 b1, b2⟩
              · cases h1
            · obtain ⟨b1, b2⟩ := nextD_ok h1 hC.1 a2
              exact ⟨runT_all rfl hne b1, b2⟩
        refine ⟨fun x hx => ?_, key.2⟩
        rcases List.mem_cons.1 hx with rfl | hx
        · exact key.1
        · exact a1 x hx
def drT (P : Program) (n0 : Nat) (ds : List Ent) (ops : Array Oper) (base : Nat) (qc : Bool) (n1 : Nat) : Nat → List DS → Option (CB × St)
  | 0, l => match l with
    | [q] => match Region.ready .any ops q.1 with | [] => some (CB.of [], q.2.2) | _ => none
    | _ => none
  | n + 1, l => match lineD P n0 ds ops base qc n1 l [] with
    | none => none
    | some (C, l') => match drT P n0 ds ops base qc n1 n l' with
      | none => none
      | some (D, s) => some (C.add D, s)
theorem drT_ok {P : Program} {n0 : Nat} {ds : List Ent} {ops : Array Oper} {Q : Exit → St → Prop} {base : Nat} {qc : Bool} {n1 : Nat} : ∀ (n : Nat) (l : List DS) (s' : St) (C : CB), drT P n0 ds ops base qc n1 n l = some (C, s') → C.ok → Q .normal s' → ∀ x ∈ l, RunT P ops Q (quietB qc ops) n0 n x.1 x.2.2
  | 0, l, s', C, h, hC, hq => by
    unfold drT at h
    split at h
    · rename_i q
      split at h
      · rename_i hr; cases h; intro x hx; rw [List.mem_singleton] at hx; subst hx; exact runT_done hr hq
      · cases h
    · cases h
  | n + 1, l, s', C, h, hC, hq => by
    unfold drT at h
    split at h
    · cases h
    · rename_i C1 l' h1
      split at h
      · cases h
      · rename_i D s2 h2
        cases h
        rw [CB.ok_add] at hC
        exact (lineD_ok h1 hC.1 (drT_ok n l' s' D h2 hC.2 hq)).1
def isHeapCall : Dec → Bool | .callH _ _ => true | .callS _ _ _ _ _ => true | .br _ d => isHeapCall d | _ => false
/-- calls are lent what they are passed, or none is made with the heap -/
def qcOf (ds : List Ent) (base n : Nat) : Bool := !ds.any fun e => isHeapCall e.d && (Nat.ble base e.k && Nat.blt e.k (base + n))
def drG (P : Program) (n0 : Nat) (ds : List Ent) (ops : Array Oper) (base : Nat) (s : St) : Option (CB × St) := drT P n0 ds ops base (qcOf ds base ops.size) s.H.length ops.size [(Array.replicate ops.size false, [], s)]
theorem drG_ok {P : Program} {n0 : Nat} {ds : List Ent} {ops : Array Oper} {Q : Exit → St → Prop} {base : Nat} {id : Nat} {s s' : St} {C : CB} (hm : P.follows .mixedOrders = true) (h : drG P n0 ds ops base s = some (C, s')) (hC : C.ok) (hq : Q .normal s') : GoV P n0 (.region id ops true) Q s := fun p0 w0 p w a Qr hn hS hR hQ => by
  have hb : Below w.heap.size w { w with drawn := w.drawn + 1 } := ⟨rfl, rfl, rfl, Nat.le_refl _, fun _ _ => rfl⟩
  have hS0 := Step.of_below hb hR.heap.lt
  refine wp_mono (wp_region_any (Q := fun e a' w' => e = .normal ∧ Qr .normal a' w') hm (wpAny_of_T _ _ _ _ (drT_ok _ _ s' C h hC (Q := Q) hq (Array.replicate ops.size false, [], s) (by simp) p0 w0 p _ a (Qr .normal) hn (by simp) (closed0 ops) (hS.trans hS0) (hR.below hb) fun s' p' a' w' q r k => hQ _ _ _ _ _ q r k))) ?_
  rintro e a' w' ⟨rfl, h⟩
  exact h

section
variable {P : Program} {n0 : Nat} {Q : Exit → St → Prop} {s : St}
theorem goV_seq {x y : Code} (h : GoV P n0 x (fun e s1 => match e with | .normal => GoV P n0 y Q s1 | e => Q e s1) s) : GoV P n0 (.seq x y) Q s := fun p0 w0 p w a Qr hn hS hR hQ =>
  wp_seq (h p0 w0 p w a _ hn hS hR fun e s' p' a' w' hq hR' hS' => by
    cases e with
    | normal => exact hq p0 w0 p' w' a' Qr hn hS' hR' hQ
    | _ => exact hQ _ _ _ _ _ hq hR' hS')
theorem goV_cond {c : Operand} {x y : Code} (b : Bool) (hc : s.ev c = .bool b) (h1 : b = true → GoV P n0 x Q s) (h2 : b = false → GoV P n0 y Q s) : GoV P n0 (.cond c x y) Q s := fun p0 w0 p w a Qr hn hS hR hQ => by
  have hb : a.eval c = .bool b := rep_bool (hc ▸ hR.ev c)
  exact wp_cond_split hb (fun hb => h1 hb p0 w0 p w a Qr hn hS hR hQ) (fun hb => h2 hb p0 w0 p w a Qr hn hS hR hQ)
theorem goV_block {id : Nat} {c : Code} (h : GoV P n0 c (blockV id Q) s) : GoV P n0 (.block id c) Q s := fun p0 w0 p w a Qr hn hS hR hQ => by
  refine wp_block (h p0 w0 p w a _ hn hS hR fun e s' p' a' w' hq hR' hS => ?_)
  cases e with
  | exit id' =>
    simp only [blockV, Exit.inBlock] at hq ⊢
    split at hq <;> rename_i he
    · rw [if_pos he]; exact hQ _ _ _ _ _ hq hR' hS
    · rw [if_neg he]; exact hQ _ _ _ _ _ hq hR' hS
  | _ => exact hQ _ _ _ _ _ hq hR' hS
theorem goV_loop {c : Code} (I : Nat → St → Prop) (n : Nat) (h0 : I n s) (h : ∀ n s, I n s → GoV P n0 c (fun e s1 => match e with | .normal => ∃ m, m < n ∧ I m s1 | e => Q e s1) s) : GoV P n0 (.loop c) Q s := fun p0 w0 p w a Qr hn hS hR hQ => by
  refine wp_loop_ghost (fun n a' w' => ∃ s' p', I n s' ∧ Rst p' s' a' w' ∧ Step p0 w0 p' w') n ⟨s, p, h0, hR, hS⟩ ?_
  rintro n a1 w1 ⟨s1, p1, hI, hR1, hS1⟩
  refine h n s1 hI p0 w0 p1 w1 a1 _ hn hS1 hR1 fun e s2 p2 a2 w2 hq hR2 hS2 => ?_
  cases e with
  | normal => obtain ⟨m, hm, hI2⟩ := hq; exact ⟨m, hm, _, p2, hI2, hR2, hS2⟩
  | _ => exact hQ _ _ _ _ _ hq hR2 hS2
theorem goV_region {id : Nat} {ops : Array Oper} (h : GoN P n0 ops Q (List.range ops.size) s) : GoV P n0 (.region id ops false) Q s := fun p0 w0 p w a Qr hn hS hR hQ => wp_region (h p0 w0 p w a Qr hn hS hR hQ)
end
/-- the loops of a piece of code, by number: their bodies -/
def nLoops : Code → Nat
  | .seq x y => nLoops x + nLoops y
  | .cond _ x y => nLoops x + nLoops y
  | .block _ x => nLoops x
  | .loop x => nLoops x + 1
  | .scope x => nLoops x
  | _ => 0
def nthLoop : Code → Nat → Code
  | .seq x y, i => bif Nat.blt i (nLoops x) then nthLoop x i else nthLoop y (i - nLoops x)
  | .cond _ x y, i => bif Nat.blt i (nLoops x) then nthLoop x i else nthLoop y (i - nLoops x)
  | .block _ x, i => nthLoop x i
  | .loop x, i => match i with | 0 => x | j + 1 => nthLoop x j
  | .scope x, i => nthLoop x i
  | _, _ => .skip
def loopB (fn : Func) (i : Nat) : Code := nthLoop (bodyOf fn) i
/-- a loop that ends in one state -/
def LoopG (P : Program) (n0 : Nat) (fn : Func) (i : Nat) (e : Exit) (s' s : St) : Prop := GoV P n0 (.loop (loopB fn i)) (isX e s') s
def addC (C : CB) (r : Option (CB × Exit × St × Nat)) : Option (CB × Exit × St × Nat) := match r with
  | some (D, q) => some (C.add D, q)
  | none => none
def loopD : Dec → Option (Exit × St) | .loop e s => some (e, s) | _ => none
def brD : Dec → Option Bool | .br b _ => some b | _ => none
abbrev XR := Option (CB × Exit × St × Nat)
def runG (P : Program) (n0 : Nat) (ds : List Ent) (m : Nat) : Bool → Code → St → Nat → XR :=
  Nat.rec (fun _ _ _ _ => none) (fun _ ih fl c s k => match c with
    | .skip => some (CB.of [], .normal, s, k)
    | .ret => some (CB.of [], .ret, s, k)
    | .exit i => some (CB.of [], .exit i, s, k)
    | .seq x y => match ih false x s k with
      | some (C, .normal, s', k') => addC C (ih false y s' k')
      | r => r
    | .cond c x y => match preL n0 (look ds k).1 s with
      | none => none
      | some (C, s1) => match s1.ev c with
        | .bool b => match brD (look ds k).2 with
          | some b' => addC (CB.of (C ++ [b = b'])) (bif b' then ih false x s1 (k + 1) else ih false y s1 (k + 1))
          | none => addC (CB.of C) (bif b then ih false x s1 (k + 1) else ih false y s1 (k + 1))
        | _ => none
    | .block i b => match ih false b s k with
      | some (C, .exit j, s', k') => bif j == i then some (C, .normal, s', k') else some (C, .exit j, s', k')
      | r => r
    | .loop b => match preL n0 (look ds k).1 s with
      | none => none
      | some (C, s1) => match (bif fl then none else loopD (look ds k).2) with
        | some (e, s') => some (CB.of (C ++ [GoV P n0 (.loop b) (isX e s') s1]), e, s', k + 1)
        | none => match ih false b s1 (k + 1) with
          | some (D, .normal, s', k') => addC ((CB.of C).add D) (ih true (.loop b) s' k')
          | r => addC (CB.of C) r
    | .region _ ops d => match (bif d then (bif P.follows .mixedOrders then drG P n0 ds ops k s else none) else (match rgN P n0 ds ops k (List.range ops.size) s with | some (C, s1) => some (CB.of C, s1) | none => none)) with
      | some (C, s') => some (C, .normal, s', k + ops.size)
      | none => none
    | _ => none) m
theorem addC_ok {C : CB} {r : Option (CB × Exit × St × Nat)} {D : CB} {q : Exit × St × Nat} (h : addC C r = some (D, q)) : ∃ E, r = some (E, q) ∧ D = C.add E := by
  unfold addC at h
  split at h
  · rename_i E q'; cases h; exact ⟨E, rfl, rfl⟩
  · cases h
theorem runG_loop {P : Program} {n0 : Nat} {ds : List Ent} (n : Nat) (fl : Bool) (b : Code) (s : St) (k : Nat) : runG P n0 ds (n + 1) fl (.loop b) s k = match preL n0 (look ds k).1 s with
      | none => none
      | some (C, s1) => match (bif fl then none else loopD (look ds k).2) with
        | some (e, s') => some (CB.of (C ++ [GoV P n0 (.loop b) (isX e s') s1]), e, s', k + 1)
        | none => match runG P n0 ds n false b s1 (k + 1) with
          | some (D, .normal, s', k') => addC ((CB.of C).add D) (runG P n0 ds n true (.loop b) s' k')
          | r => addC (CB.of C) r := rfl
theorem runG_ok {P : Program} {n0 : Nat} {ds : List Ent} : ∀ (m : Nat) (fl : Bool) (c : Code) (s : St) (k : Nat) (C : CB) (e : Exit) (s' : St) (k' : Nat), runG P n0 ds m fl c s k = some (C, e, s', k') → C.ok → GoV P n0 c (isX e s') s
  | 0, fl, c, s, k, C, e, s', k', h, _ => by cases h
  | m + 1, fl, c, s, k, C, e, s', k', h, hC => by
    have ih := runG_ok (P := P) (n0 := n0) (ds := ds) m
    cases c with
    | skip => cases h; exact .of (wpV_skip ⟨rfl, rfl⟩)
    | ret => cases h; exact .of (wpV_ret ⟨rfl, rfl⟩)
    | exit i => cases h; exact .of (wpV_exit ⟨rfl, rfl⟩)
    | seq x y =>
      change (match runG P n0 ds m false x s k with | some (C, .normal, s', k') => addC C (runG P n0 ds m false y s' k') | r => r) = _ at h
      refine goV_seq ?_
      split at h
      · rename_i C1 s1 k1 hx
        obtain ⟨E, h2, rfl⟩ := addC_ok h
        rw [CB.ok_add] at hC
        refine (ih false x s k _ _ _ _ hx hC.1).mono ?_
        rintro e2 s2 ⟨rfl, rfl⟩
        exact ih false y s2 k1 _ _ _ _ h2 hC.2
      · rename_i hne
        refine (ih false x s k _ _ _ _ h hC).mono ?_
        rintro e2 s2 ⟨rfl, rfl⟩
        cases e2 with
        | normal => exact (hne _ _ _ h).elim
        | _ => exact ⟨rfl, rfl⟩
    | cond b x y =>
      change (match preL n0 (look ds k).1 s with
        | none => none
        | some (C, s1) => match s1.ev b with
          | .bool b => match brD (look ds k).2 with
            | some b' => addC (CB.of (C ++ [b = b'])) (bif b' then runG P n0 ds m false x s1 (k + 1) else runG P n0 ds m false y s1 (k + 1))
            | none => addC (CB.of C) (bif b then runG P n0 ds m false x s1 (k + 1) else runG P n0 ds m false y s1 (k + 1))
          | _ => none) = _ at h
      split at h
      · cases h
      · rename_i C1 s1 h1
        split at h
        · rename_i bb hb
          have key : ∀ (b' : Bool) (D : CB), bb = b' → (bif b' then runG P n0 ds m false x s1 (k + 1) else runG P n0 ds m false y s1 (k + 1)) = some (D, e, s', k') → D.ok → GoV P n0 (.cond b x y) (isX e s') s1 := fun b' D hbb h2 hD => by
            subst hbb
            refine goV_cond bb hb (fun ht => ?_) (fun hf => ?_)
            · rw [ht] at h2; exact ih false x s1 _ _ _ _ _ h2 hD
            · rw [hf] at h2; exact ih false y s1 _ _ _ _ _ h2 hD
          split at h
          · rename_i b' _
            obtain ⟨E, h2, rfl⟩ := addC_ok h
            rw [CB.ok_add, CB.ok_of, allP_append] at hC
            exact (key b' E hC.1.2 h2 hC.2).wkn (preL_ok h1 hC.1.1)
          · obtain ⟨E, h2, rfl⟩ := addC_ok h
            rw [CB.ok_add, CB.ok_of] at hC
            exact (key bb E rfl h2 hC.2).wkn (preL_ok h1 hC.1)
        · cases h
    | block i b =>
      change (match runG P n0 ds m false b s k with | some (C, .exit j, s', k') => bif j == i then some (C, Exit.normal, s', k') else some (C, Exit.exit j, s', k') | r => r) = _ at h
      refine goV_block ?_
      split at h
      · rename_i C1 j s1 k1 hx
        rw [cond_eq_ite] at h
        have hC1 : C1.ok := by split at h <;> (cases h; exact hC)
        refine (ih false b s k _ _ _ _ hx hC1).mono ?_
        rintro e2 s2 ⟨rfl, rfl⟩
        simp only [blockV]
        simp only [beq_iff_eq] at h
        split at h
        · rename_i hj; rw [if_pos hj]; cases h; exact ⟨rfl, rfl⟩
        · rename_i hj; rw [if_neg hj]; cases h; exact ⟨rfl, rfl⟩
      · rename_i hne
        refine (ih false b s k _ _ _ _ h hC).mono ?_
        rintro e2 s2 ⟨rfl, rfl⟩
        cases e2 with
        | exit j => exact (hne _ _ _ _ h).elim
        | _ => exact ⟨rfl, rfl⟩
    | loop b =>
      have h0 := h
      rw [runG_loop] at h
      split at h
      · cases h
      · rename_i C1 s1 h1
        split at h
        · cases h
          rw [CB.ok_of, allP_append] at hC
          have hg : GoV P n0 (.loop b) (isX e s') s1 := hC.2
          exact hg.wkn (preL_ok h1 hC.1)
        · rename_i hfl
          clear h h1
          refine goV_loop (fun n s1 => n ≤ m + 1 ∧ ∃ f k1 D k2, runG P n0 ds n f (.loop b) s1 k1 = some (D, e, s', k2) ∧ D.ok ∧ (bif f then none else loopD (look ds k1).2) = none) (m + 1) ⟨Nat.le_refl _, fl, k, C, k', h0, hC, hfl⟩ ?_
          rintro n s2 ⟨hn, f, k1, D, k2, h2, hD, hf⟩
          cases n with
          | zero => cases h2
          | succ n =>
            rw [runG_loop, hf] at h2
            split at h2
            · cases h2
            · rename_i C2 s3 h3
              have hle : n ≤ m := by omega
              simp only [] at h2
              split at h2
              · rename_i D2 s4 k4 h4
                obtain ⟨E, h5, rfl⟩ := addC_ok h2
                rw [CB.ok_add, CB.ok_add, CB.ok_of] at hD
                refine ((runG_ok n false b s3 _ _ _ _ _ h4 hD.1.2).mono ?_).wkn (preL_ok h3 hD.1.1)
                rintro e5 s5 ⟨rfl, rfl⟩
                exact ⟨n, by omega, by omega, true, _, _, _, h5, hD.2, rfl⟩
              · rename_i hne
                obtain ⟨E, h5, rfl⟩ := addC_ok h2
                rw [CB.ok_add, CB.ok_of] at hD
                refine ((runG_ok n false b s3 _ _ _ _ _ h5 hD.2).mono ?_).wkn (preL_ok h3 hD.1)
                rintro e5 s5 ⟨rfl, rfl⟩
                cases e5 with
                | normal => exact (hne _ _ _ h5).elim
                | _ => exact ⟨rfl, rfl⟩
    | region i ops d =>
      cases d with
      | true =>
        change (match (bif P.follows .mixedOrders then drG P n0 ds ops k s else none) with | some (C, s') => some (C, Exit.normal, s', k + ops.size) | none => none) = _ at h
        rw [cond_eq_ite] at h
        split at h
        · rename_i C1 s1 h1
          cases h
          split at h1
          · rename_i hm; exact drG_ok hm h1 hC ⟨rfl, rfl⟩
          · cases h1
        · cases h
      | false =>
        change (match (match rgN P n0 ds ops k (List.range ops.size) s with | some (C, s1) => some (CB.of C, s1) | none => none) with | some (C, s') => some (C, Exit.normal, s', k + ops.size) | none => none) = _ at h
        cases h1 : rgN P n0 ds ops k (List.range ops.size) s with
        | none => rw [h1] at h; cases h
        | some q =>
          obtain ⟨C1, s1⟩ := q
          rw [h1] at h
          cases h
          exact goV_region (rgN_ok h1 (CB.ok_of.1 hC) ⟨rfl, rfl⟩)
    | _ => cases h
termination_by m => m

/-- a piece of code under directions, and the state behind it written otherwise -/
def goE (P : Program) (n0 : Nat) (ds : List Ent) (m : Nat) (c : Code) (s : St) (fin : List Pre) : Option (Prop × Exit × St × List (St × St)) := match runG P n0 ds m false c s 0 with
  | some (C, e, s1, _) => match preL n0 fin s1 with
    | some (D, s2) => some (allP (C.c ++ D), e, s2, C.b)
    | none => none
  | none => none
theorem goE_ok {P : Program} {n0 : Nat} {ds : List Ent} {m : Nat} {c : Code} {s : St} {fin : List Pre} {C : Prop} {e : Exit} {s' : St} {B : List (St × St)} {Q : Exit → St → Prop} (h : goE P n0 ds m c s fin = some (C, e, s', B)) (hC : C) (hB : ∀ z ∈ B, z.1 = z.2) (k : Q e s') : GoV P n0 c Q s := by
  unfold goE at h
  split at h
  · rename_i C1 e1 s1 k1 h1
    split at h
    · rename_i D s2 h2
      cases h
      rw [allP_append] at hC
      refine (runG_ok m false c s 0 _ _ _ _ h1 ⟨hC.1, hB⟩).post ?_
      rintro e2 s3 ⟨rfl, rfl⟩
      exact ⟨_, preL_ok h2 hC.2, k⟩
    · cases h
  · cases h
def noB (r : Option (Prop × Exit × St × List (St × St))) : Option (Prop × Exit × St) := match r with | some (C, e, s, _) => some (C, e, s) | none => none
def lefts (r : Option (Prop × Exit × St × List (St × St))) : List St := match r with | some (_, _, _, b) => b.map (·.1) | none => []
def rights (r : Option (Prop × Exit × St × List (St × St))) : List St := match r with | some (_, _, _, b) => b.map (·.2) | none => []
section
variable {P : Program} {n0 : Nat} {Q : Exit → St → Prop} {s : St} {c : Code}
theorem g_go (m : Nat) (ds : List Ent) (fin : List Pre) (C : Prop) (e : Exit) (s' : St) (h : goE P n0 ds m c s fin = some (C, e, s', [])) (hC : C) (k : Q e s') : GoV P n0 c Q s := goE_ok h hC (fun z hz => absurd hz (by simp)) k
/-- the same where orders meet again -/
theorem g_goB (m : Nat) (ds : List Ent) (fin : List Pre) (C : Prop) (e : Exit) (s' : St) (h : noB (goE P n0 ds m c s fin) = some (C, e, s')) (hB : lefts (goE P n0 ds m c s fin) = rights (goE P n0 ds m c s fin)) (hC : C) (k : Q e s') : GoV P n0 c Q s := by
  cases hg : goE P n0 ds m c s fin with
  | none => rw [hg] at h; cases h
  | some q =>
    obtain ⟨C1, e1, s1, B⟩ := q
    rw [hg] at h hB
    cases h
    refine goE_ok hg hC ?_ k
    have hB' : B.map (·.1) = B.map (·.2) := hB
    clear hg hB
    induction B with
    | nil => intro z hz; exact absurd hz (by simp)
    | cons q r ih =>
      simp only [List.map_cons, List.cons.injEq] at hB'
      intro z hz
      rcases List.mem_cons.1 hz with rfl | hz
      · exact hB'.1
      · exact ih hB'.2 z hz
/-- what an equation, a contract, a loop's lemma speak of -/
def rhsOf {α : Type} {a b : α} (_ : a = b) : α := b
def avOf {f : FuncId} {args : List AV} {H : List Blk} {X : AV} {Bs : List Blk} (_ : CallsV P f args H fun a b => a = X ∧ b = Bs) : AV := X
def blOf {f : FuncId} {args : List AV} {H : List Blk} {X : AV} {Bs : List Blk} (_ : CallsV P f args H fun a b => a = X ∧ b = Bs) : List Blk := Bs
def rdOf {H : List Blk} {l l' : List AV} (_ : Reads H l l') : List AV := l'
def exOf {fn : Func} {i : Nat} {e : Exit} {s' : St} (_ : LoopG P n0 fn i e s' s) : Exit := e
def endOf {fn : Func} {i : Nat} {e : Exit} {s' : St} (_ : LoopG P n0 fn i e s' s) : St := s'
theorem g_x {e : Exit} {s' : St} (ds : List Ent) (fin : List Pre) {C : Prop} (hC : C) (h : goE P n0 ds 1000 c s fin = some (C, e, s', []) := by kernel_rfl) : GoV P n0 c (isX e s') s := goE_ok h hC (fun z hz => absurd hz (by simp)) ⟨rfl, rfl⟩
theorem g_xB {e : Exit} {s' : St} (ds : List Ent) (fin : List Pre) {C : Prop} (hC : C) (h : noB (goE P n0 ds 1000 c s fin) = some (C, e, s') := by kernel_rfl) (hB : lefts (goE P n0 ds 1000 c s fin) = rights (goE P n0 ds 1000 c s fin) := by kernel_rfl) : GoV P n0 c (isX e s') s := g_goB 1000 ds fin C e s' h hB hC ⟨rfl, rfl⟩
theorem g_q (ds : List Ent) (fin : List Pre) (e : Exit) (s' : St) {C : Prop} (hC : C) (k : Q e s') (h : goE P n0 ds 1000 c s fin = some (C, e, s', []) := by kernel_rfl) : GoV P n0 c Q s := g_go 1000 ds fin C e s' h hC k
theorem g_qB (ds : List Ent) (fin : List Pre) (e : Exit) (s' : St) {C : Prop} (hC : C) (k : Q e s') (h : noB (goE P n0 ds 1000 c s fin) = some (C, e, s') := by kernel_rfl) (hB : lefts (goE P n0 ds 1000 c s fin) = rights (goE P n0 ds 1000 c s fin) := by kernel_rfl) : GoV P n0 c Q s := g_goB 1000 ds fin C e s' h hB hC k
theorem callsG_at {f : FuncId} {fn : Func} {args : List AV} {H : List Blk} {R : AV → List Blk → Prop} (hf : P.funcs[f]? = some fn) (hb : fn.body.isSome = true)
    (h : GoV P H.length (bodyOf fn) (bodyV P fn.results.toList H.length R) ⟨args ++ List.replicate (fn.ntmps - args.length) .junk, H⟩) : CallsV P f args H R := callsV_at hf hb (GoV.wpV h)
/-- N full rounds, then the last one -/
theorem loopG_of {fn : Func} {i : Nat} {e : Exit} {s' : St} (N : Nat) (S : Nat → St) (h0 : S 0 = s) (he : e ≠ .normal) (hr : ∀ k, k < N → GoV P n0 (loopB fn i) (isX .normal (S (k + 1))) (S k)) (hx : GoV P n0 (loopB fn i) (isX e s') (S N)) : LoopG P n0 fn i e s' s := by
  unfold LoopG
  refine goV_loop (fun n s1 => ∃ k, n = N - k ∧ k ≤ N ∧ s1 = S k) N ⟨0, rfl, Nat.zero_le _, h0.symm⟩ ?_
  rintro n _ ⟨k, rfl, hk, rfl⟩
  rcases Nat.lt_or_ge k N with h1 | h1
  · refine (hr k h1).mono ?_
    rintro _ _ ⟨rfl, rfl⟩
    exact ⟨N - (k + 1), by omega, k + 1, rfl, by omega, rfl⟩
  · obtain rfl : k = N := by omega
    refine hx.mono ?_
    rintro e2 s2 ⟨rfl, rfl⟩
    cases e2 with
    | normal => exact (he rfl).elim
    | _ => exact ⟨rfl, rfl⟩
/-- a loop by an invariant that bears a number -/
theorem loopG_inv {fn : Func} {i : Nat} {e : Exit} {s' : St} (N : Nat) (I : Nat → St → Prop) (h0 : I N s) (he : e ≠ .normal) (h : ∀ n s1, I n s1 → GoV P n0 (loopB fn i) (fun e2 s2 => (e2 = .normal ∧ ∃ m, m < n ∧ I m s2) ∨ (e2 = e ∧ s2 = s')) s1) : LoopG P n0 fn i e s' s := by
  unfold LoopG
  refine goV_loop I N h0 ?_
  intro n s1 hI
  refine (h n s1 hI).mono ?_
  intro e2 s2 hq
  cases e2 with
  | normal =>
    rcases hq with ⟨_, h2⟩ | ⟨h2, _⟩
    · exact h2
    · exact (he h2.symm).elim
  | _ =>
    rcases hq with ⟨h2, _⟩ | h2
    · cases h2
    · exact h2
/-- what a function hands back, some of the blocks being kept -/
theorem g_fin {rs : List ResultVar} {R : AV → List Blk → Prop} (ks : List Nat) (fl : List Bool) (C : Prop) (av : AV) (H' : List Blk) (hC : allP ((resL P s rs).1 ++ (dec (keepB n0 ks s.H) ++ stayP fl (ks.map fun i => s.H.getD i .dead))) = C) (hav : ren (idxK ks) (packE (resL P s rs).2) = av) (hH : keepF ks s.H ks fl = H') (hok : C) (h : R av H') : bodyV P rs n0 R .ret s := by
  subst hC hav hH
  rw [allP_append, allP_append, allP_dec] at hok
  have hk0 := keepB_ok hok.2.1
  exact ⟨hok.1, ks, _, ⟨hk0.nodup, hk0.lt, hk0.n0le, hk0.pre, keepF_len _ _ _ _, fun j h1 h2 h3 => keepF_ok ks s.H ks fl hok.2.2 j h1 h2 h3⟩, h⟩
theorem g_f {rs : List ResultVar} {R : AV → List Blk → Prop} (ks : List Nat) (fl : List Bool) (av : AV) (H' : List Blk) {C : Prop} (hok : C) (h : R av H') (hC : allP ((resL P s rs).1 ++ (dec (keepB n0 ks s.H) ++ stayP fl (ks.map fun i => s.H.getD i .dead))) = C := by kernel_rfl) (hav : ren (idxK ks) (packE (resL P s rs).2) = av := by kernel_rfl) (hH : keepF ks s.H ks fl = H' := by kernel_rfl) : bodyV P rs n0 R .ret s := g_fin ks fl C av H' hC hav hH hok h
theorem g_split (b : Bool) (h1 : b = true → GoV P n0 c Q s) (h2 : b = false → GoV P n0 c Q s) : GoV P n0 c Q s := by
  cases b with
  | true => exact h1 rfl
  | false => exact h2 rfl
end
/-- behind a call the result may be written otherwise -/
theorem CallsV.post {P : Program} {f : FuncId} {args : List AV} {H : List Blk} {R R' : AV → List Blk → Prop} (h : CallsV P f args H R) (hq : ∀ av H1, R av H1 → ∃ av' H2, Wkn H.length ⟨[av], H1⟩ ⟨[av'], H2⟩ ∧ R' av' H2) : CallsV P f args H R' := fun p w vals hH hv => by
  refine (h p w vals hH hv).mono ?_
  rintro e w' ⟨v, av, H1, p1, h1, h2, h3, h4, h5⟩
  obtain ⟨av', H2, k1, k2⟩ := hq av H1 h2
  have hR : Rst p1 ⟨[av], H1⟩ { tmps := #[v], defers := [] } w' := ⟨rfl, ⟨rfl, fun i a b => by
    have : i = 0 := by simp at a; omega
    subst this; exact h4⟩, h3⟩
  obtain ⟨p2, r1, r2⟩ := k1 p w p1 _ w' hH.n h5 hR
  exact ⟨v, av', H2, p2, h1, k2, r1.heap, r1.reps.2 0 (by simp) (by simp), r2⟩
end Go.Proofs.YthcaeofgegfncaaDoor.V
namespace Go.Proofs.YthcaeofgegfncaaDoor.V
open Go Go.RowKit
set_option linter.unusedSimpArgs false
set_option linter.unusedVariables false
section
variable {α : Type} {enc : α → List AV} {n : Nat}
theorem flatA_noid (enc : α → List AV) (h : ∀ a, ∀ x ∈ enc a, noid0 x = true) (l : List α) : ∀ x ∈ flatA enc l, noid0 x = true := by
  induction l with
  | nil => intro x hx; cases hx
  | cons e l ih =>
    intro x hx
    rcases List.mem_append.1 (show x ∈ enc e ++ flatA enc l from hx) with h' | h'
    · exact h e x h'
    · exact ih x h'
theorem flatA_all_take (h : ∀ x, (enc x).length = n) (l : List α) : (flatA enc l).take (l.length * n) = flatA enc l := List.take_of_length_le (Nat.le_of_eq (flatA_length h l))
theorem flatA_snoc (h : ∀ x, (enc x).length = n) (l : List α) (x : α) : (flatA enc l).take (l.length * n) ++ enc x = flatA enc (l ++ [x]) := by
  rw [flatA_all_take h, flatA_append]; simp [flatA]
theorem flatA_set (h : ∀ x, (enc x).length = n) : ∀ (l : List α) (k : Nat) (_ : k < l.length) (x : α), flatA enc (l.set k x) = (flatA enc l).take (k * n) ++ enc x ++ (flatA enc l).drop (k * n + n)
  | [], k, hk, _ => absurd hk (by simp)
  | a :: l, 0, _, x => by
    rw [List.set_cons_zero, flatA_cons, flatA_cons, Nat.zero_mul, List.take_zero, List.nil_append, Nat.zero_add, ← h a, List.drop_left]
  | a :: l, k + 1, hk, x => by
    have ih := flatA_set h l k (by simpa using hk) x
    rw [List.set_cons_succ, flatA_cons, flatA_cons, ih]
    have e1 : (k + 1) * n = (enc a).length + k * n := by rw [h a, Nat.succ_mul]; omega
    have e2 : (k + 1) * n + n = (enc a).length + (k * n + n) := by rw [e1]; omega
    rw [e2, e1, List.take_length_add_append, List.drop_length_add_append]
    simp only [List.append_assoc]
theorem flatA_set0 (h : ∀ x, (enc x).length = n) (l : List α) (k : Nat) (hk : k < l.length) (x : α) : (flatA enc l).take (0 + (k : Int).toNat * n) ++ enc x ++ (flatA enc l).drop (0 + (k : Int).toNat * n + n) = flatA enc (l.set k x) := by
  rw [Int.toNat_natCast, Nat.zero_add]; exact (flatA_set h l k hk x).symm
/-- one cell of an element written -/
theorem flatA_put (h : ∀ x, (enc x).length = n) (l : List α) (k : Nat) (hk : k < l.length) (d x : α) (o : Nat) (ho : o < n) (v : AV) (hx : enc x = (enc (l.getD k d)).set o v) : (flatA enc l).take (0 + (k : Int).toNat * n + o) ++ [v] ++ (flatA enc l).drop (0 + (k : Int).toNat * n + o + 1) = flatA enc (l.set k x) := by
  rw [flatA_set h l k hk x, hx, Int.toNat_natCast, Nat.zero_add]
  have hc : (flatA enc l).drop (k * n) = enc (l.getD k d) ++ flatA enc (l.drop (k + 1)) := by
    have := flatA_at h l d k hk
    rwa [Int.toNat_natCast] at this
  have hl := h (l.getD k d)
  generalize enc (l.getD k d) = c at hc hl
  have e : flatA enc l = (flatA enc l).take (k * n) ++ (c ++ flatA enc (l.drop (k + 1))) := by rw [← hc, List.take_append_drop]
  have e0 : ((flatA enc l).take (k * n)).length = k * n := by
    rw [List.length_take, flatA_length h]
    have : k * n ≤ l.length * n := Nat.mul_le_mul_right _ (Nat.le_of_lt hk)
    omega
  generalize (flatA enc l).take (k * n) = A at e e0
  rw [e, ← e0, Nat.add_assoc, List.take_length_add_append, List.drop_length_add_append, List.drop_length_add_append, List.take_append_of_le_length (by omega), List.drop_append_of_le_length (by omega), List.set_eq_take_append_cons_drop]
  rw [if_pos (by omega), List.drop_append_of_le_length (by omega)]
  rw [List.drop_eq_nil_of_le (show c.length ≤ n by omega)]
  simp only [List.append_assoc, List.cons_append, List.nil_append]
/-- a part of a row, copied -/
theorem flatA_cut (h : ∀ x, (enc x).length = n) (l : List α) (i j : Nat) : ((flatA enc l).drop (i * n)).take ((j - i) * n) = flatA enc ((l.drop i).take (j - i)) := by
  rw [flatA_drop h, flatA_take h]
theorem getD_mem' {l : List α} {k : Nat} (hk : k < l.length) (d : α) : l.getD k d ∈ l := by
  rw [List.getD_eq_getElem?_getD, List.getElem?_eq_getElem hk]; exact List.getElem_mem hk
theorem snoc_length (l : List α) (x : α) : (l ++ [x]).length = l.length + 1 := by simp
end
end Go.Proofs.YthcaeofgegfncaaDoor.V
namespace Go.Proofs.YthcaeofgegfncaaDoor.V
open Go Go.RowKit
set_option linter.unusedSimpArgs false
set_option linter.unusedVariables false
theorem sh_int {P : Program} {n : Nat} {t : TypeId} {x : AV} {k : IntKind} (ht : P.underlying t = some (.int k)) (h : Sh P (n + 1) t x) : ∃ z, x = .int k z ∧ (Lit.int k z).wf = true := by
  unfold Sh at h; rw [ht] at h; exact h
theorem cells_rows {α : Type} {enc : α → List AV} {n : Nat} {good : α → Prop} : ∀ (len : Nat) (cells : List AV), cells.length = len * n → (∀ i, i < len → ∃ a, (cells.drop (i * n)).take n = enc a ∧ good a) → ∃ l : List α, l.length = len ∧ cells = flatA enc l ∧ ∀ a ∈ l, good a
  | 0, cells, h, _ => ⟨[], rfl, by simpa [flatA] using h, fun a ha => absurd ha (by simp)⟩
  | len + 1, cells, h, hd => by
    obtain ⟨a, e1, g1⟩ := hd 0 (by omega)
    rw [Nat.zero_mul, List.drop_zero] at e1
    obtain ⟨l, h1, h2, h3⟩ := cells_rows (n := n) (enc := enc) (good := good) len (cells.drop n) (by rw [List.length_drop, h, Nat.succ_mul]; omega) (fun i hi => by
      obtain ⟨b, e2, g2⟩ := hd (i + 1) (by omega)
      refine ⟨b, ?_, g2⟩
      rw [List.drop_drop, show n + i * n = (i + 1) * n by rw [Nat.succ_mul]; omega]
      exact e2)
    refine ⟨a :: l, by simp [h1], ?_, fun b hb => ?_⟩
    · rw [flatA_cons, ← h2, ← e1, List.take_append_drop]
    · rcases List.mem_cons.1 hb with rfl | hb
      · exact g1
      · exact h3 b hb
theorem sh_slice {P : Program} {n : Nat} {t e : TypeId} {ts : List TypeId} {x : AV} {α : Type} (enc : α → List AV) (good : α → Prop) (ht : P.underlying t = some (.slice e)) (hl : leafs P 8 e = some ts)
    (hd : ∀ c : List AV, c.length = ts.length → (∀ j (hj : j < ts.length), Sh P n ts[j] (c.getD j .junk)) → ∃ a, c = enc a ∧ good a) (h : Sh P (n + 1) t x) :
    ∃ l : List α, x = .slv l.length ts.length (flatA enc l) ∧ l.length ≤ 9223372036854775807 ∧ ∀ a ∈ l, good a := by
  unfold Sh at h
  rw [ht] at h
  obtain ⟨ts', h1, len, cells, rfl, h2, h3, h4⟩ := h
  rw [hl] at h1
  cases h1
  obtain ⟨l, rfl, rfl, g⟩ := cells_rows (enc := enc) (good := good) len cells h2 (fun i hi => by
    have hlen : i * ts.length + ts.length ≤ cells.length := by
      rw [h2]
      have : (i + 1) * ts.length ≤ len * ts.length := Nat.mul_le_mul_right _ hi
      rw [Nat.succ_mul] at this
      exact this
    refine hd _ (by rw [List.length_take, List.length_drop]; omega) fun j hj => ?_
    have := h4 i hi j hj
    rw [List.getD_eq_getElem?_getD, List.getElem?_take_of_lt hj, List.getElem?_drop, ← List.getD_eq_getElem?_getD]
    exact this)
  exact ⟨l, rfl, h3, g⟩
theorem flatA_one {α : Type} (f : α → AV) (l : List α) : flatA (fun z => [f z]) l = l.map f := by
  induction l with
  | nil => rfl
  | cons a l ih => rw [flatA_cons, ih]; rfl
/-- rows of one cell -/
theorem sh_ints {P : Program} {n : Nat} {t e : TypeId} {x : AV} {k : IntKind} (ht : P.underlying t = some (.slice e)) (hl : leafs P 8 e = some [e]) (he : P.underlying e = some (.int k)) (h : Sh P (n + 2) t x) :
    ∃ l : List Int, x = .slv l.length 1 (l.map (AV.int k)) ∧ l.length ≤ 9223372036854775807 ∧ ∀ z ∈ l, (Lit.int k z).wf = true := by
  obtain ⟨l, h1, h2, h3⟩ := sh_slice (n := n + 1) (fun z : Int => [AV.int k z]) (fun z => (Lit.int k z).wf = true) ht hl (fun c hc hs => by
    match c, hc with
    | [a], _ =>
      obtain ⟨z, hz, hw⟩ := sh_int he (hs 0 (by simp))
      exact ⟨z, by rw [← hz]; rfl, hw⟩) h
  exact ⟨l, by rw [h1]; exact congrArg _ (flatA_one _ l), h2, h3⟩
end Go.Proofs.YthcaeofgegfncaaDoor.V
namespace Go.Proofs.YthcaeofgegfncaaDoor.V
open Go Go.RowKit Go.Deep
set_option linter.unusedSimpArgs false
set_option linter.unusedVariables false
section
variable {H : Type} {enc : TypeId × Value → H} {P : Program} {w : World} {base : Nat} {spare : Nat → Bool} {held : Bool} {B : Nat}
theorem weightsAll_mem {e : TypeId} : ∀ {l : List (DataW H)} {d : DataW H}, d ∈ l → ∀ n ∈ d.weights P e, n ∈ DataW.weightsAll P e l
  | d' :: r, d, hd, n, hn => by
    simp only [DataW.weightsAll, List.mem_append]
    rcases List.mem_cons.1 hd with rfl | h
    · exact Or.inl hn
    · exact Or.inr (weightsAll_mem h n hn)
def LeafB (enc : TypeId × Value → H) (P : Program) (w : World) (base : Nat) (spare : Nat → Bool) (held : Bool) (B : Nat) (t : TypeId) (v : Value) : Prop := ∃ m y, DataW.trod enc P w base spare held m t [v] = some y ∧ ∀ n ∈ y.1.weights P t, n ≤ B
def LeafsB (enc : TypeId × Value → H) (P : Program) (w : World) (base : Nat) (spare : Nat → Bool) (held : Bool) (B : Nat) (ts : List TypeId) (cs : List Value) : Prop :=
  cs.length = ts.length ∧ ∀ i (h : i < ts.length) (h' : i < cs.length), LeafB enc P w base spare held B ts[i] cs[i]
theorem LeafsB.nil : LeafsB enc P w base spare held B [] [] := ⟨rfl, fun i h => by simp at h⟩
theorem LeafsB.append {a b : List TypeId} {x y : List Value} (h1 : LeafsB enc P w base spare held B a x) (h2 : LeafsB enc P w base spare held B b y) : LeafsB enc P w base spare held B (a ++ b) (x ++ y) := by
  refine ⟨by rw [List.length_append, List.length_append, h1.1, h2.1], fun i h h' => ?_⟩
  by_cases hi : i < a.length
  · rw [List.getElem_append_left hi, List.getElem_append_left (by rw [h1.1]; exact hi)]
    exact h1.2 i hi _
  · rw [List.getElem_append_right (by omega), List.getElem_append_right (by rw [h1.1]; omega)]
    simp only [h1.1]
    exact h2.2 _ _ _
theorem LeafsB.flatten (l : List TypeId) : ∀ (n : Nat) (cs : List Value), cs.length = n * l.length → (∀ i, i < n → LeafsB enc P w base spare held B l ((cs.drop (i * l.length)).take l.length)) →
    LeafsB enc P w base spare held B (List.replicate n l).flatten cs
  | 0, cs, h, _ => by
    obtain rfl : cs = [] := List.eq_nil_of_length_eq_zero (by rw [h]; omega)
    exact LeafsB.nil
  | n + 1, cs, h, hx => by
    rw [List.replicate_succ, List.flatten_cons]
    have h0 := hx 0 (by omega)
    rw [Nat.zero_mul, List.drop_zero] at h0
    have hr := LeafsB.flatten l n (cs.drop l.length) (by rw [List.length_drop, h, Nat.add_mul]; omega) (fun i hi => by
      have := hx (i + 1) (by omega)
      rw [List.drop_drop]
      rwa [show l.length + i * l.length = (i + 1) * l.length by rw [Nat.add_mul]; omega])
    have := h0.append hr
    rwa [List.take_append_drop] at this
theorem leafsB_trod : ∀ (n : Nat) (t : TypeId) (ts : List TypeId), leafs P n t = some ts → ∀ (fuel : Nat) (cs : List Value) (x : DataW H × List MemPlace), DataW.trod enc P w base spare held fuel t cs = some x → cs.length = P.cellsOf t → (∀ n ∈ x.1.weights P t, n ≤ B) →
    LeafsB enc P w base spare held B ts cs := by
  intro n
  induction n with
  | zero => intro t ts h; simp [leafs] at h
  | succ n ih =>
    intro t ts h fuel cs x hx hlen hw
    unfold leafs at h
    split at h
    · rename_i len e ht
      obtain ⟨l, hl, h⟩ := Option.bind_eq_some_iff.1 h
      split at h
      · rename_i hc
        cases h
        obtain ⟨xs, m, _, hxx, _, hxl, hel⟩ := DataW.trod_array ht hx
        refine LeafsB.flatten l len cs (by rw [hlen, hc.2]) (fun i hi => ?_)
        have h1 := hel i hi
        rw [List.getElem?_eq_getElem (by omega), hc.1] at h1
        refine ih e l hl m _ _ h1 ?_ ?_
        · have : (i + 1) * l.length ≤ len * l.length := Nat.mul_le_mul_right _ hi
          rw [Nat.add_mul] at this
          rw [List.length_take, List.length_drop, hlen, hc.1, hc.2]
          omega
        · intro n hn
          refine hw n ?_
          rw [hxx]
          simp only [DataW.weights, ht]
          exact weightsAll_mem (List.mem_map.2 ⟨_, List.getElem_mem _, rfl⟩) n hn
      · cases h
    · rename_i fs ht
      obtain ⟨xs, m, _, hxx, _, hxl, hfl⟩ := DataW.trod_struct ht hx
      have key : ∀ (r : List Field) (done : Nat) (at_ : Nat) (ts : List TypeId), fs.toList.drop done = r → done + r.length = fs.size → leafsOf P (leafs P n) r at_ (P.cellsOf t) = some ts → at_ ≤ cs.length →
          LeafsB enc P w base spare held B ts (cs.drop at_) := by
        intro r
        induction r with
        | nil =>
          intro done at_ ts _ _ h hat
          unfold leafsOf at h
          split at h
          · rename_i he
            cases h
            rw [List.drop_of_length_le (by omega)]
            exact LeafsB.nil
          · cases h
        | cons f r ih2 =>
          intro done at_ ts hd hs h hat
          unfold leafsOf at h
          obtain ⟨l, hl, h⟩ := Option.bind_eq_some_iff.1 h
          split at h
          · rename_i hc
            obtain ⟨ts', h2, rfl⟩ := Option.map_eq_some_iff.1 h
            have hf : fs[done]? = some f := by
              have : (fs.toList.drop done)[0]? = some f := by rw [hd]; rfl
              rw [List.getElem?_drop] at this
              simpa using this
            have hdl : done < xs.length := by rw [hxl]; exact (Array.getElem?_eq_some_iff.1 hf).1
            have h1 := hfl done f hf
            rw [List.getElem?_eq_getElem hdl, hc.1, hc.2] at h1
            have hlt : ((cs.drop at_).take l.length).length = l.length := by
              have hle : ∀ (r : List Field) (a : Nat) (ts : List TypeId), leafsOf P (leafs P n) r a (P.cellsOf t) = some ts → a ≤ P.cellsOf t := by
                intro r
                induction r with
                | nil => intro a ts h; unfold leafsOf at h; split at h <;> simp_all
                | cons g r ih3 =>
                  intro a ts h
                  unfold leafsOf at h
                  obtain ⟨l, _, h⟩ := Option.bind_eq_some_iff.1 h
                  split at h
                  · obtain ⟨ts', h2, _⟩ := Option.map_eq_some_iff.1 h
                    have := ih3 _ _ h2; omega
                  · cases h
              have := hle r _ _ h2
              rw [List.length_take, List.length_drop, hlen]; omega
            have a1 := ih f.type l hl m _ _ h1 (by rw [hlt, hc.2]) (fun n hn => by
              refine hw n ?_
              rw [hxx]
              simp only [DataW.weights, ht]
              refine DataW.weights_mem_each (j := done) (t := f.type) (d := xs[done].1) ?_ ?_ n hn
              · rw [List.getElem?_map, Array.getElem?_toList, hf]; rfl
              · rw [List.getElem?_map, List.getElem?_eq_getElem hdl]; rfl)
            have hle2 : at_ + l.length ≤ cs.length := by rw [List.length_take, List.length_drop] at hlt; omega
            have a2 := ih2 (done + 1) (at_ + l.length) ts' (by rw [← List.drop_drop, hd]; rfl) (by simp only [List.length_cons] at hs; omega) h2 hle2
            have := a1.append a2
            rw [← List.drop_drop, List.take_append_drop] at this
            exact this
          · cases h
      have := key fs.toList 0 0 ts rfl (by simp) h (Nat.zero_le _)
      rwa [List.drop_zero] at this
    · split at h
      · rename_i hc
        cases h
        match cs, hlen with
        | [v], _ => exact ⟨rfl, fun i h1 h2 => by
            have : i = 0 := by simpa using h1
            subst this
            exact ⟨fuel, x, hx, hw⟩⟩
        | [], hl => rw [hc] at hl; cases hl
        | _ :: _ :: _, hl => rw [hc] at hl; simp at hl
      · cases h
/-- a slice that came in, of a plain element type -/
theorem openB_leafs {t e : TypeId} {n : Nat} {ts : List TypeId} (hT : leafs P n e = some ts) (ht : P.underlying t = some (.slice e)) (hsz : P.cellsOf e = ts.length) (hpos : 0 < ts.length) {a : Option Addr} {len cap : Nat} {fuel : Nat} {y : DataW H × List MemPlace}
    (hf : DataW.trod enc P w base spare held fuel t [.slice a len cap] = some y) (hw : ∀ n ∈ y.1.weights P t, n ≤ B) :
    len ≤ cap ∧ cap ≤ maxLen ∧ (a = none → cap = 0) ∧ len * P.bytesOf e ≤ B ∧ ∃ vs : List Value, vs.length = len * ts.length ∧ RowV w a vs ∧ ∀ i, i < len → ∀ j (hj : j < ts.length) (hij : i * ts.length + j < vs.length), LeafB enc P w base spare held B ts[j] vs[i * ts.length + j] := by
  rcases open_slice ht hf with ⟨hcs, _⟩ | ⟨x, l, c, m, k, D, Pl, hcs, _, hl, hm, hmm, hy, hel⟩
  · simp at hcs
    obtain ⟨rfl, rfl, rfl⟩ := hcs
    exact ⟨Nat.le_refl _, by omega, fun _ => rfl, by omega, [], by simp, RowV.nil _ _, fun i hi => by omega⟩
  · simp at hcs
    obtain ⟨rfl, rfl, rfl⟩ := hcs
    have hlm : len ≤ m := by rw [hmm]; split <;> omega
    have hwt : ∀ n, n ∈ (((List.range len).map D).length + ((List.range (m - len)).map fun j => D (len + j)).length) * P.bytesOf e :: (DataW.weightsAll P e ((List.range len).map D) ++ DataW.weightsAll P e ((List.range (m - len)).map fun j => D (len + j))) → n ≤ B := fun n hn => by
      refine hw n ?_
      rw [hy]
      simp only [DataW.weights, ht]
      exact hn
    have hbytes : len * P.bytesOf e ≤ B := by
      refine Nat.le_trans ?_ (hwt _ (List.mem_cons_self ..))
      refine Nat.mul_le_mul_right _ ?_
      rw [List.length_map, List.length_range]; omega
    refine ⟨hl, hm, (fun h => by cases h), hbytes, ?_⟩
    have each : ∀ i, i < len → ∃ cs' : List Value, LeafsB enc P w base spare held B ts cs' ∧ ∀ j, j < ts.length → w.cell? (x.add (i * ts.length + j)) = cs'[j]? := by
      intro i hi
      obtain ⟨cs', h1, h2⟩ := hel i (by omega)
      obtain ⟨_, hlen, hcell⟩ := World.cells?_some h1
      refine ⟨cs', leafsB_trod n e ts hT k cs' _ h2 hlen (fun n hn => hwt n (List.mem_cons_of_mem _ (List.mem_append_left _ (weightsAll_mem (List.mem_map.2 ⟨i, List.mem_range.2 hi, rfl⟩) n hn)))), fun j hj => ?_⟩
      have := hcell j (by rw [hsz]; exact hj)
      rw [hsz, Deep.add_add] at this
      exact this
    obtain ⟨f, hfx⟩ := Deep.choose_lt each
    obtain ⟨g1, g2⟩ := flat_get f len ts.length (fun i hi => (hfx i hi).1.1)
    refine ⟨(List.range len).flatMap f, g1, ?_, fun i hi j hj hij => ?_⟩
    · by_cases h0 : len = 0
      · subst h0; exact Or.inl rfl
      · obtain ⟨b, off, spot⟩ := x
        have c0 := (hfx 0 (by omega)).2 0 hpos
        rw [List.getElem?_eq_getElem (by rw [(hfx 0 (by omega)).1.1]; exact hpos)] at c0
        have hspot : spot = none := by simpa [Addr.add] using World.cell?_spot c0
        subst hspot
        refine Or.inr ⟨b, off, rfl, by have := cell_lt c0; simpa [Addr.add] using this, fun q hq => ?_⟩
        rw [g1] at hq
        have hqd : q / ts.length < len := Nat.div_lt_of_lt_mul (by rw [Nat.mul_comm]; exact hq)
        have hqm : q % ts.length < ts.length := Nat.mod_lt _ hpos
        have e : q / ts.length * ts.length + q % ts.length = q := Nat.div_add_mod' q ts.length
        have h1 := (hfx _ hqd).2 _ hqm
        have h2 := g2 _ hqd _ hqm
        rw [e] at h1 h2
        rw [add_plain] at h1
        rw [h1, ← h2, List.getElem?_eq_getElem (by rw [g1]; exact hq)]
    · have h2 := g2 i hi j hj
      have hj' : j < (f i).length := by rw [(hfx i hi).1.1]; exact hj
      rw [List.getElem?_eq_getElem hij, List.getElem?_eq_getElem hj', Option.some.injEq] at h2
      rw [h2]
      exact (hfx i hi).1.2 j hj hj'
/-- what is known of a value of a plain type that came in, n levels deep, with the bound -/
def GoodB (P : Program) (B : Nat) (w : World) : Nat → TypeId → Value → Prop
  | 0, _, _ => True
  | n + 1, t, v =>
    match P.underlying t with
    | some (.int k) => ∃ z, v = .int k z ∧ (Lit.int k z).wf = true
    | some .string => ∃ s : ByteArray, v = .string s ∧ s.size ≤ B
    | some .bool => ∃ b, v = .bool b
    | some (.slice e) => ∃ a len cap, v = .slice a len cap ∧ len ≤ cap ∧ cap ≤ maxLen ∧ (a = none → cap = 0) ∧
        ∀ ts, leafs P 8 e = some ts → P.cellsOf e = ts.length → 0 < ts.length → len * P.bytesOf e ≤ B ∧
          ∃ vs : List Value, vs.length = len * ts.length ∧ RowV w a vs ∧ ∀ i, i < len → ∀ j (hj : j < ts.length) (hij : i * ts.length + j < vs.length), GoodB P B w n ts[j] vs[i * ts.length + j]
    | _ => True
/-- what is known of an argument of a plain type, with the bound -/
def ArgB (P : Program) (B : Nat) (w : World) (t : TypeId) (v : Value) : Prop :=
  match P.underlying t with
  | some (.struct _) | some (.array _ _) => ∃ cs : List Value, v = .agg cs.toArray ∧ ∀ ts, leafs P 8 t = some ts → cs.length = ts.length ∧ ∀ i (h : i < ts.length) (h' : i < cs.length), GoodB P B w 8 ts[i] cs[i]
  | _ => GoodB P B w 8 t v
end
/-- what is known of a plain value, with the bound -/
def ShB (P : Program) (B : Nat) : Nat → TypeId → AV → Prop
  | 0, _, _ => False
  | n + 1, t, x => match P.underlying t with
    | some (.int k) => ∃ z, x = .int k z ∧ (Lit.int k z).wf = true
    | some .string => ∃ s : ByteArray, x = .str s ∧ s.size ≤ B
    | some .bool => ∃ b, x = .bool b
    | some (.slice e) => ∃ ts, leafs P 8 e = some ts ∧ ∃ len cells, x = .slv len ts.length cells ∧ cells.length = len * ts.length ∧ len ≤ maxLen ∧ len * P.bytesOf e ≤ B ∧
        ∀ i, i < len → ∀ j (hj : j < ts.length), ShB P B n ts[j] (cells.getD (i * ts.length + j) .junk)
    | _ => False
theorem goodB_rep {P : Program} {B : Nat} {w : World} {M : Nat → Prop} (hM : ∀ g, ¬ M g) : ∀ (n : Nat) (t : TypeId) (v : Value), plainT P n t = true → GoodB P B w n t v → ∃ x, RepF M w v x ∧ ShB P B n t x ∧ v.oneCell' = true
  | 0, t, v, h, _ => by simp [plainT] at h
  | n + 1, t, v, h, hg => by
    unfold plainT at h
    unfold GoodB at hg
    unfold ShB
    split at h
    · rename_i k ht
      simp only [ht] at hg ⊢
      obtain ⟨z, rfl, hz⟩ := hg
      exact ⟨.int k z, .int k z, ⟨z, rfl, hz⟩, rfl⟩
    · rename_i ht
      simp only [ht] at hg ⊢
      obtain ⟨s, rfl, hs⟩ := hg
      exact ⟨.str s, .str s, ⟨s, rfl, hs⟩, rfl⟩
    · rename_i ht
      simp only [ht] at hg ⊢
      obtain ⟨b, rfl⟩ := hg
      exact ⟨.bool b, .bool b, ⟨b, rfl⟩, rfl⟩
    · rename_i e ht
      split at h
      · rename_i ts hts
        simp only [Bool.and_eq_true, Nat.blt_eq, List.all_eq_true] at h
        obtain ⟨h1, h2, h3⟩ := h
        have h1 := Nat.eq_of_beq_eq_true h1
        simp only [ht] at hg ⊢
        obtain ⟨a, len, cap, rfl, hlc, hcm, hno, hall⟩ := hg
        obtain ⟨hby, vs, hvl, hrow, hcell⟩ := hall ts hts h1 h2
        have hk : ∀ k, k < vs.length → k / ts.length < len ∧ k % ts.length < ts.length ∧ k / ts.length * ts.length + k % ts.length = k := fun k hk => by
          refine ⟨?_, Nat.mod_lt _ h2, by rw [Nat.mul_comm]; exact Nat.div_add_mod _ _⟩
          rw [hvl] at hk
          exact (Nat.div_lt_iff_lt_mul h2).2 hk
        obtain ⟨cells, hcl, hcs⟩ := exists_list (Pr := fun k x => ∀ (hkl : k < vs.length), RepF M w vs[k] x ∧ ShB P B n (ts[k % ts.length]'(Nat.mod_lt _ h2)) x ∧ (vs[k]).oneCell' = true) vs.length (fun k hkl => by
          obtain ⟨a1, a2, a3⟩ := hk k hkl
          have hg := hcell (k / ts.length) a1 (k % ts.length) a2 (by omega)
          simp only [a3] at hg
          obtain ⟨x, b1, b2, b3⟩ := goodB_rep hM n _ _ (h3 _ (List.getElem_mem a2)) hg
          exact ⟨x, fun _ => ⟨b1, b2, b3⟩⟩)
        refine ⟨.slv len ts.length cells, ?_, ⟨ts, hts, len, cells, rfl, by rw [hcl, hvl], by omega, hby, fun i hi j hj => ?_⟩, rfl⟩
        · have hget : ∀ i (hi : i < vs.length), vs.getD i undef = vs[i] := fun i hi => by simp [List.getD_eq_getElem?_getD, hi]
          rcases hrow with h0 | ⟨b, off, rfl, hb, hc⟩
          · have hl0 : len = 0 := by
              rcases Nat.eq_zero_or_pos len with h | h
              · exact h
              · have := Nat.mul_pos h h2; rw [← hvl, h0] at this; simp at this
            have hc0 : cells = [] := List.eq_nil_of_length_eq_zero (by rw [hcl, h0]; rfl)
            subst hl0 hc0
            have ho : a = some (a.getD ⟨0, 0, none⟩) ∨ (a = none ∧ cap = 0) := by
              cases a with
              | none => exact Or.inr ⟨rfl, hno rfl⟩
              | some a => exact Or.inl rfl
            exact .slv a _ 0 cap _ [] (fun _ => undef) ho (by simp) hlc hcm h2 (fun i hi => absurd hi (by simp)) (fun i hi => absurd hi (by simp))
          · refine .slv _ ⟨b, off, none⟩ len cap _ cells (fun i => vs.getD i undef) (Or.inl rfl) (by rw [hcl, hvl]) hlc hcm h2 (fun i hi => ?_) (fun i hi => ?_)
            · obtain ⟨_, _, c3⟩ := hcs i hi (by omega)
              rw [hget i (by rw [← hcl]; exact hi)]
              exact ⟨rfl, hb, hM _, hc i (by omega), c3⟩
            · obtain ⟨c1, _, _⟩ := hcs i hi (by omega)
              rw [hget i (by rw [← hcl]; exact hi), getD_get _ _ hi]
              exact c1
        · have hlt : i * ts.length + j < vs.length := by
            rw [hvl]
            calc i * ts.length + j < i * ts.length + ts.length := by omega
              _ = (i + 1) * ts.length := by rw [Nat.add_mul, Nat.one_mul]
              _ ≤ len * ts.length := Nat.mul_le_mul_right _ (by omega)
          obtain ⟨_, c2, _⟩ := hcs (i * ts.length + j) (by omega) hlt
          rw [getD_get _ _ (by omega)]
          have hmod : (i * ts.length + j) % ts.length = j := by rw [Nat.mul_comm, Nat.mul_add_mod, Nat.mod_eq_of_lt hj]
          simp only [hmod] at c2
          exact c2
      · cases h
    · cases h
/-- an argument that is no struct and no array -/
theorem argB_rep {P : Program} {B : Nat} {w : World} {t : TypeId} {v : Value} (h : ArgB P B w t v) (hp : plainT P 8 t = true) : ∃ x, Rep ⟨0, fun _ => none, fun _ => False⟩ w v x ∧ ShB P B 8 t x := by
  have hM : ∀ g, ¬ (⟨0, fun _ => none, fun _ => False⟩ : Pl).M g := fun g hg => hg.elim (fun ⟨id, hid⟩ => by cases hid) id
  have hg : GoodB P B w 8 t v := by
    unfold ArgB at h
    unfold plainT at hp
    split at h
    · rename_i ht; rw [ht] at hp; cases hp
    · rename_i ht; rw [ht] at hp; cases hp
    · exact h
  obtain ⟨x, h1, h2, _⟩ := goodB_rep hM 8 t v hp hg
  exact ⟨x, h1.rep, h2⟩
/-- an argument that is a struct or an array -/
theorem argB_agg {P : Program} {B : Nat} {w : World} {t : TypeId} {v : Value} {ts : List TypeId} (h : ArgB P B w t v) (ht : isAggT P t = true) (hl : leafs P 8 t = some ts) (hp : (ts.all (plainT P 8)) = true) :
    ∃ xs, Rep ⟨0, fun _ => none, fun _ => False⟩ w v (.agg xs) ∧ xs.length = ts.length ∧ ∀ i (hi : i < ts.length), ShB P B 8 ts[i] (xs.getD i .junk) := by
  have hM : ∀ g, ¬ (⟨0, fun _ => none, fun _ => False⟩ : Pl).M g := fun g hg => hg.elim (fun ⟨id, hid⟩ => by cases hid) id
  have hc : ∃ cs : List Value, v = .agg cs.toArray ∧ ∀ ts, leafs P 8 t = some ts → cs.length = ts.length ∧ ∀ i (h : i < ts.length) (h' : i < cs.length), GoodB P B w 8 ts[i] cs[i] := by
    unfold ArgB at h
    unfold isAggT at ht
    split at h
    · exact h
    · exact h
    · rename_i h1 h2
      split at ht
      · rename_i fs hu; exact absurd hu (h1 _)
      · rename_i n e hu; exact absurd hu (h2 _ _)
      · cases ht
  obtain ⟨cs, rfl, hcs⟩ := hc
  obtain ⟨h1, h2⟩ := hcs ts hl
  obtain ⟨xs, hx1, hx2⟩ := exists_list (Pr := fun k x => ∀ (hk : k < ts.length) (hk' : k < cs.length), RepF (⟨0, fun _ => none, fun _ => False⟩ : Pl).M w cs[k] x ∧ ShB P B 8 ts[k] x ∧ (cs[k]).oneCell' = true) cs.length (fun k hk => by
    obtain ⟨x, b⟩ := goodB_rep hM 8 _ _ (List.all_eq_true.1 hp _ (List.getElem_mem (show k < ts.length by omega))) (h2 k (by omega) hk)
    exact ⟨x, fun _ _ => b⟩)
  refine ⟨xs, ⟨_, rfl, by simpa using hx1.symm, fun i a b => ?_⟩, by omega, fun i hi => ?_⟩
  · obtain ⟨c1, _, c3⟩ := hx2 i b (by omega) (by omega)
    exact ⟨by simpa using c3, by simpa using c1.rep0⟩
  · rw [getD_get _ _ (by omega)]
    exact (hx2 i (by omega) hi (by omega)).2.1
def Reads0 (H : List Blk) (x y : AV) : Prop := ∀ (p p1 : Pl) (w : World) (v : Value), RH p H w → Lends (fun _ => true) p p1 → Rep0 p w v x → Rep0 p1 w v y
theorem Reads0.sl {H : List Blk} {id st len sz : Nat} {cs : List AV} {t : TypeId} {xs : List AV} (hb : H[id]? = some (.row t xs)) (hn : ∀ x ∈ xs, noid0 x = true ∧ x ≠ .junk) (hl : st + len * sz ≤ xs.length) (hc : (xs.drop st).take (len * sz) = cs) : Reads0 H (.sl id st len sz) (.slv len sz cs) := fun p p1 w v hH hL hv => by
  subst hc
  exact reads_sl hb hn hl hH hL hv
theorem Reads0.val {H : List Blk} {x y : AV} (h : val0 (fun _ => true) H 100 x = some y) : Reads0 H x y := fun p p1 w v hH hL hv => (val0_rep hH hL 100 x y v h hv).rep0
def ReadsC (H : List Blk) (xs ys : List AV) : Prop := ys.length = xs.length ∧ ∀ i (h : i < xs.length) (h' : i < ys.length), Reads0 H xs[i] ys[i]
theorem ReadsC.nil {H : List Blk} : ReadsC H [] [] := ⟨rfl, fun i h => absurd h (by simp)⟩
theorem ReadsC.cons {H : List Blk} {x y : AV} {xs ys : List AV} (h : Reads0 H x y) (k : ReadsC H xs ys) : ReadsC H (x :: xs) (y :: ys) := ⟨by simp [k.1], fun i h1 h2 => by
  cases i with
  | zero => exact h
  | succ i => exact k.2 i (by simpa using h1) (by simpa using h2)⟩
theorem Reads1.agg {H : List Blk} {xs ys : List AV} (h : ReadsC H xs ys) : Reads1 H (.agg xs) (.agg ys) := fun p p1 w v hH hL hv => by
  obtain ⟨vs, e1, e2, e3⟩ := hv
  exact ⟨vs, e1, e2.trans h.1.symm, fun i i1 i2 => ⟨(e3 i i1 (by rw [← h.1]; exact i2)).1, h.2 i (by rw [← h.1]; exact i2) i2 _ _ _ _ hH hL (e3 i i1 (by rw [← h.1]; exact i2)).2⟩⟩
end Go.Proofs.YthcaeofgegfncaaDoor.V
namespace Go.Proofs
open Go.Shelf
def Tryd.lays156_ren : Go.Shelf.Ren := ⟨fun | 156 => 43 | 165 => 48 | 166 => 49 | 169 => 50 | 240 => 54 | 241 => 55 | 276 => 60 | 277 => 61 | n => n, fun | 31 => 70 | 9 => 9 | 3 => 3 | 4 => 4 | 0 => 0 | 20 => 20 | 72 => 82 | 76 => 86 | 70 => 80 | 37 => 28 | 75 => 85 | 127 => 91 | 164 => 96 | 5 => 5 | 80 => 88 | n => n, fun | n => n⟩
theorem Tryd.lays156 : Go.Proofs.Lays.n156 Tryd.prog Tryd.lays156_ren := {
  mixed := by kernel_rfl
  f156 := Tryd.func43.trans (congrArg some (by kernel_rfl))
  f165 := Tryd.func48.trans (congrArg some (by kernel_rfl))
  f166 := Tryd.func49.trans (congrArg some (by kernel_rfl))
  f169 := Tryd.func50.trans (congrArg some (by kernel_rfl))
  f240 := Tryd.func54.trans (congrArg some (by kernel_rfl))
  f241 := Tryd.func55.trans (congrArg some (by kernel_rfl))
  f276 := Tryd.func60.trans (congrArg some (by kernel_rfl))
  f277 := Tryd.func61.trans (congrArg some (by kernel_rfl))
  t0 := Tryd.underlying0
  a0 := Tryd.isAgg0
  z0 := Tryd.sizeOf0
  v0 := Tryd.zeroValue0
  t3 := Tryd.underlying3
  a3 := Tryd.isAgg3
  z3 := Tryd.sizeOf3
  v3 := Tryd.zeroValue3
  t4 := Tryd.underlying4
  a4 := Tryd.isAgg4
  z4 := Tryd.sizeOf4
  v4 := Tryd.zeroValue4
  t9 := Tryd.underlying9
  a9 := Tryd.isAgg9
  z9 := Tryd.sizeOf9
  v9 := Tryd.zeroValue9
  t20 := Tryd.underlying20
  a20 := Tryd.isAgg20
  z20 := Tryd.sizeOf20
  v20 := Tryd.zeroValue20
  t31 := Tryd.underlying70
  a31 := Tryd.isAgg70
  z31 := Tryd.sizeOf70
  v31 := Tryd.zeroValue70
  t37 := Tryd.underlying28
  a37 := Tryd.isAgg28
  z37 := Tryd.sizeOf28
  v37 := Tryd.zeroValue28
  t70 := Tryd.underlying80
  a70 := Tryd.isAgg80
  z70 := Tryd.sizeOf80
  v70 := Tryd.zeroValue80
  t72 := Tryd.underlying82
  a72 := Tryd.isAgg82
  z72 := Tryd.sizeOf82
  v72 := Tryd.zeroValue82
  t75 := Tryd.underlying85
  a75 := Tryd.isAgg85
  z75 := Tryd.sizeOf85
  v75 := Tryd.zeroValue85
  t76 := Tryd.underlying86
  a76 := Tryd.isAgg86
  z76 := Tryd.sizeOf86
  v76 := Tryd.zeroValue86
  t127 := Tryd.underlying91
  a127 := Tryd.isAgg91
  z127 := Tryd.sizeOf91
  v127 := Tryd.zeroValue91
  t164 := Tryd.underlying96
  a164 := Tryd.isAgg96
  z164 := Tryd.sizeOf96
  v164 := Tryd.zeroValue96 }
theorem Tryd.Builder_Extra_156 : Builder.Extra Tryd.prog Tryd.lays156_ren := {
  sizeBuilder := by kernel_rfl
  liesBuilder := by kernel_rfl
  t5 := Tryd.underlying5
  a5 := Tryd.isAgg5
  z5 := Tryd.sizeOf5
  v5 := Tryd.zeroValue5
  infoByte := by kernel_rfl
  cellsByte := by kernel_rfl
  sizeByte := by kernel_rfl
  neB5 := by decide }
open Go.RowKit in
/-- No element: the empty string; the world is as it was. (Whatever the slice's address and capacity: a nil slice too.) (LAID: no walk: one application.) -/
theorem Tryd.strings_Join_none (a : Option Addr) (c : Nat) (sep : ByteArray) (w : World) :
    Calls Tryd.prog 43 #[.slice a 0 c, .string sep] w fun e w' => e = .returned (.string ⟨#[]⟩) ∧ w' = w := Any.strings_Join_none Tryd.lays156 Tryd.Builder_Extra_156 a c sep w
open Go.RowKit in
/-- strings.Join: "Join concatenates the elements of its first argument to create a single string. The separator string sep is placed between elements in the resulting string.": HOWEVER MANY ELEMENTS. Below the heap's end the world is as it was. (LAID: no walk: one application.) -/
theorem Tryd.strings_Join (bk o c : Nat) (xs : List ByteArray) (sep : ByteArray) (w : World) (hcells : ∀ (j : Nat) x, xs[j]? = some x → w.cell? ⟨bk, o + j, none⟩ = some (.string x)) (hbk : bk < w.heap.size) (hN : xs.length ≤ 140737488355328) (hcap : xs.length ≤ c) (hlen : (Lib.join (xs.map (·.data.toList)) sep.data.toList).length ≤ 140737488355328) :
    Calls Tryd.prog 43 #[.slice (some ⟨bk, o, none⟩) xs.length c, .string sep] w fun e w' => e = .returned (.string ⟨(Lib.join (xs.map (·.data.toList)) sep.data.toList).toArray⟩) ∧ Below w.heap.size w w' := Any.strings_Join Tryd.lays156 Tryd.Builder_Extra_156 bk o c xs sep w hcells hbk hN hcap hlen
end Go.Proofs
