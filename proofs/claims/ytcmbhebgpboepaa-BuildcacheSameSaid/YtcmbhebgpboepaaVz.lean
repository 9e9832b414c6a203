/-
  The logic of values: maps whose keys are numbers, strings or bools. Over any program.
-/
import Derived.Test.YtcmbhebgpboepaaVx
import Derived.Laws.IdiomCopy
namespace Go.Proofs.Ytcmbhebgpboepaa.V
open Go Go.RowKit
set_option linter.unusedSimpArgs false
set_option linter.unusedVariables false

def leafD : Option TypeDesc → Bool
  | some (.int _) | some .string | some .bool => true
  | _ => false
/-- the place of a key among the entries -/
def findA (d : Option TypeDesc) (x : AV) : List (AV × AV) → Option (Option Nat)
  | [] => some none
  | q :: r => match eqLeaf d x q.1 with
    | some true => some (some 0)
    | some false => match findA d x r with
      | some (some j) => some (some (j + 1))
      | some none => some none
      | none => none
    | none => none
theorem beqBA (a b : ByteArray) : (a == b) = (a.toList == b.toList) := (beq_toListBytes a b).symm ▸ rfl
theorem sameNow_of {p : Pl} {w : World} {t : TypeDesc} {v u : Value} {x y : AV} {e : Bool} (hv : Rep p w v x) (hu : Rep p w u y) (h : eqLeaf (some t) x y = some e) : Instr.sameNow t v u = some e := by
  unfold eqLeaf at h
  split at h
  · rename_i kk k a l b ht
    cases ht
    cases rep_int hv; cases rep_int hu
    by_cases hk : k = l
    · subst hk; simpa [Instr.sameNow] using h
    · simp [hk] at h
  · rename_i a b ht
    cases ht
    cases rep_str hv; cases rep_str hu
    cases h
    simp [Instr.sameNow, beq_toListBytes]
  · rename_i a b ht
    cases ht
    cases rep_bool hv; cases rep_bool hu
    simpa [Instr.sameNow] using h
  · cases h
theorem findNow_of {p : Pl} {w : World} {t : TypeDesc} {v : Value} {x : AV} (hv : Rep p w v x) : ∀ (es : List MapEntry) (kv : List (AV × AV)) (i0 : Nat) (r : Option Nat), es.length = kv.length → (∀ (i : Nat) (h : i < kv.length) (h' : i < es.length), Rep1 p w es[i].key kv[i].1) →
    findA (some t) x kv = some r → match r with
      | none => Instr.findNow t v es i0 = some none
      | some j => j < kv.length ∧ ∃ h : j < es.length, Instr.findNow t v es i0 = some (some (i0 + j, es[j].val))
  | [], [], i0, r, _, _, h => by cases h; rfl
  | e :: es, q :: kv, i0, r, hl, hk, h => by
    have h0 := (hk 0 (by simp) (by simp))
    simp only [List.getElem_cons_zero] at h0
    have ih := findNow_of (t := t) hv es kv (i0 + 1)
    unfold findA at h
    split at h
    · rename_i he
      cases h
      have hs := sameNow_of hv h0.repT.rep he
      exact ⟨by simp, by simp, by simp [Instr.findNow, hs]⟩
    · rename_i he
      have hs := sameNow_of hv h0.repT.rep he
      have hkk : ∀ (i : Nat) (h : i < kv.length) (h' : i < es.length), Rep1 p w es[i].key kv[i].1 := fun i a b => by
        have := hk (i + 1) (by simpa using a) (by simpa using b)
        simpa using this
      split at h
      · rename_i j hj
        cases h
        obtain ⟨h1, h2, h3⟩ := ih (some j) (by simpa using hl) hkk hj
        exact ⟨by simpa using h1, by simpa using h2, by simp [Instr.findNow, hs, h3]; omega⟩
      · rename_i hj
        cases h
        have h3 := ih none (by simpa using hl) hkk hj
        simp only at h3
        simp [Instr.findNow, hs, h3]
      · cases h
    · cases h
  | [], _ :: _, _, _, hl, _, _ => by simp at hl
  | _ :: _, [], _, _, hl, _, _ => by simp at hl
theorem leafD_some {d : Option TypeDesc} (h : leafD d = true) : ∃ t, d = some t ∧ ((∃ k, t = .int k) ∨ t = .string ∨ t = .bool) := by
  unfold leafD at h
  split at h
  · exact ⟨_, rfl, Or.inl ⟨_, rfl⟩⟩
  · exact ⟨_, rfl, Or.inr (Or.inl rfl)⟩
  · exact ⟨_, rfl, Or.inr (Or.inr rfl)⟩
  · cases h
theorem checkKey_leaf {P : Program} {kt : TypeId} (h : leafD (P.underlying kt) = true) (b : Bool) (v : Value) (w : World) : (Instr.checkKey b 10000 kt v).run P w = .ok () w := by
  obtain ⟨t, ht, hc⟩ := leafD_some h
  rw [show (10000 : Nat) = 9999 + 1 from rfl]
  unfold Instr.checkKey
  rcases hc with ⟨k, rfl⟩ | rfl | rfl <;> simp [run_underlying ht]
theorem findKey_of {P : Program} {p : Pl} {w : World} {kt : TypeId} {v : Value} {x : AV} (hd : leafD (P.underlying kt) = true) (hv : Rep p w v x) {es : List MapEntry} {kv : List (AV × AV)} {r : Option Nat} (hl : es.length = kv.length) (hk : ∀ (i : Nat) (h : i < kv.length) (h' : i < es.length), Rep1 p w es[i].key kv[i].1)
    (h : findA (P.underlying kt) x kv = some r) (w' : World) : match r with
      | none => (Instr.findKey kt v es).run P w' = Result.ok none w'
      | some j => ∃ (_ : j < kv.length) (h : j < es.length), (Instr.findKey kt v es).run P w' = Result.ok (some (j, es[j].val)) w' := by
  obtain ⟨t, ht, hc⟩ := leafD_some hd
  rw [ht] at h
  have := findNow_of hv es kv 0 r hl hk h
  cases r with
  | none => simp only at this ⊢; simp [Instr.findKey, run_underlying ht, this]
  | some j =>
    obtain ⟨h1, h2, h3⟩ := this
    exact ⟨h1, h2, by simp [Instr.findKey, run_underlying ht, h3]⟩
/-- the zero value of a type -/
def zeroA (P : Program) (t : TypeId) : Option AV := match P.info? t with
  | some i => match i.zero with
    | some (.agg cs) => match consts cs.toList with | some l => some (.agg l) | none => none
    | some z => const0 z
    | none => none
  | none => none
theorem zeroA_ok {P : Program} {t : TypeId} {x : AV} (h : zeroA P t = some x) (p : Pl) : ∃ z, (∀ w, (zeroValue t).run P w = .ok z w) ∧ ∀ w, Rep1 p w z x := by
  unfold zeroA at h
  split at h
  · rename_i i hi
    split at h
    · rename_i cs hz
      split at h
      · rename_i l hl
        cases h
        exact ⟨.agg cs, fun w => by simp [zeroValue, typeInfo, hi, hz], fun w => ⟨cs, rfl, consts_rep hl⟩⟩
      · cases h
    · rename_i z hne hz
      exact ⟨z, fun w => by simp [zeroValue, typeInfo, hi, hz], fun w => (const0_rep (p := p) (w := w) h).2.2.1.rep1⟩
    · cases h
  · cases h
section
variable {P : Program} {s : St} {o : Oper} {R : AV → List Blk → Prop}
theorem op_makeMap {t : TypeId} (ho : o.op = .makeMap t none) (h : R (.map s.H.length) (s.H ++ [.map []])) : OpB P o s R := opB_of fun p w a hR => by
  have hB := below_alloc w (.map #[] 0)
  obtain ⟨r1, r2⟩ := mv_gen hR.heap (.map []) w.heap.size hB (Nat.le_refl _) fun _ => ⟨w.heap.size, #[], 0, by simp [Pl.mv], heap_alloc_new _ _, rfl, fun i h => absurd h (by simp)⟩
  refine ⟨.map (some w.heap.size), _, _, _, _, ?_, h, r1, ?_, r2, hB⟩
  · unfold execOp
    rw [ho]
    rfl
  · refine ⟨by simp [Pl.mv, hR.heap.n], fun q hq => ?_⟩
    simp only [Pl.mv, hR.heap.n, if_true, Option.some.injEq] at hq
    exact ⟨_, hq.symm, rfl⟩
/-- the entries of a map -/
def entA (H : List Blk) : AV → Option (List (AV × AV))
  | .nilmap => some []
  | .map id => match H[id]? with | some (.map kv) => some kv | _ => none
  | _ => none
def lookA (ok : Bool) (v : AV) (b : Bool) : AV := bif ok then .tuple [v, .bool b] else v
theorem op_lookup {t kt et : TypeId} {x i : Operand} {ok : Bool} {kv : List (AV × AV)} {r : Option Nat} {z : AV} (ho : o.op = .lookup t x i ok) (ht : P.underlying t = some (.map kt et)) (hd : leafD (P.underlying kt) = true)
    (hx : entA s.H (s.ev x) = some kv) (hf : findA (P.underlying kt) (s.ev i) kv = some r) (hz : zeroA P et = some z)
    (h : R (match r with | some j => lookA ok (kv.getD j (.junk, .junk)).2 true | none => lookA ok z false) s.H) : OpB P o s R := opB_of fun p w a hR => by
  obtain ⟨zv, hz1, hz2⟩ := zeroA_ok (P := P) hz p
  have fin : ∀ (u : Value) (b : Bool) (y : AV), Rep1 p w u y → (a.eval x = .map none → (Instr.lookup t (a.eval x) (a.eval i) ok).run P w = .ok (if ok then .tuple #[u, .bool b] else u) w) →
      True := fun _ _ _ _ _ => trivial
  have rep : ∀ (u : Value) (b : Bool) (y : AV), Rep1 p w u y → Rep p w (if ok then .tuple #[u, .bool b] else u) (lookA ok y b) := fun u b y hu => by
    cases ok with
    | true => exact ⟨_, rfl, RepL.cons hu (RepL.cons (RepF.rep0 (.bool b)) RepL.nil)⟩
    | false => exact hu.repT.rep
  have hev := hR.ev x
  unfold entA at hx
  split at hx
  · rename_i he
    cases hx
    cases hf
    rw [he] at hev
    have e1 := rep_nilmap hev
    refine ⟨_, _, _, p, w, ?_, h, hR.heap, rep zv false z (hz2 w), Step.refl _ _, Below.refl _ _⟩
    unfold execOp
    rw [ho]
    simp only [Instr.lookup, e1, Sem.run_bind, run_underlying ht, Result.andThen_ok, Sem.run_pure, checkKey_leaf hd]
    obtain ⟨t', ht', _⟩ := leafD_some hd
    cases ok <;> simp [Instr.findKey, run_underlying ht', Instr.findNow, hz1]
  · rename_i id he
    split at hx
    · rename_i kv' hb
      cases hx
      obtain ⟨hl, hbe⟩ := List.getElem?_eq_some_iff.1 hb
      have hbk := hR.heap.blk id hl
      rw [hbe] at hbk
      obtain ⟨g, es, cl, hg, hh, hlen, hkv⟩ := hbk
      rw [he] at hev
      obtain ⟨g', hg', e1⟩ := hev.2 _ hg
      cases hg'
      have hfk := findKey_of (P := P) hd (hR.ev i) hlen (fun i a b => (hkv i a b).1) hf w
      have hgo : (getObj g).run P w = .ok (.map es cl) w := by simp [getObj, Sem.run, hh]
      cases r with
      | none =>
        simp only at hfk
        refine ⟨_, _, _, p, w, ?_, h, hR.heap, rep zv false z (hz2 w), Step.refl _ _, Below.refl _ _⟩
        unfold execOp
        rw [ho]
        simp only [Instr.lookup, e1, Sem.run_bind, run_underlying ht, Result.andThen_ok, Sem.run_pure, checkKey_leaf hd, hgo, hfk, hz1]
      | some j =>
        obtain ⟨h1, h2, h3⟩ := hfk
        have hy : (kv.getD j (.junk, .junk)) = kv[j] := by simp [List.getD_eq_getElem?_getD, h1]
        refine ⟨_, _, _, p, w, ?_, h, hR.heap, rep es.toList[j].val true _ (by rw [hy]; exact (hkv j h1 h2).2), Step.refl _ _, Below.refl _ _⟩
        unfold execOp
        rw [ho]
        simp only [Instr.lookup, e1, Sem.run_bind, run_underlying ht, Result.andThen_ok, Sem.run_pure, checkKey_leaf hd, hgo, h3]
    · cases hx
  · cases hx
theorem sameBits_leaf {d : Option TypeDesc} {p : Pl} {w : World} {v u : Value} {x y : AV} (hv : Rep p w v x) (hu : Rep p w u y) (h : eqLeaf d x y = some true) : Instr.sameBits 10000 u v = true := by
  unfold eqLeaf at h
  split at h
  · rename_i kk k a l b
    cases rep_int hv; cases rep_int hu
    by_cases hk : k = l
    · subst hk; simp at h; subst h; simp [Instr.sameBits]
    · simp [hk] at h
  · cases rep_str hv; cases rep_str hu
    simp at h
    simp only [Instr.sameBits]
    rw [beqBA, h]; simp
  · cases rep_bool hv; cases rep_bool hu
    simp at h; subst h; simp [Instr.sameBits]
  · cases h
theorem findA_hit {d : Option TypeDesc} {x : AV} : ∀ {kv : List (AV × AV)} {j : Nat} (h : j < kv.length), findA d x kv = some (some j) → eqLeaf d x kv[j].1 = some true
  | [], j, h, _ => absurd h (by simp)
  | q :: r, j, hj, h => by
    unfold findA at h
    split at h
    · rename_i he; cases h; exact he
    · split at h
      · rename_i j' hj'; cases h; have := findA_hit (kv := r) (by simpa using hj) hj'; simpa using this
      · cases h
      · cases h
    · cases h
def updA (kv : List (AV × AV)) (r : Option Nat) (k v : AV) : List (AV × AV) := match r with
  | some j => kv.set j (k, v)
  | none => kv ++ [(k, v)]
theorem op_mapUpdate {t kt et : TypeId} {m k v : Operand} {id : Nat} {kv : List (AV × AV)} {r : Option Nat} (ho : o.op = .mapUpdate t m k v ∨ o.op = .insert t m k v) (ht : P.underlying t = some (.map kt et)) (hd : leafD (P.underlying kt) = true)
    (hm : s.ev m = .map id) (hb : s.H[id]? = some (.map kv)) (hf : findA (P.underlying kt) (s.ev k) kv = some r) (hk : notTup (s.ev k) = true) (hv : notTup (s.ev v) = true)
    (h : R .junk (s.H.set id (.map (updA kv r (s.ev k) (s.ev v))))) : OpV P o s R := opV_of fun p w a hR => by
  obtain ⟨hl, hbe⟩ := List.getElem?_eq_some_iff.1 hb
  have hbk := hR.heap.blk id hl
  rw [hbe] at hbk
  obtain ⟨g, es, cl, hg, hh, hlen, hkv⟩ := hbk
  have hev := hR.ev m
  rw [hm] at hev
  obtain ⟨g', hg', e1⟩ := hev.2 _ hg
  cases hg'
  have hgl : g < w.heap.size := (Array.getElem?_eq_some_iff.1 hh).1
  have hfk := findKey_of (P := P) hd (hR.ev k) hlen (fun i a b => (hkv i a b).1) hf w
  have hgo : (getObj g).run P w = .ok (.map es cl) w := by simp [getObj, Sem.run, hh]
  have hk1 := rep_rep1 (hR.ev k) hk
  have hv1 := rep_rep1 (hR.ev v) hv
  have put : ∀ (es' : Array MapEntry) (cl' : Nat) (kv' : List (AV × AV)), es'.toList.length = kv'.length → (∀ (i : Nat) (h : i < kv'.length) (h' : i < es'.toList.length), Rep1 p w es'.toList[i].key kv'[i].1 ∧ Rep1 p w es'.toList[i].val kv'[i].2) →
      RH p (s.H.set id (.map kv')) { w with heap := w.heap.setIfInBounds g (.map es' cl') } ∧ Step p w p { w with heap := w.heap.setIfInBounds g (.map es' cl') } := fun es' cl' kv' e2 e3 => by
    refine set_gen hR.heap (.map kv') hl hg rfl rfl rfl (by simp) (fun g' hne => by simp [Array.getElem?_setIfInBounds, Ne.symm hne]) ?_ fun hS => ⟨g, es', cl', hg, by simp [hgl], e2, fun i a b => ⟨(e3 i a b).1.step hS, (e3 i a b).2.step hS⟩⟩
    unfold rowSize
    rw [hh]
    simp [hgl]
  have hrun : ∀ es' cl', (Instr.mapUpdate t (a.eval m) (a.eval k) (a.eval v)).run P w = .ok () { w with heap := w.heap.setIfInBounds g (.map es' cl') } → (execOp a.eval o).run P w = .ok .skip { w with heap := w.heap.setIfInBounds g (.map es' cl') } := fun es' cl' he => by
    unfold execOp
    rcases ho with ho | ho <;> rw [ho] <;> simp only [Sem.run_bind, he, Result.andThen_ok, Sem.run_pure]
  cases r with
  | none =>
    simp only at hfk
    obtain ⟨r1, r2⟩ := put (es.push { key := a.eval k, val := a.eval v, born := cl }) (cl + 1) (kv ++ [(s.ev k, s.ev v)]) (by simp [hlen]) (fun i a1 a2 => by
      simp only [Array.toList_push]
      by_cases hi : i < kv.length
      · rw [List.getElem_append_left hi, List.getElem_append_left (by rw [hlen]; exact hi)]; exact hkv i hi (by rw [hlen]; exact hi)
      · have : i = kv.length := by simp at a1; omega
        subst this
        rw [List.getElem_append_right (Nat.le_refl _), List.getElem_append_right (by rw [hlen]; exact Nat.le_refl _)]
        simp only [hlen, Nat.sub_self, List.getElem_cons_zero]
        exact ⟨hk1, hv1⟩)
    refine ⟨.skip, undef, .junk, _, p, _, hrun _ _ ?_, Or.inr ⟨rfl, rfl⟩, h, r1, trivial, r2⟩
    simp only [Instr.mapUpdate, e1, Sem.run_bind, run_underlying ht, Result.andThen_ok, checkKey_leaf hd, hgo, hfk]
    simp [setObj, Sem.run, hh]
  | some j =>
    obtain ⟨h1, h2, h3⟩ := hfk
    have hes : es[j]? = some es.toList[j] := by rw [← Array.getElem?_toList]; simp [h2]
    have hsb := sameBits_leaf (hR.ev k) (hkv j h1 h2).1.repT.rep (findA_hit h1 hf)
    obtain ⟨r1, r2⟩ := put (es.modify j fun e => { e with key := a.eval k, val := a.eval v }) cl (kv.set j (s.ev k, s.ev v)) (by simp [hlen]) (fun i a1 a2 => by
      simp only [Array.toList_modify, List.getElem_modify, List.getElem_set]
      by_cases hij : j = i
      · subst hij; simp only [if_true]; exact ⟨hk1, hv1⟩
      · simp only [if_neg hij]; exact hkv i (by simpa using a1) (by simpa using a2))
    refine ⟨.skip, undef, .junk, _, p, _, hrun _ _ ?_, Or.inr ⟨rfl, rfl⟩, h, r1, trivial, r2⟩
    simp only [Instr.mapUpdate, e1, Sem.run_bind, run_underlying ht, Result.andThen_ok, checkKey_leaf hd, hgo, h3, hes, Option.map_some, Option.getD_some, Instr.keyThatStays, hsb, if_true, Sem.run_pure]
    simp [setObj, Sem.run, hh]
end

section
variable {P : Program} {s : St} {o : Oper} {R : AV → List Blk → Prop}
/-- a slice of an array behind an address, the type being the array's own -/
theorem op_arrSliceA {t e : TypeId} {n : Nat} {x : Operand} {lo hi : Option Operand} {id off : Nat} {t' : TypeId} {xs : List AV} {l h' : Int} (ho : o.op = .slice t x lo hi none) (ha : P.underlying t = some (.array n e)) (hk : knownT P e = true)
    (hx : s.ev x = .ptr id off) (hb : s.H[id]? = some (.row t' xs)) (hsz : 0 < sizeT P e) (hl : loE (lo.map s.ev) = some l) (hh : hiE n (hi.map s.ev) = some h') (hbd : 0 ≤ l ∧ l ≤ h' ∧ h' ≤ n) (hfit : off + n * sizeT P e ≤ xs.length) (hn : n ≤ maxLen)
    (h : R (.sl id (off + l.toNat * sizeT P e) (h'.toNat - l.toNat) (sizeT P e)) s.H) : OpB P o s R := opB_of fun p w a hR => by
  have hv := hR.ev x
  rw [hx] at hv
  rcases hR.heap.row hb with ⟨h1, h2⟩ | ⟨g, cur, h1, h2, h3, h4⟩
  · obtain ⟨g, hg, _⟩ := hv.2 _ h1; cases hg
  · obtain ⟨g', hg', hve⟩ := hv.2 _ h1
    cases hg'
    have e1 : RepO p w (lo.map a.eval) (lo.map s.ev) := by cases lo <;> first | trivial | exact hR.ev _
    have e2 : RepO p w (hi.map a.eval) (hi.map s.ev) := by cases hi <;> first | trivial | exact hR.ev _
    have hbs := run_bounds (P := P) e1 e2 (isSl := false) hl hh hbd (Nat.le_refl n) w
    refine ⟨.slice (some (if n = l.toNat then ⟨g, off, none⟩ else (⟨g, off, none⟩ : Addr).add (l.toNat * sizeT P e))) (h'.toNat - l.toNat) (n - l.toNat), _, _, p, w, ?_, h, hR.heap, ?_, Step.refl _ _, Below.refl _ _⟩
    · unfold execOp
      rw [ho]
      simp only [Instr.sliceAt, Instr.sureAddr, hve, Sem.run_bind, Sem.run_pure, Result.andThen_ok, run_underlying ha, hbs, run_sizeT hk, Option.map_none]
    · have hlt : id < p.n := hv.1
      refine ⟨hlt, fun q hq => ?_⟩
      rw [h1] at hq
      cases hq
      refine ⟨_, _, rfl, by omega, by omega, hsz, (fun h => by cases h), ?_⟩
      by_cases hnl : n = l.toNat
      · left; omega
      · right
        refine ⟨g, rfl, ?_, ?_⟩
        · rw [if_neg hnl, add_none _ rfl]
        · unfold rowSize
          rw [h2]
          have : (n - l.toNat) * sizeT P e + l.toNat * sizeT P e = n * sizeT P e := by rw [← Nat.add_mul]; congr 1; omega
          show _ ≤ cur.size
          omega
/-- a slice with three bounds -/
theorem op_slice3 {t e : TypeId} {x hi mx : Operand} {lo : Option Operand} {id st len sz : Nat} {t' : TypeId} {xs : List AV} {l h' m : Int} {kh km : IntKind} (ho : o.op = .slice t x lo (some hi) (some mx)) (ht : P.underlying t = some (.slice e)) (hk : knownT P e = true) (hsz : sizeT P e = sz)
    (hx : s.ev x = .sl id st len sz) (hb : s.H[id]? = some (.row t' xs)) (hl : loE (lo.map s.ev) = some l) (hh : s.ev hi = .int kh h') (hm : s.ev mx = .int km m) (hbd : 0 ≤ l ∧ l ≤ h' ∧ h' ≤ m ∧ m ≤ len)
    (h : R (.sl id (st + l.toNat * sz) (h'.toNat - l.toNat) sz) s.H) : OpB P o s R := opB_of fun p w a hR => by
  have hv := hR.ev x
  rw [hx] at hv
  obtain ⟨q, hq⟩ := hR.heap.live hb
  obtain ⟨ad, cap, hve, hcap, hcm, hpos, hno, hc⟩ := hv.2 q hq
  have eh := rep_int (hh ▸ hR.ev hi)
  have em := rep_int (hm ▸ hR.ev mx)
  have hb1 : (Instr.sliceBound (.int km m) cap .slice3Acap).run P w = .ok m.toNat w := by
    have : 0 ≤ m ∧ m ≤ cap := by omega
    simp [Instr.sliceBound, asIntOf, this]
  have hb2 : (Instr.sliceBound (.int kh h') m.toNat .slice3B).run P w = .ok h'.toNat w := by
    have h1 : 0 ≤ h' := by omega
    have h2 : h' ≤ max m 0 := by omega
    simp [Instr.sliceBound, asIntOf, h1, h2]
  have hbs : (Instr.sliceBounds true len cap (lo.map a.eval) (some (.int kh h')) (some (.int km m))).run P w = .ok (l.toNat, h'.toNat, m.toNat) w := by
    cases lo with
    | none =>
      simp only [Option.map_none, loE, Option.some.injEq] at hl
      subst hl
      simp [Instr.sliceBounds, hb1, hb2]
    | some lo =>
      simp only [Option.map_some] at hl
      obtain ⟨kl, hlo⟩ : ∃ k, s.ev lo = .int k l := by
        cases hz : s.ev lo <;> rw [hz] at hl <;> simp [loE] at hl
        subst hl; exact ⟨_, rfl⟩
      have el := rep_int (hlo ▸ hR.ev lo)
      have hb3 : (Instr.sliceBound (.int kl l) h'.toNat .slice3C).run P w = .ok l.toNat w := by
        have h1 : 0 ≤ l := by omega
        have h2 : l ≤ max h' 0 := by omega
        simp [Instr.sliceBound, asIntOf, h1, h2]
      simp [Instr.sliceBounds, hb1, hb2, hb3, el]
  refine ⟨.slice (if m.toNat = l.toNat then ad else ad.map (·.add (l.toNat * sizeT P e))) (h'.toNat - l.toNat) (m.toNat - l.toNat), _, _, p, w, ?_, h, hR.heap, ⟨hv.1, fun q' hq' => ?_⟩, Step.refl _ _, Below.refl _ _⟩
  · unfold execOp
    rw [ho]
    simp only [Instr.sliceAt, Option.map_some, eh, em, hve, Sem.run_bind, Sem.run_pure, Result.andThen_ok, run_underlying ht, Instr.slice, hbs, run_sizeT hk]
  · rw [hq] at hq'
    cases hq'
    refine ⟨_, _, rfl, by omega, by omega, hpos, fun hn0 => ?_, ?_⟩
    · by_cases hml : m.toNat = l.toNat
      · omega
      · rw [if_neg hml] at hn0
        cases ad with
        | none => have := hno rfl; omega
        | some ad => simp at hn0
    · by_cases hml : m.toNat = l.toNat
      · left; omega
      · rcases hc with hc | ⟨g, rfl, rfl, hrs⟩
        · omega
        · right
          refine ⟨g, rfl, ?_, ?_⟩
          · rw [if_neg hml, Option.map_some, add_none _ rfl, hsz]
          · have h1 : (m.toNat - l.toNat) * sz + l.toNat * sz = m.toNat * sz := by rw [← Nat.add_mul]; congr 1; omega
            have h2 : m.toNat * sz ≤ cap * sz := Nat.mul_le_mul_right _ (by omega)
            omega
end

section
variable {P : Program} {s : St} {o : Oper} {R : AV → List Blk → Prop}
/-- copy into an own row of one cell an element -/
theorem op_copy {dT sT e : TypeId} {x y : Operand} {id st dlen m : Nat} {t : TypeId} {xs ys : List AV} (ho : o.op = .call ⟨.builtin .copy, ⟨[x, y]⟩, ⟨[dT, sT]⟩⟩) (hu : P.underlying dT = some (.slice e)) (hk : (P.info? e).isSome = true) (hs1 : sizeT P e = 1)
    (hx : s.ev x = .sl id st dlen 1) (hb : s.H[id]? = some (.row t xs)) (hy : IsSrc s.H 1 (s.ev y) m ys) (hfit : st + dlen ≤ xs.length)
    (h : R (.int .i64 (Nat.min m dlen : Nat)) (bif (Nat.min m dlen).beq 0 then s.H else s.H.set id (.row t (xs.take st ++ ys.take (Nat.min m dlen) ++ xs.drop (st + Nat.min m dlen))))) : OpV P o s R := opV_of fun p w a hR => by
  have hinf : (P.info? e).map (·.size) = some 1 := by
    obtain ⟨i, hi⟩ := Option.isSome_iff_exists.1 hk
    have h1 : i.size = 1 := by unfold sizeT at hs1; rw [hi] at hs1; exact hs1
    rw [hi, Option.map_some, h1]
  obtain ⟨b, c, hye, news, hn1, hn2, hn3⟩ := hy.src hR.heap (hR.ev y)
  have hv := hR.ev x
  rw [hx] at hv
  obtain ⟨q, hq⟩ := hR.heap.live hb
  obtain ⟨ad, cap, hve, hcap, hcm, hpos, hno, hc⟩ := hv.2 q hq
  cases hz : (Nat.min m dlen).beq 0 with
  | true =>
    have h0 := Nat.eq_of_beq_eq_true hz
    rw [hz] at h
    refine ⟨.value (goInt 0), goInt 0, _, _, p, w, ?_, Or.inl rfl, h, hR.heap, ?_, Step.refl _ _⟩
    · unfold execOp
      rw [ho]
      simp [resolve, invoke, builtin, hve, hye, run_copy_none w dT sT o.type e ad b dlen cap m c hu hinf h0]
    · rw [h0]; exact RepF.rep (.int _ _)
  | false =>
    have h0 : 0 < m ∧ 0 < dlen := by
      have : Nat.min m dlen ≠ 0 := fun hh => by rw [hh] at hz; cases hz
      have h1 : Nat.min m dlen ≤ m := Nat.min_le_left _ _
      have h2 : Nat.min m dlen ≤ dlen := Nat.min_le_right _ _
      omega
    rw [hz] at h
    obtain ⟨h1, h2⟩ := h0
    obtain ⟨ad2, rfl, hcell⟩ := hn3.resolve_left (by omega)
    rcases hc with hc | ⟨g, rfl, rfl, hrs⟩
    · omega
    · rcases hR.heap.row hb with ⟨h3, _⟩ | ⟨g', cur, h3, h4, h5, h6⟩
      · rw [hq] at h3; cases h3
      · rw [hq] at h3; cases h3
        have hml : Nat.min m dlen ≤ m := Nat.min_le_left _ _
        have hmd : Nat.min m dlen ≤ dlen := Nat.min_le_right _ _
        generalize hgm : Nat.min m dlen = k at *
        have hcl : (news.take k).length = k := by rw [List.length_take, hn2]; omega
        have hyk : (ys.take k).length = k := by rw [List.length_take, ← hn1.1, hn2]; omega
        have h1c : ∀ u ∈ news.take k, u.oneCell' = true := fun u hu => by
          obtain ⟨j, hj, rfl⟩ := List.mem_iff_getElem.1 (List.mem_of_mem_take hu)
          exact (hn1.2 j hj (by rw [← hn1.1]; exact hj)).1
        have hrun := run_copy_row (P := P) w dT sT o.type e g st dlen cap ad2 m c cur t (news.take k) hu hinf h4 (by rw [hcl, hgm]) (fun j v hj => by
          rw [List.getElem?_take] at hj
          split at hj
          · exact hcell j v hj
          · cases hj) (by omega) h1c
        have hpre := row_pre h5 h6
        have hnew : RepL (RepC p w) ((cur.toList.take st ++ news.take k ++ cur.toList.drop (st + k)).take (xs.take st ++ ys.take k ++ xs.drop (st + k)).length) (xs.take st ++ ys.take k ++ xs.drop (st + k)) := by
          have hll : (xs.take st ++ ys.take k ++ xs.drop (st + k)).length = xs.length := by simp only [List.length_append, List.length_take, List.length_drop] at hyk ⊢; omega
          have := splice_take cur.toList (news.take k) st xs.length (by rw [hcl]; omega) (by simpa using h5)
          rw [hcl] at this
          rw [hll, this]
          exact ((hpre.take st).append (hn1.take k)).append (hpre.drop _)
        rw [hcl] at hrun
        obtain ⟨r1, r2⟩ := set_ok hR.heap (xs' := xs.take st ++ ys.take k ++ xs.drop (st + k)) (cur' := (cur.toList.take st ++ news.take k ++ cur.toList.drop (st + k)).toArray) hb hq h4 (by simp only [List.size_toArray, List.length_append, List.length_take, List.length_drop, Array.length_toList] at hcl ⊢; omega) (by simpa only [List.toList_toArray] using hnew)
        refine ⟨.value (goInt k), goInt k, _, _, p, _, ?_, Or.inl rfl, h, r1, RepF.rep (.int _ _), r2⟩
        unfold execOp
        rw [ho]
        simp [resolve, invoke, builtin, hve, hye, hrun]
end
end Go.Proofs.Ytcmbhebgpboepaa.V
