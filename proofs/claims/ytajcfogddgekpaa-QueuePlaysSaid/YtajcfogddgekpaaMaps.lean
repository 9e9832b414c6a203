/-
  A map as a list of keys and values, in the order in which they were put in: general facts, over any program and any type of keys.
-/
import Derived.Test.YtajcfogddgekpaaLib
import Derived.Carry
import Derived.MapKept
namespace Go.Proofs.Ytajcfogddgekpaa
open Go.RowKit

/-- what is asked of a type of keys: 'toV' writes a key as a value, 'eqb' compares -/
structure KeyT (P : Program) (k : TypeId) {κ : Type} (toV : κ → Value) (eqb : κ → κ → Bool) : Prop where
  eq : ∀ x y, eqb x y = true ↔ x = y
  check : ∀ (w : World) (em : Bool) (x : κ), (Instr.checkKey em 10000 k (toV x)).run P w = .ok () w
  find : ∀ (w : World) (x : κ) (es : List MapEntry) (kv : List (κ × Value)), es.map (fun e => (e.key, e.val)) = kv.map (fun p => (toV p.1, p.2)) →
    (Instr.findKey k (toV x) es).run P w = .ok ((kv.findIdx? (fun p => eqb x p.1)).map fun i => (i, (kv[i]?.map (·.2)).getD undef)) w
  stays : ∀ (w : World) (x : κ), (Instr.keyThatStays (toV x) (toV x)).run P w = .ok (toV x) w

def getK {κ : Type} (eqb : κ → κ → Bool) (kv : List (κ × Value)) (x : κ) : Option Value := (kv.find? fun p => eqb x p.1).map (·.2)
def putK {κ : Type} (eqb : κ → κ → Bool) (kv : List (κ × Value)) (x : κ) (v : Value) : List (κ × Value) :=
  match kv.findIdx? (fun p => eqb x p.1) with
  | some i => kv.set i (x, v)
  | none => kv ++ [(x, v)]

def MapIs {κ : Type} (toV : κ → Value) (w : World) (b : Nat) (kv : List (κ × Value)) : Prop :=
  ∃ es clock, w.heap[b]? = some (.map es clock) ∧ es.toList.map (fun e => (e.key, e.val)) = kv.map (fun p => (toV p.1, p.2))

section
variable {P : Program} {k : TypeId} {κ : Type} {toV : κ → Value} {eqb : κ → κ → Bool}

theorem MapIs.made (w : World) : MapIs toV (w.alloc (.map #[] 0)) w.heap.size [] := ⟨#[], 0, (MapKept.heap_alloc w _).1, rfl⟩
theorem MapIs.lt {w : World} {b : Nat} {kv : List (κ × Value)} (h : MapIs toV w b kv) : b < w.heap.size := by
  obtain ⟨es, clock, hb, _⟩ := h
  exact (Array.getElem?_eq_some_iff.1 hb).1
theorem MapIs.of_block {w w' : World} {b : Nat} {kv : List (κ × Value)} (h : MapIs toV w b kv) (hb : w'.heap[b]? = w.heap[b]?) : MapIs toV w' b kv := by
  obtain ⟨es, clock, h1, h2⟩ := h
  exact ⟨es, clock, hb.trans h1, h2⟩
theorem MapIs.below {w w' : World} {b : Nat} {kv : List (κ × Value)} (h : MapIs toV w b kv) (hb : Below w.heap.size w w') : MapIs toV w' b kv := h.of_block (hb.block b h.lt)

theorem findIdx_find {κ : Type} (p : κ × Value → Bool) (kv : List (κ × Value)) : (kv.findIdx? p).map (fun i => (kv[i]?.map (·.2)).getD undef) = (kv.find? p).map (·.2) := by
  induction kv with
  | nil => rfl
  | cons a r ih =>
    rw [List.findIdx?_cons, List.find?_cons]
    cases h : p a
    · simp only [Bool.false_eq_true, if_false, Option.map_map]
      rw [← ih]
      congr 1
    · simp

theorem run_lookup_is (K : KeyT P k toV eqb) {t e : TypeId} (ht : P.underlying t = some (.map k e)) {w : World} {b : Nat} {kv : List (κ × Value)} (h : MapIs toV w b kv) (x : κ) (z : Value) (hz : (zeroValue e).run P w = .ok z w) :
    (Instr.lookup t (.map (some b)) (toV x) false).run P w = .ok ((getK eqb kv x).getD z) w := by
  obtain ⟨es, clock, hb, he⟩ := h
  have hg := MapKept.run_getObj_map (P := P) hb
  have hf := K.find w x es.toList kv he
  unfold getK
  rw [← findIdx_find]
  cases hi : kv.findIdx? (fun p => eqb x p.1) with
  | none =>
    rw [hi] at hf
    simp only [Option.map_none] at hf
    simp [Instr.lookup, run_underlying ht, hg, K.check, hf, hz, Result.andThen]
  | some i =>
    rw [hi] at hf
    simp only [Option.map_some] at hf
    simp [Instr.lookup, run_underlying ht, hg, K.check, hf, Result.andThen]

theorem run_update_is (K : KeyT P k toV eqb) {t e : TypeId} (ht : P.underlying t = some (.map k e)) {w : World} {b : Nat} {kv : List (κ × Value)} (h : MapIs toV w b kv) (x : κ) (v : Value) :
    ∃ w', (Instr.mapUpdate t (.map (some b)) (toV x) v).run P w = .ok () w' ∧ MapIs toV w' b (putK eqb kv x v) ∧ w.grownBy w' (some b) := by
  obtain ⟨es, clock, hb, he⟩ := h
  have hg := MapKept.run_getObj_map (P := P) hb
  have hf := K.find w x es.toList kv he
  have hlt := (Array.getElem?_eq_some_iff.1 hb).1
  have hgr : ∀ o, w.grownBy (ChangeMaps.setBlock w b o) (some b) := fun o => ⟨rfl, rfl, rfl, by simp [ChangeMaps.setBlock], fun j _ hj => by
    simp only [ChangeMaps.setBlock]
    rw [Array.getElem?_setIfInBounds_ne (fun e => hj (by rw [e]))]⟩
  unfold putK
  cases hi : kv.findIdx? (fun p => eqb x p.1) with
  | none =>
    rw [hi] at hf
    simp only [Option.map_none] at hf
    refine ⟨ChangeMaps.setBlock w b (.map (es.push ⟨toV x, v, clock⟩) (clock + 1)), ?_, ⟨es.push ⟨toV x, v, clock⟩, clock + 1, ?_, ?_⟩, hgr _⟩
    · simp [Instr.mapUpdate, run_underlying ht, hg, K.check, hf, MapKept.run_setObj_map _ hb, Result.andThen, ChangeMaps.setBlock]
    · simp [ChangeMaps.setBlock, hlt]
    · simp [he]
  | some i =>
    rw [hi] at hf
    simp only [Option.map_some] at hf
    obtain ⟨hil, hix, _⟩ := List.findIdx?_eq_some_iff_getElem.1 hi
    have hxi : x = kv[i].1 := (K.eq _ _).1 hix
    have hlen : es.toList.length = kv.length := by have := congrArg List.length he; simpa using this
    have hil' : i < es.size := by rw [← Array.length_toList, hlen]; exact hil
    have hkey : (es[i]'hil').key = toV x := by
      have h1 : (es.toList.map (fun e => (e.key, e.val)))[i]? = (kv.map (fun p => (toV p.1, p.2)))[i]? := by rw [he]
      rw [List.getElem?_map, List.getElem?_map, List.getElem?_eq_getElem hil, List.getElem?_eq_getElem (by rw [hlen]; exact hil)] at h1
      simp only [Option.map_some, Option.some.injEq, Prod.mk.injEq, Array.getElem_toList] at h1
      rw [h1.1, hxi]
    refine ⟨ChangeMaps.setBlock w b (.map (es.modify i fun e => { e with key := toV x, val := v }) clock), ?_, ⟨es.modify i fun e => { e with key := toV x, val := v }, clock, ?_, ?_⟩, hgr _⟩
    · simp [Instr.mapUpdate, run_underlying ht, hg, K.check, hf, MapKept.run_setObj_map _ hb, Result.andThen, ChangeMaps.setBlock, hil', hkey, K.stays]
    · simp [ChangeMaps.setBlock, hlt]
    · refine List.ext_getElem? fun j => ?_
      have h1 : (es.toList.map (fun e => (e.key, e.val)))[j]? = (kv.map (fun p => (toV p.1, p.2)))[j]? := by rw [he]
      rw [List.getElem?_map, List.getElem?_map] at h1 ⊢
      rw [Array.getElem?_toList, Array.getElem?_modify, List.getElem?_set]
      by_cases hj : i = j
      · subst hj; simp [hil', hil]
      · simp only [hj, if_false]; rw [← Array.getElem?_toList]; exact h1

theorem getK_putK (heq : ∀ x y : κ, eqb x y = true ↔ x = y) (kv : List (κ × Value)) (x y : κ) (v : Value) : getK eqb (putK eqb kv x v) y = if eqb y x then some v else getK eqb kv y := by
  unfold getK putK
  cases hi : kv.findIdx? (fun p => eqb x p.1) with
  | none =>
    rw [List.findIdx?_eq_none_iff] at hi
    simp only [List.find?_append]
    cases hy : eqb y x
    · simp [hy]
    · obtain rfl := (heq _ _).1 hy
      have : kv.find? (fun p => eqb y p.1) = none := List.find?_eq_none.2 fun p hp => by simpa using hi p hp
      simp [this, hy]
  | some i =>
    obtain ⟨hil, hix, hfirst⟩ := List.findIdx?_eq_some_iff_getElem.1 hi
    have hxi := (heq _ _).1 hix
    simp only
    have hsplit : kv = kv.take i ++ kv[i] :: kv.drop (i + 1) := by rw [← List.drop_eq_getElem_cons hil, List.take_append_drop]
    have hset : kv.set i (x, v) = kv.take i ++ (x, v) :: kv.drop (i + 1) := by rw [List.set_eq_take_append_cons_drop, if_pos hil]
    rw [hset]
    conv => rhs; rw [hsplit]
    simp only [List.find?_append, List.find?_cons]
    cases hy : eqb y x
    · rw [show eqb y kv[i].1 = false from by rw [← hxi]; exact hy]
      simp
    · obtain rfl := (heq _ _).1 hy
      have hn : (kv.take i).find? (fun p => eqb y p.1) = none := List.find?_eq_none.2 fun p hp => by
        obtain ⟨j, hj, rfl⟩ := List.mem_take_iff_getElem.1 hp
        simpa using hfirst j (by omega)
      simp [hn]
theorem getK_nil (x : κ) : getK eqb [] x = none := rfl

/-- a map's update whose run is known -/
theorem wpList_mapUpdate_by {P : Program} {w w' : World} {ops : Array Oper} {rest : List Oper} {o : Oper} {a : Act} {Q : Exit → Act → World → Prop} {t : TypeId} {m key v : Value}
    (hr : (Instr.mapUpdate t m key v).run P w = .ok () w') (hgd : o.guard = none) (x y z : Operand)
    (ho : o.op = .mapUpdate t x y z) (hev : (a.eval x, a.eval y, a.eval z) = (m, key, v))
    (h : wpList P ops Q rest (a.put o.dst undef) w') : wpList P ops Q (o :: rest) a w := by
  refine wpList_plain hgd fun K hK => ?_
  have h1 : a.eval x = m := congrArg (·.1) hev
  have h2 : a.eval y = key := congrArg (·.2.1) hev
  have h3 : a.eval z = v := congrArg (·.2.2) hev
  unfold Oper.wp
  simp [execOp, ho, h1, h2, h3, hr, Result.andThen]
  exact hK _ _ h
end
end Go.Proofs.Ytajcfogddgekpaa
