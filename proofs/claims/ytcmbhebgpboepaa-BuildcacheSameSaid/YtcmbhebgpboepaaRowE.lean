/-
  Rows of elements of several cells each, over any program: what the contracts of generic functions lean on.
-/
import Derived.Test.YtcmbhebgpboepaaLib
import Derived.Laws.StructEq
import Derived.Laws.CopyRow
namespace Go.Proofs.Ytcmbhebgpboepaa
open Go.ChangeShapes Go.WideShapes Go.ChangeAt Go.RowKit
set_option linter.unusedSimpArgs false
set_option linter.unusedVariables false

/-- how an element lies in cells -/
structure Enc {α : Type} (enc : α → List Value) (size : Nat) : Prop where
  len : ∀ x, (enc x).length = size
  one : ∀ x, ∀ u ∈ enc x, u.oneCell' = true
  pos : 0 < size

section
variable {α : Type} {enc : α → List Value} {size : Nat}
def flatE (enc : α → List Value) (xs : List α) : List Value := xs.flatMap enc
theorem flatE_nil : flatE enc [] = [] := rfl
theorem flatE_cons (x : α) (xs : List α) : flatE enc (x :: xs) = enc x ++ flatE enc xs := rfl
theorem flatE_one (x : α) : flatE enc [x] = enc x := by simp [flatE]
theorem flatE_append (a b : List α) : flatE enc (a ++ b) = flatE enc a ++ flatE enc b := by simp [flatE]
theorem flatE_length (E : Enc enc size) (xs : List α) : (flatE enc xs).length = xs.length * size := by
  induction xs with
  | nil => simp [flatE]
  | cons x r ih => rw [flatE_cons, List.length_append, E.len, ih, List.length_cons, Nat.succ_mul, Nat.add_comm]
theorem flatE_take (E : Enc enc size) (xs : List α) (k : Nat) : (flatE enc xs).take (k * size) = flatE enc (xs.take k) := by
  induction xs generalizing k with
  | nil => simp [flatE]
  | cons x r ih =>
    cases k with
    | zero => simp [flatE]
    | succ k =>
      rw [flatE_cons, List.take_succ_cons, flatE_cons, List.take_append, E.len, Nat.succ_mul, Nat.add_sub_cancel, ih, List.take_of_length_le (by rw [E.len]; omega)]
theorem flatE_drop (E : Enc enc size) (xs : List α) (k : Nat) : (flatE enc xs).drop (k * size) = flatE enc (xs.drop k) := by
  induction xs generalizing k with
  | nil => simp [flatE]
  | cons x r ih =>
    cases k with
    | zero => simp
    | succ k =>
      rw [flatE_cons, List.drop_succ_cons, List.drop_append, E.len, Nat.succ_mul, Nat.add_sub_cancel, ih, List.drop_eq_nil_of_le (by rw [E.len]; omega), List.nil_append]
theorem flatE_get (E : Enc enc size) (xs : List α) (k j : Nat) (h : k < xs.length) (hj : j < size) : (flatE enc xs)[k * size + j]? = (enc xs[k])[j]? := by
  induction xs generalizing k with
  | nil => simp at h
  | cons x r ih =>
    cases k with
    | zero => rw [flatE_cons, Nat.zero_mul, Nat.zero_add, List.getElem?_append_left (by rw [E.len]; exact hj)]; rfl
    | succ k =>
      rw [flatE_cons, List.getElem?_append_right (by rw [E.len, Nat.succ_mul]; omega), E.len, show (k + 1) * size + j - size = k * size + j by rw [Nat.succ_mul]; omega]
      exact ih k (by simpa using h)
theorem flatE_oneCell (E : Enc enc size) (xs : List α) : ∀ u ∈ flatE enc xs, u.oneCell' = true := by
  intro u hu
  simp only [flatE, List.mem_flatMap] at hu
  obtain ⟨p, _, h⟩ := hu
  exact E.one p u h

/-- a slice that reads as xs -/
structure RowE (enc : α → List Value) (w : World) (a : Option Addr) (len cap : Nat) (xs : List α) : Prop where
  len_eq : xs.length = len
  small : len ≤ 1000000000
  cap_ge : len ≤ cap
  nilcap : a = none → cap = 0
  row : RowV w a (flatE enc xs)
theorem RowE.below {w w' : World} {a : Option Addr} {len cap : Nat} {xs : List α} (h : RowE enc w a len cap xs) (hb : Below w.heap.size w w') : RowE enc w' a len cap xs := ⟨h.len_eq, h.small, h.cap_ge, h.nilcap, h.row.below hb⟩
theorem RowE.nil (enc : α → List Value) (w : World) : RowE enc w none 0 0 [] := ⟨rfl, by omega, by omega, fun _ => rfl, Or.inl rfl⟩
/-- a row of the call's own -/
def OwnE (enc : α → List Value) (t : TypeId) (size : Nat) (w : World) (base : Nat) (v : Value) (xs : List α) : Prop := w.ownsRow base t size v xs.length (flatE enc xs)
theorem OwnE.nil (enc : α → List Value) (t : TypeId) (size : Nat) (w : World) (base : Nat) : OwnE enc t size w base (.slice none 0 0) [] := World.ownsRow_nil _ _ _ _
theorem OwnE.rowE {t : TypeId} {w : World} {base : Nat} {v : Value} {xs : List α} (h : OwnE enc t size w base v xs) (hs : xs.length ≤ 1000000000) : ∃ a cap, v = .slice a xs.length cap ∧ RowE enc w a xs.length cap xs := by
  have h' := h
  obtain ⟨a, cap, rfl, hr⟩ := RowV.of_owns h
  refine ⟨a, cap, rfl, rfl, hs, ?_, fun ha => ?_, hr⟩
  · rcases h'.2 with ⟨h1, h2⟩ | ⟨g, c', cur, h1, _, _, h2, _⟩
    · omega
    · cases h1; exact h2
  · subst ha
    rcases h'.2 with ⟨h1, _⟩ | ⟨g, c, cur, h1, _⟩
    · simp at h1; omega
    · simp at h1
theorem RowE.at (E : Enc enc size) {w : World} {a : Option Addr} {len cap : Nat} {xs : List α} (h : RowE enc w a len cap xs) (k : Nat) (hk : k < len) :
    ∃ b off, a = some ⟨b, off, none⟩ ∧ b < w.heap.size ∧ ∀ j, j < size → w.cell? ⟨b, off + k * size + j, none⟩ = (enc (xs[k]'(by rw [h.len_eq]; exact hk)))[j]? := by
  have hl := flatE_length E xs
  rw [h.len_eq] at hl
  have hmul : (k + 1) * size ≤ len * size := Nat.mul_le_mul_right _ hk
  rw [Nat.succ_mul] at hmul
  have hp := E.pos
  obtain ⟨b, off, h1, h2, h3⟩ := h.row.addr (by omega)
  refine ⟨b, off, h1, h2, fun j hj => ?_⟩
  have hg := flatE_get E xs k j (by rw [h.len_eq]; exact hk) hj
  rw [← hg, Nat.add_assoc, h3 (k * size + j) (by omega), List.getElem?_eq_getElem]
theorem OwnE.below {t : TypeId} {w w' : World} {base : Nat} {v : Value} {xs : List α} (h : OwnE enc t size w base v xs) (hb : Below w.heap.size w w') : OwnE enc t size w' base v xs := by
  obtain ⟨h1, h2⟩ := h
  refine ⟨h1, ?_⟩
  rcases h2 with h2 | ⟨g, cap, cur, h3, h4, h5, h6⟩
  · exact Or.inl h2
  · exact Or.inr ⟨g, cap, cur, h3, h4, by rw [hb.block g (Array.getElem?_eq_some_iff.1 h5).1]; exact h5, h6⟩
theorem OwnE.base {t : TypeId} {w : World} {base base' : Nat} {v : Value} {xs : List α} (h : OwnE enc t size w base v xs) (hb : base' ≤ base) : OwnE enc t size w base' v xs := by
  obtain ⟨h1, h2⟩ := h
  refine ⟨h1, ?_⟩
  rcases h2 with h2 | ⟨g, cap, cur, h3, h4, h5⟩
  · exact Or.inl h2
  · exact Or.inr ⟨g, cap, cur, h3, Nat.le_trans hb h4, h5⟩
/-- append onto an own row -/
theorem append_E {P : Program} {t e : TypeId} {z : Value} {bytes : Nat} (T : ElemT P t e z size bytes) (E : Enc enc size) (w : World) (base ty : Nat) (v : Value) (xs : List α) (n : Nat) (hn : xs.length = n)
    (hown : OwnE enc e size w base v xs) (a : Option Addr) (m c : Nat) (ys : List α) (hrow : RowE enc w a m c ys)
    (h63 : n + m ≤ maxLen) (hbytes : (n + m) * bytes ≤ 140737488355328) (hbase : base ≤ w.heap.size) :
    ∃ v' w', (Builtin.append_ #[t, t] ty #[v, .slice a m c]).run P w = .ok v' w' ∧ OwnE enc e size w' base v' (xs ++ ys) ∧ w.grownBy w' v.ownBlock := by
  subst hn
  obtain ⟨v', w', h1, h2, h3⟩ := append_row T w base ty v _ _ hown a m c _ hrow.nilcap hrow.row (by rw [flatE_length E, hrow.len_eq]) (flatE_oneCell E ys) h63 hbytes hbase
  refine ⟨v', w', h1, ?_, h3⟩
  unfold OwnE
  rw [List.length_append, flatE_append, hrow.len_eq]
  exact h2
/-- a new block that holds one element -/
theorem RowE.one (E : Enc enc size) (w : World) (cs : Array Value) (t : TypeId) (x : α) (h : cs.toList = enc x) : RowE enc (w.alloc (.cells cs t)) (some ⟨w.heap.size, 0, none⟩) 1 1 [x] :=
  ⟨rfl, by omega, by omega, fun h => (by cases h), by rw [flatE_one, ← h]; exact RowV.new w cs t⟩
theorem RowE.new (E : Enc enc size) (w : World) (cs : Array Value) (t : TypeId) (xs : List α) (n : Nat) (hn : xs.length = n) (hs : n ≤ 1000000000) (h : cs.toList = flatE enc xs) : RowE enc (w.alloc (.cells cs t)) (some ⟨w.heap.size, 0, none⟩) n n xs :=
  ⟨hn, hs, Nat.le_refl _, fun h => (by cases h), by rw [← h]; exact RowV.new w cs t⟩
theorem OwnE.lit (E : Enc enc size) (w : World) (cs : Array Value) (t : TypeId) (xs : List α) (n : Nat) (hn : xs.length = n) (h : cs.toList = flatE enc xs) (h63 : n ≤ maxLen) : OwnE enc t size (w.alloc (.cells cs t)) w.heap.size (.slice (some ⟨w.heap.size, 0, none⟩) n n) xs := by
  subst hn
  have hl := flatE_length E xs
  unfold OwnE
  rw [← h]
  exact World.ownsRow_lit w cs xs.length (Nat.le_refl _) h63 (by rw [← hl, ← h]; simp)
/-- 's[l:]' -/
theorem RowE.drop {P : Program} {t e : TypeId} {z : Value} {bytes : Nat} (T : ElemT P t e z size bytes) (E : Enc enc size) {w : World} {a : Option Addr} {len cap : Nat} {xs : List α} (h : RowE enc w a len cap xs) (l : Nat) (li : Int) (hli : li = l) (hl : l ≤ len) :
    ∃ a', (∀ wx : World, (Instr.slice t (.slice a len cap) (some (.int .i64 li)) none none).run P wx = .ok (.slice a' (len - l) (cap - l)) wx) ∧ RowE enc w a' (len - l) (cap - l) (xs.drop l) := by
  have hlen := flatE_length E xs
  rw [h.len_eq] at hlen
  obtain ⟨a', h1, h2, h3⟩ := slice_row T w a len cap l li hli (flatE enc xs) hl h.cap_ge hlen h.row
  have := h.cap_ge
  have := h.small
  exact ⟨a', h1, by rw [List.length_drop, h.len_eq], by omega, by omega, fun ha => by have := h.nilcap (h3 ha); omega, by rw [← flatE_drop E]; exact h2⟩
/-- 's[:m]' -/
theorem RowE.take {P : Program} {t e : TypeId} {z : Value} {bytes : Nat} (T : ElemT P t e z size bytes) (E : Enc enc size) {w : World} {a : Option Addr} {len cap : Nat} {xs : List α} (h : RowE enc w a len cap xs) (m : Nat) (mi : Int) (hmi : mi = m) (hm : m ≤ len) :
    (∀ wx : World, (Instr.slice t (.slice a len cap) none (some (.int .i64 mi)) none).run P wx = .ok (.slice a m cap) wx) ∧ RowE enc w a m cap (xs.take m) := by
  have hlen := flatE_length E xs
  rw [h.len_eq] at hlen
  obtain ⟨h1, h2⟩ := slice_to T w a len cap m mi hmi (flatE enc xs) hm h.cap_ge h.row
  have := h.cap_ge
  have := h.small
  exact ⟨h1, by rw [List.length_take, h.len_eq]; omega, by omega, by omega, h.nilcap, by rw [← flatE_take E]; exact h2⟩
end

/-- copy at elements of any size -/
theorem run_copy_sz {P : Program} (w : World) (dT sT ty elem : TypeId) (size g o dLen dCap : Nat) (a : Addr) (sLen sCap m : Nat) (cur : Array Value) (t : TypeId) (cs : List Value)
    (hu : P.underlying dT = some (.slice elem)) (hs : (P.info? elem).map (·.size) = some size)
    (hg : w.heap[g]? = some (.cells cur t (0, 0))) (hm : Nat.min sLen dLen = m) (hn : cs.length = m * size)
    (hsrc : ∀ j v, cs[j]? = some v → w.cell? (a.add j) = some v) (hfit : o + cs.length ≤ cur.size) (h1 : ∀ v ∈ cs, v.oneCell' = true) :
    (Builtin.copy_ #[dT, sT] ty #[.slice (some ⟨g, o, none⟩) dLen dCap, .slice (some a) sLen sCap]).run P w =
      .ok (goInt m) (w.setRow g (cur.toList.take o ++ cs ++ cur.toList.drop (o + cs.length)).toArray) := by
  have hl := run_firstCells_some (P := P) w size m a sLen sCap cs hn hsrc
  have hst := run_storeCells_at P g o t cs 0 cur w hg (by simpa using hfit) h1
  cases hq : P.info? elem with
  | none => simp [hq] at hs
  | some i =>
    have hi : i.size = size := by simpa [hq] using hs
    simp [Builtin.copy_, run_underlying hu, Builtin.lenOf, sizeOf, typeInfo, hq, hi, hm, hl, hst]
theorem wpList_copy_by {P : Program} {w w' : World} {ops : Array Oper} {rest : List Oper} {o : Oper} {a : Act} {Q : Exit → Act → World → Prop} {t t' ty : TypeId} {v xv v' : Value}
    (hr : (Builtin.copy_ #[t, t'] ty #[v, xv]).run P w = .ok v' w') (hgd : o.guard = none) (s x : Operand)
    (ho : o.op = .call { callee := .builtin .copy, args := #[s, x], argTypes := #[t, t'] }) (hty : o.type = ty) (hsx : (a.eval s, a.eval x) = (v, xv))
    (h : wpList P ops Q rest (a.put o.dst v') w') : wpList P ops Q (o :: rest) a w := by
  refine wpList_plain hgd fun K hK => ?_
  have h1 : a.eval s = v := congrArg Prod.fst hsx
  have h2 : a.eval x = xv := congrArg Prod.snd hsx
  unfold Oper.wp
  simp [execOp, ho, resolve, invoke, builtin, h1, h2, hty, hr, Result.andThen]
  exact hK _ _ h
theorem step_copy_by {P : Program} {w w' : World} {ops : Array Oper} {o : Oper} {a : Act} {K : Act → World → Prop} {Q : Exit → Act → World → Prop} {E : Prop} {t t' ty : TypeId} {v xv v' : Value}
    (hr : (Builtin.copy_ #[t, t'] ty #[v, xv]).run P w = .ok v' w') (hgd : o.guard = none) (s x : Operand)
    (ho : o.op = .call { callee := .builtin .copy, args := #[s, x], argTypes := #[t, t'] }) (hty : o.type = ty) (hsx : (a.eval s, a.eval x) = (v, xv))
    (h : K (a.put o.dst v') w') : if Region.wanted o (yielded ops a.tmps) = true then Oper.wp P o a w K Q else E := by
  have hw : Region.wanted o (yielded ops a.tmps) = true := by simp [Region.wanted, hgd]
  rw [if_pos hw]
  have h1 : a.eval s = v := congrArg Prod.fst hsx
  have h2 : a.eval x = xv := congrArg Prod.snd hsx
  unfold Oper.wp
  simp [execOp, ho, resolve, invoke, builtin, h1, h2, hty, hr, Result.andThen]
  exact h
theorem splice_up {R E D : List Value} {p : Nat} (hp : p ≤ R.length) :
    ((R.take p ++ E ++ R.drop (p + E.length)).take (p + E.length) ++ D ++ (R.take p ++ E ++ R.drop (p + E.length)).drop (p + E.length + D.length)).take (p + E.length + D.length) = R.take p ++ E ++ D := by
  have h1 : (R.take p ++ E).length = p + E.length := by rw [List.length_append, List.length_take]; omega
  have h2 : (R.take p ++ E ++ R.drop (p + E.length)).take (p + E.length) = R.take p ++ E := by
    rw [← h1, List.take_left']; rfl
  rw [h2]
  have h3 : (R.take p ++ E ++ D).length = p + E.length + D.length := by rw [List.length_append, h1]
  rw [← h3, List.take_left']; rfl
theorem splice_down {R E D : List Value} {p : Nat} (hp : p + E.length ≤ R.length) :
    ((R.take (p + E.length) ++ D ++ R.drop (p + E.length + D.length)).take p ++ E ++ (R.take (p + E.length) ++ D ++ R.drop (p + E.length + D.length)).drop (p + E.length)).take (p + E.length + D.length) = R.take p ++ E ++ D := by
  have h1 : (R.take (p + E.length)).length = p + E.length := by rw [List.length_take]; omega
  have h2 : (R.take (p + E.length) ++ D ++ R.drop (p + E.length + D.length)).take p = R.take p := by
    rw [List.append_assoc, List.take_append_of_le_length (by omega), List.take_take]
    congr 1; omega
  have h3 : (R.take (p + E.length) ++ D ++ R.drop (p + E.length + D.length)).drop (p + E.length) = D ++ R.drop (p + E.length + D.length) := by
    rw [List.append_assoc, List.drop_append, h1, Nat.sub_self, List.drop_zero, List.drop_eq_nil_of_le (by omega), List.nil_append]
  rw [h2, h3, ← List.append_assoc]
  have h4 : (R.take p ++ E ++ D).length = p + E.length + D.length := by rw [List.length_append, List.length_append, List.length_take]; omega
  rw [← h4, List.take_left']; rfl
/-- 's[l:]' at a known place -/
theorem slice_at {P : Program} {t e : TypeId} {z : Value} {size bytes : Nat} (T : ElemT P t e z size bytes) (wx : World) (b o len cap l : Nat) (li : Int) (hli : li = l) (hl : l ≤ len) (hc : l < cap) :
    (Instr.slice t (.slice (some ⟨b, o, none⟩) len cap) (some (.int .i64 li)) none none).run P wx = .ok (.slice (some ⟨b, o + l * size, none⟩) (len - l) (cap - l)) wx := by
  subst hli
  obtain ⟨i, hi, hz, hs, hb⟩ := T.info
  have hel : P.elem t = e := by simp [Program.elem, T.slice]
  have ht : P.underlying t = some (.slice (P.elem t)) := by rw [hel]; exact T.slice
  have hsz : ∀ wx, (sizeOf (P.elem t)).run P wx = .ok size wx := fun wx => by rw [hel]; simp [sizeOf, typeInfo, hi, hs]
  rw [run_slice_l wx t _ len cap ht .i64 l (by omega) (by omega), hsz]
  have hne : ¬ cap = l := by omega
  simp [Int.toNat_natCast, Result.andThen, sliced, hne, add_plain]
/-- 's[:h]', up to the capacity -/
theorem slice_up {P : Program} {t e : TypeId} {z : Value} {size bytes : Nat} (T : ElemT P t e z size bytes) (wx : World) (b o len cap h : Nat) (hi' : Int) (hhi : hi' = h) (hh : h ≤ cap) (h0 : 0 < cap) :
    (Instr.slice t (.slice (some ⟨b, o, none⟩) len cap) none (some (.int .i64 hi')) none).run P wx = .ok (.slice (some ⟨b, o, none⟩) h cap) wx := by
  subst hhi
  obtain ⟨i, hi, hz, hs, hb⟩ := T.info
  have hel : P.elem t = e := by simp [Program.elem, T.slice]
  have ht : P.underlying t = some (.slice (P.elem t)) := by rw [hel]; exact T.slice
  have hsz : ∀ wx, (sizeOf (P.elem t)).run P wx = .ok size wx := fun wx => by rw [hel]; simp [sizeOf, typeInfo, hi, hs]
  rw [run_slice_h wx t _ len cap ht .i64 h (by omega) (by omega), hsz]
  have hne : ¬ cap = 0 := by omega
  simp [Int.toNat_natCast, Result.andThen, sliced, hne, add_plain]
theorem heap_setRow {w : World} {g : Nat} {cur cs : Array Value} {t : TypeId} (hg : w.heap[g]? = some (.cells cur t (0, 0))) : (w.setRow g cs).heap[g]? = some (.cells cs t (0, 0)) := setRow_heap w g cur cs t _ hg
theorem below_row {B g : Nat} {w0 w : World} (hb : Below B w0 w) (hBg : B ≤ g) (cs : Array Value) : Below B w0 (w.setRow g cs) :=
  hb.trans ⟨rfl, rfl, rfl, by simp [World.setRow], fun k hk => setRow_other w g k cs (by omega)⟩
/-- the cells of a row that a block holds -/
theorem cell_at {w : World} {g i : Nat} {cur : Array Value} {t : TypeId} {fr : Nat × Nat} (hg : w.heap[g]? = some (.cells cur t fr)) : w.cell? ⟨g, i, none⟩ = cur[i]? := cell_of_row w g i cur t fr hg
end Go.Proofs.Ytcmbhebgpboepaa
