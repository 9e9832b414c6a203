/-
  The logic of values, part 4.
-/
import Derived.WalkKit
import Derived.ProofKit
import Derived.OpenShut
import Derived.ShutString
import Derived.ChangeOld
import Derived.Below
import Derived.LoopTactic
import Derived.WalkLawsBesides
import Derived.WalkSpells
import Derived.Lib.ConvBytes
import Derived.Lib.Hide
import Derived.Laws.BytesArg
import Derived.Laws.OwnMore
import Derived.Deep.CutBlock
import Derived.Deep.DeepCutAuto
import Derived.Test.YtkdgnjoofhckeaaRows
import Derived.Deep.Slices
import Derived.Laws.StructEq
import Derived.Laws.CopyRow
import Derived.Test.YtkdgnjoofhckeaaU2
import Derived.Test.YtkdgnjoofhckeaaU3
/-
  General facts on rows of cells, bytes and strings, over any program: what the contracts of this seat lean on.
-/
namespace Go.Proofs.Ytkdgnjoofhckeaa
open Go.ChangeShapes Go.WideShapes Go.ChangeAt Go.RowKit
set_option linter.unusedSimpArgs false
set_option linter.unusedVariables false

theorem ret_int {k : IntKind} {a b : Int} (h : a = b) : Ending.returned (.int k a) = .returned (.int k b) := by rw [h]
theorem ret_bool {a b : Bool} (h : a = b) : Ending.returned (.bool a) = .returned (.bool b) := by rw [h]

theorem cell_lt {w : World} {a : Addr} {v : Value} (h : w.cell? a = some v) : a.block < w.heap.size := by
  rcases Nat.lt_or_ge a.block w.heap.size with h1 | h1
  · exact h1
  · simp [World.cell?, Array.getElem?_eq_none h1] at h
theorem add_plain (b off i : Nat) : (⟨b, off, none⟩ : Addr).add i = ⟨b, off + i, none⟩ := by unfold Addr.add; split <;> simp_all

/-- a row of cells that reads as vs (one value a cell) -/
def RowV (w : World) (a : Option Addr) (vs : List Value) : Prop :=
  vs = [] ∨ ∃ b off, a = some ⟨b, off, none⟩ ∧ b < w.heap.size ∧ ∀ i (h : i < vs.length), w.cell? ⟨b, off + i, none⟩ = some vs[i]
theorem RowV.nil (w : World) (a : Option Addr) : RowV w a [] := Or.inl rfl
theorem RowV.below {w w' : World} {a : Option Addr} {vs : List Value} (h : RowV w a vs) (hb : Below w.heap.size w w') : RowV w' a vs := by
  rcases h with h0 | ⟨b, off, h1, h2, h3⟩
  · exact Or.inl h0
  · exact Or.inr ⟨b, off, h1, Nat.lt_of_lt_of_le h2 hb.size, fun i hi => (hb.cell (p := ⟨b, off + i, none⟩) h2).trans (h3 i hi)⟩
/-- the same where only blocks from some number on have turned, and the row lies below it -/
theorem RowV.addr {w : World} {a : Option Addr} {vs : List Value} (h : RowV w a vs) (hl : 0 < vs.length) :
    ∃ b off, a = some ⟨b, off, none⟩ ∧ b < w.heap.size ∧ ∀ i (h : i < vs.length), w.cell? ⟨b, off + i, none⟩ = some vs[i] := by
  rcases h with h0 | h1
  · subst h0; simp at hl
  · exact h1
theorem RowV.of_owns {w : World} {base : Nat} {e : TypeId} {size : Nat} {v : Value} {n : Nat} {xs : List Value} (h : w.ownsRow base e size v n xs) :
    ∃ a cap, v = .slice a n cap ∧ RowV w a xs := by
  obtain ⟨h1, h2⟩ := h
  rcases h2 with ⟨rfl, rfl⟩ | ⟨g, cap, cur, rfl, hb, hg, hn, hc, hs, ht⟩
  · exact ⟨none, 0, rfl, Or.inl (List.eq_nil_of_length_eq_zero (by rw [h1]; omega))⟩
  · refine ⟨some ⟨g, 0, none⟩, cap, rfl, Or.inr ⟨g, 0, rfl, (Array.getElem?_eq_some_iff.1 hg).1, fun i hi => ?_⟩⟩
    rw [Nat.zero_add, cell_of_row w g i cur e (0, 0) hg]
    subst ht
    rw [List.getElem_take, Array.getElem_toList, Array.getElem?_eq_getElem]

theorem RowV.new (w : World) (cs : Array Value) (e : TypeId) : RowV (w.alloc (.cells cs e)) (some ⟨w.heap.size, 0, none⟩) cs.toList := by
  refine Or.inr ⟨_, 0, rfl, by simp, fun i hi => ?_⟩
  rw [Nat.zero_add, cell_of_row _ w.heap.size i cs e (0, 0) (heap_alloc_new w _)]
  simp at hi
  simp [hi]
theorem cell_new1 (w : World) (v : Value) (e : TypeId) (n : Nat) (h : w.heap.size = n) : (w.alloc (.cells #[v] e)).cell? ⟨n, 0, none⟩ = some v := by
  subst h
  rw [cell_of_row _ w.heap.size 0 #[v] e (0, 0) (heap_alloc_new w _)]; rfl
theorem below_alloc (w : World) (o : Obj) : Below w.heap.size w (w.alloc o) := (Below.refl _ _).alloc (Nat.le_refl _) _
/-- an append onto nil, or onto a row from base on -/
theorem below_grown {w w' : World} {base : Nat} {e : TypeId} {size : Nat} {v : Value} {n : Nat} {xs : List Value} (h : w.ownsRow base e size v n xs) (hb : base ≤ w.heap.size) (hg : w.grownBy w' v.ownBlock) : Below base w w' :=
  (Below.refl _ _).grown hg hb (fun k hk => (h.lt k hk).1)
theorem belowT {a b c : World} (h : Below a.heap.size a b) (k : Below b.heap.size b c) : Below a.heap.size a c := h.trans (k.mono h.size)
theorem keep1 {w w' : World} {p : Addr} {u : Value} (h1 : w.cell? p = some u) (hB : Below w.heap.size w w') : w'.cell? p = some u ∧ Below w.heap.size w w' := ⟨(hB.cell (cell_lt h1)).trans h1, hB⟩
theorem keep2 {w w' : World} {p q : Addr} {u v : Value} (h1 : w.cell? p = some u) (h2 : w.cell? q = some v) (hB : Below w.heap.size w w') : w'.cell? p = some u ∧ w'.cell? q = some v ∧ Below w.heap.size w w' := ⟨(hB.cell (cell_lt h1)).trans h1, (hB.cell (cell_lt h2)).trans h2, hB⟩
theorem keep22 {w w' : World} {p q r s : Addr} {u v x y : Value} (h1 : w.cell? p = some u) (h2 : w.cell? q = some v) (h3 : w'.cell? r = some x) (h4 : w'.cell? s = some y) (hB : Below w.heap.size w w') : w'.cell? p = some u ∧ w'.cell? q = some v ∧ w'.cell? r = some x ∧ w'.cell? s = some y ∧ Below w.heap.size w w' :=
  ⟨(hB.cell (cell_lt h1)).trans h1, (hB.cell (cell_lt h2)).trans h2, h3, h4, hB⟩
theorem keep3 {w w' : World} {p q r : Addr} {u v x : Value} (h1 : w.cell? p = some u) (h2 : w.cell? q = some v) (h3 : w.cell? r = some x) (hB : Below w.heap.size w w') : w'.cell? p = some u ∧ w'.cell? q = some v ∧ w'.cell? r = some x ∧ Below w.heap.size w w' :=
  ⟨(hB.cell (cell_lt h1)).trans h1, (hB.cell (cell_lt h2)).trans h2, (hB.cell (cell_lt h3)).trans h3, hB⟩
theorem keep4 {w w' : World} {p q r s : Addr} {u v x y : Value} (h1 : w.cell? p = some u) (h2 : w.cell? q = some v) (h3 : w.cell? r = some x) (h4 : w.cell? s = some y) (hB : Below w.heap.size w w') : w'.cell? p = some u ∧ w'.cell? q = some v ∧ w'.cell? r = some x ∧ w'.cell? s = some y ∧ Below w.heap.size w w' :=
  ⟨(hB.cell (cell_lt h1)).trans h1, (hB.cell (cell_lt h2)).trans h2, (hB.cell (cell_lt h3)).trans h3, (hB.cell (cell_lt h4)).trans h4, hB⟩
/-- append's element type, in one bundle -/
structure ElemT (P : Program) (t e : TypeId) (z : Value) (size bytes : Nat) : Prop where
  slice : P.underlying t = some (.slice e)
  info : ∃ i, P.info? e = some i ∧ i.zero = some z ∧ i.size = size ∧ i.bytes = bytes
  zsize : z.cells.size = size
  pos : 0 < size

/-- 'append(v, x...)', v the call's own (or nil), x any row that reads as news -/
theorem append_row {P : Program} {t e : TypeId} {z : Value} {size bytes : Nat} (E : ElemT P t e z size bytes) (w : World) (base ty : Nat) (v : Value) (n : Nat) (xs : List Value)
    (hown : w.ownsRow base e size v n xs) (a : Option Addr) (m c : Nat) (news : List Value) (hnil : a = none → c = 0) (hrow : RowV w a news) (hl : news.length = m * size) (h1 : ∀ u ∈ news, u.oneCell' = true)
    (h63 : n + m ≤ maxLen) (hbytes : (n + m) * bytes ≤ 140737488355328) (hbase : base ≤ w.heap.size) :
    ∃ v' w', (Builtin.append_ #[t, t] ty #[v, .slice a m c]).run P w = .ok v' w' ∧ w'.ownsRow base e size v' (n + m) (xs ++ news) ∧ w.grownBy w' v.ownBlock := by
  obtain ⟨i, hi, hz, hs, hb⟩ := E.info
  cases a with
  | none =>
    have hn : news = [] := by
      rcases hrow with h0 | ⟨b, off, h2, _⟩
      · exact h0
      · cases h2
    subst hn
    have hm : m = 0 := by
      have := E.pos
      rcases Nat.eq_zero_or_pos m with h0 | h0
      · exact h0
      · have := Nat.mul_pos h0 E.pos; simp at hl; omega
    subst hm
    rw [hnil rfl]
    exact ⟨v, w, run_append_owned_none w base t ty e i size E.slice hi v n xs hown, by simpa using hown, ⟨rfl, rfl, rfl, Nat.le_refl _, fun _ _ _ => rfl⟩⟩
  | some ad =>
    have hnews : ∀ j u, news[j]? = some u → w.cell? (ad.add j) = some u := by
      intro j u hj
      rcases hrow with h0 | ⟨b, off, h2, _, h4⟩
      · subst h0; simp at hj
      · obtain ⟨hj1, hj2⟩ := List.getElem?_eq_some_iff.1 hj
        cases h2
        rw [add_plain, h4 j hj1, hj2]
    obtain ⟨v', w', hr, h2, h3, _⟩ := run_append_own w base t ty e i z size bytes E.slice hi hz hs hb E.zsize E.pos v n xs hown ad m c news hl hnews h1 h63 hbytes hbase
    exact ⟨v', w', hr, h2, h3⟩

/-- an append whose run is known: the arm '(at_builtin; refine wpList_append_by hr rfl _ _ rfl rfl rfl ?_)' -/
theorem wpList_append_by {P : Program} {w w' : World} {ops : Array Oper} {rest : List Oper} {o : Oper} {a : Act} {Q : Exit → Act → World → Prop} {t t' ty : TypeId} {v xv v' : Value}
    (hr : (Builtin.append_ #[t, t'] ty #[v, xv]).run P w = .ok v' w') (hgd : o.guard = none) (s x : Operand)
    (ho : o.op = .call { callee := .builtin .append, args := #[s, x], argTypes := #[t, t'] }) (hty : o.type = ty) (hsx : (a.eval s, a.eval x) = (v, xv))
    (h : wpList P ops Q rest (a.put o.dst v') w') : wpList P ops Q (o :: rest) a w := by
  refine wpList_plain hgd fun K hK => ?_
  have h1 : a.eval s = v := congrArg Prod.fst hsx
  have h2 : a.eval x = xv := congrArg Prod.snd hsx
  unfold Oper.wp
  simp [execOp, ho, resolve, invoke, builtin, h1, h2, hty, hr, Result.andThen]
  exact hK _ _ h

theorem wpList_make_by {P : Program} {w w' : World} {ops : Array Oper} {rest : List Oper} {o : Oper} {a : Act} {Q : Exit → Act → World → Prop} {t : TypeId} {lv cv v' : Value}
    (hr : (Instr.makeSlice t lv cv).run P w = .ok v' w') (hgd : o.guard = none) (l c : Operand) (ho : o.op = .makeSlice t l c) (hev : (a.eval l, a.eval c) = (lv, cv))
    (h : wpList P ops Q rest (a.put o.dst v') w') : wpList P ops Q (o :: rest) a w := by
  refine wpList_plain hgd fun K hK => ?_
  have h1 : a.eval l = lv := congrArg Prod.fst hev
  have h2 : a.eval c = cv := congrArg Prod.snd hev
  unfold Oper.wp
  simp [execOp, ho, h1, h2, hr, Result.andThen]
  exact hK _ _ h
/-- 'make([]T, 0, c)' -/
theorem make_row {P : Program} {t e : TypeId} {z : Value} {size bytes : Nat} (E : ElemT P t e z size bytes) (w : World) (base c : Nat) (ci : Int) (hci : ci = c) (h63 : c ≤ maxLen) (hb : bytes * c ≤ 281474976710656) (hbase : base ≤ w.heap.size) :
    ∃ w', (Instr.makeSlice t (.int .i64 0) (.int .i64 ci)).run P w = .ok (.slice (some ⟨w.heap.size, 0, none⟩) 0 c) w' ∧ w'.ownsRow base e size (.slice (some ⟨w.heap.size, 0, none⟩) 0 c) 0 [] ∧ w.grownBy w' none := by
  subst hci
  obtain ⟨i, hi, hz, hs, hbt⟩ := E.info
  exact run_make_own w base t e i z size E.slice hi hz hs .i64 .i64 c (by rw [hbt]; exact hb) h63 hbase
/-- 'make([]T, n)' -/
theorem make_full {P : Program} {t e : TypeId} {z : Value} {size bytes : Nat} (E : ElemT P t e z size bytes) (w : World) (base n : Nat) (ni : Int) (hni : ni = n) (h63 : n ≤ maxLen) (hb : bytes * n ≤ 281474976710656) (hbase : base ≤ w.heap.size) :
    ∃ w', (Instr.makeSlice t (.int .i64 ni) (.int .i64 ni)).run P w = .ok (.slice (some ⟨w.heap.size, 0, none⟩) n n) w' ∧ w'.ownsRow base e size (.slice (some ⟨w.heap.size, 0, none⟩) n n) n (madeCells z.cells (n * size)).toList ∧ w.grownBy w' none := by
  subst hni
  obtain ⟨i, hi, hz, hs, hbt⟩ := E.info
  exact run_make_full w base t e i z size E.slice hi hz hs .i64 .i64 n (by rw [hbt]; exact hb) h63 hbase
/-- is the operation an append? -/
theorem step_at_append {P : Program} {w : World} {ops : Array Oper} {o : Oper} {a : Act} {K : Act → World → Prop} {Q : Exit → Act → World → Prop} {E : Prop} {t : TypeId} (s x : Operand)
    (_ho : o.op = .call { callee := .builtin .append, args := #[s, x], argTypes := #[t, t] }) (h : if Region.wanted o (yielded ops a.tmps) = true then Oper.wp P o a w K Q else E) :
    if Region.wanted o (yielded ops a.tmps) = true then Oper.wp P o a w K Q else E := h
/-- the same inside a region that draws its order -/
theorem step_append_by {P : Program} {w w' : World} {ops : Array Oper} {o : Oper} {a : Act} {K : Act → World → Prop} {Q : Exit → Act → World → Prop} {E : Prop} {t t' ty : TypeId} {v xv v' : Value}
    (hr : (Builtin.append_ #[t, t'] ty #[v, xv]).run P w = .ok v' w') (hgd : o.guard = none) (s x : Operand)
    (ho : o.op = .call { callee := .builtin .append, args := #[s, x], argTypes := #[t, t'] }) (hty : o.type = ty) (hsx : (a.eval s, a.eval x) = (v, xv))
    (h : K (a.put o.dst v') w') : if Region.wanted o (yielded ops a.tmps) = true then Oper.wp P o a w K Q else E := by
  have hw : Region.wanted o (yielded ops a.tmps) = true := by simp [Region.wanted, hgd]
  rw [if_pos hw]
  have h1 : a.eval s = v := congrArg Prod.fst hsx
  have h2 : a.eval x = xv := congrArg Prod.snd hsx
  unfold Oper.wp
  simp [execOp, ho, resolve, invoke, builtin, h1, h2, hty, hr, Result.andThen]
  exact h

theorem sliced_row (w : World) (a : Option Addr) (len l h m size : Nat) (vs : List Value) (hlh : l ≤ h) (hh : h ≤ len) (hm : len ≤ m) (hv : vs.length = len * size) (hr : RowV w a vs) :
    ∃ a', sliced a l h m size = .slice a' (h - l) (m - l) ∧ RowV w a' ((vs.drop (l * size)).take ((h - l) * size)) ∧ (a' = none → a = none) := by
  by_cases e : m = l
  · have : h - l = 0 := by omega
    exact ⟨a, by simp [sliced, e], by rw [this, Nat.zero_mul, List.take_zero]; exact Or.inl rfl, id⟩
  · refine ⟨a.map (·.add (l * size)), by simp [sliced, e], ?_, fun hn => by cases a with | none => rfl | some x => cases hn⟩
    rcases hr with h0 | ⟨b, off, h1, h2, h3⟩
    · subst h0; left; simp
    · subst h1
      refine Or.inr ⟨b, off + l * size, by simp [add_plain], h2, fun i hi => ?_⟩
      simp only [List.length_take, List.length_drop] at hi
      rw [List.getElem_take, List.getElem_drop, Nat.add_assoc, h3]
/-- 's[l:]': some address, the rest of the row -/
theorem slice_row {P : Program} {t e : TypeId} {z : Value} {size bytes : Nat} (E : ElemT P t e z size bytes) (w : World) (a : Option Addr) (len cap l : Nat) (li : Int) (hli : li = l) (vs : List Value) (hl : l ≤ len) (hcap : len ≤ cap) (hv : vs.length = len * size) (hr : RowV w a vs) :
    ∃ a', (∀ wx : World, (Instr.slice t (.slice a len cap) (some (.int .i64 li)) none none).run P wx = .ok (.slice a' (len - l) (cap - l)) wx) ∧ RowV w a' (vs.drop (l * size)) ∧ (a' = none → a = none) := by
  subst hli
  obtain ⟨i, hi, hz, hs, hb⟩ := E.info
  have hel : P.elem t = e := by simp [Program.elem, E.slice]
  have ht : P.underlying t = some (.slice (P.elem t)) := by rw [hel]; exact E.slice
  have hsz : ∀ wx, (sizeOf (P.elem t)).run P wx = .ok size wx := fun wx => by rw [hel]; simp [sizeOf, typeInfo, hi, hs]
  obtain ⟨a', h1, h2, h3⟩ := sliced_row w a len l len cap size vs hl (Nat.le_refl _) hcap hv hr
  refine ⟨a', fun wx => ?_, ?_, h3⟩
  · rw [run_slice_l wx t a len cap ht .i64 l (by omega) (by omega), hsz]
    simp only [Int.toNat_natCast, Result.andThen, h1]
  · rw [List.take_of_length_le] at h2
    · exact h2
    · rw [List.length_drop, hv, Nat.sub_mul]; exact Nat.le_refl _
/-- 's[:h]' -/
theorem slice_to {P : Program} {t e : TypeId} {z : Value} {size bytes : Nat} (E : ElemT P t e z size bytes) (w : World) (a : Option Addr) (len cap h : Nat) (hi' : Int) (hhi : hi' = h) (vs : List Value) (hh : h ≤ len) (hcap : len ≤ cap) (hr : RowV w a vs) :
    (∀ wx : World, (Instr.slice t (.slice a len cap) none (some (.int .i64 hi')) none).run P wx = .ok (.slice a h cap) wx) ∧ RowV w a (vs.take (h * size)) := by
  subst hhi
  obtain ⟨i, hi, hz, hs, hb⟩ := E.info
  have hel : P.elem t = e := by simp [Program.elem, E.slice]
  have ht : P.underlying t = some (.slice (P.elem t)) := by rw [hel]; exact E.slice
  have hsz : ∀ wx, (sizeOf (P.elem t)).run P wx = .ok size wx := fun wx => by rw [hel]; simp [sizeOf, typeInfo, hi, hs]
  refine ⟨fun wx => ?_, ?_⟩
  · rw [run_slice_h wx t a len cap ht .i64 h (by omega) (by omega), hsz]
    simp only [Int.toNat_natCast, Result.andThen, sliced]
    by_cases e0 : cap = 0
    · simp [e0]
    · cases a with
      | none => simp
      | some x => simp [e0, Addr.add]
  · rcases hr with h0 | ⟨b, off, h1, h2, h3⟩
    · subst h0; left; simp
    · refine Or.inr ⟨b, off, h1, h2, fun i hi => ?_⟩
      simp only [List.length_take] at hi
      rw [List.getElem_take, h3]

/-! ### Rows of integers -/
/-- what a proof's frame tells of a slice of integers that came in -/
def IsRow (k : IntKind) (w : World) (a : Option Addr) (len cap : Nat) (zs : List Int) : Prop :=
  (a = none ∧ len = 0 ∧ cap = 0 ∧ zs = []) ∨
  ∃ x, a = some x ∧ len ≤ cap ∧ cap ≤ maxLen ∧ zs.length = cap ∧ (∀ i, i < zs.length → w.cell? (x.add i) = some (.int k (zs.getD i 0))) ∧ ∀ n ∈ zs, (Lit.int k n).wf = true
/-- a slice of integers that reads as zs -/
structure RowI (k : IntKind) (w : World) (a : Option Addr) (len : Nat) (zs : List Int) : Prop where
  len_eq : zs.length = len
  small : len ≤ 9223372036854775807
  cells : len = 0 ∨ ∃ b off, a = some ⟨b, off, none⟩ ∧ b < w.heap.size ∧ ∀ i, i < len → w.cell? ⟨b, off + i, none⟩ = some (.int k (zs[i]?.getD 0))
theorem RowI.addr {k : IntKind} {w : World} {a : Option Addr} {len : Nat} {zs : List Int} (h : RowI k w a len zs) (hl : 0 < len) :
    ∃ b off, a = some ⟨b, off, none⟩ ∧ ∀ i, i < len → w.cell? ⟨b, off + i, none⟩ = some (.int k (zs[i]?.getD 0)) := by
  rcases h.cells with h0 | ⟨b, off, h1, _, h2⟩
  · omega
  · exact ⟨b, off, h1, h2⟩
theorem RowI.below {k : IntKind} {w w' : World} {a : Option Addr} {len : Nat} {zs : List Int} (h : RowI k w a len zs) (hb : Below w.heap.size w w') : RowI k w' a len zs := by
  refine ⟨h.len_eq, h.small, ?_⟩
  rcases h.cells with h0 | ⟨b, off, h1, h2, h3⟩
  · exact Or.inl h0
  · exact Or.inr ⟨b, off, h1, Nat.lt_of_lt_of_le h2 hb.size, fun i hi => (hb.cell (p := ⟨b, off + i, none⟩) h2).trans (h3 i hi)⟩
theorem IsRow.rowI {k : IntKind} {w : World} {a : Option Addr} {len cap : Nat} {zs : List Int} (h : IsRow k w a len cap zs) : RowI k w a len (zs.take len) := by
  rcases h with ⟨rfl, rfl, rfl, rfl⟩ | ⟨x, rfl, hl, hm, hz, hcell, _⟩
  · exact ⟨rfl, by omega, Or.inl rfl⟩
  · refine ⟨by rw [List.length_take]; omega, by unfold maxLen at hm; omega, ?_⟩
    by_cases h0 : len = 0
    · exact Or.inl h0
    · right
      obtain ⟨b, off, spot⟩ := x
      have hc := hcell 0 (by omega)
      have hspot : spot = none := by simpa [Addr.add] using World.cell?_spot hc
      subst hspot
      have key : ∀ i, i < len → w.cell? ⟨b, off + i, none⟩ = some (.int k ((zs.take len)[i]?.getD 0)) := fun i hi => by
        have := hcell i (by omega)
        rw [List.getElem?_take_of_lt hi]
        rw [← add_plain, this]; rfl
      exact ⟨b, off, rfl, cell_lt (key 0 (by omega)), key⟩
theorem IsRow.nil {k : IntKind} {w : World} {len cap : Nat} {zs : List Int} (h : IsRow k w none len cap zs) : cap = 0 := by
  rcases h with ⟨_, _, h, _⟩ | ⟨x, h, _⟩
  · exact h
  · cases h
theorem RowI.rowV {k : IntKind} {w : World} {a : Option Addr} {len : Nat} {zs : List Int} (h : RowI k w a len zs) : RowV w a (zs.map (.int k)) := by
  rcases h.cells with h0 | ⟨b, off, h1, h2, h3⟩
  · left; rw [List.eq_nil_of_length_eq_zero (h.len_eq.trans h0)]; rfl
  · refine Or.inr ⟨b, off, h1, h2, fun i hi => ?_⟩
    rw [List.length_map] at hi
    rw [h3 i (by rw [← h.len_eq]; exact hi), List.getElem?_eq_getElem hi, List.getElem_map]; rfl
theorem RowV.rowI {k : IntKind} {w : World} {a : Option Addr} {zs : List Int} (h : RowV w a (zs.map (.int k))) (hs : zs.length ≤ 9223372036854775807) : RowI k w a zs.length zs := by
  refine ⟨rfl, hs, ?_⟩
  rcases h with h0 | ⟨b, off, h1, h2, h3⟩
  · left; simpa using h0
  · refine Or.inr ⟨b, off, h1, h2, fun i hi => ?_⟩
    rw [h3 i (by rw [List.length_map]; exact hi), List.getElem_map, List.getElem?_eq_getElem hi]; rfl
theorem wf_i64 {n : Int} (h : (Lit.int .i64 n).wf = true) : -9223372036854775808 ≤ n ∧ n ≤ 9223372036854775807 := by
  simpa [Lit.wf, IntKind.min, IntKind.max, IntKind.signed, IntKind.bits] using h
theorem wf_u8 {n : Int} (h : (Lit.int .u8 n).wf = true) : 0 ≤ n ∧ n ≤ 255 := by
  simpa [Lit.wf, IntKind.min, IntKind.max, IntKind.signed, IntKind.bits] using h
theorem wf_i8 {n : Int} (h : (Lit.int .i8 n).wf = true) : -128 ≤ n ∧ n ≤ 127 := by
  simpa [Lit.wf, IntKind.min, IntKind.max, IntKind.signed, IntKind.bits] using h
theorem IsRow.bytes {w : World} {a : Option Addr} {len cap : Nat} {zs : List Int} (h : IsRow .u8 w a len cap zs) : ∀ z ∈ zs, 0 ≤ z ∧ z ≤ 255 := by
  rcases h with ⟨rfl, rfl, rfl, rfl⟩ | ⟨x, rfl, hl, hm, hz, hcell, hwf⟩
  · intro z hz; cases hz
  · exact fun z hz => wf_u8 (hwf z hz)
theorem oneCell_ints (k : IntKind) (zs : List Int) : ∀ u ∈ zs.map (Value.int k), u.oneCell' = true := by
  intro u hu; obtain ⟨z, _, rfl⟩ := List.mem_map.1 hu; rfl

/-! ### Strings and bytes -/
/-- the letters of a string as integers -/
def lettersI (s : ByteArray) : List Int := s.data.toList.map fun c => (c.toNat : Int)
theorem lettersI_length (s : ByteArray) : (lettersI s).length = s.size := by unfold lettersI; rw [List.length_map, Array.length_toList]; rfl
theorem below_bytesWorld (w : World) (e : TypeId) (s : ByteArray) : Below w.heap.size w (Lib.bytesWorld w e s) :=
  ⟨rfl, rfl, rfl, by rw [Lib.bytesWorld_size]; omega, fun k hk => Lib.bytesWorld_at_old w e s k hk⟩
theorem rowI_bytesWorld (w : World) (e : TypeId) (s : ByteArray) (hs : s.size ≤ 9223372036854775807) :
    RowI .u8 (Lib.bytesWorld w e s) (some ⟨w.heap.size, 0, none⟩) s.size (lettersI s) := by
  refine ⟨lettersI_length s, hs, Or.inr ⟨w.heap.size, 0, rfl, by rw [Lib.bytesWorld_size]; omega, fun i hi => ?_⟩⟩
  rw [Nat.zero_add, Lib.bytesWorld_cell w e s i hi]
  have hi' : i < s.data.toList.length := by rw [Array.length_toList]; exact hi
  unfold lettersI
  rw [List.getElem?_map, List.getElem?_eq_getElem hi']
  rw [List.getD, List.getElem?_eq_getElem hi']
  rfl
theorem letters_of_nums (zs : List Int) (h : ∀ z ∈ zs, 0 ≤ z ∧ z ≤ 255) : lettersI (strOfNums zs) = zs := by
  unfold lettersI
  rw [strOfNums_data, List.map_map]
  conv => rhs; rw [← List.map_id zs]
  refine List.map_congr_left fun z hz => ?_
  have := h z hz
  show ((UInt8.ofNat z.toNat).toNat : Int) = z
  rw [UInt8.toNat_ofNat', Nat.mod_eq_of_lt (by omega)]
  omega
/-- 'string(b)' -/
theorem conv_string {P : Program} {w : World} {a : Option Addr} {len cap : Nat} {zs : List Int} (h : RowI .u8 w a len zs) (src e dst : TypeId)
    (hs : P.underlying src = some (.slice e)) (he : P.underlying e = some (.int .u8)) (hd : P.underlying dst = some .string) :
    (Go.convert src dst (.slice a len cap)).run P w = .ok (.string (strOfNums zs)) w := by
  rcases h.cells with h0 | ⟨b, off, rfl, _, h3⟩
  · obtain rfl : zs = [] := List.eq_nil_of_length_eq_zero (by rw [h.len_eq]; exact h0)
    subst h0
    cases a with
    | none => exact run_convert_bytes_nil w src e hs he 0 cap dst hd
    | some x =>
      rw [run_convert_bytes_string w src dst e _ 0 cap hs he hd, run_bytesToString w x 0 cap [] (run_loadCells_list (P := P) w x [] (fun j v hj => by simp at hj))]
      rfl
  · exact run_convert_bytes_arg w src e hs he b off len cap zs h.len_eq (fun i hi => by rw [h3 i hi]; rfl) dst hd
end Go.Proofs.Ytkdgnjoofhckeaa
/-
  What is read of an argument of a plain type, cell by cell: general facts, over any program.
-/
namespace Go.Proofs.Ytkdgnjoofhckeaa
open Go.RowKit Go.Deep
set_option linter.unusedSimpArgs false
set_option linter.unusedVariables false

def leafsOf (P : Program) (sub : TypeId → Option (List TypeId)) : List Field → Nat → Nat → Option (List TypeId)
  | [], at_, total => if at_ = total then some [] else none
  | f :: fs, at_, total =>
    (sub f.type).bind fun l => if f.offset = at_ ∧ P.cellsOf f.type = l.length then (leafsOf P sub fs (at_ + l.length) total).map (l ++ ·) else none
/-- the types of the cells of a type: arrays and structs laid flat; every other type is one cell of its own -/
def leafs (P : Program) : Nat → TypeId → Option (List TypeId)
  | 0, _ => none
  | n + 1, t =>
    match P.underlying t with
    | some (.array len e) =>
      (leafs P n e).bind fun l => if P.cellsOf e = l.length ∧ P.cellsOf t = len * l.length then some ((List.replicate len l).flatten) else none
    | some (.struct fs) => leafsOf P (leafs P n) fs.toList 0 (P.cellsOf t)
    | _ => if P.cellsOf t = 1 then some [t] else none

section
variable {H : Type} {enc : TypeId × Value → H} {P : Program} {w : World} {base : Nat} {spare : Nat → Bool} {held : Bool}

/-- a cell reads as its type -/
def LeafOk (enc : TypeId × Value → H) (P : Program) (w : World) (base : Nat) (spare : Nat → Bool) (held : Bool) (t : TypeId) (v : Value) : Prop := ∃ m y, DataW.trod enc P w base spare held m t [v] = some y
def LeafsOk (enc : TypeId × Value → H) (P : Program) (w : World) (base : Nat) (spare : Nat → Bool) (held : Bool) (ts : List TypeId) (cs : List Value) : Prop :=
  cs.length = ts.length ∧ ∀ i (h : i < ts.length) (h' : i < cs.length), LeafOk enc P w base spare held ts[i] cs[i]
theorem LeafsOk.nil : LeafsOk enc P w base spare held [] [] := ⟨rfl, fun i h => by simp at h⟩
theorem LeafsOk.append {a b : List TypeId} {x y : List Value} (h1 : LeafsOk enc P w base spare held a x) (h2 : LeafsOk enc P w base spare held b y) : LeafsOk enc P w base spare held (a ++ b) (x ++ y) := by
  refine ⟨by rw [List.length_append, List.length_append, h1.1, h2.1], fun i h h' => ?_⟩
  by_cases hi : i < a.length
  · rw [List.getElem_append_left hi, List.getElem_append_left (by rw [h1.1]; exact hi)]
    exact h1.2 i hi _
  · rw [List.getElem_append_right (by omega), List.getElem_append_right (by rw [h1.1]; omega)]
    simp only [h1.1]
    exact h2.2 _ _ _
theorem LeafsOk.flatten (l : List TypeId) : ∀ (n : Nat) (cs : List Value), cs.length = n * l.length → (∀ i, i < n → LeafsOk enc P w base spare held l ((cs.drop (i * l.length)).take l.length)) →
    LeafsOk enc P w base spare held (List.replicate n l).flatten cs
  | 0, cs, h, _ => by
    obtain rfl : cs = [] := List.eq_nil_of_length_eq_zero (by rw [h]; omega)
    exact LeafsOk.nil
  | n + 1, cs, h, hx => by
    rw [List.replicate_succ, List.flatten_cons]
    have h0 := hx 0 (by omega)
    rw [Nat.zero_mul, List.drop_zero] at h0
    have hr := LeafsOk.flatten l n (cs.drop l.length) (by rw [List.length_drop, h, Nat.add_mul]; omega) (fun i hi => by
      have := hx (i + 1) (by omega)
      rw [List.drop_drop]
      rwa [show l.length + i * l.length = (i + 1) * l.length by rw [Nat.add_mul]; omega])
    have := h0.append hr
    rwa [List.take_append_drop] at this

theorem leafs_trod : ∀ (n : Nat) (t : TypeId) (ts : List TypeId), leafs P n t = some ts → ∀ (fuel : Nat) (cs : List Value) (x : DataW H × List MemPlace), DataW.trod enc P w base spare held fuel t cs = some x → cs.length = P.cellsOf t →
    LeafsOk enc P w base spare held ts cs := by
  intro n
  induction n with
  | zero => intro t ts h; simp [leafs] at h
  | succ n ih =>
    intro t ts h fuel cs x hx hlen
    unfold leafs at h
    split at h
    · rename_i len e ht
      obtain ⟨l, hl, h⟩ := Option.bind_eq_some_iff.1 h
      split at h
      · rename_i hc
        cases h
        obtain ⟨xs, m, _, _, _, hxl, hel⟩ := DataW.trod_array ht hx
        refine LeafsOk.flatten l len cs (by rw [hlen, hc.2]) (fun i hi => ?_)
        have h1 := hel i hi
        rw [List.getElem?_eq_getElem (by omega), hc.1] at h1
        refine ih e l hl m _ _ h1 ?_
        have : (i + 1) * l.length ≤ len * l.length := Nat.mul_le_mul_right _ hi
        rw [Nat.add_mul] at this
        rw [List.length_take, List.length_drop, hlen, hc.1, hc.2]
        omega
      · cases h
    · rename_i fs ht
      obtain ⟨xs, m, _, _, _, hxl, hfl⟩ := DataW.trod_struct ht hx
      have key : ∀ (r : List Field) (done : Nat) (at_ : Nat) (ts : List TypeId), fs.toList.drop done = r → done + r.length = fs.size → leafsOf P (leafs P n) r at_ (P.cellsOf t) = some ts → at_ ≤ cs.length →
          LeafsOk enc P w base spare held ts (cs.drop at_) := by
        intro r
        induction r with
        | nil =>
          intro done at_ ts _ _ h hat
          unfold leafsOf at h
          split at h
          · rename_i he
            cases h
            rw [List.drop_of_length_le (by omega)]
            exact LeafsOk.nil
          · cases h
        | cons f r ih2 =>
          intro done at_ ts hd hs h hat
          unfold leafsOf at h
          obtain ⟨l, hl, h⟩ := Option.bind_eq_some_iff.1 h
          split at h
          · rename_i hc
            obtain ⟨ts', h2, rfl⟩ := Option.map_eq_some_iff.1 h
            have hf : fs[done]? = some f := by
              have : (fs.toList.drop done)[0]? = some f := by rw [hd]; rfl
              rw [List.getElem?_drop] at this
              simpa using this
            have h1 := hfl done f hf
            rw [List.getElem?_eq_getElem (by rw [hxl]; have := (Array.getElem?_eq_some_iff.1 hf).1; exact this), hc.1, hc.2] at h1
            have hlt : ((cs.drop at_).take l.length).length = l.length := by
              -- the rest of the leaves fills what is left
              have hle : ∀ (r : List Field) (a : Nat) (ts : List TypeId), leafsOf P (leafs P n) r a (P.cellsOf t) = some ts → a ≤ P.cellsOf t := by
                intro r
                induction r with
                | nil => intro a ts h; unfold leafsOf at h; split at h <;> simp_all
                | cons g r ih3 =>
                  intro a ts h
                  unfold leafsOf at h
                  obtain ⟨l, _, h⟩ := Option.bind_eq_some_iff.1 h
                  split at h
                  · obtain ⟨ts', h2, _⟩ := Option.map_eq_some_iff.1 h
                    have := ih3 _ _ h2; omega
                  · cases h
              have := hle r _ _ h2
              rw [List.length_take, List.length_drop, hlen]; omega
            have a1 := ih f.type l hl m _ _ h1 (by rw [hlt, hc.2])
            have hle2 : at_ + l.length ≤ cs.length := by rw [List.length_take, List.length_drop] at hlt; omega
            have a2 := ih2 (done + 1) (at_ + l.length) ts' (by rw [← List.drop_drop, hd]; rfl) (by simp only [List.length_cons] at hs; omega) h2 hle2
            have := a1.append a2
            rw [← List.drop_drop, List.take_append_drop] at this
            exact this
          · cases h
      have := key fs.toList 0 0 ts rfl (by simp) h (Nat.zero_le _)
      rwa [List.drop_zero] at this
    · split at h
      · rename_i hc
        cases h
        match cs, hlen with
        | [v], _ => exact ⟨rfl, fun i h1 h2 => by
            have : i = 0 := by simpa using h1
            subst this
            exact ⟨fuel, x, hx⟩⟩
        | [], hl => rw [hc] at hl; cases hl
        | _ :: _ :: _, hl => rw [hc] at hl; simp at hl
      · cases h

theorem LeafOk.int {t : TypeId} {k : IntKind} {v : Value} (ht : P.underlying t = some (.int k)) (h : LeafOk enc P w base spare held t v) : ∃ n, v = .int k n ∧ (Lit.int k n).wf = true := by
  obtain ⟨m, y, h⟩ := h
  obtain ⟨n, h1, _, h2⟩ := DataW.trod_int ht h
  exact ⟨n, by simpa using h1, h2⟩
theorem LeafOk.string {t : TypeId} {v : Value} (ht : P.underlying t = some .string) (h : LeafOk enc P w base spare held t v) : ∃ s : ByteArray, v = .string s ∧ s.size ≤ maxLen := by
  obtain ⟨m, y, h⟩ := h
  obtain ⟨s, h1, _, h2⟩ := DataW.trod_string ht h
  exact ⟨s, by simpa using h1, h2⟩
theorem flat_get {α : Type} (f : Nat → List α) (n size : Nat) (h : ∀ i, i < n → (f i).length = size) :
    ((List.range n).flatMap f).length = n * size ∧ ∀ i, i < n → ∀ j, j < size → ((List.range n).flatMap f)[i * size + j]? = (f i)[j]? := by
  induction n with
  | zero => exact ⟨by simp, fun i hi => by omega⟩
  | succ n ih =>
    obtain ⟨h1, h2⟩ := ih (fun i hi => h i (by omega))
    rw [List.range_succ, List.flatMap_append, List.flatMap_singleton]
    refine ⟨by rw [List.length_append, h1, h n (by omega), Nat.add_mul, Nat.one_mul], fun i hi j hj => ?_⟩
    by_cases hin : i < n
    · have : i * size + j < n * size := by
        have : (i + 1) * size ≤ n * size := Nat.mul_le_mul_right _ hin
        rw [Nat.add_mul] at this; omega
      rw [List.getElem?_append_left (by rw [h1]; exact this)]
      exact h2 i hin j hj
    · obtain rfl : i = n := by omega
      rw [List.getElem?_append_right (by rw [h1]; omega), h1]
      congr 1
      omega
/-- a slice that came in, of a plain element type -/
theorem open_leafs {t e : TypeId} {n : Nat} {ts : List TypeId} (hT : leafs P n e = some ts) (ht : P.underlying t = some (.slice e)) (hsz : P.cellsOf e = ts.length) (hpos : 0 < ts.length) {a : Option Addr} {len cap : Nat} {d : DataW H} {ps : List MemPlace}
    (h : DataW.Trod enc P w base spare held t (.slice a len cap) d ps) :
    len ≤ cap ∧ cap ≤ maxLen ∧ (a = none → cap = 0) ∧ ∃ vs : List Value, vs.length = len * ts.length ∧ RowV w a vs ∧ ∀ i, i < len → ∀ j (hj : j < ts.length) (hij : i * ts.length + j < vs.length), LeafOk enc P w base spare held ts[j] vs[i * ts.length + j] := by
  obtain ⟨fuel, hf⟩ := h
  rcases open_slice ht hf with ⟨hcs, _⟩ | ⟨x, l, c, m, k, D, Pl, hcs, _, hl, hm, hmm, _, hel⟩
  · simp [Value.cells] at hcs
    obtain ⟨rfl, rfl, rfl⟩ := hcs
    exact ⟨Nat.le_refl _, by omega, fun _ => rfl, [], by simp, RowV.nil _ _, fun i hi => by omega⟩
  · simp [Value.cells] at hcs
    obtain ⟨rfl, rfl, rfl⟩ := hcs
    have hlm : len ≤ m := by rw [hmm]; split <;> omega
    refine ⟨hl, hm, (fun h => by cases h), ?_⟩
    -- every element's cells, chosen
    have each : ∀ i, i < len → ∃ cs' : List Value, LeafsOk enc P w base spare held ts cs' ∧ ∀ j, j < ts.length → w.cell? (x.add (i * ts.length + j)) = cs'[j]? := by
      intro i hi
      obtain ⟨cs', h1, h2⟩ := hel i (by omega)
      obtain ⟨_, hlen, hcell⟩ := World.cells?_some h1
      refine ⟨cs', leafs_trod n e ts hT k cs' _ h2 hlen, fun j hj => ?_⟩
      have := hcell j (by rw [hsz]; exact hj)
      rw [hsz, Deep.add_add] at this
      exact this
    obtain ⟨f, hfx⟩ := Deep.choose_lt each
    obtain ⟨g1, g2⟩ := flat_get f len ts.length (fun i hi => (hfx i hi).1.1)
    refine ⟨(List.range len).flatMap f, g1, ?_, fun i hi j hj hij => ?_⟩
    · by_cases h0 : len = 0
      · subst h0; exact Or.inl rfl
      · obtain ⟨b, off, spot⟩ := x
        have c0 := (hfx 0 (by omega)).2 0 hpos
        rw [List.getElem?_eq_getElem (by rw [(hfx 0 (by omega)).1.1]; exact hpos)] at c0
        have hspot : spot = none := by simpa [Addr.add] using World.cell?_spot c0
        subst hspot
        refine Or.inr ⟨b, off, rfl, by have := cell_lt c0; simpa [Addr.add] using this, fun q hq => ?_⟩
        rw [g1] at hq
        have hqd : q / ts.length < len := Nat.div_lt_of_lt_mul (by rw [Nat.mul_comm]; exact hq)
        have hqm : q % ts.length < ts.length := Nat.mod_lt _ hpos
        have e : q / ts.length * ts.length + q % ts.length = q := Nat.div_add_mod' q ts.length
        have h1 := (hfx _ hqd).2 _ hqm
        have h2 := g2 _ hqd _ hqm
        rw [e] at h1 h2
        rw [add_plain] at h1
        rw [h1, ← h2, List.getElem?_eq_getElem (by rw [g1]; exact hq)]
    · have h2 := g2 i hi j hj
      have hj' : j < (f i).length := by rw [(hfx i hi).1.1]; exact hj
      rw [List.getElem?_eq_getElem hij, List.getElem?_eq_getElem hj', Option.some.injEq] at h2
      rw [h2]
      exact (hfx i hi).1.2 j hj hj'

/-- what is known of a value of a plain type that came in (no pointer, no map): n levels deep -/
def Good (P : Program) (w : World) : Nat → TypeId → Value → Prop
  | 0, _, _ => True
  | n + 1, t, v =>
    match P.underlying t with
    | some (.int k) => ∃ z, v = .int k z ∧ (Lit.int k z).wf = true
    | some .string => ∃ s : ByteArray, v = .string s ∧ s.size ≤ maxLen
    | some .bool => ∃ b, v = .bool b
    | some (.slice e) => ∃ a len cap, v = .slice a len cap ∧ len ≤ cap ∧ cap ≤ maxLen ∧ (a = none → cap = 0) ∧
        ∀ ts, leafs P 8 e = some ts → P.cellsOf e = ts.length → 0 < ts.length →
          ∃ vs : List Value, vs.length = len * ts.length ∧ RowV w a vs ∧ ∀ i, i < len → ∀ j (hj : j < ts.length) (hij : i * ts.length + j < vs.length), Good P w n ts[j] vs[i * ts.length + j]
    | _ => True
theorem good_of_leaf : ∀ (n : Nat) (t : TypeId) (v : Value), LeafOk enc P w base spare held t v → Good P w n t v := by
  intro n
  induction n with
  | zero => intro t v _; trivial
  | succ n ih =>
    intro t v h
    unfold Good
    split
    · rename_i k ht; exact h.int ht
    · rename_i ht; exact h.string ht
    · rename_i ht
      obtain ⟨m, y, h⟩ := h
      obtain ⟨q, h1, _⟩ := DataW.trod_bool ht h
      exact ⟨q, by simpa using h1⟩
    · rename_i e ht
      obtain ⟨m, y, hf⟩ := h
      have hT : ∃ a len cap, v = .slice a len cap := by
        rcases open_slice ht hf with ⟨hcs, _⟩ | ⟨x, l, c, _, _, _, _, hcs, _⟩
        · exact ⟨none, 0, 0, by simpa using hcs⟩
        · exact ⟨some x, l, c, by simpa using hcs⟩
      obtain ⟨a, len, cap, rfl⟩ := hT
      have hcap : len ≤ cap ∧ cap ≤ maxLen ∧ (a = none → cap = 0) := by
        rcases open_slice ht hf with ⟨hcs, _⟩ | ⟨x, l, c, _, _, _, _, hcs, _, hl, hm, _⟩
        · simp at hcs; obtain ⟨rfl, rfl, rfl⟩ := hcs; exact ⟨Nat.le_refl _, by omega, fun _ => rfl⟩
        · simp at hcs; obtain ⟨rfl, rfl, rfl⟩ := hcs; exact ⟨hl, hm, (fun h => by cases h)⟩
      refine ⟨a, len, cap, rfl, hcap.1, hcap.2.1, hcap.2.2, fun ts hts hsz hpos => ?_⟩
      obtain ⟨_, _, _, vs, h1, h2, h3⟩ := open_leafs (enc := enc) (d := y.1) (ps := y.2) hts ht hsz hpos ⟨m, hf⟩
      refine ⟨vs, h1, h2, fun i hi j hj hij => ih _ _ (h3 i hi j hj hij)⟩
    · trivial

/-- what is known of an argument of a plain type -/
def Arg (P : Program) (w : World) (t : TypeId) (v : Value) : Prop :=
  match P.underlying t with
  | some (.struct _) | some (.array _ _) => ∃ cs : List Value, v = .agg cs.toArray ∧ ∀ ts, leafs P 8 t = some ts → cs.length = ts.length ∧ ∀ i (h : i < ts.length) (h' : i < cs.length), Good P w 8 ts[i] cs[i]
  | _ => Good P w 8 t v
theorem arg_of {r : Reach} {b0 : Nat} {t : TypeId} {v : Value} {d : DataW H} {ps : List MemPlace} (hval : Value.okWide P w r b0 t v) (hd : DataW.Trod enc P w base spare held t v d ps) : Arg P w t v := by
  have agg : ∀ cs : Array Value, v = .agg cs → cs.size = P.cellsOf t → ∃ cs : List Value, v = .agg cs.toArray ∧ ∀ ts, leafs P 8 t = some ts → cs.length = ts.length ∧ ∀ i (h : i < ts.length) (h' : i < cs.length), Good P w 8 ts[i] cs[i] := by
    intro cs hv hsz
    subst hv
    obtain ⟨fuel, hf⟩ := hd
    refine ⟨cs.toList, by simp, fun ts hts => ?_⟩
    have := leafs_trod 8 t ts hts fuel _ _ hf (by simpa [Value.cells] using hsz)
    exact ⟨this.1, fun i h h' => good_of_leaf 8 _ _ (this.2 i h h')⟩
  have cell : Cell.okWide P w r b0 t v → Good P w 8 t v := by
    intro hc
    obtain ⟨fuel, hf⟩ := hd
    by_cases ha : ∃ cs, v = .agg cs
    · obtain ⟨cs, rfl⟩ := ha
      simp only [Cell.okWide] at hc
      unfold Good
      split <;> simp_all [Cell.ok]
    · have hcells : v.cells.toList = [v] := by cases v <;> first | rfl | exact absurd ⟨_, rfl⟩ ha
      exact good_of_leaf 8 t v ⟨fuel, _, by rw [← hcells]; exact hf⟩
  unfold Arg
  simp only [Value.okWide] at hval
  split
  · rename_i fs ht; rw [ht] at hval; obtain ⟨cs, h1, h2, _⟩ := hval; exact agg cs h1 h2
  · rename_i n e ht; rw [ht] at hval; obtain ⟨cs, h1, h2, _⟩ := hval; exact agg cs h1 h2
  · rename_i h1 h2
    refine cell ?_
    split at hval
    · rename_i fs ht; exact absurd ht (h1 _)
    · rename_i n e ht; exact absurd ht (h2 _ _)
    · exact hval
end

section
variable {P : Program} {w : World}
theorem Arg.int {t : TypeId} {k : IntKind} {v : Value} (ht : P.underlying t = some (.int k)) (h : Arg P w t v) : ∃ z, v = .int k z ∧ (Lit.int k z).wf = true := by
  unfold Arg at h; rw [ht] at h; unfold Good at h; rw [ht] at h; exact h
theorem Arg.string {t : TypeId} {v : Value} (ht : P.underlying t = some .string) (h : Arg P w t v) : ∃ s : ByteArray, v = .string s ∧ s.size ≤ maxLen := by
  unfold Arg at h; rw [ht] at h; unfold Good at h; rw [ht] at h; exact h
theorem Arg.bool {t : TypeId} {v : Value} (ht : P.underlying t = some .bool) (h : Arg P w t v) : ∃ b, v = .bool b := by
  unfold Arg at h; rw [ht] at h; unfold Good at h; rw [ht] at h; exact h
/-- a slice: its row of cells, and what is known of each -/
theorem Good.slice {t e : TypeId} {n : Nat} {v : Value} {ts : List TypeId} (ht : P.underlying t = some (.slice e)) (hT : leafs P 8 e = some ts) (hsz : P.cellsOf e = ts.length) (hpos : 0 < ts.length) (h : Good P w (n + 1) t v) :
    ∃ a len cap, v = .slice a len cap ∧ len ≤ cap ∧ cap ≤ maxLen ∧ (a = none → cap = 0) ∧ ∃ vs : List Value, vs.length = len * ts.length ∧ RowV w a vs ∧
      ∀ i, i < len → ∀ j (hj : j < ts.length) (hij : i * ts.length + j < vs.length), Good P w n ts[j] vs[i * ts.length + j] := by
  unfold Good at h
  rw [ht] at h
  obtain ⟨a, len, cap, h1, h2, h3, h4, h5⟩ := h
  exact ⟨a, len, cap, h1, h2, h3, h4, h5 ts hT hsz hpos⟩
theorem Arg.slice {t e : TypeId} {v : Value} {ts : List TypeId} (ht : P.underlying t = some (.slice e)) (hT : leafs P 8 e = some ts) (hsz : P.cellsOf e = ts.length) (hpos : 0 < ts.length) (h : Arg P w t v) :
    ∃ a len cap, v = .slice a len cap ∧ len ≤ cap ∧ cap ≤ maxLen ∧ (a = none → cap = 0) ∧ ∃ vs : List Value, vs.length = len * ts.length ∧ RowV w a vs ∧
      ∀ i, i < len → ∀ j (hj : j < ts.length) (hij : i * ts.length + j < vs.length), Good P w 7 ts[j] vs[i * ts.length + j] := by
  unfold Arg at h; rw [ht] at h; exact Good.slice ht hT hsz hpos h
theorem ints_of {k : IntKind} : ∀ (vs : List Value), (∀ v ∈ vs, ∃ z, v = .int k z ∧ (Lit.int k z).wf = true) → ∃ zs : List Int, vs = zs.map (.int k) ∧ ∀ z ∈ zs, (Lit.int k z).wf = true
  | [], _ => ⟨[], rfl, fun z h => by cases h⟩
  | v :: r, h => by
    obtain ⟨z, rfl, hz⟩ := h v (List.mem_cons_self)
    obtain ⟨zs, rfl, hzs⟩ := ints_of r (fun u hu => h u (List.mem_cons_of_mem _ hu))
    exact ⟨z :: zs, rfl, fun x hx => by rcases List.mem_cons.1 hx with rfl | hx <;> first | exact hz | exact hzs x hx⟩
/-- a slice whose elements are arrays of n integers of one kind (n = 1: integers) -/
theorem Arg.ints {t e el : TypeId} {k : IntKind} {n : Nat} {v : Value} (ht : P.underlying t = some (.slice e)) (hT : leafs P 8 e = some (List.replicate n el)) (hel : P.underlying el = some (.int k)) (hsz : P.cellsOf e = n) (hpos : 0 < n) (h : Arg P w t v) :
    ∃ a len cap, v = .slice a len cap ∧ len ≤ cap ∧ cap ≤ maxLen ∧ (a = none → cap = 0) ∧ ∃ zs : List Int, zs.length = len * n ∧ RowV w a (zs.map (.int k)) ∧ ∀ z ∈ zs, (Lit.int k z).wf = true := by
  obtain ⟨a, len, cap, h1, h2, h3, h4, vs, h5, h6, h7⟩ := Arg.slice ht hT (by simpa using hsz) (by simpa using hpos) h
  rw [List.length_replicate] at h5
  refine ⟨a, len, cap, h1, h2, h3, h4, ?_⟩
  obtain ⟨zs, rfl, hz⟩ := ints_of (k := k) vs (fun v hv => by
    obtain ⟨q, hq, rfl⟩ := List.mem_iff_getElem.1 hv
    have hqd : q / n < len := Nat.div_lt_of_lt_mul (by rw [Nat.mul_comm, ← h5]; exact hq)
    have hqm : q % n < n := Nat.mod_lt _ hpos
    have e : q / n * n + q % n = q := Nat.div_add_mod' q n
    have := h7 (q / n) hqd (q % n) (by rw [List.length_replicate]; exact hqm) (by rw [List.length_replicate, e]; exact hq)
    simp only [List.length_replicate, e, List.getElem_replicate] at this
    unfold Good at this
    rw [hel] at this
    exact this)
  exact ⟨zs, by simpa using h5, h6, hz⟩
end
end Go.Proofs.Ytkdgnjoofhckeaa
/-
  Rows of elements of several cells each, over any program: what the contracts of generic functions lean on.
-/
namespace Go.Proofs.Ytkdgnjoofhckeaa
open Go.ChangeShapes Go.WideShapes Go.ChangeAt Go.RowKit
set_option linter.unusedSimpArgs false
set_option linter.unusedVariables false

/-- how an element lies in cells -/
structure Enc {α : Type} (enc : α → List Value) (size : Nat) : Prop where
  len : ∀ x, (enc x).length = size
  one : ∀ x, ∀ u ∈ enc x, u.oneCell' = true
  pos : 0 < size

section
variable {α : Type} {enc : α → List Value} {size : Nat}
def flatE (enc : α → List Value) (xs : List α) : List Value := xs.flatMap enc
theorem flatE_nil : flatE enc [] = [] := rfl
theorem flatE_cons (x : α) (xs : List α) : flatE enc (x :: xs) = enc x ++ flatE enc xs := rfl
theorem flatE_one (x : α) : flatE enc [x] = enc x := by simp [flatE]
theorem flatE_append (a b : List α) : flatE enc (a ++ b) = flatE enc a ++ flatE enc b := by simp [flatE]
theorem flatE_length (E : Enc enc size) (xs : List α) : (flatE enc xs).length = xs.length * size := by
  induction xs with
  | nil => simp [flatE]
  | cons x r ih => rw [flatE_cons, List.length_append, E.len, ih, List.length_cons, Nat.succ_mul, Nat.add_comm]
theorem flatE_take (E : Enc enc size) (xs : List α) (k : Nat) : (flatE enc xs).take (k * size) = flatE enc (xs.take k) := by
  induction xs generalizing k with
  | nil => simp [flatE]
  | cons x r ih =>
    cases k with
    | zero => simp [flatE]
    | succ k =>
      rw [flatE_cons, List.take_succ_cons, flatE_cons, List.take_append, E.len, Nat.succ_mul, Nat.add_sub_cancel, ih, List.take_of_length_le (by rw [E.len]; omega)]
theorem flatE_drop (E : Enc enc size) (xs : List α) (k : Nat) : (flatE enc xs).drop (k * size) = flatE enc (xs.drop k) := by
  induction xs generalizing k with
  | nil => simp [flatE]
  | cons x r ih =>
    cases k with
    | zero => simp
    | succ k =>
      rw [flatE_cons, List.drop_succ_cons, List.drop_append, E.len, Nat.succ_mul, Nat.add_sub_cancel, ih, List.drop_eq_nil_of_le (by rw [E.len]; omega), List.nil_append]
theorem flatE_get (E : Enc enc size) (xs : List α) (k j : Nat) (h : k < xs.length) (hj : j < size) : (flatE enc xs)[k * size + j]? = (enc xs[k])[j]? := by
  induction xs generalizing k with
  | nil => simp at h
  | cons x r ih =>
    cases k with
    | zero => rw [flatE_cons, Nat.zero_mul, Nat.zero_add, List.getElem?_append_left (by rw [E.len]; exact hj)]; rfl
    | succ k =>
      rw [flatE_cons, List.getElem?_append_right (by rw [E.len, Nat.succ_mul]; omega), E.len, show (k + 1) * size + j - size = k * size + j by rw [Nat.succ_mul]; omega]
      exact ih k (by simpa using h)
theorem flatE_oneCell (E : Enc enc size) (xs : List α) : ∀ u ∈ flatE enc xs, u.oneCell' = true := by
  intro u hu
  simp only [flatE, List.mem_flatMap] at hu
  obtain ⟨p, _, h⟩ := hu
  exact E.one p u h

/-- a slice that reads as xs -/
structure RowE (enc : α → List Value) (w : World) (a : Option Addr) (len cap : Nat) (xs : List α) : Prop where
  len_eq : xs.length = len
  small : len ≤ 1000000000
  cap_ge : len ≤ cap
  nilcap : a = none → cap = 0
  row : RowV w a (flatE enc xs)
theorem RowE.below {w w' : World} {a : Option Addr} {len cap : Nat} {xs : List α} (h : RowE enc w a len cap xs) (hb : Below w.heap.size w w') : RowE enc w' a len cap xs := ⟨h.len_eq, h.small, h.cap_ge, h.nilcap, h.row.below hb⟩
theorem RowE.nil (enc : α → List Value) (w : World) : RowE enc w none 0 0 [] := ⟨rfl, by omega, by omega, fun _ => rfl, Or.inl rfl⟩
/-- a row of the call's own -/
def OwnE (enc : α → List Value) (t : TypeId) (size : Nat) (w : World) (base : Nat) (v : Value) (xs : List α) : Prop := w.ownsRow base t size v xs.length (flatE enc xs)
theorem OwnE.nil (enc : α → List Value) (t : TypeId) (size : Nat) (w : World) (base : Nat) : OwnE enc t size w base (.slice none 0 0) [] := World.ownsRow_nil _ _ _ _
theorem OwnE.rowE {t : TypeId} {w : World} {base : Nat} {v : Value} {xs : List α} (h : OwnE enc t size w base v xs) (hs : xs.length ≤ 1000000000) : ∃ a cap, v = .slice a xs.length cap ∧ RowE enc w a xs.length cap xs := by
  have h' := h
  obtain ⟨a, cap, rfl, hr⟩ := RowV.of_owns h
  refine ⟨a, cap, rfl, rfl, hs, ?_, fun ha => ?_, hr⟩
  · rcases h'.2 with ⟨h1, h2⟩ | ⟨g, c', cur, h1, _, _, h2, _⟩
    · omega
    · cases h1; exact h2
  · subst ha
    rcases h'.2 with ⟨h1, _⟩ | ⟨g, c, cur, h1, _⟩
    · simp at h1; omega
    · simp at h1
theorem RowE.at (E : Enc enc size) {w : World} {a : Option Addr} {len cap : Nat} {xs : List α} (h : RowE enc w a len cap xs) (k : Nat) (hk : k < len) :
    ∃ b off, a = some ⟨b, off, none⟩ ∧ b < w.heap.size ∧ ∀ j, j < size → w.cell? ⟨b, off + k * size + j, none⟩ = (enc (xs[k]'(by rw [h.len_eq]; exact hk)))[j]? := by
  have hl := flatE_length E xs
  rw [h.len_eq] at hl
  have hmul : (k + 1) * size ≤ len * size := Nat.mul_le_mul_right _ hk
  rw [Nat.succ_mul] at hmul
  have hp := E.pos
  obtain ⟨b, off, h1, h2, h3⟩ := h.row.addr (by omega)
  refine ⟨b, off, h1, h2, fun j hj => ?_⟩
  have hg := flatE_get E xs k j (by rw [h.len_eq]; exact hk) hj
  rw [← hg, Nat.add_assoc, h3 (k * size + j) (by omega), List.getElem?_eq_getElem]
theorem OwnE.below {t : TypeId} {w w' : World} {base : Nat} {v : Value} {xs : List α} (h : OwnE enc t size w base v xs) (hb : Below w.heap.size w w') : OwnE enc t size w' base v xs := by
  obtain ⟨h1, h2⟩ := h
  refine ⟨h1, ?_⟩
  rcases h2 with h2 | ⟨g, cap, cur, h3, h4, h5, h6⟩
  · exact Or.inl h2
  · exact Or.inr ⟨g, cap, cur, h3, h4, by rw [hb.block g (Array.getElem?_eq_some_iff.1 h5).1]; exact h5, h6⟩
theorem OwnE.base {t : TypeId} {w : World} {base base' : Nat} {v : Value} {xs : List α} (h : OwnE enc t size w base v xs) (hb : base' ≤ base) : OwnE enc t size w base' v xs := by
  obtain ⟨h1, h2⟩ := h
  refine ⟨h1, ?_⟩
  rcases h2 with h2 | ⟨g, cap, cur, h3, h4, h5⟩
  · exact Or.inl h2
  · exact Or.inr ⟨g, cap, cur, h3, Nat.le_trans hb h4, h5⟩
/-- append onto an own row -/
theorem append_E {P : Program} {t e : TypeId} {z : Value} {bytes : Nat} (T : ElemT P t e z size bytes) (E : Enc enc size) (w : World) (base ty : Nat) (v : Value) (xs : List α) (n : Nat) (hn : xs.length = n)
    (hown : OwnE enc e size w base v xs) (a : Option Addr) (m c : Nat) (ys : List α) (hrow : RowE enc w a m c ys)
    (h63 : n + m ≤ maxLen) (hbytes : (n + m) * bytes ≤ 140737488355328) (hbase : base ≤ w.heap.size) :
    ∃ v' w', (Builtin.append_ #[t, t] ty #[v, .slice a m c]).run P w = .ok v' w' ∧ OwnE enc e size w' base v' (xs ++ ys) ∧ w.grownBy w' v.ownBlock := by
  subst hn
  obtain ⟨v', w', h1, h2, h3⟩ := append_row T w base ty v _ _ hown a m c _ hrow.nilcap hrow.row (by rw [flatE_length E, hrow.len_eq]) (flatE_oneCell E ys) h63 hbytes hbase
  refine ⟨v', w', h1, ?_, h3⟩
  unfold OwnE
  rw [List.length_append, flatE_append, hrow.len_eq]
  exact h2
/-- a new block that holds one element -/
theorem RowE.one (E : Enc enc size) (w : World) (cs : Array Value) (t : TypeId) (x : α) (h : cs.toList = enc x) : RowE enc (w.alloc (.cells cs t)) (some ⟨w.heap.size, 0, none⟩) 1 1 [x] :=
  ⟨rfl, by omega, by omega, fun h => (by cases h), by rw [flatE_one, ← h]; exact RowV.new w cs t⟩
theorem RowE.new (E : Enc enc size) (w : World) (cs : Array Value) (t : TypeId) (xs : List α) (n : Nat) (hn : xs.length = n) (hs : n ≤ 1000000000) (h : cs.toList = flatE enc xs) : RowE enc (w.alloc (.cells cs t)) (some ⟨w.heap.size, 0, none⟩) n n xs :=
  ⟨hn, hs, Nat.le_refl _, fun h => (by cases h), by rw [← h]; exact RowV.new w cs t⟩
theorem OwnE.lit (E : Enc enc size) (w : World) (cs : Array Value) (t : TypeId) (xs : List α) (n : Nat) (hn : xs.length = n) (h : cs.toList = flatE enc xs) (h63 : n ≤ maxLen) : OwnE enc t size (w.alloc (.cells cs t)) w.heap.size (.slice (some ⟨w.heap.size, 0, none⟩) n n) xs := by
  subst hn
  have hl := flatE_length E xs
  unfold OwnE
  rw [← h]
  exact World.ownsRow_lit w cs xs.length (Nat.le_refl _) h63 (by rw [← hl, ← h]; simp)
/-- 's[l:]' -/
theorem RowE.drop {P : Program} {t e : TypeId} {z : Value} {bytes : Nat} (T : ElemT P t e z size bytes) (E : Enc enc size) {w : World} {a : Option Addr} {len cap : Nat} {xs : List α} (h : RowE enc w a len cap xs) (l : Nat) (li : Int) (hli : li = l) (hl : l ≤ len) :
    ∃ a', (∀ wx : World, (Instr.slice t (.slice a len cap) (some (.int .i64 li)) none none).run P wx = .ok (.slice a' (len - l) (cap - l)) wx) ∧ RowE enc w a' (len - l) (cap - l) (xs.drop l) := by
  have hlen := flatE_length E xs
  rw [h.len_eq] at hlen
  obtain ⟨a', h1, h2, h3⟩ := slice_row T w a len cap l li hli (flatE enc xs) hl h.cap_ge hlen h.row
  have := h.cap_ge
  have := h.small
  exact ⟨a', h1, by rw [List.length_drop, h.len_eq], by omega, by omega, fun ha => by have := h.nilcap (h3 ha); omega, by rw [← flatE_drop E]; exact h2⟩
/-- 's[:m]' -/
theorem RowE.take {P : Program} {t e : TypeId} {z : Value} {bytes : Nat} (T : ElemT P t e z size bytes) (E : Enc enc size) {w : World} {a : Option Addr} {len cap : Nat} {xs : List α} (h : RowE enc w a len cap xs) (m : Nat) (mi : Int) (hmi : mi = m) (hm : m ≤ len) :
    (∀ wx : World, (Instr.slice t (.slice a len cap) none (some (.int .i64 mi)) none).run P wx = .ok (.slice a m cap) wx) ∧ RowE enc w a m cap (xs.take m) := by
  have hlen := flatE_length E xs
  rw [h.len_eq] at hlen
  obtain ⟨h1, h2⟩ := slice_to T w a len cap m mi hmi (flatE enc xs) hm h.cap_ge h.row
  have := h.cap_ge
  have := h.small
  exact ⟨h1, by rw [List.length_take, h.len_eq]; omega, by omega, by omega, h.nilcap, by rw [← flatE_take E]; exact h2⟩
end

/-- copy at elements of any size -/
theorem run_copy_sz {P : Program} (w : World) (dT sT ty elem : TypeId) (size g o dLen dCap : Nat) (a : Addr) (sLen sCap m : Nat) (cur : Array Value) (t : TypeId) (cs : List Value)
    (hu : P.underlying dT = some (.slice elem)) (hs : (P.info? elem).map (·.size) = some size)
    (hg : w.heap[g]? = some (.cells cur t (0, 0))) (hm : Nat.min sLen dLen = m) (hn : cs.length = m * size)
    (hsrc : ∀ j v, cs[j]? = some v → w.cell? (a.add j) = some v) (hfit : o + cs.length ≤ cur.size) (h1 : ∀ v ∈ cs, v.oneCell' = true) :
    (Builtin.copy_ #[dT, sT] ty #[.slice (some ⟨g, o, none⟩) dLen dCap, .slice (some a) sLen sCap]).run P w =
      .ok (goInt m) (w.setRow g (cur.toList.take o ++ cs ++ cur.toList.drop (o + cs.length)).toArray) := by
  have hl := run_firstCells_some (P := P) w size m a sLen sCap cs hn hsrc
  have hst := run_storeCells_at P g o t cs 0 cur w hg (by simpa using hfit) h1
  cases hq : P.info? elem with
  | none => simp [hq] at hs
  | some i =>
    have hi : i.size = size := by simpa [hq] using hs
    simp [Builtin.copy_, run_underlying hu, Builtin.lenOf, sizeOf, typeInfo, hq, hi, hm, hl, hst]
theorem wpList_copy_by {P : Program} {w w' : World} {ops : Array Oper} {rest : List Oper} {o : Oper} {a : Act} {Q : Exit → Act → World → Prop} {t t' ty : TypeId} {v xv v' : Value}
    (hr : (Builtin.copy_ #[t, t'] ty #[v, xv]).run P w = .ok v' w') (hgd : o.guard = none) (s x : Operand)
    (ho : o.op = .call { callee := .builtin .copy, args := #[s, x], argTypes := #[t, t'] }) (hty : o.type = ty) (hsx : (a.eval s, a.eval x) = (v, xv))
    (h : wpList P ops Q rest (a.put o.dst v') w') : wpList P ops Q (o :: rest) a w := by
  refine wpList_plain hgd fun K hK => ?_
  have h1 : a.eval s = v := congrArg Prod.fst hsx
  have h2 : a.eval x = xv := congrArg Prod.snd hsx
  unfold Oper.wp
  simp [execOp, ho, resolve, invoke, builtin, h1, h2, hty, hr, Result.andThen]
  exact hK _ _ h
theorem step_copy_by {P : Program} {w w' : World} {ops : Array Oper} {o : Oper} {a : Act} {K : Act → World → Prop} {Q : Exit → Act → World → Prop} {E : Prop} {t t' ty : TypeId} {v xv v' : Value}
    (hr : (Builtin.copy_ #[t, t'] ty #[v, xv]).run P w = .ok v' w') (hgd : o.guard = none) (s x : Operand)
    (ho : o.op = .call { callee := .builtin .copy, args := #[s, x], argTypes := #[t, t'] }) (hty : o.type = ty) (hsx : (a.eval s, a.eval x) = (v, xv))
    (h : K (a.put o.dst v') w') : if Region.wanted o (yielded ops a.tmps) = true then Oper.wp P o a w K Q else E := by
  have hw : Region.wanted o (yielded ops a.tmps) = true := by simp [Region.wanted, hgd]
  rw [if_pos hw]
  have h1 : a.eval s = v := congrArg Prod.fst hsx
  have h2 : a.eval x = xv := congrArg Prod.snd hsx
  unfold Oper.wp
  simp [execOp, ho, resolve, invoke, builtin, h1, h2, hty, hr, Result.andThen]
  exact h
theorem splice_up {R E D : List Value} {p : Nat} (hp : p ≤ R.length) :
    ((R.take p ++ E ++ R.drop (p + E.length)).take (p + E.length) ++ D ++ (R.take p ++ E ++ R.drop (p + E.length)).drop (p + E.length + D.length)).take (p + E.length + D.length) = R.take p ++ E ++ D := by
  have h1 : (R.take p ++ E).length = p + E.length := by rw [List.length_append, List.length_take]; omega
  have h2 : (R.take p ++ E ++ R.drop (p + E.length)).take (p + E.length) = R.take p ++ E := by
    rw [← h1, List.take_left']; rfl
  rw [h2]
  have h3 : (R.take p ++ E ++ D).length = p + E.length + D.length := by rw [List.length_append, h1]
  rw [← h3, List.take_left']; rfl
theorem splice_down {R E D : List Value} {p : Nat} (hp : p + E.length ≤ R.length) :
    ((R.take (p + E.length) ++ D ++ R.drop (p + E.length + D.length)).take p ++ E ++ (R.take (p + E.length) ++ D ++ R.drop (p + E.length + D.length)).drop (p + E.length)).take (p + E.length + D.length) = R.take p ++ E ++ D := by
  have h1 : (R.take (p + E.length)).length = p + E.length := by rw [List.length_take]; omega
  have h2 : (R.take (p + E.length) ++ D ++ R.drop (p + E.length + D.length)).take p = R.take p := by
    rw [List.append_assoc, List.take_append_of_le_length (by omega), List.take_take]
    congr 1; omega
  have h3 : (R.take (p + E.length) ++ D ++ R.drop (p + E.length + D.length)).drop (p + E.length) = D ++ R.drop (p + E.length + D.length) := by
    rw [List.append_assoc, List.drop_append, h1, Nat.sub_self, List.drop_zero, List.drop_eq_nil_of_le (by omega), List.nil_append]
  rw [h2, h3, ← List.append_assoc]
  have h4 : (R.take p ++ E ++ D).length = p + E.length + D.length := by rw [List.length_append, List.length_append, List.length_take]; omega
  rw [← h4, List.take_left']; rfl
/-- 's[l:]' at a known place -/
theorem slice_at {P : Program} {t e : TypeId} {z : Value} {size bytes : Nat} (T : ElemT P t e z size bytes) (wx : World) (b o len cap l : Nat) (li : Int) (hli : li = l) (hl : l ≤ len) (hc : l < cap) :
    (Instr.slice t (.slice (some ⟨b, o, none⟩) len cap) (some (.int .i64 li)) none none).run P wx = .ok (.slice (some ⟨b, o + l * size, none⟩) (len - l) (cap - l)) wx := by
  subst hli
  obtain ⟨i, hi, hz, hs, hb⟩ := T.info
  have hel : P.elem t = e := by simp [Program.elem, T.slice]
  have ht : P.underlying t = some (.slice (P.elem t)) := by rw [hel]; exact T.slice
  have hsz : ∀ wx, (sizeOf (P.elem t)).run P wx = .ok size wx := fun wx => by rw [hel]; simp [sizeOf, typeInfo, hi, hs]
  rw [run_slice_l wx t _ len cap ht .i64 l (by omega) (by omega), hsz]
  have hne : ¬ cap = l := by omega
  simp [Int.toNat_natCast, Result.andThen, sliced, hne, add_plain]
/-- 's[:h]', up to the capacity -/
theorem slice_up {P : Program} {t e : TypeId} {z : Value} {size bytes : Nat} (T : ElemT P t e z size bytes) (wx : World) (b o len cap h : Nat) (hi' : Int) (hhi : hi' = h) (hh : h ≤ cap) (h0 : 0 < cap) :
    (Instr.slice t (.slice (some ⟨b, o, none⟩) len cap) none (some (.int .i64 hi')) none).run P wx = .ok (.slice (some ⟨b, o, none⟩) h cap) wx := by
  subst hhi
  obtain ⟨i, hi, hz, hs, hb⟩ := T.info
  have hel : P.elem t = e := by simp [Program.elem, T.slice]
  have ht : P.underlying t = some (.slice (P.elem t)) := by rw [hel]; exact T.slice
  have hsz : ∀ wx, (sizeOf (P.elem t)).run P wx = .ok size wx := fun wx => by rw [hel]; simp [sizeOf, typeInfo, hi, hs]
  rw [run_slice_h wx t _ len cap ht .i64 h (by omega) (by omega), hsz]
  have hne : ¬ cap = 0 := by omega
  simp [Int.toNat_natCast, Result.andThen, sliced, hne, add_plain]
theorem heap_setRow {w : World} {g : Nat} {cur cs : Array Value} {t : TypeId} (hg : w.heap[g]? = some (.cells cur t (0, 0))) : (w.setRow g cs).heap[g]? = some (.cells cs t (0, 0)) := setRow_heap w g cur cs t _ hg
theorem below_row {B g : Nat} {w0 w : World} (hb : Below B w0 w) (hBg : B ≤ g) (cs : Array Value) : Below B w0 (w.setRow g cs) :=
  hb.trans ⟨rfl, rfl, rfl, by simp [World.setRow], fun k hk => setRow_other w g k cs (by omega)⟩
/-- the cells of a row that a block holds -/
theorem cell_at {w : World} {g i : Nat} {cur : Array Value} {t : TypeId} {fr : Nat × Nat} (hg : w.heap[g]? = some (.cells cur t fr)) : w.cell? ⟨g, i, none⟩ = cur[i]? := cell_of_row w g i cur t fr hg
end Go.Proofs.Ytkdgnjoofhckeaa
/-
  From the contracts on worlds to those on values, and back: rows of plain cells.
-/
namespace Go.Proofs.Ytkdgnjoofhckeaa.V
open Go Go.RowKit
set_option linter.unusedSimpArgs false
set_option linter.unusedVariables false

/-- a plain cell, as the model has it -/
def plainV : AV → Option Value
  | .bool b => some (.bool b)
  | .int k n => some (.int k n)
  | .str s => some (.string s)
  | _ => none
theorem plain_repF {M : Nat → Prop} {w : World} {v u : Value} {x : AV} (h : plainV x = some u) (hr : RepF M w v x) : v = u := by
  cases hr <;> simp [plainV] at h <;> exact h
theorem plain_mk {M : Nat → Prop} {w : World} {u : Value} {x : AV} (h : plainV x = some u) : RepF M w u x := by
  cases x <;> simp [plainV] at h <;> subst h <;> constructor
/-- a type's cells, in both forms -/
def PairE {α : Type} (enc : α → List Value) (encA : α → List AV) : Prop := ∀ x, (encA x).map plainV = (enc x).map some
section
variable {α : Type} {enc : α → List Value} {encA : α → List AV} {size : Nat}
theorem flat_pair (hE : PairE enc encA) (l : List α) : (flatA encA l).map plainV = (flatE enc l).map some := by
  induction l with
  | nil => rfl
  | cons x r ih => rw [flatA_cons, flatE_cons, List.map_append, List.map_append, ih, hE]
theorem flat_at (hE : PairE enc encA) (l : List α) (i : Nat) (h : i < (flatE enc l).length) : plainV ((flatA encA l).getD i .junk) = some (flatE enc l)[i] := by
  have h1 := congrArg (fun z => z[i]?) (flat_pair hE l)
  simp only [List.getElem?_map, List.getElem?_eq_getElem h, Option.map_some] at h1
  rw [List.getD_eq_getElem?_getD]
  cases h2 : (flatA encA l)[i]? with
  | none => rw [h2] at h1; cases h1
  | some x => rw [h2] at h1; simpa using h1
theorem flat_len (hE : PairE enc encA) (l : List α) : (flatA encA l).length = (flatE enc l).length := by
  have := congrArg List.length (flat_pair hE l)
  simpa using this
/-- a value that nobody writes, read as a row -/
theorem row_of_rep (hE : PairE enc encA) (E : Enc enc size) {p : Pl} {w : World} {v : Value} {l : List α} (h : Rep p w v (.slv l.length size (flatA encA l))) (hs : l.length ≤ 1000000000) :
    ∃ a cap, v = .slice a l.length cap ∧ RowE enc w a l.length cap l ∧ cap ≤ maxLen := by
  have h' : RepF p.M w v (.slv l.length size (flatA encA l)) := h
  cases h' with
  | slv oa a len cap sz cells vs ho hl hcap hcm hsz hc hr =>
    refine ⟨oa, cap, rfl, ⟨rfl, hs, hcap, fun hn => ?_, ?_⟩, hcm⟩
    · rcases ho with ho | ho
      · rw [hn] at ho; cases ho
      · exact ho.2
    · rcases Nat.eq_zero_or_pos l.length with h0 | h0
      · left
        rw [List.eq_nil_of_length_eq_zero h0]; rfl
      · right
        have hoa : oa = some a := by
          rcases ho with ho | ho
          · exact ho
          · omega
        have hll : 0 < (flatA encA l).length := by rw [hl]; exact Nat.mul_pos h0 E.pos
        obtain ⟨b, off, sp⟩ := a
        obtain ⟨hsp, hb, _, _, _⟩ := hc 0 hll
        simp only at hsp hb
        subst hsp
        refine ⟨b, off, hoa, hb, fun i hi => ?_⟩
        have hi' : i < (flatA encA l).length := by rw [flat_len hE]; exact hi
        obtain ⟨_, _, _, h4, _⟩ := hc i hi'
        have := hr i hi'
        rw [h4, plain_repF (flat_at hE l i hi) this]
/-- a row that nobody of the run's own writes, as a value -/
theorem rep_of_rowV (hE : PairE enc encA) (E : Enc enc size) {p : Pl} {w : World} {a : Option Addr} {len cap : Nat} {l : List α} (hlen : l.length = len) (hge : len ≤ cap) (hnil : a = none → cap = 0) (hrow : RowV w a (flatE enc l)) (hcm : cap ≤ maxLen) (hM : ∀ x : Addr, a = some x → ¬ p.M x.block) :
    Rep p w (.slice a len cap) (.slv len size (flatA encA l)) := by
  subst hlen
  have hfl : (flatA encA l).length = l.length * size := by rw [flat_len hE, flatE_length E]
  show RepF p.M w _ _
  cases a with
  | none =>
    have h0 := hnil rfl
    have hz : l.length = 0 := by omega
    refine .slv none ⟨0, 0, none⟩ _ cap size _ (fun _ => .bool false) (Or.inr ⟨rfl, h0⟩) hfl hge hcm E.pos (fun i hi => ?_) (fun i hi => ?_) <;> (rw [hfl, hz] at hi; omega)
  | some x =>
    refine .slv (some x) x _ cap size _ (fun i => (flatE enc l)[i]?.getD (.bool false)) (Or.inl rfl) hfl hge hcm E.pos (fun i hi => ?_) (fun i hi => ?_)
    · have hi' : i < (flatE enc l).length := by rw [← flat_len hE]; exact hi
      obtain ⟨b, off, h1, h2, h3⟩ := hrow.addr (by omega)
      cases h1
      refine ⟨rfl, h2, hM _ rfl, ?_, ?_⟩ <;> simp only [List.getElem?_eq_getElem hi', Option.getD_some]
      · exact h3 i hi'
      · exact flatE_oneCell E l _ (List.getElem_mem hi')
    · have hi' : i < (flatE enc l).length := by rw [← flat_len hE]; exact hi
      simp only [List.getElem?_eq_getElem hi', Option.getD_some]
      exact plain_mk (flat_at hE l i hi')
theorem rep_of_row (hE : PairE enc encA) (E : Enc enc size) {p : Pl} {w : World} {a : Option Addr} {len cap : Nat} {l : List α} (h : RowE enc w a len cap l) (hcm : cap ≤ maxLen) (hM : ∀ x : Addr, a = some x → ¬ p.M x.block) :
    Rep p w (.slice a len cap) (.slv len size (flatA encA l)) := rep_of_rowV hE E h.len_eq h.cap_ge h.nilcap h.row hcm hM
/-- a row of cells, as a list of what they stand for -/
theorem rows_of (good : α → Prop) : ∀ (len : Nat) (vs : List Value), vs.length = len * size → (∀ i, i < len → ∃ x, (vs.drop (i * size)).take size = enc x ∧ good x) → ∃ xs : List α, xs.length = len ∧ vs = flatE enc xs ∧ ∀ x ∈ xs, good x
  | 0, vs, h, _ => by
    obtain rfl := List.eq_nil_of_length_eq_zero (l := vs) (by rw [h]; omega)
    exact ⟨[], rfl, rfl, fun x hx => by cases hx⟩
  | len + 1, vs, h, hx => by
    obtain ⟨x, h1, h2⟩ := hx 0 (by omega)
    obtain ⟨xs, h3, h4, h5⟩ := rows_of good len (vs.drop size) (by rw [List.length_drop, h, Nat.succ_mul]; omega) (fun i hi => by
      obtain ⟨y, hy, hg⟩ := hx (i + 1) (by omega)
      exact ⟨y, by rw [List.drop_drop, ← hy, show size + i * size = (i + 1) * size by rw [Nat.succ_mul]; omega], hg⟩)
    refine ⟨x :: xs, by simp [h3], ?_, fun y hy => ?_⟩
    · rw [flatE_cons, ← h4, ← h1, Nat.zero_mul, List.drop_zero, List.take_append_drop]
    · rcases List.mem_cons.1 hy with rfl | hy
      · exact h2
      · exact h5 y hy
/-- a fresh row, as a value -/
theorem rep_of_own (hE : PairE enc encA) (E : Enc enc size) {t : TypeId} {p : Pl} {w : World} {base : Nat} {v : Value} {l : List α} (h : OwnE enc t size w base v l) (hs : l.length ≤ 1000000000) (hM : ∀ g, base ≤ g → ¬ p.M g) :
    Rep p w v (.slv l.length size (flatA encA l)) := by
  have h' := h
  obtain ⟨a, cap, rfl, hr⟩ := h.rowE hs
  obtain ⟨_, ⟨h1, h2⟩ | ⟨g, c, cur, h1, hb, _, _, hcm, _⟩⟩ := h'
  · simp only [Value.slice.injEq] at h1
    obtain ⟨rfl, _, rfl⟩ := h1
    exact rep_of_row hE E hr (by unfold maxLen; omega) (fun x hx => by cases hx)
  · cases h1
    exact rep_of_row hE E hr hcm (fun x hx => by cases hx; exact hM _ hb)
end
/-- the places before a run's own begin -/
def pl0 : Pl := ⟨0, fun _ => none, fun _ => False⟩
theorem pl0_M (g : Nat) : ¬ pl0.M g := by rintro (⟨id, h⟩ | h) <;> cases h
theorem pl0_RH (w : World) : RH pl0 [] w := ⟨rfl, fun _ _ => rfl, fun _ _ _ h => (by cases h), fun id h => absurd h (by simp), fun g (hg : False) => hg.elim⟩
/-- a contract on values gives one on worlds -/
theorem CallsV.calls {P : Program} {f : FuncId} {args : List AV} {R : AV → List Blk → Prop} (h : CallsV P f args [] R) {w : World} {vals : Array Value} (hv : RepL (Rep pl0 w) vals.toList args) :
    Calls P f vals w fun e w' => ∃ v av H' p', e = .returned v ∧ R av H' ∧ Rep p' w' v av ∧ Below w.heap.size w w' := by
  have hown0 : ∀ g, ¬ pl0.own g := fun g ⟨id, hid⟩ => by cases hid
  refine (h _ w vals (pl0_RH w) hv).mono ?_
  rintro e w' ⟨v, av, H', p', rfl, hR, _, hr, hS⟩
  exact ⟨v, av, H', p', rfl, hR, hr, hS.os, hS.tape, hS.output, hS.size, fun g hg => hS.froz g hg (hown0 g)⟩
/-- a contract on worlds of a function that writes nothing that stood gives one on values -/
theorem CallsV.of_calls {P : Program} {f : FuncId} {args : List AV} {R : AV → Prop}
    (h : ∀ (p : Pl) (w : World) (vals : Array Value), (∀ g, p.M g → g < w.heap.size) → RepL (Rep p w) vals.toList args → Calls P f vals w fun e w' => ∃ v, e = .returned v ∧ Below w.heap.size w w' ∧ ∃ av, Rep p w' v av ∧ R av) :
    CallsV P f args [] fun av H' => R av ∧ H' = [] := by
  intro p w vals hH hv
  refine (h p w vals (fun g hg => hg.elim (hH.lt g) fun hx => (hH.xs g hx).1) hv).mono ?_
  rintro e w' ⟨v, rfl, hB, av, hr, hR⟩
  exact ⟨v, av, [], p, rfl, ⟨hR, rfl⟩, hH.below hB, hr, Step.of_below hB hH.lt⟩
end Go.Proofs.Ytkdgnjoofhckeaa.V
/-
  Whether a slice that is known to be empty, and no more, is nil: either.
-/
namespace Go.Proofs.Ytkdgnjoofhckeaa.V
open Go Go.RowKit
set_option linter.unusedSimpArgs false
set_option linter.unusedVariables false
section
variable {P : Program} {s : St} {o : Oper} {R : AV → List Blk → Prop}
theorem op_nilq {t e : TypeId} {op : BinOp} (hop : op = .eql ∨ op = .neq) {x y : Operand} {z : _} {len sz : Nat} {cs : List AV} (ho : o.op = .binOp op t x y z) (ht : P.underlying t = some (.slice e)) (hx : s.ev x = .slv len sz cs) (hy : s.ev y = .nilsl) (h : ∀ b, (b = (op == .eql) → len = 0) → R (.bool b) s.H) : OpB P o s R := opB_of fun p w a hR => by
  have hv := hR.ev x
  rw [hx] at hv
  have hu := rep_nilsl (hy ▸ hR.ev y)
  obtain ⟨oa, ad, cap, hve, hoa, hlc, _⟩ := at_slv hv
  have hz : oa.isNone = true → len = 0 := fun hz => by
    rcases hoa with rfl | ⟨_, h0⟩
    · cases hz
    · omega
  have key : (Op.equal t (.slice oa len cap) (.slice none 0 0)).run P w = .ok oa.isNone w := by
    unfold Op.equal Op.maxDepth Op.equalIn
    cases oa <;> simp only [Sem.run_bind, run_underlying ht, Result.andThen_ok, Sem.run_pure] <;> rfl
  have k2 := binOp_eql_other P t _ _ (Or.inl ⟨oa, len, cap, none, 0, 0, rfl, rfl⟩) _ w key
  rcases hop with rfl | rfl
  · refine ⟨.bool oa.isNone, .bool _, s.H, p, w, ?_, h _ (fun e => hz e), hR.heap, mk_bool _ _ _, Step.refl _ _, Below.refl _ _⟩
    unfold execOp
    rw [ho]
    simp [hve, hu, guard_none, k2.1]
  · refine ⟨.bool (!oa.isNone), .bool _, s.H, p, w, ?_, h _ (fun e => hz (by cases h : oa.isNone <;> rw [h] at e <;> first | rfl | cases e)), hR.heap, mk_bool _ _ _, Step.refl _ _, Below.refl _ _⟩
    unfold execOp
    rw [ho]
    simp [hve, hu, guard_none, k2.2]
end
section
variable {P : Program} {s s' : St} {Q : Exit → St → Prop} {c : Code} {ops : Array Oper} {l l' : List Nat}
def binArgs : Op → Option (Operand × Operand × Bool)
  | .binOp op _ x y _ => if op == .eql || op == .neq then some (x, y, op == .eql) else none
  | _ => none
theorem n_nilq (t : TypeId) (x y : Operand) (q : Bool) (len sz : Nat) (cs : List AV) {i : Nat} (ho : (decide (i < ops.size) && (match (opAt ops i).guard, (opAt ops i).op with | none, .binOp _ t' _ _ _ => t' == t | _, _ => false)) = true)
    (hxy : binArgs (opAt ops i).op = some (x, y, q))
    (ht : (match P.underlying t with | some (.slice _) => true | _ => false) = true) (hx : s.ev x = .slv len sz cs) (hy : s.ev y = .nilsl) (h : ∀ b, (b = q → len = 0) → RunN P ops Q l (St.put s (opAt ops i).dst (.bool b))) : RunN P ops Q (i :: l) s := by
  simp only [Bool.and_eq_true, decide_eq_true_eq] at ho
  obtain ⟨h1, h2⟩ := ho
  split at h2
  · rename_i op _ _ _ _ hg hop
    simp only [beq_iff_eq] at h2
    subst h2
    rw [hop] at hxy
    simp only [binArgs] at hxy
    by_cases h3 : (op == .eql || op == .neq) = true
    · rw [if_pos h3] at hxy
      cases hxy
      simp only [Bool.or_eq_true, beq_iff_eq] at h3
      split at ht
      · rename_i e he
        exact runN_op (opAt_get h1) (wanted_none hg) ((op_nilq h3 hop he hx hy h).opV)
      · cases ht
    · rw [if_neg h3] at hxy
      cases hxy
  · cases h2
/-- a call under a guard among operations that draw their order -/
theorem d_callg (i f : Nat) (as' : List AV) (x : AV) (g : Bool) (m : Nat) (listed' : Array Bool) (s' : St) {n : Nat} {listed : Array Bool} (hn : m + 1 = n) (hr : Region.ready .any ops listed = [i]) (hc : (decide (i < ops.size) && (callable P f && (match callsG (opAt ops i) with | some g => g == f | none => false))) = true)
    (hg : guardE ops s (opAt ops i) = some g) (ha : (callArgs (opAt ops i)).map (evG s (callArgs (opAt ops i))) = as') (hpl : (as'.all noid1 && plain1 x) = true) (hl : listed.setIfInBounds i true = listed') (hs : s.put (opAt ops i).dst (.cnd g x) = s')
    (C : Prop) (hC : allP (there s.ev (callArgs (opAt ops i))) = C) (ht : g = true → C) (h : g = true → CallsV P f as' [] fun av H' => av = x ∧ H' = []) (k : RunD P ops Q m listed' s') : RunD P ops Q n listed s := fun p w a K hR hQ => by
  subst hn hC ha hs hl
  simp only [Bool.and_eq_true, decide_eq_true_eq] at hc hpl
  obtain ⟨h1, h2, h3⟩ := hc
  have h4 : callsG (opAt ops i) = some f := by
    split at h3
    · rename_i g' hg'; rw [hg']; simp only [beq_iff_eq] at h3; rw [h3]
    · cases h3
  obtain ⟨ts, h6⟩ := callsG_spec h4
  refine wpAnyH_all hr (by simp) fun j hj => ?_
  obtain rfl : j = i := by simpa using hj
  unfold wpOp
  rw [opAt_get h1]
  simp only [guardE_wanted hg hR]
  cases g with
  | true =>
    simp only [if_true]
    refine Or.inl ?_
    have hrun : (execOp a.eval (opAt ops j)).run P w = .ok (.enter f ((callArgs (opAt ops j)).toArray.map a.eval)) w := by
      unfold execOp
      rw [h6]
      simp [resolve, invoke, Act.eval, Deferred.ofValue, run_callFunc h2]
    unfold Oper.wp
    rw [hrun, Oper.upon_enter]
    have hreps : RepL (Rep p w) ((callArgs (opAt ops j)).toArray.map a.eval).toList ((callArgs (opAt ops j)).map (evG s (callArgs (opAt ops j)))) :=
      ⟨by simp, fun j' e1 e2 => by
        have := evG_rep (ht rfl) hR ((callArgs (opAt ops j))[j']'(by simpa using e2))
        simpa using this⟩
    refine ((h rfl).frame (fun y hy => List.all_eq_true.1 hpl.1 y hy) hR.heap hreps).mono ?_
    rintro e w' ⟨v, av, H', p', rfl, ⟨rfl, rfl⟩, b1, b2, b3, b4⟩
    have hp2 : plain2 av = true := by cases av <;> first | exact hpl.2 | (have := hpl.2; simp [plain1, noid0] at this)
    rw [ren_plain hp2] at b2
    rw [List.map_nil, List.append_nil] at b1
    exact ⟨b4, wpAnyH_weak (fun w'' hb => b4.trans (hb.mono b4.size)) _ _ _ _ (k p' w' _ K (Rst.put (hR.step b3 b1) _ ⟨fun _ => notCnd_repT b2 (noid1_plain2 hpl.2), fun h => by cases h⟩) fun s2 p2 a2 w2 q r kk => hQ s2 p2 a2 w2 q r (b3.trans kk))⟩
  | false =>
    simp only [Bool.false_eq_true, if_false]
    exact ⟨Below.refl _ _, wpAnyH_weak (fun w'' hb => hb) _ _ _ _ (k p w _ K (hR.put _ ⟨fun h => (by cases h), fun _ => rfl⟩) hQ)⟩
theorem keep_row {H : List Blk} (j : Nat) (t : TypeId) (xs : List AV) (hj : H[j]? = some (.row t xs)) (hn : ∀ x ∈ xs, noid0 x = true) : KeepOK 0 [j] H [.row t xs] := by
  refine ⟨by simp, fun i hi => ?_, by simp, fun i hi => by omega, rfl, fun i h1 h2 h3 => ?_⟩
  · obtain rfl : i = j := by simpa using hi
    exact (List.getElem?_eq_some_iff.1 hj).1
  · obtain rfl : i = 0 := by simp at h1; omega
    obtain ⟨q1, q2⟩ := List.getElem?_eq_some_iff.1 hj
    simp only [List.getElem_cons_zero] at h2 ⊢
    rw [q2]
    exact ⟨rfl, Or.inl ⟨rfl, hn⟩⟩
theorem CallsV.weakR {P : Program} {f : FuncId} {args : List AV} {H : List Blk} {R R' : AV → List Blk → Prop} (h : CallsV P f args H R) (hw : ∀ av H', R av H' → ∃ av', (∀ p w v, Rep p w v av → Rep p w v av') ∧ R' av' H') : CallsV P f args H R' := fun p w vals hH hv =>
  (h p w vals hH hv).mono fun e w' ⟨v, av, H', p', h1, h2, h3, h4, h5⟩ => by
    obtain ⟨av', g1, g2⟩ := hw av H' h2
    exact ⟨v, av', H', p', h1, g2, h3, g1 _ _ _ h4, h5⟩
/-- what a call makes, as values -/
theorem CallsV.byval {P : Program} {f : FuncId} {args : List AV} {x y : AV} {Bs : List Blk} (h : CallsV P f args [] fun a b => a = x ∧ b = Bs) (hy : valA (fun _ => true) Bs 100 [x] = some [y]) : CallsV P f args [] fun a b => a = y ∧ b = [] := fun p w vals hH hv =>
  (h p w vals hH hv).mono fun e w' ⟨v, av, H', p', h1, ⟨ha, hb⟩, h3, h4, h5⟩ => by
    subst ha hb
    have hn : p.n = 0 := hH.n
    obtain ⟨k1, k2, _⟩ := keep_ok (keep := []) (H' := []) h5 h3 (by rw [hn]; exact keep_nil _)
    have hr := valA_rep h3 (lends0 h3 (fun _ => true)) 100 hy (vs := [v]) ⟨rfl, fun i h1 h2 => by
      obtain rfl : i = 0 := by simp at h1; exact h1
      exact h4⟩
    have hr0 := hr.2 0 (by simp) (by simp)
    exact ⟨v, _, _, p'.keep [], h1, ⟨rfl, rfl⟩, k1, hr0, k2⟩
theorem RepF.rep1 {p : Pl} {w : World} {v : Value} {a : AV} (h : RepF p.M w v a) : Rep1 p w v a := by
  cases h
  case fn f => exact ⟨#[], #[], rfl, RepL.nil, RepL.nil⟩
  all_goals (constructor <;> assumption)
/-- the same for a slice and a bool -/
theorem CallsV.byval2 {P : Program} {f : FuncId} {args : List AV} {id st len sz : Nat} {c : Bool} {y : AV} {Bs : List Blk} (h : CallsV P f args [] fun a b => a = .tuple [.sl id st len sz, .bool c] ∧ b = Bs) (hy : val0 (fun _ => true) Bs 100 (.sl id st len sz) = some y) : CallsV P f args [] fun a b => a = .tuple [y, .bool c] ∧ b = [] := fun p w vals hH hv =>
  (h p w vals hH hv).mono fun e w' ⟨v, av, H', p', h1, ⟨ha, hb⟩, h3, h4, h5⟩ => by
    subst ha hb
    have hn : p.n = 0 := hH.n
    obtain ⟨k1, k2, _⟩ := keep_ok (keep := []) (H' := []) h5 h3 (by rw [hn]; exact keep_nil _)
    obtain ⟨vs, e1, e2, e3⟩ := h4
    refine ⟨v, _, _, p'.keep [], h1, ⟨rfl, rfl⟩, k1, ⟨vs, e1, e2, fun i i1 i2 => ?_⟩, k2⟩
    simp only [List.length_cons, List.length_nil] at i2
    rcases i with _ | _ | i
    · have h0 : Rep0 p' w' vs.toList[0] (.sl id st len sz) := e3 0 i1 (by simp)
      exact RepF.rep1 (val0_rep (p1 := p'.keep []) h3 (lends0 h3 (fun _ => true)) 100 _ y _ hy h0)
    · have h0 : RepF p'.M w' vs.toList[1] (.bool c) := e3 1 i1 (by simp)
      have h2 : ∃ z, vs.toList[1] = z ∧ RepF p'.M w' z (.bool c) := ⟨_, rfl, h0⟩
      obtain ⟨z, hz, hz2⟩ := h2
      show Rep1 (p'.keep []) w' vs.toList[1] (.bool c)
      rw [hz]
      cases hz2
      exact RepF.bool c
    · omega
theorem nil_slv0 (sz : Nat) (hs : 0 < sz) (p : Pl) (w : World) (v : Value) (h : Rep0 p w v .nilsl) : Rep0 p w v (.slv 0 sz []) := by
  have h1 : RepF p.M w v .nilsl := h
  cases h1
  exact RepF.slv none ⟨0, 0, none⟩ 0 0 sz [] (fun _ => undef) (Or.inr ⟨rfl, rfl⟩) (by simp) (Nat.le_refl _) (by simp [maxLen]) hs (fun i hi => absurd hi (by simp)) (fun i hi => absurd hi (by simp))
theorem agg_weak {cs cs' : List AV} (hl : cs'.length = cs.length) (hw : ∀ (i : Nat) (h : i < cs.length) (h' : i < cs'.length) (p : Pl) (w : World) (v : Value), Rep0 p w v cs[i] → Rep0 p w v cs'[i]) (p : Pl) (w : World) (v : Value) (h : Rep p w v (.agg cs)) : Rep p w v (.agg cs') := by
  obtain ⟨vs, e1, e2, e3⟩ := h
  exact ⟨vs, e1, e2.trans hl.symm, fun i h1 h2 => ⟨(e3 i h1 (by omega)).1, hw i (by omega) h2 _ _ _ (e3 i h1 (by omega)).2⟩⟩
theorem CallsV.weakRow {P : Program} {f : FuncId} {args : List AV} {H : List Blk} {x : AV} {t : TypeId} {xs : List AV} (xs' : List AV) (h : CallsV P f args H fun a b => a = x ∧ b = [.row t xs]) (hl : xs'.length = xs.length)
    (hw : ∀ (i : Nat) (h : i < xs.length) (h' : i < xs'.length) (p : Pl) (w : World) (v : Value), Rep0 p w v xs[i] → Rep0 p w v xs'[i]) : CallsV P f args H fun a b => a = x ∧ b = [.row t xs'] := fun p w vals hH hv =>
  (h p w vals hH hv).mono fun e w' ⟨v, av, H', p', h1, ⟨ha, hb⟩, h3, h4, h5⟩ => by
    subst ha hb
    refine ⟨v, _, _, p', h1, ⟨rfl, rfl⟩, ⟨h3.n, h3.out, h3.inj, fun id hid => ?_, h3.xs⟩, h4, h5⟩
    obtain rfl : id = 0 := by simp at hid; exact hid
    have hb := h3.blk 0 (by simp)
    simp only [List.getElem_cons_zero, BlkIs] at hb ⊢
    rcases hb with ⟨e1, e2⟩ | ⟨g, cur, e1, e2, e3, e4⟩
    · subst e2
      exact Or.inl ⟨e1, List.eq_nil_of_length_eq_zero hl⟩
    · exact Or.inr ⟨g, cur, e1, e2, by omega, fun i hi => by
        obtain ⟨v, g1, g2, g3⟩ := e4 i (by omega)
        exact ⟨v, g1, g2, hw i (by omega) hi _ _ _ g3⟩⟩
end
end Go.Proofs.Ytkdgnjoofhckeaa.V
/-
  A call that leaves an own row of opaque cells.
-/
namespace Go.Proofs.Ytkdgnjoofhckeaa.V
open Go Go.RowKit
set_option linter.unusedSimpArgs false
set_option linter.unusedVariables false
theorem map_ren0 {f : Nat → Option Nat} {xs : List AV} (h : ∀ x ∈ xs, plain0 x = true) : xs.map (ren0 f) = xs := by
  induction xs with
  | nil => rfl
  | cons x r ih =>
    rw [List.map_cons, ih fun y hy => h y (List.mem_cons_of_mem _ hy)]
    have hx := h x (List.mem_cons_self ..)
    rw [ren0_noid (by cases x <;> first | exact hx | (simp [plain0] at hx)) (by rintro a b c rfl; simp [plain0] at hx)]
section
variable {P : Program} {s s' : St} {Q : Exit → St → Prop} {c : Code} {ops : Array Oper} {l l' : List Nat}
theorem n_callo (f : FuncId) (as' : List AV) (x : AV) (t : TypeId) (xs : List AV) {i : Nat} (s' : St) (hc : (decide (i < ops.size) && (callable P f && (match calls (opAt ops i) with | some g => g == f | none => false))) = true) (ha : (callArgs (opAt ops i)).map s.ev = as') (hn : as'.all noid1 = true) (hp : ∀ y ∈ xs, plain0 y = true)
    (hs : St.put ⟨s.t, s.H ++ [.row t xs]⟩ (opAt ops i).dst (ren (shf s.H.length) x) = s') (h : CallsV P f as' [] fun a b => a = x ∧ b = [.row t xs]) (k : RunN P ops Q l s') : RunN P ops Q (i :: l) s := by
  subst hs
  refine n_callb f as' x [.row t xs] _ hc ha hn ?_ h k
  simp only [List.map_cons, List.map_nil, shiftB, map_ren0 hp]
end
end Go.Proofs.Ytkdgnjoofhckeaa.V
/-
  Results that are opaque own rows, as values.
-/
namespace Go.Proofs.Ytkdgnjoofhckeaa.V
open Go Go.RowKit
set_option linter.unusedSimpArgs false
set_option linter.unusedVariables false
/-- a result as a value: as it is, or weaker; an own row; an own row and a bool -/
inductive ByV : AV → List Blk → AV → Prop
  | same (av av' : AV) (h : noid1 av' = true) (hw : ∀ p w v, Rep p w v av → Rep p w v av') : ByV av [] av'
  | row (len sz : Nat) (t : TypeId) (xs : List AV) (hx : ∀ x ∈ xs, noid0 x = true ∧ x ≠ .junk) (hl : len * sz ≤ xs.length) : ByV (.sl 0 0 len sz) [.row t xs] (.slv len sz (xs.take (len * sz)))
  | rowT (len sz : Nat) (t : TypeId) (xs : List AV) (c : Bool) (hx : ∀ x ∈ xs, noid0 x = true ∧ x ≠ .junk) (hl : len * sz ≤ xs.length) : ByV (.tuple [.sl 0 0 len sz, .bool c]) [.row t xs] (.tuple [.slv len sz (xs.take (len * sz)), .bool c])
  | tup (len sz : Nat) (c : Bool) (hs : 0 < sz) : ByV (.tuple [.nilsl, .bool c]) [] (.tuple [.slv 0 sz [], .bool c])
theorem CallsV.byRow {P : Program} {f : FuncId} {args : List AV} {R : AV → List Blk → Prop} {R' : AV → Prop} (h : CallsV P f args [] R) (hw : ∀ av H', R av H' → ∃ av', ByV av H' av' ∧ R' av') : CallsV P f args [] fun a b => R' a ∧ b = [] := fun p w vals hH hv =>
  (h p w vals hH hv).mono fun e w' ⟨v, av, H', p', h1, h2, h3, h4, h5⟩ => by
    obtain ⟨av', hb, hr⟩ := hw av H' h2
    have hn : p.n = 0 := hH.n
    obtain ⟨k1, k2, _⟩ := keep_ok (keep := []) (H' := []) h5 h3 (by rw [hn]; exact keep_nil _)
    refine ⟨v, av', [], p'.keep [], h1, ⟨hr, rfl⟩, k1, ?_, k2⟩
    cases hb with
    | same _ _ hn' hw' => exact (hw' _ _ _ h4).noid (lends0 h3 (fun _ => true)).M hn'
    | row len sz t xs hx hl =>
      have := reads_sl (st := 0) (p1 := p'.keep []) rfl hx (by omega) h3 (lends0 h3 _) h4
      rwa [List.drop_zero] at this
    | rowT len sz t xs c hx hl =>
      obtain ⟨vs, e1, e2, e3⟩ := h4
      refine ⟨vs, e1, e2, fun i i1 i2 => ?_⟩
      simp only [List.length_cons, List.length_nil] at i2
      rcases i with _ | _ | i
      · have h0 : Rep p' w' vs.toList[0] (.sl 0 0 len sz) := e3 0 i1 (by simp)
        have := reads_sl (st := 0) (p1 := p'.keep []) rfl hx (by omega) h3 (lends0 h3 _) h0
        rw [List.drop_zero] at this
        exact this
      · have h0 : RepF p'.M w' vs.toList[1] (.bool c) := e3 1 i1 (by simp)
        have h2 : ∃ z, vs.toList[1] = z ∧ RepF p'.M w' z (.bool c) := ⟨_, rfl, h0⟩
        obtain ⟨z, hz, hz2⟩ := h2
        show Rep1 (p'.keep []) w' vs.toList[1] (.bool c)
        rw [hz]
        cases hz2
        exact RepF.bool c
      · omega
    | tup len sz c hs =>
      obtain ⟨vs, e1, e2, e3⟩ := h4
      refine ⟨vs, e1, e2, fun i i1 i2 => ?_⟩
      simp only [List.length_cons, List.length_nil] at i2
      rcases i with _ | _ | i
      · have h0 : Rep0 p' w' vs.toList[0] .nilsl := e3 0 i1 (by simp)
        have h0' : RepF p'.M w' vs.toList[0] .nilsl := h0
        have h1 : ∃ z, vs.toList[0] = z ∧ RepF p'.M w' z .nilsl := ⟨_, rfl, h0'⟩
        obtain ⟨z, hz, hz2⟩ := h1
        show Rep1 (p'.keep []) w' vs.toList[0] (.slv 0 sz [])
        rw [hz]
        cases hz2
        exact nil_slv0 sz hs (p'.keep []) w' _ RepF.nilsl
      · have h0 : RepF p'.M w' vs.toList[1] (.bool c) := e3 1 i1 (by simp)
        have h2 : ∃ z, vs.toList[1] = z ∧ RepF p'.M w' z (.bool c) := ⟨_, rfl, h0⟩
        obtain ⟨z, hz, hz2⟩ := h2
        show Rep1 (p'.keep []) w' vs.toList[1] (.bool c)
        rw [hz]
        cases hz2
        exact RepF.bool c
      · omega
section
variable {P : Program} {s s' : St} {Q : Exit → St → Prop} {ops : Array Oper} {l : List Nat}
theorem n_callH (f : FuncId) (as' : List AV) (x : AV) (H' : List Blk) {i : Nat} (s' : St) (hc : (decide (i < ops.size) && (callable P f && (match calls (opAt ops i) with | some g => g == f | none => false))) = true) (ha : (callArgs (opAt ops i)).map s.ev = as')
    (hs : St.put ⟨s.t, H'⟩ (opAt ops i).dst x = s') (h : CallsV P f as' s.H fun a b => a = x ∧ b = H') (k : RunN P ops Q l s') : RunN P ops Q (i :: l) s := by
  subst hs
  refine n_call f as' hc ha h ?_
  rintro a b ⟨rfl, rfl⟩
  exact k
theorem n_asH (H' : List Blk) (h : s.H = H') (k : RunN P ops Q l ⟨s.t, H'⟩) : RunN P ops Q l s := by subst h; exact k
theorem mid_drop (A c B : List AV) (k : Nat) (hk : k ≤ c.length) : (A ++ (c ++ B)).drop (A.length + k) = c.drop k ++ B := by
  rw [List.drop_append, List.drop_eq_nil_of_le (by omega), List.nil_append, Nat.add_sub_cancel_left, List.drop_append_of_le_length hk]
theorem mid_take (A c B : List AV) (k : Nat) (hk : k ≤ c.length) : (A ++ (c ++ B)).take (A.length + k) = A ++ c.take k := by
  rw [List.take_append, List.take_of_length_le (by omega), Nat.add_sub_cancel_left, List.take_append_of_le_length hk]
theorem op_guard {o : Oper} (h : (match o.guard with | none => true | _ => false) = true) : o.guard = none := by
  split at h
  · assumption
  · cases h
/-- a store within a row of opaque cells around known ones -/
theorem n_storeR (id k : Nat) (A c B cs c' : List AV) {t' : TypeId} {i : Nat} (t : TypeId) (x y : Operand) (off : Nat) (s' : St) (ho : (decide (i < ops.size) && (match (opAt ops i).guard with | none => true | _ => false)) = true) (hop : (opAt ops i).op = .store t x y)
    (hx : s.ev x = .ptr id off) (hb : s.H[id]? = some (.row t' (A ++ (c ++ B)))) (hoff : off = A.length + k) (hy : cellsAV s.H (s.ev y) = some cs) (hk : (knownT P t && sizeT P t == cs.length) = true) (hl : Nat.ble (k + cs.length) c.length = true) (hc : c.take k ++ cs ++ c.drop (k + cs.length) = c')
    (hs : St.put ⟨s.t, s.H.set id (.row t' (A ++ (c' ++ B)))⟩ (opAt ops i).dst .junk = s') (h : RunN P ops Q l s') : RunN P ops Q (i :: l) s := by
  subst hs hc hoff
  simp only [Bool.and_eq_true, decide_eq_true_eq, beq_iff_eq] at ho hk
  rw [Nat.ble_eq] at hl
  refine runN_op (opAt_get ho.1) (wanted_none (op_guard ho.2)) (op_store hop hx hb hy hk (by simp only [List.length_append]; omega) ?_)
  have e : (A ++ (c ++ B)).take (A.length + k) ++ cs ++ (A ++ (c ++ B)).drop (A.length + k + cs.length) = A ++ (c.take k ++ cs ++ c.drop (k + cs.length) ++ B) := by
    rw [mid_take A c B k (by omega), Nat.add_assoc, mid_drop A c B (k + cs.length) (by omega)]
    simp only [List.append_assoc]
  rw [e]
  exact h
/-- a load from a row of opaque cells around known ones -/
theorem n_loadR (id k : Nat) (A c B : List AV) {t' : TypeId} {i : Nat} (t : TypeId) (x : Operand) (off : Nat) (av : AV) (s' : St) (ho : (decide (i < ops.size) && (match (opAt ops i).guard with | none => true | _ => false)) = true) (hop : (opAt ops i).op = .load t x)
    (hx : s.ev x = .ptr id off) (hb : s.H[id]? = some (.row t' (A ++ (c ++ B)))) (hoff : off = A.length + k) (hk : knownT P t = true) (hl : Nat.ble (k + (bif isAggT P t then sizeT P t else 1)) c.length = true) (hav : loadE P t (c.drop k ++ B) = av)
    (hs : s.put (opAt ops i).dst av = s') (h : RunN P ops Q l s') : RunN P ops Q (i :: l) s := by
  subst hs hav hoff
  simp only [Bool.and_eq_true, decide_eq_true_eq] at ho
  rw [Nat.ble_eq] at hl
  have hca : cellsAt s.H (s.ev x) = some (c.drop k ++ B) := by
    rw [hx]
    show (match s.H[id]? with | some (.row _ xs) => some (xs.drop (A.length + k)) | _ => none) = _
    rw [hb]
    simp only [mid_drop A c B k (by omega)]
  have e : pureE P s.H s.ev (opAt ops i).op = (dec (knownT P t) ++ [(bif isAggT P t then sizeT P t else 1) ≤ (c.drop k ++ B).length], loadE P t (c.drop k ++ B)) := by
    rw [hop]
    show (match cellsAt s.H (s.ev x) with | some cs => _ | none => _) = _
    rw [hca]
  have hok : allP (pureE P s.H s.ev (opAt ops i).op).1 := by
    rw [e, allP_append, allP_dec]
    exact ⟨hk, by rw [allP_cons]; exact ⟨by simp only [List.length_append, List.length_drop]; omega, trivial⟩⟩
  refine runN_op (opAt_get ho.1) (wanted_none (op_guard ho.2)) ((pureE_ok rfl hok).opV ?_)
  rw [e]
  exact h
/-- the same under a guard -/
theorem n_loadRG (g g' : Bool) (id k : Nat) (A c B : List AV) {t' : TypeId} {i j : Nat} (t : TypeId) (off : Nat) (av : AV) (s' : St) (ho : i < ops.size) (hop : (opAt ops i).op = .load t (.tmp j)) (hg : guardE ops s (opAt ops i) = some g)
    (hx : s.ev (.tmp j) = .cnd g' (.ptr id off)) (hgg : g = true → g' = true) (hb : s.H[id]? = some (.row t' (A ++ (c ++ B)))) (hoff : off = A.length + k) (hk : knownT P t = true) (hl : Nat.ble (k + (bif isAggT P t then sizeT P t else 1)) c.length = true) (hav : loadE P t (c.drop k ++ B) = av) (hnc : notCnd av = true)
    (hs : s.put (opAt ops i).dst (.cnd g av) = s') (h : RunN P ops Q l s') : RunN P ops Q (i :: l) s := by
  subst hs hav hoff
  rw [Nat.ble_eq] at hl
  have hn : needs (opAt ops i).op = [.tmp j] := by rw [hop]; rfl
  have hev : evG s [.tmp j] (.tmp j) = .ptr id (A.length + k) := by
    simp only [evG, hasT, List.any_cons, List.any_nil, beq_self_eq_true, Bool.or_false, cond_true, hx, unw]
  have hca : cellsAt s.H (evG s [.tmp j] (.tmp j)) = some (c.drop k ++ B) := by
    rw [hev]
    show (match s.H[id]? with | some (.row _ xs) => some (xs.drop (A.length + k)) | _ => none) = _
    rw [hb]
    simp only [mid_drop A c B k (by omega)]
  have e : pureE P s.H (evG s [.tmp j]) (opAt ops i).op = (dec (knownT P t) ++ [(bif isAggT P t then sizeT P t else 1) ≤ (c.drop k ++ B).length], loadE P t (c.drop k ++ B)) := by
    rw [hop]
    show (match cellsAt s.H (evG s [.tmp j] (.tmp j)) with | some cs => _ | none => _) = _
    rw [hca]
  have eG : pureG P s (opAt ops i) g = (under g (there s.ev [.tmp j] ++ (dec (notCnd (loadE P t (c.drop k ++ B))) ++ (dec (knownT P t) ++ [(bif isAggT P t then sizeT P t else 1) ≤ (c.drop k ++ B).length]))), .cnd g (loadE P t (c.drop k ++ B))) := by
    unfold pureG
    rw [hn, e]
  refine runN_guard (opAt_get ho) hg ?_ ?_
  · rw [eG]
    have hu : ∀ L : List Prop, (g = true → allP L) → allP (under g L) := by
      intro L hL
      induction L with
      | nil => trivial
      | cons a r ih =>
        rw [under, allP_cons]
        exact ⟨fun hg => (allP_cons.1 (hL hg)).1, ih fun hg => (allP_cons.1 (hL hg)).2⟩
    refine hu _ fun hgt => ?_
    rw [allP_append, allP_append, allP_append, allP_dec, allP_dec]
    refine ⟨?_, hnc, hk, ?_⟩
    · simp only [there, hx, List.append_nil, allP]
      exact hgg hgt
    · rw [allP_cons]; exact ⟨by simp only [List.length_append, List.length_drop]; omega, trivial⟩
  · rw [eG]; exact h
/-- an operation whose guard is false -/
theorem n_skip {i : Nat} (s' : St) (ho : decide (i < ops.size) = true) (hw : wantG ops s (opAt ops i) = some false) (hs : s.put (opAt ops i).dst skipped = s') (h : RunN P ops Q l s') : RunN P ops Q (i :: l) s := by
  subst hs
  rw [decide_eq_true_eq] at ho
  exact runN_skipG (opAt_get ho) hw h
end
end Go.Proofs.Ytkdgnjoofhckeaa.V
/-
  Loads from rows of opaque cells among operations that draw their order.
-/
namespace Go.Proofs.Ytkdgnjoofhckeaa.V
open Go Go.RowKit
set_option linter.unusedSimpArgs false
set_option linter.unusedVariables false
section
variable {P : Program} {s : St} {Q : Exit → St → Prop} {ops : Array Oper} {qc : Bool} {n0 n : Nat} {listed : Array Bool}
theorem pureE_loadR (id k : Nat) (A c B : List AV) {t' : TypeId} (t : TypeId) (x : Operand) (off : Nat) {op : Op} (hop : op = .load t x)
    (hx : s.ev x = .ptr id off) (hb : s.H[id]? = some (.row t' (A ++ (c ++ B)))) (hoff : off = A.length + k) (hl : Nat.ble (k + (bif isAggT P t then sizeT P t else 1)) c.length = true) :
    pureE P s.H s.ev op = (dec (knownT P t) ++ [(bif isAggT P t then sizeT P t else 1) ≤ (c.drop k ++ B).length], loadE P t (c.drop k ++ B)) := by
  subst hoff
  rw [Nat.ble_eq] at hl
  have hca : cellsAt s.H (s.ev x) = some (c.drop k ++ B) := by
    rw [hx]
    show (match s.H[id]? with | some (.row _ xs) => some (xs.drop (A.length + k)) | _ => none) = _
    rw [hb]
    simp only [mid_drop A c B k (by omega)]
  rw [hop]
  show (match cellsAt s.H (s.ev x) with | some cs => _ | none => _) = _
  rw [hca]
theorem t_loadR (i : Nat) (id k : Nat) (A c B : List AV) {t' : TypeId} (t : TypeId) (x : Operand) (off : Nat) (av : AV) (m : Nat) (listed' : Array Bool) (s' : St) (hn : m + 1 = n) (hc : (decide (i < ops.size) && (Region.noSelect ops && (Region.free .any ops listed i && (Region.ready .any ops listed).contains i))) = true) (hf : firstB ops (quietB qc ops) listed i = true) (hw : wantG ops s (opAt ops i) = some true) (hop : (opAt ops i).op = .load t x)
    (hx : s.ev x = .ptr id off) (hb : s.H[id]? = some (.row t' (A ++ (c ++ B)))) (hoff : off = A.length + k) (hk : knownT P t = true) (hl : Nat.ble (k + (bif isAggT P t then sizeT P t else 1)) c.length = true) (hav : loadE P t (c.drop k ++ B) = av)
    (hs : s.put (opAt ops i).dst av = s') (hli : listed.setIfInBounds i true = listed') (h : RunT P ops Q (quietB qc ops) n0 m listed' s') : RunT P ops Q (quietB qc ops) n0 n listed s := by
  have e := pureE_loadR (P := P) id k A c B t x off hop hx hb hoff hl
  refine t_take i _ m listed' s' hn hc hf hw rfl (by rw [e]; show s.put _ (loadE P t (c.drop k ++ B)) = s'; rw [hav]; exact hs) hli ?_ h
  rw [e, allP_append, allP_dec]
  rw [Nat.ble_eq] at hl
  exact ⟨hk, by rw [allP_cons]; exact ⟨by simp only [List.length_append, List.length_drop]; omega, trivial⟩⟩
/-- a call by its contract, its first argument being an own row of plain cells, that is lent, and the others being lent as well -/
theorem n_lendv {l : List Nat} (f : FuncId) (id len sz : Nat) (t : TypeId) (xs rest rest' : List AV) (as0 av : AV) (H1 : List Blk) {i : Nat} (s' : St) (hc : (decide (i < ops.size) && ((match (opAt ops i).guard with | none => true | _ => false) && callable P f)) = true)
    (ha : callOf s.ev (opAt ops i).op = some (f, .sl id 0 len sz :: rest)) (hb : s.H[id]? = some (.row t xs)) (hx : ∀ x ∈ xs, noid0 x = true ∧ x ≠ .junk) (hl : len * sz ≤ xs.length) (hr : valA (fun _ => true) s.H 100 rest = some rest')
    (has : as0 = .slv len sz (xs.take (len * sz))) (h : CallsV P f (as0 :: rest') [] fun a b => a = av ∧ b = H1) (hn : (novR av && H1.all novB) = true)
    (hs : St.put ⟨s.t, s.H ++ H1.map (shiftB s.H.length)⟩ (opAt ops i).dst (ren (shf s.H.length) av) = s') (k : RunN P ops Q l s') : RunN P ops Q (i :: l) s := by
  subst hs has
  simp only [Bool.and_eq_true, decide_eq_true_eq] at hc
  refine runN_op (opAt_get hc.1) (wanted_none (op_guard hc.2.1)) ?_
  refine OpB.opV (op_callw (callOf_run ha hc.2.2) fun p w vals hH hva => ?_)
  refine (CallsV.lendR (args := .sl id 0 len sz :: rest) h hn hH ?_).mono ?_
  · obtain ⟨vs, hvs⟩ : ∃ vs, vs = vals.toList := ⟨_, rfl⟩
    rw [← hvs] at hva ⊢
    cases vs with
    | nil => exact absurd hva.1 (by simp)
    | cons v vs =>
      have h0 := hva.2 0 (by simp) (by simp)
      have h1 := reads_sl (p1 := ⟨0, fun _ => none, p.x⟩) hb hx (by omega) hH (lends0 hH _) h0
      rw [List.drop_zero] at h1
      exact RepL.cons h1 (valA_rep hH (lends0 hH (fun _ => true)) 100 hr ⟨by simpa using hva.1, fun j a b => by
        have h2 := hva.2 (j + 1) (by simpa using a) (by simpa using b)
        simpa only [List.getElem_cons_succ] using h2⟩)
  · rintro e w' ⟨v, p', h1, h2, h3, h4, h5⟩
    exact ⟨v, _, _, p', h1, k, h2, h3, h4, h5⟩
end
section
variable {P : Program} {s : St} {o : Oper}
theorem slice3_any {t e : TypeId} {x hi mx : Operand} {lo : Option Operand} {id st len sz : Nat} {t' : TypeId} {xs : List AV} {l h' m : Int} {kh km : IntKind} (ho : o.op = .slice t x lo (some hi) (some mx)) (ht : P.underlying t = some (.slice e)) (hk : knownT P e = true) (hsz : sizeT P e = sz)
    (hx : s.ev x = .sl id st len sz) (hb : s.H[id]? = some (.row t' xs)) (hl : loE (lo.map s.ev) = some l) (hh : s.ev hi = .int kh h') (hm : s.ev mx = .int km m) (hbd : 0 ≤ l ∧ l ≤ h' ∧ h' ≤ m ∧ m ≤ len)
    {p : Pl} {w : World} {a : Act} (hR : Rst p s a w) : ∃ v, Rep p w v (.sl id (st + l.toNat * sz) (h'.toNat - l.toNat) sz) ∧ ∀ w', (execOp a.eval o).run P w' = .ok (.value v) w' := by
  have hv := hR.ev x
  rw [hx] at hv
  obtain ⟨q, hq⟩ := hR.heap.live hb
  obtain ⟨ad, cap, hve, hcap, hcm, hpos, hno, hc⟩ := hv.2 q hq
  have eh := rep_int (hh ▸ hR.ev hi)
  have em := rep_int (hm ▸ hR.ev mx)
  have hb1 : ∀ w, (Instr.sliceBound (.int km m) cap .slice3Acap).run P w = .ok m.toNat w := fun w => by
    have : 0 ≤ m ∧ m ≤ cap := by omega
    simp [Instr.sliceBound, asIntOf, this]
  have hb2 : ∀ w, (Instr.sliceBound (.int kh h') m.toNat .slice3B).run P w = .ok h'.toNat w := fun w => by
    have h1 : 0 ≤ h' := by omega
    have h2 : h' ≤ max m 0 := by omega
    simp [Instr.sliceBound, asIntOf, h1, h2]
  have hbs : ∀ w, (Instr.sliceBounds true len cap (lo.map a.eval) (some (.int kh h')) (some (.int km m))).run P w = .ok (l.toNat, h'.toNat, m.toNat) w := fun w => by
    cases lo with
    | none =>
      simp only [Option.map_none, loE, Option.some.injEq] at hl
      subst hl
      simp [Instr.sliceBounds, hb1, hb2]
    | some lo =>
      simp only [Option.map_some] at hl
      obtain ⟨kl, hlo⟩ : ∃ k, s.ev lo = .int k l := by
        cases hz : s.ev lo <;> rw [hz] at hl <;> simp [loE] at hl
        subst hl; exact ⟨_, rfl⟩
      have el := rep_int (hlo ▸ hR.ev lo)
      have hb3 : ∀ w, (Instr.sliceBound (.int kl l) h'.toNat .slice3C).run P w = .ok l.toNat w := fun w => by
        have h1 : 0 ≤ l := by omega
        have h2 : l ≤ max h' 0 := by omega
        simp [Instr.sliceBound, asIntOf, h1, h2]
      simp [Instr.sliceBounds, hb1, hb2, hb3, el]
  refine ⟨.slice (if m.toNat = l.toNat then ad else ad.map (·.add (l.toNat * sizeT P e))) (h'.toNat - l.toNat) (m.toNat - l.toNat), ⟨hv.1, fun q' hq' => ?_⟩, fun w' => ?_⟩
  · rw [hq] at hq'
    cases hq'
    refine ⟨_, _, rfl, by omega, by omega, hpos, fun hn0 => ?_, ?_⟩
    · by_cases hml : m.toNat = l.toNat
      · omega
      · rw [if_neg hml] at hn0
        cases ad with
        | none => have := hno rfl; omega
        | some ad => simp at hn0
    · by_cases hml : m.toNat = l.toNat
      · left; omega
      · rcases hc with hc | ⟨g, rfl, rfl, hrs⟩
        · omega
        · right
          refine ⟨g, rfl, ?_, ?_⟩
          · rw [if_neg hml, Option.map_some, add_none _ rfl, hsz]
          · have h1 : (m.toNat - l.toNat) * sz + l.toNat * sz = m.toNat * sz := by rw [← Nat.add_mul]; congr 1; omega
            have h2 : m.toNat * sz ≤ cap * sz := Nat.mul_le_mul_right _ (by omega)
            omega
  · unfold execOp
    rw [ho]
    simp only [Instr.sliceAt, Option.map_some, eh, em, hve, Sem.run_bind, Sem.run_pure, Result.andThen_ok, run_underlying ht, Instr.slice, hbs, run_sizeT hk]
end
section
variable {P : Program} {s : St} {Q : Exit → St → Prop} {ops : Array Oper} {qc : Bool} {n0 n : Nat} {listed : Array Bool}
/-- a slice with three bounds, taken first -/
theorem t_slice3 (i m : Nat) (listed' : Array Bool) (s' : St) {t e : TypeId} {x hi mx : Operand} {lo : Option Operand} {id st len sz : Nat} {t' : TypeId} {xs : List AV} {l h' mm : Int} {kh km : IntKind} (hn : m + 1 = n) (hc : (decide (i < ops.size) && (Region.noSelect ops && (Region.free .any ops listed i && (Region.ready .any ops listed).contains i))) = true) (hw : wantG ops s (opAt ops i) = some true)
    (ho : (opAt ops i).op = .slice t x lo (some hi) (some mx)) (ht : P.underlying t = some (.slice e)) (hk : knownT P e = true) (hsz : sizeT P e = sz) (hx : s.ev x = .sl id st len sz) (hb : s.H[id]? = some (.row t' xs)) (hl : loE (lo.map s.ev) = some l) (hh : s.ev hi = .int kh h') (hm : s.ev mx = .int km mm) (hbd : 0 ≤ l ∧ l ≤ h' ∧ h' ≤ mm ∧ mm ≤ len)
    (hs : s.put (opAt ops i).dst (.sl id (st + l.toNat * sz) (h'.toNat - l.toNat) sz) = s') (hli : listed.setIfInBounds i true = listed') (h : RunT P ops Q (quietB qc ops) n0 m listed' s') : RunT P ops Q (quietB qc ops) n0 n listed s := fun p0 w0 p w a K hn0 hsz0 hcl hS hR hQ => by
  subst hn hs hli
  rw [Bool.and_eq_true, decide_eq_true_eq] at hc
  obtain ⟨hc1, hc2⟩ := hc
  simp only [Bool.and_eq_true] at hc2
  obtain ⟨v, hv, hrun⟩ := slice3_any ho ht hk hsz hx hb hl hh hm hbd hR
  have hr : i ∈ Region.ready .any ops listed := by simpa using hc2.2.2
  exact wpAnyT_first (S := fun _ => True) (opAt_get hc1) (Region.noSelect_spec hc2.1) (fun _ _ _ h => (by cases h.1)) m listed a w hsz0 hcl (Region.free_spec (opAt_get hc1) hc2.2.1)
    (fun _ _ _ _ _ _ _ _ _ => trivial) hr (Or.inl ⟨wantG_ok hR hw, fun w' _ => hrun w'⟩) trivial
    (h p0 w0 p w _ K hn0 (by simpa using hsz0) (closed_set hcl hr) hS (hR.put _ hv) hQ)
end
end Go.Proofs.Ytkdgnjoofhckeaa.V
namespace Go.Proofs.Ytkdgnjoofhckeaa.V
open Go Go.RowKit
section
variable {P : Program} {s : St} {Q : Exit → St → Prop} {ops : Array Oper} {qc : Bool} {n0 m : Nat} {listed : Array Bool}
/-- an operation whose guard is false -/
theorem g_skip {i : Nat} (listed' : Array Bool) (s' : St) (hb : decide (i < ops.size) = true) (hw : wantG ops s (opAt ops i) = some false) (hs : s.put (opAt ops i).dst skipped = s') (hl : listed.setIfInBounds i true = listed') (k : RunT P ops Q (quietB qc ops) n0 m listed' s') : GoT qc P Q ops n0 m listed s i := by
  subst hs hl
  rw [decide_eq_true_eq] at hb
  exact ⟨_, opAt_get hb, Or.inr ⟨hw, k⟩⟩
/-- a call by its contract, own blocks being lent as values -/
theorem g_lendc {i : Nat} (f : FuncId) (as1 as' : List AV) (av : AV) (H1 : List Blk) (listed' : Array Bool) (s' : St) (hb : (decide (i < ops.size) && callable P f) = true) (hw : wantG ops s (opAt ops i) = some true) (ha : callOf s.ev (opAt ops i).op = some (f, as1)) (hva : valA (fun _ => true) s.H 100 as1 = some as')
    (h : CallsV P f as' [] fun a b => a = av ∧ b = H1) (hn : (novR av && H1.all novB) = true) (hs : St.put ⟨s.t, s.H ++ H1.map (shiftB s.H.length)⟩ (opAt ops i).dst (ren (shf s.H.length) av) = s') (hl : listed.setIfInBounds i true = listed') (k : RunT P ops Q (quietB qc ops) n0 m listed' s') : GoT qc P Q ops n0 m listed s i := by
  subst hs hl
  rw [Bool.and_eq_true, decide_eq_true_eq] at hb
  refine ⟨_, opAt_get hb.1, Or.inl ⟨hw, Or.inr (op_callw (callOf_run ha hb.2) fun p w vals hH hv => ?_)⟩⟩
  refine (h.lend hn hH hv hva).mono ?_
  rintro e w' ⟨v, p', h1, h2, h3, h4, h5⟩
  exact ⟨v, _, _, p', h1, k, h2, h3, h4, h5⟩
end
end Go.Proofs.Ytkdgnjoofhckeaa.V
/-
  An argument of any plain type (numbers, strings, bools, slices and structs of them), as a value.
-/
namespace Go.Proofs.Ytkdgnjoofhckeaa.V
open Go Go.RowKit
set_option linter.unusedSimpArgs false
set_option linter.unusedVariables false

/-- what is known of a plain value -/
def Sh (P : Program) : Nat → TypeId → AV → Prop
  | 0, _, _ => False
  | n + 1, t, x => match P.underlying t with
    | some (.int k) => ∃ z, x = .int k z ∧ (Lit.int k z).wf = true
    | some .string => ∃ s : ByteArray, x = .str s ∧ s.size ≤ maxLen
    | some .bool => ∃ b, x = .bool b
    | some (.slice e) => ∃ ts, leafs P 8 e = some ts ∧ ∃ len cells, x = .slv len ts.length cells ∧ cells.length = len * ts.length ∧ len ≤ maxLen ∧
        ∀ i, i < len → ∀ j (hj : j < ts.length), Sh P n ts[j] (cells.getD (i * ts.length + j) .junk)
    | _ => False
def plainT (P : Program) : Nat → TypeId → Bool
  | 0, _ => false
  | n + 1, t => match P.underlying t with
    | some (.int _) | some .string | some .bool => true
    | some (.slice e) => match leafs P 8 e with
      | some ts => (P.cellsOf e).beq ts.length && (Nat.blt 0 ts.length && ts.all (plainT P n))
      | none => false
    | _ => false
theorem good_rep {P : Program} {w : World} {M : Nat → Prop} (hM : ∀ g, ¬ M g) : ∀ (n : Nat) (t : TypeId) (v : Value), plainT P n t = true → Good P w n t v → ∃ x, RepF M w v x ∧ Sh P n t x ∧ v.oneCell' = true
  | 0, t, v, h, _ => by simp [plainT] at h
  | n + 1, t, v, h, hg => by
    unfold plainT at h
    unfold Good at hg
    unfold Sh
    split at h
    · rename_i k ht
      simp only [ht] at hg ⊢
      obtain ⟨z, rfl, hz⟩ := hg
      exact ⟨.int k z, .int k z, ⟨z, rfl, hz⟩, rfl⟩
    · rename_i ht
      simp only [ht] at hg ⊢
      obtain ⟨s, rfl, hs⟩ := hg
      exact ⟨.str s, .str s, ⟨s, rfl, hs⟩, rfl⟩
    · rename_i ht
      simp only [ht] at hg ⊢
      obtain ⟨b, rfl⟩ := hg
      exact ⟨.bool b, .bool b, ⟨b, rfl⟩, rfl⟩
    · rename_i e ht
      split at h
      · rename_i ts hts
        simp only [Bool.and_eq_true, Nat.blt_eq, List.all_eq_true] at h
        obtain ⟨h1, h2, h3⟩ := h
        have h1 := Nat.eq_of_beq_eq_true h1
        simp only [ht] at hg ⊢
        obtain ⟨a, len, cap, rfl, hlc, hcm, hno, hall⟩ := hg
        obtain ⟨vs, hvl, hrow, hcell⟩ := hall ts hts h1 h2
        have hk : ∀ k, k < vs.length → k / ts.length < len ∧ k % ts.length < ts.length ∧ k / ts.length * ts.length + k % ts.length = k := fun k hk => by
          refine ⟨?_, Nat.mod_lt _ h2, by rw [Nat.mul_comm]; exact Nat.div_add_mod _ _⟩
          rw [hvl] at hk
          exact (Nat.div_lt_iff_lt_mul h2).2 hk
        obtain ⟨cells, hcl, hcs⟩ := exists_list (Pr := fun k x => ∀ (hkl : k < vs.length), RepF M w vs[k] x ∧ Sh P n (ts[k % ts.length]'(Nat.mod_lt _ h2)) x ∧ (vs[k]).oneCell' = true) vs.length (fun k hkl => by
          obtain ⟨a1, a2, a3⟩ := hk k hkl
          have hg := hcell (k / ts.length) a1 (k % ts.length) a2 (by omega)
          simp only [a3] at hg
          obtain ⟨x, b1, b2, b3⟩ := good_rep hM n _ _ (h3 _ (List.getElem_mem a2)) hg
          exact ⟨x, fun _ => ⟨b1, b2, b3⟩⟩)
        refine ⟨.slv len ts.length cells, ?_, ⟨ts, hts, len, cells, rfl, by rw [hcl, hvl], by omega, fun i hi j hj => ?_⟩, rfl⟩
        · have hget : ∀ i (hi : i < vs.length), vs.getD i undef = vs[i] := fun i hi => by simp [List.getD_eq_getElem?_getD, hi]
          rcases hrow with h0 | ⟨b, off, rfl, hb, hc⟩
          · have hl0 : len = 0 := by
              rcases Nat.eq_zero_or_pos len with h | h
              · exact h
              · have := Nat.mul_pos h h2; rw [← hvl, h0] at this; simp at this
            have hc0 : cells = [] := List.eq_nil_of_length_eq_zero (by rw [hcl, h0]; rfl)
            subst hl0 hc0
            have ho : a = some (a.getD ⟨0, 0, none⟩) ∨ (a = none ∧ cap = 0) := by
              cases a with
              | none => exact Or.inr ⟨rfl, hno rfl⟩
              | some a => exact Or.inl rfl
            exact .slv a _ 0 cap _ [] (fun _ => undef) ho (by simp) hlc hcm h2 (fun i hi => absurd hi (by simp)) (fun i hi => absurd hi (by simp))
          · refine .slv _ ⟨b, off, none⟩ len cap _ cells (fun i => vs.getD i undef) (Or.inl rfl) (by rw [hcl, hvl]) hlc hcm h2 (fun i hi => ?_) (fun i hi => ?_)
            · obtain ⟨_, _, c3⟩ := hcs i hi (by omega)
              rw [hget i (by rw [← hcl]; exact hi)]
              exact ⟨rfl, hb, hM _, hc i (by omega), c3⟩
            · obtain ⟨c1, _, _⟩ := hcs i hi (by omega)
              rw [hget i (by rw [← hcl]; exact hi), getD_get _ _ hi]
              exact c1
        · have hlt : i * ts.length + j < vs.length := by
            rw [hvl]
            calc i * ts.length + j < i * ts.length + ts.length := by omega
              _ = (i + 1) * ts.length := by rw [Nat.add_mul, Nat.one_mul]
              _ ≤ len * ts.length := Nat.mul_le_mul_right _ (by omega)
          obtain ⟨_, c2, _⟩ := hcs (i * ts.length + j) (by omega) hlt
          rw [getD_get _ _ (by omega)]
          have hmod : (i * ts.length + j) % ts.length = j := by rw [Nat.mul_comm, Nat.mul_add_mod, Nat.mod_eq_of_lt hj]
          simp only [hmod] at c2
          exact c2
      · cases h
    · cases h
/-- an argument that is no struct and no array -/
theorem arg_rep {P : Program} {w : World} {t : TypeId} {v : Value} (h : Arg P w t v) (hp : plainT P 8 t = true) : ∃ x, Rep ⟨0, fun _ => none, fun _ => False⟩ w v x ∧ Sh P 8 t x := by
  have hM : ∀ g, ¬ (⟨0, fun _ => none, fun _ => False⟩ : Pl).M g := fun g hg => hg.elim (fun ⟨id, hid⟩ => by cases hid) id
  have hg : Good P w 8 t v := by
    unfold Arg at h
    unfold plainT at hp
    split at h
    · rename_i ht; rw [ht] at hp; cases hp
    · rename_i ht; rw [ht] at hp; cases hp
    · exact h
  obtain ⟨x, h1, h2, _⟩ := good_rep hM 8 t v hp hg
  exact ⟨x, h1.rep, h2⟩
/-- an argument that is a struct or an array -/
theorem arg_agg {P : Program} {w : World} {t : TypeId} {v : Value} {ts : List TypeId} (h : Arg P w t v) (ht : isAggT P t = true) (hl : leafs P 8 t = some ts) (hp : (ts.all (plainT P 8)) = true) :
    ∃ xs, Rep ⟨0, fun _ => none, fun _ => False⟩ w v (.agg xs) ∧ xs.length = ts.length ∧ ∀ i (hi : i < ts.length), Sh P 8 ts[i] (xs.getD i .junk) := by
  have hM : ∀ g, ¬ (⟨0, fun _ => none, fun _ => False⟩ : Pl).M g := fun g hg => hg.elim (fun ⟨id, hid⟩ => by cases hid) id
  have hc : ∃ cs : List Value, v = .agg cs.toArray ∧ ∀ ts, leafs P 8 t = some ts → cs.length = ts.length ∧ ∀ i (h : i < ts.length) (h' : i < cs.length), Good P w 8 ts[i] cs[i] := by
    unfold Arg at h
    unfold isAggT at ht
    split at h
    · exact h
    · exact h
    · rename_i h1 h2
      split at ht
      · rename_i fs hu; exact absurd hu (h1 _)
      · rename_i n e hu; exact absurd hu (h2 _ _)
      · cases ht
  obtain ⟨cs, rfl, hcs⟩ := hc
  obtain ⟨h1, h2⟩ := hcs ts hl
  obtain ⟨xs, hx1, hx2⟩ := exists_list (Pr := fun k x => ∀ (hk : k < ts.length) (hk' : k < cs.length), RepF (⟨0, fun _ => none, fun _ => False⟩ : Pl).M w cs[k] x ∧ Sh P 8 ts[k] x ∧ (cs[k]).oneCell' = true) cs.length (fun k hk => by
    obtain ⟨x, b⟩ := good_rep hM 8 _ _ (List.all_eq_true.1 hp _ (List.getElem_mem (show k < ts.length by omega))) (h2 k (by omega) hk)
    exact ⟨x, fun _ _ => b⟩)
  refine ⟨xs, ⟨_, rfl, by simpa using hx1.symm, fun i a b => ?_⟩, by omega, fun i hi => ?_⟩
  · obtain ⟨c1, _, c3⟩ := hx2 i b (by omega) (by omega)
    exact ⟨by simpa using c3, by simpa using c1.rep0⟩
  · rw [getD_get _ _ (by omega)]
    exact (hx2 i (by omega) hi (by omega)).2.1
end Go.Proofs.Ytkdgnjoofhckeaa.V
