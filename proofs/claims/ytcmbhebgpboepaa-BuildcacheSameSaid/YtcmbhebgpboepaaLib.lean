/-
  General facts on rows of cells, bytes and strings, over any program: what the contracts of this seat lean on.
-/
import Derived.WalkKit
import Derived.ProofKit
import Derived.OpenShut
import Derived.ShutString
import Derived.ChangeOld
import Derived.Below
import Derived.LoopTactic
import Derived.WalkLawsBesides
import Derived.WalkSpells
import Derived.Lib.ConvBytes
import Derived.Lib.Hide
import Derived.Laws.BytesArg
import Derived.Laws.OwnMore
import Derived.Deep.CutBlock
import Derived.Deep.DeepCutAuto
import Derived.Test.YtcmbhebgpboepaaRows
namespace Go.Proofs.Ytcmbhebgpboepaa
open Go.ChangeShapes Go.WideShapes Go.ChangeAt Go.RowKit
set_option linter.unusedSimpArgs false
set_option linter.unusedVariables false

theorem ret_int {k : IntKind} {a b : Int} (h : a = b) : Ending.returned (.int k a) = .returned (.int k b) := by rw [h]
theorem ret_bool {a b : Bool} (h : a = b) : Ending.returned (.bool a) = .returned (.bool b) := by rw [h]

theorem cell_lt {w : World} {a : Addr} {v : Value} (h : w.cell? a = some v) : a.block < w.heap.size := by
  rcases Nat.lt_or_ge a.block w.heap.size with h1 | h1
  · exact h1
  · simp [World.cell?, Array.getElem?_eq_none h1] at h
theorem add_plain (b off i : Nat) : (⟨b, off, none⟩ : Addr).add i = ⟨b, off + i, none⟩ := by unfold Addr.add; split <;> simp_all

/-- a row of cells that reads as vs (one value a cell) -/
def RowV (w : World) (a : Option Addr) (vs : List Value) : Prop :=
  vs = [] ∨ ∃ b off, a = some ⟨b, off, none⟩ ∧ b < w.heap.size ∧ ∀ i (h : i < vs.length), w.cell? ⟨b, off + i, none⟩ = some vs[i]
theorem RowV.nil (w : World) (a : Option Addr) : RowV w a [] := Or.inl rfl
theorem RowV.below {w w' : World} {a : Option Addr} {vs : List Value} (h : RowV w a vs) (hb : Below w.heap.size w w') : RowV w' a vs := by
  rcases h with h0 | ⟨b, off, h1, h2, h3⟩
  · exact Or.inl h0
  · exact Or.inr ⟨b, off, h1, Nat.lt_of_lt_of_le h2 hb.size, fun i hi => (hb.cell (p := ⟨b, off + i, none⟩) h2).trans (h3 i hi)⟩
/-- the same where only blocks from some number on have turned, and the row lies below it -/
theorem RowV.addr {w : World} {a : Option Addr} {vs : List Value} (h : RowV w a vs) (hl : 0 < vs.length) :
    ∃ b off, a = some ⟨b, off, none⟩ ∧ b < w.heap.size ∧ ∀ i (h : i < vs.length), w.cell? ⟨b, off + i, none⟩ = some vs[i] := by
  rcases h with h0 | h1
  · subst h0; simp at hl
  · exact h1
theorem RowV.of_owns {w : World} {base : Nat} {e : TypeId} {size : Nat} {v : Value} {n : Nat} {xs : List Value} (h : w.ownsRow base e size v n xs) :
    ∃ a cap, v = .slice a n cap ∧ RowV w a xs := by
  obtain ⟨h1, h2⟩ := h
  rcases h2 with ⟨rfl, rfl⟩ | ⟨g, cap, cur, rfl, hb, hg, hn, hc, hs, ht⟩
  · exact ⟨none, 0, rfl, Or.inl (List.eq_nil_of_length_eq_zero (by rw [h1]; omega))⟩
  · refine ⟨some ⟨g, 0, none⟩, cap, rfl, Or.inr ⟨g, 0, rfl, (Array.getElem?_eq_some_iff.1 hg).1, fun i hi => ?_⟩⟩
    rw [Nat.zero_add, cell_of_row w g i cur e (0, 0) hg]
    subst ht
    rw [List.getElem_take, Array.getElem_toList, Array.getElem?_eq_getElem]

theorem RowV.new (w : World) (cs : Array Value) (e : TypeId) : RowV (w.alloc (.cells cs e)) (some ⟨w.heap.size, 0, none⟩) cs.toList := by
  refine Or.inr ⟨_, 0, rfl, by simp, fun i hi => ?_⟩
  rw [Nat.zero_add, cell_of_row _ w.heap.size i cs e (0, 0) (heap_alloc_new w _)]
  simp at hi
  simp [hi]
theorem cell_new1 (w : World) (v : Value) (e : TypeId) (n : Nat) (h : w.heap.size = n) : (w.alloc (.cells #[v] e)).cell? ⟨n, 0, none⟩ = some v := by
  subst h
  rw [cell_of_row _ w.heap.size 0 #[v] e (0, 0) (heap_alloc_new w _)]; rfl
theorem below_alloc (w : World) (o : Obj) : Below w.heap.size w (w.alloc o) := (Below.refl _ _).alloc (Nat.le_refl _) _
/-- an append onto nil, or onto a row from base on -/
theorem below_grown {w w' : World} {base : Nat} {e : TypeId} {size : Nat} {v : Value} {n : Nat} {xs : List Value} (h : w.ownsRow base e size v n xs) (hb : base ≤ w.heap.size) (hg : w.grownBy w' v.ownBlock) : Below base w w' :=
  (Below.refl _ _).grown hg hb (fun k hk => (h.lt k hk).1)
theorem belowT {a b c : World} (h : Below a.heap.size a b) (k : Below b.heap.size b c) : Below a.heap.size a c := h.trans (k.mono h.size)
theorem keep1 {w w' : World} {p : Addr} {u : Value} (h1 : w.cell? p = some u) (hB : Below w.heap.size w w') : w'.cell? p = some u ∧ Below w.heap.size w w' := ⟨(hB.cell (cell_lt h1)).trans h1, hB⟩
theorem keep2 {w w' : World} {p q : Addr} {u v : Value} (h1 : w.cell? p = some u) (h2 : w.cell? q = some v) (hB : Below w.heap.size w w') : w'.cell? p = some u ∧ w'.cell? q = some v ∧ Below w.heap.size w w' := ⟨(hB.cell (cell_lt h1)).trans h1, (hB.cell (cell_lt h2)).trans h2, hB⟩
theorem keep22 {w w' : World} {p q r s : Addr} {u v x y : Value} (h1 : w.cell? p = some u) (h2 : w.cell? q = some v) (h3 : w'.cell? r = some x) (h4 : w'.cell? s = some y) (hB : Below w.heap.size w w') : w'.cell? p = some u ∧ w'.cell? q = some v ∧ w'.cell? r = some x ∧ w'.cell? s = some y ∧ Below w.heap.size w w' :=
  ⟨(hB.cell (cell_lt h1)).trans h1, (hB.cell (cell_lt h2)).trans h2, h3, h4, hB⟩
theorem keep3 {w w' : World} {p q r : Addr} {u v x : Value} (h1 : w.cell? p = some u) (h2 : w.cell? q = some v) (h3 : w.cell? r = some x) (hB : Below w.heap.size w w') : w'.cell? p = some u ∧ w'.cell? q = some v ∧ w'.cell? r = some x ∧ Below w.heap.size w w' :=
  ⟨(hB.cell (cell_lt h1)).trans h1, (hB.cell (cell_lt h2)).trans h2, (hB.cell (cell_lt h3)).trans h3, hB⟩
theorem keep4 {w w' : World} {p q r s : Addr} {u v x y : Value} (h1 : w.cell? p = some u) (h2 : w.cell? q = some v) (h3 : w.cell? r = some x) (h4 : w.cell? s = some y) (hB : Below w.heap.size w w') : w'.cell? p = some u ∧ w'.cell? q = some v ∧ w'.cell? r = some x ∧ w'.cell? s = some y ∧ Below w.heap.size w w' :=
  ⟨(hB.cell (cell_lt h1)).trans h1, (hB.cell (cell_lt h2)).trans h2, (hB.cell (cell_lt h3)).trans h3, (hB.cell (cell_lt h4)).trans h4, hB⟩
/-- append's element type, in one bundle -/
structure ElemT (P : Program) (t e : TypeId) (z : Value) (size bytes : Nat) : Prop where
  slice : P.underlying t = some (.slice e)
  info : ∃ i, P.info? e = some i ∧ i.zero = some z ∧ i.size = size ∧ i.bytes = bytes
  zsize : z.cells.size = size
  pos : 0 < size

/-- 'append(v, x...)', v the call's own (or nil), x any row that reads as news -/
theorem append_row {P : Program} {t e : TypeId} {z : Value} {size bytes : Nat} (E : ElemT P t e z size bytes) (w : World) (base ty : Nat) (v : Value) (n : Nat) (xs : List Value)
    (hown : w.ownsRow base e size v n xs) (a : Option Addr) (m c : Nat) (news : List Value) (hnil : a = none → c = 0) (hrow : RowV w a news) (hl : news.length = m * size) (h1 : ∀ u ∈ news, u.oneCell' = true)
    (h63 : n + m ≤ maxLen) (hbytes : (n + m) * bytes ≤ 140737488355328) (hbase : base ≤ w.heap.size) :
    ∃ v' w', (Builtin.append_ #[t, t] ty #[v, .slice a m c]).run P w = .ok v' w' ∧ w'.ownsRow base e size v' (n + m) (xs ++ news) ∧ w.grownBy w' v.ownBlock := by
  obtain ⟨i, hi, hz, hs, hb⟩ := E.info
  cases a with
  | none =>
    have hn : news = [] := by
      rcases hrow with h0 | ⟨b, off, h2, _⟩
      · exact h0
      · cases h2
    subst hn
    have hm : m = 0 := by
      have := E.pos
      rcases Nat.eq_zero_or_pos m with h0 | h0
      · exact h0
      · have := Nat.mul_pos h0 E.pos; simp at hl; omega
    subst hm
    rw [hnil rfl]
    exact ⟨v, w, run_append_owned_none w base t ty e i size E.slice hi v n xs hown, by simpa using hown, ⟨rfl, rfl, rfl, Nat.le_refl _, fun _ _ _ => rfl⟩⟩
  | some ad =>
    have hnews : ∀ j u, news[j]? = some u → w.cell? (ad.add j) = some u := by
      intro j u hj
      rcases hrow with h0 | ⟨b, off, h2, _, h4⟩
      · subst h0; simp at hj
      · obtain ⟨hj1, hj2⟩ := List.getElem?_eq_some_iff.1 hj
        cases h2
        rw [add_plain, h4 j hj1, hj2]
    obtain ⟨v', w', hr, h2, h3, _⟩ := run_append_own w base t ty e i z size bytes E.slice hi hz hs hb E.zsize E.pos v n xs hown ad m c news hl hnews h1 h63 hbytes hbase
    exact ⟨v', w', hr, h2, h3⟩

/-- an append whose run is known: the arm '(at_builtin; refine wpList_append_by hr rfl _ _ rfl rfl rfl ?_)' -/
theorem wpList_append_by {P : Program} {w w' : World} {ops : Array Oper} {rest : List Oper} {o : Oper} {a : Act} {Q : Exit → Act → World → Prop} {t t' ty : TypeId} {v xv v' : Value}
    (hr : (Builtin.append_ #[t, t'] ty #[v, xv]).run P w = .ok v' w') (hgd : o.guard = none) (s x : Operand)
    (ho : o.op = .call { callee := .builtin .append, args := #[s, x], argTypes := #[t, t'] }) (hty : o.type = ty) (hsx : (a.eval s, a.eval x) = (v, xv))
    (h : wpList P ops Q rest (a.put o.dst v') w') : wpList P ops Q (o :: rest) a w := by
  refine wpList_plain hgd fun K hK => ?_
  have h1 : a.eval s = v := congrArg Prod.fst hsx
  have h2 : a.eval x = xv := congrArg Prod.snd hsx
  unfold Oper.wp
  simp [execOp, ho, resolve, invoke, builtin, h1, h2, hty, hr, Result.andThen]
  exact hK _ _ h

theorem wpList_make_by {P : Program} {w w' : World} {ops : Array Oper} {rest : List Oper} {o : Oper} {a : Act} {Q : Exit → Act → World → Prop} {t : TypeId} {lv cv v' : Value}
    (hr : (Instr.makeSlice t lv cv).run P w = .ok v' w') (hgd : o.guard = none) (l c : Operand) (ho : o.op = .makeSlice t l c) (hev : (a.eval l, a.eval c) = (lv, cv))
    (h : wpList P ops Q rest (a.put o.dst v') w') : wpList P ops Q (o :: rest) a w := by
  refine wpList_plain hgd fun K hK => ?_
  have h1 : a.eval l = lv := congrArg Prod.fst hev
  have h2 : a.eval c = cv := congrArg Prod.snd hev
  unfold Oper.wp
  simp [execOp, ho, h1, h2, hr, Result.andThen]
  exact hK _ _ h
/-- 'make([]T, 0, c)' -/
theorem make_row {P : Program} {t e : TypeId} {z : Value} {size bytes : Nat} (E : ElemT P t e z size bytes) (w : World) (base c : Nat) (ci : Int) (hci : ci = c) (h63 : c ≤ maxLen) (hb : bytes * c ≤ 281474976710656) (hbase : base ≤ w.heap.size) :
    ∃ w', (Instr.makeSlice t (.int .i64 0) (.int .i64 ci)).run P w = .ok (.slice (some ⟨w.heap.size, 0, none⟩) 0 c) w' ∧ w'.ownsRow base e size (.slice (some ⟨w.heap.size, 0, none⟩) 0 c) 0 [] ∧ w.grownBy w' none := by
  subst hci
  obtain ⟨i, hi, hz, hs, hbt⟩ := E.info
  exact run_make_own w base t e i z size E.slice hi hz hs .i64 .i64 c (by rw [hbt]; exact hb) h63 hbase
/-- 'make([]T, n)' -/
theorem make_full {P : Program} {t e : TypeId} {z : Value} {size bytes : Nat} (E : ElemT P t e z size bytes) (w : World) (base n : Nat) (ni : Int) (hni : ni = n) (h63 : n ≤ maxLen) (hb : bytes * n ≤ 281474976710656) (hbase : base ≤ w.heap.size) :
    ∃ w', (Instr.makeSlice t (.int .i64 ni) (.int .i64 ni)).run P w = .ok (.slice (some ⟨w.heap.size, 0, none⟩) n n) w' ∧ w'.ownsRow base e size (.slice (some ⟨w.heap.size, 0, none⟩) n n) n (madeCells z.cells (n * size)).toList ∧ w.grownBy w' none := by
  subst hni
  obtain ⟨i, hi, hz, hs, hbt⟩ := E.info
  exact run_make_full w base t e i z size E.slice hi hz hs .i64 .i64 n (by rw [hbt]; exact hb) h63 hbase
/-- is the operation an append? -/
theorem step_at_append {P : Program} {w : World} {ops : Array Oper} {o : Oper} {a : Act} {K : Act → World → Prop} {Q : Exit → Act → World → Prop} {E : Prop} {t : TypeId} (s x : Operand)
    (_ho : o.op = .call { callee := .builtin .append, args := #[s, x], argTypes := #[t, t] }) (h : if Region.wanted o (yielded ops a.tmps) = true then Oper.wp P o a w K Q else E) :
    if Region.wanted o (yielded ops a.tmps) = true then Oper.wp P o a w K Q else E := h
/-- the same inside a region that draws its order -/
theorem step_append_by {P : Program} {w w' : World} {ops : Array Oper} {o : Oper} {a : Act} {K : Act → World → Prop} {Q : Exit → Act → World → Prop} {E : Prop} {t t' ty : TypeId} {v xv v' : Value}
    (hr : (Builtin.append_ #[t, t'] ty #[v, xv]).run P w = .ok v' w') (hgd : o.guard = none) (s x : Operand)
    (ho : o.op = .call { callee := .builtin .append, args := #[s, x], argTypes := #[t, t'] }) (hty : o.type = ty) (hsx : (a.eval s, a.eval x) = (v, xv))
    (h : K (a.put o.dst v') w') : if Region.wanted o (yielded ops a.tmps) = true then Oper.wp P o a w K Q else E := by
  have hw : Region.wanted o (yielded ops a.tmps) = true := by simp [Region.wanted, hgd]
  rw [if_pos hw]
  have h1 : a.eval s = v := congrArg Prod.fst hsx
  have h2 : a.eval x = xv := congrArg Prod.snd hsx
  unfold Oper.wp
  simp [execOp, ho, resolve, invoke, builtin, h1, h2, hty, hr, Result.andThen]
  exact h

theorem sliced_row (w : World) (a : Option Addr) (len l h m size : Nat) (vs : List Value) (hlh : l ≤ h) (hh : h ≤ len) (hm : len ≤ m) (hv : vs.length = len * size) (hr : RowV w a vs) :
    ∃ a', sliced a l h m size = .slice a' (h - l) (m - l) ∧ RowV w a' ((vs.drop (l * size)).take ((h - l) * size)) ∧ (a' = none → a = none) := by
  by_cases e : m = l
  · have : h - l = 0 := by omega
    exact ⟨a, by simp [sliced, e], by rw [this, Nat.zero_mul, List.take_zero]; exact Or.inl rfl, id⟩
  · refine ⟨a.map (·.add (l * size)), by simp [sliced, e], ?_, fun hn => by cases a with | none => rfl | some x => cases hn⟩
    rcases hr with h0 | ⟨b, off, h1, h2, h3⟩
    · subst h0; left; simp
    · subst h1
      refine Or.inr ⟨b, off + l * size, by simp [add_plain], h2, fun i hi => ?_⟩
      simp only [List.length_take, List.length_drop] at hi
      rw [List.getElem_take, List.getElem_drop, Nat.add_assoc, h3]
/-- 's[l:]': some address, the rest of the row -/
theorem slice_row {P : Program} {t e : TypeId} {z : Value} {size bytes : Nat} (E : ElemT P t e z size bytes) (w : World) (a : Option Addr) (len cap l : Nat) (li : Int) (hli : li = l) (vs : List Value) (hl : l ≤ len) (hcap : len ≤ cap) (hv : vs.length = len * size) (hr : RowV w a vs) :
    ∃ a', (∀ wx : World, (Instr.slice t (.slice a len cap) (some (.int .i64 li)) none none).run P wx = .ok (.slice a' (len - l) (cap - l)) wx) ∧ RowV w a' (vs.drop (l * size)) ∧ (a' = none → a = none) := by
  subst hli
  obtain ⟨i, hi, hz, hs, hb⟩ := E.info
  have hel : P.elem t = e := by simp [Program.elem, E.slice]
  have ht : P.underlying t = some (.slice (P.elem t)) := by rw [hel]; exact E.slice
  have hsz : ∀ wx, (sizeOf (P.elem t)).run P wx = .ok size wx := fun wx => by rw [hel]; simp [sizeOf, typeInfo, hi, hs]
  obtain ⟨a', h1, h2, h3⟩ := sliced_row w a len l len cap size vs hl (Nat.le_refl _) hcap hv hr
  refine ⟨a', fun wx => ?_, ?_, h3⟩
  · rw [run_slice_l wx t a len cap ht .i64 l (by omega) (by omega), hsz]
    simp only [Int.toNat_natCast, Result.andThen, h1]
  · rw [List.take_of_length_le] at h2
    · exact h2
    · rw [List.length_drop, hv, Nat.sub_mul]; exact Nat.le_refl _
/-- 's[:h]' -/
theorem slice_to {P : Program} {t e : TypeId} {z : Value} {size bytes : Nat} (E : ElemT P t e z size bytes) (w : World) (a : Option Addr) (len cap h : Nat) (hi' : Int) (hhi : hi' = h) (vs : List Value) (hh : h ≤ len) (hcap : len ≤ cap) (hr : RowV w a vs) :
    (∀ wx : World, (Instr.slice t (.slice a len cap) none (some (.int .i64 hi')) none).run P wx = .ok (.slice a h cap) wx) ∧ RowV w a (vs.take (h * size)) := by
  subst hhi
  obtain ⟨i, hi, hz, hs, hb⟩ := E.info
  have hel : P.elem t = e := by simp [Program.elem, E.slice]
  have ht : P.underlying t = some (.slice (P.elem t)) := by rw [hel]; exact E.slice
  have hsz : ∀ wx, (sizeOf (P.elem t)).run P wx = .ok size wx := fun wx => by rw [hel]; simp [sizeOf, typeInfo, hi, hs]
  refine ⟨fun wx => ?_, ?_⟩
  · rw [run_slice_h wx t a len cap ht .i64 h (by omega) (by omega), hsz]
    simp only [Int.toNat_natCast, Result.andThen, sliced]
    by_cases e0 : cap = 0
    · simp [e0]
    · cases a with
      | none => simp
      | some x => simp [e0, Addr.add]
  · rcases hr with h0 | ⟨b, off, h1, h2, h3⟩
    · subst h0; left; simp
    · refine Or.inr ⟨b, off, h1, h2, fun i hi => ?_⟩
      simp only [List.length_take] at hi
      rw [List.getElem_take, h3]

/-! ### Rows of integers -/
/-- what a proof's frame tells of a slice of integers that came in -/
def IsRow (k : IntKind) (w : World) (a : Option Addr) (len cap : Nat) (zs : List Int) : Prop :=
  (a = none ∧ len = 0 ∧ cap = 0 ∧ zs = []) ∨
  ∃ x, a = some x ∧ len ≤ cap ∧ cap ≤ maxLen ∧ zs.length = cap ∧ (∀ i, i < zs.length → w.cell? (x.add i) = some (.int k (zs.getD i 0))) ∧ ∀ n ∈ zs, (Lit.int k n).wf = true
/-- a slice of integers that reads as zs -/
structure RowI (k : IntKind) (w : World) (a : Option Addr) (len : Nat) (zs : List Int) : Prop where
  len_eq : zs.length = len
  small : len ≤ 9223372036854775807
  cells : len = 0 ∨ ∃ b off, a = some ⟨b, off, none⟩ ∧ b < w.heap.size ∧ ∀ i, i < len → w.cell? ⟨b, off + i, none⟩ = some (.int k (zs[i]?.getD 0))
theorem RowI.addr {k : IntKind} {w : World} {a : Option Addr} {len : Nat} {zs : List Int} (h : RowI k w a len zs) (hl : 0 < len) :
    ∃ b off, a = some ⟨b, off, none⟩ ∧ ∀ i, i < len → w.cell? ⟨b, off + i, none⟩ = some (.int k (zs[i]?.getD 0)) := by
  rcases h.cells with h0 | ⟨b, off, h1, _, h2⟩
  · omega
  · exact ⟨b, off, h1, h2⟩
theorem RowI.below {k : IntKind} {w w' : World} {a : Option Addr} {len : Nat} {zs : List Int} (h : RowI k w a len zs) (hb : Below w.heap.size w w') : RowI k w' a len zs := by
  refine ⟨h.len_eq, h.small, ?_⟩
  rcases h.cells with h0 | ⟨b, off, h1, h2, h3⟩
  · exact Or.inl h0
  · exact Or.inr ⟨b, off, h1, Nat.lt_of_lt_of_le h2 hb.size, fun i hi => (hb.cell (p := ⟨b, off + i, none⟩) h2).trans (h3 i hi)⟩
theorem IsRow.rowI {k : IntKind} {w : World} {a : Option Addr} {len cap : Nat} {zs : List Int} (h : IsRow k w a len cap zs) : RowI k w a len (zs.take len) := by
  rcases h with ⟨rfl, rfl, rfl, rfl⟩ | ⟨x, rfl, hl, hm, hz, hcell, _⟩
  · exact ⟨rfl, by omega, Or.inl rfl⟩
  · refine ⟨by rw [List.length_take]; omega, by unfold maxLen at hm; omega, ?_⟩
    by_cases h0 : len = 0
    · exact Or.inl h0
    · right
      obtain ⟨b, off, spot⟩ := x
      have hc := hcell 0 (by omega)
      have hspot : spot = none := by simpa [Addr.add] using World.cell?_spot hc
      subst hspot
      have key : ∀ i, i < len → w.cell? ⟨b, off + i, none⟩ = some (.int k ((zs.take len)[i]?.getD 0)) := fun i hi => by
        have := hcell i (by omega)
        rw [List.getElem?_take_of_lt hi]
        rw [← add_plain, this]; rfl
      exact ⟨b, off, rfl, cell_lt (key 0 (by omega)), key⟩
theorem IsRow.nil {k : IntKind} {w : World} {len cap : Nat} {zs : List Int} (h : IsRow k w none len cap zs) : cap = 0 := by
  rcases h with ⟨_, _, h, _⟩ | ⟨x, h, _⟩
  · exact h
  · cases h
theorem RowI.rowV {k : IntKind} {w : World} {a : Option Addr} {len : Nat} {zs : List Int} (h : RowI k w a len zs) : RowV w a (zs.map (.int k)) := by
  rcases h.cells with h0 | ⟨b, off, h1, h2, h3⟩
  · left; rw [List.eq_nil_of_length_eq_zero (h.len_eq.trans h0)]; rfl
  · refine Or.inr ⟨b, off, h1, h2, fun i hi => ?_⟩
    rw [List.length_map] at hi
    rw [h3 i (by rw [← h.len_eq]; exact hi), List.getElem?_eq_getElem hi, List.getElem_map]; rfl
theorem RowV.rowI {k : IntKind} {w : World} {a : Option Addr} {zs : List Int} (h : RowV w a (zs.map (.int k))) (hs : zs.length ≤ 9223372036854775807) : RowI k w a zs.length zs := by
  refine ⟨rfl, hs, ?_⟩
  rcases h with h0 | ⟨b, off, h1, h2, h3⟩
  · left; simpa using h0
  · refine Or.inr ⟨b, off, h1, h2, fun i hi => ?_⟩
    rw [h3 i (by rw [List.length_map]; exact hi), List.getElem_map, List.getElem?_eq_getElem hi]; rfl
theorem wf_i64 {n : Int} (h : (Lit.int .i64 n).wf = true) : -9223372036854775808 ≤ n ∧ n ≤ 9223372036854775807 := by
  simpa [Lit.wf, IntKind.min, IntKind.max, IntKind.signed, IntKind.bits] using h
theorem wf_u8 {n : Int} (h : (Lit.int .u8 n).wf = true) : 0 ≤ n ∧ n ≤ 255 := by
  simpa [Lit.wf, IntKind.min, IntKind.max, IntKind.signed, IntKind.bits] using h
theorem wf_i8 {n : Int} (h : (Lit.int .i8 n).wf = true) : -128 ≤ n ∧ n ≤ 127 := by
  simpa [Lit.wf, IntKind.min, IntKind.max, IntKind.signed, IntKind.bits] using h
theorem IsRow.bytes {w : World} {a : Option Addr} {len cap : Nat} {zs : List Int} (h : IsRow .u8 w a len cap zs) : ∀ z ∈ zs, 0 ≤ z ∧ z ≤ 255 := by
  rcases h with ⟨rfl, rfl, rfl, rfl⟩ | ⟨x, rfl, hl, hm, hz, hcell, hwf⟩
  · intro z hz; cases hz
  · exact fun z hz => wf_u8 (hwf z hz)
theorem oneCell_ints (k : IntKind) (zs : List Int) : ∀ u ∈ zs.map (Value.int k), u.oneCell' = true := by
  intro u hu; obtain ⟨z, _, rfl⟩ := List.mem_map.1 hu; rfl

/-! ### Strings and bytes -/
/-- the letters of a string as integers -/
def lettersI (s : ByteArray) : List Int := s.data.toList.map fun c => (c.toNat : Int)
theorem lettersI_length (s : ByteArray) : (lettersI s).length = s.size := by unfold lettersI; rw [List.length_map, Array.length_toList]; rfl
theorem below_bytesWorld (w : World) (e : TypeId) (s : ByteArray) : Below w.heap.size w (Lib.bytesWorld w e s) :=
  ⟨rfl, rfl, rfl, by rw [Lib.bytesWorld_size]; omega, fun k hk => Lib.bytesWorld_at_old w e s k hk⟩
theorem rowI_bytesWorld (w : World) (e : TypeId) (s : ByteArray) (hs : s.size ≤ 9223372036854775807) :
    RowI .u8 (Lib.bytesWorld w e s) (some ⟨w.heap.size, 0, none⟩) s.size (lettersI s) := by
  refine ⟨lettersI_length s, hs, Or.inr ⟨w.heap.size, 0, rfl, by rw [Lib.bytesWorld_size]; omega, fun i hi => ?_⟩⟩
  rw [Nat.zero_add, Lib.bytesWorld_cell w e s i hi]
  have hi' : i < s.data.toList.length := by rw [Array.length_toList]; exact hi
  unfold lettersI
  rw [List.getElem?_map, List.getElem?_eq_getElem hi']
  rw [List.getD, List.getElem?_eq_getElem hi']
  rfl
theorem letters_of_nums (zs : List Int) (h : ∀ z ∈ zs, 0 ≤ z ∧ z ≤ 255) : lettersI (strOfNums zs) = zs := by
  unfold lettersI
  rw [strOfNums_data, List.map_map]
  conv => rhs; rw [← List.map_id zs]
  refine List.map_congr_left fun z hz => ?_
  have := h z hz
  show ((UInt8.ofNat z.toNat).toNat : Int) = z
  rw [UInt8.toNat_ofNat', Nat.mod_eq_of_lt (by omega)]
  omega
/-- 'string(b)' -/
theorem conv_string {P : Program} {w : World} {a : Option Addr} {len cap : Nat} {zs : List Int} (h : RowI .u8 w a len zs) (src e dst : TypeId)
    (hs : P.underlying src = some (.slice e)) (he : P.underlying e = some (.int .u8)) (hd : P.underlying dst = some .string) :
    (Go.convert src dst (.slice a len cap)).run P w = .ok (.string (strOfNums zs)) w := by
  rcases h.cells with h0 | ⟨b, off, rfl, _, h3⟩
  · obtain rfl : zs = [] := List.eq_nil_of_length_eq_zero (by rw [h.len_eq]; exact h0)
    subst h0
    cases a with
    | none => exact run_convert_bytes_nil w src e hs he 0 cap dst hd
    | some x =>
      rw [run_convert_bytes_string w src dst e _ 0 cap hs he hd, run_bytesToString w x 0 cap [] (run_loadCells_list (P := P) w x [] (fun j v hj => by simp at hj))]
      rfl
  · exact run_convert_bytes_arg w src e hs he b off len cap zs h.len_eq (fun i hi => by rw [h3 i hi]; rfl) dst hd
end Go.Proofs.Ytcmbhebgpboepaa
