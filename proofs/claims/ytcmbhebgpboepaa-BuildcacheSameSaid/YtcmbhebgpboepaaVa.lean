/-
  A logic of values over the model: abstract values, what they stand for in a world, and what a step keeps. General facts, over any program.
-/
import Derived.WalkKit
import Derived.ProofKit
import Derived.Below
import Derived.Laws.BytesArg
import Derived.Laws.OwnMore
import Derived.Lib.ConvBytes
import Derived.Orders
import Derived.OrdersHeld
import Derived.Test.YtcmbhebgpboepaaRows
namespace Go.Proofs.Ytcmbhebgpboepaa.V
open Go Go.RowKit
set_option linter.unusedSimpArgs false
set_option linter.unusedVariables false

/-- abstract values -/
inductive AV where
  | junk
  | bool (b : Bool)
  | int (k : IntKind) (n : Int)
  | str (s : ByteArray)
  | nilptr
  | ptr (id off : Nat)
  | fptr (cells : List AV)
  | nilsl
  | sl (id st len sz : Nat)
  | slc (id st len cap sz : Nat)
  | slv (len sz : Nat) (cells : List AV)
  | nilmap
  | map (id : Nat)
  | nilfn
  | fn (f : Fn) (first captured : List AV)
  | iter (id : Nat)
  | agg (cells : List AV)
  | tuple (vs : List AV)
  | cnd (g : Bool) (x : AV)
  deriving Inhabited

/-- a block of the run's own -/
inductive Blk where
  | dead
  | row (t : TypeId) (xs : List AV)
  | map (kv : List (AV × AV))
  | iter (s : ByteArray) (pos : Nat)
  deriving Inhabited

/-- where the blocks lie -/
structure Pl where
  n : Nat
  at_ : Nat → Option (Option Nat)
  x : Nat → Prop

/-- the run's own blocks; those that somebody else may write later -/
def Pl.own (p : Pl) (g : Nat) : Prop := ∃ id, p.at_ id = some (some g)
def Pl.M (p : Pl) (g : Nat) : Prop := p.own g ∨ p.x g
def rowSize (w : World) (g : Nat) : Nat := match w.heap[g]? with | some (.cells c _ _) => c.size | _ => 0

/-- values without blocks of the run's own: they lie in memory that nobody writes -/
inductive RepF (M : Nat → Prop) (w : World) : Value → AV → Prop
  | bool (b : Bool) : RepF M w (.bool b) (.bool b)
  | int (k : IntKind) (n : Int) : RepF M w (.int k n) (.int k n)
  | str (s : ByteArray) : RepF M w (.string s) (.str s)
  | nilptr : RepF M w (.pointer none) .nilptr
  | nilsl : RepF M w (.slice none 0 0) .nilsl
  | nilmap : RepF M w (.map none) .nilmap
  | nilfn : RepF M w .nilFunc .nilfn
  | fn (f : Fn) : RepF M w (.func f #[] #[]) (.fn f [] [])
  | fptr (a : Addr) (cells : List AV) (vs : Nat → Value)
      (hc : ∀ i, i < cells.length → a.spot = none ∧ a.block < w.heap.size ∧ ¬ M a.block ∧ w.cell? ⟨a.block, a.off + i, none⟩ = some (vs i) ∧ (vs i).oneCell' = true)
      (hr : ∀ i, i < cells.length → RepF M w (vs i) (cells.getD i .junk)) : RepF M w (.pointer (some a)) (.fptr cells)
  | slv (oa : Option Addr) (a : Addr) (len cap sz : Nat) (cells : List AV) (vs : Nat → Value) (ho : oa = some a ∨ (oa = none ∧ cap = 0)) (hl : cells.length = len * sz) (hcap : len ≤ cap) (hcm : cap ≤ maxLen) (hsz : 0 < sz)
      (hc : ∀ i, i < cells.length → a.spot = none ∧ a.block < w.heap.size ∧ ¬ M a.block ∧ w.cell? ⟨a.block, a.off + i, none⟩ = some (vs i) ∧ (vs i).oneCell' = true)
      (hr : ∀ i, i < cells.length → RepF M w (vs i) (cells.getD i .junk)) : RepF M w (.slice oa len cap) (.slv len sz cells)

/-- one cell -/
def Rep0 (p : Pl) (w : World) (v : Value) : AV → Prop
  | .junk => True
  | .sl id st len sz => id < p.n ∧ ∀ q, p.at_ id = some q → ∃ a cap, v = .slice a len cap ∧ len ≤ cap ∧ cap ≤ maxLen ∧ 0 < sz ∧ (a = none → cap = 0) ∧ (cap = 0 ∨ ∃ g, q = some g ∧ a = some ⟨g, st, none⟩ ∧ st + cap * sz ≤ rowSize w g)
  | .slc id st len c sz => id < p.n ∧ ∀ q, p.at_ id = some q → ∃ a cap, v = .slice a len cap ∧ len ≤ cap ∧ cap ≤ maxLen ∧ 0 < sz ∧ (a = none → cap = 0) ∧ (cap = 0 ∨ ∃ g, q = some g ∧ a = some ⟨g, st, none⟩ ∧ st + cap * sz ≤ rowSize w g) ∧ (0 < c → a ≠ none ∧ c ≤ cap + 1)
  | .ptr id o => id < p.n ∧ ∀ q, p.at_ id = some q → ∃ g, q = some g ∧ v = .pointer (some ⟨g, o, none⟩)
  | .map id => id < p.n ∧ ∀ q, p.at_ id = some q → ∃ g, q = some g ∧ v = .map (some g)
  | .iter id => id < p.n ∧ ∀ q, p.at_ id = some q → ∃ g, q = some g ∧ v = .pointer (some ⟨g, 0, none⟩)
  | a => RepF p.M w v a
def RepL (R : Value → AV → Prop) (vs : List Value) (xs : List AV) : Prop := vs.length = xs.length ∧ ∀ (i : Nat) (h : i < vs.length) (h' : i < xs.length), R vs[i] xs[i]
def RepC (p : Pl) (w : World) (v : Value) (a : AV) : Prop := v.oneCell' = true ∧ Rep0 p w v a
def Rep1 (p : Pl) (w : World) (v : Value) : AV → Prop
  | .agg cs => ∃ vs, v = .agg vs ∧ RepL (RepC p w) vs.toList cs
  | .fn f fs cs => ∃ vs us, v = .func f vs us ∧ RepL (Rep0 p w) vs.toList fs ∧ RepL (Rep0 p w) us.toList cs
  | a => Rep0 p w v a
def RepT (p : Pl) (w : World) (v : Value) : AV → Prop
  | .tuple ts => ∃ vs, v = .tuple vs ∧ RepL (Rep1 p w) vs.toList ts
  | a => Rep1 p w v a
/-- 'cnd g x': if g holds, x -/
def Rep (p : Pl) (w : World) (v : Value) : AV → Prop
  | .cnd g x => (g = true → RepT p w v x) ∧ (g = false → v = undef)
  | a => RepT p w v a

/-- what a block is -/
def BlkIs (p : Pl) (w : World) (id : Nat) : Blk → Prop
  | .dead => p.at_ id = none
  | .row t xs => (p.at_ id = some none ∧ xs = []) ∨ ∃ g cur, p.at_ id = some (some g) ∧ w.heap[g]? = some (.cells cur t (0, 0)) ∧ xs.length ≤ cur.size ∧
      ∀ (i : Nat) (h : i < xs.length), ∃ v, cur[i]? = some v ∧ RepC p w v xs[i]
  | .map kv => ∃ g es clock, p.at_ id = some (some g) ∧ w.heap[g]? = some (.map es clock) ∧ es.toList.length = kv.length ∧
      ∀ (i : Nat) (h : i < kv.length) (h' : i < es.toList.length), Rep1 p w es.toList[i].key kv[i].1 ∧ Rep1 p w es.toList[i].val kv[i].2
  | .iter s pos => ∃ g, p.at_ id = some (some g) ∧ w.heap[g]? = some (.stringIter s pos)
structure RH (p : Pl) (H : List Blk) (w : World) : Prop where
  n : p.n = H.length
  out : ∀ id, p.n ≤ id → p.at_ id = none
  inj : ∀ i j g, p.at_ i = some (some g) → p.at_ j = some (some g) → i = j
  blk : ∀ (id : Nat) (h : id < H.length), BlkIs p w id H[id]
  xs : ∀ g, p.x g → g < w.heap.size ∧ ¬ p.own g

structure Step (p : Pl) (w : World) (p' : Pl) (w' : World) : Prop where
  os : w'.os = w.os
  tape : w'.tape = w.tape
  output : w'.output = w.output
  size : w.heap.size ≤ w'.heap.size
  n : p.n ≤ p'.n
  keep : ∀ id q, id < p.n → p'.at_ id = some q → p.at_ id = some q ∧ ∀ g, q = some g → rowSize w' g = rowSize w g
  old : ∀ g, g < w.heap.size → p'.own g → p.own g
  froz : ∀ g, g < w.heap.size → ¬ p.own g → w'.heap[g]? = w.heap[g]?
  x : p'.x = p.x
theorem Step.oldM {p w p' w'} (h : Step p w p' w') (g : Nat) (hg : g < w.heap.size) (hm : p'.M g) : p.M g := hm.imp (h.old g hg) fun hx => h.x ▸ hx
theorem Step.frozM {p w p' w'} (h : Step p w p' w') (g : Nat) (hg : g < w.heap.size) (hm : ¬ p.M g) : w'.heap[g]? = w.heap[g]? := h.froz g hg fun ho => hm (Or.inl ho)

theorem Step.refl (p : Pl) (w : World) : Step p w p w := ⟨rfl, rfl, rfl, Nat.le_refl _, Nat.le_refl _, fun _ _ _ h => ⟨h, fun _ _ => rfl⟩, fun _ _ h => h, fun _ _ _ => rfl, rfl⟩
theorem Step.trans {p w p' w' p'' w''} (h : Step p w p' w') (k : Step p' w' p'' w'') : Step p w p'' w'' where
  os := k.os.trans h.os
  tape := k.tape.trans h.tape
  output := k.output.trans h.output
  size := Nat.le_trans h.size k.size
  n := Nat.le_trans h.n k.n
  keep := fun id g hi hg => by
    obtain ⟨h1, h2⟩ := k.keep id g (Nat.lt_of_lt_of_le hi h.n) hg
    obtain ⟨h3, h4⟩ := h.keep id g hi h1
    exact ⟨h3, fun g' hg' => (h2 g' hg').trans (h4 g' hg')⟩
  old := fun g hg hm => h.old g hg (k.old g (Nat.lt_of_lt_of_le hg h.size) hm)
  froz := fun g hg hm => (k.froz g (Nat.lt_of_lt_of_le hg h.size) (fun hm' => hm (h.old g hg hm'))).trans (h.froz g hg hm)
  x := k.x.trans h.x

theorem RepF.step {p w p' w'} (hs : Step p w p' w') {v : Value} {a : AV} (h : RepF p.M w v a) : RepF p'.M w' v a := by
  induction h with
  | bool b => exact .bool b
  | int k n => exact .int k n
  | str s => exact .str s
  | nilptr => exact .nilptr
  | nilsl => exact .nilsl
  | nilmap => exact .nilmap
  | nilfn => exact .nilfn
  | fn f => exact .fn f
  | fptr a cells vs hc hr ih =>
    refine .fptr a cells vs (fun i hi => ?_) ih
    obtain ⟨h1, h2, h3, h4, h5⟩ := hc i hi
    exact ⟨h1, Nat.lt_of_lt_of_le h2 hs.size, fun hm => h3 (hs.oldM _ h2 hm), (World.cell?_of_block (w := w) (a := ⟨a.block, a.off + i, none⟩) (hs.frozM _ h2 h3)).trans h4, h5⟩
  | slv oa a len cap sz cells vs ho hl hcap hcm hsz hc hr ih =>
    refine .slv oa a len cap sz cells vs ho hl hcap hcm hsz (fun i hi => ?_) ih
    obtain ⟨h1, h2, h3, h4, h5⟩ := hc i hi
    exact ⟨h1, Nat.lt_of_lt_of_le h2 hs.size, fun hm => h3 (hs.oldM _ h2 hm), (World.cell?_of_block (w := w) (a := ⟨a.block, a.off + i, none⟩) (hs.frozM _ h2 h3)).trans h4, h5⟩
theorem Rep0.step {p w p' w'} (hs : Step p w p' w') {v : Value} {a : AV} (h : Rep0 p w v a) : Rep0 p' w' v a := by
  cases a with
  | junk => trivial
  | sl id st len sz =>
    refine ⟨Nat.lt_of_lt_of_le h.1 hs.n, fun q hq => ?_⟩
    obtain ⟨h1, h2⟩ := hs.keep id q h.1 hq
    obtain ⟨a, cap, a1, a2, a3, a4, a5, a6⟩ := h.2 q h1
    refine ⟨a, cap, a1, a2, a3, a4, a5, a6.imp (fun h => h) fun ⟨g, b1, b2, b3⟩ => ⟨g, b1, b2, by rw [h2 g b1]; exact b3⟩⟩
  | slc id st len c sz =>
    refine ⟨Nat.lt_of_lt_of_le h.1 hs.n, fun q hq => ?_⟩
    obtain ⟨h1, h2⟩ := hs.keep id q h.1 hq
    obtain ⟨a, cap, a1, a2, a3, a4, a5, a6, a7⟩ := h.2 q h1
    refine ⟨a, cap, a1, a2, a3, a4, a5, a6.imp (fun h => h) fun ⟨g, b1, b2, b3⟩ => ⟨g, b1, b2, by rw [h2 g b1]; exact b3⟩, a7⟩
  | ptr id o => exact ⟨Nat.lt_of_lt_of_le h.1 hs.n, fun g hg => h.2 g (hs.keep id g h.1 hg).1⟩
  | map id => exact ⟨Nat.lt_of_lt_of_le h.1 hs.n, fun g hg => h.2 g (hs.keep id g h.1 hg).1⟩
  | iter id => exact ⟨Nat.lt_of_lt_of_le h.1 hs.n, fun g hg => h.2 g (hs.keep id g h.1 hg).1⟩
  | _ => (simp only [Rep0] at h ⊢; exact RepF.step hs h)
theorem RepL.mono {R R' : Value → AV → Prop} {vs : List Value} {xs : List AV} (h : RepL R vs xs) (hr : ∀ v a, R v a → R' v a) : RepL R' vs xs := ⟨h.1, fun i h1 h2 => hr _ _ (h.2 i h1 h2)⟩
theorem RepC.step {p w p' w'} (hs : Step p w p' w') {v : Value} {a : AV} (h : RepC p w v a) : RepC p' w' v a := ⟨h.1, h.2.step hs⟩
theorem Rep1.step {p w p' w'} (hs : Step p w p' w') {v : Value} {a : AV} (h : Rep1 p w v a) : Rep1 p' w' v a := by
  cases a with
  | agg cs => obtain ⟨vs, h1, h2⟩ := h; exact ⟨vs, h1, h2.mono fun _ _ => RepC.step hs⟩
  | fn f fs cs => obtain ⟨vs, us, h1, h2, h3⟩ := h; exact ⟨vs, us, h1, h2.mono fun _ _ => Rep0.step hs, h3.mono fun _ _ => Rep0.step hs⟩
  | _ => (simp only [Rep1] at h ⊢; exact Rep0.step hs h)
theorem RepT.step {p w p' w'} (hs : Step p w p' w') {v : Value} {a : AV} (h : RepT p w v a) : RepT p' w' v a := by
  cases a with
  | tuple ts => obtain ⟨vs, h1, h2⟩ := h; exact ⟨vs, h1, h2.mono fun _ _ => Rep1.step hs⟩
  | _ => (simp only [RepT] at h ⊢; exact Rep1.step hs h)
theorem Rep.step {p w p' w'} (hs : Step p w p' w') {v : Value} {a : AV} (h : Rep p w v a) : Rep p' w' v a := by
  cases a with
  | cnd g x => exact ⟨fun hg => (h.1 hg).step hs, h.2⟩
  | _ => (simp only [Rep] at h ⊢; exact RepT.step hs h)
theorem RepL.nil {R : Value → AV → Prop} : RepL R [] [] := ⟨rfl, fun i h => by simp at h⟩
theorem RepL.cons {R : Value → AV → Prop} {v a vs xs} (h : R v a) (k : RepL R vs xs) : RepL R (v :: vs) (a :: xs) :=
  ⟨by simp [k.1], fun i h1 h2 => by cases i with | zero => exact h | succ i => exact k.2 i (by simpa using h1) (by simpa using h2)⟩
theorem RepL.append {R : Value → AV → Prop} {vs xs us bs} (h : RepL R vs xs) (k : RepL R us bs) : RepL R (vs ++ us) (xs ++ bs) := by
  refine ⟨by rw [List.length_append, List.length_append, h.1, k.1], fun i h1 h2 => ?_⟩
  by_cases hi : i < vs.length
  · rw [List.getElem_append_left hi, List.getElem_append_left (by rw [← h.1]; exact hi)]; exact h.2 i _ _
  · rw [List.getElem_append_right (by omega), List.getElem_append_right (by rw [← h.1]; omega)]
    simp only [h.1]
    exact k.2 _ _ _
theorem RepL.take {R : Value → AV → Prop} {vs xs} (h : RepL R vs xs) (n : Nat) : RepL R (vs.take n) (xs.take n) :=
  ⟨by simp [h.1], fun i h1 h2 => by rw [List.getElem_take, List.getElem_take]; exact h.2 i _ _⟩
theorem RepL.drop {R : Value → AV → Prop} {vs xs} (h : RepL R vs xs) (n : Nat) : RepL R (vs.drop n) (xs.drop n) :=
  ⟨by simp [h.1], fun i h1 h2 => by rw [List.getElem_drop, List.getElem_drop]; exact h.2 _ _ _⟩

/-- a world in which nothing that stood has turned -/
theorem Step.of_below {p : Pl} {w w' : World} (h : Below w.heap.size w w') (hp : ∀ g, p.own g → g < w.heap.size) : Step p w p w' where
  os := h.os
  tape := h.tape
  output := h.output
  size := h.size
  n := Nat.le_refl _
  keep := fun id q _ hq => ⟨hq, fun g hg => by unfold rowSize; rw [h.block g (hp g ⟨id, hg ▸ hq⟩)]⟩
  old := fun _ _ h => h
  froz := fun g hg _ => h.block g hg
  x := rfl
theorem RH.lt {p H w} (h : RH p H w) (g : Nat) (hg : p.own g) : g < w.heap.size := by
  obtain ⟨id, hid⟩ := hg
  have hlt : id < H.length := by
    rcases Nat.lt_or_ge id H.length with h1 | h1
    · exact h1
    · rw [h.out id (by rw [h.n]; exact h1)] at hid; cases hid
  have hb := h.blk id hlt
  cases hH : H[id] with
  | dead => rw [hH] at hb; unfold BlkIs at hb; rw [hb] at hid; cases hid
  | row t xs =>
    rw [hH] at hb
    rcases hb with ⟨h1, _⟩ | ⟨g', cur, h1, h2, _⟩ <;> rw [h1] at hid <;> cases hid
    exact (Array.getElem?_eq_some_iff.1 h2).1
  | map kv => rw [hH] at hb; obtain ⟨g', es, cl, h1, h2, _⟩ := hb; rw [h1] at hid; cases hid; exact (Array.getElem?_eq_some_iff.1 h2).1
  | iter s pos => rw [hH] at hb; obtain ⟨g', h1, h2⟩ := hb; rw [h1] at hid; cases hid; exact (Array.getElem?_eq_some_iff.1 h2).1
/-- a block's contents at a later world in which it has not turned -/
theorem BlkIs.step {p w p' w'} (hs : Step p w p' w') {id : Nat} {b : Blk} (h : BlkIs p w id b) (hat : p'.at_ id = p.at_ id) (hb : ∀ g, p.at_ id = some (some g) → w'.heap[g]? = w.heap[g]?) : BlkIs p' w' id b := by
  cases b with
  | dead => exact hat.trans h
  | row t xs =>
    rcases h with ⟨h1, h2⟩ | ⟨g, cur, h1, h2, h3, h4⟩
    · exact Or.inl ⟨hat.trans h1, h2⟩
    · exact Or.inr ⟨g, cur, hat.trans h1, (hb g h1).trans h2, h3, fun i hi => let ⟨v, a, b⟩ := h4 i hi; ⟨v, a, b.step hs⟩⟩
  | map kv => obtain ⟨g, es, cl, h1, h2, h3, h4⟩ := h; exact ⟨g, es, cl, hat.trans h1, (hb g h1).trans h2, h3, fun i hi hi' => ⟨(h4 i hi hi').1.step hs, (h4 i hi hi').2.step hs⟩⟩
  | iter s pos => obtain ⟨g, h1, h2⟩ := h; exact ⟨g, hat.trans h1, (hb g h1).trans h2⟩
theorem RH.below {p H w w'} (h : RH p H w) (hb : Below w.heap.size w w') : RH p H w' :=
  ⟨h.n, h.out, h.inj, fun id hid => (h.blk id hid).step (Step.of_below hb h.lt) rfl fun g hg => hb.block g (h.lt g ⟨id, hg⟩), fun g hg => ⟨Nat.lt_of_lt_of_le (h.xs g hg).1 hb.size, (h.xs g hg).2⟩⟩
end Go.Proofs.Ytcmbhebgpboepaa.V
