/-
  What the law leans on.
-/
import Derived.WalkKit
import Derived.ProofKit
import Derived.Below
import Derived.Laws.BytesArg
import Derived.Laws.OwnMore
import Derived.Lib.ConvBytes
import Derived.Orders
import Derived.OrdersHeld
import Derived.Test.YthcaeofgegfncaaDoorRows
import Derived.Deep.LoopGhost
import Derived.Scope
import Derived.Laws.Append
import Derived.Laws.Cells
import Derived.Laws.StructEq
import Derived.Laws.CopyRow
import Derived.Great.BuildSlice
import Derived.IntWalk
import Derived.Laws.MakeOwn
import Derived.Laws.RangeAny
import Derived.Lib.OthersKept
import Derived.Laws.IdiomCopy
import Derived.Lib.AppendStr
import Derived.Lib.Bytealg
import Derived.OpenShut
import Derived.ShutString
import Derived.ChangeOld
import Derived.LoopTactic
import Derived.WalkLawsBesides
import Derived.WalkSpells
import Derived.Lib.Hide
import Derived.Deep.CutBlock
import Derived.Deep.DeepCutAuto
import Derived.Deep.Slices
import Derived.SizedLaws
import Derived.Shelf.Strings.Builder1
import Derived.Shelf.Strings.Builder2
import Derived.Shelf.Strings.OnBuilder
import Derived.Shelf.Utf8.RuneCount
import Derived.Shelf.Strings.Search1
import Derived.Shelf.Strings.Search2
import Derived.Shelf.Strings.Search3
import Derived.Shelf.Strings.Count
import Derived.Shelf.LaysM
import Derived.Shelf.Strings.Shaped
import Derived.Shelf.Strings.Split
import Derived.Shelf.Strings.SplitShaped
import Derived.Shelf.Unicode.Decode
import Derived.Shelf.Strings.RuneCount
import Derived.Shelf.Strings.Explode
import Derived.Shelf.Unicode.DecodeSlow
import Derived.Shelf.Unicode.DecodeAny
import Derived.Test.YthcaeofgegfncaaDoorProg
namespace Go.Proofs.YthcaeofgegfncaaDoor.V
open Go Go.RowKit
set_option linter.unusedSimpArgs false
set_option linter.unusedVariables false

/-- abstract values -/
inductive AV where
  | junk
  | bool (b : Bool)
  | int (k : IntKind) (n : Int)
  | str (s : ByteArray)
  | nilptr
  | ptr (id off : Nat)
  | fptr (cells : List AV)
  | nilsl
  | sl (id st len sz : Nat)
  | slc (id st len cap sz : Nat)
  | slv (len sz : Nat) (cells : List AV)
  | nilmap
  | map (id : Nat)
  | nilfn
  | fn (f : Fn) (first captured : List AV)
  | iter (id : Nat)
  | agg (cells : List AV)
  | tuple (vs : List AV)
  | cnd (g : Bool) (x : AV)
  deriving Inhabited

/-- a block of the run's own -/
inductive Blk where
  | dead
  | row (t : TypeId) (xs : List AV)
  | map (kv : List (AV × AV))
  | iter (s : ByteArray) (pos : Nat)
  deriving Inhabited

/-- where the blocks lie -/
structure Pl where
  n : Nat
  at_ : Nat → Option (Option Nat)
  x : Nat → Prop

/-- the run's own blocks; those that somebody else may write later -/
def Pl.own (p : Pl) (g : Nat) : Prop := ∃ id, p.at_ id = some (some g)
def Pl.M (p : Pl) (g : Nat) : Prop := p.own g ∨ p.x g
def rowSize (w : World) (g : Nat) : Nat := match w.heap[g]? with | some (.cells c _ _) => c.size | _ => 0

/-- values without blocks of the run's own: they lie in memory that nobody writes -/
inductive RepF (M : Nat → Prop) (w : World) : Value → AV → Prop
  | bool (b : Bool) : RepF M w (.bool b) (.bool b)
  | int (k : IntKind) (n : Int) : RepF M w (.int k n) (.int k n)
  | str (s : ByteArray) : RepF M w (.string s) (.str s)
  | nilptr : RepF M w (.pointer none) .nilptr
  | nilsl : RepF M w (.slice none 0 0) .nilsl
  | nilmap : RepF M w (.map none) .nilmap
  | nilfn : RepF M w .nilFunc .nilfn
  | fn (f : Fn) : RepF M w (.func f #[] #[]) (.fn f [] [])
  | fptr (a : Addr) (cells : List AV) (vs : Nat → Value)
      (hc : ∀ i, i < cells.length → a.spot = none ∧ a.block < w.heap.size ∧ ¬ M a.block ∧ w.cell? ⟨a.block, a.off + i, none⟩ = some (vs i) ∧ (vs i).oneCell' = true)
      (hr : ∀ i, i < cells.length → RepF M w (vs i) (cells.getD i .junk)) : RepF M w (.pointer (some a)) (.fptr cells)
  | slv (oa : Option Addr) (a : Addr) (len cap sz : Nat) (cells : List AV) (vs : Nat → Value) (ho : oa = some a ∨ (oa = none ∧ cap = 0)) (hl : cells.length = len * sz) (hcap : len ≤ cap) (hcm : cap ≤ maxLen) (hsz : 0 < sz)
      (hc : ∀ i, i < cells.length → a.spot = none ∧ a.block < w.heap.size ∧ ¬ M a.block ∧ w.cell? ⟨a.block, a.off + i, none⟩ = some (vs i) ∧ (vs i).oneCell' = true)
      (hr : ∀ i, i < cells.length → RepF M w (vs i) (cells.getD i .junk)) : RepF M w (.slice oa len cap) (.slv len sz cells)

/-- one cell -/
def Rep0 (p : Pl) (w : World) (v : Value) : AV → Prop
  | .junk => True
  | .sl id st len sz => id < p.n ∧ ∀ q, p.at_ id = some q → ∃ a cap, v = .slice a len cap ∧ len ≤ cap ∧ cap ≤ maxLen ∧ 0 < sz ∧ (a = none → cap = 0) ∧ (cap = 0 ∨ ∃ g, q = some g ∧ a = some ⟨g, st, none⟩ ∧ st + cap * sz ≤ rowSize w g)
  | .slc id st len c sz => id < p.n ∧ ∀ q, p.at_ id = some q → ∃ a cap, v = .slice a len cap ∧ len ≤ cap ∧ cap ≤ maxLen ∧ 0 < sz ∧ (a = none → cap = 0) ∧ (cap = 0 ∨ ∃ g, q = some g ∧ a = some ⟨g, st, none⟩ ∧ st + cap * sz ≤ rowSize w g) ∧ (0 < c → a ≠ none ∧ c ≤ cap + 1)
  | .ptr id o => id < p.n ∧ ∀ q, p.at_ id = some q → ∃ g, q = some g ∧ v = .pointer (some ⟨g, o, none⟩)
  | .map id => id < p.n ∧ ∀ q, p.at_ id = some q → ∃ g, q = some g ∧ v = .map (some g)
  | .iter id => id < p.n ∧ ∀ q, p.at_ id = some q → ∃ g, q = some g ∧ v = .pointer (some ⟨g, 0, none⟩)
  | a => RepF p.M w v a
def RepL (R : Value → AV → Prop) (vs : List Value) (xs : List AV) : Prop := vs.length = xs.length ∧ ∀ (i : Nat) (h : i < vs.length) (h' : i < xs.length), R vs[i] xs[i]
def RepC (p : Pl) (w : World) (v : Value) (a : AV) : Prop := v.oneCell' = true ∧ Rep0 p w v a
def Rep1 (p : Pl) (w : World) (v : Value) : AV → Prop
  | .agg cs => ∃ vs, v = .agg vs ∧ RepL (RepC p w) vs.toList cs
  | .fn f fs cs => ∃ vs us, v = .func f vs us ∧ RepL (Rep0 p w) vs.toList fs ∧ RepL (Rep0 p w) us.toList cs
  | a => Rep0 p w v a
def RepT (p : Pl) (w : World) (v : Value) : AV → Prop
  | .tuple ts => ∃ vs, v = .tuple vs ∧ RepL (Rep1 p w) vs.toList ts
  | a => Rep1 p w v a
/-- 'cnd g x': if g holds, x -/
def Rep (p : Pl) (w : World) (v : Value) : AV → Prop
  | .cnd g x => (g = true → RepT p w v x) ∧ (g = false → v = undef)
  | a => RepT p w v a

/-- what a block is -/
def BlkIs (p : Pl) (w : World) (id : Nat) : Blk → Prop
  | .dead => p.at_ id = none
  | .row t xs => (p.at_ id = some none ∧ xs = []) ∨ ∃ g cur, p.at_ id = some (some g) ∧ w.heap[g]? = some (.cells cur t (0, 0)) ∧ xs.length ≤ cur.size ∧
      ∀ (i : Nat) (h : i < xs.length), ∃ v, cur[i]? = some v ∧ RepC p w v xs[i]
  | .map kv => ∃ g es clock, p.at_ id = some (some g) ∧ w.heap[g]? = some (.map es clock) ∧ es.toList.length = kv.length ∧
      ∀ (i : Nat) (h : i < kv.length) (h' : i < es.toList.length), Rep1 p w es.toList[i].key kv[i].1 ∧ Rep1 p w es.toList[i].val kv[i].2
  | .iter s pos => ∃ g, p.at_ id = some (some g) ∧ w.heap[g]? = some (.stringIter s pos)
structure RH (p : Pl) (H : List Blk) (w : World) : Prop where
  n : p.n = H.length
  out : ∀ id, p.n ≤ id → p.at_ id = none
  inj : ∀ i j g, p.at_ i = some (some g) → p.at_ j = some (some g) → i = j
  blk : ∀ (id : Nat) (h : id < H.length), BlkIs p w id H[id]
  xs : ∀ g, p.x g → g < w.heap.size ∧ ¬ p.own g

structure Step (p : Pl) (w : World) (p' : Pl) (w' : World) : Prop where
  os : w'.os = w.os
  tape : w'.tape = w.tape
  output : w'.output = w.output
  size : w.heap.size ≤ w'.heap.size
  n : p.n ≤ p'.n
  keep : ∀ id q, id < p.n → p'.at_ id = some q → p.at_ id = some q ∧ ∀ g, q = some g → rowSize w' g = rowSize w g
  old : ∀ g, g < w.heap.size → p'.own g → p.own g
  froz : ∀ g, g < w.heap.size → ¬ p.own g → w'.heap[g]? = w.heap[g]?
  x : p'.x = p.x
theorem Step.oldM {p w p' w'} (h : Step p w p' w') (g : Nat) (hg : g < w.heap.size) (hm : p'.M g) : p.M g := hm.imp (h.old g hg) fun hx => h.x ▸ hx
theorem Step.frozM {p w p' w'} (h : Step p w p' w') (g : Nat) (hg : g < w.heap.size) (hm : ¬ p.M g) : w'.heap[g]? = w.heap[g]? := h.froz g hg fun ho => hm (Or.inl ho)

theorem Step.refl (p : Pl) (w : World) : Step p w p w := ⟨rfl, rfl, rfl, Nat.le_refl _, Nat.le_refl _, fun _ _ _ h => ⟨h, fun _ _ => rfl⟩, fun _ _ h => h, fun _ _ _ => rfl, rfl⟩
theorem Step.trans {p w p' w' p'' w''} (h : Step p w p' w') (k : Step p' w' p'' w'') : Step p w p'' w'' where
  os := k.os.trans h.os
  tape := k.tape.trans h.tape
  output := k.output.trans h.output
  size := Nat.le_trans h.size k.size
  n := Nat.le_trans h.n k.n
  keep := fun id g hi hg => by
    obtain ⟨h1, h2⟩ := k.keep id g (Nat.lt_of_lt_of_le hi h.n) hg
    obtain ⟨h3, h4⟩ := h.keep id g hi h1
    exact ⟨h3, fun g' hg' => (h2 g' hg').trans (h4 g' hg')⟩
  old := fun g hg hm => h.old g hg (k.old g (Nat.lt_of_lt_of_le hg h.size) hm)
  froz := fun g hg hm => (k.froz g (Nat.lt_of_lt_of_le hg h.size) (fun hm' => hm (h.old g hg hm'))).trans (h.froz g hg hm)
  x := k.x.trans h.x

theorem RepF.step {p w p' w'} (hs : Step p w p' w') {v : Value} {a : AV} (h : RepF p.M w v a) : RepF p'.M w' v a := by
  induction h with
  | bool b => exact .bool b
  | int k n => exact .int k n
  | str s => exact .str s
  | nilptr => exact .nilptr
  | nilsl => exact .nilsl
  | nilmap => exact .nilmap
  | nilfn => exact .nilfn
  | fn f => exact .fn f
  | fptr a cells vs hc hr ih =>
    refine .fptr a cells vs (fun i hi => ?_) ih
    obtain ⟨h1, h2, h3, h4, h5⟩ := hc i hi
    exact ⟨h1, Nat.lt_of_lt_of_le h2 hs.size, fun hm => h3 (hs.oldM _ h2 hm), (World.cell?_of_block (w := w) (a := ⟨a.block, a.off + i, none⟩) (hs.frozM _ h2 h3)).trans h4, h5⟩
  | slv oa a len cap sz cells vs ho hl hcap hcm hsz hc hr ih =>
    refine .slv oa a len cap sz cells vs ho hl hcap hcm hsz (fun i hi => ?_) ih
    obtain ⟨h1, h2, h3, h4, h5⟩ := hc i hi
    exact ⟨h1, Nat.lt_of_lt_of_le h2 hs.size, fun hm => h3 (hs.oldM _ h2 hm), (World.cell?_of_block (w := w) (a := ⟨a.block, a.off + i, none⟩) (hs.frozM _ h2 h3)).trans h4, h5⟩
theorem Rep0.step {p w p' w'} (hs : Step p w p' w') {v : Value} {a : AV} (h : Rep0 p w v a) : Rep0 p' w' v a := by
  cases a with
  | junk => trivial
  | sl id st len sz =>
    refine ⟨Nat.lt_of_lt_of_le h.1 hs.n, fun q hq => ?_⟩
    obtain ⟨h1, h2⟩ := hs.keep id q h.1 hq
    obtain ⟨a, cap, a1, a2, a3, a4, a5, a6⟩ := h.2 q h1
    refine ⟨a, cap, a1, a2, a3, a4, a5, a6.imp (fun h => h) fun ⟨g, b1, b2, b3⟩ => ⟨g, b1, b2, by rw [h2 g b1]; exact b3⟩⟩
  | slc id st len c sz =>
    refine ⟨Nat.lt_of_lt_of_le h.1 hs.n, fun q hq => ?_⟩
    obtain ⟨h1, h2⟩ := hs.keep id q h.1 hq
    obtain ⟨a, cap, a1, a2, a3, a4, a5, a6, a7⟩ := h.2 q h1
    refine ⟨a, cap, a1, a2, a3, a4, a5, a6.imp (fun h => h) fun ⟨g, b1, b2, b3⟩ => ⟨g, b1, b2, by rw [h2 g b1]; exact b3⟩, a7⟩
  | ptr id o => exact ⟨Nat.lt_of_lt_of_le h.1 hs.n, fun g hg => h.2 g (hs.keep id g h.1 hg).1⟩
  | map id => exact ⟨Nat.lt_of_lt_of_le h.1 hs.n, fun g hg => h.2 g (hs.keep id g h.1 hg).1⟩
  | iter id => exact ⟨Nat.lt_of_lt_of_le h.1 hs.n, fun g hg => h.2 g (hs.keep id g h.1 hg).1⟩
  | _ => (simp only [Rep0] at h ⊢; exact RepF.step hs h)
theorem RepL.mono {R R' : Value → AV → Prop} {vs : List Value} {xs : List AV} (h : RepL R vs xs) (hr : ∀ v a, R v a → R' v a) : RepL R' vs xs := ⟨h.1, fun i h1 h2 => hr _ _ (h.2 i h1 h2)⟩
theorem RepC.step {p w p' w'} (hs : Step p w p' w') {v : Value} {a : AV} (h : RepC p w v a) : RepC p' w' v a := ⟨h.1, h.2.step hs⟩
theorem Rep1.step {p w p' w'} (hs : Step p w p' w') {v : Value} {a : AV} (h : Rep1 p w v a) : Rep1 p' w' v a := by
  cases a with
  | agg cs => obtain ⟨vs, h1, h2⟩ := h; exact ⟨vs, h1, h2.mono fun _ _ => RepC.step hs⟩
  | fn f fs cs => obtain ⟨vs, us, h1, h2, h3⟩ := h; exact ⟨vs, us, h1, h2.mono fun _ _ => Rep0.step hs, h3.mono fun _ _ => Rep0.step hs⟩
  | _ => (simp only [Rep1] at h ⊢; exact Rep0.step hs h)
theorem RepT.step {p w p' w'} (hs : Step p w p' w') {v : Value} {a : AV} (h : RepT p w v a) : RepT p' w' v a := by
  cases a with
  | tuple ts => obtain ⟨vs, h1, h2⟩ := h; exact ⟨vs, h1, h2.mono fun _ _ => Rep1.step hs⟩
  | _ => (simp only [RepT] at h ⊢; exact Rep1.step hs h)
theorem Rep.step {p w p' w'} (hs : Step p w p' w') {v : Value} {a : AV} (h : Rep p w v a) : Rep p' w' v a := by
  cases a with
  | cnd g x => exact ⟨fun hg => (h.1 hg).step hs, h.2⟩
  | _ => (simp only [Rep] at h ⊢; exact RepT.step hs h)
theorem RepL.nil {R : Value → AV → Prop} : RepL R [] [] := ⟨rfl, fun i h => by simp at h⟩
theorem RepL.cons {R : Value → AV → Prop} {v a vs xs} (h : R v a) (k : RepL R vs xs) : RepL R (v :: vs) (a :: xs) :=
  ⟨by simp [k.1], fun i h1 h2 => by cases i with | zero => exact h | succ i => exact k.2 i (by simpa using h1) (by simpa using h2)⟩
theorem RepL.append {R : Value → AV → Prop} {vs xs us bs} (h : RepL R vs xs) (k : RepL R us bs) : RepL R (vs ++ us) (xs ++ bs) := by
  refine ⟨by rw [List.length_append, List.length_append, h.1, k.1], fun i h1 h2 => ?_⟩
  by_cases hi : i < vs.length
  · rw [List.getElem_append_left hi, List.getElem_append_left (by rw [← h.1]; exact hi)]; exact h.2 i _ _
  · rw [List.getElem_append_right (by omega), List.getElem_append_right (by rw [← h.1]; omega)]
    simp only [h.1]
    exact k.2 _ _ _
theorem RepL.take {R : Value → AV → Prop} {vs xs} (h : RepL R vs xs) (n : Nat) : RepL R (vs.take n) (xs.take n) :=
  ⟨by simp [h.1], fun i h1 h2 => by rw [List.getElem_take, List.getElem_take]; exact h.2 i _ _⟩
theorem RepL.drop {R : Value → AV → Prop} {vs xs} (h : RepL R vs xs) (n : Nat) : RepL R (vs.drop n) (xs.drop n) :=
  ⟨by simp [h.1], fun i h1 h2 => by rw [List.getElem_drop, List.getElem_drop]; exact h.2 _ _ _⟩

/-- a world in which nothing that stood has turned -/
theorem Step.of_below {p : Pl} {w w' : World} (h : Below w.heap.size w w') (hp : ∀ g, p.own g → g < w.heap.size) : Step p w p w' where
  os := h.os
  tape := h.tape
  output := h.output
  size := h.size
  n := Nat.le_refl _
  keep := fun id q _ hq => ⟨hq, fun g hg => by unfold rowSize; rw [h.block g (hp g ⟨id, hg ▸ hq⟩)]⟩
  old := fun _ _ h => h
  froz := fun g hg _ => h.block g hg
  x := rfl
theorem RH.lt {p H w} (h : RH p H w) (g : Nat) (hg : p.own g) : g < w.heap.size := by
  obtain ⟨id, hid⟩ := hg
  have hlt : id < H.length := by
    rcases Nat.lt_or_ge id H.length with h1 | h1
    · exact h1
    · rw [h.out id (by rw [h.n]; exact h1)] at hid; cases hid
  have hb := h.blk id hlt
  cases hH : H[id] with
  | dead => rw [hH] at hb; unfold BlkIs at hb; rw [hb] at hid; cases hid
  | row t xs =>
    rw [hH] at hb
    rcases hb with ⟨h1, _⟩ | ⟨g', cur, h1, h2, _⟩ <;> rw [h1] at hid <;> cases hid
    exact (Array.getElem?_eq_some_iff.1 h2).1
  | map kv => rw [hH] at hb; obtain ⟨g', es, cl, h1, h2, _⟩ := hb; rw [h1] at hid; cases hid; exact (Array.getElem?_eq_some_iff.1 h2).1
  | iter s pos => rw [hH] at hb; obtain ⟨g', h1, h2⟩ := hb; rw [h1] at hid; cases hid; exact (Array.getElem?_eq_some_iff.1 h2).1
/-- a block's contents at a later world in which it has not turned -/
theorem BlkIs.step {p w p' w'} (hs : Step p w p' w') {id : Nat} {b : Blk} (h : BlkIs p w id b) (hat : p'.at_ id = p.at_ id) (hb : ∀ g, p.at_ id = some (some g) → w'.heap[g]? = w.heap[g]?) : BlkIs p' w' id b := by
  cases b with
  | dead => exact hat.trans h
  | row t xs =>
    rcases h with ⟨h1, h2⟩ | ⟨g, cur, h1, h2, h3, h4⟩
    · exact Or.inl ⟨hat.trans h1, h2⟩
    · exact Or.inr ⟨g, cur, hat.trans h1, (hb g h1).trans h2, h3, fun i hi => let ⟨v, a, b⟩ := h4 i hi; ⟨v, a, b.step hs⟩⟩
  | map kv => obtain ⟨g, es, cl, h1, h2, h3, h4⟩ := h; exact ⟨g, es, cl, hat.trans h1, (hb g h1).trans h2, h3, fun i hi hi' => ⟨(h4 i hi hi').1.step hs, (h4 i hi hi').2.step hs⟩⟩
  | iter s pos => obtain ⟨g, h1, h2⟩ := h; exact ⟨g, hat.trans h1, (hb g h1).trans h2⟩
theorem RH.below {p H w w'} (h : RH p H w) (hb : Below w.heap.size w w') : RH p H w' :=
  ⟨h.n, h.out, h.inj, fun id hid => (h.blk id hid).step (Step.of_below hb h.lt) rfl fun g hg => hb.block g (h.lt g ⟨id, hg⟩), fun g hg => ⟨Nat.lt_of_lt_of_le (h.xs g hg).1 hb.size, (h.xs g hg).2⟩⟩
end Go.Proofs.YthcaeofgegfncaaDoor.V
namespace Go.Proofs.YthcaeofgegfncaaDoor.V
open Go Go.RowKit
set_option linter.unusedSimpArgs false
set_option linter.unusedVariables false

structure St where
  t : List AV
  H : List Blk

def const0 : Value → Option AV
  | .bool b => some (.bool b)
  | .int k n => some (.int k n)
  | .string s => some (.str s)
  | .pointer none => some .nilptr
  | .slice none 0 0 => some .nilsl
  | .map none => some .nilmap
  | .nilFunc => some .nilfn
  | .func f a b => if a.isEmpty && b.isEmpty then some (.fn f [] []) else none
  | _ => none
def consts : List Value → Option (List AV)
  | [] => some []
  | v :: r => match const0 v, consts r with | some a, some l => some (a :: l) | _, _ => none
def constAV : Value → AV
  | .agg cs => match consts cs.toList with | some l => .agg l | none => .junk
  | v => (const0 v).getD .junk
def St.ev (s : St) : Operand → AV
  | .tmp i => s.t.getD i .junk
  | .const v => constAV v
  | .func f => .fn (.func f) [] []
  | .global _ => .junk
def St.put (s : St) (d : Option Tmp) (v : AV) : St := match d with | some i => ⟨s.t.set i v, s.H⟩ | none => s

structure Rst (p : Pl) (s : St) (a : Act) (w : World) : Prop where
  defers : a.defers = []
  reps : RepL (Rep p w) a.tmps.toList s.t
  heap : RH p s.H w

theorem const0_rep {p : Pl} {w : World} {v : Value} {a : AV} (h : const0 v = some a) : v.oneCell' = true ∧ RepF p.M w v a ∧ Rep0 p w v a ∧ Rep p w v a := by
  unfold const0 at h
  split at h
  case h_8 f x y =>
    split at h
    · rename_i he
      simp only [Bool.and_eq_true, Array.isEmpty_iff] at he
      obtain ⟨rfl, rfl⟩ := he
      cases h
      exact ⟨rfl, .fn f, .fn f, ⟨#[], #[], rfl, RepL.nil, RepL.nil⟩⟩
    · cases h
  all_goals (cases h <;> exact ⟨rfl, by constructor, by constructor, by constructor⟩)
theorem consts_rep {p : Pl} {w : World} : ∀ {vs : List Value} {xs : List AV}, consts vs = some xs → RepL (RepC p w) vs xs
  | [], xs, h => by cases h; exact RepL.nil
  | v :: r, xs, h => by
    unfold consts at h
    split at h
    · rename_i a l ha hl
      cases h
      exact RepL.cons ⟨(const0_rep (p := p) (w := w) ha).1, (const0_rep ha).2.2.1⟩ (consts_rep hl)
    · cases h
theorem constAV_rep (p : Pl) (w : World) (v : Value) : Rep p w v (constAV v) := by
  unfold constAV
  split
  · rename_i cs
    split
    · rename_i l hl; exact ⟨cs, rfl, consts_rep hl⟩
    · trivial
  · cases h : const0 v with
    | none => trivial
    | some a => exact (const0_rep h).2.2.2
theorem Rst.ev {p s a w} (h : Rst p s a w) (x : Operand) : Rep p w (a.eval x) (s.ev x) := by
  cases x with
  | tmp i =>
    show Rep p w (a.tmps.getD i undef) (s.t.getD i .junk)
    by_cases hi : i < s.t.length
    · have h1 : i < a.tmps.toList.length := by rw [h.reps.1]; exact hi
      have := h.reps.2 i h1 hi
      simp only [List.getD_eq_getElem?_getD, List.getElem?_eq_getElem hi, Option.getD_some]
      rw [Array.getD_eq_getD_getElem?, Array.getElem?_eq_getElem (by simpa using h1)]
      simpa using this
    · simp only [List.getD_eq_getElem?_getD, List.getElem?_eq_none (Nat.le_of_not_lt hi), Option.getD_none]
      trivial
  | const v => exact constAV_rep p w v
  | func f => exact ⟨#[], #[], rfl, RepL.nil, RepL.nil⟩
  | global g => trivial
theorem Rst.put {p s a w} (h : Rst p s a w) (d : Option Tmp) {v : Value} {x : AV} (hv : Rep p w v x) : Rst p (s.put d x) (a.put d v) w := by
  cases d with
  | none => exact h
  | some d =>
    refine ⟨h.defers, ⟨?_, fun i h1 h2 => ?_⟩, h.heap⟩
    · simp only [Act.put, St.put, Array.toList_setIfInBounds, List.length_set]; exact h.reps.1
    · simp only [Act.put, St.put, Array.toList_setIfInBounds, List.getElem_set]
      by_cases hi : d = i
      · subst hi; rw [if_pos rfl, if_pos rfl]; exact hv
      · rw [if_neg hi, if_neg hi]; exact h.reps.2 i _ _
theorem Rst.step {p s a w p' w'} (h : Rst p s a w) (hs : Step p w p' w') {H' : List Blk} (hH : RH p' H' w') : Rst p' ⟨s.t, H'⟩ a w' := ⟨h.defers, h.reps.mono fun _ _ => Rep.step hs, hH⟩
theorem Rst.below {p s a w w'} (h : Rst p s a w) (hb : Below w.heap.size w w') : Rst p s a w' := h.step (Step.of_below hb h.heap.lt) (h.heap.below hb)

def selT (ks : List Nat) : Nat → List AV → List AV
  | _, [] => []
  | i, x :: r => (bif ks.contains i then x else .junk) :: selT ks (i + 1) r
def selS (ks : List Nat) (s : St) : St := ⟨selT ks 0 s.t, s.H⟩
theorem selT_rep {p : Pl} {w : World} {ks : List Nat} : ∀ {i : Nat} {vs : List Value} {xs : List AV}, RepL (Rep p w) vs xs → RepL (Rep p w) vs (selT ks i xs)
  | _, [], [], _ => RepL.nil
  | i, v :: vs, x :: xs, h => by
    have h0 := h.2 0 (by simp) (by simp)
    refine RepL.cons ?_ (selT_rep ⟨by simpa using h.1, fun j h1 h2 => by have := h.2 (j + 1) (by simpa using h1) (by simpa using h2); simpa using this⟩)
    cases ks.contains i with
    | true => exact h0
    | false => trivial
  | _, [], _ :: _, h => absurd h.1 (by simp)
  | _, _ :: _, [], h => absurd h.1 (by simp)
theorem Rst.sel {p s a w} (h : Rst p s a w) (ks : List Nat) : Rst p (selS ks s) a w := ⟨h.defers, selT_rep h.reps, h.heap⟩

def WpV (P : Program) (c : Code) (Q : Exit → St → Prop) (s : St) : Prop :=
  ∀ (p : Pl) (w : World) (a : Act) (Qr : Exit → Act → World → Prop), Rst p s a w → (∀ e s' p' a' w', Q e s' → Rst p' s' a' w' → Step p w p' w' → Qr e a' w') → c.wp P Qr a w
def RunN (P : Program) (ops : Array Oper) (Q : Exit → St → Prop) (l : List Nat) (s : St) : Prop :=
  ∀ (p : Pl) (w : World) (a : Act) (Qr : Exit → Act → World → Prop), Rst p s a w → (∀ e s' p' a' w', Q e s' → Rst p' s' a' w' → Step p w p' w' → Qr e a' w') → wpOps P ops Qr l a w
def RunD (P : Program) (ops : Array Oper) (Q : Exit → St → Prop) (n : Nat) (listed : Array Bool) (s : St) : Prop :=
  ∀ (p : Pl) (w : World) (a : Act) (K : Act → World → Prop), Rst p s a w → (∀ s' p' a' w', Q .normal s' → Rst p' s' a' w' → Step p w p' w' → K a' w') →
    wpAnyH P .any ops (fun e a' w' => e = .normal ∧ K a' w') (Below w.heap.size w) n listed a w
def OpV (P : Program) (o : Oper) (s : St) (R : AV → List Blk → Prop) : Prop :=
  ∀ (p : Pl) (w : World) (a : Act) (K : Act → World → Prop) (Q : Exit → Act → World → Prop), Rst p s a w → (∀ v av H' p' w', R av H' → RH p' H' w' → Rep p' w' v av → Step p w p' w' → K (a.put o.dst v) w') → o.wp P a w K Q
def OpB (P : Program) (o : Oper) (s : St) (R : AV → List Blk → Prop) : Prop :=
  ∀ (p : Pl) (w : World) (a : Act) (K : Act → World → Prop) (Q : Exit → Act → World → Prop), Rst p s a w → (∀ v av H' p' w', R av H' → RH p' H' w' → Rep p' w' v av → Step p w p' w' → Below w.heap.size w w' → K (a.put o.dst v) w') → o.wp P a w K Q
def CallsV (P : Program) (f : FuncId) (args : List AV) (H : List Blk) (R : AV → List Blk → Prop) : Prop :=
  ∀ (p : Pl) (w : World) (vals : Array Value), RH p H w → RepL (Rep p w) vals.toList args →
    Calls P f vals w fun e w' => ∃ v av H' p', e = .returned v ∧ R av H' ∧ RH p' H' w' ∧ Rep p' w' v av ∧ Step p w p' w'

section
variable {P : Program} {Q : Exit → St → Prop} {s : St}
theorem WpV.mono {c : Code} {Q' : Exit → St → Prop} (h : WpV P c Q s) (hq : ∀ e s, Q e s → Q' e s) : WpV P c Q' s :=
  fun p w a Qr hR hQ => h p w a Qr hR fun e s' p' a' w' q => hQ e s' p' a' w' (hq e s' q)
theorem WpV.weaken {c : Code} {s' : St} (h : WpV P c Q s') (hw : ∀ p a w, Rst p s a w → ∃ p', Rst p' s' a w ∧ Step p w p' w) : WpV P c Q s := fun p w a Qr hR hQ => by
  obtain ⟨p', h1, h2⟩ := hw p a w hR
  exact h p' w a Qr h1 fun e s1 p1 a1 w1 q r k => hQ e s1 p1 a1 w1 q r (h2.trans k)
theorem wpV_skip (h : Q .normal s) : WpV P .skip Q s := fun p w a _ hR hQ => wp_skip (hQ _ _ _ _ _ h hR (Step.refl p w))
theorem wpV_ret (h : Q .ret s) : WpV P .ret Q s := fun p w a _ hR hQ => wp_ret (hQ _ _ _ _ _ h hR (Step.refl p w))
theorem wpV_exit {id : Nat} (h : Q (.exit id) s) : WpV P (.exit id) Q s := fun p w a _ hR hQ => wp_exit (hQ _ _ _ _ _ h hR (Step.refl p w))
def thenV (P : Program) (y : Code) (Q : Exit → St → Prop) : Exit → St → Prop
  | .normal, s => WpV P y Q s
  | e, s => Q e s
theorem wpV_seq {x y : Code} (h : WpV P x (thenV P y Q) s) : WpV P (.seq x y) Q s := fun p w a Qr hR hQ => by
  refine wp_seq (h p w a _ hR fun e s' p' a' w' hq hR' hS => ?_)
  cases e with
  | normal => exact hq p' w' a' Qr hR' fun e s2 p2 a2 w2 q2 r2 k2 => hQ e s2 p2 a2 w2 q2 r2 (hS.trans k2)
  | _ => exact hQ _ _ _ _ _ hq hR' hS
theorem rep_bool {p w v b} (h : Rep p w v (.bool b)) : v = .bool b := by
  simp only [Rep, RepT, Rep1, Rep0] at h; cases h; rfl
theorem wpV_cond {c : Operand} {x y : Code} (b : Bool) (hc : s.ev c = .bool b) (h1 : b = true → WpV P x Q s) (h2 : b = false → WpV P y Q s) : WpV P (.cond c x y) Q s := fun p w a Qr hR hQ => by
  have hb : a.eval c = .bool b := rep_bool (hc ▸ hR.ev c)
  exact wp_cond_split hb (fun hb => h1 hb p w a Qr hR hQ) (fun hb => h2 hb p w a Qr hR hQ)
theorem wpV_yes {c : Operand} {x y : Code} (b : Bool) (hc : s.ev c = .bool b) (hb : b = true) (h : WpV P x Q s) : WpV P (.cond c x y) Q s := wpV_cond b hc (fun _ => h) (fun h => by rw [hb] at h; cases h)
theorem wpV_no {c : Operand} {x y : Code} (b : Bool) (hc : s.ev c = .bool b) (hb : b = false) (h : WpV P y Q s) : WpV P (.cond c x y) Q s := wpV_cond b hc (fun h => by rw [hb] at h; cases h) (fun _ => h)
def blockV (id : Nat) (Q : Exit → St → Prop) : Exit → St → Prop
  | .exit id', s => if id' = id then Q .normal s else Q (.exit id') s
  | e, s => Q e s
theorem wpV_block {id : Nat} {c : Code} (h : WpV P c (blockV id Q) s) : WpV P (.block id c) Q s := fun p w a Qr hR hQ => by
  refine wp_block (h p w a _ hR fun e s' p' a' w' hq hR' hS => ?_)
  cases e with
  | exit id' =>
    simp only [blockV, Exit.inBlock] at hq ⊢
    split at hq <;> rename_i he
    · rw [if_pos he]; exact hQ _ _ _ _ _ hq hR' hS
    · rw [if_neg he]; exact hQ _ _ _ _ _ hq hR' hS
  | _ => exact hQ _ _ _ _ _ hq hR' hS
def loopV (I : Nat → St → Prop) (ks : List Nat) (n : Nat) (Q : Exit → St → Prop) : Exit → St → Prop
  | .normal, s => ∃ m, m < n ∧ I m (selS ks s)
  | e, s => Q e s
def wanted (ops : Array Oper) (s : St) (o : Oper) : Option Bool :=
  match o.guard with
  | none => some true
  | some (j, want) => match (ops[j]?).bind (·.dst) with
    | some d => match s.t.getD d .junk with | .bool b => some (b == want) | _ => none
    | none => none
theorem wanted_of {ops : Array Oper} {s : St} {o : Oper} {p a w} (hR : Rst p s a w) {b : Bool} (h : wanted ops s o = some b) : Region.wanted o (yielded ops a.tmps) = b := by
  unfold wanted at h
  unfold Region.wanted
  split at h
  · rename_i hg; rw [hg]; cases h; rfl
  · rename_i j want hg
    rw [hg]
    split at h
    · rename_i d hd
      split at h
      · rename_i c hc
        cases h
        have hv := hR.ev (.tmp d)
        rw [show s.ev (.tmp d) = .bool c from hc] at hv
        have hv := rep_bool hv
        have h2 : a.tmps[d]? = some (.bool c) := by
          have h3 : a.tmps.getD d undef = .bool c := hv
          rw [Array.getD_eq_getD_getElem?] at h3
          cases h4 : a.tmps[d]? with
          | none => rw [h4] at h3; cases h3
          | some x => rw [h4] at h3; simpa using h3
        simp only [yielded, hd, Option.bind_some, h2]
        cases c <;> cases want <;> rfl
      · cases h
    · cases h
theorem wpV_region {id : Nat} {ops : Array Oper} (h : RunN P ops Q (List.range ops.size) s) : WpV P (.region id ops false) Q s := fun p w a Qr hR hQ => wp_region (h p w a Qr hR hQ)
theorem runN_done (h : Q .normal s) {ops : Array Oper} : RunN P ops Q [] s := fun p w _ _ hR hQ => hQ _ _ _ _ _ h hR (Step.refl p w)
theorem runN_op {ops : Array Oper} {i : Nat} {l : List Nat} {o : Oper} (ho : ops[i]? = some o) (hw : wanted ops s o = some true) (h : OpV P o s fun av H' => RunN P ops Q l (St.put ⟨s.t, H'⟩ o.dst av)) : RunN P ops Q (i :: l) s := fun p w a Qr hR hQ => by
  rw [wpOps_cons]
  unfold wpOp
  rw [ho]
  simp only [wanted_of hR hw, if_true]
  refine Or.inl (h p w a _ _ hR fun v av H' p' w' hr hH hv hS => ?_)
  exact hr p' w' _ Qr (Rst.put (hR.step hS hH) _ hv) fun e s2 p2 a2 w2 q r k => hQ e s2 p2 a2 w2 q r (hS.trans k)
theorem RunN.weaken {ops : Array Oper} {l : List Nat} {s' : St} (h : RunN P ops Q l s') (hw : ∀ p a w, Rst p s a w → ∃ p', Rst p' s' a w ∧ Step p w p' w) : RunN P ops Q l s := fun p w a Qr hR hQ => by
  obtain ⟨p', h1, h2⟩ := hw p a w hR
  exact h p' w a Qr h1 fun e s1 p1 a1 w1 q r k => hQ e s1 p1 a1 w1 q r (h2.trans k)

theorem wpAnyH_weak {ops : Array Oper} {Qr : Exit → Act → World → Prop} {S S' : World → Prop} (hS : ∀ w, S' w → S w) : ∀ (n : Nat) (listed : Array Bool) (a : Act) (w : World), wpAnyH P .any ops Qr S' n listed a w → wpAnyH P .any ops Qr S n listed a w
  | 0, _, _, _, h => h
  | n + 1, _, _, _, h => ⟨h.1, fun i hi => wpOp_mono (fun a' w' h' => ⟨hS _ h'.1, wpAnyH_weak hS n _ a' w' h'.2⟩) (h.2 i hi)⟩
/-- a reading operation -/
def PureV (P : Program) (o : Oper) (s : St) (x : AV) : Prop :=
  ∀ (p : Pl) (w : World) (a : Act), Rst p s a w → ∃ v, Rep p w v x ∧ ∀ w', Below w.heap.size w w' → (execOp a.eval o).run P w' = .ok (.value v) w'
theorem runD_one {ops : Array Oper} {n : Nat} {listed : Array Bool} (i : Nat) {o : Oper} (ho : ops[i]? = some o) (hr : Region.ready .any ops listed = [i]) (hw : wanted ops s o = some true)
    (h : OpB P o s fun av H' => RunD P ops Q n (listed.setIfInBounds i true) (St.put ⟨s.t, H'⟩ o.dst av)) : RunD P ops Q (n + 1) listed s := fun p w a K hR hQ => by
  refine wpAnyH_all hr (by simp) fun j hj => ?_
  obtain rfl : j = i := by simpa using hj
  unfold wpOp
  rw [ho]
  simp only [wanted_of hR hw, if_true]
  refine Or.inl (h p w a _ _ hR fun v av H' p' w' hr hH hv hS hB => ⟨hB, ?_⟩)
  exact wpAnyH_weak (fun w'' hb => hB.trans (hb.mono hB.size)) _ _ _ _ (hr p' w' _ K (Rst.put (hR.step hS hH) _ hv) fun s2 p2 a2 w2 q r k => hQ s2 p2 a2 w2 q r (hS.trans k))
theorem RunD.weaken {ops : Array Oper} {n : Nat} {listed : Array Bool} {s' : St} (h : RunD P ops Q n listed s') (hw : ∀ p a w, Rst p s a w → ∃ p', Rst p' s' a w ∧ Step p w p' w) : RunD P ops Q n listed s := fun p w a K hR hQ => by
  obtain ⟨p', h1, h2⟩ := hw p a w hR
  exact h p' w a K h1 fun s1 p1 a1 w1 q r k => hQ s1 p1 a1 w1 q r (h2.trans k)
theorem PureV.opV {o : Oper} {x : AV} (h : PureV P o s x) {R : AV → List Blk → Prop} (hr : R x s.H) : OpV P o s R := fun p w a K Q' hR hK => by
  obtain ⟨v, hv, hrun⟩ := h p w a hR
  unfold Oper.wp
  rw [hrun w (Below.refl _ _)]
  exact hK v x s.H p w hr hR.heap hv (Step.refl _ _)
theorem OpB.opV {o : Oper} {R : AV → List Blk → Prop} (h : OpB P o s R) : OpV P o s R := fun p w a K Q' hR hK => h p w a K Q' hR fun v av H' p' w' a1 a2 a3 a4 _ => hK v av H' p' w' a1 a2 a3 a4
/-- replacing a slot by something weaker -/
theorem Rst.set {p s a w} (h : Rst p s a w) (i : Nat) (x : AV) (hx : ∀ v, Rep p w v (s.t.getD i .junk) → Rep p w v x) : Rst p ⟨s.t.set i x, s.H⟩ a w := by
  refine ⟨h.defers, ⟨by rw [List.length_set]; exact h.reps.1, fun j h1 h2 => ?_⟩, h.heap⟩
  rw [List.getElem_set]
  split
  · rename_i he
    subst he
    refine hx _ ?_
    have hl : i < s.t.length := by rw [← h.reps.1]; exact h1
    rw [List.getD_eq_getElem?_getD, List.getElem?_eq_getElem hl]
    exact h.reps.2 i h1 hl
  · exact h.reps.2 j h1 _
end

end Go.Proofs.YthcaeofgegfncaaDoor.V
namespace Go.Proofs.YthcaeofgegfncaaDoor.V
open Go Go.RowKit
set_option linter.unusedSimpArgs false
set_option linter.unusedVariables false

theorem exists_list {α : Type} {Pr : Nat → α → Prop} : ∀ (n : Nat), (∀ i, i < n → ∃ u, Pr i u) → ∃ us : List α, us.length = n ∧ ∀ (i : Nat) (h : i < us.length), Pr i us[i]
  | 0, _ => ⟨[], rfl, fun i h => by simp at h⟩
  | n + 1, h => by
    obtain ⟨us, h1, h2⟩ := exists_list n (fun i hi => h i (by omega))
    obtain ⟨u, hu⟩ := h n (by omega)
    refine ⟨us ++ [u], by simp [h1], fun i hi => ?_⟩
    by_cases he : i < us.length
    · rw [List.getElem_append_left he]; exact h2 i he
    · obtain rfl : i = n := by simp at hi; omega
      rw [List.getElem_append_right (by omega)]
      simpa [h1] using hu

/-- conditions, all of which are to hold -/
def allP : List Prop → Prop
  | [] => True
  | [c] => c
  | c :: r => c ∧ allP r
theorem allP_cons {c : Prop} {r : List Prop} : allP (c :: r) ↔ c ∧ allP r := by cases r <;> simp [allP]
theorem allP_append {a b : List Prop} : allP (a ++ b) ↔ allP a ∧ allP b := by
  induction a with
  | nil => simp [allP]
  | cons c r ih => rw [List.cons_append, allP_cons, allP_cons, ih, and_assoc]
/-- a condition that is reckoned out -/
def dec (b : Bool) : List Prop := bif b then [] else [False]
theorem allP_dec {b : Bool} : allP (dec b) ↔ b = true := by cases b <;> simp [dec, allP]
/-- the cells from an address on -/
def cellsAt (H : List Blk) : AV → Option (List AV)
  | .ptr id o => match H[id]? with | some (.row _ xs) => some (xs.drop o) | _ => none
  | .fptr cs => some cs
  | _ => none
def AtAddr (p : Pl) (w : World) (ad : Addr) (cs : List AV) : Prop :=
  ∀ (i : Nat) (h : i < cs.length), ad.spot = none ∧ ad.block < w.heap.size ∧ ∃ u, w.cell? ⟨ad.block, ad.off + i, none⟩ = some u ∧ RepC p w u cs[i]
theorem RepF.rep0 {p : Pl} {w : World} {v : Value} {a : AV} (h : RepF p.M w v a) : Rep0 p w v a := by
  cases h <;> constructor <;> assumption
theorem RepF.rep {p : Pl} {w : World} {v : Value} {a : AV} (h : RepF p.M w v a) : Rep p w v a := by
  cases h
  case fn f => exact ⟨#[], #[], rfl, RepL.nil, RepL.nil⟩
  all_goals (constructor <;> assumption)
theorem Rep0.rep {p : Pl} {w : World} {v : Value} {a : AV} (h : Rep0 p w v a) : Rep p w v a := by
  cases a
  case fn f x y => exact (RepF.rep h)
  case agg cs => cases h
  case tuple cs => cases h
  case cnd g x => cases h
  all_goals exact h
theorem getD_get (cs : List AV) (i : Nat) (h : i < cs.length) : cs.getD i .junk = cs[i] := by simp [List.getD_eq_getElem?_getD, h]
theorem at_fptr {p : Pl} {w : World} {v : Value} {cs : List AV} (h : Rep p w v (.fptr cs)) : ∃ ad, v = .pointer (some ad) ∧ AtAddr p w ad cs := by
  simp only [Rep, RepT, Rep1, Rep0] at h
  cases h with
  | fptr a cells vs hc hr =>
    refine ⟨a, rfl, fun i hi => ?_⟩
    obtain ⟨h1, h2, h3, h4, h5⟩ := hc i hi
    refine ⟨h1, h2, vs i, h4, h5, ?_⟩
    have := (hr i hi).rep0
    rwa [getD_get cs i hi] at this
theorem at_slv {p : Pl} {w : World} {v : Value} {len sz : Nat} {cs : List AV} (h : Rep p w v (.slv len sz cs)) : ∃ oa ad cap, v = .slice oa len cap ∧ (oa = some ad ∨ (oa = none ∧ cap = 0)) ∧ len ≤ cap ∧ cap ≤ maxLen ∧ 0 < sz ∧ cs.length = len * sz ∧ AtAddr p w ad cs := by
  simp only [Rep, RepT, Rep1, Rep0] at h
  cases h with
  | slv oa a len cap sz cells vs ho hl hcap hcm hsz hc hr =>
    refine ⟨oa, a, cap, rfl, ho, hcap, hcm, hsz, hl, fun i hi => ?_⟩
    obtain ⟨h1, h2, h3, h4, h5⟩ := hc i hi
    refine ⟨h1, h2, vs i, h4, h5, ?_⟩
    have := (hr i hi).rep0
    rwa [getD_get cs i hi] at this
theorem RH.row {p H w id t xs} (h : RH p H w) (hb : H[id]? = some (.row t xs)) : (p.at_ id = some none ∧ xs = []) ∨ ∃ g cur, p.at_ id = some (some g) ∧ w.heap[g]? = some (.cells cur t (0, 0)) ∧ xs.length ≤ cur.size ∧
      ∀ (i : Nat) (h : i < xs.length), ∃ v, cur[i]? = some v ∧ RepC p w v xs[i] := by
  obtain ⟨hl, he⟩ := List.getElem?_eq_some_iff.1 hb
  have := h.blk id hl
  rw [he] at this
  exact this
theorem RH.live {p H w id t xs} (h : RH p H w) (hb : H[id]? = some (.row t xs)) : ∃ q, p.at_ id = some q := by
  rcases h.row hb with ⟨h1, _⟩ | ⟨g, _, h1, _⟩ <;> exact ⟨_, h1⟩
theorem cellsAt_rep {p : Pl} {H : List Blk} {w : World} {v : Value} {a : AV} {cs : List AV} (hH : RH p H w) (h : Rep p w v a) (hc : cellsAt H a = some cs) : ∃ ad, v = .pointer (some ad) ∧ AtAddr p w ad cs := by
  unfold cellsAt at hc
  split at hc
  · rename_i id o
    split at hc
    · rename_i t xs hb
      cases hc
      rcases hH.row hb with ⟨h1, _⟩ | ⟨g, cur, h1, h2, h3, h4⟩
      · obtain ⟨g, hg, _⟩ := h.2 _ h1; cases hg
      · obtain ⟨g', hg', rfl⟩ := h.2 _ h1
        cases hg'
        refine ⟨_, rfl, fun i hi => ⟨rfl, (Array.getElem?_eq_some_iff.1 h2).1, ?_⟩⟩
        simp only [List.length_drop] at hi
        obtain ⟨u, hu, hr⟩ := h4 (o + i) (by omega)
        refine ⟨u, ?_, by rw [List.getElem_drop]; exact hr⟩
        simp only [World.cell?, h2, Option.isSome_none, Bool.false_eq_true, if_false]
        exact hu
    · cases hc
  · cases hc; exact at_fptr h
  · cases hc

theorem AtAddr.drop {p : Pl} {w : World} {ad : Addr} {cs : List AV} (h : AtAddr p w ad cs) (n : Nat) : AtAddr p w (ad.add n) (cs.drop n) := by
  intro i hi
  simp only [List.length_drop] at hi
  obtain ⟨h1, h2, u, h3, h4⟩ := h (n + i) (by omega)
  have he : ad.add n = ⟨ad.block, ad.off + n, none⟩ := by
    unfold Addr.add
    split
    · rename_i h0; subst h0; cases ad; simp_all
    · rfl
  rw [he, List.getElem_drop]
  exact ⟨rfl, h2, u, by rw [Nat.add_assoc]; exact h3, h4⟩
theorem AtAddr.take {p : Pl} {w : World} {ad : Addr} {cs : List AV} (h : AtAddr p w ad cs) (n : Nat) : AtAddr p w ad (cs.take n) := by
  intro i hi
  simp only [List.length_take] at hi
  rw [List.getElem_take]
  exact h i (by omega)
theorem add_none (ad : Addr) (h : ad.spot = none) (n : Nat) : ad.add n = ⟨ad.block, ad.off + n, none⟩ := by
  unfold Addr.add
  split
  · rename_i h0; subst h0; cases ad; simp_all
  · rfl
/-- the cells, as a list of values -/
theorem AtAddr.list {p : Pl} {w : World} {ad : Addr} {cs : List AV} (h : AtAddr p w ad cs) : ∃ us : List Value, RepL (RepC p w) us cs ∧ ∀ w', Below w.heap.size w w' → ∀ j v, us[j]? = some v → w'.cell? (ad.add j) = some v := by
  obtain ⟨us, h1, h2⟩ := exists_list (Pr := fun i u => ∀ (h : i < cs.length), ad.spot = none ∧ ad.block < w.heap.size ∧ w.cell? ⟨ad.block, ad.off + i, none⟩ = some u ∧ RepC p w u cs[i]) cs.length (fun i hi => by
    obtain ⟨a1, a2, u, a3, a4⟩ := h i hi
    exact ⟨u, fun _ => ⟨a1, a2, a3, a4⟩⟩)
  refine ⟨us, ⟨h1, fun i hi hi' => (h2 i hi hi').2.2.2⟩, fun w' hb j v hj => ?_⟩
  obtain ⟨hl, he⟩ := List.getElem?_eq_some_iff.1 hj
  obtain ⟨a1, a2, a3, _⟩ := h2 j hl (by rw [← h1]; exact hl)
  rw [add_none ad a1, ← he, hb.cell (p := ⟨ad.block, ad.off + j, none⟩) a2]
  exact a3
theorem RepL.agg {p : Pl} {w : World} {us : List Value} {cs : List AV} (h : RepL (RepC p w) us cs) : Rep p w (.agg us.toArray) (.agg cs) := ⟨us.toArray, rfl, by simpa using h⟩

def isAggT (P : Program) (t : TypeId) : Bool := match P.underlying t with | some (.struct _) => true | some (.array _ _) => true | _ => false
def sizeT (P : Program) (t : TypeId) : Nat := match P.info? t with | some i => i.size | none => 0
def knownT (P : Program) (t : TypeId) : Bool := (P.info? t).isSome && (P.underlying t).isSome
theorem run_isAgg {P : Program} {t : TypeId} (h : knownT P t = true) (w : World) : (isAgg t).run P w = .ok (isAggT P t) w := by
  unfold knownT at h
  simp only [Bool.and_eq_true, Option.isSome_iff_exists] at h
  obtain ⟨_, d, hd⟩ := h
  unfold isAgg isAggT
  simp only [Sem.run_bind, run_underlying hd, Result.andThen_ok, hd]
  cases d <;> rfl
theorem run_sizeT {P : Program} {t : TypeId} (h : knownT P t = true) (w : World) : (sizeOf t).run P w = .ok (sizeT P t) w := by
  unfold knownT at h
  simp only [Bool.and_eq_true, Option.isSome_iff_exists] at h
  obtain ⟨⟨i, hi⟩, _⟩ := h
  simp [sizeOf, typeInfo, sizeT, hi]

def Rd (P : Program) (p : Pl) (w : World) (s : Sem Value) (x : AV) : Prop := ∃ v, Rep p w v x ∧ ∀ w', Below w.heap.size w w' → s.run P w' = .ok v w'

def loadE (P : Program) (t : TypeId) (cs : List AV) : AV := bif isAggT P t then .agg (cs.take (sizeT P t)) else cs.headD .junk
theorem load_rd {P : Program} {p : Pl} {H : List Blk} {w : World} {v : Value} {a : AV} {cs : List AV} {t : TypeId} (hH : RH p H w) (h : Rep p w v a) (hc : cellsAt H a = some cs) (hk : knownT P t = true) (hl : (bif isAggT P t then sizeT P t else 1) ≤ cs.length) :
    Rd P p w (Instr.loadAt t v) (loadE P t cs) := by
  obtain ⟨ad, rfl, hat⟩ := cellsAt_rep hH h hc
  unfold loadE
  cases ha : isAggT P t with
  | true =>
    rw [ha] at hl
    simp only [cond_true] at hl ⊢
    obtain ⟨us, h1, h2⟩ := (hat.take (sizeT P t)).list
    refine ⟨.agg us.toArray, h1.agg, fun w' hb => ?_⟩
    have hlen : us.length = sizeT P t := by rw [h1.1, List.length_take]; omega
    have hload := run_loadCells_list (P := P) w' ad us (h2 w' hb)
    rw [hlen] at hload
    simp [Instr.loadAt, Instr.sureAddr, loadVar, run_isAgg hk, ha, run_sizeT hk, hload]
  | false =>
    rw [ha] at hl
    simp only [cond_false] at hl ⊢
    obtain ⟨h1, h2, u, h3, h4⟩ := hat 0 (by omega)
    have hh : cs.headD .junk = cs[0] := by
      cases cs with
      | nil => simp at hl
      | cons x r => rfl
    rw [hh]
    refine ⟨u, h4.2.rep, fun w' hb => ?_⟩
    have hcell : w'.cell? ad = some u := by
      rw [← h3, ← hb.cell (p := ⟨ad.block, ad.off + 0, none⟩) h2]
      cases ad; simp_all
    have hload : (load ad).run P w' = .ok u w' := by
      unfold load
      simp only [Sem.run, hcell]
    simp only [Instr.loadAt, Instr.sureAddr, loadVar, Sem.run_bind, Sem.run_pure, Result.andThen_ok, run_isAgg hk, ha, Bool.false_eq_true, if_false, hload]

def fieldOf (P : Program) (s : TypeId) (f : Nat) : Option Field := match P.underlying s with | some (.struct fs) => fs[f]? | _ => none
def addAV (a : AV) (n : Nat) : AV := match a with | .ptr id o => .ptr id (o + n) | .fptr cs => .fptr (cs.drop n) | _ => .junk
def isAddr : AV → Bool | .ptr _ _ | .fptr _ => true | _ => false
theorem RepF.fptr_of {p : Pl} {w : World} {ad : Addr} {cs : List AV} (h : RepF p.M w (.pointer (some ad)) (.fptr cs)) (n : Nat) : RepF p.M w (.pointer (some (ad.add n))) (.fptr (cs.drop n)) := by
  cases h with
  | fptr a cells vs hc hr =>
    refine .fptr _ _ (fun i => vs (n + i)) (fun i hi => ?_) (fun i hi => ?_)
    · simp only [List.length_drop] at hi
      obtain ⟨h1, h2, h3, h4, h5⟩ := hc (n + i) (by omega)
      rw [add_none ad h1]
      exact ⟨rfl, h2, h3, by rw [Nat.add_assoc]; exact h4, h5⟩
    · simp only [List.length_drop] at hi
      have := hr (n + i) (by omega)
      rwa [getD_get _ _ (by omega), ← List.getElem_drop (h := by rw [List.length_drop]; omega), ← getD_get] at this
theorem add_rep {p : Pl} {w : World} {v : Value} {a : AV} (h : Rep p w v a) (ha : isAddr a = true) (hlive : ∀ id o, a = .ptr id o → ∃ q, p.at_ id = some q) (n : Nat) : ∃ ad, v = .pointer (some ad) ∧ Rep p w (.pointer (some (ad.add n))) (addAV a n) := by
  cases a <;> simp [isAddr] at ha
  case ptr id o =>
    obtain ⟨g, hg⟩ := hlive id o rfl
    obtain ⟨g0, rfl, rfl⟩ := h.2 g hg
    refine ⟨_, rfl, h.1, fun q' hq' => ?_⟩
    rw [hg] at hq'
    cases hq'
    exact ⟨g0, rfl, by rw [add_none _ rfl]⟩
  case fptr cs =>
    have h' : RepF p.M w v (.fptr cs) := h
    obtain ⟨ad, rfl, _⟩ := at_fptr h
    exact ⟨ad, rfl, (h'.fptr_of n).rep⟩
def liveAddr (H : List Blk) : AV → Bool
  | .ptr id _ => match H[id]? with | some (.row _ _) => true | _ => false
  | .fptr _ => true
  | _ => false
theorem liveAddr_spec {p : Pl} {H : List Blk} {w : World} {a : AV} (hH : RH p H w) (h : liveAddr H a = true) : isAddr a = true ∧ ∀ id o, a = .ptr id o → ∃ q, p.at_ id = some q := by
  unfold liveAddr at h
  split at h
  · rename_i id o
    split at h
    · rename_i t xs hb
      obtain ⟨q, h1⟩ := hH.live hb
      exact ⟨rfl, fun id' o' he => by cases he; exact ⟨q, h1⟩⟩
    · cases h
  · exact ⟨rfl, fun id' o' he => by cases he⟩
  · cases h
theorem fieldAddr_rd {P : Program} {p : Pl} {H : List Blk} {w : World} {v : Value} {a : AV} {s : TypeId} {f : Nat} {fd : Field} (hH : RH p H w) (h : Rep p w v a) (hl : liveAddr H a = true) (hf : fieldOf P s f = some fd) (hk : knownT P fd.type = true) (hz : sizeT P fd.type ≠ 0) :
    Rd P p w (Instr.fieldAt s v f) (addAV a fd.offset) := by
  obtain ⟨h1, h2⟩ := liveAddr_spec hH hl
  obtain ⟨ad, rfl, hr⟩ := add_rep h h1 h2 fd.offset
  refine ⟨_, hr, fun w' _ => ?_⟩
  unfold fieldOf at hf
  split at hf
  · rename_i fs hu
    simp [Instr.fieldAt, run_underlying hu, hf, Instr.sureAddr, fieldPlace, run_sizeT hk, hz]
  · cases hf
/-- 'x[i]' of a slice, or through an array's address -/
def elemTy (P : Program) (t : TypeId) : TypeId := match P.underlying t with | some (.slice e) => e | some (.array _ e) => e | _ => 0
def indexAddrE (P : Program) (H : List Blk) (t : TypeId) (x : AV) (i : Int) : List Prop × AV :=
  match P.underlying t, x with
  | some (.slice e), .slv len sz cs => ((0 ≤ i ∧ i < len) :: dec (knownT P e && sizeT P e == sz), .fptr (cs.drop (i.toNat * sz)))
  | some (.slice e), .sl id st len sz => ((0 ≤ i ∧ i < len) :: dec (knownT P e && (sizeT P e == sz && (match H[id]? with | some (.row _ _) => true | _ => false))), .ptr id (st + i.toNat * sz))
  | some (.array n e), a => ((0 ≤ i ∧ i < n) :: dec (knownT P e && liveAddr H a), addAV a (i.toNat * sizeT P e))
  | _, _ => ([False], .junk)
theorem indexAddr_rd {P : Program} {p : Pl} {H : List Blk} {w : World} {v : Value} {x : AV} {t : TypeId} {k : IntKind} {i : Int} (hH : RH p H w) (h : Rep p w v x) (hok : allP (indexAddrE P H t x i).1) :
    Rd P p w (Instr.indexAt t v (.int k i)) (indexAddrE P H t x i).2 := by
  unfold indexAddrE at hok ⊢
  split at hok
  · rename_i e len sz cs hu
    simp only [hu]
    rw [allP_cons, allP_dec] at hok
    obtain ⟨⟨h0, h1⟩, h2⟩ := hok
    simp only [Bool.and_eq_true, beq_iff_eq] at h2
    have h' : RepF p.M w v (.slv len sz cs) := h
    cases h' with
    | slv oa a len cap sz cells vs ho hl hcap hcm hsz hc hr =>
      have hi : i.toNat < len := by omega
      obtain rfl : oa = some a := ho.resolve_right (fun hq => by omega)
      have hlt : i.toNat * sz < cs.length := by
        have : (i.toNat + 1) * sz ≤ len * sz := Nat.mul_le_mul_right _ hi
        rw [Nat.succ_mul] at this; omega
      have hf : RepF p.M w (.pointer (some a)) (.fptr cs) := .fptr a cs vs hc hr
      refine ⟨_, (hf.fptr_of (i.toNat * sz)).rep, fun w' _ => ?_⟩
      simp [Instr.indexAt, asIntOf, run_underlying hu, h0, h1, run_sizeT h2.1, h2.2]
  · rename_i e id st len sz hu
    simp only [hu]
    rw [allP_cons, allP_dec] at hok
    obtain ⟨⟨h0, h1⟩, h2⟩ := hok
    simp only [Bool.and_eq_true, beq_iff_eq] at h2
    obtain ⟨h2, h3, h4⟩ := h2
    split at h4
    · rename_i t' xs hb
      obtain ⟨q, hg⟩ := hH.live hb
      obtain ⟨a, cap, rfl, hcap, hcm, hsz, _, ha⟩ := h.2 q hg
      rcases ha with ha | ⟨g, rfl, rfl, ha⟩
      · omega
      · refine ⟨.pointer (some ⟨g, st + i.toNat * sz, none⟩), ⟨h.1, fun g' hg' => ?_⟩, fun w' _ => ?_⟩
        · rw [hg] at hg'; cases hg'; exact ⟨g, rfl, rfl⟩
        · simp [Instr.indexAt, asIntOf, run_underlying hu, h0, h1, run_sizeT h2, h3, add_none]
    · cases h4
  · rename_i n e hu
    simp only [hu]
    rw [allP_cons, allP_dec] at hok
    obtain ⟨⟨h0, h1⟩, h2⟩ := hok
    simp only [Bool.and_eq_true] at h2
    obtain ⟨h3, h4⟩ := liveAddr_spec hH h2.2
    obtain ⟨ad, rfl, hr⟩ := add_rep h h3 h4 (i.toNat * sizeT P e)
    refine ⟨_, hr, fun w' _ => ?_⟩
    simp [Instr.indexAt, asIntOf, run_underlying hu, Instr.sureAddr, h0, h1, run_sizeT h2.1]
  · exact hok.elim
def partE (P : Program) (t : TypeId) (cs : List AV) (off : Nat) : AV := bif isAggT P t then .agg ((cs.drop off).take (sizeT P t)) else cs.getD off .junk
theorem part_rd {P : Program} {p : Pl} {w : World} {vs : Array Value} {cs : List AV} {t : TypeId} {off : Nat} (h : RepL (RepC p w) vs.toList cs) (hk : knownT P t = true) (ho : off < cs.length) :
    Rd P p w (part t vs off) (partE P t cs off) := by
  unfold partE
  cases ha : isAggT P t with
  | true =>
    refine ⟨.agg (vs.extract off (off + sizeT P t)), ⟨_, rfl, ?_⟩, fun w' _ => by simp [part, run_isAgg hk, ha, run_sizeT hk]⟩
    rw [Array.toList_extract, List.extract_eq_take_drop]
    simp only [Nat.add_sub_cancel_left]
    exact (h.drop off).take _
  | false =>
    have hv : off < vs.toList.length := by rw [h.1]; exact ho
    refine ⟨vs[off]'(by simpa using hv), ?_, fun w' _ => ?_⟩
    · rw [cond_false, getD_get _ _ ho]
      have := (h.2 off hv ho).2.rep
      simpa using this
    · simp [part, run_isAgg hk, ha, Array.getElem?_eq_getElem (show off < vs.size by simpa using hv)]
theorem field_rd {P : Program} {p : Pl} {w : World} {v : Value} {cs : List AV} {s : TypeId} {f : Nat} {fd : Field} (h : Rep p w v (.agg cs)) (hf : fieldOf P s f = some fd) (hk : knownT P fd.type = true) (ho : fd.offset < cs.length) :
    Rd P p w (Instr.field s v f) (partE P fd.type cs fd.offset) := by
  obtain ⟨vs, rfl, hl⟩ := h
  obtain ⟨u, h1, h2⟩ := part_rd (P := P) (t := fd.type) hl hk ho
  refine ⟨u, h1, fun w' hb => ?_⟩
  unfold fieldOf at hf
  split at hf
  · rename_i fs hu
    simp [Instr.field, run_underlying hu, hf, asAgg, h2 w' hb]
  · cases hf
def byteAt (s : ByteArray) (i : Int) : Int := ((s.data.getD i.toNat 0).toNat : Int)
theorem index_str_rd {P : Program} {p : Pl} {w : World} {v : Value} {s : ByteArray} {t : TypeId} {k : IntKind} {i : Int} (h : Rep p w v (.str s)) (ht : P.underlying t = some .string) (h0 : 0 ≤ i ∧ i < s.size) :
    Rd P p w (Instr.index t v (.int k i)) (.int .u8 (byteAt s i)) := by
  have h' : RepF p.M w v (.str s) := h
  cases h'
  have hi : i.toNat < s.size := by omega
  have hi' : i.toNat < s.data.size := hi
  refine ⟨_, RepF.rep (.int _ _), fun w' _ => ?_⟩
  have h1 : s[i.toNat]? = some s[i.toNat] := by simp [hi]
  have h2 : byteAt s i = (s[i.toNat].toNat : Int) := by
    unfold byteAt
    rw [Array.getD_eq_getD_getElem?, Array.getElem?_eq_getElem hi']
    rfl
  simp only [Instr.index, asIntOf, Sem.run_bind, Sem.run_pure, Result.andThen_ok, run_underlying ht, if_pos h0.1, h1, h2]
theorem index_agg_rd {P : Program} {p : Pl} {w : World} {v : Value} {cs : List AV} {t e : TypeId} {n : Nat} {k : IntKind} {i : Int} (h : Rep p w v (.agg cs)) (ht : P.underlying t = some (.array n e)) (h0 : 0 ≤ i ∧ i < n) (hk : knownT P e = true) (ho : i.toNat * sizeT P e < cs.length) :
    Rd P p w (Instr.index t v (.int k i)) (partE P e cs (i.toNat * sizeT P e)) := by
  obtain ⟨vs, rfl, hl⟩ := h
  obtain ⟨u, h1, h2⟩ := part_rd (P := P) (t := e) hl hk ho
  refine ⟨u, h1, fun w' hb => ?_⟩
  simp [Instr.index, asIntOf, run_underlying ht, h0, run_sizeT hk, h2 w' hb]
theorem rep1_tuple {p : Pl} {w : World} {v : Value} {ys : List AV} (h : Rep1 p w v (.tuple ys)) : False := by
  simp only [Rep1, Rep0] at h; cases h
theorem rep1_cnd {p : Pl} {w : World} {v : Value} {g : Bool} {x : AV} (h : Rep1 p w v (.cnd g x)) : False := by
  simp only [Rep1, Rep0] at h; cases h
theorem extract_rd {P : Program} {p : Pl} {w : World} {v : Value} {xs : List AV} {i : Nat} (h : Rep p w v (.tuple xs)) (hi : i < xs.length) : Rd P p w (Instr.extract v i) (xs.getD i .junk) := by
  obtain ⟨vs, rfl, hl⟩ := h
  have hv : i < vs.toList.length := by rw [hl.1]; exact hi
  refine ⟨vs[i]'(by simpa using hv), ?_, fun w' _ => ?_⟩
  · rw [getD_get _ _ hi]
    have := hl.2 i hv hi
    have h2 : Rep1 p w (vs[i]'(by simpa using hv)) xs[i] := by simpa using this
    cases hx : xs[i]
    case tuple ys => rw [hx] at h2; exact (rep1_tuple h2).elim
    case cnd g x => rw [hx] at h2; exact (rep1_cnd h2).elim
    all_goals (rw [hx] at h2; exact h2)
  · simp [Instr.extract, Array.getElem?_eq_getElem (show i < vs.size by simpa using hv)]
end Go.Proofs.YthcaeofgegfncaaDoor.V
namespace Go.Proofs.YthcaeofgegfncaaDoor.V
open Go Go.RowKit
set_option linter.unusedSimpArgs false
set_option linter.unusedVariables false

theorem rep_int {p : Pl} {w : World} {v : Value} {k : IntKind} {n : Int} (h : Rep p w v (.int k n)) : v = .int k n := by
  simp only [Rep, RepT, Rep1, Rep0] at h; cases h; rfl
theorem rep_str {p : Pl} {w : World} {v : Value} {s : ByteArray} (h : Rep p w v (.str s)) : v = .string s := by
  simp only [Rep, RepT, Rep1, Rep0] at h; cases h; rfl
theorem rep_nilsl {p : Pl} {w : World} {v : Value} (h : Rep p w v .nilsl) : v = .slice none 0 0 := by
  simp only [Rep, RepT, Rep1, Rep0] at h; cases h; rfl
theorem rep_nilptr {p : Pl} {w : World} {v : Value} (h : Rep p w v .nilptr) : v = .pointer none := by
  simp only [Rep, RepT, Rep1, Rep0] at h; cases h; rfl
theorem rep_nilmap {p : Pl} {w : World} {v : Value} (h : Rep p w v .nilmap) : v = .map none := by
  simp only [Rep, RepT, Rep1, Rep0] at h; cases h; rfl
theorem mk_bool (p : Pl) (w : World) (b : Bool) : Rep p w (.bool b) (.bool b) := RepF.rep (.bool b)
theorem mk_int (p : Pl) (w : World) (k : IntKind) (n : Int) : Rep p w (.int k n) (.int k n) := RepF.rep (.int k n)
theorem mk_str (p : Pl) (w : World) (s : ByteArray) : Rep p w (.string s) (.str s) := RepF.rep (.str s)

def liveRow (H : List Blk) (id : Nat) : Bool := match H[id]? with | some (.row _ _) => true | _ => false
theorem liveRow_spec {p : Pl} {H : List Blk} {w : World} {id : Nat} (hH : RH p H w) (h : liveRow H id = true) : ∃ q, p.at_ id = some q := by
  unfold liveRow at h
  split at h
  · rename_i t xs hb; exact hH.live hb
  · cases h

/-- is a slice, a pointer nil? -/
def nilS (H : List Blk) : AV → Option Bool
  | .nilsl => some true
  | .slv len _ _ => if decide (0 < len) then some false else none
  | .sl id _ len _ => if liveRow H id && decide (0 < len) then some false else none
  | .slc id _ _ c _ => if liveRow H id && decide (0 < c) then some false else none
  | _ => none
def nilP (H : List Blk) : AV → Option Bool
  | .nilptr => some true
  | .ptr id o => if liveAddr H (.ptr id o) then some false else none
  | .fptr _ => some false
  | _ => none
def intOp (op : BinOp) (k : IntKind) (a b : Int) : List Prop × AV :=
  match op with
  | .add => ([], .int k (k.wrap (a + b)))
  | .sub => ([], .int k (k.wrap (a - b)))
  | .mul => ([], .int k (k.wrap (a * b)))
  | .quo => ([b ≠ 0], .int k (k.wrap (a.tdiv b)))
  | .rem => ([b ≠ 0], .int k (a.tmod b))
  | .and => ([], .int k (k.wrap ((BitVec.ofInt k.bits a &&& BitVec.ofInt k.bits b).toNat)))
  | .or => ([], .int k (k.wrap ((BitVec.ofInt k.bits a ||| BitVec.ofInt k.bits b).toNat)))
  | .xor => ([], .int k (k.wrap ((BitVec.ofInt k.bits a ^^^ BitVec.ofInt k.bits b).toNat)))
  | .andNot => ([], .int k (k.wrap ((BitVec.ofInt k.bits a &&& ~~~ BitVec.ofInt k.bits b).toNat)))
  | .eql => ([], .bool (a == b))
  | .neq => ([], .bool (a != b))
  | .lss => ([], .bool (decide (a < b)))
  | .leq => ([], .bool (decide (a ≤ b)))
  | .gtr => ([], .bool (decide (a > b)))
  | .geq => ([], .bool (decide (a ≥ b)))
  | _ => ([False], .junk)
def strOp (op : BinOp) (a b : ByteArray) : List Prop × AV :=
  match op with
  | .add => ([a.size + b.size ≤ 9223372036854775807], .str (a ++ b))
  | .eql => ([], .bool (a.toList == b.toList))
  | .neq => ([], .bool (!(a.toList == b.toList)))
  | .lss => ([], .bool (Op.bytesLess a.toList b.toList))
  | .leq => ([], .bool (Op.bytesLess a.toList b.toList || a.toList == b.toList))
  | .gtr => ([], .bool (!(Op.bytesLess a.toList b.toList || a.toList == b.toList)))
  | .geq => ([], .bool (!(Op.bytesLess a.toList b.toList)))
  | _ => ([False], .junk)
/-- are two structs of plain fields equal? -/
def eqLeaf (d : Option TypeDesc) (x y : AV) : Option Bool := match d, x, y with
  | some (.int _), .int k a, .int l b => bif decide (k = l) then some (a == b) else none
  | some .string, .str a, .str b => some (a.toList == b.toList)
  | some .bool, .bool a, .bool b => some (a == b)
  | _, _, _ => none
def eqF (P : Program) (xs ys : List AV) : List Field → Option Bool
  | [] => some true
  | f :: fs => bif f.name == "_" then eqF P xs ys fs else
    match eqLeaf (P.underlying f.type) (xs.getD f.offset .junk) (ys.getD f.offset .junk), eqF P xs ys fs with
    | some e, some e' => some (e && e')
    | _, _ => none
def binE (P : Program) (H : List Blk) (op : BinOp) (t : TypeId) (x y : AV) : List Prop × AV :=
  match x, y with
  | .int k a, .int k' b =>
    match op with
    | .shl => ([0 ≤ b], .int k (k.wrap (a * 2 ^ min b.toNat k.bits)))
    | .shr => ([0 ≤ b], .int k (a.fdiv (2 ^ min b.toNat k.bits)))
    | op => (dec (decide (k = k')) ++ (intOp op k a b).1, (intOp op k a b).2)
  | .str a, .str b => strOp op a b
  | .bool a, .bool b =>
    match P.underlying t, op with
    | some .bool, .eql => ([], .bool (a == b))
    | some .bool, .neq => ([], .bool (!(a == b)))
    | _, _ => ([False], .junk)
  | .agg xs, .agg ys =>
    match P.underlying t, op with
    | some (.struct fs), .eql => match eqF P xs ys fs.toList with
      | some e => (dec (!P.stoodInHeld t && !P.eqGuardType P.depth t), .bool e)
      | none => ([False], .junk)
    | some (.struct fs), .neq => match eqF P xs ys fs.toList with
      | some e => (dec (!P.stoodInHeld t && !P.eqGuardType P.depth t), .bool (!e))
      | none => ([False], .junk)
    | _, _ => ([False], .junk)
  | x, .nilsl => match P.underlying t, nilS H x, op with
    | some (.slice _), some c, .eql => ([], .bool c)
    | some (.slice _), some c, .neq => ([], .bool (!c))
    | _, _, _ => ([False], .junk)
  | x, .nilptr => match P.underlying t, nilP H x, op with
    | some (.pointer _), some c, .eql => ([], .bool c)
    | some (.pointer _), some c, .neq => ([], .bool (!c))
    | _, _, _ => ([False], .junk)
  | _, _ => ([False], .junk)
theorem binOp_rd_int (P : Program) (op : BinOp) (t : TypeId) (k : IntKind) (a b : Int) (p : Pl) (w : World) (hok : allP (intOp op k a b).1) (hs : op ≠ .shl ∧ op ≠ .shr) : Rd P p w (binOp op t (.int k a) (.int k b)) (intOp op k a b).2 := by
  unfold binOp
  cases op <;> simp only [intOp, allP, ne_eq, not_true_eq_false, and_self, and_true, true_and] at hok hs ⊢
  case quo | rem => exact ⟨_, mk_int _ _ _ _, fun w' _ => by simp [Op.intDiv, hok]⟩
  case add | sub | mul => exact ⟨_, mk_int _ _ _ _, fun w' _ => by simp [Op.intArith]⟩
  case and | or | xor | andNot => exact ⟨_, mk_int _ _ _ _, fun w' _ => by simp [Op.intBits]⟩
  case eql | neq | lss | leq | gtr | geq => exact ⟨_, mk_bool _ _ _, fun w' _ => by simp [Op.intCmp]⟩
theorem binOp_rd_str (P : Program) (op : BinOp) (t : TypeId) (a b : ByteArray) (p : Pl) (w : World) (hok : allP (strOp op a b).1) : Rd P p w (binOp op t (.string a) (.string b)) (strOp op a b).2 := by
  unfold binOp
  cases op <;> simp only [strOp, allP] at hok ⊢
  case add => exact ⟨_, mk_str _ _ _, fun w' _ => by
    have : ¬ ((a.size + b.size : Nat) : Int) > IntKind.i64.max := by
      have : IntKind.i64.max = 9223372036854775807 := by decide
      omega
    simp only [Op.stringOp, if_neg this, Sem.run_pure]⟩
  case eql | neq | lss | leq | gtr | geq => exact ⟨_, mk_bool _ _ _, fun w' _ => by simp only [Op.stringOp, Sem.run_pure]⟩
theorem nilS_rd {p : Pl} {H : List Blk} {w : World} {v : Value} {x : AV} {c : Bool} {P : Program} {t e : TypeId} (hH : RH p H w) (h : Rep p w v x) (hc : nilS H x = some c) (ht : P.underlying t = some (.slice e)) :
    (∃ a l c', v = .slice a l c') ∧ ∀ w' : World, (Op.equal t v (.slice none 0 0)).run P w' = .ok c w' := by
  have key : ∀ a l c', v = .slice a l c' → a.isNone = c → (∃ a l c', v = .slice a l c') ∧ ∀ w' : World, (Op.equal t v (.slice none 0 0)).run P w' = .ok c w' := by
    rintro a l c' rfl rfl
    refine ⟨⟨a, l, c', rfl⟩, fun w' => ?_⟩
    unfold Op.equal Op.maxDepth Op.equalIn
    cases a <;> simp only [Sem.run_bind, run_underlying ht, Result.andThen_ok, Sem.run_pure] <;> rfl
  cases x <;> simp only [nilS] at hc <;> try cases hc
  case nilsl => cases rep_nilsl h; exact key _ _ _ rfl rfl
  case slv =>
    split at hc
    · rename_i hl
      simp only [decide_eq_true_eq] at hl
      cases hc
      obtain ⟨oa, ad, cap, rfl, ho, hcap, _⟩ := at_slv h
      refine key _ _ _ rfl ?_
      rcases ho with rfl | ⟨_, h0⟩
      · rfl
      · omega
    · cases hc
  case sl id a b d =>
    split at hc
    · rename_i hl
      cases hc
      simp only [Bool.and_eq_true, decide_eq_true_eq] at hl
      obtain ⟨g, hg⟩ := liveRow_spec hH hl.1
      obtain ⟨ad, cap, rfl, hcap, _, _, hn, _⟩ := h.2 g hg
      refine key _ _ _ rfl ?_
      cases ad with
      | none => have := hn rfl; omega
      | some _ => rfl
    · cases hc
  case slc id a b c d =>
    split at hc
    · rename_i hl
      cases hc
      simp only [Bool.and_eq_true, decide_eq_true_eq] at hl
      obtain ⟨g, hg⟩ := liveRow_spec hH hl.1
      obtain ⟨ad, cap, rfl, hcap, _, _, hn, _, hcc⟩ := h.2 g hg
      refine key _ _ _ rfl ?_
      cases ad with
      | none => exact absurd rfl (hcc hl.2).1
      | some _ => rfl
    · cases hc
theorem nilP_rd {p : Pl} {H : List Blk} {w : World} {v : Value} {x : AV} {c : Bool} {P : Program} {t e : TypeId} (hH : RH p H w) (h : Rep p w v x) (hc : nilP H x = some c) (ht : P.underlying t = some (.pointer e)) :
    (∃ a, v = .pointer a) ∧ ∀ w' : World, (Op.equal t v (.pointer none)).run P w' = .ok c w' := by
  have key : ∀ a, v = .pointer a → a.isNone = c → (∃ a, v = .pointer a) ∧ ∀ w' : World, (Op.equal t v (.pointer none)).run P w' = .ok c w' := by
    rintro a rfl rfl
    refine ⟨⟨a, rfl⟩, fun w' => ?_⟩
    unfold Op.equal Op.maxDepth Op.equalIn
    cases a <;> simp only [Sem.run_bind, run_underlying ht, Result.andThen_ok, Sem.run_pure] <;> rfl
  cases x <;> simp only [nilP] at hc <;> try cases hc
  case nilptr => cases rep_nilptr h; exact key _ rfl rfl
  case fptr => obtain ⟨ad, rfl, _⟩ := at_fptr h; exact key _ rfl rfl
  case ptr a b =>
    split at hc
    · rename_i hl
      cases hc
      obtain ⟨q, hq⟩ := (liveAddr_spec hH hl).2 _ _ rfl
      obtain ⟨g, _, rfl⟩ := h.2 q hq
      exact key _ rfl rfl
    · cases hc
theorem binOp_eql_other (P : Program) (t : TypeId) (v u : Value) (h : (∃ a l c b m d, v = .slice a l c ∧ u = .slice b m d) ∨ (∃ a b, v = .bool a ∧ u = .bool b)) (c : Bool) (w' : World) (he : (Op.equal t v u).run P w' = .ok c w') :
    (binOp .eql t v u).run P w' = .ok (.bool c) w' ∧ (binOp .neq t v u).run P w' = .ok (.bool (!c)) w' := by
  rcases h with ⟨a, l, c', b, m, d, rfl, rfl⟩ | ⟨a, b, rfl, rfl⟩ <;> constructor <;> (unfold binOp; simp [he])
theorem binOp_eql_ptr (P : Program) (t : TypeId) (v u : Value) (h : (∃ a b, v = .pointer a ∧ u = .pointer b)) (c : Bool) (w' : World) (he : (Op.equal t v u).run P w' = .ok c w') :
    (binOp .eql t v u).run P w' = .ok (.bool c) w' ∧ (binOp .neq t v u).run P w' = .ok (.bool (!c)) w' := by
  rcases h with ⟨a, b, rfl, rfl⟩; constructor <;> (unfold binOp; simp [he])

def unE (op : UnOp) (x : AV) : List Prop × AV :=
  match op, x with
  | .neg, .int k n => ([], .int k (k.wrap (0 - n)))
  | .xor, .int k n => ([], .int k (k.wrap ((BitVec.ofInt k.bits (if k.signed then -1 else k.max) ^^^ BitVec.ofInt k.bits n).toNat)))
  | .not, .bool b => ([], .bool !b)
  | _, _ => ([False], .junk)
def isU8 : AV → Bool | .int .u8 _ => true | _ => false
def numV : AV → Int | .int _ n => n | _ => 0
def isBytes (P : Program) (e : TypeId) : Bool := match P.underlying e with | some (.int .u8) => true | _ => false
/-- the cells of a slice of one cell an element -/
def cells1 (H : List Blk) : AV → Option (List AV)
  | .slv _ 1 cs => some cs
  | .sl id st len 1 => match H[id]? with | some (.row _ xs) => bif decide (st + len ≤ xs.length) then some ((xs.drop st).take len) else none | _ => none
  | .nilsl => some []
  | _ => none
def convE (P : Program) (H : List Blk) (src dst : TypeId) (x : AV) : List Prop × AV :=
  match P.underlying src, P.underlying dst, x with
  | some (.slice e), some .string, x => match cells1 H x with
    | some cs => ((cs.all isU8 = true) :: dec (isBytes P e), .str (strOfNums (cs.map numV)))
    | none => ([False], .junk)
  | some _, some (.int k), .int _ n => ([], .int k (k.wrap n))
  | some _, some .string, .str s => ([], .str s)
  | some _, some .string, .int _ n => ([], .str (Utf8.encode n))
  | _, _, _ => ([False], .junk)
def loE (lo : Option AV) : Option Int := match lo with | none => some 0 | some (.int _ n) => some n | _ => none
def hiE (len : Nat) (hi : Option AV) : Option Int := match hi with | none => some len | some (.int _ n) => some n | _ => none
def sliceE (P : Program) (H : List Blk) (t : TypeId) (x : AV) (lo hi : Option AV) : List Prop × AV :=
  match P.underlying t, x with
  | some .string, .str s => match loE lo, hiE s.size hi with
    | some l, some h => ([0 ≤ l ∧ l ≤ h ∧ h ≤ s.size], .str (s.extract l.toNat h.toNat))
    | _, _ => ([False], .junk)
  | some (.slice e), .slv len sz cs => match loE lo, hiE len hi with
    | some l, some h => ((0 ≤ l ∧ l ≤ h ∧ h ≤ len) :: dec (knownT P e && sizeT P e == sz), .slv (h.toNat - l.toNat) sz ((cs.drop (l.toNat * sz)).take ((h.toNat - l.toNat) * sz)))
    | _, _ => ([False], .junk)
  | some (.slice e), .sl id st len sz => match loE lo, hiE len hi with
    | some l, some h => ((0 ≤ l ∧ l ≤ h ∧ h ≤ len) :: dec (knownT P e && (sizeT P e == sz && liveRow H id)), .sl id (st + l.toNat * sz) (h.toNat - l.toNat) sz)
    | _, _ => ([False], .junk)
  | some (.slice e), .nilsl => match loE lo, hiE 0 hi with
    | some l, some h => ((0 ≤ l ∧ l ≤ h ∧ h ≤ 0) :: dec (knownT P e), .nilsl)
    | _, _ => ([False], .junk)
  | _, _ => ([False], .junk)
def lenE (P : Program) (H : List Blk) (t : TypeId) (x : AV) : List Prop × AV :=
  match P.underlying t, x with
  | some .string, .str s => ([], .int .i64 s.size)
  | some (.slice _), .slv len _ _ => ([], .int .i64 len)
  | some (.slice _), .sl id _ len _ => (dec (liveRow H id), .int .i64 len)
  | some (.slice _), .nilsl => ([], .int .i64 0)
  | some (.map _ _), .nilmap => ([], .int .i64 0)
  | some (.map _ _), .map id => match H[id]? with | some (.map kv) => ([], .int .i64 kv.length) | _ => ([False], .junk)
  | _, _ => ([False], .junk)

theorem unE_rd {P : Program} {p : Pl} {w : World} {op : UnOp} {v : Value} {x : AV} (h : Rep p w v x) (hok : allP (unE op x).1) : Rd P p w (Op.unary op v) (unE op x).2 := by
  unfold unE at hok ⊢
  split at hok
  · cases rep_int h; exact ⟨_, mk_int _ _ _ _, fun w' _ => by simp [Op.unary, Op.intArith]⟩
  · cases rep_int h; exact ⟨_, mk_int _ _ _ _, fun w' _ => by simp [Op.unary, Op.intBits]⟩
  · cases rep_bool h; exact ⟨_, mk_bool _ _ _, fun w' _ => by simp [Op.unary]⟩
  · exact hok.elim
theorem u8_val {p : Pl} {w : World} {v : Value} {x : AV} (h : RepC p w v x) (hx : isU8 x = true) : v = .int .u8 (numV x) := by
  cases x <;> simp [isU8] at hx
  rename_i k n
  cases k <;> simp [isU8] at hx
  have := h.2
  simp only [Rep0] at this
  cases this
  rfl
theorem at_cells1 {P : Program} {p : Pl} {H : List Blk} {w : World} {v : Value} {x : AV} {cs : List AV} (hH : RH p H w) (h : Rep p w v x) (hc : cells1 H x = some cs) :
    ∃ oa ad cap, v = .slice oa cs.length cap ∧ (oa = some ad ∨ (oa = none ∧ cs = [])) ∧ AtAddr p w ad cs := by
  unfold cells1 at hc
  split at hc
  · rename_i len cs0
    cases hc
    obtain ⟨oa, ad, cap, h1, h2, h3, h4, h5, h6, h7⟩ := at_slv h
    rw [Nat.mul_one] at h6
    rw [← h6] at h1
    refine ⟨oa, ad, cap, h1, h2.imp (fun h => h) (fun ⟨ha, hb⟩ => ⟨ha, List.eq_nil_of_length_eq_zero (by omega)⟩), h7⟩
  · rename_i id st len
    split at hc
    · rename_i t xs hb
      cases hle : decide (st + len ≤ xs.length) <;> rw [hle] at hc
      · cases hc
      · simp only [cond_true, Option.some.injEq] at hc
        subst hc
        have hle := of_decide_eq_true hle
        have hcl : ((xs.drop st).take len).length = len := by rw [List.length_take, List.length_drop]; omega
        simp only [Rep, RepT, Rep1, Rep0] at h
        obtain ⟨_, h⟩ := h
        rw [hcl]
        rcases hH.row hb with ⟨q1, q2⟩ | ⟨g, cur, q1, q2, q3, q4⟩
        · obtain ⟨a, cap, a1, a2, a3, a4, a5, a6⟩ := h _ q1
          subst q2
          simp only [List.length_nil] at hle
          have hz : len = 0 := by omega
          subst hz
          refine ⟨a, (a.getD ⟨0, 0, none⟩), cap, a1, ?_, fun i hi => by simp at hi⟩
          cases a with
          | none => exact Or.inr ⟨rfl, by simp⟩
          | some a => exact Or.inl rfl
        · obtain ⟨a, cap, a1, a2, a3, a4, a5, a6⟩ := h _ q1
          rcases Nat.eq_zero_or_pos len with h0 | h0
          · subst h0
            refine ⟨a, (a.getD ⟨0, 0, none⟩), cap, a1, ?_, fun i hi => by simp at hi⟩
            cases a with
            | none => exact Or.inr ⟨rfl, by simp⟩
            | some a => exact Or.inl rfl
          · rcases a6 with a6 | ⟨g', e1, e2, _⟩
            · omega
            · cases e1
              refine ⟨a, ⟨g, st, none⟩, cap, a1, Or.inl e2, fun i hi => ?_⟩
              rw [hcl] at hi
              obtain ⟨u, u1, u2⟩ := q4 (st + i) (by omega)
              refine ⟨rfl, (Array.getElem?_eq_some_iff.1 q2).1, u, ?_, ?_⟩
              · simp only [World.cell?, q2]
                exact u1
              · rw [List.getElem_take, List.getElem_drop]
                exact u2
    · cases hc
  · cases hc
    cases rep_nilsl h
    exact ⟨none, ⟨0, 0, none⟩, 0, rfl, Or.inr ⟨rfl, rfl⟩, fun i hi => by simp at hi⟩
  · cases hc
theorem convE_rd {P : Program} {p : Pl} {H : List Blk} {w : World} {src dst : TypeId} {v : Value} {x : AV} (hH : RH p H w) (h : Rep p w v x) (hok : allP (convE P H src dst x).1) : Rd P p w (Go.convert src dst v) (convE P H src dst x).2 := by
  unfold convE at hok ⊢
  split at hok
  · rename_i e h1 h2
    split at hok
    · rename_i cs hc
      rw [allP_cons, allP_dec] at hok
      obtain ⟨hall, hby⟩ := hok
      have he : P.underlying e = some (.int .u8) := by
        unfold isBytes at hby
        split at hby
        · assumption
        · cases hby
      obtain ⟨oa, ad, cap, rfl, hoa, hat⟩ := at_cells1 (P := P) hH h hc
      refine ⟨_, mk_str _ _ _, fun w' hb => ?_⟩
      rcases hoa with rfl | ⟨rfl, rfl⟩
      · obtain ⟨us, hu, hcell⟩ := hat.list
        have hus : us = (cs.map numV).map (Value.int .u8) := by
          refine List.ext_getElem (by simp [hu.1]) fun i q1 q2 => ?_
          have hic : i < cs.length := by rw [← hu.1]; exact q1
          have := u8_val (hu.2 i q1 hic) (List.all_eq_true.1 hall _ (List.getElem_mem hic))
          simpa using this
        have hl : (loadCells ad cs.length).run P w' = .ok ((cs.map numV).map (Value.int .u8)).toArray w' := by
          have := run_loadCells_list (P := P) w' ad us (fun j v hj => hcell w' hb j v hj)
          rw [hu.1] at this
          rw [← hus]
          exact this
        rw [run_convert_bytes_string w' src dst e _ _ _ h1 he h2, run_bytesToString w' ad cs.length cap (cs.map numV) hl, foldl_push_bytes]
        simp [strOfNums, ByteArray.empty, ByteArray.emptyWithCapacity]
        rfl
      · exact run_convert_bytes_nil (P := P) w' src e h1 he 0 cap dst h2
    · exact hok.elim
  · rename_i d k _ n h1 h2
    try simp only [h1, h2]
    cases rep_int h
    exact ⟨_, mk_int _ _ _ _, fun w' _ => by cases d <;> simp [Go.convert, run_underlying h1, run_underlying h2, Conv.intToInt]⟩
  · rename_i d s h1 h2
    try simp only [h1, h2]
    cases rep_str h
    exact ⟨_, mk_str _ _ _, fun w' _ => by cases d <;> simp [Go.convert, run_underlying h1, run_underlying h2]⟩
  · rename_i d _ n h1 h2
    try simp only [h1, h2]
    cases rep_int h
    exact ⟨_, mk_str _ _ _, fun w' _ => by cases d <;> simp [Go.convert, run_underlying h1, run_underlying h2, Conv.intToString]⟩
  · exact hok.elim

/-- the value of a bound -/
def RepO (p : Pl) (w : World) : Option Value → Option AV → Prop
  | none, none => True
  | some v, some x => Rep p w v x
  | _, _ => False
theorem run_bounds {P : Program} {p : Pl} {w : World} {lv hv : Option Value} {lo hi : Option AV} (hl : RepO p w lv lo) (hh : RepO p w hv hi) {isSl : Bool} {len cap : Nat} {l h : Int} (h1 : loE lo = some l) (h2 : hiE len hi = some h) (hb : 0 ≤ l ∧ l ≤ h ∧ h ≤ len) (hc : len ≤ cap) (w' : World) :
    (Instr.sliceBounds isSl len cap lv hv none).run P w' = .ok (l.toNat, h.toNat, cap) w' := by
  have key : (match hv with | some v => Instr.sliceBound v cap (if isSl then .sliceAcap else .sliceAlen) | none => pure len : Sem Nat).run P w' = .ok h.toNat w' := by
    cases hi with
    | none =>
      cases hv with
      | none => simp [hiE] at h2; subst h2; simp
      | some v => exact hh.elim
    | some x =>
      cases hv with
      | none => exact hh.elim
      | some v =>
        cases x <;> simp [hiE] at h2
        subst h2
        cases rep_int hh
        simp only [Instr.sliceBound, asIntOf, Sem.run_bind, Sem.run_pure, Result.andThen_ok]
        rw [if_pos (by omega)]
        rfl
  have key2 : (match lv with | some v => Instr.sliceBound v h.toNat .sliceB | none => pure 0 : Sem Nat).run P w' = .ok l.toNat w' := by
    cases lo with
    | none =>
      cases lv with
      | none => simp [loE] at h1; subst h1; simp
      | some v => exact hl.elim
    | some x =>
      cases lv with
      | none => exact hl.elim
      | some v =>
        cases x <;> simp [loE] at h1
        subst h1
        cases rep_int hl
        simp only [Instr.sliceBound, asIntOf, Sem.run_bind, Sem.run_pure, Result.andThen_ok]
        rw [if_pos (by omega)]
        rfl
  unfold Instr.sliceBounds
  cases hv <;> cases lv <;> (try simp only [Sem.run_bind, Sem.run_pure, Result.andThen_ok, Option.isSome_none, Bool.false_eq_true, if_false] at key key2 ⊢) <;> (try simp only [key, Result.andThen_ok, key2, Sem.run_pure]) <;> simp_all
theorem leaf_at {p : Pl} {w : World} {vs : Array Value} {xs : List AV} (h : RepL (RepC p w) vs.toList xs) {o : Nat} {x : AV} (hx : xs.getD o .junk = x) (hn : x ≠ .junk) : ∃ v, vs[o]? = some v ∧ Rep p w v x := by
  by_cases ho : o < xs.length
  · have hv : o < vs.toList.length := by rw [h.1]; exact ho
    refine ⟨vs[o]'(by simpa using hv), by simp [show o < vs.size by simpa using hv], ?_⟩
    have := (h.2 o hv ho).2.rep
    rw [getD_get _ _ ho] at hx
    rw [hx] at this
    simpa using this
  · rw [List.getD_eq_getElem?_getD, List.getElem?_eq_none (by omega)] at hx
    exact absurd hx.symm hn
theorem run_part_leaf {P : Program} {t : TypeId} {d : TypeDesc} (hu : P.underlying t = some d) (hd : (match d with | .struct _ => false | .array _ _ => false | _ => true) = true) {vs : Array Value} {o : Nat} {v : Value} (hv : vs[o]? = some v) (w : World) : (part t vs o).run P w = .ok v w := by
  have ha : (isAgg t).run P w = .ok false w := by
    unfold isAgg
    simp only [Sem.run_bind, run_underlying hu, Result.andThen_ok]
    cases d <;> first | rfl | (simp at hd)
  simp [part, ha, hv]
theorem eqLeaf_run {P : Program} {p : Pl} {w : World} {t : TypeId} {vs us : Array Value} {xs ys : List AV} {o : Nat} {e : Bool} (h1 : RepL (RepC p w) vs.toList xs) (h2 : RepL (RepC p w) us.toList ys) (he : eqLeaf (P.underlying t) (xs.getD o .junk) (ys.getD o .junk) = some e) (d : Nat) (w' : World) :
    ∃ a b, (part t vs o).run P w' = .ok a w' ∧ (part t us o).run P w' = .ok b w' ∧ (Op.equalIn (d + 1) t a b).run P w' = .ok e w' := by
  unfold eqLeaf at he
  split at he
  · rename_i kk k a l b hu hx hy
    obtain ⟨v, hv, hr⟩ := leaf_at h1 hx (by simp)
    obtain ⟨u, hu', hs⟩ := leaf_at h2 hy (by simp)
    cases rep_int hr; cases rep_int hs
    by_cases hkl : k = l
    · subst hkl
      simp only [decide_true, cond_true, Option.some.injEq] at he
      subst he
      exact ⟨_, _, run_part_leaf hu rfl hv w', run_part_leaf hu rfl hu' w', by unfold Op.equalIn; simp [run_underlying hu]⟩
    · simp [hkl] at he
  · rename_i a b hu hx hy
    obtain ⟨v, hv, hr⟩ := leaf_at h1 hx (by simp)
    obtain ⟨u, hu', hs⟩ := leaf_at h2 hy (by simp)
    cases rep_str hr; cases rep_str hs
    cases he
    exact ⟨_, _, run_part_leaf hu rfl hv w', run_part_leaf hu rfl hu' w', by unfold Op.equalIn; simp only [Sem.run_bind, run_underlying hu, Result.andThen_ok, Sem.run_pure, beq_toListBytes]⟩
  · rename_i a b hu hx hy
    obtain ⟨v, hv, hr⟩ := leaf_at h1 hx (by simp)
    obtain ⟨u, hu', hs⟩ := leaf_at h2 hy (by simp)
    cases rep_bool hr; cases rep_bool hs
    cases he
    exact ⟨_, _, run_part_leaf hu rfl hv w', run_part_leaf hu rfl hu' w', by unfold Op.equalIn; simp [run_underlying hu]⟩
  · cases he
theorem eqF_run {P : Program} {p : Pl} {w : World} {vs us : Array Value} {xs ys : List AV} (h1 : RepL (RepC p w) vs.toList xs) (h2 : RepL (RepC p w) us.toList ys) (d : Nat) (w' : World) : ∀ (fs : List Field) (e : Bool), eqF P xs ys fs = some e → (Op.eqFields (d + 1) vs us fs).run P w' = .ok e w'
  | [], e, h => by cases h; rfl
  | f :: fs, e, h => by
    unfold eqF at h
    unfold Op.eqFields
    by_cases hn : f.name = "_"
    · rw [if_neg (by simp [hn])]
      simp only [hn, beq_self_eq_true, cond_true] at h
      exact eqF_run h1 h2 d w' fs e h
    · rw [if_pos hn]
      simp only [beq_eq_false_iff_ne.2 hn, cond_false] at h
      split at h
      · rename_i e1 e2 he1 he2
        cases h
        obtain ⟨a, b, r1, r2, r3⟩ := eqLeaf_run h1 h2 he1 d w'
        have r4 := eqF_run h1 h2 d w' fs e2 he2
        simp only [Sem.run_bind, r1, r2, r3, Result.andThen_ok]
        cases e1 with
        | true => simpa using r4
        | false => rfl
      · cases h
theorem eqS_run {P : Program} {p : Pl} {w : World} {t : TypeId} {fs : Array Field} {vs us : Array Value} {xs ys : List AV} (hu : P.underlying t = some (.struct fs)) (h1 : RepL (RepC p w) vs.toList xs) (h2 : RepL (RepC p w) us.toList ys) {e : Bool} (he : eqF P xs ys fs.toList = some e) (hp : P.stoodInHeld t = false) (w' : World) :
    (Op.equalIn 10000 t (.agg vs) (.agg us)).run P w' = .ok e w' := by
  have hf : P.fieldsOf t = fs := by unfold Program.fieldsOf; rw [hu]
  rw [run_equalIn_struct w' 9999 t vs us (by rw [hf]; exact hu) hp, hf]
  exact eqF_run h1 h2 9998 w' fs.toList e he
end Go.Proofs.YthcaeofgegfncaaDoor.V
namespace Go.Proofs.YthcaeofgegfncaaDoor.V
open Go Go.RowKit
set_option linter.unusedSimpArgs false
set_option linter.unusedVariables false

theorem sliceE_rd {P : Program} {p : Pl} {H : List Blk} {w : World} {v : Value} {x : AV} {t : TypeId} {lv hv : Option Value} {lo hi : Option AV} (hH : RH p H w) (h : Rep p w v x) (hl : RepO p w lv lo) (hh : RepO p w hv hi) (hok : allP (sliceE P H t x lo hi).1) :
    Rd P p w (Instr.sliceAt t v lv hv none) (sliceE P H t x lo hi).2 := by
  unfold sliceE at hok ⊢
  split at hok
  · rename_i s hu
    try simp only [hu]
    split at hok
    · rename_i l h' e1 e2
      try simp only [e1, e2]
      cases rep_str h
      refine ⟨_, mk_str _ _ _, fun w' _ => ?_⟩
      have hb := run_bounds (P := P) (isSl := false) hl hh e1 e2 hok (Nat.le_refl _) w'
      simp [Instr.sliceAt, Instr.slice, run_underlying hu, hb]
    · exact hok.elim
  · rename_i e len sz cs hu
    try simp only [hu]
    split at hok
    · rename_i l h' e1 e2
      try simp only [e1, e2]
      rw [allP_cons, allP_dec] at hok
      obtain ⟨hb, hk⟩ := hok
      simp only [Bool.and_eq_true, beq_iff_eq] at hk
      have h2 : RepF p.M w v (.slv len sz cs) := h
      cases h2 with
      | slv oa a len cap sz cells vs ho hl' hcap hcm hsz hc hr =>
        have hbd := fun w' => run_bounds (P := P) (isSl := true) hl hh e1 e2 hb hcap w'
        have hln : l.toNat ≤ h'.toNat ∧ h'.toNat ≤ len := by omega
        have m1 : h'.toNat * sz ≤ len * sz := Nat.mul_le_mul_right _ hln.2
        have m2 : l.toNat * sz + (h'.toNat - l.toNat) * sz = h'.toNat * sz := by rw [← Nat.add_mul]; congr 1; omega
        have hlen : ((cs.drop (l.toNat * sz)).take ((h'.toNat - l.toNat) * sz)).length = (h'.toNat - l.toNat) * sz := by
          rw [List.length_take, List.length_drop]; omega
        refine ⟨.slice (if cap = l.toNat then oa else oa.map (·.add (l.toNat * sz))) (h'.toNat - l.toNat) (cap - l.toNat), RepF.rep (.slv _ (if cap = l.toNat then a else a.add (l.toNat * sz)) _ _ _ _ (fun i => vs (l.toNat * sz + i)) ?_ hlen (by omega) (by omega) hsz (fun i hi => ?_) (fun i hi => ?_)), fun w' _ => ?_⟩
        · rcases ho with rfl | ⟨rfl, h0⟩
          · left; split <;> rfl
          · right; exact ⟨by split <;> rfl, by omega⟩
        · rw [hlen] at hi
          have hne : ¬ cap = l.toNat := fun he => by
            have : h'.toNat - l.toNat = 0 := by omega
            rw [this] at hi; omega
          obtain ⟨a1, a2, a3, a4, a5⟩ := hc (l.toNat * sz + i) (by omega)
          rw [if_neg hne, add_none a a1]
          exact ⟨rfl, a2, a3, by rw [Nat.add_assoc]; exact a4, a5⟩
        · rw [hlen] at hi
          have := hr (l.toNat * sz + i) (by omega)
          rw [getD_get _ _ (by omega)] at this
          rw [getD_get _ _ (by rw [hlen]; exact hi), List.getElem_take, List.getElem_drop]
          exact this
        · have hsz' := run_sizeT hk.1 w'
          rw [hk.2] at hsz'
          simp only [Instr.sliceAt, Instr.slice, Sem.run_bind, run_underlying hu, Result.andThen_ok, hbd w', hsz', Sem.run_pure]
    · exact hok.elim
  · rename_i e id st len sz hu
    try simp only [hu]
    split at hok
    · rename_i l h' e1 e2
      try simp only [e1, e2]
      rw [allP_cons, allP_dec] at hok
      obtain ⟨hb, hk⟩ := hok
      simp only [Bool.and_eq_true, beq_iff_eq] at hk
      obtain ⟨g, hg⟩ := liveRow_spec hH hk.2.2
      obtain ⟨a, cap, rfl, hcap, hcm, hsz, hnn, ha⟩ := h.2 g hg
      have hbd := fun w' => run_bounds (P := P) (isSl := true) hl hh e1 e2 hb hcap w'
      have hln : l.toNat ≤ h'.toNat ∧ h'.toNat ≤ len := by omega
      refine ⟨.slice (if cap = l.toNat then a else a.map (·.add (l.toNat * sz))) (h'.toNat - l.toNat) (cap - l.toNat), ⟨h.1, fun g' hg' => ?_⟩, fun w' _ => ?_⟩
      · rw [hg] at hg'
        cases hg'
        refine ⟨_, _, rfl, by omega, by omega, hsz, fun hz => ?_, ?_⟩
        · split at hz
          · omega
          · have := hnn (by cases a with | none => rfl | some _ => cases hz); omega
        · by_cases hne : cap = l.toNat
          · left; omega
          · right
            rcases ha with ha | ⟨g0, rfl, rfl, ha⟩
            · omega
            · refine ⟨g0, rfl, ?_, ?_⟩
              · rw [if_neg hne, Option.map_some, add_none _ rfl]
              · have : l.toNat * sz + (cap - l.toNat) * sz = cap * sz := by rw [← Nat.add_mul]; congr 1; omega
                omega
      · have hsz' := run_sizeT hk.1 w'
        rw [hk.2.1] at hsz'
        simp only [Instr.sliceAt, Instr.slice, Sem.run_bind, run_underlying hu, Result.andThen_ok, hbd w', hsz', Sem.run_pure]
    · exact hok.elim
  · rename_i e hu
    try simp only [hu]
    split at hok
    · rename_i l h' e1 e2
      try simp only [e1, e2]
      rw [allP_cons, allP_dec] at hok
      obtain ⟨hb, hk⟩ := hok
      cases rep_nilsl h
      have hbd := fun w' => run_bounds (P := P) (isSl := true) (len := 0) (cap := 0) hl hh e1 e2 hb (Nat.le_refl _) w'
      refine ⟨_, RepF.rep .nilsl, fun w' _ => ?_⟩
      have h0 : l.toNat = 0 ∧ h'.toNat = 0 := by omega
      simp only [Instr.sliceAt, Instr.slice, Sem.run_bind, run_underlying hu, Result.andThen_ok, hbd w', run_sizeT hk w', Sem.run_pure, h0.1, h0.2]
      rfl
    · exact hok.elim
  · exact hok.elim

theorem lenE_rd {P : Program} {p : Pl} {H : List Blk} {w : World} {v : Value} {x : AV} {t ty : TypeId} (hH : RH p H w) (h : Rep p w v x) (hok : allP (lenE P H t x).1) : Rd P p w (Builtin.len_ #[t] ty #[v]) (lenE P H t x).2 := by
  unfold lenE at hok ⊢
  split at hok
  · rename_i s hu; (try simp only [hu]); cases rep_str h
    exact ⟨_, mk_int _ _ _ _, fun w' _ => by simp [Builtin.len_, run_underlying hu, goInt]⟩
  · rename_i e len sz cs hu; (try simp only [hu])
    obtain ⟨oa, ad, cap, rfl, _⟩ := at_slv h
    exact ⟨_, mk_int _ _ _ _, fun w' _ => by simp [Builtin.len_, run_underlying hu, goInt]⟩
  · rename_i e id st len sz hu; (try simp only [hu])
    rw [allP_dec] at hok
    obtain ⟨g, hg⟩ := liveRow_spec hH hok
    obtain ⟨a, cap, rfl, _⟩ := h.2 g hg
    exact ⟨_, mk_int _ _ _ _, fun w' _ => by simp [Builtin.len_, run_underlying hu, goInt]⟩
  · rename_i e hu; (try simp only [hu]); cases rep_nilsl h
    exact ⟨_, mk_int _ _ _ _, fun w' _ => by simp [Builtin.len_, run_underlying hu, goInt]⟩
  · rename_i k e hu; (try simp only [hu]); cases rep_nilmap h
    exact ⟨_, mk_int _ _ _ _, fun w' _ => by simp [Builtin.len_, run_underlying hu, goInt]⟩
  · rename_i k e id hu; (try simp only [hu])
    split at hok
    · rename_i kv hb
      try simp only [hb]
      obtain ⟨hl, he⟩ := List.getElem?_eq_some_iff.1 hb
      have := hH.blk id hl
      rw [he] at this
      obtain ⟨g, es, clock, h1, h2, h3, _⟩ := this
      obtain ⟨g', hg', rfl⟩ := h.2 _ h1
      cases hg'
      refine ⟨_, mk_int _ _ _ _, fun w' hb => ?_⟩
      have h4 : w'.heap[g]? = some (.map es clock) := (hb.block g (Array.getElem?_eq_some_iff.1 h2).1).trans h2
      have h5 : es.size = kv.length := by simpa using h3
      simp [Builtin.len_, run_underlying hu, goInt, getObj, Sem.run, h4, h5]
    · exact hok.elim
  · exact hok.elim

theorem guard_none {P : Program} (op : BinOp) (t : TypeId) (x y : Operand) (a b : Value) (ha : a ≠ .nilIface) (hb : ∀ cs, a ≠ .agg cs) (w : World) : (eqGuard op t x y a b).run P w = .ok () w := by
  unfold eqGuard
  cases op <;> simp <;> (split <;> simp_all)
theorem binE_rd {P : Program} {p : Pl} {H : List Blk} {w : World} {op : BinOp} {t : TypeId} {xo yo : Operand} {v u : Value} {x y : AV} (hH : RH p H w) (hx : Rep p w v x) (hy : Rep p w u y) (hok : allP (binE P H op t x y).1) :
    Rd P p w (do eqGuard op t xo yo v u; binOp op t v u) (binE P H op t x y).2 := by
  have fin : ∀ z : AV, (∀ cs, v ≠ .agg cs) → v ≠ .nilIface → Rd P p w (binOp op t v u) z → Rd P p w (do eqGuard op t xo yo v u; binOp op t v u) z := by
    rintro z h1 h2 ⟨r, h3, h4⟩
    exact ⟨r, h3, fun w' hb => by rw [Sem.run_bind, guard_none op t xo yo v u h2 h1, Result.andThen_ok]; exact h4 w' hb⟩
  unfold binE at hok ⊢
  split at hok
  · rename_i k a k' b
    cases rep_int hx; cases rep_int hy
    refine fin _ (fun _ => by simp) (by simp) ?_
    split at hok
    · exact ⟨_, mk_int _ _ _ _, fun w' _ => by unfold binOp; simp [Op.shift, show ¬ b < 0 from by simp only [allP] at hok; omega]⟩
    · exact ⟨_, mk_int _ _ _ _, fun w' _ => by unfold binOp; simp [Op.shift, show ¬ b < 0 from by simp only [allP] at hok; omega]⟩
    · rename_i h1 h2
      rw [allP_append, allP_dec, decide_eq_true_eq] at hok
      obtain ⟨rfl, hk⟩ := hok
      exact binOp_rd_int P op t k a b p w hk ⟨h1, h2⟩
  · cases rep_str hx; cases rep_str hy
    exact fin _ (fun _ => by simp) (by simp) (binOp_rd_str P op t _ _ p w hok)
  · rename_i a b
    cases rep_bool hx; cases rep_bool hy
    refine fin _ (fun _ => by simp) (by simp) ?_
    split at hok
    · rename_i hu
      have he : ∀ w', (Op.equal t (.bool a) (.bool b)).run P w' = .ok (a == b) w' := fun w' => by unfold Op.equal Op.maxDepth Op.equalIn; simp [run_underlying hu]
      exact ⟨_, mk_bool _ _ _, fun w' _ => (binOp_eql_other P t _ _ (Or.inr ⟨a, b, rfl, rfl⟩) _ w' (he w')).1⟩
    · rename_i hu
      have he : ∀ w', (Op.equal t (.bool a) (.bool b)).run P w' = .ok (a == b) w' := fun w' => by unfold Op.equal Op.maxDepth Op.equalIn; simp [run_underlying hu]
      exact ⟨_, mk_bool _ _ _, fun w' _ => (binOp_eql_other P t _ _ (Or.inr ⟨a, b, rfl, rfl⟩) _ w' (he w')).2⟩
    · exact hok.elim
  · rename_i xs ys
    obtain ⟨vs, rfl, hv⟩ := hx
    obtain ⟨us, rfl, hu'⟩ := hy
    have fin2 : ∀ z : AV, P.eqGuardType P.depth t = false → Rd P p w (binOp op t (.agg vs) (.agg us)) z → Rd P p w (do eqGuard op t xo yo (.agg vs) (.agg us); binOp op t (.agg vs) (.agg us)) z := by
      rintro z hg ⟨r, h3, h4⟩
      refine ⟨r, h3, fun w' hb => ?_⟩
      have hgd : (eqGuard op t xo yo (.agg vs) (.agg us)).run P w' = .ok () w' := by
        unfold eqGuard
        cases op <;> simp [hg]
      rw [Sem.run_bind, hgd, Result.andThen_ok]
      exact h4 w' hb
    split at hok
    · rename_i fs hu
      split at hok
      · rename_i e he
        try simp only [he]
        rw [allP_dec] at hok
        simp only [Bool.and_eq_true, Bool.not_eq_true'] at hok
        refine fin2 _ hok.2 ⟨_, mk_bool _ _ _, fun w' _ => ?_⟩
        rw [run_eql_struct, eqS_run hu hv hu' he hok.1]; rfl
      · exact hok.elim
    · rename_i fs hu
      split at hok
      · rename_i e he
        try simp only [he]
        rw [allP_dec] at hok
        simp only [Bool.and_eq_true, Bool.not_eq_true'] at hok
        refine fin2 _ hok.2 ⟨_, mk_bool _ _ _, fun w' _ => ?_⟩
        rw [run_neq_struct, eqS_run hu hv hu' he hok.1]; rfl
      · exact hok.elim
    · exact hok.elim
  · cases rep_nilsl hy
    split at hok
    · rename_i e c hu hc
      obtain ⟨⟨a, l, c', rfl⟩, h2⟩ := nilS_rd hH hx hc hu
      exact fin _ (fun _ => by simp) (by simp) ⟨_, mk_bool _ _ _, fun w' _ => (binOp_eql_other P t _ _ (Or.inl ⟨a, l, c', _, _, _, rfl, rfl⟩) c w' (h2 w')).1⟩
    · rename_i e c hu hc
      obtain ⟨⟨a, l, c', rfl⟩, h2⟩ := nilS_rd hH hx hc hu
      exact fin _ (fun _ => by simp) (by simp) ⟨_, mk_bool _ _ _, fun w' _ => (binOp_eql_other P t _ _ (Or.inl ⟨a, l, c', _, _, _, rfl, rfl⟩) c w' (h2 w')).2⟩
    · exact hok.elim
  · cases rep_nilptr hy
    split at hok
    · rename_i e c hu hc
      obtain ⟨⟨a, rfl⟩, h2⟩ := nilP_rd hH hx hc hu
      exact fin _ (fun _ => by simp) (by simp) ⟨_, mk_bool _ _ _, fun w' _ => (binOp_eql_ptr P t _ _ ⟨_, _, rfl, rfl⟩ c w' (h2 w')).1⟩
    · rename_i e c hu hc
      obtain ⟨⟨a, rfl⟩, h2⟩ := nilP_rd hH hx hc hu
      exact fin _ (fun _ => by simp) (by simp) ⟨_, mk_bool _ _ _, fun w' _ => (binOp_eql_ptr P t _ _ ⟨_, _, rfl, rfl⟩ c w' (h2 w')).2⟩
    · exact hok.elim
  · exact hok.elim
end Go.Proofs.YthcaeofgegfncaaDoor.V
namespace Go.Proofs.YthcaeofgegfncaaDoor.V
open Go Go.RowKit
set_option linter.unusedSimpArgs false
set_option linter.unusedVariables false

def Pl.mv (p : Pl) (k : Option Nat) (q : Option Nat) : Pl := ⟨p.n + 1, fun id => if id = p.n then some q else if some id = k then none else p.at_ id, p.x⟩
def killB (H : List Blk) (k : Option Nat) : List Blk := match k with | some id => H.set id .dead | none => H
theorem killB_length (H : List Blk) (k : Option Nat) : (killB H k).length = H.length := by cases k <;> simp [killB]
theorem killB_get (H : List Blk) (k : Option Nat) (id : Nat) (h : id < (killB H k).length) : (killB H k)[id] = if some id = k then .dead else H[id]'(by rw [killB_length] at h; exact h) := by
  cases k with
  | none => simp [killB]
  | some j =>
    simp only [killB, List.getElem_set, Option.some.injEq]
    by_cases hj : j = id
    · simp [hj]
    · rw [if_neg hj, if_neg (fun h => hj h.symm)]

theorem mv_ok {p : Pl} {H : List Blk} {w w' : World} (hH : RH p H w) (k : Option Nat) (q : Option Nat) (t : TypeId) (xs : List AV)
    (hos : w'.os = w.os) (htape : w'.tape = w.tape) (hout : w'.output = w.output) (hsize : w.heap.size ≤ w'.heap.size)
    (hfroz : ∀ g, g < w.heap.size → (∀ id, k = some id → p.at_ id ≠ some (some g)) → w'.heap[g]? = w.heap[g]?)
    (hq : ∀ g, q = some g → w.heap.size ≤ g ∨ ∃ id, k = some id ∧ p.at_ id = some (some g))
    (hrow : (q = none ∧ xs = []) ∨ ∃ g cur, q = some g ∧ w'.heap[g]? = some (.cells cur t (0, 0)) ∧ xs.length ≤ cur.size ∧ ∀ (i : Nat) (h : i < xs.length), ∃ v, cur[i]? = some v ∧ RepC p w v xs[i]) :
    RH (p.mv k q) (killB H k ++ [.row t xs]) w' ∧ Step p w (p.mv k q) w' := by
  have hat : ∀ id q0, (p.mv k q).at_ id = some q0 → (id = p.n ∧ q0 = q) ∨ (id < p.n ∧ some id ≠ k ∧ p.at_ id = some q0) := by
    intro id q0 h
    simp only [Pl.mv] at h
    split at h
    · rename_i he; exact Or.inl ⟨he, by cases h; rfl⟩
    · split at h
      · cases h
      · rename_i h1 h2
        refine Or.inr ⟨?_, h2, h⟩
        rcases Nat.lt_or_ge id p.n with h3 | h3
        · exact h3
        · rw [hH.out id h3] at h; cases h
  have hs : Step p w (p.mv k q) w' := by
    refine ⟨hos, htape, hout, hsize, Nat.le_succ _, fun id q0 hid h => ?_, fun g hg hm => ?_, fun g hg hm => ?_, rfl⟩
    · rcases hat id q0 h with ⟨h1, _⟩ | ⟨_, h2, h3⟩
      · omega
      · refine ⟨h3, fun g hg => ?_⟩
        subst hg
        unfold rowSize
        rw [hfroz g (hH.lt g ⟨id, h3⟩) (fun j hj hja => h2 (by rw [hj, hH.inj _ _ _ h3 hja]))]
    · obtain ⟨id, hid⟩ := hm
      rcases hat id _ hid with ⟨_, h2⟩ | ⟨_, _, h3⟩
      · rcases hq g h2.symm with h4 | ⟨j, _, hj⟩
        · omega
        · exact ⟨j, hj⟩
      · exact ⟨id, h3⟩
    · exact hfroz g hg fun id _ h => hm ⟨id, h⟩
  refine ⟨⟨?_, fun id hid => ?_, fun i j g hi hj => ?_, fun id hid => ?_, fun g hg => ⟨Nat.lt_of_lt_of_le (hH.xs g hg).1 hsize, fun ho => (hH.xs g hg).2 (hs.old g (hH.xs g hg).1 ho)⟩⟩, hs⟩
  · simp [Pl.mv, killB_length, hH.n]
  · simp only [Pl.mv] at hid ⊢
    rw [if_neg (by omega)]
    split
    · rfl
    · exact hH.out id (by omega)
  · have new : ∀ i, i < p.n → some i ≠ k → p.at_ i = some (some g) → q = some g → False := fun i _ h2 h3 h4 => by
      rcases hq g h4 with h5 | ⟨l, h6, h7⟩
      · have := hH.lt g ⟨i, h3⟩; omega
      · exact h2 (by rw [h6, hH.inj _ _ _ h3 h7])
    rcases hat i _ hi with ⟨h1, h2⟩ | ⟨h1, h2, h3⟩ <;> rcases hat j _ hj with ⟨h4, h5⟩ | ⟨h4, h5, h6⟩
    · omega
    · exact (new j h4 h5 h6 h2.symm).elim
    · exact (new i h1 h2 h3 h5.symm).elim
    · exact hH.inj _ _ _ h3 h6
  · simp only [List.length_append, killB_length, List.length_singleton] at hid
    by_cases hlt : id < H.length
    · rw [List.getElem_append_left (by rw [killB_length]; exact hlt), killB_get]
      have hne : id ≠ p.n := by rw [hH.n]; omega
      split
      · rename_i he
        show (p.mv k q).at_ id = none
        simp [Pl.mv, hne, he]
      · rename_i he
        have hb := hH.blk id hlt
        have ha : (p.mv k q).at_ id = p.at_ id := by simp [Pl.mv, hne, he]
        exact hb.step hs ha fun g hg => hfroz g (hH.lt g ⟨id, hg⟩) fun j hj hja => he (by rw [hj, hH.inj _ _ _ hg hja])
    · have he : id = H.length := by omega
      subst he
      rw [List.getElem_append_right (by rw [killB_length]; exact Nat.le_refl _)]
      simp only [killB_length, Nat.sub_self, List.getElem_singleton]
      have ha : (p.mv k q).at_ H.length = some q := by simp [Pl.mv, hH.n]
      rcases hrow with ⟨h1, h2⟩ | ⟨g, cur, h1, h2, h3, h4⟩
      · exact Or.inl ⟨by rw [ha, h1], h2⟩
      · exact Or.inr ⟨g, cur, by rw [ha, h1], h2, h3, fun i hi => let ⟨v, a, b⟩ := h4 i hi; ⟨v, a, b.step hs⟩⟩
theorem repl_get {R : Value → AV → Prop} {cur : Array Value} {xs : List AV} (h : RepL R cur.toList xs) : xs.length ≤ cur.size ∧ ∀ (i : Nat) (hi : i < xs.length), ∃ v, cur[i]? = some v ∧ R v xs[i] := by
  have hl : cur.size = xs.length := by simpa using h.1
  refine ⟨by omega, fun i hi => ⟨cur[i]'(by omega), by simp, ?_⟩⟩
  have := h.2 i (by simpa using (show i < cur.size by omega)) hi
  simpa using this
/-- a new block -/
theorem alloc_ok {p : Pl} {H : List Blk} {w : World} (hH : RH p H w) (cur : Array Value) (t : TypeId) (xs : List AV) (hx : RepL (RepC p w) cur.toList xs) :
    RH (p.mv none (some w.heap.size)) (H ++ [.row t xs]) (w.alloc (.cells cur t)) ∧ Step p w (p.mv none (some w.heap.size)) (w.alloc (.cells cur t)) ∧ Below w.heap.size w (w.alloc (.cells cur t)) := by
  have hb : Below w.heap.size w (w.alloc (.cells cur t)) := (Below.refl _ _).alloc (Nat.le_refl _) _
  obtain ⟨h1, h2⟩ := repl_get hx
  obtain ⟨a, b⟩ := mv_ok hH none (some w.heap.size) t xs hb.os hb.tape hb.output hb.size (fun g hg _ => hb.block g hg) (fun g hg => Or.inl (by cases hg; exact Nat.le_refl _)) (Or.inr ⟨_, cur, rfl, heap_alloc_new w _, h1, h2⟩)
  exact ⟨a, b, hb⟩
theorem ptr_new {p : Pl} {H : List Blk} {w : World} (hH : RH p H w) (g o : Nat) (k : Option Nat) (w' : World) : Rep (p.mv k (some g)) w' (.pointer (some ⟨g, o, none⟩)) (.ptr H.length o) :=
  ⟨by simp [Pl.mv, hH.n], fun q hq => by simp only [Pl.mv, hH.n, if_true, Option.some.injEq] at hq; exact ⟨g, hq.symm, rfl⟩⟩

def leafOK (H : List Blk) : AV → Bool
  | .bool _ | .int _ _ | .str _ | .nilptr | .nilsl | .nilmap | .nilfn | .fptr _ | .slv _ _ _ => true
  | .sl id _ _ _ => liveRow H id
  | .slc id _ _ _ _ => liveRow H id
  | .ptr id _ => liveRow H id
  | .map id => match H[id]? with | some (.map _) => true | _ => false
  | _ => false
theorem leaf_one {p : Pl} {H : List Blk} {w : World} {v : Value} {x : AV} (hH : RH p H w) (h : Rep p w v x) (hl : leafOK H x = true) : RepC p w v x := by
  cases x <;> simp only [leafOK] at hl <;> try cases hl
  case bool => cases rep_bool h; exact ⟨rfl, h⟩
  case int => cases rep_int h; exact ⟨rfl, h⟩
  case str => cases rep_str h; exact ⟨rfl, h⟩
  case nilptr => cases rep_nilptr h; exact ⟨rfl, h⟩
  case nilsl => cases rep_nilsl h; exact ⟨rfl, h⟩
  case nilmap => cases rep_nilmap h; exact ⟨rfl, h⟩
  case nilfn => have h' : RepF p.M w v .nilfn := h; cases h'; exact ⟨rfl, h⟩
  case fptr => obtain ⟨_, rfl, _⟩ := at_fptr h; exact ⟨rfl, h⟩
  case slv => obtain ⟨_, _, _, rfl, _⟩ := at_slv h; exact ⟨rfl, h⟩
  case sl id _ _ _ => obtain ⟨q, hq⟩ := liveRow_spec hH hl; obtain ⟨_, _, rfl, _⟩ := h.2 q hq; exact ⟨rfl, h⟩
  case slc id _ _ _ _ => obtain ⟨q, hq⟩ := liveRow_spec hH hl; obtain ⟨_, _, rfl, _⟩ := h.2 q hq; exact ⟨rfl, h⟩
  case ptr id _ => obtain ⟨q, hq⟩ := liveRow_spec hH hl; obtain ⟨_, _, rfl⟩ := h.2 q hq; exact ⟨rfl, h⟩
  case map id =>
    split at hl
    · rename_i kv hb
      obtain ⟨hlt, he⟩ := List.getElem?_eq_some_iff.1 hb
      have := hH.blk id hlt
      rw [he] at this
      obtain ⟨g, es, clock, h1, _⟩ := this
      obtain ⟨_, _, rfl⟩ := h.2 _ h1
      exact ⟨rfl, h⟩
    · cases hl
def cellsAV (H : List Blk) (x : AV) : Option (List AV) := match x with
  | .agg cs => some cs
  | x => bif leafOK H x then some [x] else none
theorem cells_rep {p : Pl} {H : List Blk} {w : World} {v : Value} {x : AV} {cs : List AV} (hH : RH p H w) (h : Rep p w v x) (hc : cellsAV H x = some cs) : RepL (RepC p w) v.cells.toList cs := by
  unfold cellsAV at hc
  split at hc
  · cases hc; obtain ⟨vs, rfl, h2⟩ := h; exact h2
  · cases hl : leafOK H x with
    | false => rw [hl] at hc; cases hc
    | true =>
      rw [hl] at hc
      cases hc
      have h1 := leaf_one hH h hl
      have hv : v.cells.toList = [v] := by
        have := h1.1
        cases v <;> first | rfl | cases this
      rw [hv]
      exact RepL.cons h1 RepL.nil

def fillL (place : Nat → Option (Nat × Nat)) (cells : List AV) : List (Nat × List AV) → Option (List AV)
  | [] => some cells
  | (i, cs) :: r => match place i with
    | none => none
    | some (off, size) => if cs.length = size ∧ off + cs.length ≤ cells.length then fillL place (cells.take off ++ cs ++ cells.drop (off + cs.length)) r else none
theorem fold_set (off : Nat) : ∀ (l : List Value) (s : Nat) (cs : Array Value), off + s + l.length ≤ cs.size →
    ((l.zipIdx s).foldl (fun cs (x : Value × Nat) => cs.setIfInBounds (off + x.2) x.1) cs).toList = cs.toList.take (off + s) ++ l ++ cs.toList.drop (off + s + l.length)
  | [], s, cs, _ => by simp
  | v :: r, s, cs, h => by
    simp only [List.length_cons] at h
    rw [List.zipIdx_cons, List.foldl_cons, fold_set off r (s + 1) _ (by simp only [Array.size_setIfInBounds]; omega)]
    simp only [Array.toList_setIfInBounds, List.length_cons]
    have hlt : off + s < cs.toList.length := by simpa using (show off + s < cs.size by omega)
    rw [← Nat.add_assoc off s 1, List.take_set, List.drop_set_of_lt (by omega)]
    rw [List.take_succ_eq_append_getElem hlt, List.set_append]
    simp only [List.length_take, Nat.min_eq_left (Nat.le_of_lt hlt), Nat.lt_irrefl, if_false, Nat.sub_self, List.set_cons_zero]
    simp [Nat.add_assoc, Nat.add_comm 1]
theorem fill_rep {p : Pl} {w : World} {place : Nat → Option (Nat × Nat)} : ∀ (parts : List (Nat × Value)) (xs : List (Nat × List AV)) (cells : Array Value) (cs ds : List AV),
    parts.length = xs.length → (∀ (i : Nat) (h : i < parts.length) (h' : i < xs.length), parts[i].1 = xs[i].1 ∧ RepL (RepC p w) parts[i].2.cells.toList xs[i].2) → RepL (RepC p w) cells.toList cs → fillL place cs xs = some ds →
    ∃ arr, Instr.fill place cells parts = some arr ∧ RepL (RepC p w) arr.toList ds
  | [], xs, cells, cs, ds, hl, _, hc, h => by
    have : xs = [] := List.eq_nil_of_length_eq_zero (by simpa using hl.symm)
    subst this
    simp only [fillL, Option.some.injEq] at h
    subst h
    exact ⟨cells, rfl, hc⟩
  | (i, v) :: r, [], cells, cs, ds, hl, _, _, _ => by simp at hl
  | (i, v) :: r, (j, ys) :: xr, cells, cs, ds, hl, hp, hc, h => by
    obtain ⟨h1, h2⟩ := hp 0 (by simp) (by simp)
    simp only [List.getElem_cons_zero] at h1 h2
    subst h1
    unfold fillL at h
    unfold Instr.fill
    cases hpl : place i with
    | none => simp [hpl] at h
    | some os =>
      obtain ⟨off, size⟩ := os
      simp only [hpl] at h ⊢
      split at h
      · rename_i hcond
        have hvl : v.cells.size = ys.length := by have := h2.1; simpa using this
        have hcl : cells.size = cs.length := by have := hc.1; simpa using this
        rw [if_neg (by simp [hvl, hcl]; omega)]
        have hfold : (v.cells.zipIdx.foldl (fun cs (x : Value × Nat) => cs.setIfInBounds (off + x.2) x.1) cells).toList = cells.toList.take off ++ v.cells.toList ++ cells.toList.drop (off + ys.length) := by
          have := fold_set off v.cells.toList 0 cells (by simp [hvl, hcl]; omega)
          rw [← Array.foldl_toList, Array.toList_zipIdx]
          simpa [hvl] using this
        refine fill_rep r xr _ _ ds (by simpa using hl) (fun k h3 h4 => by have := hp (k + 1) (by simpa using h3) (by simpa using h4); simpa using this) ?_ h
        rw [hfold]
        exact ((hc.take off).append h2).append (hc.drop _)
      · cases h
def partsAV (H : List Blk) (ev : Operand → AV) : List (Nat × Operand) → Option (List (Nat × List AV))
  | [] => some []
  | (i, x) :: r => match cellsAV H (ev x), partsAV H ev r with | some cs, some l => some ((i, cs) :: l) | _, _ => none
theorem parts_rep {p : Pl} {H : List Blk} {w : World} {a : Act} {ev : Operand → AV} (hH : RH p H w) (hev : ∀ x, Rep p w (a.eval x) (ev x)) : ∀ (l : List (Nat × Operand)) (xs : List (Nat × List AV)), partsAV H ev l = some xs →
    (l.map fun (q : Nat × Operand) => (q.1, a.eval q.2)).length = xs.length ∧ ∀ (i : Nat) (h : i < (l.map fun (q : Nat × Operand) => (q.1, a.eval q.2)).length) (h' : i < xs.length), (l.map fun (q : Nat × Operand) => (q.1, a.eval q.2))[i].1 = xs[i].1 ∧ RepL (RepC p w) (l.map fun (q : Nat × Operand) => (q.1, a.eval q.2))[i].2.cells.toList xs[i].2
  | [], xs, h => by cases h; exact ⟨rfl, fun i h => by simp at h⟩
  | (i, x) :: r, xs, h => by
    unfold partsAV at h
    split at h
    · rename_i cs l h1 h2
      cases h
      obtain ⟨a1, a2⟩ := parts_rep hH hev r l h2
      refine ⟨by simp only [List.map_cons, List.length_cons, a1], fun k h3 h4 => ?_⟩
      cases k with
      | zero => exact ⟨rfl, cells_rep hH (hev x) h1⟩
      | succ k =>
        simp only [List.map_cons, List.getElem_cons_succ]
        exact a2 k (by simpa using h3) (by simpa using h4)
    · cases h
def zeroL (P : Program) (t : TypeId) : Option (List AV) := match P.info? t with | some i => (match i.zero with | some z => consts z.cells.toList | none => none) | none => none
def placeE (P : Program) (t : TypeId) : Option (Nat → Option (Nat × Nat)) := match P.underlying t with
  | some (.struct fields) => (fields.toList.mapM (fun f => (P.info? f.type).map fun i => (f.offset, i.size))).map fun places => (places.toArray[·]?)
  | some (.array _ e) => (P.info? e).map fun ie => fun i => some (i * ie.size, ie.size)
  | _ => none
def buildE (P : Program) (H : List Blk) (ev : Operand → AV) (t : TypeId) (parts : Array (Nat × Operand)) : Option (List AV) :=
  match zeroL P t, placeE P t, partsAV H ev parts.toList with
  | some zs, some place, some xs => fillL place zs xs
  | _, _, _ => none
theorem build_rd {P : Program} {p : Pl} {H : List Blk} {w : World} {a : Act} {ev : Operand → AV} (hH : RH p H w) (hev : ∀ x, Rep p w (a.eval x) (ev x)) {t : TypeId} {parts : Array (Nat × Operand)} {ds : List AV} (h : buildE P H ev t parts = some ds) :
    Rd P p w (Instr.build t (parts.map fun (i, x) => (i, a.eval x))) (.agg ds) := by
  unfold buildE at h
  split at h
  · rename_i zs place xs h1 h2 h3
    obtain ⟨b1, b2⟩ := parts_rep hH hev parts.toList xs h3
    unfold zeroL at h1
    split at h1
    · rename_i i hi
      split at h1
      · rename_i z hz
        have hzr := consts_rep (p := p) (w := w) h1
        obtain ⟨arr, h4, h5⟩ := fill_rep (p := p) (w := w) (place := place) _ xs z.cells zs ds b1 b2 hzr h
        refine ⟨.agg arr, ⟨arr, rfl, h5⟩, fun w' _ => ?_⟩
        refine run_build w' t _ arr ?_
        have hpl : (parts.map fun (x : Nat × Operand) => (x.1, a.eval x.2)).toList = parts.toList.map fun (q : Nat × Operand) => (q.1, a.eval q.2) := by simp
        unfold Program.built
        rw [hpl]
        unfold placeE at h2
        split at h2
        · rename_i fields hu
          obtain ⟨places, hpq, rfl⟩ := Option.map_eq_some_iff.1 h2
          simp only [hi, hu, hz, hpq]
          exact h4
        · rename_i n e hu
          obtain ⟨ie, hie, rfl⟩ := Option.map_eq_some_iff.1 h2
          simp only [hi, hu, hz, hie]
          exact h4
        · cases h2
      · cases h1
    · cases h1
  · cases h
end Go.Proofs.YthcaeofgegfncaaDoor.V
namespace Go.Proofs.YthcaeofgegfncaaDoor.V
open Go Go.RowKit
set_option linter.unusedSimpArgs false
set_option linter.unusedVariables false

def unw : AV → AV | .cnd _ x => x | x => x
/-- where 'c' is 't', the value is there -/
def side (c t : Bool) : AV → List Prop | .cnd g _ => [c = t → g = true] | _ => []
theorem unw_rep {p : Pl} {w : World} {v : Value} {x : AV} (h : Rep p w v x) (hg : ∀ g y, x = .cnd g y → g = true) : Rep p w v (unw x) := by
  cases x
  case cnd g y =>
    have h2 : RepT p w v y := h.1 (hg g y rfl)
    cases y
    case cnd => simp only [RepT, Rep1, Rep0] at h2; cases h2
    all_goals exact h2
  all_goals exact h
def pickE (t : Bool) : AV → AV → AV
  | .bool a, .bool b => .bool (bif t then a else b)
  | .str a, .str b => .str (bif t then a else b)
  | .int k a, .int l b => bif decide (k = l) then .int k (bif t then a else b) else (bif t then .int k a else .int l b)
  | x, y => bif t then x else y
theorem pickE_eq (t : Bool) (x y : AV) : pickE t x y = bif t then x else y := by
  unfold pickE
  split
  · cases t <;> rfl
  · cases t <;> rfl
  · rename_i k a l b
    by_cases h : k = l
    · subst h; cases t <;> simp
    · simp [h]
  · rfl
def pureE (P : Program) (H : List Blk) (ev : Operand → AV) : Op → List Prop × AV
  | .move x => ([], ev x)
  | .assign x => ([], ev x)
  | .pick c a b => match ev c with | .bool t => (side t true (ev a) ++ side t false (ev b), pickE t (unw (ev a)) (unw (ev b))) | _ => ([False], .junk)
  | .build t parts => match buildE P H ev t parts with | some ds => ([], .agg ds) | none => ([False], .junk)
  | .load t x => match cellsAt H (ev x) with
    | some cs => (dec (knownT P t) ++ [(bif isAggT P t then sizeT P t else 1) ≤ cs.length], loadE P t cs)
    | none => ([False], .junk)
  | .nilCheck x => (dec (liveAddr H (ev x)), ev x)
  | .binOp op t x y _ => binE P H op t (ev x) (ev y)
  | .unOp op _ x => unE op (ev x)
  | .convert a b x => convE P H a b (ev x)
  | .slice t x lo hi none => sliceE P H t (ev x) (lo.map ev) (hi.map ev)
  | .fieldAddr s x f => match fieldOf P s f with
    | some fd => (dec (liveAddr H (ev x) && (knownT P fd.type && sizeT P fd.type != 0)), addAV (ev x) fd.offset)
    | none => ([False], .junk)
  | .field s x f => match fieldOf P s f, ev x with
    | some fd, .agg cs => (dec (knownT P fd.type) ++ [fd.offset < cs.length], partE P fd.type cs fd.offset)
    | _, _ => ([False], .junk)
  | .indexAddr t x i => match ev i with | .int _ n => indexAddrE P H t (ev x) n | _ => ([False], .junk)
  | .index t x i => match P.underlying t, ev x, ev i with
    | some .string, .str s, .int _ n => ([0 ≤ n ∧ n < s.size], .int .u8 (byteAt s n))
    | some (.array len e), .agg cs, .int _ n => ((0 ≤ n ∧ n < len) :: dec (knownT P e) ++ [n.toNat * sizeT P e < cs.length], partE P e cs (n.toNat * sizeT P e))
    | _, _, _ => ([False], .junk)
  | .extract x i => match ev x with | .tuple xs => (dec (decide (i < xs.length)), xs.getD i .junk) | _ => ([False], .junk)
  | .call ⟨.builtin .len, ⟨[x]⟩, ⟨[t]⟩⟩ => lenE P H t (ev x)
  | .call ⟨.builtin .max, ⟨[x, y]⟩, _⟩ => match ev x, ev y with | .int k a, .int _ b => ([], .int k (if b > a then b else a)) | _, _ => ([False], .junk)
  | .call ⟨.builtin .min, ⟨[x, y]⟩, _⟩ => match ev x, ev y with | .int k a, .int _ b => ([], .int k (if b < a then b else a)) | _, _ => ([False], .junk)
  | _ => ([False], .junk)
theorem Rd.run {P : Program} {p : Pl} {w : World} {s : Sem Value} {x : AV} (h : Rd P p w s x) : ∃ v, Rep p w v x ∧ ∀ w', Below w.heap.size w w' → (do pure (Next.value (← s)) : Sem Next).run P w' = .ok (.value v) w' := by
  obtain ⟨v, h1, h2⟩ := h
  exact ⟨v, h1, fun w' hb => by rw [Sem.run_bind, h2 w' hb, Result.andThen_ok]; rfl⟩
theorem pureE_gen {P : Program} {o : Oper} {H : List Blk} {ev : Operand → AV} {op : Op} (ho : o.op = op) (hok : allP (pureE P H ev op).1) {p : Pl} {w : World} {a : Act} (hH : RH p H w) (hev : ∀ x, Rep p w (a.eval x) (ev x)) :
    ∃ v, Rep p w v (pureE P H ev op).2 ∧ ∀ w', Below w.heap.size w w' → (execOp a.eval o).run P w' = .ok (.value v) w' := by
  unfold execOp
  rw [ho]
  unfold pureE at hok ⊢
  split at hok
  · exact ⟨_, hev _, fun w' _ => by simp⟩
  · exact ⟨_, hev _, fun w' _ => by simp⟩
  · rename_i c x y
    split at hok
    · rename_i t ht
      have hc := rep_bool (ht ▸ hev c)
      refine ⟨if t then a.eval x else a.eval y, ?_, fun w' _ => by simp [hc, asBool]⟩
      rw [pickE_eq]
      cases t
      · exact unw_rep (hev y) fun g z hz => by have := (allP_append.1 hok).2; rw [hz] at this; exact this rfl
      · exact unw_rep (hev x) fun g z hz => by have := (allP_append.1 hok).1; rw [hz] at this; exact this rfl
    · exact hok.elim
  · split at hok
    · rename_i ds hd; exact (build_rd hH hev hd).run
    · exact hok.elim
  · split at hok
    · rename_i cs hc
      rw [allP_append, allP_dec] at hok
      exact (load_rd hH (hev _) hc hok.1 hok.2).run
    · exact hok.elim
  · rename_i x
    rw [allP_dec] at hok
    obtain ⟨h1, h2⟩ := liveAddr_spec hH hok
    obtain ⟨ad, hv, _⟩ := add_rep (hev x) h1 h2 0
    exact ⟨_, hev x, fun w' _ => by simp [hv]⟩
  · exact (binE_rd hH (hev _) (hev _) hok).run
  · exact (unE_rd (hev _) hok).run
  · exact (convE_rd hH (hev _) hok).run
  · rename_i t x lo hi
    have e1 : RepO p w (lo.map a.eval) (lo.map ev) := by cases lo <;> first | trivial | exact hev _
    have e2 : RepO p w (hi.map a.eval) (hi.map ev) := by cases hi <;> first | trivial | exact hev _
    exact (sliceE_rd hH (hev _) e1 e2 hok).run
  · split at hok
    · rename_i fd hf
      rw [allP_dec] at hok
      simp only [Bool.and_eq_true, bne_iff_ne] at hok
      exact (fieldAddr_rd hH (hev _) hok.1 hf hok.2.1 hok.2.2).run
    · exact hok.elim
  · rename_i t x f
    split at hok
    · rename_i fd cs hf hx
      rw [allP_append, allP_dec] at hok
      exact (field_rd (hx ▸ hev x) hf hok.1 hok.2).run
    · exact hok.elim
  · rename_i t x i
    split at hok
    · rename_i k n hi
      have e1 : a.eval i = .int k n := rep_int (hi ▸ hev i)
      have h1 := (indexAddr_rd (k := k) hH (hev x) hok).run
      rw [← e1] at h1
      exact h1
    · exact hok.elim
  · rename_i t x i
    split at hok
    · rename_i st k n hu hx hi
      have e1 : a.eval i = .int k n := rep_int (hi ▸ hev i)
      have h1 := (index_str_rd (k := k) (hx ▸ hev x) hu hok).run
      rw [← e1] at h1
      exact h1
    · rename_i len e cs k n hu hx hi
      rw [List.cons_append, allP_cons, allP_append, allP_dec] at hok
      have e1 : a.eval i = .int k n := rep_int (hi ▸ hev i)
      have h1 := (index_agg_rd (k := k) (hx ▸ hev x) hu hok.1 hok.2.1 hok.2.2).run
      rw [← e1] at h1
      exact h1
    · exact hok.elim
  · rename_i x i
    split at hok
    · rename_i xs hx; rw [allP_dec, decide_eq_true_eq] at hok; exact (extract_rd (hx ▸ hev x) hok).run
    · exact hok.elim
  · rename_i x t
    have := (lenE_rd (ty := o.type) hH (hev x) hok).run
    obtain ⟨v, h1, h2⟩ := this
    exact ⟨v, h1, fun w' hb => by have := h2 w' hb; simpa [resolve, invoke, builtin] using this⟩
  · rename_i x y _
    split at hok
    · rename_i k m k' n h1 h2
      have e1 := rep_int (h1 ▸ hev x)
      have e2 := rep_int (h2 ▸ hev y)
      exact ⟨_, mk_int _ _ _ _, fun w' _ => by simp [resolve, invoke, builtin, Builtin.max_, Builtin.max2, e1, e2]⟩
    · exact hok.elim
  · rename_i x y _
    split at hok
    · rename_i k m k' n h1 h2
      have e1 := rep_int (h1 ▸ hev x)
      have e2 := rep_int (h2 ▸ hev y)
      exact ⟨_, mk_int _ _ _ _, fun w' _ => by simp [resolve, invoke, builtin, Builtin.min_, Builtin.min2, e1, e2]⟩
    · exact hok.elim
  · exact hok.elim
theorem pureE_ok {P : Program} {o : Oper} {s : St} {op : Op} (ho : o.op = op) (hok : allP (pureE P s.H s.ev op).1) : PureV P o s (pureE P s.H s.ev op).2 := fun _ _ _ hR => pureE_gen ho hok hR.heap hR.ev
def guardE (ops : Array Oper) (s : St) (o : Oper) : Option Bool :=
  match o.guard with
  | none => none
  | some (j, want) => match (ops[j]?).bind (·.dst) with
    | some d => match s.t.getD d .junk with
      | .bool b => some (b == want)
      | .cnd g (.bool b) => some (g && (b == want))
      | _ => none
    | none => none
theorem yielded_of {ops : Array Oper} {a : Act} {j d : Nat} {b : Bool} (hd : (ops[j]?).bind (·.dst) = some d) (hv : a.eval (.tmp d) = .bool b) : yielded ops a.tmps j = some b := by
  have h2 : a.tmps[d]? = some (.bool b) := by
    have h3 : a.tmps.getD d undef = .bool b := hv
    rw [Array.getD_eq_getD_getElem?] at h3
    cases h4 : a.tmps[d]? with
    | none => rw [h4] at h3; cases h3
    | some x => rw [h4] at h3; simpa using h3
  simp only [yielded, hd, Option.bind_some, h2]
/-- the values that an operation looks at are there -/
def there (ev : Operand → AV) : List Operand → List Prop
  | [] => []
  | x :: l => (match ev x with | .cnd g _ => [g = true] | _ => []) ++ there ev l
theorem there_mem {ev : Operand → AV} : ∀ {l : List Operand}, allP (there ev l) → ∀ x ∈ l, ∀ g y, ev x = .cnd g y → g = true
  | [], _, x, hx => by cases hx
  | z :: l, h, x, hx => fun g y he => by
    rcases List.mem_cons.1 hx with rfl | hx
    · have := (allP_append.1 h).1; rw [he] at this; exact this
    · exact there_mem (allP_append.1 h).2 x hx g y he
def hasT (l : List Operand) (i : Nat) : Bool := l.any fun y => match y with | .tmp j => j == i | _ => false
def evG (s : St) (l : List Operand) (x : Operand) : AV := match x with
  | .tmp i => bif hasT l i then unw (s.ev (.tmp i)) else s.ev (.tmp i)
  | x => s.ev x
/-- what an operation looks at in any case -/
def needs : Op → List Operand
  | .pick c _ _ => [c]
  | op => op.operands.toList
theorem hasT_mem {l : List Operand} {i : Nat} (h : hasT l i = true) : .tmp i ∈ l := by
  obtain ⟨y, hy, he⟩ := List.any_eq_true.1 h
  cases y <;> simp at he
  subst he
  exact hy
theorem evG_rep {s : St} {l : List Operand} (ht : allP (there s.ev l)) {p : Pl} {w : World} {a : Act} (hR : Rst p s a w) (x : Operand) : Rep p w (a.eval x) (evG s l x) := by
  cases x with
  | tmp i =>
    simp only [evG]
    cases h : hasT l i with
    | false => exact hR.ev _
    | true => exact unw_rep (hR.ev _) (there_mem ht _ (hasT_mem h))
  | const v => exact hR.ev _
  | func f => exact hR.ev _
  | global g => trivial
theorem guardE_wanted {ops : Array Oper} {s : St} {o : Oper} {g : Bool} (hg : guardE ops s o = some g) {p : Pl} {w : World} {a : Act} (hR : Rst p s a w) : Region.wanted o (yielded ops a.tmps) = g := by
  unfold guardE at hg
  unfold Region.wanted
  split at hg
  · cases hg
  · rename_i j want hgd
    rw [hgd]
    split at hg
    · rename_i d hd
      split at hg
      · rename_i b hb
        cases hg
        have hv0 : Rep p w (a.eval (.tmp d)) (s.t.getD d .junk) := hR.ev (.tmp d)
        rw [hb] at hv0
        have hv := rep_bool hv0
        simp only [yielded_of hd hv]
        cases b <;> cases want <;> rfl
      · rename_i g0 b hb
        cases hg
        have hv : Rep p w (a.eval (.tmp d)) (s.t.getD d .junk) := hR.ev (.tmp d)
        rw [hb] at hv
        cases g0 with
        | true =>
          have h1 : RepT p w (a.eval (.tmp d)) (.bool b) := hv.1 rfl
          have h2 := rep_bool (p := p) (w := w) h1
          simp only [yielded_of hd h2]
          cases b <;> cases want <;> rfl
        | false =>
          have h1 : a.tmps.getD d undef = undef := hv.2 rfl
          have h2 : yielded ops a.tmps j = none := by
            unfold yielded
            rw [hd, Option.bind_some]
            rw [Array.getD_eq_getD_getElem?] at h1
            cases h4 : a.tmps[d]? with
            | none => rfl
            | some x =>
              rw [h4] at h1
              simp only [Option.getD_some] at h1
              subst h1
              rfl
          simp only [h2]
          rfl
      · cases hg
    · cases hg
/-- a reading operation that is carried out only where 'g' holds -/
def notCnd : AV → Bool | .cnd _ _ => false | _ => true
def under (g : Bool) : List Prop → List Prop
  | [] => []
  | c :: l => (g = true → c) :: under g l
theorem under_ok {g : Bool} : ∀ {l : List Prop}, allP (under g l) → g = true → allP l
  | [], _, _ => trivial
  | c :: l, h, hg => by
    unfold under at h
    rw [allP_cons] at h ⊢
    exact ⟨h.1 hg, under_ok h.2 hg⟩
def pureG (P : Program) (s : St) (o : Oper) (g : Bool) : List Prop × AV := match pureE P s.H (evG s (needs o.op)) o.op with
  | (c, x) => (under g (there s.ev (needs o.op) ++ (dec (notCnd x) ++ c)), .cnd g x)
theorem notCnd_repT {p : Pl} {w : World} {v : Value} {x : AV} (h : Rep p w v x) (hn : notCnd x = true) : RepT p w v x := by
  cases x <;> first | exact h | (simp [notCnd] at hn)
theorem runN_guard {P : Program} {Q : Exit → St → Prop} {ops : Array Oper} {i : Nat} {l : List Nat} {o : Oper} {s : St} {g : Bool} (ho : ops[i]? = some o) (hg : guardE ops s o = some g)
    (hok : allP (pureG P s o g).1) (h : RunN P ops Q l (s.put o.dst (pureG P s o g).2)) : RunN P ops Q (i :: l) s := fun p w a Qr hR hQ => by
  rw [wpOps_cons]
  unfold wpOp
  rw [ho]
  simp only [guardE_wanted hg hR]
  cases g with
  | true =>
    simp only [if_true]
    have hok := under_ok hok rfl
    rw [allP_append, allP_append, allP_dec] at hok
    obtain ⟨h1, hnc, h2⟩ := hok
    obtain ⟨v, hv, hrun⟩ := pureE_gen (o := o) rfl h2 hR.heap (evG_rep h1 hR)
    refine Or.inl ?_
    unfold Oper.wp
    rw [hrun w (Below.refl _ _)]
    refine h p w _ Qr (hR.put _ ?_) hQ
    refine ⟨fun _ => ?_, fun h => by cases h⟩
    exact notCnd_repT hv hnc
  | false =>
    simp only [Bool.false_eq_true, if_false]
    exact h p w _ Qr (hR.put _ ⟨fun h => (by cases h), fun _ => rfl⟩) hQ
/-- a run of reading operations -/
def pure1 (P : Program) (ops : Array Oper) (s : St) (o : Oper) : List Prop × AV :=
  match o.guard with
  | none => pureE P s.H s.ev o.op
  | some _ => match guardE ops s o with
    | some g => pureG P s o g
    | none => ([False], .junk)
def pureN (P : Program) (ops : Array Oper) : Nat → List Nat → St → List Prop × St
  | 0, _, s => ([], s)
  | _ + 1, [], s => ([False], s)
  | n + 1, i :: l, s => match ops[i]? with
    | none => ([False], s)
    | some o => match pure1 P ops s o with
      | (c, x) => match pureN P ops n l (s.put o.dst x) with | (d, s') => (c ++ d, s')
theorem wanted_none {ops : Array Oper} {s : St} {o : Oper} (h : o.guard = none) : wanted ops s o = some true := by unfold wanted; rw [h]
/-- reading operations of a region that draws its order -/
theorem runD_guard {P : Program} {Q : Exit → St → Prop} {ops : Array Oper} {n : Nat} {listed : Array Bool} {s : St} (i : Nat) {o : Oper} {g : Bool} (ho : ops[i]? = some o)
    (hc : (Region.noSelect ops && (Region.free .any ops listed i && (Region.ready .any ops listed).contains i)) = true) (hg : guardE ops s o = some g) (hok : allP (pureG P s o g).1)
    (h : RunD P ops Q n (listed.setIfInBounds i true) (s.put o.dst (pureG P s o g).2)) : RunD P ops Q (n + 1) listed s := fun p w a K hR hQ => by
  simp only [Bool.and_eq_true] at hc
  cases g with
  | true =>
    have hok := under_ok hok rfl
    rw [allP_append, allP_append, allP_dec] at hok
    obtain ⟨h1, hnc, h2⟩ := hok
    obtain ⟨v, hv, hrun⟩ := pureE_gen (o := o) rfl h2 hR.heap (evG_rep h1 hR)
    exact wpAnyH_take ho hc.1 hc.2.1 hc.2.2 (fun _ _ _ h => (by cases h.1)) (Or.inl ⟨guardE_wanted hg hR, fun w' hw' => hrun w' hw'⟩) (Below.refl _ _) (h p w _ K (hR.put _ ⟨fun _ => notCnd_repT hv hnc, fun h => by cases h⟩) hQ)
  | false =>
    exact wpAnyH_take (v := undef) ho hc.1 hc.2.1 hc.2.2 (fun _ _ _ h => (by cases h.1)) (Or.inr ⟨guardE_wanted hg hR, rfl⟩) (Below.refl _ _) (h p w _ K (hR.put _ ⟨fun h => (by cases h), fun _ => rfl⟩) hQ)
section
variable {P : Program} {s : St} {o : Oper} {R : AV → List Blk → Prop}
theorem opB_of (hstep : ∀ p w a, Rst p s a w → ∃ v x H' p' w', (execOp a.eval o).run P w = .ok (.value v) w' ∧ R x H' ∧ RH p' H' w' ∧ Rep p' w' v x ∧ Step p w p' w' ∧ Below w.heap.size w w') : OpB P o s R := fun p w a K Q hR hK => by
  obtain ⟨v, x, H', p', w', h1, h2, h3, h4, h5, h6⟩ := hstep p w a hR
  unfold Oper.wp
  rw [h1]
  exact hK v x H' p' w' h2 h3 h4 h5 h6
theorem op_box {t : TypeId} {x : Operand} {cs : List AV} (ho : o.op = .box t x) (hc : cellsAV s.H (s.ev x) = some cs) (h : R (.ptr s.H.length 0) (s.H ++ [.row t cs])) : OpB P o s R := opB_of fun p w a hR => by
  obtain ⟨h1, h2, h3⟩ := alloc_ok hR.heap (a.eval x).cells t cs (cells_rep hR.heap (hR.ev x) hc)
  refine ⟨_, _, _, _, _, ?_, h, h1, ptr_new hR.heap w.heap.size 0 none _, h2, h3⟩
  unfold execOp
  rw [ho]
  simp [Instr.box, newVar, newRow]
theorem op_alloc {t : TypeId} {cs : List AV} (ho : o.op = .alloc t) (hc : zeroL P t = some cs) (h : R (.ptr s.H.length 0) (s.H ++ [.row t cs])) : OpB P o s R := opB_of fun p w a hR => by
  unfold zeroL at hc
  split at hc
  · rename_i i hi
    split at hc
    · rename_i z hz
      obtain ⟨h1, h2, h3⟩ := alloc_ok hR.heap z.cells t cs (consts_rep hc)
      refine ⟨_, _, _, _, _, ?_, h, h1, ptr_new hR.heap w.heap.size 0 none _, h2, h3⟩
      unfold execOp
      rw [ho]
      simp [Instr.alloc, zeroValue, typeInfo, hi, hz, newVar, newRow]
    · cases hc
  · cases hc
end
end Go.Proofs.YthcaeofgegfncaaDoor.V
namespace Go.Proofs.YthcaeofgegfncaaDoor.V
open Go Go.RowKit
set_option linter.unusedSimpArgs false
set_option linter.unusedVariables false

theorem row_pre {R : Value → AV → Prop} {cur : Array Value} {xs : List AV} (hl : xs.length ≤ cur.size) (h : ∀ (i : Nat) (h : i < xs.length), ∃ v, cur[i]? = some v ∧ R v xs[i]) : RepL R (cur.toList.take xs.length) xs := by
  have hcl : cur.toList.length = cur.size := Array.length_toList
  refine ⟨by rw [List.length_take]; omega, fun i h1 h2 => ?_⟩
  obtain ⟨v, h3, h4⟩ := h i h2
  rw [List.getElem_take]
  have : cur.toList[i]'(by omega) = v := by
    obtain ⟨_, h5⟩ := Array.getElem?_eq_some_iff.1 h3
    simpa using h5
  rw [this]; exact h4
theorem pre_row {R : Value → AV → Prop} {cur : Array Value} {xs : List AV} (h : RepL R (cur.toList.take xs.length) xs) : xs.length ≤ cur.size ∧ ∀ (i : Nat) (h : i < xs.length), ∃ v, cur[i]? = some v ∧ R v xs[i] := by
  have hcl : cur.toList.length = cur.size := Array.length_toList
  have hl : xs.length ≤ cur.size := by have := h.1; rw [List.length_take] at this; omega
  refine ⟨hl, fun i hi => ⟨cur[i]'(by omega), by simp, ?_⟩⟩
  have := h.2 i (by rw [h.1]; exact hi) hi
  rw [List.getElem_take] at this
  simpa using this
theorem splice_take (L V : List Value) (o n : Nat) (h : o + V.length ≤ n) (hn : n ≤ L.length) : (L.take o ++ V ++ L.drop (o + V.length)).take n = (L.take n).take o ++ V ++ (L.take n).drop (o + V.length) := by
  rw [List.take_append, List.take_append]
  simp only [List.length_append, List.length_take]
  rw [List.take_take, Nat.min_eq_left (show o ≤ L.length by omega), List.take_take, Nat.min_eq_right (show o ≤ n by omega), Nat.min_eq_left (show o ≤ n by omega), List.take_of_length_le (l := V) (by omega), List.drop_take]
/-- a row of the run's own, written anew in its place -/
theorem set_ok {p : Pl} {H : List Blk} {w : World} (hH : RH p H w) {id g : Nat} {t : TypeId} {xs xs' : List AV} {cur cur' : Array Value} (hb : H[id]? = some (.row t xs)) (hg : p.at_ id = some (some g)) (hc : w.heap[g]? = some (.cells cur t (0, 0))) (hs : cur'.size = cur.size)
    (hx : RepL (RepC p w) (cur'.toList.take xs'.length) xs') : RH p (H.set id (.row t xs')) (w.setRow g cur') ∧ Step p w p (w.setRow g cur') := by
  have hst : Step p w p (w.setRow g cur') := by
    refine ⟨rfl, rfl, rfl, by simp [World.setRow], Nat.le_refl _, fun j q _ hq => ⟨hq, fun g' hg' => ?_⟩, fun _ _ h => h, fun g' hg' hm => setRow_other w g g' cur' (fun he => hm (he ▸ ⟨id, hg⟩)), rfl⟩
    unfold rowSize
    by_cases he : g' = g
    · subst he; rw [setRow_heap w g' cur cur' t (0, 0) hc, hc]; exact hs
    · rw [setRow_other w g g' cur' he]
  obtain ⟨hl, _⟩ := List.getElem?_eq_some_iff.1 hb
  refine ⟨⟨by rw [List.length_set]; exact hH.n, hH.out, hH.inj, fun j hj => ?_, fun g' hg' => ⟨Nat.lt_of_lt_of_le (hH.xs g' hg').1 hst.size, (hH.xs g' hg').2⟩⟩, hst⟩
  rw [List.getElem_set]
  split
  · rename_i he
    subst he
    obtain ⟨h1, h2⟩ := pre_row hx
    exact Or.inr ⟨g, cur', hg, setRow_heap w g cur cur' t (0, 0) hc, h1, fun i hi => let ⟨v, a, b⟩ := h2 i hi; ⟨v, a, b.step hst⟩⟩
  · rename_i he
    exact (hH.blk j (by rw [List.length_set] at hj; exact hj)).step hst rfl fun g' hg' => setRow_other w g g' cur' (fun h => he (hH.inj _ _ _ hg (h ▸ hg')))
section
variable {P : Program} {s : St} {o : Oper} {R : AV → List Blk → Prop}
theorem opV_of (hstep : ∀ p w a, Rst p s a w → ∃ n v x H' p' w', (execOp a.eval o).run P w = .ok n w' ∧ (n = .value v ∨ (n = .skip ∧ v = undef)) ∧ R x H' ∧ RH p' H' w' ∧ Rep p' w' v x ∧ Step p w p' w') : OpV P o s R := fun p w a K Q hR hK => by
  obtain ⟨n, v, x, H', p', w', h1, h0, h2, h3, h4, h5⟩ := hstep p w a hR
  unfold Oper.wp
  rw [h1]
  rcases h0 with rfl | ⟨rfl, rfl⟩ <;> exact hK _ x H' p' w' h2 h3 h4 h5
/-- a store through the address of a block of the run's own -/
theorem op_store {t t' : TypeId} {x y : Operand} {id off : Nat} {xs cs : List AV} (ho : o.op = .store t x y) (hx : s.ev x = .ptr id off) (hb : s.H[id]? = some (.row t' xs)) (hc : cellsAV s.H (s.ev y) = some cs)
    (hk : knownT P t = true ∧ sizeT P t = cs.length) (hl : off + cs.length ≤ xs.length) (h : R .junk (s.H.set id (.row t' (xs.take off ++ cs ++ xs.drop (off + cs.length))))) : OpV P o s R := opV_of fun p w a hR => by
  have hcs := cells_rep hR.heap (hR.ev y) hc
  have hv := hR.ev x
  rw [hx] at hv
  rcases hR.heap.row hb with ⟨h1, _⟩ | ⟨g, cur, h1, h2, h3, h4⟩
  · obtain ⟨g, hg, _⟩ := hv.2 _ h1; cases hg
  · obtain ⟨g', hg', hve⟩ := hv.2 _ h1
    cases hg'
    have hlen : (a.eval y).cells.size = cs.length := by simpa using hcs.1
    have hst := run_storeCells_at P g off t' (a.eval y).cells.toList 0 cur w h2 (by simp [hlen]; omega) (fun u hu => by
      obtain ⟨i, hi, rfl⟩ := List.mem_iff_getElem.1 hu
      exact (hcs.2 i hi (by rw [← hcs.1]; exact hi)).1)
    simp only [Nat.add_zero, Array.length_toList, hlen] at hst
    have hpre := row_pre h3 h4
    have hnew : RepL (RepC p w) ((cur.toList.take off ++ (a.eval y).cells.toList ++ cur.toList.drop (off + cs.length)).take (xs.take off ++ cs ++ xs.drop (off + cs.length)).length) (xs.take off ++ cs ++ xs.drop (off + cs.length)) := by
      have hll : (xs.take off ++ cs ++ xs.drop (off + cs.length)).length = xs.length := by simp; omega
      have h5 : (a.eval y).cells.toList.length = cs.length := hcs.1
      have := splice_take cur.toList (a.eval y).cells.toList off xs.length (by rw [h5]; exact hl) (by simpa using h3)
      rw [h5] at this
      rw [hll, this]
      exact ((hpre.take off).append hcs).append (hpre.drop _)
    obtain ⟨h6, h7⟩ := set_ok hR.heap (xs' := xs.take off ++ cs ++ xs.drop (off + cs.length)) (cur' := (cur.toList.take off ++ (a.eval y).cells.toList ++ cur.toList.drop (off + cs.length)).toArray) hb h1 h2 (by simp [hlen]; omega) (by simpa only [List.toList_toArray] using hnew)
    refine ⟨.skip, undef, .junk, _, _, _, ?_, Or.inr ⟨rfl, rfl⟩, h, h6, trivial, h7⟩
    unfold execOp
    rw [ho]
    simp [Instr.storeAt, hve, Instr.sureAddr, storeVar, run_sizeT hk.1, hk.2, hlen, hst]

def SrcOf (p : Pl) (w : World) (u : Value) (m sz : Nat) (ys : List AV) : Prop :=
  ∃ b c, u = .slice b m c ∧ ∃ news : List Value, RepL (RepC p w) news ys ∧ news.length = m * sz ∧ (m = 0 ∨ ∃ ad, b = some ad ∧ ∀ j v, news[j]? = some v → w.cell? (ad.add j) = some v)
theorem run_append_zero {P : Program} (w : World) (t ty e : TypeId) (i : TypeInfo) (ht : P.underlying t = some (.slice e)) (hi : P.info? e = some i) (a b : Option Addr) (len cap c : Nat) (hl : len ≤ cap) :
    (Builtin.append_ #[t, t] ty #[.slice a len cap, .slice b 0 c]).run P w = .ok (.slice a len cap) w := by
  cases a <;> cases b <;> simp [Builtin.append_, run_underlying ht, sizeOf, typeInfo, hi, Builtin.lenOf, Builtin.firstCells, loadCells, loadCellsFrom, hl, storeCells]
theorem append_core {p : Pl} {H : List Blk} {w : World} (hH : RH p H w) {t ty e : TypeId} {i : TypeInfo} {z : Value} (ht : P.underlying t = some (.slice e)) (hi : P.info? e = some i) (hz : i.zero = some z) (hzs : z.cells.size = i.size) (hsz : 0 < i.size)
    {v u : Value} {x : AV} {k : Option Nat} {len m : Nat} {xs ys : List AV} (hx : Rep p w v x)
    (hxs : (x = .nilsl ∧ k = none ∧ len = 0 ∧ xs = []) ∨ ∃ id r, x = .sl id 0 len i.size ∧ k = some id ∧ H[id]? = some (.row e r) ∧ xs = r.take (len * i.size) ∧ len * i.size ≤ r.length)
    (hy : SrcOf p w u m i.size ys) (hb : (len + m) * i.bytes ≤ 140737488355328) (hm : len + m ≤ maxLen) :
    ∃ v' w' q, (Builtin.append_ #[t, t] ty #[v, u]).run P w = .ok v' w' ∧ RH (p.mv k q) (killB H k ++ [.row e (xs ++ ys)]) w' ∧ Step p w (p.mv k q) w' ∧ Rep (p.mv k q) w' v' (.sl H.length 0 (len + m) i.size) := by
  obtain ⟨b, c, rfl, news, hn1, hn2, hn3⟩ := hy
  have hyl : ys.length = m * i.size := by rw [← hn1.1]; exact hn2
  have hsm : ((len + m : Nat) : Int) ≤ 9223372036854775807 := by simp only [maxLen] at hm; omega
  have hat : ∀ q, (p.mv k q).at_ H.length = some q := fun q => by simp [Pl.mv, hH.n]
  have hnn : H.length < (p.mv k none).n := by simp [Pl.mv, hH.n]
  -- the row that is appended to
  have hv : ∃ a cap, v = .slice a len cap ∧ len ≤ cap ∧ cap ≤ maxLen ∧ (a = none → cap = 0) ∧ xs.length = len * i.size ∧
      ((cap = 0 ∧ (∀ g, (∃ id, k = some id ∧ p.at_ id = some (some g)) → True)) ∨ ∃ g id cur, k = some id ∧ p.at_ id = some (some g) ∧ a = some ⟨g, 0, none⟩ ∧ cap * i.size ≤ cur.size ∧ w.heap[g]? = some (.cells cur e (0, 0)) ∧ RepL (RepC p w) (cur.toList.take (len * i.size)) xs) := by
    rcases hxs with ⟨rfl, rfl, rfl, rfl⟩ | ⟨id, r, rfl, rfl, hr, rfl, hrl⟩
    · exact ⟨none, 0, rep_nilsl hx, Nat.le_refl _, by omega, fun _ => rfl, by simp, Or.inl ⟨rfl, fun _ _ => trivial⟩⟩
    · obtain ⟨q, hq⟩ := hH.live hr
      obtain ⟨a, cap, h1, h2, h3, _, h4, h5⟩ := hx.2 q hq
      refine ⟨a, cap, h1, h2, h3, h4, by rw [List.length_take]; omega, ?_⟩
      rcases h5 with h5 | ⟨g, rfl, h6, h7⟩
      · exact Or.inl ⟨h5, fun _ _ => trivial⟩
      · rcases hH.row hr with ⟨h8, _⟩ | ⟨g', cur, h8, h9, h10, h11⟩
        · rw [hq] at h8; cases h8
        · rw [hq] at h8
          cases h8
          refine Or.inr ⟨g, id, cur, rfl, hq, h6, ?_, h9, ?_⟩
          · unfold rowSize at h7; rw [h9] at h7; simpa using h7
          · have := (row_pre h10 h11).take (len * i.size)
            rw [List.take_take, Nat.min_eq_left hrl] at this
            exact this
  obtain ⟨a, cap, rfl, h2, h3, h4, hxl, h5⟩ := hv
  have slRep : ∀ (q : Option Nat) (w' : World) (a' : Option Addr) (cap' : Nat), len + m ≤ cap' → cap' ≤ maxLen → (a' = none → cap' = 0) → (cap' = 0 ∨ ∃ g, q = some g ∧ a' = some ⟨g, 0, none⟩ ∧ cap' * i.size ≤ rowSize w' g) → Rep (p.mv k q) w' (.slice a' (len + m) cap') (.sl H.length 0 (len + m) i.size) := fun q w' a' cap' e1 e2 e3 e4 => by
    refine ⟨by simp [Pl.mv, hH.n], fun q' hq' => ?_⟩
    rw [hat] at hq'
    cases hq'
    exact ⟨a', cap', rfl, e1, e2, hsz, e3, e4.imp (fun h => h) fun ⟨g, f1, f2, f3⟩ => ⟨g, f1, f2, by omega⟩⟩
  by_cases hm0 : m = 0
  · -- nothing is appended
    subst hm0
    have hys : ys = [] := List.eq_nil_of_length_eq_zero (by simpa using hyl)
    subst hys
    have hrun := run_append_zero (P := P) w t ty e i ht hi a b len cap c h2
    rcases h5 with ⟨hc0, _⟩ | ⟨g, id, cur, h6, h7, h8, h9, h10, h11⟩
    · have hl0 : len = 0 := by omega
      subst hl0
      have hxs0 : xs = [] := List.eq_nil_of_length_eq_zero (by simpa using hxl)
      subst hxs0
      obtain ⟨r1, r2⟩ := mv_ok hH k none e ([] ++ []) rfl rfl rfl (Nat.le_refl _) (fun _ _ _ => rfl) (fun g hg => by cases hg) (Or.inl ⟨rfl, rfl⟩)
      exact ⟨_, w, none, hrun, r1, r2, slRep none w a cap (by omega) h3 h4 (Or.inl hc0)⟩
    · have hcs : len * i.size ≤ cur.size := Nat.le_trans (Nat.mul_le_mul_right _ h2) h9
      obtain ⟨r1, r2⟩ := mv_ok hH k (some g) e (xs ++ []) rfl rfl rfl (Nat.le_refl _) (fun _ _ _ => rfl) (fun g' hg => by cases hg; exact Or.inr ⟨id, h6, h7⟩)
        (Or.inr ⟨g, cur, rfl, h10, by rw [List.append_nil, hxl]; exact hcs, (pre_row (by rw [List.append_nil, hxl]; exact h11)).2⟩)
      exact ⟨_, w, some g, hrun, r1, r2, slRep (some g) w a cap (by omega) h3 h4 (Or.inr ⟨g, rfl, h8, by unfold rowSize; rw [h10]; exact h9⟩)⟩
  · obtain ⟨ad, rfl, hnews⟩ : ∃ ad, b = some ad ∧ ∀ j v, news[j]? = some v → w.cell? (ad.add j) = some v := by
      rcases hn3 with h | h
      · exact absurd h hm0
      · exact h
    have h1c : ∀ u ∈ news, u.oneCell' = true := fun u hu => by
      obtain ⟨j, hj, rfl⟩ := List.mem_iff_getElem.1 hu
      exact (hn1.2 j hj (by rw [← hn1.1]; exact hj)).1
    by_cases hroom : len + m ≤ cap
    · rcases h5 with ⟨hc0, _⟩ | ⟨g, id, cur, h6, h7, h8, h9, h10, h11⟩
      · omega
      · subst h8
        have hfit : len * i.size + news.length ≤ cur.size := by
          have : (len + m) * i.size ≤ cap * i.size := Nat.mul_le_mul_right _ hroom
          rw [Nat.add_mul] at this; omega
        have hrun := run_append_room (P := P) w t ty e i ht hi g len cap cur h10 ad m c news hn2 hnews h1c hroom hfit
        have hw' := setRow_heap w g cur (cur.toList.take (len * i.size) ++ news ++ cur.toList.drop (len * i.size + news.length)).toArray e (0, 0) h10
        have hpre : RepL (RepC p w) ((cur.toList.take (len * i.size) ++ news ++ cur.toList.drop (len * i.size + news.length)).toArray.toList.take (xs ++ ys).length) (xs ++ ys) := by
          have hll : (xs ++ ys).length = (cur.toList.take (len * i.size) ++ news).length := by
            rw [List.length_append, List.length_append, hxl, hyl, hn2, List.length_take, Array.length_toList, Nat.min_eq_left (by omega)]
          rw [hll, List.take_left']
          · exact h11.append hn1
          · rfl
        obtain ⟨q1, q2⟩ := pre_row hpre
        obtain ⟨r1, r2⟩ := mv_ok hH k (some g) e (xs ++ ys) (w' := w.setRow g (cur.toList.take (len * i.size) ++ news ++ cur.toList.drop (len * i.size + news.length)).toArray) rfl rfl rfl (by simp [World.setRow])
          (fun g' _ hne => setRow_other w g g' _ (fun he => hne id h6 (he ▸ h7))) (fun g' hg => by cases hg; exact Or.inr ⟨id, h6, h7⟩) (Or.inr ⟨g, _, rfl, hw', q1, q2⟩)
        refine ⟨_, _, some g, hrun, r1, r2, slRep (some g) _ _ cap hroom h3 (fun h => by cases h) (Or.inr ⟨g, rfl, rfl, ?_⟩)⟩
        unfold rowSize
        rw [hw']
        have : (cur.toList.take (len * i.size) ++ news ++ cur.toList.drop (len * i.size + news.length)).toArray.size = cur.size := by simp; omega
        simp only [this]
        exact h9
    · -- a new block
      have grow : ∀ (old : Nat), old < len + m → ∀ (olds : List Value), RepL (RepC p w) olds xs → ∀ v' w', v' = Value.slice (some ⟨w.heap.size, 0, none⟩) (len + m) (grownCap w (len + m) old e) →
          w' = w.drew.alloc (.cells (olds.toArray ++ news.toArray ++ Builtin.zeroCells z.cells (grownCap w (len + m) old e - (len + m))) e) → (Builtin.append_ #[t, t] ty #[.slice a len cap, .slice (some ad) m c]).run P w = .ok v' w' →
          ∃ v' w' q, (Builtin.append_ #[t, t] ty #[.slice a len cap, .slice (some ad) m c]).run P w = .ok v' w' ∧ RH (p.mv k q) (killB H k ++ [.row e (xs ++ ys)]) w' ∧ Step p w (p.mv k q) w' ∧ Rep (p.mv k q) w' v' (.sl H.length 0 (len + m) i.size) := by
        intro old hold olds holds v' w' hv' hw' hrun
        have hge := grownCap_ge w (len + m) old e
        have hcm := grownCap_le_maxLen w (len + m) old e hm
        have hw1 : w'.heap[w.heap.size]? = some (.cells (olds.toArray ++ news.toArray ++ Builtin.zeroCells z.cells (grownCap w (len + m) old e - (len + m))) e (0, 0)) := by
          rw [hw']; exact heap_alloc_new w.drew _
        have hol : olds.length = len * i.size := by rw [holds.1]; exact hxl
        have hpre : RepL (RepC p w) ((olds.toArray ++ news.toArray ++ Builtin.zeroCells z.cells (grownCap w (len + m) old e - (len + m))).toList.take (xs ++ ys).length) (xs ++ ys) := by
          have hll : (xs ++ ys).length = (olds ++ news).length := by rw [List.length_append, List.length_append, hxl, hyl, hn2, hol]
          rw [hll]
          simp only [Array.toList_append]
          rw [List.take_left']
          · exact holds.append hn1
          · rfl
        obtain ⟨q1, q2⟩ := pre_row hpre
        obtain ⟨r1, r2⟩ := mv_ok hH k (some w.heap.size) e (xs ++ ys) (w' := w') (by rw [hw']; rfl) (by rw [hw']; rfl) (by rw [hw']; rfl) (by rw [hw']; simp)
          (fun g' hg' _ => by rw [hw']; exact Below.heap_alloc w.drew _ g' hg') (fun g' hg => by cases hg; exact Or.inl (Nat.le_refl _)) (Or.inr ⟨_, _, rfl, hw1, q1, q2⟩)
        refine ⟨v', w', some w.heap.size, hrun, r1, r2, ?_⟩
        rw [hv']
        refine slRep _ _ _ _ hge hcm (fun h => by cases h) (Or.inr ⟨_, rfl, rfl, ?_⟩)
        unfold rowSize
        rw [hw1]
        simp only [Array.size_append, List.size_toArray, size_zeroCells, hzs, hol, hn2]
        rw [← Nat.add_mul, ← Nat.add_mul]
        exact Nat.mul_le_mul_right _ (by omega)
      cases a with
      | none =>
        have hc0 := h4 rfl
        have hl0 : len = 0 := by omega
        subst hc0
        subst hl0
        have hxs0 : xs = [] := List.eq_nil_of_length_eq_zero (by simpa using hxl)
        subst hxs0
        have hrun := run_append_nil (P := P) w t ty e i z ht hi hz ad m c news hn2 hnews (by omega) (by omega) (by simp only [Nat.zero_add] at hb; omega)
        refine grow 0 (by omega) [] RepL.nil _ _ rfl rfl ?_
        simp only [Nat.zero_add]
        rw [hrun]
        simp
      | some b0 =>
        have holds : ∃ olds : List Value, RepL (RepC p w) olds xs ∧ ∀ j v, olds[j]? = some v → w.cell? (b0.add j) = some v := by
          rcases h5 with ⟨hc0, _⟩ | ⟨g, id, cur, h6, h7, h8, h9, h10, h11⟩
          · have hl0 : len = 0 := by omega
            subst hl0
            have hxs0 : xs = [] := List.eq_nil_of_length_eq_zero (by simpa using hxl)
            subst hxs0
            exact ⟨[], RepL.nil, fun j v h => by simp at h⟩
          · cases h8
            refine ⟨_, h11, fun j v hj => ?_⟩
            rw [List.getElem?_take] at hj
            split at hj
            · rw [add_none _ rfl, cell_of_row w g _ cur e (0, 0) h10]; simpa using hj
            · cases hj
        obtain ⟨olds, ho1, ho2⟩ := holds
        have hrun := run_append_grow (P := P) w t ty e i z ht hi hz b0 len cap olds (by rw [ho1.1]; exact hxl) ho2 ad m c news hn2 hnews (by omega) hsm (growslice_fits (by omega) hb)
        exact grow cap (by omega) olds ho1 _ _ rfl rfl hrun
end
end Go.Proofs.YthcaeofgegfncaaDoor.V
namespace Go.Proofs.YthcaeofgegfncaaDoor.V
open Go Go.RowKit
set_option linter.unusedSimpArgs false
set_option linter.unusedVariables false

/-- an element type, by its numbers -/
def elT (P : Program) (t e : TypeId) (sz bytes : Nat) : Bool := match P.underlying t, P.info? e with
  | some (.slice e'), some i => e' == e && (i.size == sz && (i.bytes == bytes && (decide (0 < sz) && match i.zero with | some z => z.cells.size == sz | none => false)))
  | _, _ => false
theorem elT_spec {P : Program} {t e : TypeId} {sz bytes : Nat} (h : elT P t e sz bytes = true) : P.underlying t = some (.slice e) ∧ ∃ i z, P.info? e = some i ∧ i.zero = some z ∧ z.cells.size = i.size ∧ 0 < i.size ∧ i.size = sz ∧ i.bytes = bytes := by
  unfold elT at h
  split at h
  · rename_i e' i hu hi
    simp only [Bool.and_eq_true, beq_iff_eq, decide_eq_true_eq] at h
    obtain ⟨h1, h2, h3, h4, h5⟩ := h
    subst h1
    split at h5
    · rename_i z hz
      exact ⟨hu, i, z, hi, hz, by rw [h2]; simpa using h5, by omega, h2, h3⟩
    · cases h5
  · cases h
def IsDst (H : List Blk) (e : TypeId) (sz : Nat) (x : AV) (k : Option Nat) (len : Nat) (xs : List AV) : Prop :=
  (x = .nilsl ∧ k = none ∧ len = 0 ∧ xs = []) ∨ ∃ id r, x = .sl id 0 len sz ∧ k = some id ∧ H[id]? = some (.row e r) ∧ xs = r.take (len * sz) ∧ len * sz ≤ r.length
def IsSrc (H : List Blk) (sz : Nat) (y : AV) (m : Nat) (ys : List AV) : Prop :=
  y = .slv m sz ys ∨ (y = .nilsl ∧ m = 0 ∧ ys = []) ∨ ∃ id st t r, y = .sl id st m sz ∧ H[id]? = some (.row t r) ∧ ys = (r.drop st).take (m * sz) ∧ st + m * sz ≤ r.length
theorem IsSrc.src {p : Pl} {H : List Blk} {w : World} {u : Value} {y : AV} {m sz : Nat} {ys : List AV} (hH : RH p H w) (hu : Rep p w u y) (h : IsSrc H sz y m ys) : SrcOf p w u m sz ys := by
  rcases h with rfl | ⟨rfl, rfl, rfl⟩ | ⟨id, st, t, r, rfl, hr, rfl, hl⟩
  · obtain ⟨oa, ad, cap, rfl, ho, hcap, _, hsz, hlen, hat⟩ := at_slv hu
    obtain ⟨us, h1, h2⟩ := hat.list
    refine ⟨oa, cap, rfl, us, h1, by rw [h1.1]; exact hlen, ?_⟩
    rcases ho with rfl | ⟨rfl, h0⟩
    · exact Or.inr ⟨ad, rfl, h2 w (Below.refl _ _)⟩
    · left; omega
  · cases rep_nilsl hu
    exact ⟨none, 0, rfl, [], RepL.nil, by simp, Or.inl rfl⟩
  · obtain ⟨q, hq⟩ := hH.live hr
    obtain ⟨a, cap, rfl, hcap, _, hsz, hn, ha⟩ := hu.2 q hq
    rcases hH.row hr with ⟨h1, h2⟩ | ⟨g, cur, h1, h2, h3, h4⟩
    · subst h2
      have hm : m * sz = 0 := by simp at hl; omega
      have hm0 : m = 0 := by rcases Nat.mul_eq_zero.1 hm with h | h <;> omega
      subst hm0
      exact ⟨a, cap, rfl, [], by simpa using RepL.nil, by simp, Or.inl rfl⟩
    · have hpre := ((row_pre h3 h4).drop st).take (m * sz)
      refine ⟨a, cap, rfl, _, hpre, by rw [hpre.1, List.length_take, List.length_drop]; omega, ?_⟩
      by_cases hm0 : m = 0
      · exact Or.inl hm0
      · right
        rcases ha with h0 | ⟨g', hg', rfl, _⟩
        · omega
        · rw [hq] at h1
          cases h1
          cases hg'
          refine ⟨_, rfl, fun j v hj => ?_⟩
          rw [List.getElem?_take] at hj
          split at hj
          · rw [List.getElem?_drop, List.getElem?_take] at hj
            split at hj
            · rw [add_none _ rfl, cell_of_row w g _ cur t (0, 0) h2]; simpa using hj
            · cases hj
          · cases hj
section
variable {P : Program} {s : St} {o : Oper} {R : AV → List Blk → Prop}
theorem op_append {t e ty : TypeId} {sz bytes len m : Nat} {x y : Operand} {k : Option Nat} {xs ys : List AV} (ho : o.op = .call ⟨.builtin .append, ⟨[x, y]⟩, ⟨[t, t]⟩⟩) (hT : elT P t e sz bytes = true) (hd : IsDst s.H e sz (s.ev x) k len xs) (hs : IsSrc s.H sz (s.ev y) m ys)
    (hb : (len + m) * bytes ≤ 140737488355328) (hm : len + m ≤ maxLen) (h : R (.sl s.H.length 0 (len + m) sz) (killB s.H k ++ [.row e (xs ++ ys)])) : OpV P o s R := opV_of fun p w a hR => by
  obtain ⟨hu, i, z, hi, hz, hzs, hpos, rfl, rfl⟩ := elT_spec hT
  obtain ⟨v', w', q, h1, h2, h3, h4⟩ := append_core (ty := o.type) hR.heap hu hi hz hzs hpos (hR.ev x) hd (hs.src hR.heap (hR.ev y)) hb hm
  refine ⟨.value v', v', _, _, _, w', ?_, Or.inl rfl, h, h2, h4, h3⟩
  unfold execOp
  rw [ho]
  simp [resolve, invoke, builtin, h1]
/-- a slice literal -/
def zerosL (zs : List AV) (n : Nat) : List AV := (List.range n).map fun i => zs.getD (i % zs.length) .junk
def sliceLitE (P : Program) (H : List Blk) (ev : Operand → AV) (e : TypeId) (len : Nat) (parts : Array (Nat × Operand)) : Option (List AV) :=
  match zeroL P e, partsAV H ev parts.toList with
  | some zs, some xs => fillL (fun i => some (i * sizeT P e, sizeT P e)) (zerosL zs (len * sizeT P e)) xs
  | _, _ => none
theorem zeros_rep {p : Pl} {w : World} {z : Array Value} {zs : List AV} (h : RepL (RepC p w) z.toList zs) (n : Nat) (hz : 0 < z.size) : RepL (RepC p w) ((Array.range n).map (z[· % z.size]!)).toList (zerosL zs n) := by
  have hl : zs.length = z.size := by rw [← h.1]; simp
  refine ⟨by simp [zerosL], fun i h1 h2 => ?_⟩
  have hi : i % z.size < z.size := Nat.mod_lt _ hz
  simp only [zerosL, List.getElem_map, List.getElem_range, hl, Array.toList_map, Array.toList_range]
  rw [getElem!_pos z (i % z.size) hi, getD_get _ _ (by omega)]
  have := h.2 (i % z.size) (by simpa using hi) (by omega)
  simpa using this
theorem run_buildSlice_any {P : Program} (w : World) (t e : TypeId) (len : Nat) (parts : Array (Nat × Value)) (cells : Array Value) (ie : TypeInfo) (z : Value)
    (hu : P.underlying t = some (.slice e)) (hie : P.info? e = some ie) (hz : ie.zero = some z) (hsmall : len * ie.size ≤ 16777216)
    (h : Instr.fill (fun i => some (i * ie.size, ie.size)) ((Array.range (len * ie.size)).map (z.cells[· % z.cells.size]!)) parts.toList = some cells) :
    (Instr.buildSlice t len parts).run P w = .ok (.slice (some ⟨w.heap.size, 0, none⟩) len len) (w.alloc (.cells cells e)) := by
  by_cases h0 : len * ie.size = 0
  · rw [h0] at h
    simp only [show Array.range 0 = #[] from rfl, Array.map_empty] at h
    simp [Instr.buildSlice, run_underlying hu, sizeOf, typeInfo, hie, h0, show Array.range 0 = #[] from rfl, h, newRow]
  · exact run_buildSlice w t e len parts cells ie z hu hie hz (by omega) h0 h
theorem op_sliceLit {t e : TypeId} {sz bytes len : Nat} {parts : Array (Nat × Operand)} {ds : List AV} (ho : o.op = .buildSlice t len parts) (hT : elT P t e sz bytes = true) (hk : knownT P e = true) (hd : sliceLitE P s.H s.ev e len parts = some ds) (hs : (decide (len * sz ≤ 16777216)) = true) (hdl : ds.length = len * sz)
    (h : R (.sl s.H.length 0 len sz) (s.H ++ [.row e ds])) : OpB P o s R := opB_of fun p w a hR => by
  obtain ⟨hu, i, z, hi, hz, hzs, hpos, rfl, rfl⟩ := elT_spec hT
  have hsz : sizeT P e = i.size := by simp [sizeT, hi]
  simp only [decide_eq_true_eq] at hs
  unfold sliceLitE at hd
  split at hd
  · rename_i zs xs h1 h2
    obtain ⟨b1, b2⟩ := parts_rep hR.heap hR.ev parts.toList xs h2
    unfold zeroL at h1
    simp only [hi, hz] at h1
    rw [hsz] at hd
    have hzr := zeros_rep (consts_rep (p := p) (w := w) h1) (len * i.size) (by simpa [hzs] using hpos)
    obtain ⟨arr, h4, h5⟩ := fill_rep (p := p) (w := w) _ xs _ _ ds b1 b2 hzr hd
    have hpl : (parts.map fun (x : Nat × Operand) => (x.1, a.eval x.2)).toList = parts.toList.map fun (q : Nat × Operand) => (q.1, a.eval q.2) := by simp
    have hrun := run_buildSlice_any (P := P) w t e len (parts.map fun (x : Nat × Operand) => (x.1, a.eval x.2)) arr i z hu hi hz hs (by rw [hpl]; exact h4)
    obtain ⟨r1, r2, r3⟩ := alloc_ok hR.heap arr e ds h5
    have hal : arr.size = len * i.size := by have := h5.1; simp at this; omega
    refine ⟨.slice (some ⟨w.heap.size, 0, none⟩) len len, _, _, _, _, ?_, h, r1, ?_, r2, r3⟩
    · unfold execOp
      rw [ho]
      simp only [Sem.run_bind, hrun, Result.andThen_ok, Sem.run_pure]
    · refine ⟨by simp [Pl.mv, hR.heap.n], fun q hq => ?_⟩
      simp only [Pl.mv, hR.heap.n, if_true, Option.some.injEq] at hq
      refine ⟨_, _, rfl, Nat.le_refl _, ?_, hpos, (fun h => by cases h), Or.inr ⟨_, hq.symm, rfl, ?_⟩⟩
      · have : len ≤ len * i.size := Nat.le_mul_of_pos_right _ hpos
        unfold maxLen; omega
      · unfold rowSize
        rw [heap_alloc_new]
        simp only
        omega
  · cases hd

def callable (P : Program) (f : FuncId) : Bool := match P.funcs[f]? with | some fn => fn.name != "runtime.NumGoroutine" && fn.body.isSome | none => false
theorem run_callFunc {P : Program} {f : FuncId} (h : callable P f = true) (args : Array Value) (w : World) : (callFunc f args).run P w = .ok (.enter f args) w := by
  unfold callable at h
  split at h
  · rename_i fn hf
    simp only [Bool.and_eq_true, bne_iff_ne] at h
    cases hb : fn.body with
    | none => simp [hb] at h
    | some c => simp [callFunc, hf, h.1, hb]
  · cases h
theorem evals {p : Pl} {w : World} {a : Act} (hR : Rst p s a w) (l : List Operand) : RepL (Rep p w) (l.map a.eval) (l.map s.ev) :=
  ⟨by simp, fun i h1 h2 => by simp only [List.getElem_map]; exact hR.ev _⟩
theorem op_call {f : FuncId} {xs : Array Operand} {ts : Array TypeId} (ho : o.op = .call ⟨.value (.func f), xs, ts⟩) (hc : callable P f = true) (h : CallsV P f (xs.toList.map s.ev) s.H R) : OpV P o s R := fun p w a K Q hR hK => by
  have hrun : (execOp a.eval o).run P w = .ok (.enter f (xs.map a.eval)) w := by
    unfold execOp
    rw [ho]
    simp [resolve, invoke, Act.eval, Deferred.ofValue, run_callFunc hc]
  unfold Oper.wp
  rw [hrun, Oper.upon_enter]
  refine (h p w (xs.map a.eval) hR.heap (by simpa using evals hR xs.toList)).mono ?_
  rintro e w' ⟨v, av, H', p', rfl, h1, h2, h3, h4⟩
  exact hK v av H' p' w' h1 h2 h3 h4
def noid0 : AV → Bool
  | .sl _ _ _ _ | .slc _ _ _ _ _ | .ptr _ _ | .map _ | .iter _ | .agg _ | .tuple _ | .cnd _ _ => false
  | .fn _ x y => x.isEmpty && y.isEmpty
  | _ => true
def noid1 : AV → Bool
  | .agg cs => cs.all noid0
  | x => noid0 x
theorem RepF.anti {M M' : Nat → Prop} {w : World} (hM : ∀ g, M' g → M g) {v : Value} {x : AV} (h : RepF M w v x) : RepF M' w v x := by
  induction h with
  | bool b => exact .bool b
  | int k n => exact .int k n
  | str s => exact .str s
  | nilptr => exact .nilptr
  | nilsl => exact .nilsl
  | nilmap => exact .nilmap
  | nilfn => exact .nilfn
  | fn f => exact .fn f
  | fptr a cells vs hc hr ih =>
    refine .fptr a cells vs (fun i hi => ?_) ih
    obtain ⟨h1, h2, h3, h4⟩ := hc i hi
    exact ⟨h1, h2, fun hm => h3 (hM _ hm), h4⟩
  | slv oa a len cap sz cells vs ho hl hcap hcm hsz hc hr ih =>
    refine .slv oa a len cap sz cells vs ho hl hcap hcm hsz (fun i hi => ?_) ih
    obtain ⟨h1, h2, h3, h4⟩ := hc i hi
    exact ⟨h1, h2, fun hm => h3 (hM _ hm), h4⟩
theorem Rep0.noid {p p' : Pl} {w : World} (hM : ∀ g, p'.M g → p.M g) {v : Value} {x : AV} (hx : noid0 x = true) (h : Rep0 p w v x) : Rep0 p' w v x := by
  cases x <;> simp [noid0] at hx <;> first | trivial | exact RepF.anti hM h
theorem Rep.noid {p p' : Pl} {w : World} (hM : ∀ g, p'.M g → p.M g) {v : Value} {x : AV} (hx : noid1 x = true) (h : Rep p w v x) : Rep p' w v x := by
  cases x
  case agg cs =>
    obtain ⟨vs, h1, h2⟩ := h
    refine ⟨vs, h1, h2.1, fun i a b => ?_⟩
    have := h2.2 i a b
    simp only [noid1, List.all_eq_true] at hx
    exact ⟨this.1, this.2.noid hM (hx _ (List.getElem_mem b))⟩
  case fn f x y =>
    simp only [noid1, noid0, Bool.and_eq_true, List.isEmpty_iff] at hx
    obtain ⟨rfl, rfl⟩ := hx
    obtain ⟨vs, us, h1, h2, h3⟩ := h
    exact ⟨vs, us, h1, ⟨h2.1, fun i a b => absurd b (by simp)⟩, ⟨h3.1, fun i a b => absurd b (by simp)⟩⟩
  case tuple => simp [noid1, noid0] at hx
  case cnd => simp [noid1, noid0] at hx
  all_goals (simp only [noid1] at hx; simp only [Rep, RepT, Rep1] at h ⊢; exact Rep0.noid (p := p) hM hx h)
end
end Go.Proofs.YthcaeofgegfncaaDoor.V
namespace Go.Proofs.YthcaeofgegfncaaDoor.V
open Go Go.RowKit
set_option linter.unusedSimpArgs false
set_option linter.unusedVariables false

def ren0 (f : Nat → Option Nat) : AV → AV
  | .sl id st len sz => match f id with | some j => .sl j st len sz | none => .junk
  | .slc id st len c sz => match f id with | some j => .slc j st len c sz | none => .junk
  | .ptr id o => match f id with | some j => .ptr j o | none => .junk
  | .map id => match f id with | some j => .map j | none => .junk
  | .iter id => match f id with | some j => .iter j | none => .junk
  | .agg _ | .tuple _ | .fn _ _ _ | .cnd _ _ => .junk
  | x => x
def ren1 (f : Nat → Option Nat) : AV → AV
  | .agg cs => .agg (cs.map (ren0 f))
  | .fn g x y => .fn g (x.map (ren0 f)) (y.map (ren0 f))
  | x => ren0 f x
def renP (f : Nat → Option Nat) : AV → AV
  | .tuple vs => .tuple (vs.map (ren1 f))
  | x => ren1 f x
def ren (f : Nat → Option Nat) : AV → AV
  | .cnd g x => .cnd g (renP f x)
  | x => renP f x
structure Emb (f : Nat → Option Nat) (p p' : Pl) : Prop where
  at_ : ∀ id j, f id = some j → id < p.n → j < p'.n ∧ ∀ q, p'.at_ j = some q → p.at_ id = some q
  M : ∀ g, p'.M g → p.M g
theorem Rep0.ren {f : Nat → Option Nat} {p p' : Pl} (h : Emb f p p') {w : World} {v : Value} {x : AV} (hx : Rep0 p w v x) : Rep0 p' w v (ren0 f x) := by
  cases x
  case sl id st len sz =>
    simp only [ren0]
    cases hf : f id with
    | none => trivial
    | some j => exact ⟨(h.at_ id j hf hx.1).1, fun q hq => hx.2 q ((h.at_ id j hf hx.1).2 q hq)⟩
  case slc id st len c sz =>
    simp only [ren0]
    cases hf : f id with
    | none => trivial
    | some j => exact ⟨(h.at_ id j hf hx.1).1, fun q hq => hx.2 q ((h.at_ id j hf hx.1).2 q hq)⟩
  case ptr id o =>
    simp only [ren0]
    cases hf : f id with
    | none => trivial
    | some j => exact ⟨(h.at_ id j hf hx.1).1, fun q hq => hx.2 q ((h.at_ id j hf hx.1).2 q hq)⟩
  case map id =>
    simp only [ren0]
    cases hf : f id with
    | none => trivial
    | some j => exact ⟨(h.at_ id j hf hx.1).1, fun q hq => hx.2 q ((h.at_ id j hf hx.1).2 q hq)⟩
  case iter id =>
    simp only [ren0]
    cases hf : f id with
    | none => trivial
    | some j => exact ⟨(h.at_ id j hf hx.1).1, fun q hq => hx.2 q ((h.at_ id j hf hx.1).2 q hq)⟩
  all_goals first | trivial | exact RepF.anti h.M hx
theorem RepL.map {R R' : Value → AV → Prop} {g : AV → AV} {vs : List Value} {xs : List AV} (h : RepL R vs xs) (hg : ∀ v x, R v x → R' v (g x)) : RepL R' vs (xs.map g) :=
  ⟨by rw [List.length_map]; exact h.1, fun i a b => by rw [List.getElem_map]; exact hg _ _ (h.2 i a (by rw [List.length_map] at b; exact b))⟩
theorem RepC.ren {f : Nat → Option Nat} {p p' : Pl} (h : Emb f p p') {w : World} {v : Value} {x : AV} (hx : RepC p w v x) : RepC p' w v (ren0 f x) := ⟨hx.1, hx.2.ren h⟩
theorem Rep0.rep1 {p : Pl} {w : World} {v : Value} {x : AV} (h : Rep0 p w v x) : Rep1 p w v x := by
  cases x
  case fn f x y =>
    have h' : RepF p.M w v (.fn f x y) := h
    cases h'; exact ⟨#[], #[], rfl, RepL.nil, RepL.nil⟩
  case agg cs => cases h
  all_goals exact h
theorem Rep1.ren {f : Nat → Option Nat} {p p' : Pl} (h : Emb f p p') {w : World} {v : Value} {x : AV} (hx : Rep1 p w v x) : Rep1 p' w v (ren1 f x) := by
  cases x
  case agg cs => obtain ⟨vs, h1, h2⟩ := hx; exact ⟨vs, h1, h2.map fun _ _ => RepC.ren h⟩
  case fn g x y => obtain ⟨vs, us, h1, h2, h3⟩ := hx; exact ⟨vs, us, h1, h2.map fun _ _ => Rep0.ren h, h3.map fun _ _ => Rep0.ren h⟩
  case tuple vs => exact (rep1_tuple hx).elim
  all_goals (simp only [Rep1] at hx; exact (Rep0.ren h hx).rep1)
theorem Rep1.repT {p : Pl} {w : World} {v : Value} {x : AV} (h : Rep1 p w v x) : RepT p w v x := by
  cases x
  case tuple vs => exact (rep1_tuple h).elim
  all_goals exact h
theorem RepT.rep {p : Pl} {w : World} {v : Value} {x : AV} (h : RepT p w v x) : Rep p w v x := by
  cases x
  case cnd g x => exact (rep1_cnd h).elim
  all_goals exact h
theorem RepT.ren {f : Nat → Option Nat} {p p' : Pl} (h : Emb f p p') {w : World} {v : Value} {x : AV} (hx : RepT p w v x) : RepT p' w v (renP f x) := by
  cases x
  case tuple vs => obtain ⟨us, h1, h2⟩ := hx; exact ⟨us, h1, h2.map fun _ _ => Rep1.ren h⟩
  case agg cs => exact Rep1.ren h (x := .agg cs) hx
  case fn g x y => exact Rep1.ren h (x := .fn g x y) hx
  all_goals (simp only [RepT, Rep1] at hx; exact (Rep0.ren h hx).rep1.repT)
theorem Rep.ren {f : Nat → Option Nat} {p p' : Pl} (h : Emb f p p') {w : World} {v : Value} {x : AV} (hx : Rep p w v x) : Rep p' w v (V.ren f x) := by
  cases x
  case cnd g x => exact ⟨fun hg => (hx.1 hg).ren h, hx.2⟩
  all_goals (simp only [Rep] at hx; exact (RepT.ren h hx).rep)
/-- a block under other numbers -/
def RenB (f : Nat → Option Nat) : Blk → Blk → Prop
  | .dead, .dead => True
  | .row t xs, .row t' ys => t' = t ∧ ((ys = xs ∧ ∀ x ∈ xs, noid0 x = true) ∨ ys = xs.map (ren0 f))
  | .map kv, .map kv' => kv' = kv.map fun q => (ren1 f q.1, ren1 f q.2)
  | .iter s n, .iter s' n' => s' = s ∧ n' = n
  | _, _ => False
theorem BlkIs.ren {f : Nat → Option Nat} {p p' : Pl} (h : Emb f p p') {w : World} {id j : Nat} {b b' : Blk} (hat : p'.at_ j = p.at_ id) (hb : BlkIs p w id b) (hr : RenB f b b') : BlkIs p' w j b' := by
  cases b <;> cases b' <;> simp only [RenB] at hr
  case dead.dead => exact hat.trans hb
  case row.row t xs t' ys =>
    obtain ⟨rfl, hr⟩ := hr
    rcases hb with ⟨h1, h2⟩ | ⟨g, cur, h1, h2, h3, h4⟩
    · subst h2
      refine Or.inl ⟨hat.trans h1, ?_⟩
      rcases hr with ⟨rfl, _⟩ | rfl <;> rfl
    · refine Or.inr ⟨g, cur, hat.trans h1, h2, ?_, ?_⟩
      · rcases hr with ⟨rfl, _⟩ | rfl
        · exact h3
        · rw [List.length_map]; exact h3
      · rcases hr with ⟨rfl, hn⟩ | rfl
        · intro i hi
          obtain ⟨v, a, b⟩ := h4 i hi
          exact ⟨v, a, b.1, b.2.noid h.M (hn _ (List.getElem_mem hi))⟩
        · intro i hi
          obtain ⟨v, a, b⟩ := h4 i (by rw [List.length_map] at hi; exact hi)
          exact ⟨v, a, by rw [List.getElem_map]; exact b.ren h⟩
  case map.map kv kv' =>
    subst hr
    obtain ⟨g, es, clock, h1, h2, h3, h4⟩ := hb
    refine ⟨g, es, clock, hat.trans h1, h2, by rw [List.length_map]; exact h3, fun i a b => ?_⟩
    obtain ⟨c, d⟩ := h4 i (by rw [List.length_map] at a; exact a) b
    rw [List.getElem_map]
    exact ⟨c.ren h, d.ren h⟩
  case iter.iter =>
    obtain ⟨rfl, rfl⟩ := hr
    obtain ⟨g, h1, h2⟩ := hb
    exact ⟨g, hat.trans h1, h2⟩

def shf (n : Nat) (id : Nat) : Option Nat := some (id + n)
def shiftB (n : Nat) : Blk → Blk
  | .row t xs => .row t (xs.map (ren0 (shf n)))
  | .map kv => .map (kv.map fun q => (ren1 (shf n) q.1, ren1 (shf n) q.2))
  | b => b
theorem shiftB_ren (n : Nat) (b : Blk) : RenB (shf n) b (shiftB n b) := by cases b <;> simp [shiftB, RenB]
theorem CallsV.frame {P : Program} {f : FuncId} {args : List AV} {R : AV → List Blk → Prop} (h : CallsV P f args [] R) (hn : ∀ a ∈ args, noid1 a = true) {p : Pl} {H : List Blk} {w : World} {vals : Array Value} (hH : RH p H w) (hv : RepL (Rep p w) vals.toList args) :
    Calls P f vals w fun e w' => ∃ v av H' p', e = .returned v ∧ R av H' ∧ RH p' (H ++ H'.map (shiftB H.length)) w' ∧ Rep p' w' v (ren (shf H.length) av) ∧ Step p w p' w' ∧ Below w.heap.size w w' := by
  let p0 : Pl := ⟨0, fun _ => none, p.M⟩
  have hown0 : ∀ g, ¬ p0.own g := fun g ⟨id, hid⟩ => by cases hid
  have hM0 : ∀ g, p0.M g → p.M g := fun g hg => hg.elim (fun h => (hown0 g h).elim) id
  have hlt : ∀ g, p.M g → g < w.heap.size := fun g hg => hg.elim (hH.lt g) fun hx => (hH.xs g hx).1
  have hH0 : RH p0 [] w := ⟨rfl, fun _ _ => rfl, fun _ _ _ h => (by cases h), fun id h => absurd h (by simp), fun g hg => ⟨hlt g hg, hown0 g⟩⟩
  refine (h p0 w vals hH0 ⟨hv.1, fun i a b => (hv.2 i a b).noid hM0 (hn _ (List.getElem_mem b))⟩).mono ?_
  rintro e w' ⟨v, av, H', q, rfl, hR, hHq, hrep, hS⟩
  have hqx : q.x = p.M := hS.x
  let pc : Pl := ⟨p.n + q.n, fun id => if id < p.n then p.at_ id else q.at_ (id - p.n), p.x⟩
  have hpn : p.n = H.length := hH.n
  have hB : Below w.heap.size w w' := ⟨hS.os, hS.tape, hS.output, hS.size, fun g hg => hS.froz g hg (hown0 g)⟩
  have hqnew : ∀ g, q.own g → w.heap.size ≤ g := fun g hg => by
    rcases Nat.lt_or_ge g w.heap.size with h1 | h1
    · exact (hown0 g (hS.old g h1 hg)).elim
    · exact h1
  have hpcown : ∀ g, pc.own g → p.own g ∨ q.own g := fun g ⟨id, hid⟩ => by
    simp only [pc] at hid
    split at hid
    · exact Or.inl ⟨id, hid⟩
    · exact Or.inr ⟨_, hid⟩
  have hdisj : ∀ g, p.own g → ¬ q.own g := fun g h1 h2 => by have := hH.lt g h1; have := hqnew g h2; omega
  have hemb : Emb (shf H.length) q pc := by
    refine ⟨fun id j hf hid => ?_, fun g hg => ?_⟩
    · simp only [shf, Option.some.injEq] at hf
      subst hf
      refine ⟨by simp only [pc]; omega, fun q' hq' => ?_⟩
      simp only [pc] at hq'
      rw [if_neg (by omega), hpn, Nat.add_sub_cancel] at hq'
      exact hq'
    · rcases hg with hg | hg
      · rcases hpcown g hg with h1 | h1
        · exact Or.inr (hqx ▸ Or.inl h1)
        · exact Or.inl h1
      · exact Or.inr (hqx ▸ Or.inr hg)
  have hst : Step p w pc w' := by
    refine ⟨hB.os, hB.tape, hB.output, hB.size, Nat.le_add_right _ _, fun id q' hid hq' => ?_, fun g hg hm => ?_, fun g hg _ => hB.block g hg, rfl⟩
    · simp only [pc, if_pos hid] at hq'
      refine ⟨hq', fun g hg => ?_⟩
      subst hg
      unfold rowSize
      rw [hB.block g (hH.lt g ⟨id, hq'⟩)]
    · rcases hpcown g hm with h1 | h1
      · exact h1
      · have := hqnew g h1; omega
  refine ⟨v, av, H', pc, rfl, hR, ⟨?_, fun id hid => ?_, fun i j g hi hj => ?_, fun id hid => ?_, fun g hg => ⟨Nat.lt_of_lt_of_le (hH.xs g hg).1 hB.size, fun ho => ?_⟩⟩, hrep.ren hemb, hst, hB⟩
  · simp [pc, hpn, hHq.n]
  · simp only [pc] at hid ⊢
    rw [if_neg (by omega)]
    exact hHq.out _ (by omega)
  · simp only [pc] at hi hj
    split at hi <;> split at hj
    · exact hH.inj _ _ _ hi hj
    · exact (hdisj g ⟨i, hi⟩ ⟨_, hj⟩).elim
    · exact (hdisj g ⟨j, hj⟩ ⟨_, hi⟩).elim
    · have := hHq.inj _ _ _ hi hj; omega
  · by_cases hlt' : id < H.length
    · rw [List.getElem_append_left hlt']
      exact (hH.blk id hlt').step hst (by simp only [pc]; rw [if_pos (by omega)]) fun g hg => hB.block g (hH.lt g ⟨id, hg⟩)
    · simp only [List.length_append, List.length_map] at hid
      rw [List.getElem_append_right (by omega), List.getElem_map]
      refine (hHq.blk (id - H.length) (by omega)).ren hemb ?_ (shiftB_ren _ _)
      simp only [pc]
      rw [if_neg (by omega), hpn]
  · rcases hpcown g ho with h1 | h1
    · exact (hH.xs g hg).2 h1
    · exact (hHq.xs g (hqx ▸ Or.inr hg)).2 h1
section
variable {P : Program} {s : St} {o : Oper} {R : AV → List Blk → Prop}
theorem op_callB {f : FuncId} {xs : Array Operand} {ts : Array TypeId} (ho : o.op = .call ⟨.value (.func f), xs, ts⟩) (hc : callable P f = true) (hn : (xs.toList.map s.ev).all noid1 = true)
    (h : CallsV P f (xs.toList.map s.ev) [] fun av H' => R (ren (shf s.H.length) av) (s.H ++ H'.map (shiftB s.H.length))) : OpB P o s R := fun p w a K Q hR hK => by
  have hrun : (execOp a.eval o).run P w = .ok (.enter f (xs.map a.eval)) w := by
    unfold execOp
    rw [ho]
    simp [resolve, invoke, Act.eval, Deferred.ofValue, run_callFunc hc]
  unfold Oper.wp
  rw [hrun, Oper.upon_enter]
  refine (h.frame (fun x hx => List.all_eq_true.1 hn x hx) hR.heap (vals := xs.map a.eval) (by simpa using evals hR xs.toList)).mono ?_
  rintro e w' ⟨v, av, H', p', rfl, h1, h2, h3, h4, h5⟩
  exact hK v _ _ p' w' h1 h2 h3 h4 h5

def res1 (P : Program) (s : St) : ResultVar → List Prop × AV
  | .tmp t => ([], s.t.getD t .junk)
  | .cell a t => match cellsAt s.H (s.t.getD a .junk) with
    | some cs => (dec (knownT P t) ++ [(bif isAggT P t then sizeT P t else 1) ≤ cs.length], loadE P t cs)
    | none => ([False], .junk)
def notTup : AV → Bool | .tuple _ => false | .cnd _ _ => false | _ => true
def resL (P : Program) (s : St) : List ResultVar → List Prop × List AV
  | [] => ([], [])
  | r :: l => match res1 P s r, resL P s l with | (c, x), (d, xs) => (c ++ (dec (notTup x) ++ d), x :: xs)
def packE : List AV → AV
  | [x] => x
  | l => .tuple l
theorem rep_rep1 {p : Pl} {w : World} {v : Value} {x : AV} (h : Rep p w v x) (hn : notTup x = true) : Rep1 p w v x := by
  cases x <;> first | exact h | (simp [notTup] at hn)
def resF (tmps : Array Value) : ResultVar → Sem Value
  | .tmp t => pure (tmps.getD t undef)
  | .cell a t => do loadVar t (← asAddr (tmps.getD a undef))
theorem results_eq (fn : Func) (tmps : Array Value) : results fn tmps = (do let vs ← fn.results.mapM (resF tmps); pure (if h : vs.size = 1 then vs[0] else .tuple vs)) := by
  unfold results
  congr 1
theorem run_results {P : Program} {p : Pl} {w : World} {a : Act} (hR : Rst p s a w) : ∀ (l : List ResultVar), allP (resL P s l).1 → ∃ vs : List Value, (l.mapM (resF a.tmps) : Sem (List Value)).run P w = .ok vs w ∧ RepL (Rep1 p w) vs (resL P s l).2
  | [], _ => ⟨[], rfl, RepL.nil⟩
  | r :: l, hc => by
    unfold resL at hc ⊢
    rw [allP_append, allP_append, allP_dec] at hc
    obtain ⟨h1, h2, h3⟩ := hc
    obtain ⟨vs, hv, hl⟩ := run_results hR l h3
    cases r with
    | tmp t =>
      refine ⟨a.tmps.getD t undef :: vs, by simp only [List.mapM_cons, resF, Sem.run_bind, Sem.run_pure, Result.andThen_ok, hv], RepL.cons (rep_rep1 (hR.ev (.tmp t)) h2) hl⟩
    | cell b t =>
      simp only [res1] at h1 h2 ⊢
      split at h1
      · rename_i cs hcs
        simp only [hcs] at h2 ⊢
        rw [allP_append, allP_dec] at h1
        obtain ⟨u, h4, h5⟩ := load_rd hR.heap (hR.ev (.tmp b)) hcs h1.1 h1.2
        obtain ⟨ad, h6, _⟩ := cellsAt_rep hR.heap (hR.ev (.tmp b)) hcs
        have h6' : a.tmps.getD b undef = .pointer (some ad) := h6
        have h7 := h5 w (Below.refl _ _)
        rw [h6] at h7
        simp only [Instr.loadAt, Instr.sureAddr, Sem.run_bind, Sem.run_pure, Result.andThen_ok] at h7
        refine ⟨u :: vs, by simp only [List.mapM_cons, resF, Sem.run_bind, Sem.run_pure, Result.andThen_ok, h6', asAddr, h7, hv], RepL.cons (rep_rep1 h4 h2) hl⟩
      · exact h1.elim
theorem run_resultsE {P : Program} {p : Pl} {w : World} {a : Act} (hR : Rst p s a w) (fn : Func) (hc : allP (resL P s fn.results.toList).1) : ∃ v, (results fn a.tmps).run P w = .ok v w ∧ Rep p w v (packE (resL P s fn.results.toList).2) := by
  obtain ⟨vs, h1, h2⟩ := run_results hR _ hc
  have hm : (fn.results.mapM (resF a.tmps) : Sem (Array Value)).run P w = .ok vs.toArray w := by
    rw [Array.mapM_eq_mapM_toList]
    simp only [map_eq_pure_bind, Sem.run_bind, Sem.run_pure]
    rw [h1]
    rfl
  refine ⟨if h : vs.toArray.size = 1 then vs.toArray[0] else .tuple vs.toArray, ?_, ?_⟩
  · rw [results_eq, Sem.run_bind, hm, Result.andThen_ok]
    rfl
  · generalize (resL P s fn.results.toList).2 = xs at *
    match vs, xs, h2 with
    | [], [], h2 => exact ⟨#[], rfl, RepL.nil⟩
    | [v], [x], h2 =>
      have h3 := h2.2 0 (by simp) (by simp)
      have h4 : Rep1 p w v x := h3
      show Rep p w v x
      cases x
      case tuple => exact (rep1_tuple h4).elim
      case cnd => exact (rep1_cnd h4).elim
      all_goals exact h4
    | v :: u :: r, x :: y :: q, h2 =>
      rw [dif_neg (by simp)]
      exact ⟨_, rfl, by simpa using h2⟩
    | [], _ :: _, h2 => exact absurd h2.1 (by simp)
    | _ :: _, [], h2 => exact absurd h2.1 (by simp)
    | [_], _ :: _ :: _, h2 => exact absurd h2.1 (by simp)
    | _ :: _ :: _, [_], h2 => exact absurd h2.1 (by simp)
end
end Go.Proofs.YthcaeofgegfncaaDoor.V
namespace Go.Proofs.YthcaeofgegfncaaDoor.V
open Go Go.RowKit
set_option linter.unusedSimpArgs false
set_option linter.unusedVariables false

def idxK (keep : List Nat) (id : Nat) : Option Nat := keep.idxOf? id
structure KeepOK (n0 : Nat) (keep : List Nat) (H H' : List Blk) : Prop where
  nodup : keep.Nodup
  lt : ∀ i ∈ keep, i < H.length
  n0le : n0 ≤ keep.length
  pre : ∀ j, j < n0 → keep[j]? = some j
  len : H'.length = keep.length
  ren : ∀ (j : Nat) (h : j < keep.length) (h1 : keep[j] < H.length) (h' : j < H'.length), RenB (idxK keep) H[keep[j]] H'[j]
def Pl.keep (p : Pl) (keep : List Nat) : Pl := ⟨keep.length, fun j => match keep[j]? with | some i => p.at_ i | none => none, p.x⟩
theorem idxK_spec {keep : List Nat} {id j : Nat} (h : idxK keep id = some j) : keep[j]? = some id := by
  unfold idxK at h
  rw [List.idxOf?, List.findIdx?_eq_some_iff_getElem] at h
  obtain ⟨h1, h2, _⟩ := h
  rw [List.getElem?_eq_getElem h1]
  simpa using h2
theorem keep_emb {p : Pl} {keep : List Nat} (hlt : ∀ i ∈ keep, i < p.n) : Emb (idxK keep) p (p.keep keep) := by
  refine ⟨fun id j hf hid => ?_, fun g hg => ?_⟩
  · have h := idxK_spec hf
    refine ⟨(List.getElem?_eq_some_iff.1 h).1, fun q hq => ?_⟩
    simp only [Pl.keep, h] at hq
    exact hq
  · rcases hg with ⟨j, hj⟩ | hg
    · simp only [Pl.keep] at hj
      split at hj
      · rename_i i hi; exact Or.inl ⟨i, hj⟩
      · cases hj
    · exact Or.inr hg
theorem keep_ok {p0 p : Pl} {w0 w : World} {H H' : List Blk} {keep : List Nat} (hS : Step p0 w0 p w) (hH : RH p H w) (hk : KeepOK p0.n keep H H') : RH (p.keep keep) H' w ∧ Step p0 w0 (p.keep keep) w ∧ Emb (idxK keep) p (p.keep keep) := by
  have hlt : ∀ i ∈ keep, i < p.n := fun i hi => by rw [hH.n]; exact hk.lt i hi
  have hE := keep_emb hlt
  have hown : ∀ g, (p.keep keep).own g → p.own g := fun g ⟨j, hj⟩ => by
    simp only [Pl.keep] at hj
    split at hj
    · rename_i i hi; exact ⟨i, hj⟩
    · cases hj
  refine ⟨⟨hk.len.symm, fun id hid => ?_, fun i j g hi hj => ?_, fun id hid => ?_, fun g hg => ⟨(hH.xs g hg).1, fun ho => (hH.xs g hg).2 (hown g ho)⟩⟩, ⟨hS.os, hS.tape, hS.output, hS.size, hk.n0le, fun id q hid hq => ?_, fun g hg hm => hS.old g hg (hown g hm), hS.froz, hS.x⟩, hE⟩
  · simp only [Pl.keep] at hid ⊢
    rw [List.getElem?_eq_none hid]
  · simp only [Pl.keep] at hi hj
    split at hi
    · rename_i a ha
      split at hj
      · rename_i b hb
        have hab := hH.inj _ _ _ hi hj
        subst hab
        obtain ⟨l1, e1⟩ := List.getElem?_eq_some_iff.1 ha
        obtain ⟨l2, e2⟩ := List.getElem?_eq_some_iff.1 hb
        have hpw := List.pairwise_iff_getElem.1 hk.nodup
        rcases Nat.lt_trichotomy i j with h3 | h3 | h3
        · exact (hpw i j l1 l2 h3 (e1.trans e2.symm)).elim
        · exact h3
        · exact (hpw j i l2 l1 h3 (e2.trans e1.symm)).elim
      · cases hj
    · cases hi
  · have hj : id < keep.length := by rw [← hk.len]; exact hid
    have hm : keep[id] < H.length := hk.lt _ (List.getElem_mem hj)
    refine (hH.blk keep[id] hm).ren hE ?_ (hk.ren id hj hm hid)
    simp only [Pl.keep, List.getElem?_eq_getElem hj]
  · simp only [Pl.keep, hk.pre id hid] at hq
    exact hS.keep id q hid hq
def renT (f : Nat → Option Nat) : List AV → List AV → Prop
  | [], [] => True
  | a :: xs, b :: ys => (b = .junk ∨ b = ren f a) ∧ renT f xs ys
  | _, _ => False
theorem renT_rep {f : Nat → Option Nat} {p p' : Pl} (hE : Emb f p p') {w : World} : ∀ {vs : List Value} {xs ys : List AV}, RepL (Rep p w) vs xs → renT f xs ys → RepL (Rep p' w) vs ys
  | [], [], [], _, _ => RepL.nil
  | v :: vs, a :: xs, b :: ys, h, hr => by
    have h0 := h.2 0 (by simp) (by simp)
    refine RepL.cons ?_ (renT_rep hE ⟨by simpa using h.1, fun i h1 h2 => by have := h.2 (i + 1) (by simpa using h1) (by simpa using h2); simpa using this⟩ hr.2)
    rcases hr.1 with rfl | rfl
    · trivial
    · exact Rep.ren hE h0
  | [], _ :: _, _, h, _ => absurd h.1 (by simp)
  | _ :: _, [], _, h, _ => absurd h.1 (by simp)
  | _, [], _ :: _, _, hr => hr.elim
  | _, _ :: _, [], _, hr => hr.elim
section
variable {P : Program} {s : St} {Q : Exit → St → Prop}
/-- behind a piece of code: only some of the blocks are kept -/
theorem WpV.keep {c : Code} {Q' : Exit → St → Prop} (h : WpV P c Q' s) (hq : ∀ e s', Q' e s' → ∃ keep s'', KeepOK s.H.length keep s'.H s''.H ∧ renT (idxK keep) s'.t s''.t ∧ Q e s'') : WpV P c Q s := fun p w a Qr hR hQ => by
  refine h p w a Qr hR fun e s' p' a' w' hq' hR' hS => ?_
  obtain ⟨keep, s'', h1, h2, h3⟩ := hq e s' hq'
  rw [← hR.heap.n] at h1
  obtain ⟨k1, k2, k3⟩ := keep_ok hS hR'.heap h1
  exact hQ e s'' _ a' w' h3 ⟨hR'.defers, renT_rep k3 hR'.reps h2, k1⟩ k2

def bodyV (P : Program) (rs : List ResultVar) (n0 : Nat) (R : AV → List Blk → Prop) : Exit → St → Prop
  | .normal, s | .ret, s => allP (resL P s rs).1 ∧ ∃ keep H', KeepOK n0 keep s.H H' ∧ R (ren (idxK keep) (packE (resL P s rs).2)) H'
  | _, _ => False
theorem callsV_of {f : FuncId} {fn : Func} {c : Code} {args : List AV} {H : List Blk} {R : AV → List Blk → Prop} (hf : P.funcs[f]? = some fn) (hb : fn.body = some c)
    (h : WpV P c (bodyV P fn.results.toList H.length R) ⟨args ++ List.replicate (fn.ntmps - args.length) .junk, H⟩) : CallsV P f args H R := fun p w vals hH hv => by
  have hR : Rst p ⟨args ++ List.replicate (fn.ntmps - args.length) .junk, H⟩ { tmps := vals ++ Array.replicate (fn.ntmps - vals.size) undef, defers := [] } w := by
    refine ⟨rfl, ?_, hH⟩
    have hl : vals.size = args.length := by simpa using hv.1
    simp only [Array.toList_append, Array.toList_replicate, hl]
    refine hv.append ⟨by simp, fun i h1 h2 => ?_⟩
    simp only [List.getElem_replicate]
    trivial
  refine calls_of_wp hf hb (h p w _ _ hR fun e s' p' a' w' hq hR' hS => ?_)
  have key : allP (resL P s' fn.results.toList).1 ∧ (∃ keep H', KeepOK H.length keep s'.H H' ∧ R (ren (idxK keep) (packE (resL P s' fn.results.toList).2)) H') → a'.defers = [] ∧ ∃ v, (results fn a'.tmps).run P w' = .ok v w' ∧ ∃ v' av H' p', Ending.returned v = .returned v' ∧ R av H' ∧ RH p' H' w' ∧ Rep p' w' v' av ∧ Step p w p' w' := by
    rintro ⟨h1, keep, H', h2, h3⟩
    obtain ⟨v, h4, h5⟩ := run_resultsE hR' fn h1
    rw [← hH.n] at h2
    obtain ⟨k1, k2, k3⟩ := keep_ok hS hR'.heap h2
    exact ⟨hR'.defers, v, h4, v, _, H', _, rfl, h3, k1, h5.ren k3, k2⟩
  cases e with
  | normal => exact key hq
  | ret => exact key hq
  | _ => exact hq.elim
theorem CallsV.mono {f : FuncId} {args : List AV} {H : List Blk} {R R' : AV → List Blk → Prop} (h : CallsV P f args H R) (hr : ∀ av H', R av H' → R' av H') : CallsV P f args H R' := fun p w vals hH hv =>
  (h p w vals hH hv).mono fun e w' ⟨v, av, H', p', h1, h2, h3⟩ => ⟨v, av, H', p', h1, hr _ _ h2, h3⟩
/-- nothing is kept, one plain result -/
theorem keep_nil (H : List Blk) : KeepOK 0 [] H [] := ⟨List.nodup_nil, fun i h => by simp at h, Nat.le_refl _, fun j h => by omega, rfl, fun j h => by simp at h⟩

theorem frz_step {p : Pl} {H : List Blk} {w : World} (hH : RH p H w) (id : Nat) : RH ⟨p.n, fun i => if i = id then none else p.at_ i, p.x⟩ (H.set id .dead) w ∧ Step p w ⟨p.n, fun i => if i = id then none else p.at_ i, p.x⟩ w := by
  have hown : ∀ g, (⟨p.n, fun i => if i = id then none else p.at_ i, p.x⟩ : Pl).own g → p.own g := fun g ⟨j, hj⟩ => by
    simp only at hj
    split at hj
    · cases hj
    · exact ⟨j, hj⟩
  have hS : Step p w ⟨p.n, fun i => if i = id then none else p.at_ i, p.x⟩ w := ⟨rfl, rfl, rfl, Nat.le_refl _, Nat.le_refl _, fun i q _ hq => by
    simp only at hq
    split at hq
    · cases hq
    · exact ⟨hq, fun _ _ => rfl⟩, fun g _ h => hown g h, fun _ _ _ => rfl, rfl⟩
  refine ⟨⟨by simpa using hH.n, fun i hi => ?_, fun i j g hi hj => ?_, fun i hi => ?_, fun g hg => ⟨(hH.xs g hg).1, fun ho => (hH.xs g hg).2 (hown g ho)⟩⟩, hS⟩
  · simp only
    split
    · rfl
    · exact hH.out i hi
  · simp only at hi hj
    split at hi <;> split at hj
    · cases hi
    · cases hi
    · cases hj
    · exact hH.inj _ _ _ hi hj
  · rw [List.getElem_set]
    split
    · rename_i he
      show (if i = id then none else p.at_ i) = none
      rw [if_pos he.symm]
    · rename_i he
      exact (hH.blk i (by simpa using hi)).step hS (by simp only; rw [if_neg (fun h => he h.symm)]) fun _ _ => rfl
theorem RepC.toF {p : Pl} {w : World} {v : Value} {x : AV} (h : Rep0 p w v x) (hn : noid0 x = true) (hj : x ≠ .junk) : RepF p.M w v x := by
  cases x <;> first | exact (hj rfl).elim | (simp [noid0] at hn; done) | exact h
/-- a slice of a row that nobody writes any more is a value -/
theorem Rst.freeze {p s a w} (h : Rst p s a w) (i id st len sz : Nat) (t : TypeId) (xs : List AV) (hi : s.t[i]? = some (.sl id st len sz)) (hb : s.H[id]? = some (.row t xs)) (hn : ∀ x ∈ xs, noid0 x = true ∧ x ≠ .junk) (hl : st + len * sz ≤ xs.length) :
    ∃ p', Rst p' ⟨s.t.set i (.slv len sz ((xs.drop st).take (len * sz))), s.H.set id .dead⟩ a w ∧ Step p w p' w := by
  obtain ⟨h1, h2⟩ := frz_step h.heap id
  refine ⟨_, ⟨h.defers, ⟨by rw [List.length_set]; exact h.reps.1, fun j a1 a2 => ?_⟩, h1⟩, h2⟩
  have hjl : j < s.t.length := by rw [← h.reps.1]; exact a1
  rw [List.getElem_set]
  split
  · rename_i he
    subst he
    have hv := h.reps.2 i a1 hjl
    have hx : s.t[i] = .sl id st len sz := by
      obtain ⟨_, e⟩ := List.getElem?_eq_some_iff.1 hi
      exact e
    rw [hx] at hv
    generalize hgv : a.tmps.toList[i] = v at hv
    obtain ⟨q, hq⟩ := h.heap.live hb
    obtain ⟨oa, cap, rfl, b1, b2, b3, b4, b5⟩ := hv.2 q hq
    have hcl : ((xs.drop st).take (len * sz)).length = len * sz := by rw [List.length_take, List.length_drop]; omega
    rcases h.heap.row hb with ⟨c1, c2⟩ | ⟨g, cur, c1, c2, c3, c4⟩
    · subst c2
      have hlen : len = 0 := by
        have hm : len * sz = 0 := by simp at hl; omega
        rcases Nat.mul_eq_zero.1 hm with h' | h' <;> omega
      subst hlen
      refine RepF.rep (.slv oa (oa.getD ⟨0, 0, none⟩) _ _ _ _ (fun _ => undef) ?_ hcl b1 b2 b3 (fun i hi => by rw [hcl] at hi; omega) (fun i hi => by rw [hcl] at hi; omega))
      cases oa with
      | none => exact Or.inr ⟨rfl, b4 rfl⟩
      | some _ => exact Or.inl rfl
    · rw [c1] at hq
      cases hq
      have hex : ∀ k, k < len * sz → ∃ v, cur[st + k]? = some v ∧ RepC p w v (xs.getD (st + k) .junk) := fun k hk => by
        obtain ⟨v, d1, d2⟩ := c4 (st + k) (by omega)
        exact ⟨v, d1, by rw [getD_get _ _ (by omega)]; exact d2⟩
      refine RepF.rep (.slv oa (oa.getD ⟨0, 0, none⟩) _ _ _ _ (fun k => cur.getD (st + k) undef) ?_ hcl b1 b2 b3 (fun k hk => ?_) (fun k hk => ?_))
      · cases oa with
        | none => exact Or.inr ⟨rfl, b4 rfl⟩
        | some _ => exact Or.inl rfl
      · rw [hcl] at hk
        rcases b5 with h0 | ⟨g', e1, e2, e3⟩
        · have : len = 0 := by omega
          subst this; omega
        · cases e1
          subst e2
          obtain ⟨v, d1, d2⟩ := hex k hk
          have hgd : cur.getD (st + k) undef = v := by rw [Array.getD_eq_getD_getElem?, d1]; rfl
          refine ⟨rfl, (Array.getElem?_eq_some_iff.1 c2).1, fun hm => ?_, ?_, by rw [hgd]; exact d2.1⟩
          · rcases hm with ⟨l, hl'⟩ | hm
            · simp only at hl'
              split at hl'
              · cases hl'
              · rename_i hne; exact hne (h.heap.inj _ _ _ hl' c1)
            · exact (h.heap.xs _ hm).2 ⟨id, c1⟩
          · simp only [Option.getD_some]
            rw [cell_of_row w g _ cur t (0, 0) c2, d1, hgd]
      · rw [hcl] at hk
        obtain ⟨v, d1, d2⟩ := hex k hk
        have hgd : cur.getD (st + k) undef = v := by rw [Array.getD_eq_getD_getElem?, d1]; rfl
        have hmem : xs.getD (st + k) .junk ∈ xs := by rw [getD_get _ _ (by omega)]; exact List.getElem_mem _
        rw [hgd, getD_get _ _ (by rw [hcl]; exact hk), List.getElem_take, List.getElem_drop, ← getD_get _ _ (by omega)]
        refine RepF.anti (fun g' hg' => ?_) (RepC.toF d2.2 (hn _ hmem).1 (hn _ hmem).2)
        rcases hg' with ho | hx'
        · obtain ⟨l, hl'⟩ := ho
          simp only at hl'
          split at hl'
          · cases hl'
          · exact Or.inl ⟨l, hl'⟩
        · exact Or.inr hx'
  · exact (h.reps.2 j a1 hjl).step h2
end
theorem law_calls {P : Program} {f : FuncId} {args : List AV} (h : CallsV P f args [] fun av _ => av = .bool true) {w : World} {vals : Array Value} (hv : RepL (Rep ⟨0, fun _ => none, fun _ => False⟩ w) vals.toList args) :
    Calls P f vals w fun e w' => e = .returned (.bool true) ∧ Below w.heap.size w w' := by
  have hown0 : ∀ g, ¬ (⟨0, fun _ => none, fun _ => False⟩ : Pl).own g := fun g ⟨id, hid⟩ => by cases hid
  refine (h _ w vals ⟨rfl, fun _ _ => rfl, fun _ _ _ h => (by cases h), fun id h => absurd h (by simp), fun g (hg : False) => hg.elim⟩ hv).mono ?_
  rintro e w' ⟨v, av, H', p', rfl, rfl, _, hr, hS⟩
  exact ⟨by rw [rep_bool hr], hS.os, hS.tape, hS.output, hS.size, fun g hg => hS.froz g hg (hown0 g)⟩
end Go.Proofs.YthcaeofgegfncaaDoor.V
namespace Go.Proofs.YthcaeofgegfncaaDoor.V
open Go Go.RowKit
set_option linter.unusedSimpArgs false
set_option linter.unusedVariables false

def cB : Code → Code | .block _ b => b | .loop b => b | .scope b => b | c => c
def cO : Code → Array Oper | .region _ ops _ => ops | _ => #[]
def kd : Code → Nat
  | .skip => 0 | .region _ _ false => 1 | .region _ _ true => 2 | .seq _ _ => 3 | .cond _ _ _ => 4 | .block _ _ => 5 | .loop _ => 6 | .exit _ => 7 | .ret => 8 | .scope _ => 9 | .label _ => 10 | _ => 11
def bodyOf (fn : Func) : Code := fn.body.getD .skip
section
variable {P : Program} {s : St} {Q : Exit → St → Prop} {c : Code}
theorem q_reg (h : kd c = 1) (k : RunN P (cO c) Q (List.range (cO c).size) s) : WpV P c Q s := by
  cases c <;> first | (simp [kd] at h; done) | skip
  rename_i i ops d
  cases d with
  | true => simp [kd] at h
  | false => exact wpV_region k
/-- a region of reading operations alone -/
def rg (P : Program) (c : Code) (s : St) : List Prop × St := pureN P (cO c) (cO c).size (List.range (cO c).size) s
/-- the same state, written otherwise -/
theorem q_as {s' : St} (h : s = s') (k : WpV P c Q s') : WpV P c Q s := h ▸ k
theorem callsV_at {f : FuncId} {fn : Func} {args : List AV} {H : List Blk} {R : AV → List Blk → Prop} (hf : P.funcs[f]? = some fn) (hb : fn.body.isSome = true)
    (h : WpV P (bodyOf fn) (bodyV P fn.results.toList H.length R) ⟨args ++ List.replicate (fn.ntmps - args.length) .junk, H⟩) : CallsV P f args H R := by
  refine callsV_of hf ?_ h
  unfold bodyOf
  cases hb' : fn.body with
  | none => rw [hb'] at hb; cases hb
  | some c => rfl
end
end Go.Proofs.YthcaeofgegfncaaDoor.V
namespace Go.Proofs.YthcaeofgegfncaaDoor.V
open Go Go.RowKit
set_option linter.unusedSimpArgs false
set_option linter.unusedVariables false

/-- a state of n slots, those that matter written out -/
def lk (i : Nat) : List (Nat × AV) → AV
  | [] => .junk
  | (j, x) :: r => bif j == i then x else lk i r
def stOf (n : Nat) (l : List (Nat × AV)) (H : List Blk) : St := ⟨(List.range n).map fun i => lk i l, H⟩
section
variable {P : Program} {s s' : St} {Q : Exit → St → Prop} {c : Code} {ops : Array Oper} {l l' : List Nat}
theorem n_sel (ks : List Nat) (s' : St) (h : selS ks s = s') (k : RunN P ops Q l s') : RunN P ops Q l s := RunN.weaken (h ▸ k) fun p _ _ hR => ⟨p, hR.sel ks, Step.refl _ _⟩
/-- a slot's value, written otherwise -/
theorem q_set (i : Nat) (x y : AV) (hx : s.t.getD i .junk = x) (h : x = y) (k : WpV P c Q ⟨s.t.set i y, s.H⟩) : WpV P c Q s := WpV.weaken k fun p w _ hR => ⟨p, hR.set i y (fun v hv => by rw [hx, h] at hv; exact hv), Step.refl _ _⟩
def opAt (ops : Array Oper) (i : Nat) : Oper := (ops[i]?).getD default
def bytesT (P : Program) (e : TypeId) : Nat := match P.info? e with | some i => i.bytes | none => 0
/-- an operation that needs no call: what is asked, its value, the blocks behind it -/
def eff1 (P : Program) (ops : Array Oper) (s : St) (o : Oper) : List Prop × AV × List Blk :=
  match o.guard, o.op with
  | none, .box t x => match cellsAV s.H (s.ev x) with
    | some cs => ([], .ptr s.H.length 0, s.H ++ [.row t cs])
    | none => ([False], .junk, s.H)
  | none, .alloc t => match zeroL P t with
    | some cs => ([], .ptr s.H.length 0, s.H ++ [.row t cs])
    | none => ([False], .junk, s.H)
  | none, .store t x y => match s.ev x, cellsAV s.H (s.ev y) with
    | .ptr id off, some cs => match s.H[id]? with
      | some (.row t' xs) => (dec (knownT P t && sizeT P t == cs.length) ++ [off + cs.length ≤ xs.length], .junk, s.H.set id (.row t' (xs.take off ++ cs ++ xs.drop (off + cs.length))))
      | _ => ([False], .junk, s.H)
    | _, _ => ([False], .junk, s.H)
  | none, .buildSlice t len parts => match sliceLitE P s.H s.ev (elemTy P t) len parts with
    | some ds => (dec (elT P t (elemTy P t) (sizeT P (elemTy P t)) (bytesT P (elemTy P t)) && (knownT P (elemTy P t) && (decide (len * sizeT P (elemTy P t) ≤ 16777216) && ds.length == len * sizeT P (elemTy P t)))), .sl s.H.length 0 len (sizeT P (elemTy P t)), s.H ++ [.row (elemTy P t) ds])
    | none => ([False], .junk, s.H)
  | _, _ => match pure1 P ops s o with | (c, x) => (c, x, s.H)
theorem eff1_ok {o : Oper} (i : Nat) (ho : ops[i]? = some o) (hok : allP (eff1 P ops s o).1) (h : RunN P ops Q l (St.put ⟨s.t, (eff1 P ops s o).2.2⟩ o.dst (eff1 P ops s o).2.1)) : RunN P ops Q (i :: l) s := by
  unfold eff1 at hok h
  split at hok
  · rename_i t x hg hop
    simp only [hg, hop] at h
    split at hok
    · rename_i cs hc
      simp only [hc] at h
      exact runN_op ho (wanted_none hg) (op_box hop hc h).opV
    · exact hok.elim
  · rename_i t hg hop
    simp only [hg, hop] at h
    split at hok
    · rename_i cs hc
      simp only [hc] at h
      exact runN_op ho (wanted_none hg) (op_alloc hop hc h).opV
    · exact hok.elim
  · rename_i t x y hg hop
    simp only [hg, hop] at h
    split at hok
    · rename_i id off cs hx hy
      simp only [hx, hy] at h
      split at hok
      · rename_i t' xs hb
        simp only [hb] at h
        rw [allP_append, allP_dec] at hok
        simp only [Bool.and_eq_true, beq_iff_eq] at hok
        exact runN_op ho (wanted_none hg) (op_store hop hx hb hy hok.1 hok.2 h)
      · exact hok.elim
    · exact hok.elim
  · rename_i t len parts hg hop
    simp only [hg, hop] at h
    split at hok
    · rename_i ds hd
      simp only [hd] at h
      rw [allP_dec] at hok
      simp only [Bool.and_eq_true, beq_iff_eq] at hok
      exact runN_op ho (wanted_none hg) (op_sliceLit hop hok.1 hok.2.1 hd hok.2.2.1 hok.2.2.2 h).opV
    · exact hok.elim
  · rename_i hn1 hn2 hn3 hn4
    have h' : RunN P ops Q l (s.put o.dst (pure1 P ops s o).2) := by
      revert h
      split <;> intro h
      · rename_i t x hg hop; exact (hn1 _ _ hg hop).elim
      · rename_i t hg hop; exact (hn2 _ hg hop).elim
      · rename_i t x y hg hop; exact (hn3 _ _ _ hg hop).elim
      · rename_i t n ps hg hop; exact (hn4 _ _ _ hg hop).elim
      · exact h
    have hok' : allP (pure1 P ops s o).1 := hok
    unfold pure1 at hok' h'
    split at hok'
    · rename_i hg
      simp only [hg] at h'
      exact runN_op ho (wanted_none hg) ((pureE_ok rfl hok').opV h')
    · rename_i g hg
      simp only [hg] at h'
      split at hok'
      · rename_i b hb
        simp only [hb] at h'
        exact runN_guard ho hb hok' h'
      · exact hok'.elim
def effN (P : Program) (ops : Array Oper) : Nat → List Nat → St → List Prop × List Nat × St
  | 0, l, s => ([], l, s)
  | _ + 1, [], s => ([False], [], s)
  | n + 1, i :: l, s => match ops[i]? with
    | none => ([False], [], s)
    | some o => match eff1 P ops s o with
      | (c, x, H) => match effN P ops n l (St.put ⟨s.t, H⟩ o.dst x) with | (d, r) => (c ++ d, r)
theorem effN_ok : ∀ (n : Nat) (l : List Nat) (s : St), allP (effN P ops n l s).1 → RunN P ops Q (effN P ops n l s).2.1 (effN P ops n l s).2.2 → RunN P ops Q l s
  | 0, _, _, _, h => h
  | n + 1, [], s, hc, _ => hc.elim
  | n + 1, i :: l, s, hc, h => by
    unfold effN at hc h
    split at hc
    · exact hc.elim
    · rename_i o ho
      simp only [ho] at h
      obtain ⟨hc1, hc2⟩ := allP_append.1 hc
      exact eff1_ok i ho hc1 (effN_ok n l _ hc2 h)
/-- k operations without calls -/
theorem n_run (k : Nat) (C : Prop) (l' : List Nat) (s' : St) (h0 : (effN P ops k l s).2 = (l', s')) (hC : allP (effN P ops k l s).1 = C) (hok : C) (h : RunN P ops Q l' s') : RunN P ops Q l s := by
  subst hC
  exact effN_ok k l s hok (by rw [h0]; exact h)
theorem n_done (h : Q .normal s) : RunN P ops Q [] s := runN_done h
/-- a whole region without calls -/
theorem q_run (C : Prop) (ks : List Nat) (s' : St) (h : kd c = 1) (h0 : selS ks (effN P (cO c) (cO c).size (List.range (cO c).size) s).2.2 = s') (hl : (effN P (cO c) (cO c).size (List.range (cO c).size) s).2.1 = []) (hC : allP (effN P (cO c) (cO c).size (List.range (cO c).size) s).1 = C) (hok : C) (k : Q .normal s') : WpV P c Q s := by
  subst hC
  refine q_reg h (effN_ok _ _ _ hok ?_)
  rw [hl]
  refine n_sel ks s' h0 (n_done k)
/-- is the operation an unguarded call of f? -/
def isCall (o : Oper) (f : FuncId) (xs : List Operand) : Bool := match o.guard, o.op with
  | none, .call ⟨.value (.func g), ys, _⟩ => g == f && (ys.toList.length == xs.length && (ys.toList.zip xs).all fun q => match q with | (.tmp a, .tmp b) => a == b | _ => false)
  | _, _ => false
def callArgs (o : Oper) : List Operand := match o.op with | .call ⟨_, ys, _⟩ => ys.toList | _ => []
def calls (o : Oper) : Option FuncId := match o.guard, o.op with
  | none, .call ⟨.value (.func g), _, _⟩ => some g
  | _, _ => none
theorem calls_spec {o : Oper} {f : FuncId} (h : calls o = some f) : o.guard = none ∧ ∃ ts, o.op = .call ⟨.value (.func f), (callArgs o).toArray, ts⟩ := by
  unfold calls at h
  split at h
  · rename_i g ys ts hg hop
    cases h
    refine ⟨hg, ts, ?_⟩
    unfold callArgs
    rw [hop]
  · cases h
theorem opAt_get {i : Nat} (h : i < ops.size) : ops[i]? = some (opAt ops i) := by
  unfold opAt
  rw [Array.getElem?_eq_getElem h]
  rfl
/-- a call, by its contract -/
theorem n_call (f : FuncId) (as' : List AV) {R : AV → List Blk → Prop} {i : Nat} (hc : (decide (i < ops.size) && (callable P f && (match calls (opAt ops i) with | some g => g == f | none => false))) = true) (ha : (callArgs (opAt ops i)).map s.ev = as')
    (h : CallsV P f as' s.H R) (k : ∀ av H', R av H' → RunN P ops Q l (St.put ⟨s.t, H'⟩ (opAt ops i).dst av)) : RunN P ops Q (i :: l) s := by
  simp only [Bool.and_eq_true, decide_eq_true_eq] at hc
  obtain ⟨h1, h2, h3⟩ := hc
  have h4 : calls (opAt ops i) = some f := by
    split at h3
    · rename_i g hg; rw [hg]; simp only [beq_iff_eq] at h3; rw [h3]
    · cases h3
  obtain ⟨h5, ts, h6⟩ := calls_spec h4
  subst ha
  exact runN_op (opAt_get h1) (wanted_none h5) (op_call h6 h2 (by simpa using h.mono fun av H' hr => k av H' hr))
/-- a call that has no block of the run's own -/
theorem n_callq (f : FuncId) (as' : List AV) {R : AV → List Blk → Prop} {i : Nat} (hc : (decide (i < ops.size) && (callable P f && (match calls (opAt ops i) with | some g => g == f | none => false))) = true) (ha : (callArgs (opAt ops i)).map s.ev = as') (hn : as'.all noid1 = true)
    (h : CallsV P f as' [] R) (k : ∀ av H', R av H' → RunN P ops Q l (St.put ⟨s.t, s.H ++ H'.map (shiftB s.H.length)⟩ (opAt ops i).dst (ren (shf s.H.length) av))) : RunN P ops Q (i :: l) s := by
  simp only [Bool.and_eq_true, decide_eq_true_eq] at hc
  obtain ⟨h1, h2, h3⟩ := hc
  have h4 : calls (opAt ops i) = some f := by
    split at h3
    · rename_i g hg; rw [hg]; simp only [beq_iff_eq] at h3; rw [h3]
    · cases h3
  obtain ⟨h5, ts, h6⟩ := calls_spec h4
  subst ha
  exact runN_op (opAt_get h1) (wanted_none h5) (op_callB h6 h2 (by simpa using hn) (by simpa using h.mono fun av H' hr => k av H' hr)).opV
def plain0 : AV → Bool | .fn _ _ _ => false | x => noid0 x
def plain1 : AV → Bool | .agg cs => cs.all plain0 | .fn _ _ _ => false | .cnd _ _ => false | x => noid0 x
def plain2 : AV → Bool | .tuple vs => vs.all plain1 | x => plain1 x
theorem ren0_plain {f : Nat → Option Nat} {x : AV} (h : plain0 x = true) : ren0 f x = x := by
  cases x <;> first | rfl | (simp [plain0, noid0] at h; done)
theorem map_id_of {g : AV → AV} : ∀ (l : List AV), (∀ x ∈ l, g x = x) → l.map g = l
  | [], _ => rfl
  | a :: r, h => by rw [List.map_cons, h a (List.mem_cons_self), map_id_of r fun x hx => h x (List.mem_cons_of_mem _ hx)]
theorem ren1_plain {f : Nat → Option Nat} {x : AV} (h : plain1 x = true) : ren1 f x = x := by
  cases x
  case agg cs =>
    simp only [plain1, List.all_eq_true] at h
    simp only [ren1]
    rw [map_id_of cs fun x hx => ren0_plain (h x hx)]
  all_goals first | rfl | (simp [plain1, noid0] at h; done)
theorem ren_plain {f : Nat → Option Nat} {x : AV} (h : plain2 x = true) : ren f x = x := by
  cases x
  case tuple vs =>
    simp only [plain2, List.all_eq_true] at h
    simp only [ren, renP]
    rw [map_id_of vs fun x hx => ren1_plain (h x hx)]
  case agg cs => exact ren1_plain (x := .agg cs) h
  all_goals first | rfl | (simp [plain2, plain1, noid0] at h; done)
theorem noid1_plain2 {x : AV} (h : plain1 x = true) : notCnd x = true := by cases x <;> first | rfl | (simp [plain1] at h)
/-- is it a call of f, under a guard or not? -/
def callsG (o : Oper) : Option FuncId := match o.op with
  | .call ⟨.value (.func g), _, _⟩ => some g
  | _ => none
theorem callsG_spec {o : Oper} {f : FuncId} (h : callsG o = some f) : ∃ ts, o.op = .call ⟨.value (.func f), (callArgs o).toArray, ts⟩ := by
  unfold callsG at h
  split at h
  · rename_i g ys ts hop
    cases h
    refine ⟨ts, ?_⟩
    unfold callArgs
    rw [hop]
  · cases h
/-- a call with a plain result, that has no block of the run's own -/
theorem n_callp (f : FuncId) (as' : List AV) (x : AV) {i : Nat} (s' : St) (hc : (decide (i < ops.size) && (callable P f && (match calls (opAt ops i) with | some g => g == f | none => false))) = true) (ha : (callArgs (opAt ops i)).map s.ev = as') (hn : (as'.all noid1 && plain2 x) = true)
    (hs : s.put (opAt ops i).dst x = s') (h : CallsV P f as' [] fun av H' => av = x ∧ H' = []) (k : RunN P ops Q l s') : RunN P ops Q (i :: l) s := by
  simp only [Bool.and_eq_true] at hn
  refine n_callq f as' hc ha hn.1 h ?_
  rintro av H' ⟨rfl, rfl⟩
  rw [ren_plain hn.2, List.map_nil, List.append_nil]
  subst hs
  exact k
end
end Go.Proofs.YthcaeofgegfncaaDoor.V
namespace Go.Proofs.YthcaeofgegfncaaDoor.V
open Go Go.RowKit
set_option linter.unusedSimpArgs false
set_option linter.unusedVariables false

theorem wrap_i64 {e : Int} (h1 : -9223372036854775808 ≤ e) (h2 : e ≤ 9223372036854775807) : IntKind.i64.wrap e = e := by rw [IntKind.wrap_i64]; omega
theorem wrap_u8 {e : Int} (h1 : 0 ≤ e) (h2 : e ≤ 255) : IntKind.u8.wrap e = e := by
  simp only [IntKind.wrap, IntKind.signed, IntKind.bits, Bool.false_and, Bool.false_eq_true, if_false]; omega
section
variable {P : Program} {s s' : St} {Q : Exit → St → Prop} {c : Code} {ops : Array Oper} {l l' : List Nat}
/-- a slot's value, weakened -/
theorem q_weak (i : Nat) (x y : AV) (hx : s.t.getD i .junk = x) (h : ∀ (p : Pl) (w : World) (v : Value), Rep p w v x → Rep p w v y) (k : WpV P c Q ⟨s.t.set i y, s.H⟩) : WpV P c Q s := WpV.weaken k fun p _ w hR => ⟨p, hR.set i y (fun v hv => by rw [hx] at hv; exact h p w v hv), Step.refl _ _⟩
/-- a slice of a row that nobody writes any more is a value -/
theorem q_frz (i id st len sz : Nat) (t : TypeId) (xs : List AV) (hi : s.t[i]? = some (.sl id st len sz)) (hb : s.H[id]? = some (.row t xs)) (hn : ∀ x ∈ xs, noid0 x = true ∧ x ≠ .junk) (hl : st + len * sz ≤ xs.length)
    (k : WpV P c Q ⟨s.t.set i (.slv len sz ((xs.drop st).take (len * sz))), s.H.set id .dead⟩) : WpV P c Q s := WpV.weaken k fun p w _ hR => hR.freeze i id st len sz t xs hi hb hn hl
/-- an append -/
theorem n_append (t e sz bytes len m : Nat) {k : Option Nat} (xs ys : List AV) {i : Nat} (x y : Operand) (s' : St) (ho : (decide (i < ops.size) && (match (opAt ops i).guard, (opAt ops i).op with | none, .call ⟨.builtin .append, ⟨[_, _]⟩, ⟨[t1, t2]⟩⟩ => t1 == t && t2 == t | _, _ => false)) = true)
    (hxy : callArgs (opAt ops i) = [x, y]) (hT : elT P t e sz bytes = true) (hd : IsDst s.H e sz (s.ev x) k len xs) (hs : IsSrc s.H sz (s.ev y) m ys) (hb : (len + m) * bytes ≤ 140737488355328) (hm : len + m ≤ maxLen)
    (he : St.put ⟨s.t, killB s.H k ++ [.row e (xs ++ ys)]⟩ (opAt ops i).dst (.sl s.H.length 0 (len + m) sz) = s') (h : RunN P ops Q l s') : RunN P ops Q (i :: l) s := by
  simp only [Bool.and_eq_true, decide_eq_true_eq] at ho
  obtain ⟨h1, h2⟩ := ho
  subst he
  split at h2
  · rename_i a b t1 t2 hg hop
    simp only [Bool.and_eq_true, beq_iff_eq] at h2
    obtain ⟨rfl, rfl⟩ := h2
    have hab : a = x ∧ b = y := by simpa [callArgs, hop] using hxy
    obtain ⟨rfl, rfl⟩ := hab
    exact runN_op (opAt_get h1) (wanted_none hg) (op_append (ty := 0) hop hT hd hs hb hm h)
  · cases h2
/-- a new block among operations that draw their order -/
theorem d_new (i m : Nat) (listed' : Array Bool) (s' : St) {n : Nat} {listed : Array Bool} (hn : m + 1 = n) (hr : Region.ready .any ops listed = [i]) (C : Prop)
    (ho : (decide (i < ops.size) && (match (opAt ops i).guard, (opAt ops i).op with | none, .box _ _ => true | none, .alloc _ => true | none, .buildSlice _ _ _ => true | _, _ => false)) = true) (hC : allP (eff1 P ops s (opAt ops i)).1 = C) (hok : C)
    (hl : listed.setIfInBounds i true = listed') (hs : St.put ⟨s.t, (eff1 P ops s (opAt ops i)).2.2⟩ (opAt ops i).dst (eff1 P ops s (opAt ops i)).2.1 = s') (k : RunD P ops Q m listed' s') : RunD P ops Q n listed s := by
  subst hn hC hs hl
  simp only [Bool.and_eq_true, decide_eq_true_eq] at ho
  obtain ⟨h1, h2⟩ := ho
  unfold eff1 at hok k
  split at h2
  · rename_i t x hg hop
    simp only [hg, hop] at hok k
    split at hok
    · rename_i cs hc
      simp only [hc] at k
      exact runD_one i (opAt_get h1) hr (wanted_none hg) (op_box hop hc k)
    · exact hok.elim
  · rename_i t hg hop
    simp only [hg, hop] at hok k
    split at hok
    · rename_i cs hc
      simp only [hc] at k
      exact runD_one i (opAt_get h1) hr (wanted_none hg) (op_alloc hop hc k)
    · exact hok.elim
  · rename_i t len parts hg hop
    simp only [hg, hop] at hok k
    split at hok
    · rename_i ds hd
      simp only [hd] at k
      rw [allP_dec] at hok
      simp only [Bool.and_eq_true, beq_iff_eq] at hok
      exact runD_one i (opAt_get h1) hr (wanted_none hg) (op_sliceLit hop hok.1 hok.2.1 hd hok.2.2.1 hok.2.2.2 k)
    · exact hok.elim
  · cases h2
end
def flatA {α : Type} (enc : α → List AV) (xs : List α) : List AV := xs.flatMap enc
section
variable {α : Type} {enc : α → List AV} {n : Nat}
theorem flatA_length (h : ∀ x, (enc x).length = n) (xs : List α) : (flatA enc xs).length = xs.length * n := by
  induction xs with
  | nil => simp [flatA]
  | cons x r ih => simp only [flatA, List.flatMap_cons, List.length_append, List.length_cons] at ih ⊢; rw [ih, h, Nat.succ_mul, Nat.add_comm]
theorem flatA_cons (x : α) (xs : List α) : flatA enc (x :: xs) = enc x ++ flatA enc xs := rfl
theorem flatA_append (xs ys : List α) : flatA enc (xs ++ ys) = flatA enc xs ++ flatA enc ys := by simp [flatA]
theorem flatA_drop (h : ∀ x, (enc x).length = n) (xs : List α) (k : Nat) : (flatA enc xs).drop (k * n) = flatA enc (xs.drop k) := by
  induction xs generalizing k with
  | nil => simp [flatA]
  | cons x r ih =>
    cases k with
    | zero => simp
    | succ k => rw [flatA_cons, List.drop_succ_cons, List.drop_append, h, Nat.succ_mul, Nat.add_sub_cancel, ih, List.drop_eq_nil_of_le (by rw [h]; omega), List.nil_append]
theorem flatA_take (h : ∀ x, (enc x).length = n) (xs : List α) (k : Nat) : (flatA enc xs).take (k * n) = flatA enc (xs.take k) := by
  induction xs generalizing k with
  | nil => simp [flatA]
  | cons x r ih =>
    cases k with
    | zero => simp [flatA]
    | succ k => rw [flatA_cons, List.take_succ_cons, flatA_cons, List.take_append, h, Nat.succ_mul, Nat.add_sub_cancel, ih, List.take_of_length_le (by rw [h]; omega)]
theorem flatA_at (h : ∀ x, (enc x).length = n) (xs : List α) (d : α) (k : Nat) (hk : k < xs.length) : (flatA enc xs).drop ((k : Int).toNat * n) = enc (xs.getD k d) ++ flatA enc (xs.drop (k + 1)) := by
  rw [Int.toNat_natCast, flatA_drop h, List.drop_eq_getElem_cons hk, flatA_cons]
  simp [List.getD_eq_getElem?_getD, hk]
theorem flatA_all {p : AV → Prop} (h : ∀ x, ∀ a ∈ enc x, p a) (xs : List α) : ∀ a ∈ flatA enc xs, p a := fun a ha => by
  simp only [flatA, List.mem_flatMap] at ha
  obtain ⟨x, _, hx⟩ := ha
  exact h x a hx
end
theorem renT_map (f : Nat → Option Nat) (xs : List AV) : renT f xs (xs.map (ren f)) := by
  induction xs with
  | nil => trivial
  | cons a r ih => exact ⟨Or.inr rfl, ih⟩
def dropI (n0 : Nat) (I : Nat → St → Prop) (m : Nat) (s : St) : Prop := ∃ keep s3, KeepOK n0 keep s.H s3.H ∧ renT (idxK keep) s.t s3.t ∧ I m s3
section
variable {P : Program} {Q : Exit → St → Prop} {s : St} {c : Code}
/-- a round's end: every block that the round made is left behind -/
theorem k_loopd {I : Nat → St → Prop} {ks : List Nat} {n : Nat} (m : Nat) (h : m < n) (k : I m ⟨(selS ks s).t.map (ren (idxK [])), []⟩) : loopV (dropI 0 I) ks n Q .normal s :=
  ⟨m, h, [], _, keep_nil _, renT_map _ _, k⟩
/-- the same where one row of plain cells goes on -/
theorem k_loopd1 {I : Nat → St → Prop} {ks : List Nat} {n : Nat} (m : Nat) (h : m < n) (j : Nat) (t : TypeId) (xs : List AV) (hj : s.H[j]? = some (.row t xs)) (hn : ∀ x ∈ xs, noid0 x = true)
    (k : I m ⟨(selS ks s).t.map (ren (idxK [j])), [.row t xs]⟩) : loopV (dropI 0 I) ks n Q .normal s := by
  refine ⟨m, h, [j], ⟨_, [.row t xs]⟩, ⟨by simp, fun i hi => ?_, by simp, fun i hi => by omega, rfl, fun i h1 h2 h3 => ?_⟩, renT_map _ _, k⟩
  · obtain rfl : i = j := by simpa using hi
    exact (List.getElem?_eq_some_iff.1 hj).1
  · obtain rfl : i = 0 := by simp at h1; omega
    obtain ⟨q1, q2⟩ := List.getElem?_eq_some_iff.1 hj
    simp only [List.getElem_cons_zero] at h2 ⊢
    simp only [selS] at h2 ⊢
    rw [q2]
    exact ⟨rfl, Or.inl ⟨rfl, hn⟩⟩
end
end Go.Proofs.YthcaeofgegfncaaDoor.V
namespace Go.Proofs.YthcaeofgegfncaaDoor.V
open Go Go.RowKit
set_option linter.unusedSimpArgs false
set_option linter.unusedVariables false

/-- a new block of any kind -/
theorem mv_gen {p : Pl} {H : List Blk} {w w' : World} (hH : RH p H w) (B : Blk) (g0 : Nat)
    (hB : Below w.heap.size w w') (hg0 : w.heap.size ≤ g0)
    (hblk : Step p w (p.mv none (some g0)) w' → BlkIs (p.mv none (some g0)) w' p.n B) :
    RH (p.mv none (some g0)) (H ++ [B]) w' ∧ Step p w (p.mv none (some g0)) w' := by
  have hfroz : ∀ g, g < w.heap.size → w'.heap[g]? = w.heap[g]? := fun g hg => hB.block g hg
  have hat : ∀ id q0, (p.mv none (some g0)).at_ id = some q0 → (id = p.n ∧ q0 = some g0) ∨ (id < p.n ∧ p.at_ id = some q0) := by
    intro id q0 h
    simp only [Pl.mv] at h
    split at h
    · rename_i he; exact Or.inl ⟨he, by cases h; rfl⟩
    · split at h
      · cases h
      · rename_i h1 h2
        refine Or.inr ⟨?_, h⟩
        rcases Nat.lt_or_ge id p.n with h3 | h3
        · exact h3
        · rw [hH.out id h3] at h; cases h
  have hs : Step p w (p.mv none (some g0)) w' := by
    refine ⟨hB.os, hB.tape, hB.output, hB.size, Nat.le_succ _, fun id q0 hid h => ?_, fun g hg hm => ?_, fun g hg hm => hfroz g hg, rfl⟩
    · rcases hat id q0 h with ⟨h1, _⟩ | ⟨_, h3⟩
      · omega
      · refine ⟨h3, fun g hg => ?_⟩
        subst hg
        unfold rowSize
        rw [hfroz g (hH.lt g ⟨id, h3⟩)]
    · obtain ⟨id, hid⟩ := hm
      rcases hat id _ hid with ⟨_, h2⟩ | ⟨_, h3⟩
      · cases h2; omega
      · exact ⟨id, h3⟩
  refine ⟨⟨?_, fun id hid => ?_, fun i j g hi hj => ?_, fun id hid => ?_, fun g hg => ⟨Nat.lt_of_lt_of_le (hH.xs g hg).1 hB.size, fun ho => (hH.xs g hg).2 (hs.old g (hH.xs g hg).1 ho)⟩⟩, hs⟩
  · simp [Pl.mv, hH.n]
  · simp only [Pl.mv] at hid ⊢
    rw [if_neg (by omega), if_neg (by simp)]
    exact hH.out id (by omega)
  · have new : ∀ i, p.at_ i = some (some g0) → False := fun i h3 => by have := hH.lt g0 ⟨i, h3⟩; omega
    rcases hat i _ hi with ⟨h1, h2⟩ | ⟨h1, h3⟩ <;> rcases hat j _ hj with ⟨h4, h5⟩ | ⟨h4, h6⟩
    · omega
    · cases h2; exact (new j h6).elim
    · cases h5; exact (new i h3).elim
    · exact hH.inj _ _ _ h3 h6
  · simp only [List.length_append, List.length_singleton] at hid
    by_cases hlt : id < H.length
    · rw [List.getElem_append_left hlt]
      have hne : id ≠ p.n := by rw [hH.n]; omega
      have hb := hH.blk id hlt
      have ha : (p.mv none (some g0)).at_ id = p.at_ id := by simp [Pl.mv, hne]
      exact hb.step hs ha fun g hg => hfroz g (hH.lt g ⟨id, hg⟩)
    · have he : id = H.length := by omega
      subst he
      rw [List.getElem_append_right (Nat.le_refl _)]
      simp only [Nat.sub_self, List.getElem_cons_zero]
      rw [← hH.n]
      exact hblk hs
theorem below_alloc (w : World) (o : Obj) : Below w.heap.size w (w.alloc o) := by
  refine ⟨rfl, rfl, rfl, by show w.heap.size ≤ (w.heap.push o).size; simp, fun g hg => ?_⟩
  show (w.heap.push o)[g]? = _
  rw [Array.getElem?_push_lt hg, Array.getElem?_eq_getElem hg]
/-- a block that is no row, written anew in its place -/
theorem set_gen {p : Pl} {H : List Blk} {w w' : World} (hH : RH p H w) {id g : Nat} (B : Blk) (hl : id < H.length) (hg : p.at_ id = some (some g))
    (hos : w'.os = w.os) (htape : w'.tape = w.tape) (hout : w'.output = w.output) (hsz : w'.heap.size = w.heap.size) (hoth : ∀ g', g' ≠ g → w'.heap[g']? = w.heap[g']?) (hrs : rowSize w' g = rowSize w g)
    (hblk : Step p w p w' → BlkIs p w' id B) : RH p (H.set id B) w' ∧ Step p w p w' := by
  have hst : Step p w p w' := by
    refine ⟨hos, htape, hout, by omega, Nat.le_refl _, fun j q _ hq => ⟨hq, fun g' hg' => ?_⟩, fun _ _ h => h, fun g' hg' hm => hoth g' (fun he => hm (he ▸ ⟨id, hg⟩)), rfl⟩
    by_cases he : g' = g
    · subst he; exact hrs
    · unfold rowSize; rw [hoth g' he]
  refine ⟨⟨by rw [List.length_set]; exact hH.n, hH.out, hH.inj, fun j hj => ?_, fun g' hg' => ⟨Nat.lt_of_lt_of_le (hH.xs g' hg').1 hst.size, (hH.xs g' hg').2⟩⟩, hst⟩
  rw [List.getElem_set]
  split
  · rename_i he; subst he; exact hblk hst
  · rename_i he
    exact (hH.blk j (by rw [List.length_set] at hj; exact hj)).step hst rfl fun g' hg' => hoth g' (fun h => he (hH.inj _ _ _ hg (h ▸ hg')))
section
variable {P : Program} {s : St} {o : Oper} {R : AV → List Blk → Prop}
/-- make of a slice -/
theorem op_makeSlice {t e : TypeId} {sz bytes : Nat} {l c : Operand} {kl kc : IntKind} {n m : Int} {zs : List AV} (ho : o.op = .makeSlice t l c) (hT : elT P t e sz bytes = true) (hz : zeroL P e = some zs)
    (hl : s.ev l = .int kl n) (hc : s.ev c = .int kc m) (h0 : 0 ≤ n) (hnm : n ≤ m) (hb : (bytes : Int) * m ≤ 281474976710656) (hm : m ≤ 9223372036854775807)
    (h : R (.sl s.H.length 0 n.toNat sz) (s.H ++ [.row e (zerosL zs (m.toNat * sz))])) : OpB P o s R := opB_of fun p w a hR => by
  obtain ⟨hu, i, z, hi, hzi, hzs, hpos, rfl, rfl⟩ := elT_spec hT
  have el := rep_int (hl ▸ hR.ev l)
  have ec := rep_int (hc ▸ hR.ev c)
  have hrun := run_make (P := P) w t e i z hu hi hzi kl kc n m h0 hnm hb hm
  unfold zeroL at hz
  simp only [hi, hzi] at hz
  have hzr := zeros_rep (consts_rep (p := p) (w := w) hz) (m.toNat * i.size) (by simpa [hzs] using hpos)
  obtain ⟨r1, r2, r3⟩ := alloc_ok hR.heap (madeCells z.cells (m.toNat * i.size)) e _ hzr
  refine ⟨.slice (some ⟨w.heap.size, 0, none⟩) n.toNat m.toNat, _, _, _, _, ?_, h, r1, ?_, r2, r3⟩
  · unfold execOp
    rw [ho]
    simp only [el, ec, Sem.run_bind, hrun, Result.andThen_ok, Sem.run_pure]
  · refine ⟨by simp [Pl.mv, hR.heap.n], fun q hq => ?_⟩
    simp only [Pl.mv, hR.heap.n, if_true, Option.some.injEq] at hq
    refine ⟨_, _, rfl, by omega, by unfold maxLen; omega, hpos, (fun h => by cases h), Or.inr ⟨_, hq.symm, rfl, ?_⟩⟩
    unfold rowSize
    rw [heap_alloc_new]
    simp [size_madeCells]
/-- the bytes of a string, as values -/
def bytesAV (s : ByteArray) : List AV := s.data.toList.map fun b => .int .u8 (b.toNat : Int)
theorem op_strBytes {src dst e : TypeId} {x : Operand} {b : ByteArray} {u : TypeDesc} (ho : o.op = .convert src dst x) (hs : P.underlying src = some u) (hd : P.underlying dst = some (.slice e)) (he : P.underlying e = some (.int .u8))
    (hx : s.ev x = .str b) (hb : b.size ≤ maxLen) (h : R (.slv b.size 1 (bytesAV b)) s.H) : OpB P o s R := opB_of fun p w a hR => by
  have ex := rep_str (hx ▸ hR.ev x)
  have hB : Below w.heap.size w (Lib.bytesWorld w e b) := by
    refine ⟨rfl, rfl, rfl, by rw [Lib.bytesWorld_size]; omega, fun g hg => Lib.bytesWorld_at_old w e b g hg⟩
  refine ⟨.slice (some ⟨w.heap.size, 0, none⟩) b.size (grownCap w b.size 0 e), _, _, p, _, ?_, h, hR.heap.below hB, ?_, Step.of_below hB hR.heap.lt, hB⟩
  · unfold execOp
    rw [ho]
    simp only [ex, Sem.run_bind, Lib.run_convert_string_bytes w src dst e b hs hd he, Result.andThen_ok, Sem.run_pure]
  · have hlen : (bytesAV b).length = b.size := by simp [bytesAV]
    refine RepF.rep (.slv _ ⟨w.heap.size, 0, none⟩ b.size _ 1 (bytesAV b) (fun j => .int .u8 (b.data.toList.getD j 0).toNat) (Or.inl rfl) (by rw [hlen, Nat.mul_one]) (grownCap_ge _ _ _ _) (grownCap_le_maxLen _ _ _ _ hb) (by omega) (fun i hi => ?_) (fun i hi => ?_))
    · rw [hlen] at hi
      refine ⟨rfl, by rw [Lib.bytesWorld_size]; simp, fun hm => ?_, ?_, rfl⟩
      · rcases hm with hm | hm
        · have := hR.heap.lt _ hm; simp at this
        · have := (hR.heap.xs _ hm).1; simp at this
      · simp only [Nat.zero_add]; exact Lib.bytesWorld_cell w e b i hi
    · have hi' : i < b.data.toList.length := by simpa [bytesAV] using hi
      have : (bytesAV b).getD i .junk = .int .u8 (b.data.toList.getD i 0).toNat := by
        rw [List.getD_eq_getElem?_getD, List.getElem?_eq_getElem hi, List.getD_eq_getElem?_getD, List.getElem?_eq_getElem hi']
        simp [bytesAV]
      rw [this]
      exact .int _ _
/-- a function value with what it captures -/
theorem op_makeFunc {f : Fn} {fs cs : Array Operand} (ho : o.op = .makeFunc f fs cs) (h1 : ∀ x ∈ fs.toList, leafOK s.H (s.ev x) = true) (h2 : ∀ x ∈ cs.toList, leafOK s.H (s.ev x) = true)
    (h : R (.fn f (fs.toList.map s.ev) (cs.toList.map s.ev)) s.H) : OpB P o s R := opB_of fun p w a hR => by
  refine ⟨.func f (fs.map a.eval) (cs.map a.eval), _, _, p, w, ?_, h, hR.heap, ?_, Step.refl _ _, Below.refl _ _⟩
  · unfold execOp
    rw [ho]
    rfl
  · have key : ∀ l : List Operand, (∀ x ∈ l, leafOK s.H (s.ev x) = true) → RepL (Rep0 p w) (l.map a.eval) (l.map s.ev) := fun l hl =>
      ⟨by simp, fun i a1 a2 => by simp only [List.getElem_map]; exact (leaf_one hR.heap (hR.ev _) (hl _ (List.getElem_mem _))).2⟩
    exact ⟨_, _, rfl, by simpa using key fs.toList h1, by simpa using key cs.toList h2⟩
/-- a call of a function value -/
theorem op_callv {x : Operand} {f : FuncId} {fs cs : List AV} {xs : Array Operand} {ts : Array TypeId} (ho : o.op = .call ⟨.value x, xs, ts⟩) (hx : s.ev x = .fn (.func f) fs cs) (hc : callable P f = true) (h : CallsV P f (fs ++ xs.toList.map s.ev ++ cs) s.H R) : OpV P o s R := fun p w a K Q hR hK => by
  have hv := hR.ev x
  rw [hx] at hv
  obtain ⟨vs, us, e1, e2, e3⟩ := hv
  have hrun : (execOp a.eval o).run P w = .ok (.enter f (vs ++ xs.map a.eval ++ us)) w := by
    unfold execOp
    rw [ho]
    simp [resolve, invoke, e1, Deferred.ofValue, run_callFunc hc]
  unfold Oper.wp
  rw [hrun, Oper.upon_enter]
  refine (h p w (vs ++ xs.map a.eval ++ us) hR.heap ?_).mono ?_
  · simp only [Array.toList_append, Array.toList_map]
    exact ((e2.mono fun _ _ => Rep0.rep).append (evals hR xs.toList)).append (e3.mono fun _ _ => Rep0.rep)
  · rintro e w' ⟨v, av, H', p', rfl, h1, h2, h3, h4⟩
    exact hK v av H' p' w' h1 h2 h3 h4
theorem op_callvB {x : Operand} {f : FuncId} {fs cs : List AV} {xs : Array Operand} {ts : Array TypeId} (ho : o.op = .call ⟨.value x, xs, ts⟩) (hx : s.ev x = .fn (.func f) fs cs) (hc : callable P f = true) (hn : (fs ++ xs.toList.map s.ev ++ cs).all noid1 = true)
    (h : CallsV P f (fs ++ xs.toList.map s.ev ++ cs) [] fun av H' => R (ren (shf s.H.length) av) (s.H ++ H'.map (shiftB s.H.length))) : OpB P o s R := fun p w a K Q hR hK => by
  have hv := hR.ev x
  rw [hx] at hv
  obtain ⟨vs, us, e1, e2, e3⟩ := hv
  have hrun : (execOp a.eval o).run P w = .ok (.enter f (vs ++ xs.map a.eval ++ us)) w := by
    unfold execOp
    rw [ho]
    simp [resolve, invoke, e1, Deferred.ofValue, run_callFunc hc]
  unfold Oper.wp
  rw [hrun, Oper.upon_enter]
  refine (h.frame (fun x hx => List.all_eq_true.1 hn x hx) hR.heap (vals := vs ++ xs.map a.eval ++ us) ?_).mono ?_
  · simp only [Array.toList_append, Array.toList_map]
    exact ((e2.mono fun _ _ => Rep0.rep).append (evals hR xs.toList)).append (e3.mono fun _ _ => Rep0.rep)
  · rintro e w' ⟨v, av, H', p', rfl, h1, h2, h3, h4, h5⟩
    exact hK v _ _ p' w' h1 h2 h3 h4 h5
/-- an iterator over a string -/
theorem op_range {t : TypeId} {x : Operand} {b : ByteArray} (ho : o.op = .range t x) (ht : P.underlying t = some .string) (hx : s.ev x = .str b) (h : R (.iter s.H.length) (s.H ++ [.iter b 0])) : OpB P o s R := opB_of fun p w a hR => by
  have ex := rep_str (hx ▸ hR.ev x)
  have hB := below_alloc w (.stringIter b 0)
  obtain ⟨r1, r2⟩ := mv_gen hR.heap (.iter b 0) w.heap.size hB (Nat.le_refl _) fun _ => ⟨w.heap.size, by simp [Pl.mv], heap_alloc_new _ _⟩
  refine ⟨.pointer (some ⟨w.heap.size, 0, none⟩), _, _, _, _, ?_, h, r1, ?_, r2, hB⟩
  · unfold execOp
    rw [ho]
    simp only [ex, Sem.run_bind, run_range_string (P := P) w t b ht, Result.andThen_ok, Sem.run_pure]
    rfl
  · refine ⟨by simp [Pl.mv, hR.heap.n], fun q hq => ?_⟩
    simp only [Pl.mv, hR.heap.n, if_true, Option.some.injEq] at hq
    exact ⟨_, hq.symm, rfl⟩
theorem op_next {x : Operand} {id : Nat} {b : ByteArray} {pos : Nat} (ho : o.op = .next x true) (hx : s.ev x = .iter id) (hb : s.H[id]? = some (.iter b pos))
    (h : R (bif Nat.blt pos b.size then .tuple [.bool true, .int .i64 pos, .int .i32 (Utf8.decode b pos).1] else .tuple [.bool false])
      (bif Nat.blt pos b.size then s.H.set id (.iter b (pos + (Utf8.decode b pos).2)) else s.H)) : OpV P o s R := opV_of fun p w a hR => by
  obtain ⟨hl, he⟩ := List.getElem?_eq_some_iff.1 hb
  have hbk := hR.heap.blk id hl
  rw [he] at hbk
  obtain ⟨g, hg, hh⟩ := hbk
  have hv := hR.ev x
  rw [hx] at hv
  obtain ⟨g', hg', ev⟩ := hv.2 _ hg
  cases hg'
  cases hc : Nat.blt pos b.size with
  | true =>
    have hlt : pos < b.size := by rw [Nat.blt_eq] at hc; exact hc
    rw [hc] at h
    have hrun := Lib.run_next_any_at (P := P) w g b pos o.type hh hlt
    obtain ⟨r1, r2⟩ := set_gen hR.heap (w' := w.iterAt g b (pos + (Utf8.decode b pos).2)) (.iter b (pos + (Utf8.decode b pos).2)) hl hg rfl rfl rfl (by simp [World.iterAt]) (fun g' hne => by simp [World.iterAt, Array.getElem?_setIfInBounds, Ne.symm hne])
      (by unfold rowSize; rw [Lib.iterAt_heap w g b pos _ hh, hh]) fun _ => ⟨g, hg, Lib.iterAt_heap w g b pos _ hh⟩
    refine ⟨.value (.tuple #[.bool true, .int .i64 pos, .int .i32 (Utf8.decode b pos).1]), .tuple #[.bool true, .int .i64 pos, .int .i32 (Utf8.decode b pos).1], _, _, p, _, ?_, Or.inl rfl, h, r1, ?_, r2⟩
    · unfold execOp
      rw [ho]
      simp only [ev, Sem.run_bind, hrun, Result.andThen_ok, Sem.run_pure]
    · exact ⟨_, rfl, RepL.cons (RepF.rep0 (.bool true)) (RepL.cons (RepF.rep0 (.int _ _)) (RepL.cons (RepF.rep0 (.int _ _)) RepL.nil))⟩
  | false =>
    have hlt : ¬ pos < b.size := fun hh => by rw [← Nat.blt_eq, hc] at hh; cases hh
    rw [hc] at h
    have hrun := Lib.run_next_end_at (P := P) w g b pos o.type hh hlt
    refine ⟨.value (.tuple #[.bool false]), .tuple #[.bool false], _, _, p, w, ?_, Or.inl rfl, h, hR.heap, ?_, Step.refl _ _⟩
    · unfold execOp
      rw [ho]
      simp only [ev, Sem.run_bind, hrun, Result.andThen_ok, Sem.run_pure]
    · exact ⟨_, rfl, RepL.cons (RepF.rep0 (.bool false)) RepL.nil⟩
end
end Go.Proofs.YthcaeofgegfncaaDoor.V
namespace Go.Proofs.YthcaeofgegfncaaDoor.V
open Go Go.RowKit
set_option linter.unusedSimpArgs false
set_option linter.unusedVariables false

mutual
/-- a value with the own blocks behind it read as values -/
def val0 (used : Nat → Bool) (H : List Blk) : Nat → AV → Option AV
  | 0, _ => none
  | d + 1, x => match x with
    | .sl id st len sz => bif used id then (match H[id]? with
      | some (.row _ xs) => bif Nat.ble (st + len * sz) xs.length then (match valL used H d ((xs.drop st).take (len * sz)) with | some cs => some (.slv len sz cs) | none => none) else none
      | _ => none) else none
    | .ptr id o => bif used id then (match H[id]? with
      | some (.row _ xs) => (match valL used H d (xs.drop o) with | some cs => some (.fptr cs) | none => none)
      | _ => none) else none
    | .junk | .slc _ _ _ _ _ | .map _ | .iter _ | .agg _ | .tuple _ | .cnd _ _ => none
    | .fn f a b => bif a.isEmpty && b.isEmpty then some (.fn f [] []) else none
    | x => some x
def valL (used : Nat → Bool) (H : List Blk) : Nat → List AV → Option (List AV)
  | 0, _ => none
  | _ + 1, [] => some []
  | d + 1, x :: r => match val0 used H d x, valL used H d r with | some y, some l => some (y :: l) | _, _ => none
end
def val1 (used : Nat → Bool) (H : List Blk) (d : Nat) : AV → Option AV
  | .agg cs => match valL used H d cs with | some l => some (.agg l) | none => none
  | .fn f a b => match valL used H d a, valL used H d b with | some l, some m => some (.fn f l m) | _, _ => none
  | x => val0 used H d x
def valA (used : Nat → Bool) (H : List Blk) (d : Nat) : List AV → Option (List AV)
  | [] => some []
  | x :: r => match val1 used H d x, valA used H d r with | some y, some l => some (y :: l) | _, _ => none
structure Lends (used : Nat → Bool) (p p1 : Pl) : Prop where
  M : ∀ g, p1.M g → p.M g
  no : ∀ id g, used id = true → p.at_ id = some (some g) → ¬ p1.M g
theorem repF_anti {p p1 : Pl} (hM : ∀ g, p1.M g → p.M g) {w : World} {v : Value} {x : AV} (h : RepF p.M w v x) : RepF p1.M w v x := RepF.anti hM h
theorem RepL.map2 {R R' : Value → AV → Prop} {vs : List Value} {xs ys : List AV} (h : RepL R vs xs) (hl : ys.length = xs.length) (hg : ∀ i (h1 : i < xs.length) (h2 : i < ys.length) v, R v xs[i] → R' v ys[i]) : RepL R' vs ys :=
  ⟨h.1.trans hl.symm, fun i a b => hg i (by omega) b _ (h.2 i a (by omega))⟩
mutual
theorem val0_rep {used : Nat → Bool} {H : List Blk} {p p1 : Pl} {w : World} (hH : RH p H w) (hL : Lends used p p1) : ∀ (d : Nat) (x y : AV) (v : Value), val0 used H d x = some y → Rep0 p w v x → RepF p1.M w v y
  | 0, x, y, v, h, _ => by simp [val0] at h
  | d + 1, x, y, v, h, hr => by
    unfold val0 at h
    split at h
    · rename_i id st len sz
      rw [cond_eq_ite] at h
      split at h
      · rename_i hu
        split at h
        · rename_i t xs hb
          rw [cond_eq_ite] at h
          split at h
          · rename_i hle
            have hle : st + len * sz ≤ xs.length := Nat.le_of_ble_eq_true hle
            split at h
            · rename_i cs hc
              cases h
              obtain ⟨q, hq⟩ := hH.live hb
              obtain ⟨a, cap, rfl, hcap, hcm, hsz, hn, ha⟩ := hr.2 q hq
              have hvl := valL_rep hH hL d ((xs.drop st).take (len * sz)) cs hc
              have hcl : cs.length = len * sz := by rw [hvl.1]; simp; omega
              rcases hH.row hb with ⟨h1, h2⟩ | ⟨g, cur, h1, h2, h3, h4⟩
              · subst h2
                have h0 : len * sz = 0 := by simp at hle; omega
                have hcs : cs = [] := List.eq_nil_of_length_eq_zero (by omega)
                subst hcs
                have ho : a = some (a.getD ⟨0, 0, none⟩) ∨ (a = none ∧ cap = 0) := by
                  cases a with
                  | none => exact Or.inr ⟨rfl, hn rfl⟩
                  | some a => exact Or.inl rfl
                exact .slv a _ len cap sz [] (fun _ => undef) ho (by simpa using h0.symm) hcap hcm hsz (fun i hi => absurd hi (by simp)) (fun i hi => absurd hi (by simp))
              · by_cases hc0 : cap = 0
                · have h0 : len = 0 := by omega
                  subst h0
                  have hcs : cs = [] := List.eq_nil_of_length_eq_zero (by omega)
                  subst hcs
                  have ho : a = some (a.getD ⟨0, 0, none⟩) ∨ (a = none ∧ cap = 0) := by
                    cases a with
                    | none => exact Or.inr ⟨rfl, hn rfl⟩
                    | some a => exact Or.inl rfl
                  exact .slv a _ 0 cap sz [] (fun _ => undef) ho (by simp) hcap hcm hsz (fun i hi => absurd hi (by simp)) (fun i hi => absurd hi (by simp))
                · rcases ha with ha | ⟨g', hg', rfl, hrs⟩
                  · exact absurd ha hc0
                  · rw [hq] at h1; cases h1; cases hg'
                    have hgl : g < w.heap.size := (Array.getElem?_eq_some_iff.1 h2).1
                    refine .slv _ ⟨g, st, none⟩ len cap sz cs (fun i => (cur[st + i]?).getD undef) (Or.inl rfl) hcl hcap hcm hsz (fun i hi => ?_) (fun i hi => ?_)
                    · obtain ⟨u, hu1, hu2⟩ := h4 (st + i) (by omega)
                      refine ⟨rfl, hgl, hL.no id g hu hq, ?_, ?_⟩
                      · rw [cell_of_row w g _ cur t (0, 0) h2, hu1]; rfl
                      · rw [hu1]; exact hu2.1
                    · obtain ⟨u, hu1, hu2⟩ := h4 (st + i) (by omega)
                      rw [hu1]
                      rw [getD_get _ _ hi]
                      refine hvl.2 i (by rw [← hvl.1]; exact hi) hi u ?_
                      simp only [List.getElem_take, List.getElem_drop]
                      exact hu2.2
            · cases h
          · cases h
        · cases h
      · cases h
    · rename_i id o
      rw [cond_eq_ite] at h
      split at h
      · rename_i hu
        split at h
        · rename_i t xs hb
          split at h
          · rename_i cs hc
            cases h
            obtain ⟨q, hq⟩ := hH.live hb
            obtain ⟨g, rfl, rfl⟩ := hr.2 q hq
            have hvl := valL_rep hH hL d (xs.drop o) cs hc
            rcases hH.row hb with ⟨h1, h2⟩ | ⟨g', cur, h1, h2, h3, h4⟩
            · rw [hq] at h1; cases h1
            · rw [hq] at h1; cases h1
              have hgl : g < w.heap.size := (Array.getElem?_eq_some_iff.1 h2).1
              have hcl : cs.length = xs.length - o := by rw [hvl.1]; simp
              refine .fptr ⟨g, o, none⟩ cs (fun i => (cur[o + i]?).getD undef) (fun i hi => ?_) (fun i hi => ?_)
              · obtain ⟨u, hu1, hu2⟩ := h4 (o + i) (by omega)
                refine ⟨rfl, hgl, hL.no id g hu hq, ?_, ?_⟩
                · rw [cell_of_row w g _ cur t (0, 0) h2, hu1]; rfl
                · rw [hu1]; exact hu2.1
              · obtain ⟨u, hu1, hu2⟩ := h4 (o + i) (by omega)
                rw [hu1]
                rw [getD_get _ _ hi]
                refine hvl.2 i (by rw [← hvl.1]; exact hi) hi u ?_
                simp only [List.getElem_drop]
                exact hu2.2
          · cases h
        · cases h
      · cases h
    all_goals first
      | (cases h; done)
      | skip
    · rename_i f a b
      rw [cond_eq_ite] at h
      split at h
      · rename_i he
        simp only [Bool.and_eq_true, List.isEmpty_iff] at he
        obtain ⟨rfl, rfl⟩ := he
        cases h
        exact repF_anti hL.M hr
      · cases h
    · rename_i n1 n2 n3 nc n4 n5 n6 n7 n8 n9
      cases h
      cases x <;> first | exact repF_anti hL.M hr | exact (n1 _ _ _ _ rfl).elim | exact (n2 _ _ rfl).elim | exact (n3 rfl).elim | exact (nc _ _ _ _ _ rfl).elim | exact (n4 _ rfl).elim | exact (n5 _ rfl).elim | exact (n6 _ rfl).elim | exact (n7 _ rfl).elim | exact (n8 _ _ rfl).elim | exact (n9 _ _ _ rfl).elim
theorem valL_rep {used : Nat → Bool} {H : List Blk} {p p1 : Pl} {w : World} (hH : RH p H w) (hL : Lends used p p1) : ∀ (d : Nat) (xs ys : List AV), valL used H d xs = some ys → ys.length = xs.length ∧ ∀ i (h1 : i < xs.length) (h2 : i < ys.length) v, Rep0 p w v xs[i] → RepF p1.M w v ys[i]
  | 0, xs, ys, h => by simp [valL] at h
  | d + 1, [], ys, h => by simp [valL] at h; subst h; exact ⟨rfl, fun i h1 => absurd h1 (by simp)⟩
  | d + 1, x :: r, ys, h => by
    unfold valL at h
    split at h
    · rename_i y l hy hl
      cases h
      obtain ⟨e1, e2⟩ := valL_rep hH hL d r l hl
      refine ⟨by simp [e1], fun i h1 h2 v hv => ?_⟩
      cases i with
      | zero => exact val0_rep hH hL d x y v hy hv
      | succ i => exact e2 i (by simpa using h1) (by simpa using h2) v (by simpa using hv)
    · cases h
end
theorem val1_rep {used : Nat → Bool} {H : List Blk} {p p1 : Pl} {w : World} (hH : RH p H w) (hL : Lends used p p1) (d : Nat) (x y : AV) (v : Value) (h : val1 used H d x = some y) (hr : Rep p w v x) : Rep p1 w v y := by
  unfold val1 at h
  split at h
  · rename_i cs
    split at h
    · rename_i l hl
      cases h
      obtain ⟨vs, rfl, h2⟩ := hr
      obtain ⟨e1, e2⟩ := valL_rep hH hL d cs l hl
      exact ⟨vs, rfl, h2.map2 e1 fun i a b u hu => ⟨hu.1, (e2 i a b u hu.2).rep0⟩⟩
    · cases h
  · rename_i f a b
    split at h
    · rename_i l m h1 h2
      cases h
      obtain ⟨vs, us, rfl, r1, r2⟩ := hr
      obtain ⟨e1, e2⟩ := valL_rep hH hL d a l h1
      obtain ⟨e3, e4⟩ := valL_rep hH hL d b m h2
      exact ⟨vs, us, rfl, r1.map2 e1 fun i a b u hu => (e2 i a b u hu).rep0, r2.map2 e3 fun i a b u hu => (e4 i a b u hu).rep0⟩
    · cases h
  · rename_i x0 h1 h2
    refine (val0_rep hH hL d x y v h ?_).rep
    cases d with
    | zero => simp [val0] at h
    | succ d => cases x <;> first | exact hr | (simp [val0] at h; done) | exact absurd rfl (h1 _) | exact absurd rfl (h2 _ _ _)
theorem valA_rep {used : Nat → Bool} {H : List Blk} {p p1 : Pl} {w : World} (hH : RH p H w) (hL : Lends used p p1) (d : Nat) : ∀ {xs ys : List AV} {vs : List Value}, valA used H d xs = some ys → RepL (Rep p w) vs xs → RepL (Rep p1 w) vs ys
  | [], ys, [], h, hr => by simp [valA] at h; subst h; exact RepL.nil
  | x :: r, ys, v :: vs, h, hr => by
    unfold valA at h
    split at h
    · rename_i y l hy hl
      cases h
      have h0 := hr.2 0 (by simp) (by simp)
      exact RepL.cons (val1_rep hH hL d x y v hy h0) (valA_rep hH hL d hl ⟨by simpa using hr.1, fun i a b => by have := hr.2 (i + 1) (by simpa using a) (by simpa using b); simpa using this⟩)
    · cases h
  | [], _, _ :: _, _, hr => absurd hr.1 (by simp)
  | _ :: _, _, [], _, hr => absurd hr.1 (by simp)
def nov0 : AV → Bool
  | .bool _ | .int _ _ | .str _ | .nilptr | .nilsl | .nilmap | .nilfn | .sl _ _ _ _ | .ptr _ _ | .map _ | .iter _ | .junk => true
  | .fn _ a b => a.isEmpty && b.isEmpty
  | _ => false
def nov1 : AV → Bool
  | .agg cs => cs.all nov0
  | x => nov0 x
def novR : AV → Bool
  | .tuple vs => vs.all nov1
  | x => nov1 x
def novB : Blk → Bool
  | .row _ xs => xs.all nov0
  | .map kv => kv.all fun q => nov1 q.1 && nov1 q.2
  | _ => true
theorem nov0_rep {p p' : Pl} {w : World} {v : Value} {x : AV} (hn : nov0 x = true) (hp : ∀ id, p'.at_ id = p.at_ id) (hpn : p'.n = p.n) (h : Rep0 p w v x) : Rep0 p' w v x := by
  cases x <;> first | trivial | (simp [nov0] at hn; done) | skip
  case sl => exact ⟨by rw [hpn]; exact h.1, fun q hq => h.2 q (by rw [← hp]; exact hq)⟩
  case ptr => exact ⟨by rw [hpn]; exact h.1, fun q hq => h.2 q (by rw [← hp]; exact hq)⟩
  case map => exact ⟨by rw [hpn]; exact h.1, fun q hq => h.2 q (by rw [← hp]; exact hq)⟩
  case iter => exact ⟨by rw [hpn]; exact h.1, fun q hq => h.2 q (by rw [← hp]; exact hq)⟩
  all_goals (cases h; constructor)
theorem nov1_rep {p p' : Pl} {w : World} {v : Value} {x : AV} (hn : nov1 x = true) (hp : ∀ id, p'.at_ id = p.at_ id) (hpn : p'.n = p.n) (h : Rep1 p w v x) : Rep1 p' w v x := by
  cases x
  case agg cs =>
    obtain ⟨vs, h1, h2⟩ := h
    simp only [nov1, List.all_eq_true] at hn
    exact ⟨vs, h1, h2.1, fun i a b => ⟨(h2.2 i a b).1, nov0_rep (hn _ (List.getElem_mem b)) hp hpn (h2.2 i a b).2⟩⟩
  case fn f a b =>
    simp only [nov1, nov0, Bool.and_eq_true, List.isEmpty_iff] at hn
    obtain ⟨rfl, rfl⟩ := hn
    obtain ⟨vs, us, h1, h2, h3⟩ := h
    exact ⟨vs, us, h1, ⟨h2.1, fun i a b => absurd b (by simp)⟩, ⟨h3.1, fun i a b => absurd b (by simp)⟩⟩
  case tuple => exact (rep1_tuple h).elim
  case cnd => exact (rep1_cnd h).elim
  all_goals (simp only [nov1] at hn; simp only [Rep1] at h ⊢; exact nov0_rep hn hp hpn h)
theorem novR_rep {p p' : Pl} {w : World} {v : Value} {x : AV} (hn : novR x = true) (hp : ∀ id, p'.at_ id = p.at_ id) (hpn : p'.n = p.n) (h : Rep p w v x) : Rep p' w v x := by
  cases x
  case tuple ts =>
    obtain ⟨vs, h1, h2⟩ := h
    simp only [novR, List.all_eq_true] at hn
    exact ⟨vs, h1, h2.1, fun i a b => nov1_rep (hn _ (List.getElem_mem b)) hp hpn (h2.2 i a b)⟩
  case cnd => simp [novR, nov1, nov0] at hn
  all_goals (simp only [novR] at hn; exact (nov1_rep (p := p) (p' := p') hn hp hpn h).repT.rep)
theorem novB_ok {p p' : Pl} {w : World} {id : Nat} {b : Blk} (hn : novB b = true) (hp : ∀ id, p'.at_ id = p.at_ id) (hpn : p'.n = p.n) (h : BlkIs p w id b) : BlkIs p' w id b := by
  cases b with
  | dead => exact (hp id).trans h
  | row t xs =>
    simp only [novB, List.all_eq_true] at hn
    rcases h with ⟨h1, h2⟩ | ⟨g, cur, h1, h2, h3, h4⟩
    · exact Or.inl ⟨(hp id).trans h1, h2⟩
    · exact Or.inr ⟨g, cur, (hp id).trans h1, h2, h3, fun i hi => let ⟨v, a, b⟩ := h4 i hi; ⟨v, a, b.1, nov0_rep (hn _ (List.getElem_mem hi)) hp hpn b.2⟩⟩
  | map kv =>
    simp only [novB, List.all_eq_true, Bool.and_eq_true] at hn
    obtain ⟨g, es, cl, h1, h2, h3, h4⟩ := h
    exact ⟨g, es, cl, (hp id).trans h1, h2, h3, fun i hi hi' => ⟨nov1_rep (hn _ (List.getElem_mem hi)).1 hp hpn (h4 i hi hi').1, nov1_rep (hn _ (List.getElem_mem hi)).2 hp hpn (h4 i hi hi').2⟩⟩
  | iter s pos => obtain ⟨g, h1, h2⟩ := h; exact ⟨g, (hp id).trans h1, h2⟩
/-- how the arguments read where the own blocks are lent -/
def Reads (H : List Blk) (args as' : List AV) : Prop := ∀ (p p1 : Pl) (w : World) (vs : List Value), RH p H w → Lends (fun _ => true) p p1 → RepL (Rep p w) vs args → RepL (Rep p1 w) vs as'
/-- a call to which own blocks are lent -/
theorem CallsV.lendR {P : Program} {f : FuncId} {args as' : List AV} {av : AV} {H1 : List Blk} (h : CallsV P f as' [] fun a b => a = av ∧ b = H1) (hn : (novR av && H1.all novB) = true) {p : Pl} {H : List Blk} {w : World} {vals : Array Value} (hH : RH p H w)
    (ha : RepL (Rep ⟨0, fun _ => none, p.x⟩ w) vals.toList as') :
    Calls P f vals w fun e w' => ∃ v p', e = .returned v ∧ RH p' (H ++ H1.map (shiftB H.length)) w' ∧ Rep p' w' v (ren (shf H.length) av) ∧ Step p w p' w' ∧ Below w.heap.size w w' := by
  simp only [Bool.and_eq_true] at hn
  let p0 : Pl := ⟨0, fun _ => none, p.x⟩
  have hown0 : ∀ g, ¬ p0.own g := fun g ⟨id, hid⟩ => by cases hid
  have hH0 : RH p0 [] w := ⟨rfl, fun _ _ => rfl, fun _ _ _ h => (by cases h), fun id h => absurd h (by simp), fun g hg => ⟨(hH.xs g hg).1, hown0 g⟩⟩
  refine (h p0 w vals hH0 ha).mono ?_
  rintro e w' ⟨v, a1, b1, q, rfl, ⟨e1, e2⟩, hHq, hrep, hS⟩
  subst e1 e2
  have hB : Below w.heap.size w w' := ⟨hS.os, hS.tape, hS.output, hS.size, fun g hg => hS.froz g hg (hown0 g)⟩
  -- the same places, seen from where all of p's blocks may be written
  let q2 : Pl := ⟨q.n, q.at_, p.M⟩
  have hqnew : ∀ g, q.own g → w.heap.size ≤ g := fun g hg => by
    rcases Nat.lt_or_ge g w.heap.size with h1 | h1
    · exact (hown0 g (hS.old g h1 hg)).elim
    · exact h1
  have hMlt : ∀ g, p.M g → g < w.heap.size := fun g hg => hg.elim (hH.lt g) fun hx => (hH.xs g hx).1
  have hHq2 : RH q2 b1 w' := ⟨hHq.n, hHq.out, hHq.inj, fun id hid => novB_ok (p := q) (p' := q2) (List.all_eq_true.1 hn.2 _ (List.getElem_mem hid)) (fun _ => rfl) rfl (hHq.blk id hid), fun g hg => ⟨Nat.lt_of_lt_of_le (hMlt g hg) hB.size, fun ho => by have := hqnew g ho; have := hMlt g hg; omega⟩⟩
  have hrep2 : Rep q2 w' v a1 := novR_rep (p := q) (p' := q2) hn.1 (fun _ => rfl) rfl hrep
  have hS2 : Step ⟨0, fun _ => none, p.M⟩ w q2 w' := ⟨hS.os, hS.tape, hS.output, hS.size, hS.n, fun id q hid => absurd hid (by simp), fun g hg ho => (by have := hqnew g ho; omega), fun g hg _ => hB.block g hg, rfl⟩
  -- as a call that has no block of the run's own
  have hpn : p.n = H.length := hH.n
  let pc : Pl := ⟨p.n + q.n, fun id => if id < p.n then p.at_ id else q.at_ (id - p.n), p.x⟩
  have key : CallsV P f as' [] (fun a b => a = a1 ∧ b = b1) := h
  have hpcown : ∀ g, pc.own g → p.own g ∨ q.own g := fun g ⟨id, hid⟩ => by
    simp only [pc] at hid
    split at hid
    · exact Or.inl ⟨id, hid⟩
    · exact Or.inr ⟨_, hid⟩
  have hdisj : ∀ g, p.own g → ¬ q.own g := fun g h1 h2 => by have := hH.lt g h1; have := hqnew g h2; omega
  have hemb : Emb (shf H.length) q2 pc := by
    refine ⟨fun id j hf hid => ?_, fun g hg => ?_⟩
    · simp only [shf, Option.some.injEq] at hf
      subst hf
      refine ⟨by simp only [pc, q2] at hid ⊢; omega, fun q0 hq0 => ?_⟩
      simp only [pc] at hq0
      rw [if_neg (by omega)] at hq0
      rw [show id + H.length - p.n = id by omega] at hq0
      exact hq0
    · rcases hg with hg | hg
      · rcases hpcown g hg with h1 | h1
        · exact Or.inr (Or.inl h1)
        · exact Or.inl h1
      · exact Or.inr (Or.inr hg)
  have hst : Step p w pc w' := by
    refine ⟨hS.os, hS.tape, hS.output, hS.size, by simp [pc], fun id q0 hid hq0 => ?_, fun g hg ho => ?_, fun g hg _ => hB.block g hg, rfl⟩
    · simp only [pc] at hq0
      rw [if_pos hid] at hq0
      refine ⟨hq0, fun g hg => ?_⟩
      subst hg
      unfold rowSize
      rw [hB.block g (hH.lt g ⟨id, hq0⟩)]
    · rcases hpcown g ho with h1 | h1
      · exact h1
      · have := hqnew g h1; omega
  refine ⟨v, pc, rfl, ⟨?_, fun id hid => ?_, fun i j g hi hj => ?_, fun id hid => ?_, fun g hg => ⟨Nat.lt_of_lt_of_le (hH.xs g hg).1 hB.size, fun ho => ?_⟩⟩, hrep2.ren hemb, hst, hB⟩
  · simp [pc, hpn, hHq.n]
  · simp only [pc] at hid ⊢
    rw [if_neg (by omega)]
    exact hHq.out _ (by omega)
  · simp only [pc] at hi hj
    split at hi <;> split at hj
    · exact hH.inj _ _ _ hi hj
    · exact (hdisj g ⟨i, hi⟩ ⟨_, hj⟩).elim
    · exact (hdisj g ⟨j, hj⟩ ⟨_, hi⟩).elim
    · have := hHq.inj _ _ _ hi hj; omega
  · by_cases hlt' : id < H.length
    · rw [List.getElem_append_left hlt']
      refine (hH.blk id hlt').step hst ?_ fun g hg => hB.block g (hH.lt g ⟨id, hg⟩)
      simp only [pc]
      rw [if_pos (by omega)]
    · simp only [List.length_append, List.length_map] at hid
      rw [List.getElem_append_right (by omega), List.getElem_map]
      refine BlkIs.ren (id := id - H.length) hemb ?_ (hHq2.blk _ (by omega)) (shiftB_ren _ _)
      simp only [pc, q2]
      rw [if_neg (by omega), hpn]
  · rcases hpcown g ho with h1 | h1
    · exact (hH.xs g hg).2 h1
    · have h3 := hqnew g h1; have h4 := (hH.xs g hg).1; omega

theorem lends0 {p : Pl} {H : List Blk} {w : World} (hH : RH p H w) (used : Nat → Bool) : Lends used p ⟨0, fun _ => none, p.x⟩ :=
  ⟨fun g hg => hg.elim (fun ⟨id, hid⟩ => by cases hid) Or.inr, fun id g _ hid hm => hm.elim (fun ⟨id, hid⟩ => by cases hid) fun hx => (hH.xs g hx).2 ⟨id, hid⟩⟩
theorem CallsV.lend {P : Program} {used : Nat → Bool} {f : FuncId} {args as' : List AV} {av : AV} {H1 : List Blk} {d : Nat} (h : CallsV P f as' [] fun a b => a = av ∧ b = H1) (hn : (novR av && H1.all novB) = true) {p : Pl} {H : List Blk} {w : World} {vals : Array Value} (hH : RH p H w) (hv : RepL (Rep p w) vals.toList args)
    (ha : valA used H d args = some as') :
    Calls P f vals w fun e w' => ∃ v p', e = .returned v ∧ RH p' (H ++ H1.map (shiftB H.length)) w' ∧ Rep p' w' v (ren (shf H.length) av) ∧ Step p w p' w' ∧ Below w.heap.size w w' :=
  CallsV.lendR (args := args) h hn hH (valA_rep hH (lends0 hH used) d ha hv)
/-- a row of plain cells, lent -/
theorem reads_sl {H : List Blk} {id st len sz : Nat} {t : TypeId} {xs : List AV} (hb : H[id]? = some (.row t xs)) (hn : ∀ x ∈ xs, noid0 x = true ∧ x ≠ .junk) (hl : st + len * sz ≤ xs.length) {p p1 : Pl} {w : World} {v : Value} (hH : RH p H w) (hL : Lends (fun _ => true) p p1) (h : Rep p w v (.sl id st len sz)) :
    Rep p1 w v (.slv len sz ((xs.drop st).take (len * sz))) := by
  obtain ⟨q, hq⟩ := hH.live hb
  obtain ⟨a, cap, rfl, hcap, hcm, hsz, hno, ha⟩ := h.2 q hq
  have hcl : ((xs.drop st).take (len * sz)).length = len * sz := by simp; omega
  refine RepF.rep ?_
  by_cases hc0 : cap = 0
  · have h0 : len = 0 := by omega
    subst h0
    have ho : a = some (a.getD ⟨0, 0, none⟩) ∨ (a = none ∧ cap = 0) := by
      cases a with
      | none => exact Or.inr ⟨rfl, hno rfl⟩
      | some a => exact Or.inl rfl
    exact .slv a _ 0 cap sz _ (fun _ => undef) ho hcl hcap hcm hsz (fun i hi => absurd hi (by simp)) (fun i hi => absurd hi (by simp))
  · rcases ha with ha | ⟨g', hg', rfl, hrs⟩
    · exact absurd ha hc0
    · rcases hH.row hb with ⟨h1, h2⟩ | ⟨g, cur, h1, h2, h3, h4⟩
      · rw [hq] at h1; cases h1; cases hg'
      · rw [hq] at h1; cases h1; cases hg'
        have hgl : g' < w.heap.size := (Array.getElem?_eq_some_iff.1 h2).1
        refine .slv _ ⟨g', st, none⟩ len cap sz _ (fun i => (cur[st + i]?).getD undef) (Or.inl rfl) hcl hcap hcm hsz (fun i hi => ?_) (fun i hi => ?_)
        · obtain ⟨u, hu1, hu2⟩ := h4 (st + i) (by omega)
          refine ⟨rfl, hgl, hL.no id g' rfl hq, ?_, ?_⟩
          · rw [cell_of_row w g' _ cur t (0, 0) h2, hu1]; rfl
          · rw [hu1]; exact hu2.1
        · obtain ⟨u, hu1, hu2⟩ := h4 (st + i) (by omega)
          rw [hu1, getD_get _ _ hi]
          simp only [List.getElem_take, List.getElem_drop]
          obtain ⟨k1, k2⟩ := hn _ (List.getElem_mem (show st + i < xs.length by omega))
          exact repF_anti hL.M (RepC.toF hu2.2 k1 k2)
def killAll (H : List Blk) : List Nat → List Blk
  | [] => H
  | i :: r => killAll (H.set i .dead) r
theorem killAll_ok {w : World} : ∀ (ids : List Nat) {p : Pl} {H : List Blk}, RH p H w → ∃ p1, RH p1 (killAll H ids) w ∧ Step p w p1 w ∧ (∀ id ∈ ids, p1.at_ id = none) ∧ p1.x = p.x ∧ ∀ id q, p1.at_ id = some q → p.at_ id = some q
  | [], p, H, hH => ⟨p, hH, Step.refl _ _, fun id h => absurd h (by simp), rfl, fun _ _ h => h⟩
  | i :: r, p, H, hH => by
    obtain ⟨h1, h2⟩ := frz_step hH i
    obtain ⟨p1, a1, a2, a3, a4, a5⟩ := killAll_ok r h1
    have hsub : ∀ id q, p1.at_ id = some q → id ≠ i ∧ p.at_ id = some q := fun id q hq => by
      have := a5 id q hq
      simp only at this
      split at this
      · cases this
      · rename_i hne; exact ⟨hne, this⟩
    refine ⟨p1, a1, h2.trans a2, fun id hid => ?_, a4, fun id q hq => (hsub id q hq).2⟩
    cases hc : p1.at_ id with
    | none => rfl
    | some q =>
      rcases List.mem_cons.1 hid with rfl | hid
      · exact absurd rfl (hsub _ _ hc).1
      · rw [a3 id hid] at hc; cases hc
theorem CallsV.handover {P : Program} {f : FuncId} {args as' : List AV} {av : AV} {H1 : List Blk} {d : Nat} {ids : List Nat} (h : CallsV P f as' [] fun a b => a = av ∧ b = H1) (hn : as'.all noid1 = true) {p : Pl} {H : List Blk} {w : World} {vals : Array Value} (hH : RH p H w) (hv : RepL (Rep p w) vals.toList args)
    (ha : valA (fun i => ids.contains i) H d args = some as') :
    Calls P f vals w fun e w' => ∃ v p', e = .returned v ∧ RH p' (killAll H ids ++ H1.map (shiftB (killAll H ids).length)) w' ∧ Rep p' w' v (ren (shf (killAll H ids).length) av) ∧ Step p w p' w' ∧ Below w.heap.size w w' := by
  obtain ⟨p1, h1, h2, h3, h4, h5⟩ := killAll_ok ids hH
  have hown : ∀ g, p1.own g → p.own g := fun g ⟨id, hid⟩ => ⟨id, h5 _ _ hid⟩
  have hL : Lends (fun i => ids.contains i) p p1 := ⟨fun g hg => hg.elim (fun h => Or.inl (hown g h)) fun hx => Or.inr (h4 ▸ hx), fun id g hu hid hm => by
    rcases hm with ⟨j, hj⟩ | hx
    · have hj' := h5 _ _ hj
      have he := hH.inj _ _ _ hj' hid
      subst he
      rw [h3 j (by simpa using hu)] at hj; cases hj
    · exact (hH.xs g (h4 ▸ hx)).2 ⟨id, hid⟩⟩
  refine (h.frame (fun a ha => List.all_eq_true.1 hn a ha) h1 (valA_rep hH hL d ha hv)).mono ?_
  rintro e w' ⟨v, a1, b1, p', rfl, ⟨e1, e2⟩, k1, k2, k3, k4⟩
  subst e1 e2
  exact ⟨v, p', rfl, k1, k2, h2.trans k3, k4⟩
section
variable {P : Program} {s : St} {o : Oper} {R : AV → List Blk → Prop}
theorem op_callw {f : FuncId} {l : List AV} (hop : ∀ (p : Pl) (w : World) (a : Act), Rst p s a w → ∃ vals : Array Value, RepL (Rep p w) vals.toList l ∧ (execOp a.eval o).run P w = .ok (.enter f vals) w)
    (h : ∀ (p : Pl) (w : World) (vals : Array Value), RH p s.H w → RepL (Rep p w) vals.toList l → Calls P f vals w fun e w' => ∃ v av H' p', e = .returned v ∧ R av H' ∧ RH p' H' w' ∧ Rep p' w' v av ∧ Step p w p' w' ∧ Below w.heap.size w w') : OpB P o s R := fun p w a K Q hR hK => by
  obtain ⟨vals, hv, hrun⟩ := hop p w a hR
  unfold Oper.wp
  rw [hrun, Oper.upon_enter]
  refine (h p w vals hR.heap hv).mono ?_
  rintro e w' ⟨v, av, H', p', rfl, h1, h2, h3, h4, h5⟩
  exact hK v av H' p' w' h1 h2 h3 h4 h5
/-- a slice of an array behind an address -/
theorem op_arrSlice {t arr e : TypeId} {n : Nat} {x : Operand} {lo hi : Option Operand} {id off : Nat} {t' : TypeId} {xs : List AV} {l h' : Int} (ho : o.op = .slice t x lo hi none) (ht : P.underlying t = some (.pointer arr)) (ha : P.underlying arr = some (.array n e)) (hk : knownT P e = true)
    (hx : s.ev x = .ptr id off) (hb : s.H[id]? = some (.row t' xs)) (hsz : 0 < sizeT P e) (hl : loE (lo.map s.ev) = some l) (hh : hiE n (hi.map s.ev) = some h') (hbd : 0 ≤ l ∧ l ≤ h' ∧ h' ≤ n) (hfit : off + n * sizeT P e ≤ xs.length) (hn : n ≤ maxLen)
    (h : R (.sl id (off + l.toNat * sizeT P e) (h'.toNat - l.toNat) (sizeT P e)) s.H) : OpB P o s R := opB_of fun p w a hR => by
  have hv := hR.ev x
  rw [hx] at hv
  rcases hR.heap.row hb with ⟨h1, h2⟩ | ⟨g, cur, h1, h2, h3, h4⟩
  · obtain ⟨g, hg, _⟩ := hv.2 _ h1; cases hg
  · obtain ⟨g', hg', hve⟩ := hv.2 _ h1
    cases hg'
    have e1 : RepO p w (lo.map a.eval) (lo.map s.ev) := by cases lo <;> first | trivial | exact hR.ev _
    have e2 : RepO p w (hi.map a.eval) (hi.map s.ev) := by cases hi <;> first | trivial | exact hR.ev _
    have hbs := run_bounds (P := P) e1 e2 (isSl := false) hl hh hbd (Nat.le_refl n) w
    refine ⟨.slice (some (if n = l.toNat then ⟨g, off, none⟩ else (⟨g, off, none⟩ : Addr).add (l.toNat * sizeT P e))) (h'.toNat - l.toNat) (n - l.toNat), _, _, p, w, ?_, h, hR.heap, ?_, Step.refl _ _, Below.refl _ _⟩
    · unfold execOp
      rw [ho]
      simp only [Instr.sliceAt, Instr.sureAddr, hve, Sem.run_bind, Sem.run_pure, Result.andThen_ok, Instr.slice, run_underlying ht, run_underlying ha, asAddr, hbs, run_sizeT hk, Option.map_none]
    · have hlt : id < p.n := hv.1
      refine ⟨hlt, fun q hq => ?_⟩
      rw [h1] at hq
      cases hq
      refine ⟨_, _, rfl, by omega, by omega, hsz, (fun h => by cases h), ?_⟩
      by_cases hnl : n = l.toNat
      · left; omega
      · right
        refine ⟨g, rfl, ?_, ?_⟩
        · rw [if_neg hnl, add_none _ rfl]
        · unfold rowSize
          rw [h2]
          have : (n - l.toNat) * sizeT P e + l.toNat * sizeT P e = n * sizeT P e := by rw [← Nat.add_mul]; congr 1; omega
          show _ ≤ cur.size
          omega
/-- the address of the array in a slice -/
theorem op_arrAt {arr e : TypeId} {n : Nat} {x : Operand} {id st len sz : Nat} {t' : TypeId} {xs : List AV} (ho : o.op = .sliceToArrayPointer arr x) (ha : P.underlying arr = some (.array n e)) (hx : s.ev x = .sl id st len sz) (hb : s.H[id]? = some (.row t' xs)) (hn : 0 < n) (hl : n ≤ len)
    (h : R (.ptr id st) s.H) : OpB P o s R := opB_of fun p w a hR => by
  have hv := hR.ev x
  rw [hx] at hv
  obtain ⟨q, hq⟩ := hR.heap.live hb
  obtain ⟨ad, cap, hve, hcap, hcm, hsz, hno, hc⟩ := hv.2 q hq
  rcases hc with hc | ⟨g, rfl, rfl, _⟩
  · omega
  · refine ⟨.pointer (some ⟨g, st, none⟩), _, _, p, w, ?_, h, hR.heap, ⟨hv.1, fun q' hq' => ?_⟩, Step.refl _ _, Below.refl _ _⟩
    · unfold execOp
      rw [ho]
      have : ¬ len < n := by omega
      simp [Instr.arrayAt, run_underlying ha, hve, this]
    · rw [hq] at hq'; cases hq'; exact ⟨g, rfl, rfl⟩
theorem op_arrAtV {arr e : TypeId} {n : Nat} {x : Operand} {len sz : Nat} {cs : List AV} (ho : o.op = .sliceToArrayPointer arr x) (ha : P.underlying arr = some (.array n e)) (hx : s.ev x = .slv len sz cs) (hn : 0 < n) (hl : n ≤ len)
    (h : R (.fptr cs) s.H) : OpB P o s R := opB_of fun p w a hR => by
  have hv := hR.ev x
  rw [hx] at hv
  generalize hq : a.eval x = v at hv
  simp only [Rep, RepT, Rep1, Rep0] at hv
  cases hv with
  | slv oa ad _ cap _ _ vs hoa hlen hcap hcm hsz hc hr =>
    have : oa = some ad := by
      rcases hoa with h1 | ⟨_, h1⟩
      · exact h1
      · omega
    subst this
    refine ⟨.pointer (some ad), _, _, p, w, ?_, h, hR.heap, RepF.rep (.fptr ad cs vs hc hr), Step.refl _ _, Below.refl _ _⟩
    unfold execOp
    rw [ho]
    have : ¬ len < n := by omega
    simp [Instr.arrayAt, run_underlying ha, hq, this]
end
end Go.Proofs.YthcaeofgegfncaaDoor.V
