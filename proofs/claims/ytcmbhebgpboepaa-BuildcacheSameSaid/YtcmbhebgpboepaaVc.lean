/-
  The logic of values: operations that only read. Over any program.
-/
import Derived.Test.YtcmbhebgpboepaaVb
import Derived.Laws.Append
import Derived.Laws.Cells
namespace Go.Proofs.Ytcmbhebgpboepaa.V
open Go Go.RowKit
set_option linter.unusedSimpArgs false
set_option linter.unusedVariables false

theorem exists_list {α : Type} {Pr : Nat → α → Prop} : ∀ (n : Nat), (∀ i, i < n → ∃ u, Pr i u) → ∃ us : List α, us.length = n ∧ ∀ (i : Nat) (h : i < us.length), Pr i us[i]
  | 0, _ => ⟨[], rfl, fun i h => by simp at h⟩
  | n + 1, h => by
    obtain ⟨us, h1, h2⟩ := exists_list n (fun i hi => h i (by omega))
    obtain ⟨u, hu⟩ := h n (by omega)
    refine ⟨us ++ [u], by simp [h1], fun i hi => ?_⟩
    by_cases he : i < us.length
    · rw [List.getElem_append_left he]; exact h2 i he
    · obtain rfl : i = n := by simp at hi; omega
      rw [List.getElem_append_right (by omega)]
      simpa [h1] using hu

/-- conditions, all of which are to hold -/
def allP : List Prop → Prop
  | [] => True
  | [c] => c
  | c :: r => c ∧ allP r
theorem allP_cons {c : Prop} {r : List Prop} : allP (c :: r) ↔ c ∧ allP r := by cases r <;> simp [allP]
theorem allP_append {a b : List Prop} : allP (a ++ b) ↔ allP a ∧ allP b := by
  induction a with
  | nil => simp [allP]
  | cons c r ih => rw [List.cons_append, allP_cons, allP_cons, ih, and_assoc]
/-- a condition that is reckoned out -/
def dec (b : Bool) : List Prop := bif b then [] else [False]
theorem allP_dec {b : Bool} : allP (dec b) ↔ b = true := by cases b <;> simp [dec, allP]
/-- the cells from an address on -/
def cellsAt (H : List Blk) : AV → Option (List AV)
  | .ptr id o => match H[id]? with | some (.row _ xs) => some (xs.drop o) | _ => none
  | .fptr cs => some cs
  | _ => none
def AtAddr (p : Pl) (w : World) (ad : Addr) (cs : List AV) : Prop :=
  ∀ (i : Nat) (h : i < cs.length), ad.spot = none ∧ ad.block < w.heap.size ∧ ∃ u, w.cell? ⟨ad.block, ad.off + i, none⟩ = some u ∧ RepC p w u cs[i]
theorem RepF.rep0 {p : Pl} {w : World} {v : Value} {a : AV} (h : RepF p.M w v a) : Rep0 p w v a := by
  cases h <;> constructor <;> assumption
theorem RepF.rep {p : Pl} {w : World} {v : Value} {a : AV} (h : RepF p.M w v a) : Rep p w v a := by
  cases h
  case fn f => exact ⟨#[], #[], rfl, RepL.nil, RepL.nil⟩
  all_goals (constructor <;> assumption)
theorem Rep0.rep {p : Pl} {w : World} {v : Value} {a : AV} (h : Rep0 p w v a) : Rep p w v a := by
  cases a
  case fn f x y => exact (RepF.rep h)
  case agg cs => cases h
  case tuple cs => cases h
  case cnd g x => cases h
  all_goals exact h
theorem getD_get (cs : List AV) (i : Nat) (h : i < cs.length) : cs.getD i .junk = cs[i] := by simp [List.getD_eq_getElem?_getD, h]
theorem at_fptr {p : Pl} {w : World} {v : Value} {cs : List AV} (h : Rep p w v (.fptr cs)) : ∃ ad, v = .pointer (some ad) ∧ AtAddr p w ad cs := by
  simp only [Rep, RepT, Rep1, Rep0] at h
  cases h with
  | fptr a cells vs hc hr =>
    refine ⟨a, rfl, fun i hi => ?_⟩
    obtain ⟨h1, h2, h3, h4, h5⟩ := hc i hi
    refine ⟨h1, h2, vs i, h4, h5, ?_⟩
    have := (hr i hi).rep0
    rwa [getD_get cs i hi] at this
theorem at_slv {p : Pl} {w : World} {v : Value} {len sz : Nat} {cs : List AV} (h : Rep p w v (.slv len sz cs)) : ∃ oa ad cap, v = .slice oa len cap ∧ (oa = some ad ∨ (oa = none ∧ cap = 0)) ∧ len ≤ cap ∧ cap ≤ maxLen ∧ 0 < sz ∧ cs.length = len * sz ∧ AtAddr p w ad cs := by
  simp only [Rep, RepT, Rep1, Rep0] at h
  cases h with
  | slv oa a len cap sz cells vs ho hl hcap hcm hsz hc hr =>
    refine ⟨oa, a, cap, rfl, ho, hcap, hcm, hsz, hl, fun i hi => ?_⟩
    obtain ⟨h1, h2, h3, h4, h5⟩ := hc i hi
    refine ⟨h1, h2, vs i, h4, h5, ?_⟩
    have := (hr i hi).rep0
    rwa [getD_get cs i hi] at this
theorem RH.row {p H w id t xs} (h : RH p H w) (hb : H[id]? = some (.row t xs)) : (p.at_ id = some none ∧ xs = []) ∨ ∃ g cur, p.at_ id = some (some g) ∧ w.heap[g]? = some (.cells cur t (0, 0)) ∧ xs.length ≤ cur.size ∧
      ∀ (i : Nat) (h : i < xs.length), ∃ v, cur[i]? = some v ∧ RepC p w v xs[i] := by
  obtain ⟨hl, he⟩ := List.getElem?_eq_some_iff.1 hb
  have := h.blk id hl
  rw [he] at this
  exact this
theorem RH.live {p H w id t xs} (h : RH p H w) (hb : H[id]? = some (.row t xs)) : ∃ q, p.at_ id = some q := by
  rcases h.row hb with ⟨h1, _⟩ | ⟨g, _, h1, _⟩ <;> exact ⟨_, h1⟩
theorem cellsAt_rep {p : Pl} {H : List Blk} {w : World} {v : Value} {a : AV} {cs : List AV} (hH : RH p H w) (h : Rep p w v a) (hc : cellsAt H a = some cs) : ∃ ad, v = .pointer (some ad) ∧ AtAddr p w ad cs := by
  unfold cellsAt at hc
  split at hc
  · rename_i id o
    split at hc
    · rename_i t xs hb
      cases hc
      rcases hH.row hb with ⟨h1, _⟩ | ⟨g, cur, h1, h2, h3, h4⟩
      · obtain ⟨g, hg, _⟩ := h.2 _ h1; cases hg
      · obtain ⟨g', hg', rfl⟩ := h.2 _ h1
        cases hg'
        refine ⟨_, rfl, fun i hi => ⟨rfl, (Array.getElem?_eq_some_iff.1 h2).1, ?_⟩⟩
        simp only [List.length_drop] at hi
        obtain ⟨u, hu, hr⟩ := h4 (o + i) (by omega)
        refine ⟨u, ?_, by rw [List.getElem_drop]; exact hr⟩
        simp only [World.cell?, h2, Option.isSome_none, Bool.false_eq_true, if_false]
        exact hu
    · cases hc
  · cases hc; exact at_fptr h
  · cases hc

theorem AtAddr.drop {p : Pl} {w : World} {ad : Addr} {cs : List AV} (h : AtAddr p w ad cs) (n : Nat) : AtAddr p w (ad.add n) (cs.drop n) := by
  intro i hi
  simp only [List.length_drop] at hi
  obtain ⟨h1, h2, u, h3, h4⟩ := h (n + i) (by omega)
  have he : ad.add n = ⟨ad.block, ad.off + n, none⟩ := by
    unfold Addr.add
    split
    · rename_i h0; subst h0; cases ad; simp_all
    · rfl
  rw [he, List.getElem_drop]
  exact ⟨rfl, h2, u, by rw [Nat.add_assoc]; exact h3, h4⟩
theorem AtAddr.take {p : Pl} {w : World} {ad : Addr} {cs : List AV} (h : AtAddr p w ad cs) (n : Nat) : AtAddr p w ad (cs.take n) := by
  intro i hi
  simp only [List.length_take] at hi
  rw [List.getElem_take]
  exact h i (by omega)
theorem add_none (ad : Addr) (h : ad.spot = none) (n : Nat) : ad.add n = ⟨ad.block, ad.off + n, none⟩ := by
  unfold Addr.add
  split
  · rename_i h0; subst h0; cases ad; simp_all
  · rfl
/-- the cells, as a list of values -/
theorem AtAddr.list {p : Pl} {w : World} {ad : Addr} {cs : List AV} (h : AtAddr p w ad cs) : ∃ us : List Value, RepL (RepC p w) us cs ∧ ∀ w', Below w.heap.size w w' → ∀ j v, us[j]? = some v → w'.cell? (ad.add j) = some v := by
  obtain ⟨us, h1, h2⟩ := exists_list (Pr := fun i u => ∀ (h : i < cs.length), ad.spot = none ∧ ad.block < w.heap.size ∧ w.cell? ⟨ad.block, ad.off + i, none⟩ = some u ∧ RepC p w u cs[i]) cs.length (fun i hi => by
    obtain ⟨a1, a2, u, a3, a4⟩ := h i hi
    exact ⟨u, fun _ => ⟨a1, a2, a3, a4⟩⟩)
  refine ⟨us, ⟨h1, fun i hi hi' => (h2 i hi hi').2.2.2⟩, fun w' hb j v hj => ?_⟩
  obtain ⟨hl, he⟩ := List.getElem?_eq_some_iff.1 hj
  obtain ⟨a1, a2, a3, _⟩ := h2 j hl (by rw [← h1]; exact hl)
  rw [add_none ad a1, ← he, hb.cell (p := ⟨ad.block, ad.off + j, none⟩) a2]
  exact a3
theorem RepL.agg {p : Pl} {w : World} {us : List Value} {cs : List AV} (h : RepL (RepC p w) us cs) : Rep p w (.agg us.toArray) (.agg cs) := ⟨us.toArray, rfl, by simpa using h⟩

def isAggT (P : Program) (t : TypeId) : Bool := match P.underlying t with | some (.struct _) => true | some (.array _ _) => true | _ => false
def sizeT (P : Program) (t : TypeId) : Nat := match P.info? t with | some i => i.size | none => 0
def knownT (P : Program) (t : TypeId) : Bool := (P.info? t).isSome && (P.underlying t).isSome
theorem run_isAgg {P : Program} {t : TypeId} (h : knownT P t = true) (w : World) : (isAgg t).run P w = .ok (isAggT P t) w := by
  unfold knownT at h
  simp only [Bool.and_eq_true, Option.isSome_iff_exists] at h
  obtain ⟨_, d, hd⟩ := h
  unfold isAgg isAggT
  simp only [Sem.run_bind, run_underlying hd, Result.andThen_ok, hd]
  cases d <;> rfl
theorem run_sizeT {P : Program} {t : TypeId} (h : knownT P t = true) (w : World) : (sizeOf t).run P w = .ok (sizeT P t) w := by
  unfold knownT at h
  simp only [Bool.and_eq_true, Option.isSome_iff_exists] at h
  obtain ⟨⟨i, hi⟩, _⟩ := h
  simp [sizeOf, typeInfo, sizeT, hi]

def Rd (P : Program) (p : Pl) (w : World) (s : Sem Value) (x : AV) : Prop := ∃ v, Rep p w v x ∧ ∀ w', Below w.heap.size w w' → s.run P w' = .ok v w'

/-! ### load -/
def loadE (P : Program) (t : TypeId) (cs : List AV) : AV := bif isAggT P t then .agg (cs.take (sizeT P t)) else cs.headD .junk
theorem load_rd {P : Program} {p : Pl} {H : List Blk} {w : World} {v : Value} {a : AV} {cs : List AV} {t : TypeId} (hH : RH p H w) (h : Rep p w v a) (hc : cellsAt H a = some cs) (hk : knownT P t = true) (hl : (bif isAggT P t then sizeT P t else 1) ≤ cs.length) :
    Rd P p w (Instr.loadAt t v) (loadE P t cs) := by
  obtain ⟨ad, rfl, hat⟩ := cellsAt_rep hH h hc
  unfold loadE
  cases ha : isAggT P t with
  | true =>
    rw [ha] at hl
    simp only [cond_true] at hl ⊢
    obtain ⟨us, h1, h2⟩ := (hat.take (sizeT P t)).list
    refine ⟨.agg us.toArray, h1.agg, fun w' hb => ?_⟩
    have hlen : us.length = sizeT P t := by rw [h1.1, List.length_take]; omega
    have hload := run_loadCells_list (P := P) w' ad us (h2 w' hb)
    rw [hlen] at hload
    simp [Instr.loadAt, Instr.sureAddr, loadVar, run_isAgg hk, ha, run_sizeT hk, hload]
  | false =>
    rw [ha] at hl
    simp only [cond_false] at hl ⊢
    obtain ⟨h1, h2, u, h3, h4⟩ := hat 0 (by omega)
    have hh : cs.headD .junk = cs[0] := by
      cases cs with
      | nil => simp at hl
      | cons x r => rfl
    rw [hh]
    refine ⟨u, h4.2.rep, fun w' hb => ?_⟩
    have hcell : w'.cell? ad = some u := by
      rw [← h3, ← hb.cell (p := ⟨ad.block, ad.off + 0, none⟩) h2]
      cases ad; simp_all
    have hload : (load ad).run P w' = .ok u w' := by
      unfold load
      simp only [Sem.run, hcell]
    simp only [Instr.loadAt, Instr.sureAddr, loadVar, Sem.run_bind, Sem.run_pure, Result.andThen_ok, run_isAgg hk, ha, Bool.false_eq_true, if_false, hload]

/-! ### addresses -/
def fieldOf (P : Program) (s : TypeId) (f : Nat) : Option Field := match P.underlying s with | some (.struct fs) => fs[f]? | _ => none
def addAV (a : AV) (n : Nat) : AV := match a with | .ptr id o => .ptr id (o + n) | .fptr cs => .fptr (cs.drop n) | _ => .junk
def isAddr : AV → Bool | .ptr _ _ | .fptr _ => true | _ => false
theorem RepF.fptr_of {p : Pl} {w : World} {ad : Addr} {cs : List AV} (h : RepF p.M w (.pointer (some ad)) (.fptr cs)) (n : Nat) : RepF p.M w (.pointer (some (ad.add n))) (.fptr (cs.drop n)) := by
  cases h with
  | fptr a cells vs hc hr =>
    refine .fptr _ _ (fun i => vs (n + i)) (fun i hi => ?_) (fun i hi => ?_)
    · simp only [List.length_drop] at hi
      obtain ⟨h1, h2, h3, h4, h5⟩ := hc (n + i) (by omega)
      rw [add_none ad h1]
      exact ⟨rfl, h2, h3, by rw [Nat.add_assoc]; exact h4, h5⟩
    · simp only [List.length_drop] at hi
      have := hr (n + i) (by omega)
      rwa [getD_get _ _ (by omega), ← List.getElem_drop (h := by rw [List.length_drop]; omega), ← getD_get] at this
theorem add_rep {p : Pl} {w : World} {v : Value} {a : AV} (h : Rep p w v a) (ha : isAddr a = true) (hlive : ∀ id o, a = .ptr id o → ∃ q, p.at_ id = some q) (n : Nat) : ∃ ad, v = .pointer (some ad) ∧ Rep p w (.pointer (some (ad.add n))) (addAV a n) := by
  cases a <;> simp [isAddr] at ha
  case ptr id o =>
    obtain ⟨g, hg⟩ := hlive id o rfl
    obtain ⟨g0, rfl, rfl⟩ := h.2 g hg
    refine ⟨_, rfl, h.1, fun q' hq' => ?_⟩
    rw [hg] at hq'
    cases hq'
    exact ⟨g0, rfl, by rw [add_none _ rfl]⟩
  case fptr cs =>
    have h' : RepF p.M w v (.fptr cs) := h
    obtain ⟨ad, rfl, _⟩ := at_fptr h
    exact ⟨ad, rfl, (h'.fptr_of n).rep⟩
def liveAddr (H : List Blk) : AV → Bool
  | .ptr id _ => match H[id]? with | some (.row _ _) => true | _ => false
  | .fptr _ => true
  | _ => false
theorem liveAddr_spec {p : Pl} {H : List Blk} {w : World} {a : AV} (hH : RH p H w) (h : liveAddr H a = true) : isAddr a = true ∧ ∀ id o, a = .ptr id o → ∃ q, p.at_ id = some q := by
  unfold liveAddr at h
  split at h
  · rename_i id o
    split at h
    · rename_i t xs hb
      obtain ⟨q, h1⟩ := hH.live hb
      exact ⟨rfl, fun id' o' he => by cases he; exact ⟨q, h1⟩⟩
    · cases h
  · exact ⟨rfl, fun id' o' he => by cases he⟩
  · cases h
theorem fieldAddr_rd {P : Program} {p : Pl} {H : List Blk} {w : World} {v : Value} {a : AV} {s : TypeId} {f : Nat} {fd : Field} (hH : RH p H w) (h : Rep p w v a) (hl : liveAddr H a = true) (hf : fieldOf P s f = some fd) (hk : knownT P fd.type = true) (hz : sizeT P fd.type ≠ 0) :
    Rd P p w (Instr.fieldAt s v f) (addAV a fd.offset) := by
  obtain ⟨h1, h2⟩ := liveAddr_spec hH hl
  obtain ⟨ad, rfl, hr⟩ := add_rep h h1 h2 fd.offset
  refine ⟨_, hr, fun w' _ => ?_⟩
  unfold fieldOf at hf
  split at hf
  · rename_i fs hu
    simp [Instr.fieldAt, run_underlying hu, hf, Instr.sureAddr, fieldPlace, run_sizeT hk, hz]
  · cases hf
/-- 'x[i]' of a slice, or through an array's address -/
def elemTy (P : Program) (t : TypeId) : TypeId := match P.underlying t with | some (.slice e) => e | some (.array _ e) => e | _ => 0
def indexAddrE (P : Program) (H : List Blk) (t : TypeId) (x : AV) (i : Int) : List Prop × AV :=
  match P.underlying t, x with
  | some (.slice e), .slv len sz cs => ((0 ≤ i ∧ i < len) :: dec (knownT P e && sizeT P e == sz), .fptr (cs.drop (i.toNat * sz)))
  | some (.slice e), .sl id st len sz => ((0 ≤ i ∧ i < len) :: dec (knownT P e && (sizeT P e == sz && (match H[id]? with | some (.row _ _) => true | _ => false))), .ptr id (st + i.toNat * sz))
  | some (.array n e), a => ((0 ≤ i ∧ i < n) :: dec (knownT P e && liveAddr H a), addAV a (i.toNat * sizeT P e))
  | _, _ => ([False], .junk)
theorem indexAddr_rd {P : Program} {p : Pl} {H : List Blk} {w : World} {v : Value} {x : AV} {t : TypeId} {k : IntKind} {i : Int} (hH : RH p H w) (h : Rep p w v x) (hok : allP (indexAddrE P H t x i).1) :
    Rd P p w (Instr.indexAt t v (.int k i)) (indexAddrE P H t x i).2 := by
  unfold indexAddrE at hok ⊢
  split at hok
  · rename_i e len sz cs hu
    simp only [hu]
    rw [allP_cons, allP_dec] at hok
    obtain ⟨⟨h0, h1⟩, h2⟩ := hok
    simp only [Bool.and_eq_true, beq_iff_eq] at h2
    have h' : RepF p.M w v (.slv len sz cs) := h
    cases h' with
    | slv oa a len cap sz cells vs ho hl hcap hcm hsz hc hr =>
      have hi : i.toNat < len := by omega
      obtain rfl : oa = some a := ho.resolve_right (fun hq => by omega)
      have hlt : i.toNat * sz < cs.length := by
        have : (i.toNat + 1) * sz ≤ len * sz := Nat.mul_le_mul_right _ hi
        rw [Nat.succ_mul] at this; omega
      have hf : RepF p.M w (.pointer (some a)) (.fptr cs) := .fptr a cs vs hc hr
      refine ⟨_, (hf.fptr_of (i.toNat * sz)).rep, fun w' _ => ?_⟩
      simp [Instr.indexAt, asIntOf, run_underlying hu, h0, h1, run_sizeT h2.1, h2.2]
  · rename_i e id st len sz hu
    simp only [hu]
    rw [allP_cons, allP_dec] at hok
    obtain ⟨⟨h0, h1⟩, h2⟩ := hok
    simp only [Bool.and_eq_true, beq_iff_eq] at h2
    obtain ⟨h2, h3, h4⟩ := h2
    split at h4
    · rename_i t' xs hb
      obtain ⟨q, hg⟩ := hH.live hb
      obtain ⟨a, cap, rfl, hcap, hcm, hsz, _, ha⟩ := h.2 q hg
      rcases ha with ha | ⟨g, rfl, rfl, ha⟩
      · omega
      · refine ⟨.pointer (some ⟨g, st + i.toNat * sz, none⟩), ⟨h.1, fun g' hg' => ?_⟩, fun w' _ => ?_⟩
        · rw [hg] at hg'; cases hg'; exact ⟨g, rfl, rfl⟩
        · simp [Instr.indexAt, asIntOf, run_underlying hu, h0, h1, run_sizeT h2, h3, add_none]
    · cases h4
  · rename_i n e hu
    simp only [hu]
    rw [allP_cons, allP_dec] at hok
    obtain ⟨⟨h0, h1⟩, h2⟩ := hok
    simp only [Bool.and_eq_true] at h2
    obtain ⟨h3, h4⟩ := liveAddr_spec hH h2.2
    obtain ⟨ad, rfl, hr⟩ := add_rep h h3 h4 (i.toNat * sizeT P e)
    refine ⟨_, hr, fun w' _ => ?_⟩
    simp [Instr.indexAt, asIntOf, run_underlying hu, Instr.sureAddr, h0, h1, run_sizeT h2.1]
  · exact hok.elim
/-! ### parts of values -/
def partE (P : Program) (t : TypeId) (cs : List AV) (off : Nat) : AV := bif isAggT P t then .agg ((cs.drop off).take (sizeT P t)) else cs.getD off .junk
theorem part_rd {P : Program} {p : Pl} {w : World} {vs : Array Value} {cs : List AV} {t : TypeId} {off : Nat} (h : RepL (RepC p w) vs.toList cs) (hk : knownT P t = true) (ho : off < cs.length) :
    Rd P p w (part t vs off) (partE P t cs off) := by
  unfold partE
  cases ha : isAggT P t with
  | true =>
    refine ⟨.agg (vs.extract off (off + sizeT P t)), ⟨_, rfl, ?_⟩, fun w' _ => by simp [part, run_isAgg hk, ha, run_sizeT hk]⟩
    rw [Array.toList_extract, List.extract_eq_take_drop]
    simp only [Nat.add_sub_cancel_left]
    exact (h.drop off).take _
  | false =>
    have hv : off < vs.toList.length := by rw [h.1]; exact ho
    refine ⟨vs[off]'(by simpa using hv), ?_, fun w' _ => ?_⟩
    · rw [cond_false, getD_get _ _ ho]
      have := (h.2 off hv ho).2.rep
      simpa using this
    · simp [part, run_isAgg hk, ha, Array.getElem?_eq_getElem (show off < vs.size by simpa using hv)]
theorem field_rd {P : Program} {p : Pl} {w : World} {v : Value} {cs : List AV} {s : TypeId} {f : Nat} {fd : Field} (h : Rep p w v (.agg cs)) (hf : fieldOf P s f = some fd) (hk : knownT P fd.type = true) (ho : fd.offset < cs.length) :
    Rd P p w (Instr.field s v f) (partE P fd.type cs fd.offset) := by
  obtain ⟨vs, rfl, hl⟩ := h
  obtain ⟨u, h1, h2⟩ := part_rd (P := P) (t := fd.type) hl hk ho
  refine ⟨u, h1, fun w' hb => ?_⟩
  unfold fieldOf at hf
  split at hf
  · rename_i fs hu
    simp [Instr.field, run_underlying hu, hf, asAgg, h2 w' hb]
  · cases hf
def byteAt (s : ByteArray) (i : Int) : Int := ((s.data.getD i.toNat 0).toNat : Int)
theorem index_str_rd {P : Program} {p : Pl} {w : World} {v : Value} {s : ByteArray} {t : TypeId} {k : IntKind} {i : Int} (h : Rep p w v (.str s)) (ht : P.underlying t = some .string) (h0 : 0 ≤ i ∧ i < s.size) :
    Rd P p w (Instr.index t v (.int k i)) (.int .u8 (byteAt s i)) := by
  have h' : RepF p.M w v (.str s) := h
  cases h'
  have hi : i.toNat < s.size := by omega
  have hi' : i.toNat < s.data.size := hi
  refine ⟨_, RepF.rep (.int _ _), fun w' _ => ?_⟩
  have h1 : s[i.toNat]? = some s[i.toNat] := by simp [hi]
  have h2 : byteAt s i = (s[i.toNat].toNat : Int) := by
    unfold byteAt
    rw [Array.getD_eq_getD_getElem?, Array.getElem?_eq_getElem hi']
    rfl
  simp only [Instr.index, asIntOf, Sem.run_bind, Sem.run_pure, Result.andThen_ok, run_underlying ht, if_pos h0.1, h1, h2]
theorem index_agg_rd {P : Program} {p : Pl} {w : World} {v : Value} {cs : List AV} {t e : TypeId} {n : Nat} {k : IntKind} {i : Int} (h : Rep p w v (.agg cs)) (ht : P.underlying t = some (.array n e)) (h0 : 0 ≤ i ∧ i < n) (hk : knownT P e = true) (ho : i.toNat * sizeT P e < cs.length) :
    Rd P p w (Instr.index t v (.int k i)) (partE P e cs (i.toNat * sizeT P e)) := by
  obtain ⟨vs, rfl, hl⟩ := h
  obtain ⟨u, h1, h2⟩ := part_rd (P := P) (t := e) hl hk ho
  refine ⟨u, h1, fun w' hb => ?_⟩
  simp [Instr.index, asIntOf, run_underlying ht, h0, run_sizeT hk, h2 w' hb]
theorem rep1_tuple {p : Pl} {w : World} {v : Value} {ys : List AV} (h : Rep1 p w v (.tuple ys)) : False := by
  simp only [Rep1, Rep0] at h; cases h
theorem rep1_cnd {p : Pl} {w : World} {v : Value} {g : Bool} {x : AV} (h : Rep1 p w v (.cnd g x)) : False := by
  simp only [Rep1, Rep0] at h; cases h
theorem extract_rd {P : Program} {p : Pl} {w : World} {v : Value} {xs : List AV} {i : Nat} (h : Rep p w v (.tuple xs)) (hi : i < xs.length) : Rd P p w (Instr.extract v i) (xs.getD i .junk) := by
  obtain ⟨vs, rfl, hl⟩ := h
  have hv : i < vs.toList.length := by rw [hl.1]; exact hi
  refine ⟨vs[i]'(by simpa using hv), ?_, fun w' _ => ?_⟩
  · rw [getD_get _ _ hi]
    have := hl.2 i hv hi
    have h2 : Rep1 p w (vs[i]'(by simpa using hv)) xs[i] := by simpa using this
    cases hx : xs[i]
    case tuple ys => rw [hx] at h2; exact (rep1_tuple h2).elim
    case cnd g x => rw [hx] at h2; exact (rep1_cnd h2).elim
    all_goals (rw [hx] at h2; exact h2)
  · simp [Instr.extract, Array.getElem?_eq_getElem (show i < vs.size by simpa using hv)]
end Go.Proofs.Ytcmbhebgpboepaa.V
