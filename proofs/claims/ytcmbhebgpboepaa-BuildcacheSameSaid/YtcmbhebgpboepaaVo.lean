/-
  From the contracts on worlds to those on values, and back: rows of plain cells.
-/
import Derived.Test.YtcmbhebgpboepaaVn
import Derived.Test.YtcmbhebgpboepaaRowE
namespace Go.Proofs.Ytcmbhebgpboepaa.V
open Go Go.RowKit
set_option linter.unusedSimpArgs false
set_option linter.unusedVariables false

/-- a plain cell, as the model has it -/
def plainV : AV → Option Value
  | .bool b => some (.bool b)
  | .int k n => some (.int k n)
  | .str s => some (.string s)
  | _ => none
theorem plain_repF {M : Nat → Prop} {w : World} {v u : Value} {x : AV} (h : plainV x = some u) (hr : RepF M w v x) : v = u := by
  cases hr <;> simp [plainV] at h <;> exact h
theorem plain_mk {M : Nat → Prop} {w : World} {u : Value} {x : AV} (h : plainV x = some u) : RepF M w u x := by
  cases x <;> simp [plainV] at h <;> subst h <;> constructor
/-- a type's cells, in both forms -/
def PairE {α : Type} (enc : α → List Value) (encA : α → List AV) : Prop := ∀ x, (encA x).map plainV = (enc x).map some
section
variable {α : Type} {enc : α → List Value} {encA : α → List AV} {size : Nat}
theorem flat_pair (hE : PairE enc encA) (l : List α) : (flatA encA l).map plainV = (flatE enc l).map some := by
  induction l with
  | nil => rfl
  | cons x r ih => rw [flatA_cons, flatE_cons, List.map_append, List.map_append, ih, hE]
theorem flat_at (hE : PairE enc encA) (l : List α) (i : Nat) (h : i < (flatE enc l).length) : plainV ((flatA encA l).getD i .junk) = some (flatE enc l)[i] := by
  have h1 := congrArg (fun z => z[i]?) (flat_pair hE l)
  simp only [List.getElem?_map, List.getElem?_eq_getElem h, Option.map_some] at h1
  rw [List.getD_eq_getElem?_getD]
  cases h2 : (flatA encA l)[i]? with
  | none => rw [h2] at h1; cases h1
  | some x => rw [h2] at h1; simpa using h1
theorem flat_len (hE : PairE enc encA) (l : List α) : (flatA encA l).length = (flatE enc l).length := by
  have := congrArg List.length (flat_pair hE l)
  simpa using this
/-- a value that nobody writes, read as a row -/
theorem row_of_rep (hE : PairE enc encA) (E : Enc enc size) {p : Pl} {w : World} {v : Value} {l : List α} (h : Rep p w v (.slv l.length size (flatA encA l))) (hs : l.length ≤ 1000000000) :
    ∃ a cap, v = .slice a l.length cap ∧ RowE enc w a l.length cap l ∧ cap ≤ maxLen := by
  have h' : RepF p.M w v (.slv l.length size (flatA encA l)) := h
  cases h' with
  | slv oa a len cap sz cells vs ho hl hcap hcm hsz hc hr =>
    refine ⟨oa, cap, rfl, ⟨rfl, hs, hcap, fun hn => ?_, ?_⟩, hcm⟩
    · rcases ho with ho | ho
      · rw [hn] at ho; cases ho
      · exact ho.2
    · rcases Nat.eq_zero_or_pos l.length with h0 | h0
      · left
        rw [List.eq_nil_of_length_eq_zero h0]; rfl
      · right
        have hoa : oa = some a := by
          rcases ho with ho | ho
          · exact ho
          · omega
        have hll : 0 < (flatA encA l).length := by rw [hl]; exact Nat.mul_pos h0 E.pos
        obtain ⟨b, off, sp⟩ := a
        obtain ⟨hsp, hb, _, _, _⟩ := hc 0 hll
        simp only at hsp hb
        subst hsp
        refine ⟨b, off, hoa, hb, fun i hi => ?_⟩
        have hi' : i < (flatA encA l).length := by rw [flat_len hE]; exact hi
        obtain ⟨_, _, _, h4, _⟩ := hc i hi'
        have := hr i hi'
        rw [h4, plain_repF (flat_at hE l i hi) this]
/-- a row that nobody of the run's own writes, as a value -/
theorem rep_of_rowV (hE : PairE enc encA) (E : Enc enc size) {p : Pl} {w : World} {a : Option Addr} {len cap : Nat} {l : List α} (hlen : l.length = len) (hge : len ≤ cap) (hnil : a = none → cap = 0) (hrow : RowV w a (flatE enc l)) (hcm : cap ≤ maxLen) (hM : ∀ x : Addr, a = some x → ¬ p.M x.block) :
    Rep p w (.slice a len cap) (.slv len size (flatA encA l)) := by
  subst hlen
  have hfl : (flatA encA l).length = l.length * size := by rw [flat_len hE, flatE_length E]
  show RepF p.M w _ _
  cases a with
  | none =>
    have h0 := hnil rfl
    have hz : l.length = 0 := by omega
    refine .slv none ⟨0, 0, none⟩ _ cap size _ (fun _ => .bool false) (Or.inr ⟨rfl, h0⟩) hfl hge hcm E.pos (fun i hi => ?_) (fun i hi => ?_) <;> (rw [hfl, hz] at hi; omega)
  | some x =>
    refine .slv (some x) x _ cap size _ (fun i => (flatE enc l)[i]?.getD (.bool false)) (Or.inl rfl) hfl hge hcm E.pos (fun i hi => ?_) (fun i hi => ?_)
    · have hi' : i < (flatE enc l).length := by rw [← flat_len hE]; exact hi
      obtain ⟨b, off, h1, h2, h3⟩ := hrow.addr (by omega)
      cases h1
      refine ⟨rfl, h2, hM _ rfl, ?_, ?_⟩ <;> simp only [List.getElem?_eq_getElem hi', Option.getD_some]
      · exact h3 i hi'
      · exact flatE_oneCell E l _ (List.getElem_mem hi')
    · have hi' : i < (flatE enc l).length := by rw [← flat_len hE]; exact hi
      simp only [List.getElem?_eq_getElem hi', Option.getD_some]
      exact plain_mk (flat_at hE l i hi')
theorem rep_of_row (hE : PairE enc encA) (E : Enc enc size) {p : Pl} {w : World} {a : Option Addr} {len cap : Nat} {l : List α} (h : RowE enc w a len cap l) (hcm : cap ≤ maxLen) (hM : ∀ x : Addr, a = some x → ¬ p.M x.block) :
    Rep p w (.slice a len cap) (.slv len size (flatA encA l)) := rep_of_rowV hE E h.len_eq h.cap_ge h.nilcap h.row hcm hM
/-- a row of cells, as a list of what they stand for -/
theorem rows_of (good : α → Prop) : ∀ (len : Nat) (vs : List Value), vs.length = len * size → (∀ i, i < len → ∃ x, (vs.drop (i * size)).take size = enc x ∧ good x) → ∃ xs : List α, xs.length = len ∧ vs = flatE enc xs ∧ ∀ x ∈ xs, good x
  | 0, vs, h, _ => by
    obtain rfl := List.eq_nil_of_length_eq_zero (l := vs) (by rw [h]; omega)
    exact ⟨[], rfl, rfl, fun x hx => by cases hx⟩
  | len + 1, vs, h, hx => by
    obtain ⟨x, h1, h2⟩ := hx 0 (by omega)
    obtain ⟨xs, h3, h4, h5⟩ := rows_of good len (vs.drop size) (by rw [List.length_drop, h, Nat.succ_mul]; omega) (fun i hi => by
      obtain ⟨y, hy, hg⟩ := hx (i + 1) (by omega)
      exact ⟨y, by rw [List.drop_drop, ← hy, show size + i * size = (i + 1) * size by rw [Nat.succ_mul]; omega], hg⟩)
    refine ⟨x :: xs, by simp [h3], ?_, fun y hy => ?_⟩
    · rw [flatE_cons, ← h4, ← h1, Nat.zero_mul, List.drop_zero, List.take_append_drop]
    · rcases List.mem_cons.1 hy with rfl | hy
      · exact h2
      · exact h5 y hy
/-- a fresh row, as a value -/
theorem rep_of_own (hE : PairE enc encA) (E : Enc enc size) {t : TypeId} {p : Pl} {w : World} {base : Nat} {v : Value} {l : List α} (h : OwnE enc t size w base v l) (hs : l.length ≤ 1000000000) (hM : ∀ g, base ≤ g → ¬ p.M g) :
    Rep p w v (.slv l.length size (flatA encA l)) := by
  have h' := h
  obtain ⟨a, cap, rfl, hr⟩ := h.rowE hs
  obtain ⟨_, ⟨h1, h2⟩ | ⟨g, c, cur, h1, hb, _, _, hcm, _⟩⟩ := h'
  · simp only [Value.slice.injEq] at h1
    obtain ⟨rfl, _, rfl⟩ := h1
    exact rep_of_row hE E hr (by unfold maxLen; omega) (fun x hx => by cases hx)
  · cases h1
    exact rep_of_row hE E hr hcm (fun x hx => by cases hx; exact hM _ hb)
end
/-- the places before a run's own begin -/
def pl0 : Pl := ⟨0, fun _ => none, fun _ => False⟩
theorem pl0_M (g : Nat) : ¬ pl0.M g := by rintro (⟨id, h⟩ | h) <;> cases h
theorem pl0_RH (w : World) : RH pl0 [] w := ⟨rfl, fun _ _ => rfl, fun _ _ _ h => (by cases h), fun id h => absurd h (by simp), fun g (hg : False) => hg.elim⟩
/-- a contract on values gives one on worlds -/
theorem CallsV.calls {P : Program} {f : FuncId} {args : List AV} {R : AV → List Blk → Prop} (h : CallsV P f args [] R) {w : World} {vals : Array Value} (hv : RepL (Rep pl0 w) vals.toList args) :
    Calls P f vals w fun e w' => ∃ v av H' p', e = .returned v ∧ R av H' ∧ Rep p' w' v av ∧ Below w.heap.size w w' := by
  have hown0 : ∀ g, ¬ pl0.own g := fun g ⟨id, hid⟩ => by cases hid
  refine (h _ w vals (pl0_RH w) hv).mono ?_
  rintro e w' ⟨v, av, H', p', rfl, hR, _, hr, hS⟩
  exact ⟨v, av, H', p', rfl, hR, hr, hS.os, hS.tape, hS.output, hS.size, fun g hg => hS.froz g hg (hown0 g)⟩
/-- a contract on worlds of a function that writes nothing that stood gives one on values -/
theorem CallsV.of_calls {P : Program} {f : FuncId} {args : List AV} {R : AV → Prop}
    (h : ∀ (p : Pl) (w : World) (vals : Array Value), (∀ g, p.M g → g < w.heap.size) → RepL (Rep p w) vals.toList args → Calls P f vals w fun e w' => ∃ v, e = .returned v ∧ Below w.heap.size w w' ∧ ∃ av, Rep p w' v av ∧ R av) :
    CallsV P f args [] fun av H' => R av ∧ H' = [] := by
  intro p w vals hH hv
  refine (h p w vals (fun g hg => hg.elim (hH.lt g) fun hx => (hH.xs g hx).1) hv).mono ?_
  rintro e w' ⟨v, rfl, hB, av, hr, hR⟩
  exact ⟨v, av, [], p, rfl, ⟨hR, rfl⟩, hH.below hB, hr, Step.of_below hB hH.lt⟩
end Go.Proofs.Ytcmbhebgpboepaa.V
