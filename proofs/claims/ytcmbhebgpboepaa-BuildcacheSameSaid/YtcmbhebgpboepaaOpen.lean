/-
  What is read of an argument of a plain type, cell by cell: general facts, over any program.
-/
import Derived.Test.YtcmbhebgpboepaaLib
import Derived.Deep.Slices
namespace Go.Proofs.Ytcmbhebgpboepaa
open Go.RowKit Go.Deep
set_option linter.unusedSimpArgs false
set_option linter.unusedVariables false

def leafsOf (P : Program) (sub : TypeId → Option (List TypeId)) : List Field → Nat → Nat → Option (List TypeId)
  | [], at_, total => if at_ = total then some [] else none
  | f :: fs, at_, total =>
    (sub f.type).bind fun l => if f.offset = at_ ∧ P.cellsOf f.type = l.length then (leafsOf P sub fs (at_ + l.length) total).map (l ++ ·) else none
/-- the types of the cells of a type: arrays and structs laid flat; every other type is one cell of its own -/
def leafs (P : Program) : Nat → TypeId → Option (List TypeId)
  | 0, _ => none
  | n + 1, t =>
    match P.underlying t with
    | some (.array len e) =>
      (leafs P n e).bind fun l => if P.cellsOf e = l.length ∧ P.cellsOf t = len * l.length then some ((List.replicate len l).flatten) else none
    | some (.struct fs) => leafsOf P (leafs P n) fs.toList 0 (P.cellsOf t)
    | _ => if P.cellsOf t = 1 then some [t] else none

section
variable {H : Type} {enc : TypeId × Value → H} {P : Program} {w : World} {base : Nat} {spare : Nat → Bool} {held : Bool}

/-- a cell reads as its type -/
def LeafOk (enc : TypeId × Value → H) (P : Program) (w : World) (base : Nat) (spare : Nat → Bool) (held : Bool) (t : TypeId) (v : Value) : Prop := ∃ m y, DataW.trod enc P w base spare held m t [v] = some y
def LeafsOk (enc : TypeId × Value → H) (P : Program) (w : World) (base : Nat) (spare : Nat → Bool) (held : Bool) (ts : List TypeId) (cs : List Value) : Prop :=
  cs.length = ts.length ∧ ∀ i (h : i < ts.length) (h' : i < cs.length), LeafOk enc P w base spare held ts[i] cs[i]
theorem LeafsOk.nil : LeafsOk enc P w base spare held [] [] := ⟨rfl, fun i h => by simp at h⟩
theorem LeafsOk.append {a b : List TypeId} {x y : List Value} (h1 : LeafsOk enc P w base spare held a x) (h2 : LeafsOk enc P w base spare held b y) : LeafsOk enc P w base spare held (a ++ b) (x ++ y) := by
  refine ⟨by rw [List.length_append, List.length_append, h1.1, h2.1], fun i h h' => ?_⟩
  by_cases hi : i < a.length
  · rw [List.getElem_append_left hi, List.getElem_append_left (by rw [h1.1]; exact hi)]
    exact h1.2 i hi _
  · rw [List.getElem_append_right (by omega), List.getElem_append_right (by rw [h1.1]; omega)]
    simp only [h1.1]
    exact h2.2 _ _ _
theorem LeafsOk.flatten (l : List TypeId) : ∀ (n : Nat) (cs : List Value), cs.length = n * l.length → (∀ i, i < n → LeafsOk enc P w base spare held l ((cs.drop (i * l.length)).take l.length)) →
    LeafsOk enc P w base spare held (List.replicate n l).flatten cs
  | 0, cs, h, _ => by
    obtain rfl : cs = [] := List.eq_nil_of_length_eq_zero (by rw [h]; omega)
    exact LeafsOk.nil
  | n + 1, cs, h, hx => by
    rw [List.replicate_succ, List.flatten_cons]
    have h0 := hx 0 (by omega)
    rw [Nat.zero_mul, List.drop_zero] at h0
    have hr := LeafsOk.flatten l n (cs.drop l.length) (by rw [List.length_drop, h, Nat.add_mul]; omega) (fun i hi => by
      have := hx (i + 1) (by omega)
      rw [List.drop_drop]
      rwa [show l.length + i * l.length = (i + 1) * l.length by rw [Nat.add_mul]; omega])
    have := h0.append hr
    rwa [List.take_append_drop] at this

theorem leafs_trod : ∀ (n : Nat) (t : TypeId) (ts : List TypeId), leafs P n t = some ts → ∀ (fuel : Nat) (cs : List Value) (x : DataW H × List MemPlace), DataW.trod enc P w base spare held fuel t cs = some x → cs.length = P.cellsOf t →
    LeafsOk enc P w base spare held ts cs := by
  intro n
  induction n with
  | zero => intro t ts h; simp [leafs] at h
  | succ n ih =>
    intro t ts h fuel cs x hx hlen
    unfold leafs at h
    split at h
    · rename_i len e ht
      obtain ⟨l, hl, h⟩ := Option.bind_eq_some_iff.1 h
      split at h
      · rename_i hc
        cases h
        obtain ⟨xs, m, _, _, _, hxl, hel⟩ := DataW.trod_array ht hx
        refine LeafsOk.flatten l len cs (by rw [hlen, hc.2]) (fun i hi => ?_)
        have h1 := hel i hi
        rw [List.getElem?_eq_getElem (by omega), hc.1] at h1
        refine ih e l hl m _ _ h1 ?_
        have : (i + 1) * l.length ≤ len * l.length := Nat.mul_le_mul_right _ hi
        rw [Nat.add_mul] at this
        rw [List.length_take, List.length_drop, hlen, hc.1, hc.2]
        omega
      · cases h
    · rename_i fs ht
      obtain ⟨xs, m, _, _, _, hxl, hfl⟩ := DataW.trod_struct ht hx
      have key : ∀ (r : List Field) (done : Nat) (at_ : Nat) (ts : List TypeId), fs.toList.drop done = r → done + r.length = fs.size → leafsOf P (leafs P n) r at_ (P.cellsOf t) = some ts → at_ ≤ cs.length →
          LeafsOk enc P w base spare held ts (cs.drop at_) := by
        intro r
        induction r with
        | nil =>
          intro done at_ ts _ _ h hat
          unfold leafsOf at h
          split at h
          · rename_i he
            cases h
            rw [List.drop_of_length_le (by omega)]
            exact LeafsOk.nil
          · cases h
        | cons f r ih2 =>
          intro done at_ ts hd hs h hat
          unfold leafsOf at h
          obtain ⟨l, hl, h⟩ := Option.bind_eq_some_iff.1 h
          split at h
          · rename_i hc
            obtain ⟨ts', h2, rfl⟩ := Option.map_eq_some_iff.1 h
            have hf : fs[done]? = some f := by
              have : (fs.toList.drop done)[0]? = some f := by rw [hd]; rfl
              rw [List.getElem?_drop] at this
              simpa using this
            have h1 := hfl done f hf
            rw [List.getElem?_eq_getElem (by rw [hxl]; have := (Array.getElem?_eq_some_iff.1 hf).1; exact this), hc.1, hc.2] at h1
            have hlt : ((cs.drop at_).take l.length).length = l.length := by
              -- the rest of the leaves fills what is left
              have hle : ∀ (r : List Field) (a : Nat) (ts : List TypeId), leafsOf P (leafs P n) r a (P.cellsOf t) = some ts → a ≤ P.cellsOf t := by
                intro r
                induction r with
                | nil => intro a ts h; unfold leafsOf at h; split at h <;> simp_all
                | cons g r ih3 =>
                  intro a ts h
                  unfold leafsOf at h
                  obtain ⟨l, _, h⟩ := Option.bind_eq_some_iff.1 h
                  split at h
                  · obtain ⟨ts', h2, _⟩ := Option.map_eq_some_iff.1 h
                    have := ih3 _ _ h2; omega
                  · cases h
              have := hle r _ _ h2
              rw [List.length_take, List.length_drop, hlen]; omega
            have a1 := ih f.type l hl m _ _ h1 (by rw [hlt, hc.2])
            have hle2 : at_ + l.length ≤ cs.length := by rw [List.length_take, List.length_drop] at hlt; omega
            have a2 := ih2 (done + 1) (at_ + l.length) ts' (by rw [← List.drop_drop, hd]; rfl) (by simp only [List.length_cons] at hs; omega) h2 hle2
            have := a1.append a2
            rw [← List.drop_drop, List.take_append_drop] at this
            exact this
          · cases h
      have := key fs.toList 0 0 ts rfl (by simp) h (Nat.zero_le _)
      rwa [List.drop_zero] at this
    · split at h
      · rename_i hc
        cases h
        match cs, hlen with
        | [v], _ => exact ⟨rfl, fun i h1 h2 => by
            have : i = 0 := by simpa using h1
            subst this
            exact ⟨fuel, x, hx⟩⟩
        | [], hl => rw [hc] at hl; cases hl
        | _ :: _ :: _, hl => rw [hc] at hl; simp at hl
      · cases h

theorem LeafOk.int {t : TypeId} {k : IntKind} {v : Value} (ht : P.underlying t = some (.int k)) (h : LeafOk enc P w base spare held t v) : ∃ n, v = .int k n ∧ (Lit.int k n).wf = true := by
  obtain ⟨m, y, h⟩ := h
  obtain ⟨n, h1, _, h2⟩ := DataW.trod_int ht h
  exact ⟨n, by simpa using h1, h2⟩
theorem LeafOk.string {t : TypeId} {v : Value} (ht : P.underlying t = some .string) (h : LeafOk enc P w base spare held t v) : ∃ s : ByteArray, v = .string s ∧ s.size ≤ maxLen := by
  obtain ⟨m, y, h⟩ := h
  obtain ⟨s, h1, _, h2⟩ := DataW.trod_string ht h
  exact ⟨s, by simpa using h1, h2⟩
theorem flat_get {α : Type} (f : Nat → List α) (n size : Nat) (h : ∀ i, i < n → (f i).length = size) :
    ((List.range n).flatMap f).length = n * size ∧ ∀ i, i < n → ∀ j, j < size → ((List.range n).flatMap f)[i * size + j]? = (f i)[j]? := by
  induction n with
  | zero => exact ⟨by simp, fun i hi => by omega⟩
  | succ n ih =>
    obtain ⟨h1, h2⟩ := ih (fun i hi => h i (by omega))
    rw [List.range_succ, List.flatMap_append, List.flatMap_singleton]
    refine ⟨by rw [List.length_append, h1, h n (by omega), Nat.add_mul, Nat.one_mul], fun i hi j hj => ?_⟩
    by_cases hin : i < n
    · have : i * size + j < n * size := by
        have : (i + 1) * size ≤ n * size := Nat.mul_le_mul_right _ hin
        rw [Nat.add_mul] at this; omega
      rw [List.getElem?_append_left (by rw [h1]; exact this)]
      exact h2 i hin j hj
    · obtain rfl : i = n := by omega
      rw [List.getElem?_append_right (by rw [h1]; omega), h1]
      congr 1
      omega
/-- a slice that came in, of a plain element type -/
theorem open_leafs {t e : TypeId} {n : Nat} {ts : List TypeId} (hT : leafs P n e = some ts) (ht : P.underlying t = some (.slice e)) (hsz : P.cellsOf e = ts.length) (hpos : 0 < ts.length) {a : Option Addr} {len cap : Nat} {d : DataW H} {ps : List MemPlace}
    (h : DataW.Trod enc P w base spare held t (.slice a len cap) d ps) :
    len ≤ cap ∧ cap ≤ maxLen ∧ (a = none → cap = 0) ∧ ∃ vs : List Value, vs.length = len * ts.length ∧ RowV w a vs ∧ ∀ i, i < len → ∀ j (hj : j < ts.length) (hij : i * ts.length + j < vs.length), LeafOk enc P w base spare held ts[j] vs[i * ts.length + j] := by
  obtain ⟨fuel, hf⟩ := h
  rcases open_slice ht hf with ⟨hcs, _⟩ | ⟨x, l, c, m, k, D, Pl, hcs, _, hl, hm, hmm, _, hel⟩
  · simp [Value.cells] at hcs
    obtain ⟨rfl, rfl, rfl⟩ := hcs
    exact ⟨Nat.le_refl _, by omega, fun _ => rfl, [], by simp, RowV.nil _ _, fun i hi => by omega⟩
  · simp [Value.cells] at hcs
    obtain ⟨rfl, rfl, rfl⟩ := hcs
    have hlm : len ≤ m := by rw [hmm]; split <;> omega
    refine ⟨hl, hm, (fun h => by cases h), ?_⟩
    -- every element's cells, chosen
    have each : ∀ i, i < len → ∃ cs' : List Value, LeafsOk enc P w base spare held ts cs' ∧ ∀ j, j < ts.length → w.cell? (x.add (i * ts.length + j)) = cs'[j]? := by
      intro i hi
      obtain ⟨cs', h1, h2⟩ := hel i (by omega)
      obtain ⟨_, hlen, hcell⟩ := World.cells?_some h1
      refine ⟨cs', leafs_trod n e ts hT k cs' _ h2 hlen, fun j hj => ?_⟩
      have := hcell j (by rw [hsz]; exact hj)
      rw [hsz, Deep.add_add] at this
      exact this
    obtain ⟨f, hfx⟩ := Deep.choose_lt each
    obtain ⟨g1, g2⟩ := flat_get f len ts.length (fun i hi => (hfx i hi).1.1)
    refine ⟨(List.range len).flatMap f, g1, ?_, fun i hi j hj hij => ?_⟩
    · by_cases h0 : len = 0
      · subst h0; exact Or.inl rfl
      · obtain ⟨b, off, spot⟩ := x
        have c0 := (hfx 0 (by omega)).2 0 hpos
        rw [List.getElem?_eq_getElem (by rw [(hfx 0 (by omega)).1.1]; exact hpos)] at c0
        have hspot : spot = none := by simpa [Addr.add] using World.cell?_spot c0
        subst hspot
        refine Or.inr ⟨b, off, rfl, by have := cell_lt c0; simpa [Addr.add] using this, fun q hq => ?_⟩
        rw [g1] at hq
        have hqd : q / ts.length < len := Nat.div_lt_of_lt_mul (by rw [Nat.mul_comm]; exact hq)
        have hqm : q % ts.length < ts.length := Nat.mod_lt _ hpos
        have e : q / ts.length * ts.length + q % ts.length = q := Nat.div_add_mod' q ts.length
        have h1 := (hfx _ hqd).2 _ hqm
        have h2 := g2 _ hqd _ hqm
        rw [e] at h1 h2
        rw [add_plain] at h1
        rw [h1, ← h2, List.getElem?_eq_getElem (by rw [g1]; exact hq)]
    · have h2 := g2 i hi j hj
      have hj' : j < (f i).length := by rw [(hfx i hi).1.1]; exact hj
      rw [List.getElem?_eq_getElem hij, List.getElem?_eq_getElem hj', Option.some.injEq] at h2
      rw [h2]
      exact (hfx i hi).1.2 j hj hj'

/-- what is known of a value of a plain type that came in (no pointer, no map): n levels deep -/
def Good (P : Program) (w : World) : Nat → TypeId → Value → Prop
  | 0, _, _ => True
  | n + 1, t, v =>
    match P.underlying t with
    | some (.int k) => ∃ z, v = .int k z ∧ (Lit.int k z).wf = true
    | some .string => ∃ s : ByteArray, v = .string s ∧ s.size ≤ maxLen
    | some .bool => ∃ b, v = .bool b
    | some (.slice e) => ∃ a len cap, v = .slice a len cap ∧ len ≤ cap ∧ cap ≤ maxLen ∧ (a = none → cap = 0) ∧
        ∀ ts, leafs P 8 e = some ts → P.cellsOf e = ts.length → 0 < ts.length →
          ∃ vs : List Value, vs.length = len * ts.length ∧ RowV w a vs ∧ ∀ i, i < len → ∀ j (hj : j < ts.length) (hij : i * ts.length + j < vs.length), Good P w n ts[j] vs[i * ts.length + j]
    | _ => True
theorem good_of_leaf : ∀ (n : Nat) (t : TypeId) (v : Value), LeafOk enc P w base spare held t v → Good P w n t v := by
  intro n
  induction n with
  | zero => intro t v _; trivial
  | succ n ih =>
    intro t v h
    unfold Good
    split
    · rename_i k ht; exact h.int ht
    · rename_i ht; exact h.string ht
    · rename_i ht
      obtain ⟨m, y, h⟩ := h
      obtain ⟨q, h1, _⟩ := DataW.trod_bool ht h
      exact ⟨q, by simpa using h1⟩
    · rename_i e ht
      obtain ⟨m, y, hf⟩ := h
      have hT : ∃ a len cap, v = .slice a len cap := by
        rcases open_slice ht hf with ⟨hcs, _⟩ | ⟨x, l, c, _, _, _, _, hcs, _⟩
        · exact ⟨none, 0, 0, by simpa using hcs⟩
        · exact ⟨some x, l, c, by simpa using hcs⟩
      obtain ⟨a, len, cap, rfl⟩ := hT
      have hcap : len ≤ cap ∧ cap ≤ maxLen ∧ (a = none → cap = 0) := by
        rcases open_slice ht hf with ⟨hcs, _⟩ | ⟨x, l, c, _, _, _, _, hcs, _, hl, hm, _⟩
        · simp at hcs; obtain ⟨rfl, rfl, rfl⟩ := hcs; exact ⟨Nat.le_refl _, by omega, fun _ => rfl⟩
        · simp at hcs; obtain ⟨rfl, rfl, rfl⟩ := hcs; exact ⟨hl, hm, (fun h => by cases h)⟩
      refine ⟨a, len, cap, rfl, hcap.1, hcap.2.1, hcap.2.2, fun ts hts hsz hpos => ?_⟩
      obtain ⟨_, _, _, vs, h1, h2, h3⟩ := open_leafs (enc := enc) (d := y.1) (ps := y.2) hts ht hsz hpos ⟨m, hf⟩
      refine ⟨vs, h1, h2, fun i hi j hj hij => ih _ _ (h3 i hi j hj hij)⟩
    · trivial

/-- what is known of an argument of a plain type -/
def Arg (P : Program) (w : World) (t : TypeId) (v : Value) : Prop :=
  match P.underlying t with
  | some (.struct _) | some (.array _ _) => ∃ cs : List Value, v = .agg cs.toArray ∧ ∀ ts, leafs P 8 t = some ts → cs.length = ts.length ∧ ∀ i (h : i < ts.length) (h' : i < cs.length), Good P w 8 ts[i] cs[i]
  | _ => Good P w 8 t v
theorem arg_of {r : Reach} {b0 : Nat} {t : TypeId} {v : Value} {d : DataW H} {ps : List MemPlace} (hval : Value.okWide P w r b0 t v) (hd : DataW.Trod enc P w base spare held t v d ps) : Arg P w t v := by
  have agg : ∀ cs : Array Value, v = .agg cs → cs.size = P.cellsOf t → ∃ cs : List Value, v = .agg cs.toArray ∧ ∀ ts, leafs P 8 t = some ts → cs.length = ts.length ∧ ∀ i (h : i < ts.length) (h' : i < cs.length), Good P w 8 ts[i] cs[i] := by
    intro cs hv hsz
    subst hv
    obtain ⟨fuel, hf⟩ := hd
    refine ⟨cs.toList, by simp, fun ts hts => ?_⟩
    have := leafs_trod 8 t ts hts fuel _ _ hf (by simpa [Value.cells] using hsz)
    exact ⟨this.1, fun i h h' => good_of_leaf 8 _ _ (this.2 i h h')⟩
  have cell : Cell.okWide P w r b0 t v → Good P w 8 t v := by
    intro hc
    obtain ⟨fuel, hf⟩ := hd
    by_cases ha : ∃ cs, v = .agg cs
    · obtain ⟨cs, rfl⟩ := ha
      simp only [Cell.okWide] at hc
      unfold Good
      split <;> simp_all [Cell.ok]
    · have hcells : v.cells.toList = [v] := by cases v <;> first | rfl | exact absurd ⟨_, rfl⟩ ha
      exact good_of_leaf 8 t v ⟨fuel, _, by rw [← hcells]; exact hf⟩
  unfold Arg
  simp only [Value.okWide] at hval
  split
  · rename_i fs ht; rw [ht] at hval; obtain ⟨cs, h1, h2, _⟩ := hval; exact agg cs h1 h2
  · rename_i n e ht; rw [ht] at hval; obtain ⟨cs, h1, h2, _⟩ := hval; exact agg cs h1 h2
  · rename_i h1 h2
    refine cell ?_
    split at hval
    · rename_i fs ht; exact absurd ht (h1 _)
    · rename_i n e ht; exact absurd ht (h2 _ _)
    · exact hval
end

section
variable {P : Program} {w : World}
theorem Arg.int {t : TypeId} {k : IntKind} {v : Value} (ht : P.underlying t = some (.int k)) (h : Arg P w t v) : ∃ z, v = .int k z ∧ (Lit.int k z).wf = true := by
  unfold Arg at h; rw [ht] at h; unfold Good at h; rw [ht] at h; exact h
theorem Arg.string {t : TypeId} {v : Value} (ht : P.underlying t = some .string) (h : Arg P w t v) : ∃ s : ByteArray, v = .string s ∧ s.size ≤ maxLen := by
  unfold Arg at h; rw [ht] at h; unfold Good at h; rw [ht] at h; exact h
theorem Arg.bool {t : TypeId} {v : Value} (ht : P.underlying t = some .bool) (h : Arg P w t v) : ∃ b, v = .bool b := by
  unfold Arg at h; rw [ht] at h; unfold Good at h; rw [ht] at h; exact h
/-- a slice: its row of cells, and what is known of each -/
theorem Good.slice {t e : TypeId} {n : Nat} {v : Value} {ts : List TypeId} (ht : P.underlying t = some (.slice e)) (hT : leafs P 8 e = some ts) (hsz : P.cellsOf e = ts.length) (hpos : 0 < ts.length) (h : Good P w (n + 1) t v) :
    ∃ a len cap, v = .slice a len cap ∧ len ≤ cap ∧ cap ≤ maxLen ∧ (a = none → cap = 0) ∧ ∃ vs : List Value, vs.length = len * ts.length ∧ RowV w a vs ∧
      ∀ i, i < len → ∀ j (hj : j < ts.length) (hij : i * ts.length + j < vs.length), Good P w n ts[j] vs[i * ts.length + j] := by
  unfold Good at h
  rw [ht] at h
  obtain ⟨a, len, cap, h1, h2, h3, h4, h5⟩ := h
  exact ⟨a, len, cap, h1, h2, h3, h4, h5 ts hT hsz hpos⟩
theorem Arg.slice {t e : TypeId} {v : Value} {ts : List TypeId} (ht : P.underlying t = some (.slice e)) (hT : leafs P 8 e = some ts) (hsz : P.cellsOf e = ts.length) (hpos : 0 < ts.length) (h : Arg P w t v) :
    ∃ a len cap, v = .slice a len cap ∧ len ≤ cap ∧ cap ≤ maxLen ∧ (a = none → cap = 0) ∧ ∃ vs : List Value, vs.length = len * ts.length ∧ RowV w a vs ∧
      ∀ i, i < len → ∀ j (hj : j < ts.length) (hij : i * ts.length + j < vs.length), Good P w 7 ts[j] vs[i * ts.length + j] := by
  unfold Arg at h; rw [ht] at h; exact Good.slice ht hT hsz hpos h
theorem ints_of {k : IntKind} : ∀ (vs : List Value), (∀ v ∈ vs, ∃ z, v = .int k z ∧ (Lit.int k z).wf = true) → ∃ zs : List Int, vs = zs.map (.int k) ∧ ∀ z ∈ zs, (Lit.int k z).wf = true
  | [], _ => ⟨[], rfl, fun z h => by cases h⟩
  | v :: r, h => by
    obtain ⟨z, rfl, hz⟩ := h v (List.mem_cons_self)
    obtain ⟨zs, rfl, hzs⟩ := ints_of r (fun u hu => h u (List.mem_cons_of_mem _ hu))
    exact ⟨z :: zs, rfl, fun x hx => by rcases List.mem_cons.1 hx with rfl | hx <;> first | exact hz | exact hzs x hx⟩
/-- a slice whose elements are arrays of n integers of one kind (n = 1: integers) -/
theorem Arg.ints {t e el : TypeId} {k : IntKind} {n : Nat} {v : Value} (ht : P.underlying t = some (.slice e)) (hT : leafs P 8 e = some (List.replicate n el)) (hel : P.underlying el = some (.int k)) (hsz : P.cellsOf e = n) (hpos : 0 < n) (h : Arg P w t v) :
    ∃ a len cap, v = .slice a len cap ∧ len ≤ cap ∧ cap ≤ maxLen ∧ (a = none → cap = 0) ∧ ∃ zs : List Int, zs.length = len * n ∧ RowV w a (zs.map (.int k)) ∧ ∀ z ∈ zs, (Lit.int k z).wf = true := by
  obtain ⟨a, len, cap, h1, h2, h3, h4, vs, h5, h6, h7⟩ := Arg.slice ht hT (by simpa using hsz) (by simpa using hpos) h
  rw [List.length_replicate] at h5
  refine ⟨a, len, cap, h1, h2, h3, h4, ?_⟩
  obtain ⟨zs, rfl, hz⟩ := ints_of (k := k) vs (fun v hv => by
    obtain ⟨q, hq, rfl⟩ := List.mem_iff_getElem.1 hv
    have hqd : q / n < len := Nat.div_lt_of_lt_mul (by rw [Nat.mul_comm, ← h5]; exact hq)
    have hqm : q % n < n := Nat.mod_lt _ hpos
    have e : q / n * n + q % n = q := Nat.div_add_mod' q n
    have := h7 (q / n) hqd (q % n) (by rw [List.length_replicate]; exact hqm) (by rw [List.length_replicate, e]; exact hq)
    simp only [List.length_replicate, e, List.getElem_replicate] at this
    unfold Good at this
    rw [hel] at this
    exact this)
  exact ⟨zs, by simpa using h5, h6, hz⟩
end
end Go.Proofs.Ytcmbhebgpboepaa
