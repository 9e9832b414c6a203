/-
  The logic of values: stores, append, slice literals, calls, entering a function. Over any program.
-/
import Derived.Test.YtcmbhebgpboepaaVg
namespace Go.Proofs.Ytcmbhebgpboepaa.V
open Go Go.RowKit
set_option linter.unusedSimpArgs false
set_option linter.unusedVariables false

theorem row_pre {R : Value → AV → Prop} {cur : Array Value} {xs : List AV} (hl : xs.length ≤ cur.size) (h : ∀ (i : Nat) (h : i < xs.length), ∃ v, cur[i]? = some v ∧ R v xs[i]) : RepL R (cur.toList.take xs.length) xs := by
  have hcl : cur.toList.length = cur.size := Array.length_toList
  refine ⟨by rw [List.length_take]; omega, fun i h1 h2 => ?_⟩
  obtain ⟨v, h3, h4⟩ := h i h2
  rw [List.getElem_take]
  have : cur.toList[i]'(by omega) = v := by
    obtain ⟨_, h5⟩ := Array.getElem?_eq_some_iff.1 h3
    simpa using h5
  rw [this]; exact h4
theorem pre_row {R : Value → AV → Prop} {cur : Array Value} {xs : List AV} (h : RepL R (cur.toList.take xs.length) xs) : xs.length ≤ cur.size ∧ ∀ (i : Nat) (h : i < xs.length), ∃ v, cur[i]? = some v ∧ R v xs[i] := by
  have hcl : cur.toList.length = cur.size := Array.length_toList
  have hl : xs.length ≤ cur.size := by have := h.1; rw [List.length_take] at this; omega
  refine ⟨hl, fun i hi => ⟨cur[i]'(by omega), by simp, ?_⟩⟩
  have := h.2 i (by rw [h.1]; exact hi) hi
  rw [List.getElem_take] at this
  simpa using this
theorem splice_take (L V : List Value) (o n : Nat) (h : o + V.length ≤ n) (hn : n ≤ L.length) : (L.take o ++ V ++ L.drop (o + V.length)).take n = (L.take n).take o ++ V ++ (L.take n).drop (o + V.length) := by
  rw [List.take_append, List.take_append]
  simp only [List.length_append, List.length_take]
  rw [List.take_take, Nat.min_eq_left (show o ≤ L.length by omega), List.take_take, Nat.min_eq_right (show o ≤ n by omega), Nat.min_eq_left (show o ≤ n by omega), List.take_of_length_le (l := V) (by omega), List.drop_take]
/-- a row of the run's own, written anew in its place -/
theorem set_ok {p : Pl} {H : List Blk} {w : World} (hH : RH p H w) {id g : Nat} {t : TypeId} {xs xs' : List AV} {cur cur' : Array Value} (hb : H[id]? = some (.row t xs)) (hg : p.at_ id = some (some g)) (hc : w.heap[g]? = some (.cells cur t (0, 0))) (hs : cur'.size = cur.size)
    (hx : RepL (RepC p w) (cur'.toList.take xs'.length) xs') : RH p (H.set id (.row t xs')) (w.setRow g cur') ∧ Step p w p (w.setRow g cur') := by
  have hst : Step p w p (w.setRow g cur') := by
    refine ⟨rfl, rfl, rfl, by simp [World.setRow], Nat.le_refl _, fun j q _ hq => ⟨hq, fun g' hg' => ?_⟩, fun _ _ h => h, fun g' hg' hm => setRow_other w g g' cur' (fun he => hm (he ▸ ⟨id, hg⟩)), rfl⟩
    unfold rowSize
    by_cases he : g' = g
    · subst he; rw [setRow_heap w g' cur cur' t (0, 0) hc, hc]; exact hs
    · rw [setRow_other w g g' cur' he]
  obtain ⟨hl, _⟩ := List.getElem?_eq_some_iff.1 hb
  refine ⟨⟨by rw [List.length_set]; exact hH.n, hH.out, hH.inj, fun j hj => ?_, fun g' hg' => ⟨Nat.lt_of_lt_of_le (hH.xs g' hg').1 hst.size, (hH.xs g' hg').2⟩⟩, hst⟩
  rw [List.getElem_set]
  split
  · rename_i he
    subst he
    obtain ⟨h1, h2⟩ := pre_row hx
    exact Or.inr ⟨g, cur', hg, setRow_heap w g cur cur' t (0, 0) hc, h1, fun i hi => let ⟨v, a, b⟩ := h2 i hi; ⟨v, a, b.step hst⟩⟩
  · rename_i he
    exact (hH.blk j (by rw [List.length_set] at hj; exact hj)).step hst rfl fun g' hg' => setRow_other w g g' cur' (fun h => he (hH.inj _ _ _ hg (h ▸ hg')))
section
variable {P : Program} {s : St} {o : Oper} {R : AV → List Blk → Prop}
theorem opV_of (hstep : ∀ p w a, Rst p s a w → ∃ n v x H' p' w', (execOp a.eval o).run P w = .ok n w' ∧ (n = .value v ∨ (n = .skip ∧ v = undef)) ∧ R x H' ∧ RH p' H' w' ∧ Rep p' w' v x ∧ Step p w p' w') : OpV P o s R := fun p w a K Q hR hK => by
  obtain ⟨n, v, x, H', p', w', h1, h0, h2, h3, h4, h5⟩ := hstep p w a hR
  unfold Oper.wp
  rw [h1]
  rcases h0 with rfl | ⟨rfl, rfl⟩ <;> exact hK _ x H' p' w' h2 h3 h4 h5
/-- a store through the address of a block of the run's own -/
theorem op_store {t t' : TypeId} {x y : Operand} {id off : Nat} {xs cs : List AV} (ho : o.op = .store t x y) (hx : s.ev x = .ptr id off) (hb : s.H[id]? = some (.row t' xs)) (hc : cellsAV s.H (s.ev y) = some cs)
    (hk : knownT P t = true ∧ sizeT P t = cs.length) (hl : off + cs.length ≤ xs.length) (h : R .junk (s.H.set id (.row t' (xs.take off ++ cs ++ xs.drop (off + cs.length))))) : OpV P o s R := opV_of fun p w a hR => by
  have hcs := cells_rep hR.heap (hR.ev y) hc
  have hv := hR.ev x
  rw [hx] at hv
  rcases hR.heap.row hb with ⟨h1, _⟩ | ⟨g, cur, h1, h2, h3, h4⟩
  · obtain ⟨g, hg, _⟩ := hv.2 _ h1; cases hg
  · obtain ⟨g', hg', hve⟩ := hv.2 _ h1
    cases hg'
    have hlen : (a.eval y).cells.size = cs.length := by simpa using hcs.1
    have hst := run_storeCells_at P g off t' (a.eval y).cells.toList 0 cur w h2 (by simp [hlen]; omega) (fun u hu => by
      obtain ⟨i, hi, rfl⟩ := List.mem_iff_getElem.1 hu
      exact (hcs.2 i hi (by rw [← hcs.1]; exact hi)).1)
    simp only [Nat.add_zero, Array.length_toList, hlen] at hst
    have hpre := row_pre h3 h4
    have hnew : RepL (RepC p w) ((cur.toList.take off ++ (a.eval y).cells.toList ++ cur.toList.drop (off + cs.length)).take (xs.take off ++ cs ++ xs.drop (off + cs.length)).length) (xs.take off ++ cs ++ xs.drop (off + cs.length)) := by
      have hll : (xs.take off ++ cs ++ xs.drop (off + cs.length)).length = xs.length := by simp; omega
      have h5 : (a.eval y).cells.toList.length = cs.length := hcs.1
      have := splice_take cur.toList (a.eval y).cells.toList off xs.length (by rw [h5]; exact hl) (by simpa using h3)
      rw [h5] at this
      rw [hll, this]
      exact ((hpre.take off).append hcs).append (hpre.drop _)
    obtain ⟨h6, h7⟩ := set_ok hR.heap (xs' := xs.take off ++ cs ++ xs.drop (off + cs.length)) (cur' := (cur.toList.take off ++ (a.eval y).cells.toList ++ cur.toList.drop (off + cs.length)).toArray) hb h1 h2 (by simp [hlen]; omega) (by simpa only [List.toList_toArray] using hnew)
    refine ⟨.skip, undef, .junk, _, _, _, ?_, Or.inr ⟨rfl, rfl⟩, h, h6, trivial, h7⟩
    unfold execOp
    rw [ho]
    simp [Instr.storeAt, hve, Instr.sureAddr, storeVar, run_sizeT hk.1, hk.2, hlen, hst]

/-! ### append -/
def SrcOf (p : Pl) (w : World) (u : Value) (m sz : Nat) (ys : List AV) : Prop :=
  ∃ b c, u = .slice b m c ∧ ∃ news : List Value, RepL (RepC p w) news ys ∧ news.length = m * sz ∧ (m = 0 ∨ ∃ ad, b = some ad ∧ ∀ j v, news[j]? = some v → w.cell? (ad.add j) = some v)
theorem run_append_zero {P : Program} (w : World) (t ty e : TypeId) (i : TypeInfo) (ht : P.underlying t = some (.slice e)) (hi : P.info? e = some i) (a b : Option Addr) (len cap c : Nat) (hl : len ≤ cap) :
    (Builtin.append_ #[t, t] ty #[.slice a len cap, .slice b 0 c]).run P w = .ok (.slice a len cap) w := by
  cases a <;> cases b <;> simp [Builtin.append_, run_underlying ht, sizeOf, typeInfo, hi, Builtin.lenOf, Builtin.firstCells, loadCells, loadCellsFrom, hl, storeCells]
theorem append_core {p : Pl} {H : List Blk} {w : World} (hH : RH p H w) {t ty e : TypeId} {i : TypeInfo} {z : Value} (ht : P.underlying t = some (.slice e)) (hi : P.info? e = some i) (hz : i.zero = some z) (hzs : z.cells.size = i.size) (hsz : 0 < i.size)
    {v u : Value} {x : AV} {k : Option Nat} {len m : Nat} {xs ys : List AV} (hx : Rep p w v x)
    (hxs : (x = .nilsl ∧ k = none ∧ len = 0 ∧ xs = []) ∨ ∃ id r, x = .sl id 0 len i.size ∧ k = some id ∧ H[id]? = some (.row e r) ∧ xs = r.take (len * i.size) ∧ len * i.size ≤ r.length)
    (hy : SrcOf p w u m i.size ys) (hb : (len + m) * i.bytes ≤ 140737488355328) (hm : len + m ≤ maxLen) :
    ∃ v' w' q, (Builtin.append_ #[t, t] ty #[v, u]).run P w = .ok v' w' ∧ RH (p.mv k q) (killB H k ++ [.row e (xs ++ ys)]) w' ∧ Step p w (p.mv k q) w' ∧ Rep (p.mv k q) w' v' (.sl H.length 0 (len + m) i.size) := by
  obtain ⟨b, c, rfl, news, hn1, hn2, hn3⟩ := hy
  have hyl : ys.length = m * i.size := by rw [← hn1.1]; exact hn2
  have hsm : ((len + m : Nat) : Int) ≤ 9223372036854775807 := by simp only [maxLen] at hm; omega
  have hat : ∀ q, (p.mv k q).at_ H.length = some q := fun q => by simp [Pl.mv, hH.n]
  have hnn : H.length < (p.mv k none).n := by simp [Pl.mv, hH.n]
  -- the row that is appended to
  have hv : ∃ a cap, v = .slice a len cap ∧ len ≤ cap ∧ cap ≤ maxLen ∧ (a = none → cap = 0) ∧ xs.length = len * i.size ∧
      ((cap = 0 ∧ (∀ g, (∃ id, k = some id ∧ p.at_ id = some (some g)) → True)) ∨ ∃ g id cur, k = some id ∧ p.at_ id = some (some g) ∧ a = some ⟨g, 0, none⟩ ∧ cap * i.size ≤ cur.size ∧ w.heap[g]? = some (.cells cur e (0, 0)) ∧ RepL (RepC p w) (cur.toList.take (len * i.size)) xs) := by
    rcases hxs with ⟨rfl, rfl, rfl, rfl⟩ | ⟨id, r, rfl, rfl, hr, rfl, hrl⟩
    · exact ⟨none, 0, rep_nilsl hx, Nat.le_refl _, by omega, fun _ => rfl, by simp, Or.inl ⟨rfl, fun _ _ => trivial⟩⟩
    · obtain ⟨q, hq⟩ := hH.live hr
      obtain ⟨a, cap, h1, h2, h3, _, h4, h5⟩ := hx.2 q hq
      refine ⟨a, cap, h1, h2, h3, h4, by rw [List.length_take]; omega, ?_⟩
      rcases h5 with h5 | ⟨g, rfl, h6, h7⟩
      · exact Or.inl ⟨h5, fun _ _ => trivial⟩
      · rcases hH.row hr with ⟨h8, _⟩ | ⟨g', cur, h8, h9, h10, h11⟩
        · rw [hq] at h8; cases h8
        · rw [hq] at h8
          cases h8
          refine Or.inr ⟨g, id, cur, rfl, hq, h6, ?_, h9, ?_⟩
          · unfold rowSize at h7; rw [h9] at h7; simpa using h7
          · have := (row_pre h10 h11).take (len * i.size)
            rw [List.take_take, Nat.min_eq_left hrl] at this
            exact this
  obtain ⟨a, cap, rfl, h2, h3, h4, hxl, h5⟩ := hv
  have slRep : ∀ (q : Option Nat) (w' : World) (a' : Option Addr) (cap' : Nat), len + m ≤ cap' → cap' ≤ maxLen → (a' = none → cap' = 0) → (cap' = 0 ∨ ∃ g, q = some g ∧ a' = some ⟨g, 0, none⟩ ∧ cap' * i.size ≤ rowSize w' g) → Rep (p.mv k q) w' (.slice a' (len + m) cap') (.sl H.length 0 (len + m) i.size) := fun q w' a' cap' e1 e2 e3 e4 => by
    refine ⟨by simp [Pl.mv, hH.n], fun q' hq' => ?_⟩
    rw [hat] at hq'
    cases hq'
    exact ⟨a', cap', rfl, e1, e2, hsz, e3, e4.imp (fun h => h) fun ⟨g, f1, f2, f3⟩ => ⟨g, f1, f2, by omega⟩⟩
  by_cases hm0 : m = 0
  · -- nothing is appended
    subst hm0
    have hys : ys = [] := List.eq_nil_of_length_eq_zero (by simpa using hyl)
    subst hys
    have hrun := run_append_zero (P := P) w t ty e i ht hi a b len cap c h2
    rcases h5 with ⟨hc0, _⟩ | ⟨g, id, cur, h6, h7, h8, h9, h10, h11⟩
    · have hl0 : len = 0 := by omega
      subst hl0
      have hxs0 : xs = [] := List.eq_nil_of_length_eq_zero (by simpa using hxl)
      subst hxs0
      obtain ⟨r1, r2⟩ := mv_ok hH k none e ([] ++ []) rfl rfl rfl (Nat.le_refl _) (fun _ _ _ => rfl) (fun g hg => by cases hg) (Or.inl ⟨rfl, rfl⟩)
      exact ⟨_, w, none, hrun, r1, r2, slRep none w a cap (by omega) h3 h4 (Or.inl hc0)⟩
    · have hcs : len * i.size ≤ cur.size := Nat.le_trans (Nat.mul_le_mul_right _ h2) h9
      obtain ⟨r1, r2⟩ := mv_ok hH k (some g) e (xs ++ []) rfl rfl rfl (Nat.le_refl _) (fun _ _ _ => rfl) (fun g' hg => by cases hg; exact Or.inr ⟨id, h6, h7⟩)
        (Or.inr ⟨g, cur, rfl, h10, by rw [List.append_nil, hxl]; exact hcs, (pre_row (by rw [List.append_nil, hxl]; exact h11)).2⟩)
      exact ⟨_, w, some g, hrun, r1, r2, slRep (some g) w a cap (by omega) h3 h4 (Or.inr ⟨g, rfl, h8, by unfold rowSize; rw [h10]; exact h9⟩)⟩
  · obtain ⟨ad, rfl, hnews⟩ : ∃ ad, b = some ad ∧ ∀ j v, news[j]? = some v → w.cell? (ad.add j) = some v := by
      rcases hn3 with h | h
      · exact absurd h hm0
      · exact h
    have h1c : ∀ u ∈ news, u.oneCell' = true := fun u hu => by
      obtain ⟨j, hj, rfl⟩ := List.mem_iff_getElem.1 hu
      exact (hn1.2 j hj (by rw [← hn1.1]; exact hj)).1
    by_cases hroom : len + m ≤ cap
    · rcases h5 with ⟨hc0, _⟩ | ⟨g, id, cur, h6, h7, h8, h9, h10, h11⟩
      · omega
      · subst h8
        have hfit : len * i.size + news.length ≤ cur.size := by
          have : (len + m) * i.size ≤ cap * i.size := Nat.mul_le_mul_right _ hroom
          rw [Nat.add_mul] at this; omega
        have hrun := run_append_room (P := P) w t ty e i ht hi g len cap cur h10 ad m c news hn2 hnews h1c hroom hfit
        have hw' := setRow_heap w g cur (cur.toList.take (len * i.size) ++ news ++ cur.toList.drop (len * i.size + news.length)).toArray e (0, 0) h10
        have hpre : RepL (RepC p w) ((cur.toList.take (len * i.size) ++ news ++ cur.toList.drop (len * i.size + news.length)).toArray.toList.take (xs ++ ys).length) (xs ++ ys) := by
          have hll : (xs ++ ys).length = (cur.toList.take (len * i.size) ++ news).length := by
            rw [List.length_append, List.length_append, hxl, hyl, hn2, List.length_take, Array.length_toList, Nat.min_eq_left (by omega)]
          rw [hll, List.take_left']
          · exact h11.append hn1
          · rfl
        obtain ⟨q1, q2⟩ := pre_row hpre
        obtain ⟨r1, r2⟩ := mv_ok hH k (some g) e (xs ++ ys) (w' := w.setRow g (cur.toList.take (len * i.size) ++ news ++ cur.toList.drop (len * i.size + news.length)).toArray) rfl rfl rfl (by simp [World.setRow])
          (fun g' _ hne => setRow_other w g g' _ (fun he => hne id h6 (he ▸ h7))) (fun g' hg => by cases hg; exact Or.inr ⟨id, h6, h7⟩) (Or.inr ⟨g, _, rfl, hw', q1, q2⟩)
        refine ⟨_, _, some g, hrun, r1, r2, slRep (some g) _ _ cap hroom h3 (fun h => by cases h) (Or.inr ⟨g, rfl, rfl, ?_⟩)⟩
        unfold rowSize
        rw [hw']
        have : (cur.toList.take (len * i.size) ++ news ++ cur.toList.drop (len * i.size + news.length)).toArray.size = cur.size := by simp; omega
        simp only [this]
        exact h9
    · -- a new block
      have grow : ∀ (old : Nat), old < len + m → ∀ (olds : List Value), RepL (RepC p w) olds xs → ∀ v' w', v' = Value.slice (some ⟨w.heap.size, 0, none⟩) (len + m) (grownCap w (len + m) old e) →
          w' = w.drew.alloc (.cells (olds.toArray ++ news.toArray ++ Builtin.zeroCells z.cells (grownCap w (len + m) old e - (len + m))) e) → (Builtin.append_ #[t, t] ty #[.slice a len cap, .slice (some ad) m c]).run P w = .ok v' w' →
          ∃ v' w' q, (Builtin.append_ #[t, t] ty #[.slice a len cap, .slice (some ad) m c]).run P w = .ok v' w' ∧ RH (p.mv k q) (killB H k ++ [.row e (xs ++ ys)]) w' ∧ Step p w (p.mv k q) w' ∧ Rep (p.mv k q) w' v' (.sl H.length 0 (len + m) i.size) := by
        intro old hold olds holds v' w' hv' hw' hrun
        have hge := grownCap_ge w (len + m) old e
        have hcm := grownCap_le_maxLen w (len + m) old e hm
        have hw1 : w'.heap[w.heap.size]? = some (.cells (olds.toArray ++ news.toArray ++ Builtin.zeroCells z.cells (grownCap w (len + m) old e - (len + m))) e (0, 0)) := by
          rw [hw']; exact heap_alloc_new w.drew _
        have hol : olds.length = len * i.size := by rw [holds.1]; exact hxl
        have hpre : RepL (RepC p w) ((olds.toArray ++ news.toArray ++ Builtin.zeroCells z.cells (grownCap w (len + m) old e - (len + m))).toList.take (xs ++ ys).length) (xs ++ ys) := by
          have hll : (xs ++ ys).length = (olds ++ news).length := by rw [List.length_append, List.length_append, hxl, hyl, hn2, hol]
          rw [hll]
          simp only [Array.toList_append]
          rw [List.take_left']
          · exact holds.append hn1
          · rfl
        obtain ⟨q1, q2⟩ := pre_row hpre
        obtain ⟨r1, r2⟩ := mv_ok hH k (some w.heap.size) e (xs ++ ys) (w' := w') (by rw [hw']; rfl) (by rw [hw']; rfl) (by rw [hw']; rfl) (by rw [hw']; simp)
          (fun g' hg' _ => by rw [hw']; exact Below.heap_alloc w.drew _ g' hg') (fun g' hg => by cases hg; exact Or.inl (Nat.le_refl _)) (Or.inr ⟨_, _, rfl, hw1, q1, q2⟩)
        refine ⟨v', w', some w.heap.size, hrun, r1, r2, ?_⟩
        rw [hv']
        refine slRep _ _ _ _ hge hcm (fun h => by cases h) (Or.inr ⟨_, rfl, rfl, ?_⟩)
        unfold rowSize
        rw [hw1]
        simp only [Array.size_append, List.size_toArray, size_zeroCells, hzs, hol, hn2]
        rw [← Nat.add_mul, ← Nat.add_mul]
        exact Nat.mul_le_mul_right _ (by omega)
      cases a with
      | none =>
        have hc0 := h4 rfl
        have hl0 : len = 0 := by omega
        subst hc0
        subst hl0
        have hxs0 : xs = [] := List.eq_nil_of_length_eq_zero (by simpa using hxl)
        subst hxs0
        have hrun := run_append_nil (P := P) w t ty e i z ht hi hz ad m c news hn2 hnews (by omega) (by omega) (by simp only [Nat.zero_add] at hb; omega)
        refine grow 0 (by omega) [] RepL.nil _ _ rfl rfl ?_
        simp only [Nat.zero_add]
        rw [hrun]
        simp
      | some b0 =>
        have holds : ∃ olds : List Value, RepL (RepC p w) olds xs ∧ ∀ j v, olds[j]? = some v → w.cell? (b0.add j) = some v := by
          rcases h5 with ⟨hc0, _⟩ | ⟨g, id, cur, h6, h7, h8, h9, h10, h11⟩
          · have hl0 : len = 0 := by omega
            subst hl0
            have hxs0 : xs = [] := List.eq_nil_of_length_eq_zero (by simpa using hxl)
            subst hxs0
            exact ⟨[], RepL.nil, fun j v h => by simp at h⟩
          · cases h8
            refine ⟨_, h11, fun j v hj => ?_⟩
            rw [List.getElem?_take] at hj
            split at hj
            · rw [add_none _ rfl, cell_of_row w g _ cur e (0, 0) h10]; simpa using hj
            · cases hj
        obtain ⟨olds, ho1, ho2⟩ := holds
        have hrun := run_append_grow (P := P) w t ty e i z ht hi hz b0 len cap olds (by rw [ho1.1]; exact hxl) ho2 ad m c news hn2 hnews (by omega) hsm (growslice_fits (by omega) hb)
        exact grow cap (by omega) olds ho1 _ _ rfl rfl hrun
end
end Go.Proofs.Ytcmbhebgpboepaa.V
