/-
  The logic of values: appending the bytes of a string. Over any program.
-/
import Derived.Test.YtcmbhebgpboepaaVz
import Derived.Lib.AppendStr
namespace Go.Proofs.Ytcmbhebgpboepaa.V
open Go Go.RowKit
set_option linter.unusedSimpArgs false
set_option linter.unusedVariables false
section
variable {P : Program} {s : St} {o : Oper} {R : AV → List Blk → Prop}
theorem run_append_zero_str {P : Program} (w : World) (t ts ty e : TypeId) (i : TypeInfo) (ht : P.underlying t = some (.slice e)) (hts : P.underlying ts = some .string) (hi : P.info? e = some i) (bs : ByteArray) (hb : bs.size = 0) (a : Option Addr) (len cap : Nat) (hl : len ≤ cap) :
    (Builtin.append_ #[t, ts] ty #[.slice a len cap, .string bs]).run P w = .ok (.slice a len cap) w := by
  cases a <;> simp [Builtin.append_, run_underlying ht, run_underlying hts, sizeOf, typeInfo, hi, Builtin.lenOf, Builtin.firstCells, hb, hl, storeCells]
theorem append_str {p : Pl} {H : List Blk} {w : World} (hH : RH p H w) {t ts ty e : TypeId} {i : TypeInfo} {z : Value} (ht : P.underlying t = some (.slice e)) (hts : P.underlying ts = some .string) (hs1 : i.size = 1) (hi : P.info? e = some i) (hz : i.zero = some z) (hzs : z.cells.size = i.size) (hsz : 0 < i.size)
    {v : Value} {bs : ByteArray} {x : AV} {k : Option Nat} {len m : Nat} {xs ys : List AV} (hx : Rep p w v x)
    (hxs : (x = .nilsl ∧ k = none ∧ len = 0 ∧ xs = []) ∨ ∃ id r, x = .sl id 0 len i.size ∧ k = some id ∧ H[id]? = some (.row e r) ∧ xs = r.take (len * i.size) ∧ len * i.size ≤ r.length)
    (hm0 : m = bs.size) (hys : ys = bytesAV bs) (hb : (len + m) * i.bytes ≤ 140737488355328) (hm : len + m ≤ maxLen) :
    ∃ v' w' q, (Builtin.append_ #[t, ts] ty #[v, .string bs]).run P w = .ok v' w' ∧ RH (p.mv k q) (killB H k ++ [.row e (xs ++ ys)]) w' ∧ Step p w (p.mv k q) w' ∧ Rep (p.mv k q) w' v' (.sl H.length 0 (len + m) i.size) := by
  subst hm0 hys
  obtain ⟨news, hnw⟩ : ∃ n, n = Lib.strCells bs := ⟨_, rfl⟩
  have hn1 : RepL (RepC p w) news (bytesAV bs) := by
    subst hnw
    exact ⟨by simp [Lib.strCells, bytesAV], fun i a b => by simp only [Lib.strCells, bytesAV, List.getElem_map]; exact ⟨rfl, RepF.rep0 (.int _ _)⟩⟩
  have hn2 : news.length = bs.size * i.size := by subst hnw; rw [Lib.strCells_length, hs1, Nat.mul_one]
  have hyl : (bytesAV bs).length = bs.size * i.size := by rw [← hn1.1]; exact hn2
  have hsm : ((len + bs.size : Nat) : Int) ≤ 9223372036854775807 := by simp only [maxLen] at hm; omega
  have hat : ∀ q, (p.mv k q).at_ H.length = some q := fun q => by simp [Pl.mv, hH.n]
  have hnn : H.length < (p.mv k none).n := by simp [Pl.mv, hH.n]
  -- the row that is appended to
  have hv : ∃ a cap, v = .slice a len cap ∧ len ≤ cap ∧ cap ≤ maxLen ∧ (a = none → cap = 0) ∧ xs.length = len * i.size ∧
      ((cap = 0 ∧ (∀ g, (∃ id, k = some id ∧ p.at_ id = some (some g)) → True)) ∨ ∃ g id cur, k = some id ∧ p.at_ id = some (some g) ∧ a = some ⟨g, 0, none⟩ ∧ cap * i.size ≤ cur.size ∧ w.heap[g]? = some (.cells cur e (0, 0)) ∧ RepL (RepC p w) (cur.toList.take (len * i.size)) xs) := by
    rcases hxs with ⟨rfl, rfl, rfl, rfl⟩ | ⟨id, r, rfl, rfl, hr, rfl, hrl⟩
    · exact ⟨none, 0, rep_nilsl hx, Nat.le_refl _, by omega, fun _ => rfl, by simp, Or.inl ⟨rfl, fun _ _ => trivial⟩⟩
    · obtain ⟨q, hq⟩ := hH.live hr
      obtain ⟨a, cap, h1, h2, h3, _, h4, h5⟩ := hx.2 q hq
      refine ⟨a, cap, h1, h2, h3, h4, by rw [List.length_take]; omega, ?_⟩
      rcases h5 with h5 | ⟨g, rfl, h6, h7⟩
      · exact Or.inl ⟨h5, fun _ _ => trivial⟩
      · rcases hH.row hr with ⟨h8, _⟩ | ⟨g', cur, h8, h9, h10, h11⟩
        · rw [hq] at h8; cases h8
        · rw [hq] at h8
          cases h8
          refine Or.inr ⟨g, id, cur, rfl, hq, h6, ?_, h9, ?_⟩
          · unfold rowSize at h7; rw [h9] at h7; simpa using h7
          · have := (row_pre h10 h11).take (len * i.size)
            rw [List.take_take, Nat.min_eq_left hrl] at this
            exact this
  obtain ⟨a, cap, rfl, h2, h3, h4, hxl, h5⟩ := hv
  have slRep : ∀ (q : Option Nat) (w' : World) (a' : Option Addr) (cap' : Nat), len + bs.size ≤ cap' → cap' ≤ maxLen → (a' = none → cap' = 0) → (cap' = 0 ∨ ∃ g, q = some g ∧ a' = some ⟨g, 0, none⟩ ∧ cap' * i.size ≤ rowSize w' g) → Rep (p.mv k q) w' (.slice a' (len + bs.size) cap') (.sl H.length 0 (len + bs.size) i.size) := fun q w' a' cap' e1 e2 e3 e4 => by
    refine ⟨by simp [Pl.mv, hH.n], fun q' hq' => ?_⟩
    rw [hat] at hq'
    cases hq'
    exact ⟨a', cap', rfl, e1, e2, hsz, e3, e4.imp (fun h => h) fun ⟨g, f1, f2, f3⟩ => ⟨g, f1, f2, by omega⟩⟩
  by_cases hm0 : bs.size = 0
  · -- nothing is appended
    have hys0 : bytesAV bs = [] := List.eq_nil_of_length_eq_zero (by rw [hyl, hm0, Nat.zero_mul])
    have hrun := run_append_zero_str (P := P) w t ts ty e i ht hts hi bs hm0 a len cap h2
    simp only [hm0, Nat.add_zero] at slRep ⊢
    rw [hys0]
    rcases h5 with ⟨hc0, _⟩ | ⟨g, id, cur, h6, h7, h8, h9, h10, h11⟩
    · have hl0 : len = 0 := by omega
      subst hl0
      have hxs0 : xs = [] := List.eq_nil_of_length_eq_zero (by simpa using hxl)
      subst hxs0
      obtain ⟨r1, r2⟩ := mv_ok hH k none e ([] ++ []) rfl rfl rfl (Nat.le_refl _) (fun _ _ _ => rfl) (fun g hg => by cases hg) (Or.inl ⟨rfl, rfl⟩)
      exact ⟨_, w, none, hrun, r1, r2, slRep none w a cap (by omega) h3 h4 (Or.inl hc0)⟩
    · have hcs : len * i.size ≤ cur.size := Nat.le_trans (Nat.mul_le_mul_right _ h2) h9
      obtain ⟨r1, r2⟩ := mv_ok hH k (some g) e (xs ++ []) rfl rfl rfl (Nat.le_refl _) (fun _ _ _ => rfl) (fun g' hg => by cases hg; exact Or.inr ⟨id, h6, h7⟩)
        (Or.inr ⟨g, cur, rfl, h10, by rw [List.append_nil, hxl]; exact hcs, (pre_row (by rw [List.append_nil, hxl]; exact h11)).2⟩)
      exact ⟨_, w, some g, hrun, r1, r2, slRep (some g) w a cap (by omega) h3 h4 (Or.inr ⟨g, rfl, h8, by unfold rowSize; rw [h10]; exact h9⟩)⟩
  · have h1c : ∀ u ∈ news, u.oneCell' = true := by subst hnw; exact Lib.strCells_oneCell bs
    by_cases hroom : len + bs.size ≤ cap
    · rcases h5 with ⟨hc0, _⟩ | ⟨g, id, cur, h6, h7, h8, h9, h10, h11⟩
      · omega
      · subst h8
        have hfit : len * i.size + news.length ≤ cur.size := by
          have : (len + bs.size) * i.size ≤ cap * i.size := Nat.mul_le_mul_right _ hroom
          rw [Nat.add_mul] at this; omega
        have hrun : (Builtin.append_ #[t, ts] ty #[.slice (some ⟨g, 0, none⟩) len cap, .string bs]).run P w = .ok (.slice (some ⟨g, 0, none⟩) (len + bs.size) cap) (w.setRow g (cur.toList.take (len * i.size) ++ news ++ cur.toList.drop (len * i.size + news.length)).toArray) := by
          have h0 := Lib.run_append_room_string (P := P) w t ts ty e i ht hts hi hs1 g len cap cur h10 bs hroom (by rw [hn2, hs1] at hfit; omega)
          rw [h0, hnw, hs1, Nat.mul_one, Lib.strCells_length]
        have hw' := setRow_heap w g cur (cur.toList.take (len * i.size) ++ news ++ cur.toList.drop (len * i.size + news.length)).toArray e (0, 0) h10
        have hpre : RepL (RepC p w) ((cur.toList.take (len * i.size) ++ news ++ cur.toList.drop (len * i.size + news.length)).toArray.toList.take (xs ++ (bytesAV bs)).length) (xs ++ (bytesAV bs)) := by
          have hll : (xs ++ (bytesAV bs)).length = (cur.toList.take (len * i.size) ++ news).length := by
            rw [List.length_append, List.length_append, hxl, hyl, hn2, List.length_take, Array.length_toList, Nat.min_eq_left (by omega)]
          rw [hll, List.take_left']
          · exact h11.append hn1
          · rfl
        obtain ⟨q1, q2⟩ := pre_row hpre
        obtain ⟨r1, r2⟩ := mv_ok hH k (some g) e (xs ++ (bytesAV bs)) (w' := w.setRow g (cur.toList.take (len * i.size) ++ news ++ cur.toList.drop (len * i.size + news.length)).toArray) rfl rfl rfl (by simp [World.setRow])
          (fun g' _ hne => setRow_other w g g' _ (fun he => hne id h6 (he ▸ h7))) (fun g' hg => by cases hg; exact Or.inr ⟨id, h6, h7⟩) (Or.inr ⟨g, _, rfl, hw', q1, q2⟩)
        refine ⟨_, _, some g, hrun, r1, r2, slRep (some g) _ _ cap hroom h3 (fun h => by cases h) (Or.inr ⟨g, rfl, rfl, ?_⟩)⟩
        unfold rowSize
        rw [hw']
        have : (cur.toList.take (len * i.size) ++ news ++ cur.toList.drop (len * i.size + news.length)).toArray.size = cur.size := by simp; omega
        simp only [this]
        exact h9
    · -- a new block
      have grow : ∀ (old : Nat), old < len + bs.size → ∀ (olds : List Value), RepL (RepC p w) olds xs → ∀ v' w', v' = Value.slice (some ⟨w.heap.size, 0, none⟩) (len + bs.size) (grownCap w (len + bs.size) old e) →
          w' = w.drew.alloc (.cells (olds.toArray ++ news.toArray ++ Builtin.zeroCells z.cells (grownCap w (len + bs.size) old e - (len + bs.size))) e) → (Builtin.append_ #[t, ts] ty #[.slice a len cap, .string bs]).run P w = .ok v' w' →
          ∃ v' w' q, (Builtin.append_ #[t, ts] ty #[.slice a len cap, .string bs]).run P w = .ok v' w' ∧ RH (p.mv k q) (killB H k ++ [.row e (xs ++ (bytesAV bs))]) w' ∧ Step p w (p.mv k q) w' ∧ Rep (p.mv k q) w' v' (.sl H.length 0 (len + bs.size) i.size) := by
        intro old hold olds holds v' w' hv' hw' hrun
        have hge := grownCap_ge w (len + bs.size) old e
        have hcm := grownCap_le_maxLen w (len + bs.size) old e hm
        have hw1 : w'.heap[w.heap.size]? = some (.cells (olds.toArray ++ news.toArray ++ Builtin.zeroCells z.cells (grownCap w (len + bs.size) old e - (len + bs.size))) e (0, 0)) := by
          rw [hw']; exact heap_alloc_new w.drew _
        have hol : olds.length = len * i.size := by rw [holds.1]; exact hxl
        have hpre : RepL (RepC p w) ((olds.toArray ++ news.toArray ++ Builtin.zeroCells z.cells (grownCap w (len + bs.size) old e - (len + bs.size))).toList.take (xs ++ (bytesAV bs)).length) (xs ++ (bytesAV bs)) := by
          have hll : (xs ++ (bytesAV bs)).length = (olds ++ news).length := by rw [List.length_append, List.length_append, hxl, hyl, hn2, hol]
          rw [hll]
          simp only [Array.toList_append]
          rw [List.take_left']
          · exact holds.append hn1
          · rfl
        obtain ⟨q1, q2⟩ := pre_row hpre
        obtain ⟨r1, r2⟩ := mv_ok hH k (some w.heap.size) e (xs ++ (bytesAV bs)) (w' := w') (by rw [hw']; rfl) (by rw [hw']; rfl) (by rw [hw']; rfl) (by rw [hw']; simp)
          (fun g' hg' _ => by rw [hw']; exact Below.heap_alloc w.drew _ g' hg') (fun g' hg => by cases hg; exact Or.inl (Nat.le_refl _)) (Or.inr ⟨_, _, rfl, hw1, q1, q2⟩)
        refine ⟨v', w', some w.heap.size, hrun, r1, r2, ?_⟩
        rw [hv']
        refine slRep _ _ _ _ hge hcm (fun h => by cases h) (Or.inr ⟨_, rfl, rfl, ?_⟩)
        unfold rowSize
        rw [hw1]
        simp only [Array.size_append, List.size_toArray, size_zeroCells, hzs, hol, hn2]
        rw [← Nat.add_mul, ← Nat.add_mul]
        exact Nat.mul_le_mul_right _ (by omega)
      cases a with
      | none =>
        have hc0 := h4 rfl
        have hl0 : len = 0 := by omega
        subst hc0
        subst hl0
        have hxs0 : xs = [] := List.eq_nil_of_length_eq_zero (by simpa using hxl)
        subst hxs0
        have hrun := run_append_nil_string (P := P) w t ts ty e i z ht hts hi hz bs (by omega) (by omega) (by simp only [Nat.zero_add] at hb; omega)
        have hnd : bs.data.map (fun b => Value.int .u8 b.toNat) = news.toArray := by subst hnw; apply Array.ext'; simp [Lib.strCells]
        rw [hnd] at hrun
        refine grow 0 (by omega) [] RepL.nil _ _ rfl rfl ?_
        simp only [Nat.zero_add]
        rw [hrun]
        simp
      | some b0 =>
        have holds : ∃ olds : List Value, RepL (RepC p w) olds xs ∧ ∀ j v, olds[j]? = some v → w.cell? (b0.add j) = some v := by
          rcases h5 with ⟨hc0, _⟩ | ⟨g, id, cur, h6, h7, h8, h9, h10, h11⟩
          · have hl0 : len = 0 := by omega
            subst hl0
            have hxs0 : xs = [] := List.eq_nil_of_length_eq_zero (by simpa using hxl)
            subst hxs0
            exact ⟨[], RepL.nil, fun j v h => by simp at h⟩
          · cases h8
            refine ⟨_, h11, fun j v hj => ?_⟩
            rw [List.getElem?_take] at hj
            split at hj
            · rw [add_none _ rfl, cell_of_row w g _ cur e (0, 0) h10]; simpa using hj
            · cases hj
        obtain ⟨olds, ho1, ho2⟩ := holds
        have hrun := Lib.run_append_grow_string (P := P) w t ts ty e i z ht hts hi hz b0 len cap olds (by rw [ho1.1]; exact hxl) ho2 bs (by omega) hsm (growslice_fits (by omega) hb)
        rw [← hnw] at hrun
        exact grow cap (by omega) olds ho1 _ _ rfl rfl hrun
theorem op_appendStr {t ts e ty : TypeId} {bytes len : Nat} {x y : Operand} {k : Option Nat} {xs : List AV} {bs : ByteArray} (ho : o.op = .call ⟨.builtin .append, ⟨[x, y]⟩, ⟨[t, ts]⟩⟩) (hT : elT P t e 1 bytes = true) (hts : P.underlying ts = some .string) (hd : IsDst s.H e 1 (s.ev x) k len xs) (hy : s.ev y = .str bs)
    (hb : (len + bs.size) * bytes ≤ 140737488355328) (hm : len + bs.size ≤ maxLen) (h : R (.sl s.H.length 0 (len + bs.size) 1) (killB s.H k ++ [.row e (xs ++ bytesAV bs)])) : OpV P o s R := opV_of fun p w a hR => by
  obtain ⟨hu, i, z, hi, hz, hzs, hpos, hs1, rfl⟩ := elT_spec hT
  have ey := rep_str (hy ▸ hR.ev y)
  rw [← hs1] at hd h
  obtain ⟨v', w', q, h1, h2, h3, h4⟩ := append_str (ty := o.type) (bs := bs) hR.heap hu hts hs1 hi hz hzs hpos (hR.ev x) hd rfl rfl hb hm
  refine ⟨.value v', v', _, _, _, w', ?_, Or.inl rfl, h, h2, h4, h3⟩
  unfold execOp
  rw [ho]
  simp [resolve, invoke, builtin, ey, h1]
end
end Go.Proofs.Ytcmbhebgpboepaa.V
