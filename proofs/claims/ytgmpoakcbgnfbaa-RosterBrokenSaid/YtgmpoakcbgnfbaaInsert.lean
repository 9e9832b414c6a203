/-
  slices.Insert of one element into an own row of api.User, and slices.Clone of any row.
-/
import Derived.Test.YtgmpoakcbgnfbaaUsers
import Derived.Lib.Overlaps
import Derived.Lib.AppendZerosOnto
import Derived.Laws.NewBlocks
namespace Go.Proofs.Ytgmpoakcbgnfbaa
open Go.ChangeShapes Go.WideShapes Go.ChangeAt Go.RowKit
set_option linter.unusedSimpArgs false
set_option linter.unusedVariables false
attribute [local go_sem ↓] Go.wp_at_zero Go.wp_at_succ

theorem cloneU_any (a : Option Addr) (len cap : Nat) (xs : List U) (w : World) (hR : RowE encU w a len cap xs) :
    Calls Try.prog 19 #[.slice a len cap] w fun e w' => ∃ v, e = .returned v ∧ OwnE encU 41 2 w' w.heap.size v xs ∧ Below w.heap.size w w' := by
  have hm := hR.small
  have hq := fun (wx : World) (ax : Option Addr) (n c : Nat) => Lib.run_eql_slice_nil (P := Try.prog) wx 22 41 ax n c 0 0 Try.underlying22
  cases a with
  | none =>
    have hc := hR.nilcap rfl
    have hz : len = 0 := by have := hR.cap_ge; omega
    subst hz hc
    obtain rfl := List.eq_nil_of_length_eq_zero hR.len_eq
    go_enter Try.func19, Try.ntmps19
    go_wp2
    go_ret
    exact ⟨_, rfl, OwnE.nil _ _ _ _ _, Below.refl _ _⟩
  | some x =>
    have hown := OwnE.lit encU_ok w #[] 41 [] 0 rfl rfl (by unfold maxLen; omega)
    obtain ⟨v', w', hr, h2, hg⟩ := append_E elemU encU_ok (w.alloc (.cells #[] 41)) w.heap.size 22 _ [] 0 rfl hown (some x) len cap xs (hR.below (below_alloc _ _)) (by unfold maxLen; omega) (by omega) (by simp)
    have hbel : Below w.heap.size w w' := (below_alloc _ _).trans (below_grown hown (by simp) hg)
    rw [List.nil_append] at h2
    go_enter Try.func19, Try.ntmps19
    go_wp2_with (at_builtin; refine wpList_append_by hr rfl _ _ rfl rfl rfl ?_)
    go_ret
    exact ⟨_, rfl, h2, hbel⟩

theorem overlapsU_no (w : World) (vb g off la ca lb cb : Nat) (hne : vb ≠ g) (cv cur : Array Value) (hv : w.heap[vb]? = some (.cells cv 41 (0, 0))) (hg : w.heap[g]? = some (.cells cur 41 (0, 0))) (hpos : cur.size ≠ 0) :
    (callFunc 22 #[.slice (some ⟨vb, 0, none⟩) la ca, .slice (some ⟨g, off, none⟩) lb cb]).run Try.prog w = .ok (.value (.bool false)) w := by
  have hs : (Try.prog.funcs[22]?).isSome = true := by kernel_rfl
  have hf : Try.prog.funcs[22]? = some ((Try.prog.funcs[22]?).get hs) := by simp
  obtain ⟨i, hi, hz, hsz, hbt⟩ := (elemU).info
  rw [run_callFunc_extern hf (by kernel_rfl) (by kernel_rfl) (by kernel_rfl) (e := Extern.SlicesOverlaps.overlaps #[22, 22] #[4]) (by kernel_rfl),
    Lib.run_overlaps_apart w 22 4 41 Try.underlying22 2 (fun w => by simp [sizeOf, typeInfo, hi, hsz]) ⟨vb, 0, none⟩ ⟨g, off, none⟩ la ca lb cb hne 41 41 cv.size cur.size (by simp [World.shape?, hv]) (by simp [World.shape?, hg]) hpos (by simp [World.frozen?, hv]) (by simp [World.frozen?, hv])]
  rfl

theorem flat_insU (xs : List U) (x : U) (i : Nat) : flatE encU (xs.take i ++ x :: xs.drop i) = (flatE encU xs).take (i * 2) ++ (encU x ++ (flatE encU xs).drop (i * 2)) := by
  rw [flatE_append, flatE_cons, flatE_take encU_ok, flatE_drop encU_ok]
theorem len_insU (xs : List U) (x : U) (i : Nat) (h : i ≤ xs.length) : (xs.take i ++ x :: xs.drop i).length = xs.length + 1 := by
  rw [List.length_append, List.length_cons, List.length_take, List.length_drop]; omega
set_option maxHeartbeats 2000000 in
theorem insertEndU (base n : Nat) (v : Value) (xs : List U) (hn : xs.length = n) (hs : n ≤ 100000000) (x : U) (cs : Array Value) (hcs : cs.toList = encU x) (w : World) (hown : OwnE encU 41 2 w base v xs) (hbase : base ≤ w.heap.size) :
    Calls Try.prog 18 #[v, .int .i64 n, .slice (some ⟨w.heap.size, 0, none⟩) 1 1] (w.alloc (.cells cs 41)) fun e w' =>
      ∃ v', e = .returned v' ∧ OwnE encU 41 2 w' base v' (xs ++ [x]) ∧ Below base w w' := by
  have hown1 : OwnE encU 41 2 (w.alloc (.cells cs 41)) base v xs := hown.below (below_alloc _ _)
  obtain ⟨v', w', hr, h2, hg⟩ := append_E elemU encU_ok (w.alloc (.cells cs 41)) base 22 v xs n hn hown1 _ 1 1 [x] (RowE.one encU_ok w cs 41 x hcs) (by unfold maxLen; omega) (by omega) (by simp; omega)
  have hbel : Below base w w' := ((below_alloc _ _).mono hbase).trans (below_grown hown1 (by simp; omega) hg)
  obtain ⟨a, cap, rfl, hrow⟩ := hown.rowE (by omega)
  rw [hn] at *
  obtain ⟨a', hsl, _⟩ := hrow.drop elemU encU_ok n n rfl (Nat.le_refl _)
  clear hrow
  have hb1 : ((n : Int) == n) = true := by simp
  go_enter Try.func18, Try.ntmps18
  go_wp2_with (at_builtin; refine wpList_append_by hr rfl _ _ rfl rfl rfl ?_)
  go_ret
  exact ⟨_, rfl, h2, hbel⟩

set_option maxHeartbeats 4000000 in
set_option maxRecDepth 100000 in
theorem insertGrowU (g n c i : Nat) (cur : Array Value) (xs : List U) (hn : xs.length = n) (hs : n ≤ 100000000) (x : U) (cs : Array Value) (hcs : cs.toList = encU x) (w : World)
    (hg : w.heap[g]? = some (.cells cur 41 (0, 0))) (_hsz : cur.size = c * 2) (htk : cur.toList.take (n * 2) = flatE encU xs) (hi : i < n) (hc : n ≤ c) (hroom : c < n + 1) :
    Calls Try.prog 18 #[.slice (some ⟨g, 0, none⟩) n c, .int .i64 i, .slice (some ⟨w.heap.size, 0, none⟩) 1 1] (w.alloc (.cells cs 41)) fun e w' =>
      ∃ v', e = .returned v' ∧ OwnE encU 41 2 w' w.heap.size v' (xs.take i ++ x :: xs.drop i) ∧ Below w.heap.size w w' := by
  obtain ⟨i0, hi0, hz0, hzs, hzb⟩ := (elemU).info
  have hgw : g < w.heap.size := (Array.getElem?_eq_some_iff.1 hg).1
  have hfl := flatE_length encU_ok xs
  rw [hn] at hfl
  have hel := (encU_ok).len x
  -- the row before the call
  have hcell : ∀ j v, (flatE encU xs)[j]? = some v → w.cell? ⟨g, j, none⟩ = some v := fun j v hj => by
    rw [cell_at hg, ← htk, List.getElem?_take] at *
    split at hj
    · simpa using hj
    · cases hj
  have hsl1 := fun wx => slice_up elemU wx g 0 n c i i rfl (by omega) (by omega)
  have hold : (Builtin.firstCells i0.size i (.slice (some ⟨g, 0, none⟩) i c)).run Try.prog (w.alloc (.cells cs 41)).drew = .ok ((flatE encU xs).take (i * 2)).toArray (w.alloc (.cells cs 41)).drew := by
    rw [hzs]
    refine run_firstCells_some _ 2 i ⟨g, 0, none⟩ i c _ (by rw [List.length_take, hfl, Nat.min_eq_left (Nat.mul_le_mul_right _ (by omega))]) (fun j v hj => ?_)
    rw [List.getElem?_take] at hj
    split at hj
    · rw [add_plain, Nat.zero_add]
      exact ((below_alloc w (.cells cs 41)).cell (p := ⟨g, j, none⟩) hgw).trans (hcell j v hj)
    · cases hj
  have hrz := Lib.run_append_grow_zeros (w.alloc (.cells cs 41)) 22 3 22 41 i0 _ .i64 .i64 Try.underlying22 Try.underlying3 hi0 hz0 (some ⟨g, 0, none⟩) i c _ hold (n + 1 - i) (by omega) (by rw [hzs]; omega) (by omega) (by omega) (by rw [hzb]; omega) (by rw [hzb, show i + (n + 1 - i) = n + 1 by omega]; exact growslice_fits hroom (by omega))
  rw [show i + (n + 1 - i) = n + 1 by omega, show ((n + 1 - i : Nat) : Int) = (n : Int) + 1 - (i : Int) by omega] at hrz
  have hN : (w.alloc (.cells cs 41)).heap.size = w.heap.size + 1 := by simp
  have hGn := grownCap_ge (w.alloc (.cells cs 41)) (n + 1) c 41
  have hG63 := grownCap_le_maxLen (w.alloc (.cells cs 41)) (n + 1) c 41 (by unfold maxLen; omega)
  rw [hN] at hrz
  generalize grownCap (w.alloc (.cells cs 41)) (n + 1) c 41 = G at *
  obtain ⟨ROW, hROW⟩ : ∃ ROW : Array Value, ROW = ((flatE encU xs).take (i * 2)).toArray ++ Builtin.zeroCells (Value.agg #[Value.string ByteArray.empty, Value.int IntKind.i64 0]).cells (n + 1 - i) ++ Builtin.zeroCells (Value.agg #[Value.string ByteArray.empty, Value.int IntKind.i64 0]).cells (G - (n + 1)) := ⟨_, rfl⟩
  have hRl : ROW.size = G * 2 := by
    have hz2 : (Value.agg #[Value.string ByteArray.empty, Value.int IntKind.i64 0]).cells.size = 2 := (elemU).zsize
    rw [hROW, Array.size_append, Array.size_append, size_zeroCells, size_zeroCells, hz2, List.size_toArray, List.length_take, hfl, Nat.min_eq_left (Nat.mul_le_mul_right _ (by omega))]
    rw [← Nat.add_mul, ← Nat.add_mul]
    congr 1; omega
  have hRt : ROW.toList.take (i * 2) = (flatE encU xs).take (i * 2) := by
    rw [hROW, Array.toList_append, Array.toList_append, List.append_assoc]
    exact List.take_left' (by rw [List.length_take, hfl]; omega)
  rw [← hROW] at hrz
  clear hROW hold
  obtain ⟨W1, hW1⟩ : ∃ W1, W1 = (w.alloc (.cells cs 41)).drew.alloc (.cells ROW 41) := ⟨_, rfl⟩
  have hb1 : Below w.heap.size w W1 := by
    rw [hW1]
    exact ((below_alloc w (.cells cs 41)).drew).trans ((below_alloc (w.alloc (.cells cs 41)).drew _).mono (by simp [World.drew]))
  have hh1 : W1.heap[w.heap.size + 1]? = some (.cells ROW 41 (0, 0)) := by
    rw [hW1]
    have := heap_alloc_new (w.alloc (.cells cs 41)).drew (.cells ROW 41)
    simpa [World.drew] using this
  have hvb : W1.heap[w.heap.size]? = some (.cells cs 41 (0, 0)) := by
    rw [hW1]
    have h2 := heap_alloc_new w (.cells cs 41)
    have h3 := (below_alloc (w.alloc (.cells cs 41)).drew (.cells ROW 41)).block w.heap.size (by simp [World.drew])
    rw [h3]; exact h2
  rw [← hW1] at hrz
  have hszi : (Try.prog.info? 41).map (·.size) = some 2 := by rw [hi0]; simp [hzs]
  have hsl2 := fun wx => slice_at elemU wx (w.heap.size + 1) 0 (n + 1) G i i rfl (by omega) (by omega)
  rw [Nat.zero_add] at hsl2
  have hc1 := run_copy_sz (P := Try.prog) W1 22 22 3 41 2 (w.heap.size + 1) (i * 2) (n + 1 - i) (G - i) ⟨w.heap.size, 0, none⟩ 1 1 1 ROW 41 (encU x) Try.underlying22 hszi hh1 (Nat.min_eq_left (by omega)) (by rw [hel]) (fun j v hj => by
    rw [add_plain, Nat.zero_add, cell_at hvb, ← hj, ← hcs]; simp) (by rw [hel, hRl]; omega) (encU_ok.one x)
  obtain ⟨W2, hW2⟩ : ∃ W2, W2 = W1.setRow (w.heap.size + 1) (ROW.toList.take (i * 2) ++ encU x ++ ROW.toList.drop (i * 2 + (encU x).length)).toArray := ⟨_, rfl⟩
  rw [← hW2] at hc1
  have hb2 : Below w.heap.size w W2 := by rw [hW2]; exact below_row hb1 (by omega) _
  have hh2 : W2.heap[w.heap.size + 1]? = some (.cells (ROW.toList.take (i * 2) ++ encU x ++ ROW.toList.drop (i * 2 + (encU x).length)).toArray 41 (0, 0)) := by rw [hW2]; exact heap_setRow hh1
  have hsl3 := fun wx => slice_at elemU wx (w.heap.size + 1) 0 (n + 1) G (i + 1) ((i : Int) + 1) (by omega) (by omega) (by omega)
  rw [Nat.zero_add] at hsl3
  have hsl4 := fun wx => slice_at elemU wx g 0 n c i i rfl (by omega) (by omega)
  rw [Nat.zero_add] at hsl4
  have hdl : ((flatE encU xs).drop (i * 2)).length = (n - i) * 2 := by rw [List.length_drop, hfl]; omega
  have hc2 := run_copy_sz (P := Try.prog) W2.drew 22 22 3 41 2 (w.heap.size + 1) ((i + 1) * 2) (n + 1 - (i + 1)) (G - (i + 1)) ⟨g, i * 2, none⟩ (n - i) (c - i) (n - i) _ 41 ((flatE encU xs).drop (i * 2)) Try.underlying22 hszi hh2 (by rw [show n + 1 - (i + 1) = n - i by omega]; exact Nat.min_self _) hdl (fun j v hj => by
    rw [add_plain]
    rw [List.getElem?_drop] at hj
    exact (hb2.drew.cell (p := ⟨g, _, none⟩) hgw).trans (hcell _ v hj)) (by simp [hel, hdl, hRl]; omega) (fun v hv => flatE_oneCell encU_ok xs v (List.mem_of_mem_drop hv))
  simp only [Nat.add_sub_add_right] at hsl3 hc2
  clear hcell
  obtain ⟨W3, hW3⟩ : ∃ W3, W3 = W2.drew.setRow (w.heap.size + 1) ((ROW.toList.take (i * 2) ++ encU x ++ ROW.toList.drop (i * 2 + (encU x).length)).toArray.toList.take ((i + 1) * 2) ++ (flatE encU xs).drop (i * 2) ++ (ROW.toList.take (i * 2) ++ encU x ++ ROW.toList.drop (i * 2 + (encU x).length)).toArray.toList.drop ((i + 1) * 2 + ((flatE encU xs).drop (i * 2)).length)).toArray := ⟨_, rfl⟩
  rw [← hW3] at hc2
  have hb3 : Below w.heap.size w W3 := by rw [hW3]; exact below_row hb2.drew (by omega) _
  have hfin : OwnE encU 41 2 W3 w.heap.size (.slice (some ⟨w.heap.size + 1, 0, none⟩) (n + 1) G) (xs.take i ++ x :: xs.drop i) := by
    refine ⟨by rw [flatE_length encU_ok], Or.inr ⟨w.heap.size + 1, G, _, by rw [len_insU _ _ _ (by omega), hn], by omega, by rw [hW3]; exact heap_setRow hh2, by rw [len_insU _ _ _ (by omega), hn]; exact hGn, hG63, ?_, ?_⟩⟩
    · simp [hel, hdl, hRl]; omega
    · have h := splice_up (R := ROW.toList) (E := encU x) (D := (flatE encU xs).drop (i * 2)) (p := i * 2) (by simp [hRl]; omega)
      rw [hel, hdl, show i * 2 + 2 = (i + 1) * 2 by omega, show (i + 1) * 2 + (n - i) * 2 = (n + 1) * 2 by omega] at h
      rw [len_insU _ _ _ (by omega), hn, flat_insU, ← hRt, ← List.append_assoc]
      simp only [hel, hdl, show i * 2 + 2 = (i + 1) * 2 by omega, show (i + 1) * 2 + (n - i) * 2 = (n + 1) * 2 by omega]
      simpa using h
  have Hfin := Lib.hid hfin
  have hni : ((i : Int) == n) = false := by rw [beq_eq_false_iff_ne]; omega
  have hci : decide ((c : Int) < (n : Int) + 1) = true := by rw [decide_eq_true_iff]; omega
  have hin : i ≤ n := by omega
  have hw1 : IntKind.i64.wrap ((i : Int) + 1) = (i : Int) + 1 := by rw [IntKind.wrap_i64]; omega
  clear hW1 hW2 hW3 hh1 hvb hh2 hfin htk hg hRt hRl hfl hel hcs hdl hb1 hb2 hi0 hz0 hszi hN
  go_enter Try.func18, Try.ntmps18
  go_wp2_with (first | (at_builtin; refine wpList_append_by hrz rfl _ _ rfl rfl rfl ?_) | (at_builtin; refine wpList_copy_by hc1 rfl _ _ rfl rfl rfl ?_))
  refine wp_region_noPanic ?_
  refine wp_region_held_drew (S := (fun _ => True)) (by kernel_rfl) ?_ (fun hHeld => ?_)
  · ((try dsimp only); try trivial)
  refine wpAnyH_take (i := 0) (oi := ⟨some 46, _, _, _, _, _⟩) (v := ?_) rfl (by kernel_rfl) (by kernel_rfl) (by kernel_rfl) (fun _ _ _ h => h) (Or.inl ⟨by rfl, ?_⟩) (by assumption) ?_
  rotate_left 1
  · (intro w hSw; (try dsimp only at hSw); go_simp <;> first | with_reducible rfl | (rw [if_pos (by omega)]))
  try simp only [Act.put, List.setIfInBounds_toArray, List.set_cons_zero, List.set_cons_succ]
  refine wpAnyH_take (i := 1) (oi := ⟨some 47, _, _, _, _, _⟩) (v := ?_) rfl (by kernel_rfl) (by kernel_rfl) (by kernel_rfl) (fun _ _ _ h => h) (Or.inl ⟨by rfl, ?_⟩) (by assumption) ?_
  rotate_left 1
  · (intro w hSw; (try dsimp only at hSw); go_simp <;> first | with_reducible rfl | (rw [if_pos (by omega)]))
  try simp only [Act.put, List.setIfInBounds_toArray, List.set_cons_zero, List.set_cons_succ]
  refine wpAnyH_take (i := 2) (oi := ⟨some 48, _, _, _, _, _⟩) (v := ?_) rfl (by kernel_rfl) (by kernel_rfl) (by kernel_rfl) (fun _ _ _ h => h) (Or.inl ⟨by rfl, ?_⟩) (by assumption) ?_
  rotate_left 1
  · (intro w hSw; (try dsimp only at hSw); go_simp <;> first | with_reducible rfl | (rw [if_pos (by omega)]))
  try simp only [Act.put, List.setIfInBounds_toArray, List.set_cons_zero, List.set_cons_succ]
  refine wpAnyH_take (i := 3) (oi := ⟨some 49, _, _, _, _, _⟩) (v := ?_) rfl (by kernel_rfl) (by kernel_rfl) (by kernel_rfl) (fun _ _ _ h => h) (Or.inl ⟨by rfl, ?_⟩) (by assumption) ?_
  rotate_left 1
  · (intro w hSw; (try dsimp only at hSw); go_simp <;> first | with_reducible rfl | (rw [if_pos (by omega)]))
  try simp only [Act.put, List.setIfInBounds_toArray, List.set_cons_zero, List.set_cons_succ]
  refine wpAnyH_take (i := 4) (oi := ⟨some 50, _, _, _, _, _⟩) (v := ?_) rfl (by kernel_rfl) (by kernel_rfl) (by kernel_rfl) (fun _ _ _ h => h) (Or.inl ⟨by rfl, ?_⟩) (by assumption) ?_
  rotate_left 1
  · (intro w hSw; (try dsimp only at hSw); go_simp <;> first | with_reducible rfl | (rw [if_pos (by omega)]))
  try simp only [Act.put, List.setIfInBounds_toArray, List.set_cons_zero, List.set_cons_succ]
  refine wpAnyH_take (i := 5) (oi := ⟨some 51, _, _, _, _, _⟩) (v := ?_) rfl (by kernel_rfl) (by kernel_rfl) (by kernel_rfl) (fun _ _ _ h => h) (Or.inl ⟨by rfl, ?_⟩) (by assumption) ?_
  rotate_left 1
  · (intro w hSw; (try dsimp only at hSw); go_simp <;> first | with_reducible rfl | (rw [if_pos (by omega)]))
  try simp only [Act.put, List.setIfInBounds_toArray, List.set_cons_zero, List.set_cons_succ]
  refine wpAnyH_take (i := 6) (oi := ⟨some 52, _, _, _, _, _⟩) (v := ?_) rfl (by kernel_rfl) (by kernel_rfl) (by kernel_rfl) (fun _ _ _ h => h) (Or.inl ⟨by rfl, ?_⟩) (by assumption) ?_
  rotate_left 1
  · (intro w hSw; (try dsimp only at hSw); go_simp <;> first | with_reducible rfl | (rw [if_pos (by omega)]))
  try simp only [Act.put, List.setIfInBounds_toArray, List.set_cons_zero, List.set_cons_succ]
  refine wpAnyH_take (i := 7) (oi := ⟨some 53, _, _, _, _, _⟩) (v := ?_) rfl (by kernel_rfl) (by kernel_rfl) (by kernel_rfl) (fun _ _ _ h => h) (Or.inl ⟨by rfl, ?_⟩) (by assumption) ?_
  rotate_left 1
  · (intro w hSw; (try dsimp only at hSw); go_simp <;> first | with_reducible rfl | (rw [if_pos (by omega)]))
  try simp only [Act.put, List.setIfInBounds_toArray, List.set_cons_zero, List.set_cons_succ]
  refine wpAnyH_ready (rs := [8]) (by kernel_rfl) (by simp) ?_
  refine AllReadyH.cons (o := ⟨some 54, _, _, _, _, _⟩) rfl (fun K hK => ?_) AllReadyH.nil
  refine step_copy_by hc2 rfl _ _ rfl rfl rfl ?_
  refine hK.out _ _ ?_ (fun hHeld => ?_)
  · ((try dsimp only); try trivial)
  clear hK K
  try simp only [Act.put, List.setIfInBounds_toArray, List.set_cons_zero, List.set_cons_succ]
  refine wpAnyH_done (by kernel_rfl) ?_ _
  refine NoPanic.normal ?_
  go_wp2_with fail
  go_ret
  exact ⟨_, rfl, Hfin.out, hb3⟩

set_option maxHeartbeats 4000000 in
set_option maxRecDepth 100000 in
theorem insertShiftU (base g n c i : Nat) (cur : Array Value) (xs : List U) (hn : xs.length = n) (hs : n ≤ 100000000) (x : U) (cs : Array Value) (hcs : cs.toList = encU x) (w : World)
    (hbg : base ≤ g) (hbw : base ≤ w.heap.size) (hcm : c ≤ maxLen)
    (hg : w.heap[g]? = some (.cells cur 41 (0, 0))) (hsz : cur.size = c * 2) (htk : cur.toList.take (n * 2) = flatE encU xs) (hi : i < n) (hc : n ≤ c) (hroom : n + 1 ≤ c) :
    Calls Try.prog 18 #[.slice (some ⟨g, 0, none⟩) n c, .int .i64 i, .slice (some ⟨w.heap.size, 0, none⟩) 1 1] (w.alloc (.cells cs 41)) fun e w' =>
      ∃ v', e = .returned v' ∧ OwnE encU 41 2 w' base v' (xs.take i ++ x :: xs.drop i) ∧ Below base w w' := by
  obtain ⟨i0, hi0, hz0, hzs, hzb⟩ := (elemU).info
  unfold maxLen at hcm
  have hgw : g < w.heap.size := (Array.getElem?_eq_some_iff.1 hg).1
  have hfl := flatE_length encU_ok xs
  rw [hn] at hfl
  have hel := (encU_ok).len x
  have hcl : cur.toList.length = c * 2 := by rw [← hsz]; simp
  have hsl1 := fun wx => slice_up elemU wx g 0 n c (n + 1) ((n : Int) + 1) (by omega) (by omega) (by omega)
  have hsl0 := fun wx => slice_at elemU wx g 0 n c i i rfl (by omega) (by omega)
  have hsl3 := fun wx => slice_at elemU wx g 0 (n + 1) c (i + 1) ((i : Int) + 1) (by omega) (by omega) (by omega)
  have hsl4 := fun wx => slice_at elemU wx g 0 (n + 1) c i i rfl (by omega) (by omega)
  rw [Nat.zero_add] at hsl3 hsl4 hsl0
  obtain ⟨W1, hW1⟩ : ∃ W1, W1 = w.alloc (.cells cs 41) := ⟨_, rfl⟩
  have hb1 : Below base w W1 := by rw [hW1]; exact (below_alloc _ _).mono hbw
  have hvb : W1.heap[w.heap.size]? = some (.cells cs 41 (0, 0)) := by rw [hW1]; exact heap_alloc_new w (.cells cs 41)
  have hg1 : W1.heap[g]? = some (.cells cur 41 (0, 0)) := by rw [hW1, (below_alloc w (.cells cs 41)).block g hgw]; exact hg
  have hov := overlapsU_no W1 w.heap.size g ((i + 1) * 2) 1 1 (n - i) (c - (i + 1)) (by omega) cs cur hvb hg1 (by rw [hsz]; omega)
  have hszi : (Try.prog.info? 41).map (·.size) = some 2 := by rw [hi0]; simp [hzs]
  have hdl : ((flatE encU xs).drop (i * 2)).length = (n - i) * 2 := by rw [List.length_drop, hfl]; omega
  have hc1 := run_copy_sz (P := Try.prog) W1.drew 22 22 3 41 2 g ((i + 1) * 2) (n - i) (c - (i + 1)) ⟨g, i * 2, none⟩ (n + 1 - i) (c - i) (n - i) cur 41 ((flatE encU xs).drop (i * 2)) Try.underlying22 hszi hg1 (by exact Nat.min_eq_right (by omega)) hdl (fun j v hj => by
    rw [add_plain]
    rw [List.getElem?_drop, ← htk, List.getElem?_take] at hj
    split at hj
    · rw [show W1.drew.cell? ⟨g, i * 2 + j, none⟩ = W1.cell? ⟨g, i * 2 + j, none⟩ from rfl, cell_at hg1]; simpa using hj
    · cases hj) (by rw [hdl, hsz]; omega) (fun v hv => flatE_oneCell encU_ok xs v (List.mem_of_mem_drop hv))
  obtain ⟨R2, hR2⟩ : ∃ R2, R2 = cur.toList.take ((i + 1) * 2) ++ (flatE encU xs).drop (i * 2) ++ cur.toList.drop ((i + 1) * 2 + ((flatE encU xs).drop (i * 2)).length) := ⟨_, rfl⟩
  rw [← hR2] at hc1
  have hR2l : R2.length = c * 2 := by rw [hR2, List.length_append, List.length_append, hdl, List.length_take, List.length_drop, hcl]; omega
  obtain ⟨W2, hW2⟩ : ∃ W2, W2 = W1.drew.setRow g R2.toArray := ⟨_, rfl⟩
  rw [← hW2] at hc1
  have hb2 : Below base w W2 := by rw [hW2]; exact below_row hb1.drew hbg _
  have hg2 : W2.heap[g]? = some (.cells R2.toArray 41 (0, 0)) := by rw [hW2]; exact heap_setRow (w := W1.drew) hg1
  have hvb2 : W2.heap[w.heap.size]? = some (.cells cs 41 (0, 0)) := by rw [hW2, setRow_other _ _ _ _ (by omega)]; exact hvb
  have hc2 := run_copy_sz (P := Try.prog) W2 22 22 3 41 2 g (i * 2) (n + 1 - i) (c - i) ⟨w.heap.size, 0, none⟩ 1 1 1 R2.toArray 41 (encU x) Try.underlying22 hszi hg2 (Nat.min_eq_left (by omega)) (by rw [hel]) (fun j v hj => by
    rw [add_plain, Nat.zero_add, cell_at hvb2, ← hj, ← hcs]; simp) (by rw [hel]; simp [hR2l]; omega) (encU_ok.one x)
  obtain ⟨W3, hW3⟩ : ∃ W3, W3 = W2.setRow g (R2.toArray.toList.take (i * 2) ++ encU x ++ R2.toArray.toList.drop (i * 2 + (encU x).length)).toArray := ⟨_, rfl⟩
  rw [← hW3] at hc2
  have hb3 : Below base w W3 := by rw [hW3]; exact below_row hb2 hbg _
  have hfin : OwnE encU 41 2 W3 base (.slice (some ⟨g, 0, none⟩) (n + 1) c) (xs.take i ++ x :: xs.drop i) := by
    refine ⟨by rw [flatE_length encU_ok], Or.inr ⟨g, c, _, by rw [len_insU _ _ _ (by omega), hn], hbg, by rw [hW3]; exact heap_setRow hg2, by rw [len_insU _ _ _ (by omega), hn]; exact hroom, hcm, ?_, ?_⟩⟩
    · simp [hel, hR2l]; omega
    · have h := splice_down (R := cur.toList) (E := encU x) (D := (flatE encU xs).drop (i * 2)) (p := i * 2) (by rw [hel, hcl]; omega)
      rw [hdl, hel] at h
      rw [hdl] at hR2
      simp only [show i * 2 + 2 = (i + 1) * 2 by omega, show (i + 1) * 2 + (n - i) * 2 = (n + 1) * 2 by omega] at h hR2
      have hct : cur.toList.take (i * 2) = (flatE encU xs).take (i * 2) := by rw [← htk, List.take_take]; congr 1; omega
      rw [len_insU _ _ _ (by omega), hn, flat_insU, ← hct, ← List.append_assoc, ← h, ← hR2]
      simp [hel, show i * 2 + 2 = (i + 1) * 2 by omega]
  have Hfin := Lib.hid hfin
  have hni : ((i : Int) == n) = false := by rw [beq_eq_false_iff_ne]; omega
  have hci : decide ((c : Int) < (n : Int) + 1) = false := by rw [decide_eq_false_iff_not]; omega
  have hin : i ≤ n := by omega
  have hw1 : IntKind.i64.wrap ((i : Int) + 1) = (i : Int) + 1 := by rw [IntKind.wrap_i64]; omega
  simp only [Nat.add_sub_add_right] at hsl3
  rw [← hW1]
  clear hW1 hW2 hW3 hvb hg1 hg2 hfin htk hg hfl hel hcs hdl hb1 hb2 hi0 hz0 hszi hR2 hR2l hvb2 hcl hsz
  go_enter Try.func18, Try.ntmps18
  go_wp2_with (simp only [hov])
  refine wp_region_noPanic ?_
  refine wp_region_held_drew (S := (fun _ => True)) (by kernel_rfl) ?_ (fun hHeld => ?_)
  · ((try dsimp only); try trivial)
  refine wpAnyH_take (i := 0) (oi := ⟨some 69, _, _, _, _, _⟩) (v := ?_) rfl (by kernel_rfl) (by kernel_rfl) (by kernel_rfl) (fun _ _ _ h => h) (Or.inl ⟨by rfl, ?_⟩) (by assumption) ?_
  rotate_left 1
  · (intro w hSw; (try dsimp only at hSw); go_simp <;> first | with_reducible rfl | (rw [if_pos (by omega)]))
  try simp only [Act.put, List.setIfInBounds_toArray, List.set_cons_zero, List.set_cons_succ]
  refine wpAnyH_take (i := 1) (oi := ⟨some 70, _, _, _, _, _⟩) (v := ?_) rfl (by kernel_rfl) (by kernel_rfl) (by kernel_rfl) (fun _ _ _ h => h) (Or.inl ⟨by rfl, ?_⟩) (by assumption) ?_
  rotate_left 1
  · (intro w hSw; (try dsimp only at hSw); go_simp <;> first | with_reducible rfl | (rw [if_pos (by omega)]))
  try simp only [Act.put, List.setIfInBounds_toArray, List.set_cons_zero, List.set_cons_succ]
  refine wpAnyH_take (i := 2) (oi := ⟨some 71, _, _, _, _, _⟩) (v := ?_) rfl (by kernel_rfl) (by kernel_rfl) (by kernel_rfl) (fun _ _ _ h => h) (Or.inl ⟨by rfl, ?_⟩) (by assumption) ?_
  rotate_left 1
  · (intro w hSw; (try dsimp only at hSw); go_simp <;> first | with_reducible rfl | (rw [if_pos (by omega)]))
  try simp only [Act.put, List.setIfInBounds_toArray, List.set_cons_zero, List.set_cons_succ]
  refine wpAnyH_take (i := 3) (oi := ⟨some 72, _, _, _, _, _⟩) (v := ?_) rfl (by kernel_rfl) (by kernel_rfl) (by kernel_rfl) (fun _ _ _ h => h) (Or.inl ⟨by rfl, ?_⟩) (by assumption) ?_
  rotate_left 1
  · (intro w hSw; (try dsimp only at hSw); go_simp <;> first | with_reducible rfl | (rw [if_pos (by omega)]))
  try simp only [Act.put, List.setIfInBounds_toArray, List.set_cons_zero, List.set_cons_succ]
  refine wpAnyH_take (i := 4) (oi := ⟨some 73, _, _, _, _, _⟩) (v := ?_) rfl (by kernel_rfl) (by kernel_rfl) (by kernel_rfl) (fun _ _ _ h => h) (Or.inl ⟨by rfl, ?_⟩) (by assumption) ?_
  rotate_left 1
  · (intro w hSw; (try dsimp only at hSw); go_simp <;> first | with_reducible rfl | (rw [if_pos (by omega)]))
  try simp only [Act.put, List.setIfInBounds_toArray, List.set_cons_zero, List.set_cons_succ]
  refine wpAnyH_take (i := 5) (oi := ⟨some 74, _, _, _, _, _⟩) (v := ?_) rfl (by kernel_rfl) (by kernel_rfl) (by kernel_rfl) (fun _ _ _ h => h) (Or.inl ⟨by rfl, ?_⟩) (by assumption) ?_
  rotate_left 1
  · (intro w hSw; (try dsimp only at hSw); go_simp <;> first | with_reducible rfl | (rw [if_pos (by omega)]))
  try simp only [Act.put, List.setIfInBounds_toArray, List.set_cons_zero, List.set_cons_succ]
  refine wpAnyH_take (i := 6) (oi := ⟨some 75, _, _, _, _, _⟩) (v := ?_) rfl (by kernel_rfl) (by kernel_rfl) (by kernel_rfl) (fun _ _ _ h => h) (Or.inl ⟨by rfl, ?_⟩) (by assumption) ?_
  rotate_left 1
  · (intro w hSw; (try dsimp only at hSw); go_simp <;> first | with_reducible rfl | (rw [if_pos (by omega)]))
  try simp only [Act.put, List.setIfInBounds_toArray, List.set_cons_zero, List.set_cons_succ]
  refine wpAnyH_take (i := 7) (oi := ⟨some 76, _, _, _, _, _⟩) (v := ?_) rfl (by kernel_rfl) (by kernel_rfl) (by kernel_rfl) (fun _ _ _ h => h) (Or.inl ⟨by rfl, ?_⟩) (by assumption) ?_
  rotate_left 1
  · (intro w hSw; (try dsimp only at hSw); go_simp <;> first | with_reducible rfl | (rw [if_pos (by omega)]))
  try simp only [Act.put, List.setIfInBounds_toArray, List.set_cons_zero, List.set_cons_succ]
  refine wpAnyH_ready (rs := [8]) (by kernel_rfl) (by simp) ?_
  refine AllReadyH.cons (o := ⟨some 77, _, _, _, _, _⟩) rfl (fun K hK => ?_) AllReadyH.nil
  refine step_copy_by hc1 rfl _ _ rfl rfl rfl ?_
  refine hK.out _ _ ?_ (fun hHeld => ?_)
  · ((try dsimp only); try trivial)
  clear hK K
  try simp only [Act.put, List.setIfInBounds_toArray, List.set_cons_zero, List.set_cons_succ]
  refine wpAnyH_done (by kernel_rfl) ?_ _
  refine NoPanic.normal ?_
  go_wp2_with (at_builtin; refine wpList_copy_by hc2 rfl _ _ rfl rfl rfl ?_)
  go_ret
  exact ⟨_, rfl, Hfin.out, hb3⟩

/-- slices.Insert(v, i, x), v the call's own -/
theorem insertU_any (base : Nat) (v : Value) (xs : List U) (hs : xs.length ≤ 100000000) (x : U) (i : Nat) (hi : i ≤ xs.length) (cs : Array Value) (hcs : cs.toList = encU x) (w : World) (hown : OwnE encU 41 2 w base v xs) (hbase : base ≤ w.heap.size) :
    Calls Try.prog 18 #[v, .int .i64 i, .slice (some ⟨w.heap.size, 0, none⟩) 1 1] (w.alloc (.cells cs 41)) fun e w' =>
      ∃ v', e = .returned v' ∧ OwnE encU 41 2 w' base v' (xs.take i ++ x :: xs.drop i) ∧ Below base w w' := by
  rcases Nat.lt_or_ge i xs.length with h | h
  · obtain ⟨h1, ⟨_, h2⟩ | ⟨g, c, cur, rfl, hb, hg, hnc, hcm, hsz, htk⟩⟩ := hown
    · omega
    · rcases Nat.lt_or_ge c (xs.length + 1) with hr | hr
      · refine (insertGrowU g xs.length c i cur xs rfl hs x cs hcs w hg hsz htk h hnc hr).mono ?_
        rintro e w1 ⟨v', rfl, h3, h4⟩
        exact ⟨v', rfl, h3.base hbase, h4.mono hbase⟩
      · exact insertShiftU base g xs.length c i cur xs rfl hs x cs hcs w hb hbase hcm hg hsz htk h hnc hr
  · obtain rfl : i = xs.length := by omega
    rw [List.take_length, List.drop_length]
    exact insertEndU base xs.length v xs rfl hs x cs hcs w hown hbase
end Go.Proofs.Ytgmpoakcbgnfbaa
