/-
  slices.Insert of one mark into an own row of marks, whatever the cells.
-/
import Derived.Test.YtlmkeoegammdjaaRowE
import Derived.Deep.QuietTactic
import Derived.Deep.RegionHeld3
import Derived.Deep.DrawnRows
import Derived.StillTailTactics
import Derived.BigQuiet
import Derived.Lib.Overlaps
import Derived.Lib.AppendZerosOnto
import Derived.Laws.NewBlocks
namespace Go.Proofs.Ytlmkeoegammdjaa
open Go.ChangeShapes Go.WideShapes Go.ChangeAt Go.RowKit
set_option linter.unusedSimpArgs false
set_option linter.unusedVariables false
attribute [local go_sem ↓] Go.wp_at_zero Go.wp_at_succ

abbrev C10 := {vs : List Value // vs.length = 10 ∧ ∀ u ∈ vs, u.oneCell' = true}
abbrev encC (x : C10) : List Value := x.1
theorem encC_ok : Enc encC 10 := ⟨fun x => x.2.1, fun x u hu => x.2.2 u hu, by omega⟩
abbrev zM : Value := .agg #[.string ByteArray.empty, .string ByteArray.empty, .int .i64 0, .bool false, .int .i64 0, .int .i64 0, .string ByteArray.empty, .int .i64 0, .int .i64 0, .slice none 0 0]
theorem elemM : ElemT Try.prog 23 38 zM 10 120 :=
  ⟨Try.underlying23, info_parts (show (Try.prog.info? 38).map (fun i => (i.zero, i.size, i.bytes)) = some (some zM, 10, 120) by kernel_rfl), by kernel_rfl, by decide⟩
theorem overlapsM_no (w : World) (vb g off la ca lb cb : Nat) (hne : vb ≠ g) (cv cur : Array Value) (hv : w.heap[vb]? = some (.cells cv 38 (0, 0))) (hg : w.heap[g]? = some (.cells cur 38 (0, 0))) (hpos : cur.size ≠ 0) :
    (callFunc 43 #[.slice (some ⟨vb, 0, none⟩) la ca, .slice (some ⟨g, off, none⟩) lb cb]).run Try.prog w = .ok (.value (.bool false)) w := by
  have hs : (Try.prog.funcs[43]?).isSome = true := by kernel_rfl
  have hf : Try.prog.funcs[43]? = some ((Try.prog.funcs[43]?).get hs) := by simp
  obtain ⟨i, hi, hz, hsz, hbt⟩ := (elemM).info
  rw [run_callFunc_extern hf (by kernel_rfl) (by kernel_rfl) (by kernel_rfl) (e := Extern.SlicesOverlaps.overlaps #[23, 23] #[4]) (by kernel_rfl),
    Lib.run_overlaps_apart w 23 4 38 Try.underlying23 10 (fun w => by simp [sizeOf, typeInfo, hi, hsz]) ⟨vb, 0, none⟩ ⟨g, off, none⟩ la ca lb cb hne 38 38 cv.size cur.size (by simp [World.shape?, hv]) (by simp [World.shape?, hg]) hpos (by simp [World.frozen?, hv]) (by simp [World.frozen?, hv])]
  rfl
theorem flat_insM (xs : List C10) (x : C10) (i : Nat) : flatE encC (xs.take i ++ x :: xs.drop i) = (flatE encC xs).take (i * 10) ++ (encC x ++ (flatE encC xs).drop (i * 10)) := by
  rw [flatE_append, flatE_cons, flatE_take encC_ok, flatE_drop encC_ok]
theorem len_insM (xs : List C10) (x : C10) (i : Nat) (h : i ≤ xs.length) : (xs.take i ++ x :: xs.drop i).length = xs.length + 1 := by
  rw [List.length_append, List.length_cons, List.length_take, List.length_drop]; omega

set_option maxHeartbeats 4000000 in
set_option maxRecDepth 100000 in
theorem insertGrowM (g vb n c vc i : Nat) (cur cv : Array Value) (xs : List C10) (hn : xs.length = n) (hs : n ≤ 100000000) (x : C10) (w : World)
    (hg : w.heap[g]? = some (.cells cur 38 (0, 0))) (hv : w.heap[vb]? = some (.cells cv 38 (0, 0))) (htk : cur.toList.take (n * 10) = flatE encC xs) (hcv : cv.toList.take 10 = encC x) (hi : i < n) (hc : n ≤ c) (hroom : c < n + 1) :
    Calls Try.prog 36 #[.slice (some ⟨g, 0, none⟩) n c, .int .i64 i, .slice (some ⟨vb, 0, none⟩) 1 vc] w fun e w' =>
      ∃ (g' c' : Nat) (cur' : Array Value), e = .returned (.slice (some ⟨g', 0, none⟩) (n + 1) c') ∧ w.heap.size ≤ g' ∧ w'.heap[g']? = some (.cells cur' 38 (0, 0)) ∧ n + 1 ≤ c' ∧ c' ≤ maxLen ∧ c' * 10 ≤ cur'.size ∧
        cur'.toList.take ((n + 1) * 10) = flatE encC (xs.take i ++ x :: xs.drop i) ∧ Below w.heap.size w w' := by
  obtain ⟨i0, hi0, hz0, hzs, hzb⟩ := (elemM).info
  have hgw : g < w.heap.size := (Array.getElem?_eq_some_iff.1 hg).1
  have hvw : vb < w.heap.size := (Array.getElem?_eq_some_iff.1 hv).1
  have hfl := flatE_length encC_ok xs
  rw [hn] at hfl
  have hel := (encC_ok).len x
  have hcell : ∀ j v, (flatE encC xs)[j]? = some v → w.cell? ⟨g, j, none⟩ = some v := fun j v hj => by
    rw [cell_at hg, ← htk, List.getElem?_take] at *
    split at hj
    · simpa using hj
    · cases hj
  have hsl1 := fun wx => slice_up elemM wx g 0 n c i i rfl (by omega) (by omega)
  have hold : (Builtin.firstCells i0.size i (.slice (some ⟨g, 0, none⟩) i c)).run Try.prog w.drew = .ok ((flatE encC xs).take (i * 10)).toArray w.drew := by
    rw [hzs]
    refine run_firstCells_some _ 10 i ⟨g, 0, none⟩ i c _ (by rw [List.length_take, hfl, Nat.min_eq_left (Nat.mul_le_mul_right _ (by omega))]) (fun j v hj => ?_)
    rw [List.getElem?_take] at hj
    split at hj
    · rw [add_plain, Nat.zero_add]
      exact hcell j v hj
    · cases hj
  have hrz := Lib.run_append_grow_zeros w 23 3 23 38 i0 _ .i64 .i64 Try.underlying23 Try.underlying3 hi0 hz0 (some ⟨g, 0, none⟩) i c _ hold (n + 1 - i) (by omega) (by rw [hzs]; omega) (by omega) (by omega) (by rw [hzb]; omega) (by rw [hzb, show i + (n + 1 - i) = n + 1 by omega]; exact growslice_fits hroom (by omega))
  rw [show i + (n + 1 - i) = n + 1 by omega, show ((n + 1 - i : Nat) : Int) = (n : Int) + 1 - (i : Int) by omega] at hrz
  have hGn := grownCap_ge w (n + 1) c 38
  have hG63 := grownCap_le_maxLen w (n + 1) c 38 (by unfold maxLen; omega)
  generalize grownCap w (n + 1) c 38 = G at *
  obtain ⟨ROW, hROW⟩ : ∃ ROW : Array Value, ROW = ((flatE encC xs).take (i * 10)).toArray ++ Builtin.zeroCells zM.cells (n + 1 - i) ++ Builtin.zeroCells zM.cells (G - (n + 1)) := ⟨_, rfl⟩
  have hRl : ROW.size = G * 10 := by
    have hz2 : zM.cells.size = 10 := (elemM).zsize
    rw [hROW, Array.size_append, Array.size_append, size_zeroCells, size_zeroCells, hz2, List.size_toArray, List.length_take, hfl, Nat.min_eq_left (Nat.mul_le_mul_right _ (by omega))]
    rw [← Nat.add_mul, ← Nat.add_mul]
    congr 1; omega
  have hRt : ROW.toList.take (i * 10) = (flatE encC xs).take (i * 10) := by
    rw [hROW, Array.toList_append, Array.toList_append, List.append_assoc]
    exact List.take_left' (by rw [List.length_take, hfl]; omega)
  rw [← hROW] at hrz
  clear hROW hold
  obtain ⟨W1, hW1⟩ : ∃ W1, W1 = w.drew.alloc (.cells ROW 38) := ⟨_, rfl⟩
  have hb1 : Below w.heap.size w W1 := by
    rw [hW1]
    exact ((Below.refl _ w).drew).trans ((below_alloc w.drew _).mono (Nat.le_refl _))
  have hh1 : W1.heap[w.heap.size]? = some (.cells ROW 38 (0, 0)) := by
    rw [hW1]
    exact heap_alloc_new w.drew (.cells ROW 38)
  have hvb : W1.heap[vb]? = some (.cells cv 38 (0, 0)) := by
    rw [hb1.block vb hvw]; exact hv
  rw [← hW1] at hrz
  have hszi : (Try.prog.info? 38).map (·.size) = some 10 := by rw [hi0]; simp [hzs]
  have hsl2 := fun wx => slice_at elemM wx w.heap.size 0 (n + 1) G i i rfl (by omega) (by omega)
  rw [Nat.zero_add] at hsl2
  have hvcell : ∀ j v, (encC x)[j]? = some v → W1.cell? ⟨vb, j, none⟩ = some v := fun j v hj => by
    rw [cell_at hvb]
    rw [← hcv, List.getElem?_take] at hj
    split at hj
    · simpa using hj
    · cases hj
  have hc1 := run_copy_sz (P := Try.prog) W1 23 23 3 38 10 w.heap.size (i * 10) (n + 1 - i) (G - i) ⟨vb, 0, none⟩ 1 vc 1 ROW 38 (encC x) Try.underlying23 hszi hh1 (Nat.min_eq_left (by omega)) (by rw [hel]) (fun j v hj => by
    rw [add_plain, Nat.zero_add]; exact hvcell j v hj) (by rw [hel, hRl]; omega) (encC_ok.one x)
  obtain ⟨W2, hW2⟩ : ∃ W2, W2 = W1.setRow w.heap.size (ROW.toList.take (i * 10) ++ encC x ++ ROW.toList.drop (i * 10 + (encC x).length)).toArray := ⟨_, rfl⟩
  rw [← hW2] at hc1
  have hb2 : Below w.heap.size w W2 := by rw [hW2]; exact below_row hb1 (by omega) _
  have hh2 : W2.heap[w.heap.size]? = some (.cells (ROW.toList.take (i * 10) ++ encC x ++ ROW.toList.drop (i * 10 + (encC x).length)).toArray 38 (0, 0)) := by rw [hW2]; exact heap_setRow hh1
  have hsl3 := fun wx => slice_at elemM wx w.heap.size 0 (n + 1) G (i + 1) ((i : Int) + 1) (by omega) (by omega) (by omega)
  rw [Nat.zero_add] at hsl3
  have hsl4 := fun wx => slice_at elemM wx g 0 n c i i rfl (by omega) (by omega)
  rw [Nat.zero_add] at hsl4
  have hdl : ((flatE encC xs).drop (i * 10)).length = (n - i) * 10 := by rw [List.length_drop, hfl]; omega
  have hc2 := run_copy_sz (P := Try.prog) W2.drew 23 23 3 38 10 w.heap.size ((i + 1) * 10) (n + 1 - (i + 1)) (G - (i + 1)) ⟨g, i * 10, none⟩ (n - i) (c - i) (n - i) _ 38 ((flatE encC xs).drop (i * 10)) Try.underlying23 hszi hh2 (by rw [show n + 1 - (i + 1) = n - i by omega]; exact Nat.min_self _) hdl (fun j v hj => by
    rw [add_plain]
    rw [List.getElem?_drop] at hj
    exact (hb2.drew.cell (p := ⟨g, _, none⟩) hgw).trans (hcell _ v hj)) (by simp only [List.size_toArray, List.length_append, List.length_take, List.length_drop, Array.length_toList, hel, hdl, hRl]; omega) (fun v hv => flatE_oneCell encC_ok xs v (List.mem_of_mem_drop hv))
  simp only [Nat.add_sub_add_right] at hsl3 hc2
  clear hcell hvcell
  obtain ⟨W3, hW3⟩ : ∃ W3, W3 = W2.drew.setRow w.heap.size ((ROW.toList.take (i * 10) ++ encC x ++ ROW.toList.drop (i * 10 + (encC x).length)).toArray.toList.take ((i + 1) * 10) ++ (flatE encC xs).drop (i * 10) ++ (ROW.toList.take (i * 10) ++ encC x ++ ROW.toList.drop (i * 10 + (encC x).length)).toArray.toList.drop ((i + 1) * 10 + ((flatE encC xs).drop (i * 10)).length)).toArray := ⟨_, rfl⟩
  rw [← hW3] at hc2
  have hb3 : Below w.heap.size w W3 := by rw [hW3]; exact below_row hb2.drew (by omega) _
  have hfin : ∃ (cur' : Array Value), W3.heap[w.heap.size]? = some (.cells cur' 38 (0, 0)) ∧ G * 10 ≤ cur'.size ∧ cur'.toList.take ((n + 1) * 10) = flatE encC (xs.take i ++ x :: xs.drop i) := by
    refine ⟨_, by rw [hW3]; exact heap_setRow hh2, ?_, ?_⟩
    · simp only [List.size_toArray, List.length_append, List.length_take, List.length_drop, Array.length_toList, hel, hdl, hRl]; omega
    · have h := splice_up (R := ROW.toList) (E := encC x) (D := (flatE encC xs).drop (i * 10)) (p := i * 10) (by rw [Array.length_toList, hRl]; omega)
      rw [hel, hdl, show i * 10 + 10 = (i + 1) * 10 by omega, show (i + 1) * 10 + (n - i) * 10 = (n + 1) * 10 by omega] at h
      rw [flat_insM, ← hRt, ← List.append_assoc]
      simp only [hel, hdl, show i * 10 + 10 = (i + 1) * 10 by omega, show (i + 1) * 10 + (n - i) * 10 = (n + 1) * 10 by omega]
      simpa using h
  have Hfin := Lib.hid hfin
  have hni : ((i : Int) == n) = false := by rw [beq_eq_false_iff_ne]; omega
  have hci : decide ((c : Int) < (n : Int) + 1) = true := by rw [decide_eq_true_iff]; omega
  have hin : i ≤ n := by omega
  have hw1 : IntKind.i64.wrap ((i : Int) + 1) = (i : Int) + 1 := by rw [IntKind.wrap_i64]; omega
  clear hW1 hW2 hW3 hh1 hvb hh2 hfin htk hg hRt hRl hfl hel hcv hdl hb1 hb2 hi0 hz0 hszi hv hvw
  go_enter Try.func36, Try.ntmps36
  go_wp2_with (first | (at_builtin; refine wpList_append_by hrz rfl _ _ rfl rfl rfl ?_) | (at_builtin; refine wpList_copy_by hc1 rfl _ _ rfl rfl rfl ?_))
  refine wp_region_noPanic ?_
  refine wp_region_held_drew (S := (fun _ => True)) (by kernel_rfl) ?_ (fun hHeld => ?_)
  · ((try dsimp only); try trivial)
  refine wpAnyH_take (i := 0) (oi := ⟨some 46, _, _, _, _, _⟩) (v := ?_) rfl (by kernel_rfl) (by kernel_rfl) (by kernel_rfl) (fun _ _ _ h => h) (Or.inl ⟨by rfl, ?_⟩) (by assumption) ?_
  rotate_left 1
  · (intro w hSw; (try dsimp only at hSw); go_simp <;> first | with_reducible rfl | (rw [if_pos (by omega)]))
  try simp only [Act.put, List.setIfInBounds_toArray, List.set_cons_zero, List.set_cons_succ]
  refine wpAnyH_take (i := 1) (oi := ⟨some 47, _, _, _, _, _⟩) (v := ?_) rfl (by kernel_rfl) (by kernel_rfl) (by kernel_rfl) (fun _ _ _ h => h) (Or.inl ⟨by rfl, ?_⟩) (by assumption) ?_
  rotate_left 1
  · (intro w hSw; (try dsimp only at hSw); go_simp <;> first | with_reducible rfl | (rw [if_pos (by omega)]))
  try simp only [Act.put, List.setIfInBounds_toArray, List.set_cons_zero, List.set_cons_succ]
  refine wpAnyH_take (i := 2) (oi := ⟨some 48, _, _, _, _, _⟩) (v := ?_) rfl (by kernel_rfl) (by kernel_rfl) (by kernel_rfl) (fun _ _ _ h => h) (Or.inl ⟨by rfl, ?_⟩) (by assumption) ?_
  rotate_left 1
  · (intro w hSw; (try dsimp only at hSw); go_simp <;> first | with_reducible rfl | (rw [if_pos (by omega)]))
  try simp only [Act.put, List.setIfInBounds_toArray, List.set_cons_zero, List.set_cons_succ]
  refine wpAnyH_take (i := 3) (oi := ⟨some 49, _, _, _, _, _⟩) (v := ?_) rfl (by kernel_rfl) (by kernel_rfl) (by kernel_rfl) (fun _ _ _ h => h) (Or.inl ⟨by rfl, ?_⟩) (by assumption) ?_
  rotate_left 1
  · (intro w hSw; (try dsimp only at hSw); go_simp <;> first | with_reducible rfl | (rw [if_pos (by omega)]))
  try simp only [Act.put, List.setIfInBounds_toArray, List.set_cons_zero, List.set_cons_succ]
  refine wpAnyH_take (i := 4) (oi := ⟨some 50, _, _, _, _, _⟩) (v := ?_) rfl (by kernel_rfl) (by kernel_rfl) (by kernel_rfl) (fun _ _ _ h => h) (Or.inl ⟨by rfl, ?_⟩) (by assumption) ?_
  rotate_left 1
  · (intro w hSw; (try dsimp only at hSw); go_simp <;> first | with_reducible rfl | (rw [if_pos (by omega)]))
  try simp only [Act.put, List.setIfInBounds_toArray, List.set_cons_zero, List.set_cons_succ]
  refine wpAnyH_take (i := 5) (oi := ⟨some 51, _, _, _, _, _⟩) (v := ?_) rfl (by kernel_rfl) (by kernel_rfl) (by kernel_rfl) (fun _ _ _ h => h) (Or.inl ⟨by rfl, ?_⟩) (by assumption) ?_
  rotate_left 1
  · (intro w hSw; (try dsimp only at hSw); go_simp <;> first | with_reducible rfl | (rw [if_pos (by omega)]))
  try simp only [Act.put, List.setIfInBounds_toArray, List.set_cons_zero, List.set_cons_succ]
  refine wpAnyH_take (i := 6) (oi := ⟨some 52, _, _, _, _, _⟩) (v := ?_) rfl (by kernel_rfl) (by kernel_rfl) (by kernel_rfl) (fun _ _ _ h => h) (Or.inl ⟨by rfl, ?_⟩) (by assumption) ?_
  rotate_left 1
  · (intro w hSw; (try dsimp only at hSw); go_simp <;> first | with_reducible rfl | (rw [if_pos (by omega)]))
  try simp only [Act.put, List.setIfInBounds_toArray, List.set_cons_zero, List.set_cons_succ]
  refine wpAnyH_take (i := 7) (oi := ⟨some 53, _, _, _, _, _⟩) (v := ?_) rfl (by kernel_rfl) (by kernel_rfl) (by kernel_rfl) (fun _ _ _ h => h) (Or.inl ⟨by rfl, ?_⟩) (by assumption) ?_
  rotate_left 1
  · (intro w hSw; (try dsimp only at hSw); go_simp <;> first | with_reducible rfl | (rw [if_pos (by omega)]))
  try simp only [Act.put, List.setIfInBounds_toArray, List.set_cons_zero, List.set_cons_succ]
  refine wpAnyH_ready (rs := [8]) (by kernel_rfl) (by simp) ?_
  refine AllReadyH.cons (o := ⟨some 54, _, _, _, _, _⟩) rfl (fun K hK => ?_) AllReadyH.nil
  refine step_copy_by hc2 rfl _ _ rfl rfl rfl ?_
  refine hK.out _ _ ?_ (fun hHeld => ?_)
  · ((try dsimp only); try trivial)
  clear hK K
  try simp only [Act.put, List.setIfInBounds_toArray, List.set_cons_zero, List.set_cons_succ]
  refine wpAnyH_done (by kernel_rfl) ?_ _
  refine NoPanic.normal ?_
  go_wp2_with fail
  go_ret
  obtain ⟨cur', f1, f2, f3⟩ := Hfin.out
  exact ⟨_, _, cur', rfl, Nat.le_refl _, f1, hGn, hG63, f2, f3, hb3⟩

set_option maxHeartbeats 4000000 in
set_option maxRecDepth 100000 in
theorem insertShiftM (g vb n c vc i : Nat) (cur cv : Array Value) (xs : List C10) (hn : xs.length = n) (hs : n ≤ 100000000) (x : C10) (w : World)
    (hne : vb ≠ g) (hcm : c ≤ maxLen)
    (hg : w.heap[g]? = some (.cells cur 38 (0, 0))) (hv : w.heap[vb]? = some (.cells cv 38 (0, 0))) (hsz : c * 10 ≤ cur.size) (htk : cur.toList.take (n * 10) = flatE encC xs) (hcv : cv.toList.take 10 = encC x) (hi : i < n) (hc : n ≤ c) (hroom : n + 1 ≤ c) :
    Calls Try.prog 36 #[.slice (some ⟨g, 0, none⟩) n c, .int .i64 i, .slice (some ⟨vb, 0, none⟩) 1 vc] w fun e w' =>
      ∃ (cur' : Array Value), e = .returned (.slice (some ⟨g, 0, none⟩) (n + 1) c) ∧ w'.heap[g]? = some (.cells cur' 38 (0, 0)) ∧ cur'.size = cur.size ∧
        cur'.toList.take ((n + 1) * 10) = flatE encC (xs.take i ++ x :: xs.drop i) ∧ w.grownBy w' (some g) := by
  obtain ⟨i0, hi0, hz0, hzs, hzb⟩ := (elemM).info
  unfold maxLen at hcm
  have hgw : g < w.heap.size := (Array.getElem?_eq_some_iff.1 hg).1
  have hfl := flatE_length encC_ok xs
  rw [hn] at hfl
  have hel := (encC_ok).len x
  have hcl : c * 10 ≤ cur.toList.length := by simpa using hsz
  have hsl1 := fun wx => slice_up elemM wx g 0 n c (n + 1) ((n : Int) + 1) (by omega) (by omega) (by omega)
  have hsl0 := fun wx => slice_at elemM wx g 0 n c i i rfl (by omega) (by omega)
  have hsl3 := fun wx => slice_at elemM wx g 0 (n + 1) c (i + 1) ((i : Int) + 1) (by omega) (by omega) (by omega)
  have hsl4 := fun wx => slice_at elemM wx g 0 (n + 1) c i i rfl (by omega) (by omega)
  rw [Nat.zero_add] at hsl3 hsl4 hsl0
  have hov := overlapsM_no w vb g ((i + 1) * 10) 1 vc (n - i) (c - (i + 1)) hne cv cur hv hg (by omega)
  have hszi : (Try.prog.info? 38).map (·.size) = some 10 := by rw [hi0]; simp [hzs]
  have hdl : ((flatE encC xs).drop (i * 10)).length = (n - i) * 10 := by rw [List.length_drop, hfl]; omega
  have hc1 := run_copy_sz (P := Try.prog) w.drew 23 23 3 38 10 g ((i + 1) * 10) (n - i) (c - (i + 1)) ⟨g, i * 10, none⟩ (n + 1 - i) (c - i) (n - i) cur 38 ((flatE encC xs).drop (i * 10)) Try.underlying23 hszi hg (by exact Nat.min_eq_right (by omega)) hdl (fun j v hj => by
    rw [add_plain]
    rw [List.getElem?_drop, ← htk, List.getElem?_take] at hj
    split at hj
    · rw [show w.drew.cell? ⟨g, i * 10 + j, none⟩ = w.cell? ⟨g, i * 10 + j, none⟩ from rfl, cell_at hg]; simpa using hj
    · cases hj) (by rw [hdl]; omega) (fun v hv => flatE_oneCell encC_ok xs v (List.mem_of_mem_drop hv))
  obtain ⟨R2, hR2⟩ : ∃ R2, R2 = cur.toList.take ((i + 1) * 10) ++ (flatE encC xs).drop (i * 10) ++ cur.toList.drop ((i + 1) * 10 + ((flatE encC xs).drop (i * 10)).length) := ⟨_, rfl⟩
  rw [← hR2] at hc1
  have hR2l : R2.length = cur.toList.length := by rw [hR2, List.length_append, List.length_append, hdl, List.length_take, List.length_drop]; omega
  obtain ⟨W2, hW2⟩ : ∃ W2, W2 = w.drew.setRow g R2.toArray := ⟨_, rfl⟩
  rw [← hW2] at hc1
  have hb2 : w.grownBy W2 (some g) := by rw [hW2]; exact ⟨rfl, rfl, rfl, by show _ ≤ (w.drew.setRow g R2.toArray).heap.size; rw [show (w.drew.setRow g R2.toArray).heap.size = w.drew.heap.size by simp [World.setRow]]; exact Nat.le_refl _, fun k hk h => by rw [setRow_other _ _ _ _ (by rintro rfl; exact h rfl)]; rfl⟩
  have hg2 : W2.heap[g]? = some (.cells R2.toArray 38 (0, 0)) := by rw [hW2]; exact heap_setRow (w := w.drew) hg
  have hvb2 : W2.heap[vb]? = some (.cells cv 38 (0, 0)) := by rw [hW2, setRow_other _ _ _ _ hne]; exact hv
  have hc2 := run_copy_sz (P := Try.prog) W2 23 23 3 38 10 g (i * 10) (n + 1 - i) (c - i) ⟨vb, 0, none⟩ 1 vc 1 R2.toArray 38 (encC x) Try.underlying23 hszi hg2 (Nat.min_eq_left (by omega)) (by rw [hel]) (fun j v hj => by
    rw [add_plain, Nat.zero_add, cell_at hvb2]
    rw [← hcv, List.getElem?_take] at hj
    split at hj
    · simpa using hj
    · cases hj) (by rw [hel, List.size_toArray, hR2l]; omega) (encC_ok.one x)
  obtain ⟨W3, hW3⟩ : ∃ W3, W3 = W2.setRow g (R2.toArray.toList.take (i * 10) ++ encC x ++ R2.toArray.toList.drop (i * 10 + (encC x).length)).toArray := ⟨_, rfl⟩
  rw [← hW3] at hc2
  have hb3 : w.grownBy W3 (some g) := by rw [hW3]; exact ⟨hb2.os, hb2.tape, hb2.output, by simpa [World.setRow] using hb2.size, fun k hk h => by rw [setRow_other _ _ _ _ (by rintro rfl; exact h rfl)]; exact hb2.block k hk h⟩
  have hfin : ∃ (cur' : Array Value), W3.heap[g]? = some (.cells cur' 38 (0, 0)) ∧ cur'.size = cur.size ∧ cur'.toList.take ((n + 1) * 10) = flatE encC (xs.take i ++ x :: xs.drop i) := by
    refine ⟨_, by rw [hW3]; exact heap_setRow hg2, ?_, ?_⟩
    · rw [List.size_toArray, List.length_append, List.length_append, List.length_take, List.length_drop, hel, List.toList_toArray, hR2l, Array.length_toList]; omega
    · have h := splice_down (R := cur.toList) (E := encC x) (D := (flatE encC xs).drop (i * 10)) (p := i * 10) (by rw [hel]; omega)
      rw [hdl, hel] at h
      rw [hdl] at hR2
      simp only [show i * 10 + 10 = (i + 1) * 10 by omega, show (i + 1) * 10 + (n - i) * 10 = (n + 1) * 10 by omega] at h hR2
      have hct : cur.toList.take (i * 10) = (flatE encC xs).take (i * 10) := by rw [← htk, List.take_take]; congr 1; omega
      rw [flat_insM, ← hct, ← List.append_assoc, ← h, ← hR2]
      simp [hel, show i * 10 + 10 = (i + 1) * 10 by omega]
  have Hfin := Lib.hid hfin
  have hni : ((i : Int) == n) = false := by rw [beq_eq_false_iff_ne]; omega
  have hci : decide ((c : Int) < (n : Int) + 1) = false := by rw [decide_eq_false_iff_not]; omega
  have hin : i ≤ n := by omega
  have hw1 : IntKind.i64.wrap ((i : Int) + 1) = (i : Int) + 1 := by rw [IntKind.wrap_i64]; omega
  simp only [Nat.add_sub_add_right] at hsl3
  clear hW2 hW3 hv hg2 hfin htk hg hfl hel hcv hdl hb2 hi0 hz0 hszi hR2 hR2l hvb2 hcl hsz
  go_enter Try.func36, Try.ntmps36
  go_wp2_with (simp only [hov])
  refine wp_region_noPanic ?_
  refine wp_region_held_drew (S := (fun _ => True)) (by kernel_rfl) ?_ (fun hHeld => ?_)
  · ((try dsimp only); try trivial)
  refine wpAnyH_take (i := 0) (oi := ⟨some 69, _, _, _, _, _⟩) (v := ?_) rfl (by kernel_rfl) (by kernel_rfl) (by kernel_rfl) (fun _ _ _ h => h) (Or.inl ⟨by rfl, ?_⟩) (by assumption) ?_
  rotate_left 1
  · (intro w hSw; (try dsimp only at hSw); go_simp <;> first | with_reducible rfl | (rw [if_pos (by omega)]))
  try simp only [Act.put, List.setIfInBounds_toArray, List.set_cons_zero, List.set_cons_succ]
  refine wpAnyH_take (i := 1) (oi := ⟨some 70, _, _, _, _, _⟩) (v := ?_) rfl (by kernel_rfl) (by kernel_rfl) (by kernel_rfl) (fun _ _ _ h => h) (Or.inl ⟨by rfl, ?_⟩) (by assumption) ?_
  rotate_left 1
  · (intro w hSw; (try dsimp only at hSw); go_simp <;> first | with_reducible rfl | (rw [if_pos (by omega)]))
  try simp only [Act.put, List.setIfInBounds_toArray, List.set_cons_zero, List.set_cons_succ]
  refine wpAnyH_take (i := 2) (oi := ⟨some 71, _, _, _, _, _⟩) (v := ?_) rfl (by kernel_rfl) (by kernel_rfl) (by kernel_rfl) (fun _ _ _ h => h) (Or.inl ⟨by rfl, ?_⟩) (by assumption) ?_
  rotate_left 1
  · (intro w hSw; (try dsimp only at hSw); go_simp <;> first | with_reducible rfl | (rw [if_pos (by omega)]))
  try simp only [Act.put, List.setIfInBounds_toArray, List.set_cons_zero, List.set_cons_succ]
  refine wpAnyH_take (i := 3) (oi := ⟨some 72, _, _, _, _, _⟩) (v := ?_) rfl (by kernel_rfl) (by kernel_rfl) (by kernel_rfl) (fun _ _ _ h => h) (Or.inl ⟨by rfl, ?_⟩) (by assumption) ?_
  rotate_left 1
  · (intro w hSw; (try dsimp only at hSw); go_simp <;> first | with_reducible rfl | (rw [if_pos (by omega)]))
  try simp only [Act.put, List.setIfInBounds_toArray, List.set_cons_zero, List.set_cons_succ]
  refine wpAnyH_take (i := 4) (oi := ⟨some 73, _, _, _, _, _⟩) (v := ?_) rfl (by kernel_rfl) (by kernel_rfl) (by kernel_rfl) (fun _ _ _ h => h) (Or.inl ⟨by rfl, ?_⟩) (by assumption) ?_
  rotate_left 1
  · (intro w hSw; (try dsimp only at hSw); go_simp <;> first | with_reducible rfl | (rw [if_pos (by omega)]))
  try simp only [Act.put, List.setIfInBounds_toArray, List.set_cons_zero, List.set_cons_succ]
  refine wpAnyH_take (i := 5) (oi := ⟨some 74, _, _, _, _, _⟩) (v := ?_) rfl (by kernel_rfl) (by kernel_rfl) (by kernel_rfl) (fun _ _ _ h => h) (Or.inl ⟨by rfl, ?_⟩) (by assumption) ?_
  rotate_left 1
  · (intro w hSw; (try dsimp only at hSw); go_simp <;> first | with_reducible rfl | (rw [if_pos (by omega)]))
  try simp only [Act.put, List.setIfInBounds_toArray, List.set_cons_zero, List.set_cons_succ]
  refine wpAnyH_take (i := 6) (oi := ⟨some 75, _, _, _, _, _⟩) (v := ?_) rfl (by kernel_rfl) (by kernel_rfl) (by kernel_rfl) (fun _ _ _ h => h) (Or.inl ⟨by rfl, ?_⟩) (by assumption) ?_
  rotate_left 1
  · (intro w hSw; (try dsimp only at hSw); go_simp <;> first | with_reducible rfl | (rw [if_pos (by omega)]))
  try simp only [Act.put, List.setIfInBounds_toArray, List.set_cons_zero, List.set_cons_succ]
  refine wpAnyH_take (i := 7) (oi := ⟨some 76, _, _, _, _, _⟩) (v := ?_) rfl (by kernel_rfl) (by kernel_rfl) (by kernel_rfl) (fun _ _ _ h => h) (Or.inl ⟨by rfl, ?_⟩) (by assumption) ?_
  rotate_left 1
  · (intro w hSw; (try dsimp only at hSw); go_simp <;> first | with_reducible rfl | (rw [if_pos (by omega)]))
  try simp only [Act.put, List.setIfInBounds_toArray, List.set_cons_zero, List.set_cons_succ]
  refine wpAnyH_ready (rs := [8]) (by kernel_rfl) (by simp) ?_
  refine AllReadyH.cons (o := ⟨some 77, _, _, _, _, _⟩) rfl (fun K hK => ?_) AllReadyH.nil
  refine step_copy_by hc1 rfl _ _ rfl rfl rfl ?_
  refine hK.out _ _ ?_ (fun hHeld => ?_)
  · ((try dsimp only); try trivial)
  clear hK K
  try simp only [Act.put, List.setIfInBounds_toArray, List.set_cons_zero, List.set_cons_succ]
  refine wpAnyH_done (by kernel_rfl) ?_ _
  refine NoPanic.normal ?_
  go_wp2_with (at_builtin; refine wpList_copy_by hc2 rfl _ _ rfl rfl rfl ?_)
  go_ret
  obtain ⟨cur', f1, f2, f3⟩ := Hfin.out
  exact ⟨cur', rfl, f1, f2, f3, hb3⟩
end Go.Proofs.Ytlmkeoegammdjaa
