/-
  QueuePlays: for every input the law returns true and changes nothing that was there; no conditions.
-/
import Derived.Test.YtajcfogddgekpaaWalks3
import Derived.Test.YtajcfogddgekpaaOpen
namespace Go.Proofs.Ytajcfogddgekpaa.queuePlays
open Go.ChangeShapes Go.WideShapes Go.ChangeAt Go.RowKit
set_option linter.unusedVariables false

theorem own : ownKnob Try.prog.godebug = none := by kernel_rfl
theorem laidOut : laidOutB Try.prog = true := by kernel_rfl
/-- no pair stands twice -/
def Uniq (cur : List P2) : Prop := ∀ i j (hi : i < cur.length) (hj : j < cur.length), i ≠ j → eqP cur[i].1 cur[i].2 cur[j].1 cur[j].2 = false
theorem Uniq.nil : Uniq [] := fun i j hi => by simp at hi
theorem Uniq.tail {p : P2} {r : List P2} (h : Uniq (p :: r)) : Uniq r := fun i j hi hj hij => by
  have := h (i + 1) (j + 1) (by simp; omega) (by simp; omega) (by omega)
  simpa using this
theorem not_has {cur : List P2} {p : P2} (h : hasP cur p = false) (i : Nat) (hi : i < cur.length) : eqP cur[i].1 cur[i].2 p.1 p.2 = false := by
  unfold hasP at h
  simpa using List.any_eq_false.1 h cur[i] (List.getElem_mem _)
theorem Uniq.snoc {cur : List P2} {p : P2} (h : Uniq cur) (hp : hasP cur p = false) : Uniq (cur ++ [p]) := fun i j hi hj hij => by
  simp only [List.length_append, List.length_singleton] at hi hj
  by_cases h1 : i < cur.length <;> by_cases h2 : j < cur.length
  · simp only [List.getElem_append_left h1, List.getElem_append_left h2]; exact h i j h1 h2 hij
  · obtain rfl : j = cur.length := by omega
    simp only [List.getElem_append_left h1, List.getElem_append_right (Nat.le_refl _), Nat.sub_self, List.getElem_cons_zero]; exact not_has hp i h1
  · obtain rfl : i = cur.length := by omega
    simp only [List.getElem_append_left h2, List.getElem_append_right (Nat.le_refl _), Nat.sub_self, List.getElem_cons_zero]; rw [eqP_comm]; exact not_has hp j h2
  · omega
/-- both slices read as cur -/
def QInv (wx : World) (q m : Value) (cur : List P2) : Prop := ∃ aq cq am cm, q = .slice aq cur.length cq ∧ m = .slice am cur.length cm ∧ RowP wx aq cur.length cq cur ∧ RowP wx am cur.length cm cur ∧ cur.length ≤ cq ∧ cur.length ≤ cm
theorem QInv.below {w w' : World} {q m : Value} {cur : List P2} (h : QInv w q m cur) (hb : Below w.heap.size w w') : QInv w' q m cur := by
  obtain ⟨aq, cq, am, cm, h1, h2, h3, h4, h5, h6⟩ := h
  exact ⟨aq, cq, am, cm, h1, h2, h3.below hb, h4.below hb, h5, h6⟩
theorem own_cap {w : World} {base n c : Nat} {a : Option Addr} {ps : List P2} (h : OwnP w base (.slice a n c) ps) : ps.length ≤ c := by
  rcases h.2 with ⟨h1, h2⟩ | ⟨g, c', cur, h1, _, _, h2, _⟩
  · omega
  · cases h1; exact h2
/-- what is left after a step that pushes -/
def stepL (cur : List P2) (n : Int) (p : P2) : List P2 := if pushE cur n p = 0 then pushL cur n p else cur
theorem stepL_ok {cur : List P2} {n : Int} {p : P2} (hl : (cur.length : Int) ≤ n) (hu : Uniq cur) : ((stepL cur n p).length : Int) ≤ n ∧ Uniq (stepL cur n p) := by
  unfold stepL pushE pushL
  cases hh : hasP cur p
  · simp only [Bool.false_eq_true, if_false]
    by_cases hn : n ≤ cur.length
    · simp [hn]; exact ⟨hl, hu⟩
    · simp [hn]; exact ⟨by omega, hu.snoc hh⟩
  · simp; exact ⟨hl, hu⟩
set_option maxRecDepth 20000 in set_option maxHeartbeats 8000000 in
theorem walk (v0 v1 : Value) (w : World) (g0 : Arg Try.prog w 5 v0) (g1 : Arg Try.prog w 38 v1) :
    Calls Try.prog 4 #[v0, v1] w fun e w' => e = .returned (.bool true) ∧ Below w.heap.size w w' := by
  obtain ⟨room, rfl, hr0⟩ := Arg.int Try.underlying5 g0
  obtain ⟨a, len, cap, rfl, hlc, hcm, hnil, zs, hzl, hrow, hwf⟩ := Arg.ints (n := 2) (el := 5) Try.underlying38 (by kernel_rfl) Try.underlying5 (by kernel_rfl) (by decide) g1
  have hrm := wf_u8 hr0
  clear g0 g1 hr0
  unfold maxLen at hcm
  have hby : ∀ z ∈ zs, 0 ≤ z ∧ z ≤ 255 := fun z hz => wf_u8 (hwf z hz)
  have hB0 := Below.refl w.heap.size w
  have Hzl := Lib.hid hzl
  have hn0 : 0 ≤ room % 6 ∧ room % 6 ≤ 5 := by omega
  have heq := eql_pair
  have hneq := neq_pair
  clear hwf hnil hlc hzl
  go_enter Try.func4, Try.ntmps4
  go_wp2_with fail
  generalize room % 6 = n at *
  go_loopw [5, 6, 8] (fun q m i wr => ∃ j : Nat, j ≤ len ∧ j ≤ 40 ∧ i = .int .i64 j ∧ Below w.heap.size w wr ∧ ∃ cur, QInv wr q m cur ∧ (cur.length : Int) ≤ n ∧ Uniq cur) (fun _ _ i _ => 40 - (intOf i).toNat)
  case atStart => exact ⟨0, Nat.zero_le _, by omega, rfl, hB0, [], ⟨none, 0, none, 0, rfl, rfl, ⟨rfl, by simp, fun _ => rfl, RowV.nil _ _⟩, ⟨rfl, by simp, fun _ => rfl, RowV.nil _ _⟩, by simp, by simp⟩, by simp; omega, Uniq.nil⟩
  case round =>
    obtain ⟨j, hj, hj40, rfl, hB, cur, hI, hcl, hU⟩ := hrel
    obtain ⟨aq, cq, am, cm, rfl, rfl, hQ, hM, hcq, hcm⟩ := hI
    have hbs := hB.size
    by_cases hlt : j < len ∧ j < 40
    · obtain ⟨hlt1, hlt2⟩ := hlt
      have hz := Hzl.out
      obtain ⟨b, off, rfl, hbb, hc⟩ := hrow.addr (by rw [List.length_map]; omega)
      have c0 := hc (j * 2) (by rw [List.length_map]; omega)
      have c1 := hc (j * 2 + 1) (by rw [List.length_map]; omega)
      rw [List.getElem_map] at c0 c1
      have y0 := hby _ (List.getElem_mem (l := zs) (n := j * 2) (by omega))
      have y1 := hby _ (List.getElem_mem (l := zs) (n := j * 2 + 1) (by omega))
      rw [← hB.cell (p := ⟨b, _, none⟩) hbb] at c0 c1
      generalize zs[j * 2] = x0 at c0 y0
      generalize zs[j * 2 + 1] = x1 at c1 y1
      rw [← Nat.add_assoc] at c1
      clear hc hz hby hB0
      go_wp2_with fail
      with_reducible refine (pair_any _ _ y1).mono ?_
      rintro e w2 ⟨rfl, hb2⟩
      have hQ2 := (hQ.below hb2).below (below_alloc w2 (.cells #[.string (pairOf x1).1, .string (pairOf x1).2] 24))
      have hM2 := (hM.below hb2).below (below_alloc w2 (.cells #[.string (pairOf x1).1, .string (pairOf x1).2] 24))
      have c2 := (hb2.cell (cell_lt c0)).trans c0
      have hne : b ≠ w2.heap.size := by have := hb2.size; omega
      have hB2 := hB.trans (hb2.mono hbs)
      have hbs2 := hB2.size
      have hB3 := hB2.alloc hbs2 (.cells #[.string (pairOf x1).1, .string (pairOf x1).2] 24)
      have c2' := (((below_alloc w2 (.cells #[.string (pairOf x1).1, .string (pairOf x1).2] 24)).cell (p := ⟨b, _, none⟩) (cell_lt c2)).trans c2 : (w2.alloc (.cells #[.string (pairOf x1).1, .string (pairOf x1).2] 24)).cell? ⟨b, off + j * 2, none⟩ = some (.int .u8 x0))
      have hx : (w2.alloc (.cells #[.string (pairOf x1).1, .string (pairOf x1).2] 24)).cell? ⟨w2.heap.size, 0, none⟩ = some (.string (pairOf x1).1) := by simp
      have hy : (w2.alloc (.cells #[.string (pairOf x1).1, .string (pairOf x1).2] 24)).cell? ⟨w2.heap.size, 1, none⟩ = some (.string (pairOf x1).2) := by simp
      clear hQ hM hB hbs hB2 hb2 c0 c1 c2 hne
      go_upto_if 44 with (fail)
      go_cut [5, 6] (fun q m wx => Below w.heap.size w wx ∧ ∃ cur, QInv wx q m cur ∧ (cur.length : Int) ≤ n ∧ Uniq cur)
      case first =>
        by_cases h3 : x0 % 3 = 0
        · have hb3 : (x0 % 3 == 0) = true := beq_iff_eq.2 h3
          clear h3 hx hy
          go_wp2_with fail
          with_reducible refine (pop_any _ _ _ _ _ hQ2 hcq).mono ?_
          rintro e w4 ⟨v4, rfl, ho4, hb4⟩
          have hM4 := hM2.below hb4
          have hB4 := hB3.trans (hb4.mono hB3.size)
          have hbs4 := hB4.size
          cases cur with
          | nil =>
            have z1 : (headP []).1 = ⟨#[]⟩ := rfl
            have z2 : (headP []).2 = ⟨#[]⟩ := rfl
            rw [z1, z2]
            have hQ4 := hQ2.below hb4
            have hZ := Below.refl w4.heap.size w4
            have Ho4 := Lib.hid ho4
            clear ho4 hQ2 hM2 hb4
            go_wp2_with fail
            refine wp_region_noPanic ?_
            refine wp_region_held_drew (S := (fun w' => Below w4.heap.size w4 w')) (by kernel_rfl) ?_ (fun hHeld => ?_)
            · ((try dsimp only); (repeat' (first | (with_reducible exact Below.refl _ _) | (with_reducible assumption) | (with_reducible refine Below.drew ?_) | (with_reducible refine Below.setCell ?_ ?_ _) | (with_reducible refine Below.alloc ?_ ?_ _) | (exact belowT (by assumption) hbx) | (exact belowT (by assumption) (by assumption)) | (exact belowT (by first | assumption | exact Below.refl _ _ | exact below_alloc _ _ | exact Below.drew (by first | assumption | exact Below.refl _ _)) (by assumption)) | (exact Below.size (by assumption)) | (simp; done) | (simp; omega) | omega)))
            refine wpAnyH_take (i := 0) (oi := ⟨some 51, _, _, _, _, _⟩) (v := ?_) rfl (by kernel_rfl) (by kernel_rfl) (by kernel_rfl) (fun _ _ _ h => h) (Or.inl ⟨by rfl, ?_⟩) (by assumption) ?_
            rotate_left 1
            · (intro w hSw; (try dsimp only at hSw); go_simp <;> with_reducible rfl)
            try simp only [Act.put, List.setIfInBounds_toArray, List.set_cons_zero, List.set_cons_succ]
            refine wpAnyH_take (i := 1) (oi := ⟨some 52, _, _, _, _, _⟩) (v := ?_) rfl (by kernel_rfl) (by kernel_rfl) (by kernel_rfl) (fun _ _ _ h => h) (Or.inl ⟨by rfl, ?_⟩) (by assumption) ?_
            rotate_left 1
            · (intro w hSw; (try dsimp only at hSw); go_simp <;> with_reducible rfl)
            try simp only [Act.put, List.setIfInBounds_toArray, List.set_cons_zero, List.set_cons_succ]
            refine wpAnyH_take (i := 2) (oi := ⟨some 53, _, _, _, _, _⟩) (v := ?_) rfl (by kernel_rfl) (by kernel_rfl) (by kernel_rfl) (fun _ _ _ h => h) (Or.inl ⟨by rfl, ?_⟩) (by assumption) ?_
            rotate_left 1
            · (intro w hSw; (try dsimp only at hSw); go_simp <;> with_reducible rfl)
            try simp only [Act.put, List.setIfInBounds_toArray, List.set_cons_zero, List.set_cons_succ]
            refine wpAnyH_take (i := 3) (oi := ⟨some 54, _, _, _, _, _⟩) (v := ?_) rfl (by kernel_rfl) (by kernel_rfl) (by kernel_rfl) (fun _ _ _ h => h) (Or.inl ⟨by rfl, ?_⟩) (by assumption) ?_
            rotate_left 1
            · (intro w hSw; (try dsimp only at hSw); go_simp <;> with_reducible rfl)
            try simp only [Act.put, List.setIfInBounds_toArray, List.set_cons_zero, List.set_cons_succ]
            refine wpAnyH_take (i := 4) (oi := ⟨some 55, _, _, _, _, _⟩) (v := ?_) rfl (by kernel_rfl) (by kernel_rfl) (by kernel_rfl) (fun _ _ _ h => h) (Or.inl ⟨by rfl, ?_⟩) (by assumption) ?_
            rotate_left 1
            · (intro w hSw; (try dsimp only at hSw); go_simp <;> with_reducible rfl)
            try simp only [Act.put, List.setIfInBounds_toArray, List.set_cons_zero, List.set_cons_succ]
            refine wpAnyH_take (i := 5) (oi := ⟨some 56, _, _, _, _, _⟩) (v := ?_) rfl (by kernel_rfl) (by kernel_rfl) (by kernel_rfl) (fun _ _ _ h => h) (Or.inl ⟨by rfl, ?_⟩) (by assumption) ?_
            rotate_left 1
            · (intro w hSw; (try dsimp only at hSw); go_simp <;> with_reducible rfl)
            try simp only [Act.put, List.setIfInBounds_toArray, List.set_cons_zero, List.set_cons_succ]
            refine wpAnyH_take (i := 6) (oi := ⟨some 57, _, _, _, _, _⟩) (v := ?_) rfl (by kernel_rfl) (by kernel_rfl) (by kernel_rfl) (fun _ _ _ h => h) (Or.inl ⟨by rfl, ?_⟩) (by assumption) ?_
            rotate_left 1
            · (intro w hSw; (try dsimp only at hSw); go_simp <;> with_reducible rfl)
            try simp only [Act.put, List.setIfInBounds_toArray, List.set_cons_zero, List.set_cons_succ]
            refine wpAnyH_take (i := 7) (oi := ⟨some 58, _, _, _, _, _⟩) (v := ?_) rfl (by kernel_rfl) (by kernel_rfl) (by kernel_rfl) (fun _ _ _ h => h) (Or.inl ⟨by rfl, ?_⟩) (by assumption) ?_
            rotate_left 1
            · (intro w hSw; (try dsimp only at hSw); go_simp <;> with_reducible rfl)
            try simp only [Act.put, List.setIfInBounds_toArray, List.set_cons_zero, List.set_cons_succ]
            refine wpAnyH_take (i := 8) (oi := ⟨some 59, _, _, _, _, _⟩) (v := undef) rfl (by kernel_rfl) (by kernel_rfl) (by kernel_rfl) (fun _ _ _ h => h) (Or.inr ⟨by rfl, rfl⟩) (by assumption) ?_
            try simp only [Act.put, List.setIfInBounds_toArray, List.set_cons_zero, List.set_cons_succ]
            refine wpAnyH_take (i := 9) (oi := ⟨some 60, _, _, _, _, _⟩) (v := undef) rfl (by kernel_rfl) (by kernel_rfl) (by kernel_rfl) (fun _ _ _ h => h) (Or.inr ⟨by rfl, rfl⟩) (by assumption) ?_
            try simp only [Act.put, List.setIfInBounds_toArray, List.set_cons_zero, List.set_cons_succ]
            refine wpAnyH_take (i := 10) (oi := ⟨some 61, _, _, _, _, _⟩) (v := undef) rfl (by kernel_rfl) (by kernel_rfl) (by kernel_rfl) (fun _ _ _ h => h) (Or.inr ⟨by rfl, rfl⟩) (by assumption) ?_
            try simp only [Act.put, List.setIfInBounds_toArray, List.set_cons_zero, List.set_cons_succ]
            refine wpAnyH_take (i := 11) (oi := ⟨some 62, _, _, _, _, _⟩) (v := undef) rfl (by kernel_rfl) (by kernel_rfl) (by kernel_rfl) (fun _ _ _ h => h) (Or.inr ⟨by rfl, rfl⟩) (by assumption) ?_
            try simp only [Act.put, List.setIfInBounds_toArray, List.set_cons_zero, List.set_cons_succ]
            refine wpAnyH_take (i := 12) (oi := ⟨some 63, _, _, _, _, _⟩) (v := undef) rfl (by kernel_rfl) (by kernel_rfl) (by kernel_rfl) (fun _ _ _ h => h) (Or.inr ⟨by rfl, rfl⟩) (by assumption) ?_
            try simp only [Act.put, List.setIfInBounds_toArray, List.set_cons_zero, List.set_cons_succ]
            refine wpAnyH_take (i := 13) (oi := ⟨some 64, _, _, _, _, _⟩) (v := ?_) rfl (by kernel_rfl) (by kernel_rfl) (by kernel_rfl) (fun _ _ _ h => h) (Or.inl ⟨by rfl, ?_⟩) (by assumption) ?_
            rotate_left 1
            · (intro w hSw; (try dsimp only at hSw); go_simp <;> with_reducible rfl)
            try simp only [Act.put, List.setIfInBounds_toArray, List.set_cons_zero, List.set_cons_succ]
            refine wpAnyH_take (i := 14) (oi := ⟨some 65, _, _, _, _, _⟩) (v := ?_) rfl (by kernel_rfl) (by kernel_rfl) (by kernel_rfl) (fun _ _ _ h => h) (Or.inl ⟨by rfl, ?_⟩) (by assumption) ?_
            rotate_left 1
            · (intro w hSw; (try dsimp only at hSw); go_simp <;> with_reducible rfl)
            try simp only [Act.put, List.setIfInBounds_toArray, List.set_cons_zero, List.set_cons_succ]
            refine wpAnyH_done (by kernel_rfl) ?_ _
            refine NoPanic.normal ?_
            go_wp2_with fail
            go_meet
            case rel => exact ⟨hB4.trans (hHeld.mono hbs4), [], ⟨_, _, _, _, rfl, rfl, hQ4.below hHeld, hM4.below hHeld, hcq, hcm⟩, hcl, hU⟩
          | cons p r =>
            have z1 : (headP (p :: r)).1 = p.1 := rfl
            have z2 : (headP (p :: r)).2 = p.2 := rfl
            have z3 : (p :: r).tail = r := rfl
            rw [z1, z2]
            rw [z3] at ho4
            have hl : (p :: r).length = r.length + 1 := rfl
            have hd : decide ((0 : Int) < ((p :: r).length : Nat)) = true := by rw [hl, decide_eq_true_iff]; omega
            rw [hd]
            rw [hl] at hcq hcm hM4 hcl
            have hrl : r.length ≤ 5 := by omega
            obtain ⟨av, cv, rfl, hR4⟩ := ho4.rowP (by omega)
            have hcv := own_cap ho4
            obtain ⟨a5, hsl, hT⟩ := hM4.tail hcm
            obtain ⟨b5, off5, rfl, hbb5, c5, c6⟩ := hM4.at 0 (by omega)
            simp only [Nat.zero_mul, Nat.add_zero, List.getElem_cons_zero] at c5 c6
            have he5 := eqP_self p
            obtain ⟨p1, p2⟩ := p
            have hbA := below_alloc w4 (.cells #[.string p1, .string p2] 24)
            have d1 : (w4.alloc (.cells #[.string p1, .string p2] 24)).cell? ⟨w4.heap.size, 0, none⟩ = some (.string p1) := by simp
            have d2 : (w4.alloc (.cells #[.string p1, .string p2] 24)).cell? ⟨w4.heap.size, 1, none⟩ = some (.string p2) := by simp
            rw [← hbA.cell (p := ⟨b5, _, none⟩) hbb5] at c5 c6
            have hRA := hR4.below hbA
            have hTA := hT.below hbA
            have hBA := hB4.trans (hbA.mono hbs4)
            have hU' := hU.tail
            have hcl' : ((r.length : Nat) : Int) ≤ n := by omega
            have hcm' : r.length ≤ cm - 1 := by omega
            clear ho4 hM4 hM2 hQ2 hb4 hB4 hbA hR4 hT hU hcl hcm hd z1 z2 z3
            simp only [List.length_cons]
            go_wp2_with fail
            have hZ := Below.refl (w4.alloc (.cells #[.string p1, .string p2] 24)).heap.size (w4.alloc (.cells #[.string p1, .string p2] 24))
            refine wp_region_noPanic ?_
            refine wp_region_held_drew (S := (fun w' => w'.cell? ⟨w4.heap.size, 0, none⟩ = some (.string p1) ∧ w'.cell? ⟨w4.heap.size, 1, none⟩ = some (.string p2) ∧ w'.cell? ⟨b5, off5, none⟩ = some (.string p1) ∧ w'.cell? ⟨b5, off5 + 1, none⟩ = some (.string p2) ∧ Below (w4.alloc (.cells #[.string p1, .string p2] 24)).heap.size (w4.alloc (.cells #[.string p1, .string p2] 24)) w')) (by kernel_rfl) ?_ (fun hHeld => ?_)
            · ((try dsimp only); exact keep4 d1 d2 c5 c6 (by go_split_ands; (repeat' (first | (with_reducible exact Below.refl _ _) | (with_reducible assumption) | (with_reducible refine Below.drew ?_) | (with_reducible refine Below.setCell ?_ ?_ _) | (with_reducible refine Below.alloc ?_ ?_ _) | (exact belowT (by assumption) hbx) | (exact belowT (by assumption) (by assumption)) | (exact belowT (by first | assumption | exact Below.refl _ _ | exact below_alloc _ _ | exact Below.drew (by first | assumption | exact Below.refl _ _)) (by assumption)) | (exact Below.size (by assumption)) | (simp; done) | (simp; omega) | omega))))
            refine wpAnyH_take (i := 0) (oi := ⟨some 51, _, _, _, _, _⟩) (v := ?_) rfl (by kernel_rfl) (by kernel_rfl) (by kernel_rfl) (fun _ _ _ h => h) (Or.inl ⟨by rfl, ?_⟩) (by assumption) ?_
            rotate_left 1
            · (intro w hSw; (try dsimp only at hSw); go_simp <;> with_reducible rfl)
            try simp only [Act.put, List.setIfInBounds_toArray, List.set_cons_zero, List.set_cons_succ]
            refine wpAnyH_take (i := 1) (oi := ⟨some 52, _, _, _, _, _⟩) (v := ?_) rfl (by kernel_rfl) (by kernel_rfl) (by kernel_rfl) (fun _ _ _ h => h) (Or.inl ⟨by rfl, ?_⟩) (by assumption) ?_
            rotate_left 1
            · (intro w hSw; (try dsimp only at hSw); go_simp <;> with_reducible rfl)
            try simp only [Act.put, List.setIfInBounds_toArray, List.set_cons_zero, List.set_cons_succ]
            refine wpAnyH_take (i := 2) (oi := ⟨some 53, _, _, _, _, _⟩) (v := ?_) rfl (by kernel_rfl) (by kernel_rfl) (by kernel_rfl) (fun _ _ _ h => h) (Or.inl ⟨by rfl, ?_⟩) (by assumption) ?_
            rotate_left 1
            · (intro w hSw; (try dsimp only at hSw); go_simp <;> with_reducible rfl)
            try simp only [Act.put, List.setIfInBounds_toArray, List.set_cons_zero, List.set_cons_succ]
            refine wpAnyH_take (i := 3) (oi := ⟨some 54, _, _, _, _, _⟩) (v := ?_) rfl (by kernel_rfl) (by kernel_rfl) (by kernel_rfl) (fun _ _ _ h => h) (Or.inl ⟨by rfl, ?_⟩) (by assumption) ?_
            rotate_left 1
            · (intro w hSw; (try dsimp only at hSw); go_simp <;> with_reducible rfl)
            try simp only [Act.put, List.setIfInBounds_toArray, List.set_cons_zero, List.set_cons_succ]
            refine wpAnyH_take (i := 4) (oi := ⟨some 55, _, _, _, _, _⟩) (v := ?_) rfl (by kernel_rfl) (by kernel_rfl) (by kernel_rfl) (fun _ _ _ h => h) (Or.inl ⟨by rfl, ?_⟩) (by assumption) ?_
            rotate_left 1
            · (intro w hSw; (try dsimp only at hSw); go_simp <;> with_reducible rfl)
            try simp only [Act.put, List.setIfInBounds_toArray, List.set_cons_zero, List.set_cons_succ]
            refine wpAnyH_take (i := 5) (oi := ⟨some 56, _, _, _, _, _⟩) (v := ?_) rfl (by kernel_rfl) (by kernel_rfl) (by kernel_rfl) (fun _ _ _ h => h) (Or.inl ⟨by rfl, ?_⟩) (by assumption) ?_
            rotate_left 1
            · (intro w hSw; (try dsimp only at hSw); go_simp <;> with_reducible rfl)
            try simp only [Act.put, List.setIfInBounds_toArray, List.set_cons_zero, List.set_cons_succ]
            refine wpAnyH_take (i := 6) (oi := ⟨some 57, _, _, _, _, _⟩) (v := ?_) rfl (by kernel_rfl) (by kernel_rfl) (by kernel_rfl) (fun _ _ _ h => h) (Or.inl ⟨by rfl, ?_⟩) (by assumption) ?_
            rotate_left 1
            · (intro w hSw; (try dsimp only at hSw); go_simp <;> with_reducible rfl)
            try simp only [Act.put, List.setIfInBounds_toArray, List.set_cons_zero, List.set_cons_succ]
            refine wpAnyH_take (i := 7) (oi := ⟨some 58, _, _, _, _, _⟩) (v := ?_) rfl (by kernel_rfl) (by kernel_rfl) (by kernel_rfl) (fun _ _ _ h => h) (Or.inl ⟨by rfl, ?_⟩) (by assumption) ?_
            rotate_left 1
            · (intro w hSw; (try dsimp only at hSw); go_simp <;> with_reducible rfl)
            try simp only [Act.put, List.setIfInBounds_toArray, List.set_cons_zero, List.set_cons_succ]
            refine wpAnyH_take (i := 8) (oi := ⟨some 59, _, _, _, _, _⟩) (v := ?_) rfl (by kernel_rfl) (by kernel_rfl) (by kernel_rfl) (fun _ _ _ h => h) (Or.inl ⟨by rfl, ?_⟩) (by assumption) ?_
            rotate_left 1
            · (intro w hSw; (try dsimp only at hSw); go_simp <;> with_reducible rfl)
            try simp only [Act.put, List.setIfInBounds_toArray, List.set_cons_zero, List.set_cons_succ]
            refine wpAnyH_take (i := 9) (oi := ⟨some 60, _, _, _, _, _⟩) (v := ?_) rfl (by kernel_rfl) (by kernel_rfl) (by kernel_rfl) (fun _ _ _ h => h) (Or.inl ⟨by rfl, ?_⟩) (by assumption) ?_
            rotate_left 1
            · (intro w hSw; (try dsimp only at hSw); go_simp <;> with_reducible rfl)
            try simp only [Act.put, List.setIfInBounds_toArray, List.set_cons_zero, List.set_cons_succ]
            refine wpAnyH_take (i := 10) (oi := ⟨some 61, _, _, _, _, _⟩) (v := ?_) rfl (by kernel_rfl) (by kernel_rfl) (by kernel_rfl) (fun _ _ _ h => h) (Or.inl ⟨by rfl, ?_⟩) (by assumption) ?_
            rotate_left 1
            · (intro w hSw; (try dsimp only at hSw); go_simp <;> with_reducible rfl)
            try simp only [Act.put, List.setIfInBounds_toArray, List.set_cons_zero, List.set_cons_succ]
            refine wpAnyH_take (i := 11) (oi := ⟨some 62, _, _, _, _, _⟩) (v := ?_) rfl (by kernel_rfl) (by kernel_rfl) (by kernel_rfl) (fun _ _ _ h => h) (Or.inl ⟨by rfl, ?_⟩) (by assumption) ?_
            rotate_left 1
            · (intro w hSw; (try dsimp only at hSw); go_simp <;> with_reducible rfl)
            try simp only [Act.put, List.setIfInBounds_toArray, List.set_cons_zero, List.set_cons_succ]
            refine wpAnyH_take (i := 12) (oi := ⟨some 63, _, _, _, _, _⟩) (v := ?_) rfl (by kernel_rfl) (by kernel_rfl) (by kernel_rfl) (fun _ _ _ h => h) (Or.inl ⟨by rfl, ?_⟩) (by assumption) ?_
            rotate_left 1
            · (intro w hSw; (try dsimp only at hSw); go_simp <;> with_reducible rfl)
            try simp only [Act.put, List.setIfInBounds_toArray, List.set_cons_zero, List.set_cons_succ]
            refine wpAnyH_take (i := 13) (oi := ⟨some 64, _, _, _, _, _⟩) (v := ?_) rfl (by kernel_rfl) (by kernel_rfl) (by kernel_rfl) (fun _ _ _ h => h) (Or.inl ⟨by rfl, ?_⟩) (by assumption) ?_
            rotate_left 1
            · (intro w hSw; (try dsimp only at hSw); go_simp <;> with_reducible rfl)
            try simp only [Act.put, List.setIfInBounds_toArray, List.set_cons_zero, List.set_cons_succ]
            refine wpAnyH_take (i := 14) (oi := ⟨some 65, _, _, _, _, _⟩) (v := ?_) rfl (by kernel_rfl) (by kernel_rfl) (by kernel_rfl) (fun _ _ _ h => h) (Or.inl ⟨by rfl, ?_⟩) (by assumption) ?_
            rotate_left 1
            · (intro w hSw; (try dsimp only at hSw); go_simp <;> with_reducible rfl)
            try simp only [Act.put, List.setIfInBounds_toArray, List.set_cons_zero, List.set_cons_succ]
            refine wpAnyH_done (by kernel_rfl) ?_ _
            refine NoPanic.normal ?_
            obtain ⟨_, _, _, _, hH⟩ := hHeld
            clear d1 d2 c5 c6
            go_wp2_with fail
            go_quiet (fail)
            go_wp2_with fail
            go_meet
            case rel => exact ⟨(hBA.trans (hH.mono hBA.size)).drewN _, r, ⟨_, _, _, _, rfl, rfl, hRA.below (hH.drewN _), hTA.below (hH.drewN _), hcv, hcm'⟩, hcl', hU'⟩
        · have hb3 : (x0 % 3 == 0) = false := beq_eq_false_iff_ne.2 h3
          have hstep := stepL_ok (p := pairOf x1) hcl hU
          have hpl := pushL_len cur n (pairOf x1)
          clear h3
          go_wp2_with fail
          with_reducible refine (push_any _ _ _ _ n (pairOf x1) _ hQ2 (by omega)).mono ?_
          rintro e w4 ⟨v4, rfl, ho4, hb4⟩
          rw [← hb4.cell (by simp)] at hx hy
          have hQ4 := hQ2.below hb4
          have hM4 := hM2.below hb4
          have hB4 := hB3.trans (hb4.mono hB3.size)
          have Ho4 := Lib.hid ho4
          clear ho4 hQ2 hM2 hb4 hB3
          go_wp2_with fail
          with_reducible refine (refPush_any _ _ _ _ n (pairOf x1) _ hM4 (by omega)).mono ?_
          rintro e w6 ⟨v6, rfl, ho6, hb6⟩
          have ho4 := Ho4.out.below hb6
          have hQ6 := hQ4.below hb6
          have hM6 := hM4.below hb6
          have hB6 := hB4.trans (hb6.mono hB4.size)
          clear hQ4 hM4 hb6 hB4 hx hy Ho4
          by_cases he : pushE cur n (pairOf x1) = 0
          · have hs : stepL cur n (pairOf x1) = pushL cur n (pairOf x1) := by unfold stepL; rw [if_pos he]
            rw [hs] at hstep
            rw [he]
            obtain ⟨a4, cp4, rfl, hR4⟩ := ho4.rowP (by omega)
            obtain ⟨a6, cp6, rfl, hR6⟩ := ho6.rowP (by omega)
            have hc4 := own_cap ho4
            have hc6 := own_cap ho6
            clear ho4 ho6
            go_wp2_with fail
            go_meet
            case rel => exact ⟨hB6, _, ⟨_, _, _, _, rfl, rfl, hR4, hR6, hc4, hc6⟩, hstep.1, hstep.2⟩
          · have he4 := (pushAll_no n cur (pairOf x1) [] he).1
            rw [he4]
            clear ho4 ho6
            go_wp2_with fail
            go_meet
            case rel => exact ⟨hB6, _, ⟨_, _, _, _, rfl, rfl, hQ6, hM6, hcq, hcm⟩, hcl, hU⟩
      case rest =>
        obtain ⟨hBc, cur', hI', hcl', hU'⟩ := hcut
        clear hQ2 hM2 hB3 c2' hx hy hcl hU hcq hcm
        obtain ⟨aq', cq', am', cm', rfl, rfl, hQ, hM, hcq, hcm⟩ := hI'
        have hbsc := hBc.size
        have HU := Lib.hid hU'
        clear hU'
        go_wp2_with fail
        with_reducible refine (same_any _ _ _ _ _ _ _ _ _ hQ hM).mono ?_
        rintro e w7 ⟨rfl, hb7⟩
        have hQ7 := hQ.below hb7
        have hM7 := hM.below hb7
        have hB7 := hBc.trans (hb7.mono hbsc)
        have hdd : decide (cur' = cur') = true := by simp
        rw [hdd]
        clear hQ hM hb7 hBc
        clear hdd
        have hs7 := hB7.size
        have hm5 : cur'.length ≤ 5 := by omega
        have Hcl := Lib.hid hcl'
        go_wp2_with fail
        go_loopw [17, 18, 103, 108] (fun _ _ i _ wr => ∃ k : Nat, k ≤ cur'.length ∧ i = .int .i64 k ∧ Below w7.heap.size w7 wr) (fun _ _ i _ _ => cur'.length - (intOf i).toNat)
        case atStart => exact ⟨0, Nat.zero_le _, rfl, Below.refl _ _⟩
        case round =>
          obtain ⟨k, hk, rfl, hBk⟩ := hrel
          by_cases hkl : k < cur'.length
          · go_wp2_with fail
            go_loopw [18, 108] (fun _ i wr => ∃ k2 : Nat, k2 ≤ cur'.length ∧ i = .int .i64 k2 ∧ Below w7.heap.size w7 wr) (fun _ i _ => cur'.length - (intOf i).toNat)
            case atStart => exact ⟨0, Nat.zero_le _, rfl, hBk⟩
            case round =>
              obtain ⟨k2, hk2, rfl, hB2⟩ := hrel
              by_cases hkl2 : k2 < cur'.length
              · by_cases hkk : k = k2
                · subst hkk
                  go_wp2_with fail
                  refine wp_region_noPanic ?_
                  refine wp_region_held_drew (S := (fun w' => Below w7.heap.size w7 w')) (by kernel_rfl) ?_ (fun hHeld => ?_)
                  · ((try dsimp only); (repeat' (first | (with_reducible exact Below.refl _ _) | (with_reducible assumption) | (with_reducible refine Below.drew ?_) | (with_reducible refine Below.setCell ?_ ?_ _) | (with_reducible refine Below.alloc ?_ ?_ _) | (exact belowT (by assumption) hbx) | (exact belowT (by assumption) (by assumption)) | (exact belowT (by first | assumption | exact Below.refl _ _ | exact below_alloc _ _ | exact Below.drew (by first | assumption | exact Below.refl _ _)) (by assumption)) | (exact Below.size (by assumption)) | (simp; done) | (simp; omega) | omega)))
                  refine wpAnyH_take (i := 0) (oi := ⟨some 111, _, _, _, _, _⟩) (v := ?_) rfl (by kernel_rfl) (by kernel_rfl) (by kernel_rfl) (fun _ _ _ h => h) (Or.inl ⟨by rfl, ?_⟩) (by assumption) ?_
                  rotate_left 1
                  · (intro w hSw; (try dsimp only at hSw); go_simp <;> with_reducible rfl)
                  try simp only [Act.put, List.setIfInBounds_toArray, List.set_cons_zero, List.set_cons_succ]
                  refine wpAnyH_take (i := 1) (oi := ⟨some 112, _, _, _, _, _⟩) (v := ?_) rfl (by kernel_rfl) (by kernel_rfl) (by kernel_rfl) (fun _ _ _ h => h) (Or.inl ⟨by rfl, ?_⟩) (by assumption) ?_
                  rotate_left 1
                  · (intro w hSw; (try dsimp only at hSw); go_simp <;> with_reducible rfl)
                  try simp only [Act.put, List.setIfInBounds_toArray, List.set_cons_zero, List.set_cons_succ]
                  refine wpAnyH_take (i := 2) (oi := ⟨some 113, _, _, _, _, _⟩) (v := ?_) rfl (by kernel_rfl) (by kernel_rfl) (by kernel_rfl) (fun _ _ _ h => h) (Or.inl ⟨by rfl, ?_⟩) (by assumption) ?_
                  rotate_left 1
                  · (intro w hSw; (try dsimp only at hSw); go_simp <;> with_reducible rfl)
                  try simp only [Act.put, List.setIfInBounds_toArray, List.set_cons_zero, List.set_cons_succ]
                  refine wpAnyH_take (i := 3) (oi := ⟨some 114, _, _, _, _, _⟩) (v := ?_) rfl (by kernel_rfl) (by kernel_rfl) (by kernel_rfl) (fun _ _ _ h => h) (Or.inl ⟨by rfl, ?_⟩) (by assumption) ?_
                  rotate_left 1
                  · (intro w hSw; (try dsimp only at hSw); go_simp <;> with_reducible rfl)
                  try simp only [Act.put, List.setIfInBounds_toArray, List.set_cons_zero, List.set_cons_succ]
                  refine wpAnyH_take (i := 4) (oi := ⟨some 115, _, _, _, _, _⟩) (v := undef) rfl (by kernel_rfl) (by kernel_rfl) (by kernel_rfl) (fun _ _ _ h => h) (Or.inr ⟨by rfl, rfl⟩) (by assumption) ?_
                  try simp only [Act.put, List.setIfInBounds_toArray, List.set_cons_zero, List.set_cons_succ]
                  refine wpAnyH_take (i := 5) (oi := ⟨some 116, _, _, _, _, _⟩) (v := undef) rfl (by kernel_rfl) (by kernel_rfl) (by kernel_rfl) (fun _ _ _ h => h) (Or.inr ⟨by rfl, rfl⟩) (by assumption) ?_
                  try simp only [Act.put, List.setIfInBounds_toArray, List.set_cons_zero, List.set_cons_succ]
                  refine wpAnyH_take (i := 6) (oi := ⟨some 117, _, _, _, _, _⟩) (v := undef) rfl (by kernel_rfl) (by kernel_rfl) (by kernel_rfl) (fun _ _ _ h => h) (Or.inr ⟨by rfl, rfl⟩) (by assumption) ?_
                  try simp only [Act.put, List.setIfInBounds_toArray, List.set_cons_zero, List.set_cons_succ]
                  refine wpAnyH_take (i := 7) (oi := ⟨some 118, _, _, _, _, _⟩) (v := undef) rfl (by kernel_rfl) (by kernel_rfl) (by kernel_rfl) (fun _ _ _ h => h) (Or.inr ⟨by rfl, rfl⟩) (by assumption) ?_
                  try simp only [Act.put, List.setIfInBounds_toArray, List.set_cons_zero, List.set_cons_succ]
                  refine wpAnyH_take (i := 8) (oi := ⟨some 119, _, _, _, _, _⟩) (v := undef) rfl (by kernel_rfl) (by kernel_rfl) (by kernel_rfl) (fun _ _ _ h => h) (Or.inr ⟨by rfl, rfl⟩) (by assumption) ?_
                  try simp only [Act.put, List.setIfInBounds_toArray, List.set_cons_zero, List.set_cons_succ]
                  refine wpAnyH_take (i := 9) (oi := ⟨some 120, _, _, _, _, _⟩) (v := undef) rfl (by kernel_rfl) (by kernel_rfl) (by kernel_rfl) (fun _ _ _ h => h) (Or.inr ⟨by rfl, rfl⟩) (by assumption) ?_
                  try simp only [Act.put, List.setIfInBounds_toArray, List.set_cons_zero, List.set_cons_succ]
                  refine wpAnyH_take (i := 10) (oi := ⟨some 121, _, _, _, _, _⟩) (v := undef) rfl (by kernel_rfl) (by kernel_rfl) (by kernel_rfl) (fun _ _ _ h => h) (Or.inr ⟨by rfl, rfl⟩) (by assumption) ?_
                  try simp only [Act.put, List.setIfInBounds_toArray, List.set_cons_zero, List.set_cons_succ]
                  refine wpAnyH_take (i := 11) (oi := ⟨some 122, _, _, _, _, _⟩) (v := undef) rfl (by kernel_rfl) (by kernel_rfl) (by kernel_rfl) (fun _ _ _ h => h) (Or.inr ⟨by rfl, rfl⟩) (by assumption) ?_
                  try simp only [Act.put, List.setIfInBounds_toArray, List.set_cons_zero, List.set_cons_succ]
                  refine wpAnyH_take (i := 12) (oi := ⟨some 123, _, _, _, _, _⟩) (v := undef) rfl (by kernel_rfl) (by kernel_rfl) (by kernel_rfl) (fun _ _ _ h => h) (Or.inr ⟨by rfl, rfl⟩) (by assumption) ?_
                  try simp only [Act.put, List.setIfInBounds_toArray, List.set_cons_zero, List.set_cons_succ]
                  refine wpAnyH_take (i := 13) (oi := ⟨some 124, _, _, _, _, _⟩) (v := ?_) rfl (by kernel_rfl) (by kernel_rfl) (by kernel_rfl) (fun _ _ _ h => h) (Or.inl ⟨by rfl, ?_⟩) (by assumption) ?_
                  rotate_left 1
                  · (intro w hSw; (try dsimp only at hSw); go_simp <;> with_reducible rfl)
                  try simp only [Act.put, List.setIfInBounds_toArray, List.set_cons_zero, List.set_cons_succ]
                  refine wpAnyH_done (by kernel_rfl) ?_ _
                  refine NoPanic.normal ?_
                  go_wp2_with fail
                  go_roundw
                  case rel => exact ⟨k + 1, by omega, by go_num, hHeld⟩
                  case measure => simp [intOf]; omega
                · have hne := HU.out k k2 hkl hkl2 hkk
                  obtain ⟨b5, off5, rfl, hbb5, c1, c2⟩ := hQ7.at k hkl
                  obtain ⟨b6, off6, h6, _, c3, c4⟩ := hQ7.at k2 hkl2
                  cases h6
                  generalize cur'[k] = p at *
                  generalize cur'[k2] = p' at *
                  obtain ⟨p1, p2⟩ := p
                  obtain ⟨p3, p4⟩ := p'
                  have hkq : ((k : Int) != (k2 : Int)) = true := by simp; omega
                  go_wp2_with fail
                  refine wp_region_noPanic ?_
                  refine wp_region_held_drew (S := (fun w' => w'.cell? ⟨b5, off5 + k * 2, none⟩ = some (.string p1) ∧ w'.cell? ⟨b5, off5 + k * 2 + 1, none⟩ = some (.string p2) ∧ w'.cell? ⟨b5, off5 + k2 * 2, none⟩ = some (.string p3) ∧ w'.cell? ⟨b5, off5 + k2 * 2 + 1, none⟩ = some (.string p4) ∧ Below w7.heap.size w7 w')) (by kernel_rfl) ?_ (fun hHeld => ?_)
                  · ((try dsimp only); exact keep4 c1 c2 c3 c4 (by go_split_ands; (repeat' (first | (with_reducible exact Below.refl _ _) | (with_reducible assumption) | (with_reducible refine Below.drew ?_) | (with_reducible refine Below.setCell ?_ ?_ _) | (with_reducible refine Below.alloc ?_ ?_ _) | (exact belowT (by assumption) hbx) | (exact belowT (by assumption) (by assumption)) | (exact belowT (by first | assumption | exact Below.refl _ _ | exact below_alloc _ _ | exact Below.drew (by first | assumption | exact Below.refl _ _)) (by assumption)) | (exact Below.size (by assumption)) | (simp; done) | (simp; omega) | omega))))
                  refine wpAnyH_take (i := 0) (oi := ⟨some 111, _, _, _, _, _⟩) (v := ?_) rfl (by kernel_rfl) (by kernel_rfl) (by kernel_rfl) (fun _ _ _ h => h) (Or.inl ⟨by rfl, ?_⟩) (by assumption) ?_
                  rotate_left 1
                  · (intro w hSw; (try dsimp only at hSw); go_simp <;> with_reducible rfl)
                  try simp only [Act.put, List.setIfInBounds_toArray, List.set_cons_zero, List.set_cons_succ]
                  refine wpAnyH_take (i := 1) (oi := ⟨some 112, _, _, _, _, _⟩) (v := ?_) rfl (by kernel_rfl) (by kernel_rfl) (by kernel_rfl) (fun _ _ _ h => h) (Or.inl ⟨by rfl, ?_⟩) (by assumption) ?_
                  rotate_left 1
                  · (intro w hSw; (try dsimp only at hSw); go_simp <;> with_reducible rfl)
                  try simp only [Act.put, List.setIfInBounds_toArray, List.set_cons_zero, List.set_cons_succ]
                  refine wpAnyH_take (i := 2) (oi := ⟨some 113, _, _, _, _, _⟩) (v := ?_) rfl (by kernel_rfl) (by kernel_rfl) (by kernel_rfl) (fun _ _ _ h => h) (Or.inl ⟨by rfl, ?_⟩) (by assumption) ?_
                  rotate_left 1
                  · (intro w hSw; (try dsimp only at hSw); go_simp <;> with_reducible rfl)
                  try simp only [Act.put, List.setIfInBounds_toArray, List.set_cons_zero, List.set_cons_succ]
                  refine wpAnyH_take (i := 3) (oi := ⟨some 114, _, _, _, _, _⟩) (v := ?_) rfl (by kernel_rfl) (by kernel_rfl) (by kernel_rfl) (fun _ _ _ h => h) (Or.inl ⟨by rfl, ?_⟩) (by assumption) ?_
                  rotate_left 1
                  · (intro w hSw; (try dsimp only at hSw); go_simp <;> with_reducible rfl)
                  try simp only [Act.put, List.setIfInBounds_toArray, List.set_cons_zero, List.set_cons_succ]
                  refine wpAnyH_take (i := 4) (oi := ⟨some 115, _, _, _, _, _⟩) (v := ?_) rfl (by kernel_rfl) (by kernel_rfl) (by kernel_rfl) (fun _ _ _ h => h) (Or.inl ⟨by rfl, ?_⟩) (by assumption) ?_
                  rotate_left 1
                  · (intro w hSw; (try dsimp only at hSw); go_simp <;> with_reducible rfl)
                  try simp only [Act.put, List.setIfInBounds_toArray, List.set_cons_zero, List.set_cons_succ]
                  refine wpAnyH_take (i := 5) (oi := ⟨some 116, _, _, _, _, _⟩) (v := ?_) rfl (by kernel_rfl) (by kernel_rfl) (by kernel_rfl) (fun _ _ _ h => h) (Or.inl ⟨by rfl, ?_⟩) (by assumption) ?_
                  rotate_left 1
                  · (intro w hSw; (try dsimp only at hSw); go_simp <;> with_reducible rfl)
                  try simp only [Act.put, List.setIfInBounds_toArray, List.set_cons_zero, List.set_cons_succ]
                  refine wpAnyH_take (i := 6) (oi := ⟨some 117, _, _, _, _, _⟩) (v := ?_) rfl (by kernel_rfl) (by kernel_rfl) (by kernel_rfl) (fun _ _ _ h => h) (Or.inl ⟨by rfl, ?_⟩) (by assumption) ?_
                  rotate_left 1
                  · (intro w hSw; (try dsimp only at hSw); go_simp <;> with_reducible rfl)
                  try simp only [Act.put, List.setIfInBounds_toArray, List.set_cons_zero, List.set_cons_succ]
                  refine wpAnyH_take (i := 7) (oi := ⟨some 118, _, _, _, _, _⟩) (v := ?_) rfl (by kernel_rfl) (by kernel_rfl) (by kernel_rfl) (fun _ _ _ h => h) (Or.inl ⟨by rfl, ?_⟩) (by assumption) ?_
                  rotate_left 1
                  · (intro w hSw; (try dsimp only at hSw); go_simp <;> with_reducible rfl)
                  try simp only [Act.put, List.setIfInBounds_toArray, List.set_cons_zero, List.set_cons_succ]
                  refine wpAnyH_take (i := 8) (oi := ⟨some 119, _, _, _, _, _⟩) (v := ?_) rfl (by kernel_rfl) (by kernel_rfl) (by kernel_rfl) (fun _ _ _ h => h) (Or.inl ⟨by rfl, ?_⟩) (by assumption) ?_
                  rotate_left 1
                  · (intro w hSw; (try dsimp only at hSw); go_simp <;> with_reducible rfl)
                  try simp only [Act.put, List.setIfInBounds_toArray, List.set_cons_zero, List.set_cons_succ]
                  refine wpAnyH_take (i := 9) (oi := ⟨some 120, _, _, _, _, _⟩) (v := ?_) rfl (by kernel_rfl) (by kernel_rfl) (by kernel_rfl) (fun _ _ _ h => h) (Or.inl ⟨by rfl, ?_⟩) (by assumption) ?_
                  rotate_left 1
                  · (intro w hSw; (try dsimp only at hSw); go_simp <;> with_reducible rfl)
                  try simp only [Act.put, List.setIfInBounds_toArray, List.set_cons_zero, List.set_cons_succ]
                  refine wpAnyH_take (i := 10) (oi := ⟨some 121, _, _, _, _, _⟩) (v := ?_) rfl (by kernel_rfl) (by kernel_rfl) (by kernel_rfl) (fun _ _ _ h => h) (Or.inl ⟨by rfl, ?_⟩) (by assumption) ?_
                  rotate_left 1
                  · (intro w hSw; (try dsimp only at hSw); go_simp <;> with_reducible rfl)
                  try simp only [Act.put, List.setIfInBounds_toArray, List.set_cons_zero, List.set_cons_succ]
                  refine wpAnyH_take (i := 11) (oi := ⟨some 122, _, _, _, _, _⟩) (v := ?_) rfl (by kernel_rfl) (by kernel_rfl) (by kernel_rfl) (fun _ _ _ h => h) (Or.inl ⟨by rfl, ?_⟩) (by assumption) ?_
                  rotate_left 1
                  · (intro w hSw; (try dsimp only at hSw); go_simp <;> with_reducible rfl)
                  try simp only [Act.put, List.setIfInBounds_toArray, List.set_cons_zero, List.set_cons_succ]
                  refine wpAnyH_take (i := 12) (oi := ⟨some 123, _, _, _, _, _⟩) (v := ?_) rfl (by kernel_rfl) (by kernel_rfl) (by kernel_rfl) (fun _ _ _ h => h) (Or.inl ⟨by rfl, ?_⟩) (by assumption) ?_
                  rotate_left 1
                  · (intro w hSw; (try dsimp only at hSw); go_simp <;> with_reducible rfl)
                  try simp only [Act.put, List.setIfInBounds_toArray, List.set_cons_zero, List.set_cons_succ]
                  refine wpAnyH_take (i := 13) (oi := ⟨some 124, _, _, _, _, _⟩) (v := ?_) rfl (by kernel_rfl) (by kernel_rfl) (by kernel_rfl) (fun _ _ _ h => h) (Or.inl ⟨by rfl, ?_⟩) (by assumption) ?_
                  rotate_left 1
                  · (intro w hSw; (try dsimp only at hSw); go_simp <;> with_reducible rfl)
                  try simp only [Act.put, List.setIfInBounds_toArray, List.set_cons_zero, List.set_cons_succ]
                  refine wpAnyH_done (by kernel_rfl) ?_ _
                  refine NoPanic.normal ?_
                  obtain ⟨_, _, _, _, hH⟩ := hHeld
                  go_wp2_with fail
                  go_roundw
                  case rel => exact ⟨k2 + 1, by omega, by go_num, hH⟩
                  case measure => simp [intOf]; omega
              · go_wp2_with fail
                go_roundw
                case rel => exact ⟨k + 1, by omega, by go_num, hB2⟩
                case measure => simp [intOf]; omega
          · go_wp2_with fail
            go_roundw
            case rel => exact ⟨j + 1, by omega, by omega, by go_num, hB7.trans (hBk.mono hs7), cur', ⟨_, _, _, _, rfl, rfl, hQ7.below hBk, hM7.below hBk, hcq, hcm⟩, Hcl.out, HU.out⟩
            case measure => simp [intOf]; omega
    · by_cases hlt1 : j < len
      all_goals (
        go_wp2_with fail
        with_reducible refine (awake_any _).mono ?_
        rintro e w9 ⟨rfl, hb9⟩
        go_wp2_with fail
        go_ret
        exact ⟨rfl, hB.trans (hb9.mono hbs)⟩)

set_option maxRecDepth 100000 in
theorem lifted (os : Os) (started : os.Started) (H : Type) (enc : TypeId × Value → H) :
    ReturnsInHanded {} Try.checked os 4 .any (Rows.queuePlaysSpec.pre6 enc Try.prog Try.f4 Rows.queuePlaysRow.domain false) (Rows.queuePlaysSpec.post enc Try.prog Try.f4 false true false false) := by
  refine returnsInHanded_of_change (C := Try.checked) own started (by kernel_rfl) Try.func4
    (ChangeSpec.witness6 (enc := enc) (C := Try.checked) false ⟨#[], #[.int .u8 0, .slice none 0 0], []⟩ 8 (by kernel_rfl) (by kernel_rfl) (by kernel_rfl) (by kernel_rfl)) ?_
  intro W base args ds gs before hval0 hW hcnd _
  have hval : ∀ (j : Nat) t v, Try.f4.params[j]? = some t → args[j]? = some v → Value.okWide Try.prog W .any base t v := hval0
  have hW' := hW
  obtain ⟨p, q, hA0, hV, rfl, hfz, hnd⟩ := hW
  have hA : DataW.TrodAll enc Try.prog W 0 (fun _ => true) true Try.f4.params.toList args.toList ds p := hA0
  rw [Try.params4] at hA hval
  obtain ⟨v0, vs0, d0, ds0, p0, q0, hargs, rfl, rfl, h0, r0⟩ := trodAll_cons hA
  obtain ⟨v1, vs1, d1, ds1, p1, q1, rfl, rfl, rfl, h1, r1⟩ := trodAll_cons r0
  obtain ⟨rfl, rfl, rfl⟩ := trodAll_nil r1
  obtain rfl : args = #[v0, v1] := by cases args; simp_all
  obtain ⟨rfl, rfl⟩ := trodVars_none hV
  have k0 := h0
  have lt0 : ∀ x ∈ p0, x.block < W.heap.size := by obtain ⟨m, hm⟩ := k0; exact DataW.trod_lt m _ _ _ hm
  have g0 := arg_of (hval 0 5 v0 rfl rfl) h0
  have k1 := h1
  have lt1 : ∀ x ∈ p1, x.block < W.heap.size := by obtain ⟨m, hm⟩ := k1; exact DataW.trod_lt m _ _ _ hm
  have g1 := arg_of (hval 1 38 v1 rfl rfl) h1
  clear hA0 hval0
  refine (walk v0 v1 W g0 g1).mono fun e W' ⟨he, bel⟩ => ?_
  subst he
  exact ⟨_, rfl, _, _, _, [], _, [], hW', trodAll_mk1 (shut_bool Try.underlying4 _), (trodAll_cons_mk (Below.trod laidOut (by kernel_rfl) (of_decide_eq_true (by kernel_rfl)) k0 bel lt0) (trodAll_cons_mk (Below.trod laidOut (by kernel_rfl) (of_decide_eq_true (by kernel_rfl)) k1 bel lt1) trodAll_mk0)), rfl, bel.frame _, fun h => by cases h⟩

theorem over : Rows.queuePlaysRow.holds Try.pinned (OpenSpec.ofChange Rows.queuePlaysSpec) :=
  OpenClaim.holds_of_wide 4 Try.f4 rfl rfl rfl rfl rfl rfl rfl ⟨rfl, rfl, rfl, rfl, rfl⟩ rfl rfl rfl rfl rfl (by kernel_rfl) Try.func4 (by kernel_rfl)
    (of_decide_eq_true (by kernel_rfl)) (by unfold Func.isWrapper; first | (rw [if_pos (by decide +kernel)]; kernel_rfl) | (rw [if_neg (by decide +kernel)]; exact ⟨rfl, rfl⟩))
    (fun os started H enc _ => lifted os started H enc)

theorem proved : Rows.QueuePlaysSaid := over
end Go.Proofs.Ytajcfogddgekpaa.queuePlays
