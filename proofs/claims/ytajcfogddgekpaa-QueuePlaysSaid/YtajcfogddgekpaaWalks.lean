/-
  The contracts of the functions that the laws of layer 27 call.
-/
import Derived.Test.YtajcfogddgekpaaPairs
import Derived.Deep.RegionHeld3
import Derived.Deep.DrawnRows
import Derived.StillTailTactics
namespace Go.Proofs.Ytajcfogddgekpaa
open Go.ChangeShapes Go.WideShapes Go.ChangeAt Go.RowKit
attribute [local go_sem ↓] Go.wp_at_zero Go.wp_at_succ

theorem elemPair : ElemT Try.prog 22 24 (.agg #[.string ByteArray.empty, .string ByteArray.empty]) 2 32 :=
  ⟨Try.underlying22, info_parts (show (Try.prog.info? 24).map (fun i => (i.zero, i.size, i.bytes)) = some (some (.agg #[.string ByteArray.empty, .string ByteArray.empty]), 2, 32) by kernel_rfl), rfl, by decide⟩

/-- where p stands first -/
def idxP (ps : List P2) (p : P2) : Int := match ps.findIdx? (fun q => eqP p.1 p.2 q.1 q.2) with
  | some k => k
  | none => -1
theorem eqP_comm (a b c d : ByteArray) : eqP a b c d = eqP c d a b := by
  unfold eqP; rw [Bool.eq_iff_iff, decide_eq_true_iff, decide_eq_true_iff]; exact ⟨Eq.symm, Eq.symm⟩
theorem idxP_none (ps : List P2) (p : P2) (h : hasP ps p = false) : idxP ps p = -1 := by
  unfold idxP
  have : ps.findIdx? (fun q => eqP p.1 p.2 q.1 q.2) = none := by
    rw [List.findIdx?_eq_none_iff]
    intro q hq
    unfold hasP at h
    have := List.any_eq_false.1 h q hq
    rw [eqP_comm]; simpa using this
  rw [this]
theorem idxP_some (ps : List P2) (p : P2) (k : Nat) (h : k < ps.length) (hno : hasP (ps.take k) p = false) (he : eqP p.1 p.2 ps[k].1 ps[k].2 = true) : idxP ps p = k := by
  unfold idxP
  have : ps.findIdx? (fun q => eqP p.1 p.2 q.1 q.2) = some k := by
    rw [List.findIdx?_eq_some_iff_getElem]
    refine ⟨h, he, fun j hj => ?_⟩
    unfold hasP at hno
    have := List.any_eq_false.1 hno ps[j] (List.mem_take_iff_getElem.2 ⟨j, by omega, rfl⟩)
    rw [eqP_comm]; simpa using this
  rw [this]
theorem idxP_nonneg (ps : List P2) (p : P2) : decide (0 ≤ idxP ps p) = hasP ps p := by
  cases hh : hasP ps p
  · rw [idxP_none ps p hh]; rfl
  · unfold idxP
    cases hf : ps.findIdx? (fun q => eqP p.1 p.2 q.1 q.2) with
    | some k => simp
    | none =>
      rw [List.findIdx?_eq_none_iff] at hf
      unfold hasP at hh
      obtain ⟨q, hq, he⟩ := List.any_eq_true.1 hh
      have := hf q hq
      rw [eqP_comm, he] at this
      cases this
theorem idxP_bd (ps : List P2) (p : P2) : -1 ≤ idxP ps p ∧ idxP ps p ≤ ps.length := by
  unfold idxP
  cases hf : ps.findIdx? (fun q => eqP p.1 p.2 q.1 q.2) with
  | some k =>
    have := (List.findIdx?_eq_some_iff_getElem.1 hf).1
    simp only; omega
  | none => simp only; omega

set_option maxHeartbeats 400000 in
theorem index_any (a : Option Addr) (len cap : Nat) (ps : List P2) (p : P2) (w : World) (hR : RowP w a len cap ps) :
    Calls Try.prog 19 #[.slice a len cap, .agg #[.string p.1, .string p.2]] w fun e w' => e = .returned (.int .i64 (idxP ps p)) ∧ Below w.heap.size w w' := by
  have hm := hR.small
  have heq := eql_pair
  obtain ⟨p1, p2⟩ := p
  go_enter Try.func19, Try.ntmps19
  go_wp2
  go_loopw [5, 8] (fun i j wr => ∃ k : Nat, k ≤ len ∧ j = .int .i64 k ∧ Below w.heap.size w wr ∧ wr.cell? ⟨w.heap.size, 0, none⟩ = some (.string p1) ∧ wr.cell? ⟨w.heap.size, 1, none⟩ = some (.string p2) ∧ hasP (ps.take k) (p1, p2) = false) (fun _ j _ => len - (intOf j).toNat)
  case atStart => exact ⟨0, Nat.zero_le _, rfl, below_alloc _ _, by simp, by simp, rfl⟩
  case round =>
    obtain ⟨k, hk, rfl, hB, hx1, hx2, hno⟩ := hrel
    by_cases hlt : k < len
    · obtain ⟨b, off, rfl, hb, hc1, hc2⟩ := hR.at k hlt
      rw [← hB.cell (p := ⟨b, _, none⟩) hb] at hc1 hc2
      cases hq : eqP p1 p2 (ps[k]'(by rw [hR.len_eq]; exact hlt)).1 (ps[k]'(by rw [hR.len_eq]; exact hlt)).2
      · go_wp2
        go_quiet (fail)
        go_wp2
        go_roundw
        case rel => exact ⟨k + 1, by omega, by go_num, hB.drewN _, hx1, hx2, by rw [hasP_succ _ _ _ (by rw [hR.len_eq]; exact hlt), hno, eqP_comm, hq]; rfl⟩
        case measure => simp [intOf]; omega
      · have HI := Lib.hid (idxP_some ps (p1, p2) k (by rw [hR.len_eq]; exact hlt) hno hq)
        go_wp2
        go_quiet (fail)
        go_wp2
        go_ret
        exact ⟨ret_int HI.out.symm, hB.drewN _⟩
    · obtain rfl : k = len := by omega
      have HI := Lib.hid (idxP_none ps (p1, p2) (by rw [← hno, List.take_of_length_le (by rw [hR.len_eq]; omega)]))
      go_wp2
      go_ret
      exact ⟨ret_int HI.out.symm, hB⟩

theorem contains_any (a : Option Addr) (len cap : Nat) (ps : List P2) (p : P2) (w : World) (hR : RowP w a len cap ps) :
    Calls Try.prog 18 #[.slice a len cap, .agg #[.string p.1, .string p.2]] w fun e w' => e = .returned (.bool (hasP ps p)) ∧ Below w.heap.size w w' := by
  have hx1 := hR.below (below_alloc w (.cells #[.string p.1, .string p.2] 24))
  have HI := Lib.hid (idxP_nonneg ps p)
  go_enter Try.func18, Try.ntmps18
  go_wp2_with fail
  refine (index_any _ _ _ _ _ _ hx1).mono ?_
  rintro e w1 ⟨rfl, hb1⟩
  go_wp2_with fail
  go_ret
  exact ⟨ret_bool HI.out, (below_alloc _ _).trans (hb1.mono (by simp))⟩

theorem has_any (a : Option Addr) (len cap : Nat) (ps : List P2) (p : P2) (w : World) (hR : RowP w a len cap ps) :
    Calls Try.prog 14 #[.slice a len cap, .agg #[.string p.1, .string p.2]] w fun e w' => e = .returned (.bool (hasP ps p)) ∧ Below w.heap.size w w' := by
  have hx1 := hR.below (below_alloc w (.cells #[.string p.1, .string p.2] 24))
  go_enter Try.func14, Try.ntmps14
  go_wp2_with fail
  refine (contains_any _ _ _ _ _ _ hx1).mono ?_
  rintro e w1 ⟨rfl, hb1⟩
  go_wp2_with fail
  go_ret
  exact ⟨rfl, (below_alloc _ _).trans (hb1.mono (by simp))⟩

theorem clone_any (a : Option Addr) (len cap : Nat) (ps : List P2) (w : World) (hR : RowP w a len cap ps) :
    Calls Try.prog 17 #[.slice a len cap] w fun e w' => ∃ v, e = .returned v ∧ OwnP w' w.heap.size v ps ∧ Below w.heap.size w w' := by
  have hm := hR.small
  have hq := fun (wx : World) (ax : Option Addr) (n c : Nat) => Lib.run_eql_slice_nil (P := Try.prog) wx 22 24 ax n c 0 0 Try.underlying22
  cases a with
  | none =>
    have hz : len = 0 := by
      rcases Nat.eq_zero_or_pos len with h | h
      · exact h
      · obtain ⟨b, off, h1, _⟩ := hR.at 0 h; cases h1
    have hc := hR.nilcap rfl
    subst hz hc
    obtain rfl := List.eq_nil_of_length_eq_zero hR.len_eq
    go_enter Try.func17, Try.ntmps17
    go_wp2
    go_ret
    exact ⟨_, rfl, World.ownsRow_nil _ _ _ _, Below.refl _ _⟩
  | some x =>
    have hown := World.ownsRow_lit (base := w.heap.size) (e := 24) (size := 2) w #[] 0 (Nat.le_refl _) (by unfold maxLen; omega) rfl
    obtain ⟨v', w', hr, h2, hg⟩ := append_row elemPair (w.alloc (.cells #[] 24)) w.heap.size 22 _ 0 [] hown (some x) len cap (flat ps) (fun h => by cases h) (hR.below (below_alloc _ _)).row
      (by rw [flat_length, hR.len_eq]) (flat_oneCell ps) (by unfold maxLen; omega) (by omega) (by simp)
    have hbel : Below w.heap.size w w' := (below_alloc _ _).trans (below_grown hown (by simp) hg)
    rw [Nat.zero_add, List.nil_append] at h2
    go_enter Try.func17, Try.ntmps17
    go_wp2_with (at_builtin; refine wpList_append_by hr rfl _ _ rfl rfl rfl ?_)
    go_ret
    refine ⟨_, rfl, ?_, hbel⟩
    unfold OwnP; rw [hR.len_eq]; exact h2

/-- what Push leaves, and its error -/
def pushL (ps : List P2) (room : Int) (p : P2) : List P2 := if hasP ps p then ps else if room ≤ ps.length then [] else ps ++ [p]
def pushE (ps : List P2) (room : Int) (p : P2) : Int := if hasP ps p then 0 else if room ≤ ps.length then 4 else 0

theorem OwnP.snoc {w : World} {base base' : Nat} {v : Value} {ps : List P2} {p1 p2 : ByteArray} (h : w.ownsRow base 24 2 v (ps.length + 1) (flat ps ++ #[Value.string p1, Value.string p2].toList)) (hb : base' ≤ base) : OwnP w base' v (ps ++ [(p1, p2)]) := by
  have e : flat ps ++ #[Value.string p1, Value.string p2].toList = flat (ps ++ [(p1, p2)]) := by rw [flat_append]; rfl
  rw [e] at h
  obtain ⟨h1, h2⟩ := h
  have hl : (ps ++ [(p1, p2)]).length = ps.length + 1 := by simp
  unfold OwnP
  rw [hl]
  refine ⟨h1, ?_⟩
  rcases h2 with h2 | ⟨g, cap, cur, h3, h4, h5⟩
  · exact Or.inl h2
  · exact Or.inr ⟨g, cap, cur, h3, Nat.le_trans hb h4, h5⟩
theorem OwnP.snocN {w : World} {base base' n : Nat} {v : Value} {ps : List P2} {p1 p2 : ByteArray} (hn : ps.length = n) (h : w.ownsRow base 24 2 v (n + 1) (flat ps ++ #[Value.string p1, Value.string p2].toList)) (hb : base' ≤ base) : OwnP w base' v (ps ++ [(p1, p2)]) := by
  subst hn; exact OwnP.snoc h hb
theorem OwnP.below {w w' : World} {base : Nat} {v : Value} {ps : List P2} (h : OwnP w base v ps) (hb : Below w.heap.size w w') : OwnP w' base v ps := by
  obtain ⟨h1, h2⟩ := h
  refine ⟨h1, ?_⟩
  rcases h2 with h2 | ⟨g, cap, cur, h3, h4, h5, h6⟩
  · exact Or.inl h2
  · exact Or.inr ⟨g, cap, cur, h3, h4, by rw [hb.block g (Array.getElem?_eq_some_iff.1 h5).1]; exact h5, h6⟩
theorem OwnP.base {w : World} {base base' : Nat} {v : Value} {ps : List P2} (h : OwnP w base v ps) (hb : base' ≤ base) : OwnP w base' v ps := by
  obtain ⟨h1, h2⟩ := h
  refine ⟨h1, ?_⟩
  rcases h2 with h2 | ⟨g, cap, cur, h3, h4, h5⟩
  · exact Or.inl h2
  · exact Or.inr ⟨g, cap, cur, h3, Nat.le_trans hb h4, h5⟩
set_option maxHeartbeats 1000000 in
theorem push_any (a : Option Addr) (len cap : Nat) (ps : List P2) (room : Int) (p : P2) (w : World) (hR : RowP w a len cap ps) (hb : -9223372036854775808 ≤ room ∧ room ≤ 9223372036854775807) :
    Calls Try.prog 8 #[.slice a len cap, .int .i64 room, .agg #[.string p.1, .string p.2]] w fun e w' => ∃ v, e = .returned (.tuple #[v, .int .i64 (pushE ps room p)]) ∧ OwnP w' w.heap.size v (pushL ps room p) ∧ Below w.heap.size w w' := by
  have hm := hR.small
  have hle := Lib.hid hR.len_eq
  obtain ⟨p1, p2⟩ := p
  have hx1 := hR.below (below_alloc w (.cells #[.string p1, .string p2] 24))
  cases hh : hasP ps (p1, p2)
  · have HH := Lib.hid hh
    by_cases hroom : room ≤ len
    · have HL : Hid (pushL ps room (p1, p2) = []) := by unfold pushL; rw [hh, if_neg (by simp), if_pos (by rw [hR.len_eq]; exact hroom)]; rfl
      have HE : Hid (pushE ps room (p1, p2) = 4) := by unfold pushE; rw [hh, if_neg (by simp), if_pos (by rw [hR.len_eq]; exact hroom)]; rfl
      clear hh
      go_enter Try.func8, Try.ntmps8
      go_wp2_with fail
      refine (has_any _ _ _ _ (p1, p2) _ hx1).mono ?_
      rintro e w1 ⟨rfl, hb1⟩
      rw [HH.out]
      go_wp2_with fail
      go_ret2
      refine ⟨.slice none 0 0, by rw [HE.out]; rfl, ?_, (below_alloc _ _).trans (hb1.mono (by simp))⟩
      rw [HL.out]
      exact World.ownsRow_nil _ _ _ _
    · have HL : Hid (pushL ps room (p1, p2) = ps ++ [(p1, p2)]) := by unfold pushL; rw [hh, if_neg (by simp), if_neg (by rw [hR.len_eq]; exact hroom)]; rfl
      have HE : Hid (pushE ps room (p1, p2) = 0) := by unfold pushE; rw [hh, if_neg (by simp), if_neg (by rw [hR.len_eq]; exact hroom)]; rfl
      clear hh
      have hpl : ps.length ≤ 1000000000 := by rw [hR.len_eq]; exact hm
      have hx : (w.alloc (.cells #[.string p1, .string p2] 24)).cell? ⟨w.heap.size, 0, none⟩ = some (.string p1) := by simp
      have hy : (w.alloc (.cells #[.string p1, .string p2] 24)).cell? ⟨w.heap.size, 1, none⟩ = some (.string p2) := by simp
      go_enter Try.func8, Try.ntmps8
      go_wp2_with fail
      refine (has_any _ _ _ _ (p1, p2) _ hx1).mono ?_
      rintro e w1 ⟨rfl, hb1⟩
      have hx2 := hx1.below hb1
      have hs1 : w.heap.size < w1.heap.size := by have := hb1.size; simp at this; omega
      rw [← hb1.cell (by simp)] at hx hy
      rw [HH.out]
      go_wp2_with fail
      have hSS : Below w1.heap.size w1 w1 := Below.refl _ _
      go_region_held3 (fun w' => w'.cell? ⟨w.heap.size, 0, none⟩ = some (.string p1) ∧ w'.cell? ⟨w.heap.size, 1, none⟩ = some (.string p2) ∧ Below w1.heap.size w1 w') (exact keep2 hx hy (by go_split_ands; (repeat' (first | (with_reducible exact Below.refl _ _) | (with_reducible assumption) | (with_reducible refine Below.drew ?_) | (with_reducible refine Below.setCell ?_ ?_ _) | (with_reducible refine Below.alloc ?_ ?_ _) | (exact belowT (by assumption) (by assumption)) | (exact belowT (by first | assumption | exact Below.refl _ _ | exact below_alloc _ _ | exact Below.drew (by first | assumption | exact Below.refl _ _)) (by assumption)) | (exact Below.size (by assumption)) | (simp; done) | (simp; omega) | omega)))) (first | (go_at_call 17; go_split_ands; refine (clone_any _ _ _ _ _ (hx2.below (by assumption))).mono ?_; rintro e w2 ⟨v, rfl, hown, hb2⟩) | (refine step_at_append _ _ rfl ?_; go_split_ands; obtain ⟨v', w4, hr, h4, hg⟩ := append_row elemPair (w2.alloc (.cells #[.string p1, .string p2] 24)) _ 22 v ps.length _ (hown.alloc _) _ 1 1 _ (fun h => by cases h) (RowV.new w2 #[.string p1, .string p2] 24) rfl (flat_oneCell [(p1, p2)]) (by unfold maxLen; omega) (by omega) (by have := hb2.size; simp at this ⊢; omega); have hb4 : Below w1.heap.size w1 w4 := (‹Below w1.heap.size w1 (w2.alloc _)›).trans ((below_grown (hown.alloc _) (by have := hb2.size; simp at this ⊢; omega) hg).mono (by simp)); refine step_append_by hr rfl _ _ rfl rfl rfl ?_) | (refine step_at_append _ _ rfl ?_; go_split_ands; obtain ⟨v', w4, hr, h4, hg⟩ := append_row elemPair w2 _ 22 v ps.length _ hown _ 1 1 _ (fun h => by cases h) ((RowV.new w1.drew #[.string p1, .string p2] 24).below hb2) rfl (flat_oneCell [(p1, p2)]) (by unfold maxLen; omega) (by omega) hb2.size; have hb4 : Below w1.heap.size w1 w4 := (‹Below w1.heap.size w1 w2›).trans ((below_grown hown hb2.size hg).mono (by simp)); refine step_append_by hr rfl _ _ rfl rfl rfl ?_))
      all_goals (go_wp2_with fail; go_ret2; refine ⟨v', by rw [HE.out]; rfl, ?_, (below_alloc _ _).trans ((hb1.mono (by simp)).trans (hb4.mono (Nat.le_of_lt hs1)))⟩; rw [HL.out]; exact OwnP.snoc h4 (by simp; omega))
  · have HL : Hid (pushL ps room (p1, p2) = ps) := by unfold pushL; rw [hh]; rfl
    have HE : Hid (pushE ps room (p1, p2) = 0) := by unfold pushE; rw [hh]; rfl
    have HH := Lib.hid hh
    clear hh
    go_enter Try.func8, Try.ntmps8
    go_wp2_with fail
    refine (has_any _ _ _ _ (p1, p2) _ hx1).mono ?_
    rintro e w1 ⟨rfl, hb1⟩
    have hx2 := hx1.below hb1
    rw [HH.out]
    go_wp2_with fail
    refine (clone_any _ _ _ _ _ hx2).mono ?_
    rintro e w2 ⟨v, rfl, hown, hb2⟩
    have Hown := Lib.hid hown
    clear hown
    go_wp2_with fail
    go_ret2
    refine ⟨v, by rw [HE.out]; rfl, ?_, (below_alloc _ _).trans ((hb1.mono (by simp)).trans (hb2.mono ?_))⟩
    · rw [HL.out]
      exact OwnP.base Hown.out (by have := hb1.size; simp at this; omega)
    · have := hb1.size; simp at this; omega

set_option maxHeartbeats 1000000 in
theorem refPush_any (a : Option Addr) (len cap : Nat) (ps : List P2) (room : Int) (p : P2) (w : World) (hR : RowP w a len cap ps) (_hb : -9223372036854775808 ≤ room ∧ room ≤ 9223372036854775807) :
    Calls Try.prog 9 #[.slice a len cap, .int .i64 room, .agg #[.string p.1, .string p.2]] w fun e w' => ∃ v, e = .returned (.tuple #[v, .int .i64 (pushE ps room p)]) ∧ OwnP w' w.heap.size v (pushL ps room p) ∧ Below w.heap.size w w' := by
  have hm := hR.small
  have hpl : ps.length ≤ 1000000000 := by rw [hR.len_eq]; exact hm
  obtain ⟨p1, p2⟩ := p
  -- the box of the parameter, then the copy
  have hx1 := hR.below (below_alloc w (.cells #[.string p1, .string p2] 24))
  obtain ⟨v1, w1, hr1, hown1, hg1⟩ := append_row elemPair (w.alloc (.cells #[.string p1, .string p2] 24)) (w.alloc (.cells #[.string p1, .string p2] 24)).heap.size 22 _ 0 [] (World.ownsRow_nil _ _ _ _) a len cap (flat ps) (fun h => hR.nilcap h) hx1.row (by rw [flat_length, hR.len_eq]) (flat_oneCell ps) (by unfold maxLen; omega) (by omega) (Nat.le_refl _)
  have hb1 : Below (w.alloc (.cells #[.string p1, .string p2] 24)).heap.size (w.alloc (.cells #[.string p1, .string p2] 24)) w1 := below_grown (World.ownsRow_nil _ _ 24 2) (Nat.le_refl _) hg1
  rw [Nat.zero_add, List.nil_append, ← hR.len_eq] at hown1
  have hx : w1.cell? ⟨w.heap.size, 0, none⟩ = some (.string p1) := (hb1.cell (by simp)).trans (by simp)
  have hy : w1.cell? ⟨w.heap.size, 1, none⟩ = some (.string p2) := (hb1.cell (by simp)).trans (by simp)
  have hs1 : w.heap.size < w1.heap.size := by have := hb1.size; simp at this; omega
  have hx2 := hx1.below hb1
  have Hown := Lib.hid hown1
  clear hown1 hg1
  cases hh : hasP ps (p1, p2)
  · have HH := Lib.hid hh
    by_cases hroom : room ≤ len
    · have HL : Hid (pushL ps room (p1, p2) = []) := by unfold pushL; rw [hh, if_neg (by simp), if_pos (by rw [hR.len_eq]; exact hroom)]; rfl
      have HE : Hid (pushE ps room (p1, p2) = 4) := by unfold pushE; rw [hh, if_neg (by simp), if_pos (by rw [hR.len_eq]; exact hroom)]; rfl
      clear hh
      go_enter Try.func9, Try.ntmps9
      go_wp2_with (at_builtin; refine wpList_append_by hr1 rfl _ _ rfl rfl rfl ?_)
      refine (refHas_any _ _ _ _ (p1, p2) _ hx2).mono ?_
      rintro e w2 ⟨rfl, hb2⟩
      rw [HH.out]
      go_wp2_with fail
      go_ret2
      refine ⟨.slice none 0 0, by rw [HE.out]; rfl, ?_, (below_alloc _ _).trans ((hb1.mono (by simp)).trans (hb2.mono (by omega)))⟩
      rw [HL.out]
      exact World.ownsRow_nil _ _ _ _
    · have HL : Hid (pushL ps room (p1, p2) = ps ++ [(p1, p2)]) := by unfold pushL; rw [hh, if_neg (by simp), if_neg (by rw [hR.len_eq]; exact hroom)]; rfl
      have HE : Hid (pushE ps room (p1, p2) = 0) := by unfold pushE; rw [hh, if_neg (by simp), if_neg (by rw [hR.len_eq]; exact hroom)]; rfl
      clear hh
      go_enter Try.func9, Try.ntmps9
      go_wp2_with (at_builtin; refine wpList_append_by hr1 rfl _ _ rfl rfl rfl ?_)
      refine (refHas_any _ _ _ _ (p1, p2) _ hx2).mono ?_
      rintro e w2 ⟨rfl, hb2⟩
      have hx3 := (hb2.cell (p := ⟨w.heap.size, 0, none⟩) hs1).trans hx
      have hy3 := (hb2.cell (p := ⟨w.heap.size, 1, none⟩) hs1).trans hy
      have hown2 := OwnP.below Hown.out hb2
      obtain ⟨v', w4, hr, h4, hg⟩ := append_row elemPair (w2.alloc (.cells #[.string p1, .string p2] 24)) _ 22 v1 ps.length _ (World.ownsRow.alloc hown2 _) _ 1 1 _ (fun h => by cases h) (RowV.new w2 #[.string p1, .string p2] 24) rfl (flat_oneCell [(p1, p2)]) (by unfold maxLen; omega) (by omega) (by have := hb2.size; have := hb1.size; simp at *; omega)
      have hb4 : Below (w.alloc (.cells #[.string p1, .string p2] 24)).heap.size w2 w4 := ((below_alloc w2 _).mono (by have := hb2.size; simp; omega)).trans (below_grown (World.ownsRow.alloc hown2 _) (by have := hb2.size; simp; omega) hg)
      have H4 := Lib.hid h4
      have Hb4 := Lib.hid hb4
      clear h4 hg hown2 hb4
      rw [HH.out]
      go_wp2_with (at_builtin; refine wpList_append_by hr rfl _ _ rfl rfl rfl ?_)
      go_ret2
      refine ⟨v', by rw [HE.out]; rfl, ?_, (below_alloc _ _).trans ((hb1.mono (by simp)).trans ((hb2.mono (by omega)).trans (Hb4.out.mono (by simp))))⟩
      rw [HL.out]
      exact OwnP.snoc H4.out (by simp)
  · have HL : Hid (pushL ps room (p1, p2) = ps) := by unfold pushL; rw [hh]; rfl
    have HE : Hid (pushE ps room (p1, p2) = 0) := by unfold pushE; rw [hh]; rfl
    have HH := Lib.hid hh
    clear hh
    go_enter Try.func9, Try.ntmps9
    go_wp2_with (at_builtin; refine wpList_append_by hr1 rfl _ _ rfl rfl rfl ?_)
    refine (refHas_any _ _ _ _ (p1, p2) _ hx2).mono ?_
    rintro e w2 ⟨rfl, hb2⟩
    rw [HH.out]
    go_wp2_with fail
    go_ret2
    refine ⟨v1, by rw [HE.out]; rfl, ?_, (below_alloc _ _).trans ((hb1.mono (by simp)).trans (hb2.mono (by omega)))⟩
    rw [HL.out]
    exact OwnP.base (OwnP.below Hown.out hb2) (by simp)

theorem take_succ_iff (ps qs : List P2) (k : Nat) (hp : k < ps.length) (hq : k < qs.length) (h : ps.take k = qs.take k) : ps.take (k + 1) = qs.take (k + 1) ↔ ps[k] = qs[k] := by
  rw [List.take_succ_eq_append_getElem hp, List.take_succ_eq_append_getElem hq, h]
  exact ⟨fun e => by simpa using List.append_cancel_left e, fun e => by rw [e]⟩
set_option maxHeartbeats 400000 in
theorem same_any (a a2 : Option Addr) (len cap len2 cap2 : Nat) (ps qs : List P2) (w : World) (hR : RowP w a len cap ps) (hR2 : RowP w a2 len2 cap2 qs) :
    Calls Try.prog 13 #[.slice a len cap, .slice a2 len2 cap2] w fun e w' => e = .returned (.bool (decide (ps = qs))) ∧ Below w.heap.size w w' := by
  have hm := hR.small
  have hm2 := hR2.small
  have heq := neq_pair
  by_cases hl : len = len2
  · subst hl
    go_enter Try.func13, Try.ntmps13
    go_wp2
    go_loopw [5] (fun i wr => ∃ k : Nat, k ≤ len ∧ i = .int .i64 k ∧ Below w.heap.size w wr ∧ ps.take k = qs.take k) (fun i _ => len - (intOf i).toNat)
    case atStart => exact ⟨0, Nat.zero_le _, rfl, Below.refl _ _, rfl⟩
    case round =>
      obtain ⟨k, hk, rfl, hB, hsame⟩ := hrel
      have HS := Lib.hid hsame
      clear hsame
      by_cases hlt : k < len
      · obtain ⟨b, off, rfl, hb, hc1, hc2⟩ := hR.at k hlt
        obtain ⟨b', off', rfl, hb', hc1', hc2'⟩ := hR2.at k hlt
        rw [← hB.cell (p := ⟨b, _, none⟩) hb] at hc1 hc2
        rw [← hB.cell (p := ⟨b', _, none⟩) hb'] at hc1' hc2'
        have hiff := Lib.hid (take_succ_iff ps qs k (by rw [hR.len_eq]; exact hlt) (by rw [hR2.len_eq]; exact hlt) HS.out)
        cases hq : eqP (ps[k]'(by rw [hR.len_eq]; exact hlt)).1 (ps[k]'(by rw [hR.len_eq]; exact hlt)).2 (qs[k]'(by rw [hR2.len_eq]; exact hlt)).1 (qs[k]'(by rw [hR2.len_eq]; exact hlt)).2
        · have HN : Hid (decide (ps = qs) = false) := by
            refine decide_eq_false fun e => ?_
            have h1 : ps.take (k + 1) = qs.take (k + 1) := by rw [e]
            have h2 := hiff.out.1 h1
            unfold eqP at hq
            rw [decide_eq_false_iff_not] at hq
            exact hq (by rw [h2])
          go_wp2
          go_quiet (fail)
          go_wp2
          go_ret
          exact ⟨ret_bool HN.out.symm, hB.drewN _⟩
        · have HY : Hid (ps.take (k + 1) = qs.take (k + 1)) := hiff.out.2 (by unfold eqP at hq; exact of_decide_eq_true hq)
          go_wp2
          go_quiet (fail)
          go_wp2
          go_roundw
          case rel => exact ⟨k + 1, by omega, by go_num, hB.drewN _, HY.out⟩
          case measure => simp [intOf]; omega
      · obtain rfl : k = len := by omega
        have HY : Hid (decide (ps = qs) = true) := by
          refine decide_eq_true ?_
          have := HS.out
          rwa [List.take_of_length_le (by rw [hR.len_eq]; omega), List.take_of_length_le (by rw [hR2.len_eq]; omega)] at this
        go_wp2
        go_ret
        exact ⟨ret_bool HY.out.symm, hB⟩
  · have HN : Hid (decide (ps = qs) = false) := decide_eq_false fun e => hl (by rw [← hR.len_eq, ← hR2.len_eq, e])
    have hl2 : ((len : Int) == (len2 : Int)) = false := beq_eq_false_iff_ne.2 (by omega)
    have hl3 : ((len : Int) != (len2 : Int)) = true := bne_iff_ne.2 (by omega)
    clear hl
    go_enter Try.func13, Try.ntmps13
    go_wp2
    go_ret
    exact ⟨ret_bool HN.out.symm, Below.refl _ _⟩

/-- 'pair' -/
def pairOf (k : Int) : P2 := (strOfNums [97 + k % 4], strOfNums [120 + k / 4 % 2])
theorem conv_one (w : World) (g : Nat) (n : Int) (h : w.cell? ⟨g, 0, none⟩ = some (.int .u8 n)) : (Go.convert 42 9 (.slice (some ⟨g, 0, none⟩) 1 1)).run Try.prog w = .ok (.string (strOfNums [n])) w := by
  refine run_convert_bytes_arg w 42 5 Try.underlying42 Try.underlying5 g 0 1 1 [n] rfl (fun i hi => ?_) 9 Try.underlying9
  obtain rfl : i = 0 := by omega
  exact h
theorem pair_any (k : Int) (w : World) (hk : 0 ≤ k ∧ k ≤ 255) :
    Calls Try.prog 16 #[.int .u8 k] w fun e w' => e = .returned (.agg #[.string (pairOf k).1, .string (pairOf k).2]) ∧ Below w.heap.size w w' := by
  have c1 := conv_one ((w.alloc (.cells #[.string ⟨#[]⟩, .string ⟨#[]⟩] 24)).alloc (.cells #[.int .u8 (97 + k % 4)] 5)) (w.heap.size + 1) (97 + k % 4) (cell_new1 _ _ _ _ (by simp))
  have c2 := conv_one (((w.alloc (.cells #[.string ⟨#[]⟩, .string ⟨#[]⟩] 24)).alloc (.cells #[.int .u8 (97 + k % 4)] 5)).alloc (.cells #[.int .u8 (120 + k / 4 % 2)] 5)) (w.heap.size + 2) (120 + k / 4 % 2) (cell_new1 _ _ _ _ (by simp))
  go_enter Try.func16, Try.ntmps16
  go_wp2_with fail
  exact bodyPost_ret (v := pv (pairOf k)) (by simp [results, Try.results16, go_sem, pv, pairOf]) rfl ⟨rfl, ((((Below.refl _ _).alloc (Nat.le_refl _) _).alloc (by simp) _).alloc (by simp; omega) _)⟩
end Go.Proofs.Ytajcfogddgekpaa
