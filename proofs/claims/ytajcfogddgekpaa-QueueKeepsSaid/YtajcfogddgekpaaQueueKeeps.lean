/-
  QueueKeeps: for every input the law returns true and changes nothing that was there; no conditions.
-/
import Derived.Test.YtajcfogddgekpaaWalks3
import Derived.Test.YtajcfogddgekpaaOpen
namespace Go.Proofs.Ytajcfogddgekpaa.queueKeeps
open Go.ChangeShapes Go.WideShapes Go.ChangeAt Go.RowKit
set_option linter.unusedVariables false

theorem own : ownKnob Try.prog.godebug = none := by kernel_rfl
theorem laidOut : laidOutB Try.prog = true := by kernel_rfl
def other : P2 := (⟨#[111, 116, 104, 101, 114]⟩, ⟨#[]⟩)
theorem no_other (zs : List Int) : hasP (zs.map pairOf) other = false := by
  unfold hasP
  rw [List.any_eq_false]
  intro q hq
  obtain ⟨z, _, rfl⟩ := List.mem_map.1 hq
  unfold eqP
  rw [decide_eq_true_iff]
  intro h
  have h1 := congrArg (fun x : P2 => x.1.size) h
  simp only [pairOf, other, strOfNums_size] at h1
  cases h1
set_option maxHeartbeats 4000000 in
theorem walk (v0 v1 : Value) (w : World) (g0 : Arg Try.prog w 42 v0) (g1 : Arg Try.prog w 5 v1) :
    Calls Try.prog 6 #[v0, v1] w fun e w' => e = .returned (.bool true) ∧ Below w.heap.size w w' := by
  obtain ⟨a, len, cap, rfl, hlc, hcm, hnil, zs, hzl, hrow, hwf⟩ := Arg.ints (n := 1) (el := 5) Try.underlying42 (by kernel_rfl) Try.underlying5 (by kernel_rfl) (by decide) g0
  obtain ⟨k, rfl, hk0⟩ := Arg.int Try.underlying5 g1
  have hk := wf_u8 hk0
  clear g0 g1 hk0
  rw [Nat.mul_one] at hzl
  unfold maxLen at hcm
  have hR : RowI .u8 w a len zs := hzl ▸ hrow.rowI (by omega)
  have hby : ∀ z ∈ zs, 0 ≤ z ∧ z ≤ 255 := fun z hz => wf_u8 (hwf z hz)
  obtain ⟨w1, hmk, hown0, hg0⟩ := make_row elemPair w w.heap.size 20 20 rfl (by unfold maxLen; omega) (by omega) (Nat.le_refl _)
  have hB0 : Below w.heap.size w w1 := (Below.refl _ _).grown hg0 (Nat.le_refl _) (by intro j hj; cases hj)
  have Hown0 : Hid (OwnP w1 w.heap.size (.slice (some ⟨w.heap.size, 0, none⟩) 0 20) []) := hown0
  clear hown0 hg0
  go_enter Try.func6, Try.ntmps6
  go_wp2_with (refine wpList_make_by hmk rfl _ _ rfl rfl ?_)
  go_loopw [5, 6] (fun va i wr => ∃ j : Nat, j ≤ len ∧ j ≤ 8 ∧ i = .int .i64 j ∧ Below w.heap.size w wr ∧ OwnP wr w.heap.size va ((zs.take j).map pairOf)) (fun _ i _ => 8 - (intOf i).toNat)
  case atStart => exact ⟨0, Nat.zero_le _, by omega, rfl, hB0, Hown0.out⟩
  case round =>
    obtain ⟨j, hj, hj8, rfl, hB, ho⟩ := hrel
    have hbs := hB.size
    have hlj : ((zs.take j).map pairOf).length = j := by rw [List.length_map, List.length_take, hzl]; omega
    by_cases hlt : j < len ∧ j < 8
    · obtain ⟨hlt1, hlt2⟩ := hlt
      obtain ⟨b, off, rfl, hc⟩ := hR.addr (by omega)
      have hcell := hc j hlt1
      have hzj : 0 ≤ zs[j]?.getD 0 ∧ zs[j]?.getD 0 ≤ 255 := by
        rw [List.getElem?_eq_getElem (by omega)]; exact hby _ (List.getElem_mem _)
      have hts : (zs.take (j + 1)).map pairOf = (zs.take j).map pairOf ++ [pairOf (zs[j]?.getD 0)] := by
        rw [List.take_succ_eq_append_getElem (by omega), List.map_append, List.getElem?_eq_getElem (by omega)]; rfl
      generalize zs[j]?.getD 0 = z at hcell hzj hts
      have Hts := Lib.hid hts
      rw [← hB.cell (p := ⟨b, _, none⟩) (cell_lt hcell)] at hcell
      have Ho := Lib.hid ho
      have Hlj := Lib.hid hlj
      clear hc hts ho hlj
      go_wp2_with fail
      with_reducible refine (pair_any _ _ hzj).mono ?_
      rintro e w2 ⟨rfl, hb2⟩
      have ho2 := OwnP.below Ho.out hb2
      unfold OwnP at ho2
      rw [Hlj.out] at ho2
      have ho3 := World.ownsRow.alloc ho2 (.cells #[.string (pairOf z).1, .string (pairOf z).2] 24)
      have hB2 := hB.trans (hb2.mono hbs)
      have hbs2 := hB2.size
      obtain ⟨v', w4, hr4, ho4, hg4⟩ := append_row elemPair (w2.alloc (.cells #[.string (pairOf z).1, .string (pairOf z).2] 24)) w.heap.size 22 _ j _ ho3 _ 1 1 _ (fun h => by cases h) (RowV.new w2 _ 24) rfl (flat_oneCell [pairOf z]) (by unfold maxLen; omega) (by omega) (by simp; omega)
      have hB4 : Below w.heap.size w w4 := (hB2.alloc hbs2 _).trans (below_grown ho3 (by simp; omega) hg4)
      have Ho4 := Lib.hid (OwnP.snocN Hlj.out ho4 (Nat.le_refl _))
      clear ho2 ho3 ho4 hg4
      go_wp2_with (at_builtin; refine wpList_append_by hr4 rfl _ _ rfl rfl rfl ?_)
      go_roundw
      case rel => exact ⟨j + 1, by omega, by omega, by go_num, hB4, by rw [Hts.out]; exact Ho4.out⟩
      case measure => simp [intOf]; omega
    · have hno := no_other (zs.take j)
      have hdone : ¬ (j < len ∧ j < 8) := hlt
      clear hmk hB0 Hown0 hzl hwf hby hrow hnil hlc hcm hlt
      generalize (zs.take j).map pairOf = qs at *
      obtain ⟨av, cv, rfl, hRq⟩ := ho.rowP (by omega)
      have hcv : qs.length ≤ cv := by
        rcases ho.2 with ⟨h1, h2⟩ | ⟨g, c, cur, h1, _, _, h2, _⟩
        · omega
        · cases h1; exact h2
      obtain ⟨v1, w2, hr2, hown2, hg2⟩ := append_row elemPair wr wr.heap.size 22 _ 0 [] (World.ownsRow_nil _ _ _ _) av qs.length cv (flat qs) (fun h => hRq.nilcap h) hRq.row (flat_length qs) (flat_oneCell qs) (by unfold maxLen; omega) (by omega) (Nat.le_refl _)
      have hb2 : Below wr.heap.size wr w2 := below_grown (World.ownsRow_nil _ _ 24 2) (Nat.le_refl _) hg2
      rw [Nat.zero_add, List.nil_append] at hown2
      have ho2 : OwnP w2 wr.heap.size v1 qs := hown2
      obtain ⟨av1, cv1, rfl, hR1⟩ := ho2.rowP (by omega)
      have hRq2 := hRq.below hb2
      clear hown2 hg2 ho ho2 hRq
      have hB2 := hB.trans (hb2.mono hbs)
      clear hB hb2 hbs
      have hexit : (j < len ∧ 8 ≤ j) ∨ len ≤ j := by omega
      clear hdone
      have hq8 : qs.length ≤ 8 := by omega
      clear hlj
      have heq := eql_pair
      -- what the calls give
      have hpe : pushE qs 20 other = 0 := by unfold pushE; rw [hno, if_neg (by simp), if_neg (by omega)]
      have hpl : pushL qs 20 other = qs ++ [other] := by unfold pushL; rw [hno, if_neg (by simp), if_neg (by omega)]
      have hpk : pushE qs 20 (pairOf k) = 0 := by
        unfold pushE
        split
        · rfl
        · rw [if_neg (by omega)]
      have Hpe := Lib.hid hpe
      have Hpl := Lib.hid hpl
      have Hpk := Lib.hid hpk
      clear hpe hpl hpk hno
      rcases hexit with ⟨h1, h2⟩ | h1
      all_goals
        go_wp2_with (at_builtin; refine wpList_append_by hr2 rfl _ _ rfl rfl rfl ?_)
        with_reducible refine (pair_any _ _ hk).mono ?_
        rintro e w3 ⟨rfl, hb3⟩
        have hRq3 := hRq2.below hb3
        have hR13 := hR1.below hb3
        have hB3 := hB2.trans (hb3.mono hB2.size)
        go_wp2_with fail
        with_reducible refine (push_any _ _ _ _ _ (pairOf k) _ hRq3 (by omega)).mono ?_
        rintro e w4 ⟨va, rfl, hoa, hb4⟩
        have hRq4 := hRq3.below hb4
        have hR14 := hR13.below hb4
        have hB4 := hB3.trans (hb4.mono hB3.size)
        rw [Hpk.out]
        have Hoa := Lib.hid hoa
        clear hoa hb3 hb4 hRq3 hR13
        go_wp2_with fail
        with_reducible refine (push_any _ _ _ _ _ (⟨#[111, 116, 104, 101, 114]⟩, ⟨#[]⟩) _ hRq4 (by omega)).mono ?_
        rintro e w5 ⟨vb, rfl, hob, hb5⟩
        have hRq5 := hRq4.below hb5
        have hR15 := hR14.below hb5
        have hB5 := hB4.trans (hb5.mono hB4.size)
        have hoa5 := OwnP.below Hoa.out hb5
        rw [show pushE qs 20 (⟨#[111, 116, 104, 101, 114]⟩, ⟨#[]⟩) = 0 from Hpe.out]
        rw [show pushL qs 20 (⟨#[111, 116, 104, 101, 114]⟩, ⟨#[]⟩) = qs ++ [other] from Hpl.out] at hob
        obtain ⟨ab, cvb, rfl, hRb⟩ := hob.rowP (by simp; omega)
        obtain ⟨aa, cva, rfl, hRa⟩ := hoa5.rowP (by have := pushL_len qs 20 (pairOf k); omega)
        have hlb : (qs ++ [other]).length = qs.length + 1 := by simp
        rw [hlb] at hRb
        rw [hlb]
        clear hob hb5 hRq4 hR14 hlb hoa5 Hoa
        go_wp2_with fail
        with_reducible refine (pop_any _ _ _ _ _ hRq5 hcv).mono ?_
        rintro e w6 ⟨vc, rfl, _, hb6⟩
        have hRq6 := hRq5.below hb6
        have hR16 := hR15.below hb6
        have hRb6 := hRb.below hb6
        have hRa6 := hRa.below hb6
        have hB6 := hB5.trans (hb6.mono hB5.size)
        clear hb6 hRq5 hR15 hRb hRa hRq2 hR1 hB2 hB3 hB4 hB5 Hpe Hpl Hpk
        obtain ⟨bb, ob, rfl, hbb, c0, hcx⟩ := hRb6.at qs.length (by omega)
        rw [show ((qs ++ [other])[qs.length]'(by simp)).1 = ⟨#[111, 116, 104, 101, 114]⟩ from by simp [other]] at c0
        have i1 : (0 : Int) ≤ (qs.length : Int) := by omega
        have i2 : (qs.length : Int) < (qs.length : Int) + 1 := by omega
        have i3 : IntKind.i64.wrap ((qs.length : Int) + 1) = (qs.length : Int) + 1 := IntWalk.i64_in _ (by omega)
        cases hh : hasP qs (pairOf k)
        · have hL : pushL qs 20 (pairOf k) = qs ++ [pairOf k] := by unfold pushL; rw [hh, if_neg (by simp), if_neg (by omega)]
          rw [hL] at hRa6 ⊢
          rw [show (qs ++ [pairOf k]).length = qs.length + 1 from by simp] at hRa6 ⊢
          obtain ⟨ba, oa, rfl, hba, a0, a1⟩ := hRa6.at qs.length (by omega)
          rw [show ((qs ++ [pairOf k])[qs.length]'(by simp)) = pairOf k from by simp] at a0 a1
          have hB7 := Below.refl w6.heap.size w6
          have e0 := eqP_self (pairOf k)
          have hne : (((qs.length : Int) + 1) == (qs.length : Int)) = false := beq_eq_false_iff_ne.2 (by omega)
          clear hcx hh hL hRa6 hRb6
          go_wp2_with fail
          go_region_held3 (fun w' => w'.cell? ⟨bb, ob + qs.length * 2, none⟩ = some (.string ⟨#[111, 116, 104, 101, 114]⟩) ∧ w'.cell? ⟨ba, oa + qs.length * 2, none⟩ = some (.string (pairOf k).1) ∧ w'.cell? ⟨ba, oa + qs.length * 2 + 1, none⟩ = some (.string (pairOf k).2) ∧ Below w6.heap.size w6 w') (exact keep3 c0 a0 a1 (by go_split_ands; (repeat' (first | (with_reducible exact Below.refl _ _) | (with_reducible assumption) | (with_reducible refine Below.drew ?_) | (with_reducible refine Below.setCell ?_ ?_ _) | (with_reducible refine Below.alloc ?_ ?_ _) | (exact belowT (by assumption) (by assumption)) | (exact belowT (by first | assumption | exact Below.refl _ _ | exact below_alloc _ _ | exact Below.drew (by first | assumption | exact Below.refl _ _)) (by assumption)) | (exact Below.size (by assumption)) | (simp; done) | (simp; omega) | omega)))) (first | (go_at_call 7; with_reducible refine (awake_any _).mono ?_; rintro e wx ⟨rfl, hbx⟩) | (go_at_call 13; go_split_ands; refine (same_any _ _ _ _ _ _ qs qs _ (hRq6.below (by assumption)) (hR16.below (by assumption))).mono ?_; rintro e wx ⟨rfl, hbx⟩; rw [show decide (qs = qs) = true from by simp]) | (go_at_call 16; with_reducible refine (pair_any _ _ ⟨by omega, by omega⟩).mono ?_; rintro e wx ⟨rfl, hbx⟩))
          obtain ⟨_, _, _, hBx⟩ := ‹_ ∧ _ ∧ _ ∧ Below w6.heap.size w6 wx›
          go_wp2_with fail
          go_ret
          exact ⟨rfl, hB6.trans (hBx.mono hB6.size)⟩
        · have hL : pushL qs 20 (pairOf k) = qs := by unfold pushL; rw [hh]; rfl
          rw [hL] at hRa6 ⊢
          have hB7 := Below.refl w6.heap.size w6
          clear hcx hh hL hRa6 hRb6
          go_wp2_with fail
          refine wp_region_noPanic ?_
          refine wp_region_held_drew (S := (fun w' => w'.cell? ⟨bb, ob + qs.length * 2, none⟩ = some (.string ⟨#[111, 116, 104, 101, 114]⟩) ∧ Below w6.heap.size w6 w')) (by kernel_rfl) ?_ (fun hHeld => ?_)
          · ((try dsimp only); exact keep1 c0 (by go_split_ands; (repeat' (first | (with_reducible exact Below.refl _ _) | (with_reducible assumption) | (with_reducible refine Below.drew ?_) | (with_reducible refine Below.setCell ?_ ?_ _) | (with_reducible refine Below.alloc ?_ ?_ _) | (exact belowT (by assumption) (by assumption)) | (exact belowT (by first | assumption | exact Below.refl _ _ | exact below_alloc _ _ | exact Below.drew (by first | assumption | exact Below.refl _ _)) (by assumption)) | (exact Below.size (by assumption)) | (simp; done) | (simp; omega) | omega))))
          refine wpAnyH_ready (rs := [0]) (by kernel_rfl) (by simp) ?_
          refine AllReadyH.cons (o := ⟨some 55, _, _, _, _, _⟩) rfl (fun K hK => ?_) AllReadyH.nil
          go_simp
          with_reducible refine (awake_any _).mono ?_; rintro e wx ⟨rfl, hbx⟩
          go_wp2_with fail
          refine hK.out _ _ ?_ (fun hHeld => ?_)
          · ((try dsimp only); exact keep1 c0 (by go_split_ands; (repeat' (first | (with_reducible exact Below.refl _ _) | (with_reducible assumption) | (with_reducible refine Below.drew ?_) | (with_reducible refine Below.setCell ?_ ?_ _) | (with_reducible refine Below.alloc ?_ ?_ _) | (exact belowT (by assumption) (by assumption)) | (exact belowT (by first | assumption | exact Below.refl _ _ | exact below_alloc _ _ | exact Below.drew (by first | assumption | exact Below.refl _ _)) (by assumption)) | (exact Below.size (by assumption)) | (simp; done) | (simp; omega) | omega))))
          clear hK K
          try simp only [Act.put, List.setIfInBounds_toArray, List.set_cons_zero, List.set_cons_succ]
          refine wpAnyH_take (i := 1) (oi := ⟨some 56, _, _, _, _, _⟩) (v := ?_) rfl (by kernel_rfl) (by kernel_rfl) (by kernel_rfl) (fun _ _ _ h => h) (Or.inl ⟨by rfl, ?_⟩) (by assumption) ?_
          rotate_left 1
          · (intro w hSw; (try dsimp only at hSw); go_simp <;> with_reducible rfl)
          try simp only [Act.put, List.setIfInBounds_toArray, List.set_cons_zero, List.set_cons_succ]
          refine wpAnyH_take (i := 2) (oi := ⟨some 57, _, _, _, _, _⟩) (v := ?_) rfl (by kernel_rfl) (by kernel_rfl) (by kernel_rfl) (fun _ _ _ h => h) (Or.inl ⟨by rfl, ?_⟩) (by assumption) ?_
          rotate_left 1
          · (intro w hSw; (try dsimp only at hSw); go_simp <;> with_reducible rfl)
          try simp only [Act.put, List.setIfInBounds_toArray, List.set_cons_zero, List.set_cons_succ]
          refine wpAnyH_take (i := 3) (oi := ⟨some 58, _, _, _, _, _⟩) (v := ?_) rfl (by kernel_rfl) (by kernel_rfl) (by kernel_rfl) (fun _ _ _ h => h) (Or.inl ⟨by rfl, ?_⟩) (by assumption) ?_
          rotate_left 1
          · (intro w hSw; (try dsimp only at hSw); go_simp <;> with_reducible rfl)
          try simp only [Act.put, List.setIfInBounds_toArray, List.set_cons_zero, List.set_cons_succ]
          refine wpAnyH_take (i := 4) (oi := ⟨some 59, _, _, _, _, _⟩) (v := ?_) rfl (by kernel_rfl) (by kernel_rfl) (by kernel_rfl) (fun _ _ _ h => h) (Or.inl ⟨by rfl, ?_⟩) (by assumption) ?_
          rotate_left 1
          · (intro w hSw; (try dsimp only at hSw); go_simp <;> with_reducible rfl)
          try simp only [Act.put, List.setIfInBounds_toArray, List.set_cons_zero, List.set_cons_succ]
          refine wpAnyH_take (i := 5) (oi := ⟨some 60, _, _, _, _, _⟩) (v := ?_) rfl (by kernel_rfl) (by kernel_rfl) (by kernel_rfl) (fun _ _ _ h => h) (Or.inl ⟨by rfl, ?_⟩) (by assumption) ?_
          rotate_left 1
          · (intro w hSw; (try dsimp only at hSw); go_simp <;> with_reducible rfl)
          try simp only [Act.put, List.setIfInBounds_toArray, List.set_cons_zero, List.set_cons_succ]
          refine wpAnyH_take (i := 6) (oi := ⟨some 61, _, _, _, _, _⟩) (v := ?_) rfl (by kernel_rfl) (by kernel_rfl) (by kernel_rfl) (fun _ _ _ h => h) (Or.inl ⟨by rfl, ?_⟩) (by assumption) ?_
          rotate_left 1
          · (intro w hSw; (try dsimp only at hSw); go_simp <;> with_reducible rfl)
          try simp only [Act.put, List.setIfInBounds_toArray, List.set_cons_zero, List.set_cons_succ]
          refine wpAnyH_take (i := 7) (oi := ⟨some 62, _, _, _, _, _⟩) (v := ?_) rfl (by kernel_rfl) (by kernel_rfl) (by kernel_rfl) (fun _ _ _ h => h) (Or.inl ⟨by rfl, ?_⟩) (by assumption) ?_
          rotate_left 1
          · (intro w hSw; (try dsimp only at hSw); go_simp <;> with_reducible rfl)
          try simp only [Act.put, List.setIfInBounds_toArray, List.set_cons_zero, List.set_cons_succ]
          refine wpAnyH_take (i := 8) (oi := ⟨some 63, _, _, _, _, _⟩) (v := ?_) rfl (by kernel_rfl) (by kernel_rfl) (by kernel_rfl) (fun _ _ _ h => h) (Or.inl ⟨by rfl, ?_⟩) (by assumption) ?_
          rotate_left 1
          · (intro w hSw; (try dsimp only at hSw); go_simp <;> with_reducible rfl)
          try simp only [Act.put, List.setIfInBounds_toArray, List.set_cons_zero, List.set_cons_succ]
          refine wpAnyH_take (i := 9) (oi := ⟨some 64, _, _, _, _, _⟩) (v := ?_) rfl (by kernel_rfl) (by kernel_rfl) (by kernel_rfl) (fun _ _ _ h => h) (Or.inl ⟨by rfl, ?_⟩) (by assumption) ?_
          rotate_left 1
          · (intro w hSw; (try dsimp only at hSw); go_simp <;> with_reducible rfl)
          try simp only [Act.put, List.setIfInBounds_toArray, List.set_cons_zero, List.set_cons_succ]
          refine wpAnyH_take (i := 10) (oi := ⟨some 65, _, _, _, _, _⟩) (v := ?_) rfl (by kernel_rfl) (by kernel_rfl) (by kernel_rfl) (fun _ _ _ h => h) (Or.inl ⟨by rfl, ?_⟩) (by assumption) ?_
          rotate_left 1
          · (intro w hSw; (try dsimp only at hSw); go_simp <;> with_reducible rfl)
          try simp only [Act.put, List.setIfInBounds_toArray, List.set_cons_zero, List.set_cons_succ]
          refine wpAnyH_ready (rs := [11]) (by kernel_rfl) (by simp) ?_
          refine AllReadyH.cons (o := ⟨some 66, _, _, _, _, _⟩) rfl (fun K hK => ?_) AllReadyH.nil
          go_simp
          (go_split_ands; refine (same_any _ _ _ _ _ _ qs qs _ (hRq6.below (by assumption)) (hR16.below (by assumption))).mono ?_; rintro e wx ⟨rfl, hbx⟩; rw [show decide (qs = qs) = true from by simp])
          go_wp2_with fail
          refine hK.out _ _ ?_ (fun hHeld => ?_)
          · ((try dsimp only); exact keep1 c0 (by go_split_ands; (repeat' (first | (with_reducible exact Below.refl _ _) | (with_reducible assumption) | (with_reducible refine Below.drew ?_) | (with_reducible refine Below.setCell ?_ ?_ _) | (with_reducible refine Below.alloc ?_ ?_ _) | (exact belowT (by assumption) (by assumption)) | (exact belowT (by first | assumption | exact Below.refl _ _ | exact below_alloc _ _ | exact Below.drew (by first | assumption | exact Below.refl _ _)) (by assumption)) | (exact Below.size (by assumption)) | (simp; done) | (simp; omega) | omega))))
          clear hK K
          try simp only [Act.put, List.setIfInBounds_toArray, List.set_cons_zero, List.set_cons_succ]
          refine wpAnyH_take (i := 12) (oi := ⟨some 67, _, _, _, _, _⟩) (v := ?_) rfl (by kernel_rfl) (by kernel_rfl) (by kernel_rfl) (fun _ _ _ h => h) (Or.inl ⟨by rfl, ?_⟩) (by assumption) ?_
          rotate_left 1
          · (intro w hSw; (try dsimp only at hSw); go_simp <;> with_reducible rfl)
          try simp only [Act.put, List.setIfInBounds_toArray, List.set_cons_zero, List.set_cons_succ]
          refine wpAnyH_take (i := 13) (oi := ⟨some 68, _, _, _, _, _⟩) (v := ?_) rfl (by kernel_rfl) (by kernel_rfl) (by kernel_rfl) (fun _ _ _ h => h) (Or.inl ⟨by rfl, ?_⟩) (by assumption) ?_
          rotate_left 1
          · (intro w hSw; (try dsimp only at hSw); go_simp <;> with_reducible rfl)
          try simp only [Act.put, List.setIfInBounds_toArray, List.set_cons_zero, List.set_cons_succ]
          refine wpAnyH_take (i := 14) (oi := ⟨some 69, _, _, _, _, _⟩) (v := ?_) rfl (by kernel_rfl) (by kernel_rfl) (by kernel_rfl) (fun _ _ _ h => h) (Or.inl ⟨by rfl, ?_⟩) (by assumption) ?_
          rotate_left 1
          · (intro w hSw; (try dsimp only at hSw); go_simp <;> with_reducible rfl)
          try simp only [Act.put, List.setIfInBounds_toArray, List.set_cons_zero, List.set_cons_succ]
          refine wpAnyH_take (i := 15) (oi := ⟨some 70, _, _, _, _, _⟩) (v := ?_) rfl (by kernel_rfl) (by kernel_rfl) (by kernel_rfl) (fun _ _ _ h => h) (Or.inl ⟨by rfl, ?_⟩) (by assumption) ?_
          rotate_left 1
          · (intro w hSw; (try dsimp only at hSw); go_simp <;> with_reducible rfl)
          try simp only [Act.put, List.setIfInBounds_toArray, List.set_cons_zero, List.set_cons_succ]
          refine wpAnyH_take (i := 16) (oi := ⟨some 71, _, _, _, _, _⟩) (v := ?_) rfl (by kernel_rfl) (by kernel_rfl) (by kernel_rfl) (fun _ _ _ h => h) (Or.inl ⟨by rfl, ?_⟩) (by assumption) ?_
          rotate_left 1
          · (intro w hSw; (try dsimp only at hSw); go_simp <;> with_reducible rfl)
          try simp only [Act.put, List.setIfInBounds_toArray, List.set_cons_zero, List.set_cons_succ]
          refine wpAnyH_take (i := 17) (oi := ⟨some 72, _, _, _, _, _⟩) (v := ?_) rfl (by kernel_rfl) (by kernel_rfl) (by kernel_rfl) (fun _ _ _ h => h) (Or.inl ⟨by rfl, ?_⟩) (by assumption) ?_
          rotate_left 1
          · (intro w hSw; (try dsimp only at hSw); go_simp <;> with_reducible rfl)
          try simp only [Act.put, List.setIfInBounds_toArray, List.set_cons_zero, List.set_cons_succ]
          refine wpAnyH_take (i := 18) (oi := ⟨some 73, _, _, _, _, _⟩) (v := ?_) rfl (by kernel_rfl) (by kernel_rfl) (by kernel_rfl) (fun _ _ _ h => h) (Or.inl ⟨by rfl, ?_⟩) (by assumption) ?_
          rotate_left 1
          · (intro w hSw; (try dsimp only at hSw); go_simp <;> with_reducible rfl)
          try simp only [Act.put, List.setIfInBounds_toArray, List.set_cons_zero, List.set_cons_succ]
          refine wpAnyH_take (i := 19) (oi := ⟨some 74, _, _, _, _, _⟩) (v := ?_) rfl (by kernel_rfl) (by kernel_rfl) (by kernel_rfl) (fun _ _ _ h => h) (Or.inl ⟨by rfl, ?_⟩) (by assumption) ?_
          rotate_left 1
          · (intro w hSw; (try dsimp only at hSw); go_simp <;> with_reducible rfl)
          try simp only [Act.put, List.setIfInBounds_toArray, List.set_cons_zero, List.set_cons_succ]
          refine wpAnyH_take (i := 20) (oi := ⟨some 75, _, _, _, _, _⟩) (v := ?_) rfl (by kernel_rfl) (by kernel_rfl) (by kernel_rfl) (fun _ _ _ h => h) (Or.inl ⟨by rfl, ?_⟩) (by assumption) ?_
          rotate_left 1
          · (intro w hSw; (try dsimp only at hSw); go_simp <;> with_reducible rfl)
          try simp only [Act.put, List.setIfInBounds_toArray, List.set_cons_zero, List.set_cons_succ]
          refine wpAnyH_take (i := 21) (oi := ⟨some 76, _, _, _, _, _⟩) (v := ?_) rfl (by kernel_rfl) (by kernel_rfl) (by kernel_rfl) (fun _ _ _ h => h) (Or.inl ⟨by rfl, ?_⟩) (by assumption) ?_
          rotate_left 1
          · (intro w hSw; (try dsimp only at hSw); go_simp <;> with_reducible rfl)
          try simp only [Act.put, List.setIfInBounds_toArray, List.set_cons_zero, List.set_cons_succ]
          refine wpAnyH_take (i := 22) (oi := ⟨some 77, _, _, _, _, _⟩) (v := ?_) rfl (by kernel_rfl) (by kernel_rfl) (by kernel_rfl) (fun _ _ _ h => h) (Or.inl ⟨by rfl, ?_⟩) (by assumption) ?_
          rotate_left 1
          · (intro w hSw; (try dsimp only at hSw); go_simp <;> with_reducible rfl)
          try simp only [Act.put, List.setIfInBounds_toArray, List.set_cons_zero, List.set_cons_succ]
          refine wpAnyH_take (i := 23) (oi := ⟨some 78, _, _, _, _, _⟩) (v := ?_) rfl (by kernel_rfl) (by kernel_rfl) (by kernel_rfl) (fun _ _ _ h => h) (Or.inl ⟨by rfl, ?_⟩) (by assumption) ?_
          rotate_left 1
          · (intro w hSw; (try dsimp only at hSw); go_simp <;> with_reducible rfl)
          try simp only [Act.put, List.setIfInBounds_toArray, List.set_cons_zero, List.set_cons_succ]
          refine wpAnyH_take (i := 24) (oi := ⟨some 79, _, _, _, _, _⟩) (v := ?_) rfl (by kernel_rfl) (by kernel_rfl) (by kernel_rfl) (fun _ _ _ h => h) (Or.inl ⟨by rfl, ?_⟩) (by assumption) ?_
          rotate_left 1
          · (intro w hSw; (try dsimp only at hSw); go_simp <;> with_reducible rfl)
          try simp only [Act.put, List.setIfInBounds_toArray, List.set_cons_zero, List.set_cons_succ]
          refine wpAnyH_take (i := 25) (oi := ⟨some 80, _, _, _, _, _⟩) (v := ?_) rfl (by kernel_rfl) (by kernel_rfl) (by kernel_rfl) (fun _ _ _ h => h) (Or.inl ⟨by rfl, ?_⟩) (by assumption) ?_
          rotate_left 1
          · (intro w hSw; (try dsimp only at hSw); go_simp <;> with_reducible rfl)
          try simp only [Act.put, List.setIfInBounds_toArray, List.set_cons_zero, List.set_cons_succ]
          refine wpAnyH_take (i := 26) (oi := ⟨some 81, _, _, _, _, _⟩) (v := ?_) rfl (by kernel_rfl) (by kernel_rfl) (by kernel_rfl) (fun _ _ _ h => h) (Or.inl ⟨by rfl, ?_⟩) (by assumption) ?_
          rotate_left 1
          · (intro w hSw; (try dsimp only at hSw); go_simp <;> with_reducible rfl)
          try simp only [Act.put, List.setIfInBounds_toArray, List.set_cons_zero, List.set_cons_succ]
          refine wpAnyH_take (i := 27) (oi := ⟨some 82, _, _, _, _, _⟩) (v := ?_) rfl (by kernel_rfl) (by kernel_rfl) (by kernel_rfl) (fun _ _ _ h => h) (Or.inl ⟨by rfl, ?_⟩) (by assumption) ?_
          rotate_left 1
          · (intro w hSw; (try dsimp only at hSw); go_simp <;> with_reducible rfl)
          try simp only [Act.put, List.setIfInBounds_toArray, List.set_cons_zero, List.set_cons_succ]
          refine wpAnyH_take (i := 28) (oi := ⟨some 83, _, _, _, _, _⟩) (v := ?_) rfl (by kernel_rfl) (by kernel_rfl) (by kernel_rfl) (fun _ _ _ h => h) (Or.inl ⟨by rfl, ?_⟩) (by assumption) ?_
          rotate_left 1
          · (intro w hSw; (try dsimp only at hSw); go_simp <;> with_reducible rfl)
          try simp only [Act.put, List.setIfInBounds_toArray, List.set_cons_zero, List.set_cons_succ]
          refine wpAnyH_take (i := 29) (oi := ⟨some 84, _, _, _, _, _⟩) (v := ?_) rfl (by kernel_rfl) (by kernel_rfl) (by kernel_rfl) (fun _ _ _ h => h) (Or.inl ⟨by rfl, ?_⟩) (by assumption) ?_
          rotate_left 1
          · (intro w hSw; (try dsimp only at hSw); go_simp <;> with_reducible rfl)
          try simp only [Act.put, List.setIfInBounds_toArray, List.set_cons_zero, List.set_cons_succ]
          refine wpAnyH_take (i := 30) (oi := ⟨some 85, _, _, _, _, _⟩) (v := ?_) rfl (by kernel_rfl) (by kernel_rfl) (by kernel_rfl) (fun _ _ _ h => h) (Or.inl ⟨by rfl, ?_⟩) (by assumption) ?_
          rotate_left 1
          · (intro w hSw; (try dsimp only at hSw); go_simp <;> with_reducible rfl)
          try simp only [Act.put, List.setIfInBounds_toArray, List.set_cons_zero, List.set_cons_succ]
          refine wpAnyH_take (i := 31) (oi := ⟨some 86, _, _, _, _, _⟩) (v := ?_) rfl (by kernel_rfl) (by kernel_rfl) (by kernel_rfl) (fun _ _ _ h => h) (Or.inl ⟨by rfl, ?_⟩) (by assumption) ?_
          rotate_left 1
          · (intro w hSw; (try dsimp only at hSw); go_simp <;> with_reducible rfl)
          try simp only [Act.put, List.setIfInBounds_toArray, List.set_cons_zero, List.set_cons_succ]
          refine wpAnyH_take (i := 32) (oi := ⟨some 87, _, _, _, _, _⟩) (v := ?_) rfl (by kernel_rfl) (by kernel_rfl) (by kernel_rfl) (fun _ _ _ h => h) (Or.inl ⟨by rfl, ?_⟩) (by assumption) ?_
          rotate_left 1
          · (intro w hSw; (try dsimp only at hSw); go_simp <;> with_reducible rfl)
          try simp only [Act.put, List.setIfInBounds_toArray, List.set_cons_zero, List.set_cons_succ]
          refine wpAnyH_take (i := 33) (oi := ⟨some 88, _, _, _, _, _⟩) (v := ?_) rfl (by kernel_rfl) (by kernel_rfl) (by kernel_rfl) (fun _ _ _ h => h) (Or.inl ⟨by rfl, ?_⟩) (by assumption) ?_
          rotate_left 1
          · (intro w hSw; (try dsimp only at hSw); go_simp <;> with_reducible rfl)
          try simp only [Act.put, List.setIfInBounds_toArray, List.set_cons_zero, List.set_cons_succ]
          refine wpAnyH_take (i := 34) (oi := ⟨some 89, _, _, _, _, _⟩) (v := ?_) rfl (by kernel_rfl) (by kernel_rfl) (by kernel_rfl) (fun _ _ _ h => h) (Or.inl ⟨by rfl, ?_⟩) (by assumption) ?_
          rotate_left 1
          · (intro w hSw; (try dsimp only at hSw); go_simp <;> with_reducible rfl)
          try simp only [Act.put, List.setIfInBounds_toArray, List.set_cons_zero, List.set_cons_succ]
          refine wpAnyH_take (i := 35) (oi := ⟨some 90, _, _, _, _, _⟩) (v := ?_) rfl (by kernel_rfl) (by kernel_rfl) (by kernel_rfl) (fun _ _ _ h => h) (Or.inl ⟨by rfl, ?_⟩) (by assumption) ?_
          rotate_left 1
          · (intro w hSw; (try dsimp only at hSw); go_simp <;> with_reducible rfl)
          try simp only [Act.put, List.setIfInBounds_toArray, List.set_cons_zero, List.set_cons_succ]
          refine wpAnyH_take (i := 36) (oi := ⟨some 91, _, _, _, _, _⟩) (v := ?_) rfl (by kernel_rfl) (by kernel_rfl) (by kernel_rfl) (fun _ _ _ h => h) (Or.inl ⟨by rfl, ?_⟩) (by assumption) ?_
          rotate_left 1
          · (intro w hSw; (try dsimp only at hSw); go_simp <;> with_reducible rfl)
          try simp only [Act.put, List.setIfInBounds_toArray, List.set_cons_zero, List.set_cons_succ]
          refine wpAnyH_take (i := 37) (oi := ⟨some 92, _, _, _, _, _⟩) (v := undef) rfl (by kernel_rfl) (by kernel_rfl) (by kernel_rfl) (fun _ _ _ h => h) (Or.inr ⟨by rfl, rfl⟩) (by assumption) ?_
          try simp only [Act.put, List.setIfInBounds_toArray, List.set_cons_zero, List.set_cons_succ]
          refine wpAnyH_take (i := 38) (oi := ⟨some 93, _, _, _, _, _⟩) (v := undef) rfl (by kernel_rfl) (by kernel_rfl) (by kernel_rfl) (fun _ _ _ h => h) (Or.inr ⟨by rfl, rfl⟩) (by assumption) ?_
          try simp only [Act.put, List.setIfInBounds_toArray, List.set_cons_zero, List.set_cons_succ]
          refine wpAnyH_take (i := 39) (oi := ⟨some 94, _, _, _, _, _⟩) (v := undef) rfl (by kernel_rfl) (by kernel_rfl) (by kernel_rfl) (fun _ _ _ h => h) (Or.inr ⟨by rfl, rfl⟩) (by assumption) ?_
          try simp only [Act.put, List.setIfInBounds_toArray, List.set_cons_zero, List.set_cons_succ]
          refine wpAnyH_take (i := 40) (oi := ⟨some 95, _, _, _, _, _⟩) (v := undef) rfl (by kernel_rfl) (by kernel_rfl) (by kernel_rfl) (fun _ _ _ h => h) (Or.inr ⟨by rfl, rfl⟩) (by assumption) ?_
          try simp only [Act.put, List.setIfInBounds_toArray, List.set_cons_zero, List.set_cons_succ]
          refine wpAnyH_take (i := 41) (oi := ⟨some 96, _, _, _, _, _⟩) (v := undef) rfl (by kernel_rfl) (by kernel_rfl) (by kernel_rfl) (fun _ _ _ h => h) (Or.inr ⟨by rfl, rfl⟩) (by assumption) ?_
          try simp only [Act.put, List.setIfInBounds_toArray, List.set_cons_zero, List.set_cons_succ]
          refine wpAnyH_take (i := 42) (oi := ⟨some 97, _, _, _, _, _⟩) (v := undef) rfl (by kernel_rfl) (by kernel_rfl) (by kernel_rfl) (fun _ _ _ h => h) (Or.inr ⟨by rfl, rfl⟩) (by assumption) ?_
          try simp only [Act.put, List.setIfInBounds_toArray, List.set_cons_zero, List.set_cons_succ]
          refine wpAnyH_take (i := 43) (oi := ⟨some 98, _, _, _, _, _⟩) (v := undef) rfl (by kernel_rfl) (by kernel_rfl) (by kernel_rfl) (fun _ _ _ h => h) (Or.inr ⟨by rfl, rfl⟩) (by assumption) ?_
          try simp only [Act.put, List.setIfInBounds_toArray, List.set_cons_zero, List.set_cons_succ]
          refine wpAnyH_take (i := 44) (oi := ⟨some 99, _, _, _, _, _⟩) (v := undef) rfl (by kernel_rfl) (by kernel_rfl) (by kernel_rfl) (fun _ _ _ h => h) (Or.inr ⟨by rfl, rfl⟩) (by assumption) ?_
          try simp only [Act.put, List.setIfInBounds_toArray, List.set_cons_zero, List.set_cons_succ]
          refine wpAnyH_take (i := 45) (oi := ⟨some 100, _, _, _, _, _⟩) (v := ?_) rfl (by kernel_rfl) (by kernel_rfl) (by kernel_rfl) (fun _ _ _ h => h) (Or.inl ⟨by rfl, ?_⟩) (by assumption) ?_
          rotate_left 1
          · (intro w hSw; (try dsimp only at hSw); go_simp <;> with_reducible rfl)
          try simp only [Act.put, List.setIfInBounds_toArray, List.set_cons_zero, List.set_cons_succ]
          refine wpAnyH_take (i := 46) (oi := ⟨some 101, _, _, _, _, _⟩) (v := ?_) rfl (by kernel_rfl) (by kernel_rfl) (by kernel_rfl) (fun _ _ _ h => h) (Or.inl ⟨by rfl, ?_⟩) (by assumption) ?_
          rotate_left 1
          · (intro w hSw; (try dsimp only at hSw); go_simp <;> with_reducible rfl)
          try simp only [Act.put, List.setIfInBounds_toArray, List.set_cons_zero, List.set_cons_succ]
          refine wpAnyH_take (i := 47) (oi := ⟨some 4, _, _, _, _, _⟩) (v := ?_) rfl (by kernel_rfl) (by kernel_rfl) (by kernel_rfl) (fun _ _ _ h => h) (Or.inl ⟨by rfl, ?_⟩) (by assumption) ?_
          rotate_left 1
          · (intro w hSw; (try dsimp only at hSw); go_simp <;> with_reducible rfl)
          try simp only [Act.put, List.setIfInBounds_toArray, List.set_cons_zero, List.set_cons_succ]
          refine wpAnyH_done (by kernel_rfl) ?_ _
          refine NoPanic.normal ?_
          obtain ⟨_, hBx⟩ := hHeld
          go_wp2_with fail
          go_ret
          exact ⟨rfl, hB6.trans (hBx.mono hB6.size)⟩

set_option maxRecDepth 100000 in
theorem lifted (os : Os) (started : os.Started) (H : Type) (enc : TypeId × Value → H) :
    ReturnsInHanded {} Try.checked os 6 .any (Rows.queueKeepsSpec.pre6 enc Try.prog Try.f6 Rows.queueKeepsRow.domain false) (Rows.queueKeepsSpec.post enc Try.prog Try.f6 false true false false) := by
  refine returnsInHanded_of_change (C := Try.checked) own started (by kernel_rfl) Try.func6
    (ChangeSpec.witness6 (enc := enc) (C := Try.checked) false ⟨#[], #[.slice none 0 0, .int .u8 0], []⟩ 8 (by kernel_rfl) (by kernel_rfl) (by kernel_rfl) (by kernel_rfl)) ?_
  intro W base args ds gs before hval0 hW hcnd _
  have hval : ∀ (j : Nat) t v, Try.f6.params[j]? = some t → args[j]? = some v → Value.okWide Try.prog W .any base t v := hval0
  have hW' := hW
  obtain ⟨p, q, hA0, hV, rfl, hfz, hnd⟩ := hW
  have hA : DataW.TrodAll enc Try.prog W 0 (fun _ => true) true Try.f6.params.toList args.toList ds p := hA0
  rw [Try.params6] at hA hval
  obtain ⟨v0, vs0, d0, ds0, p0, q0, hargs, rfl, rfl, h0, r0⟩ := trodAll_cons hA
  obtain ⟨v1, vs1, d1, ds1, p1, q1, rfl, rfl, rfl, h1, r1⟩ := trodAll_cons r0
  obtain ⟨rfl, rfl, rfl⟩ := trodAll_nil r1
  obtain rfl : args = #[v0, v1] := by cases args; simp_all
  obtain ⟨rfl, rfl⟩ := trodVars_none hV
  have k0 := h0
  have lt0 : ∀ x ∈ p0, x.block < W.heap.size := by obtain ⟨m, hm⟩ := k0; exact DataW.trod_lt m _ _ _ hm
  have g0 := arg_of (hval 0 42 v0 rfl rfl) h0
  have k1 := h1
  have lt1 : ∀ x ∈ p1, x.block < W.heap.size := by obtain ⟨m, hm⟩ := k1; exact DataW.trod_lt m _ _ _ hm
  have g1 := arg_of (hval 1 5 v1 rfl rfl) h1
  clear hA0 hval0
  refine (walk v0 v1 W g0 g1).mono fun e W' ⟨he, bel⟩ => ?_
  subst he
  exact ⟨_, rfl, _, _, _, [], _, [], hW', trodAll_mk1 (shut_bool Try.underlying4 _), (trodAll_cons_mk (Below.trod laidOut (by kernel_rfl) (of_decide_eq_true (by kernel_rfl)) k0 bel lt0) (trodAll_cons_mk (Below.trod laidOut (by kernel_rfl) (of_decide_eq_true (by kernel_rfl)) k1 bel lt1) trodAll_mk0)), rfl, bel.frame _, fun h => by cases h⟩

theorem over : Rows.queueKeepsRow.holds Try.pinned (OpenSpec.ofChange Rows.queueKeepsSpec) :=
  OpenClaim.holds_of_wide 6 Try.f6 rfl rfl rfl rfl rfl rfl rfl ⟨rfl, rfl, rfl, rfl, rfl⟩ rfl rfl rfl rfl rfl (by kernel_rfl) Try.func6 (by kernel_rfl)
    (of_decide_eq_true (by kernel_rfl)) (by unfold Func.isWrapper; first | (rw [if_pos (by decide +kernel)]; kernel_rfl) | (rw [if_neg (by decide +kernel)]; exact ⟨rfl, rfl⟩))
    (fun os started H enc _ => lifted os started H enc)

theorem proved : Rows.QueueKeepsSaid := over
end Go.Proofs.Ytajcfogddgekpaa.queueKeeps
