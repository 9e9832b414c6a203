/-
  classroomref26.Add, whatever the list.
-/
import Derived.Test.YtgmpoakcbgnfbaaAdd
namespace Go.Proofs.Ytgmpoakcbgnfbaa
open Go.ChangeShapes Go.WideShapes Go.ChangeAt Go.RowKit
set_option linter.unusedSimpArgs false
set_option linter.unusedVariables false
attribute [local go_sem ↓] Go.wp_at_zero Go.wp_at_succ

theorem refRole_any (a : Option Addr) (len cap : Nat) (l : List U) (s : ByteArray) (w : World) (hR : RowU w a len cap l) (hcm : cap ≤ maxLen) :
    Calls Try.prog 12 #[.slice a len cap, .string s] w fun e w' => e = .returned (.tuple #[.int .i64 (roleL s l).1, .bool (roleL s l).2]) ∧ Below w.heap.size w w' := by
  have hlen := hR.len_eq
  refine ((refRole_v l s (by rw [hlen]; exact hR.small)).calls (vals := #[.slice a len cap, .string s]) (w := w) ?_).mono ?_
  · refine V.RepL.cons ?_ (V.RepL.cons (V.RepF.str s) V.RepL.nil)
    have := V.rep_of_row pairU encU_ok (p := V.pl0) hR hcm (fun x _ => V.pl0_M _)
    rw [← hlen] at this ⊢
    exact this
  · rintro e w' ⟨v, av, H', p', rfl, ⟨rfl, _⟩, hr, hB⟩
    exact ⟨by rw [rep_tup2 hr rfl rfl], hB⟩

set_option maxHeartbeats 2000000 in
theorem refAdd_any (a : Option Addr) (len cap : Nat) (l : List U) (s : ByteArray) (r : Int) (w : World) (hR : RowU w a len cap l) (hcm : cap ≤ maxLen) (hS : SmallU l) (hs : s.size ≤ maxLen) :
    Calls Try.prog 10 #[.slice a len cap, .string s, .int .i64 r] w fun e w' => ∃ v, e = .returned (.tuple #[v, .int .i64 (addE l s r)]) ∧ OwnU w' w.heap.size v (addL l s r) ∧ Below w.heap.size w w' := by
  have hm := hR.small
  have hle := Lib.hid hR.len_eq
  by_cases hc : chkL l = 0
  · by_cases hk : chk s r = 0
    · cases hrl : (roleL s l).2
      · by_cases h32 : len = 32
        · have HE : Hid (addE l s r = 2) := by unfold addE; rw [if_neg (by simp [hc]), if_neg (by simp [hk]), if_neg (by simp [hrl]), if_pos (by rw [hR.len_eq]; exact h32)]; rfl
          have HL := Lib.hid (addL_err HE.out (by decide))
          have Hc := Lib.hid hc
          have Hk := Lib.hid hk
          have Hr := Lib.hid hrl
          clear hc hk hrl
          have hb : decide ((len : Int) ≥ 32) = true := by rw [decide_eq_true_iff]; omega
          clear h32
          go_enter Try.func10, Try.ntmps10
          go_wp2_with fail
          with_reducible refine (refCheck_any _ _ _ _ _ hR hS).mono ?_
          rintro e w1 ⟨rfl, hB1⟩
          rw [Hc.out]
          go_wp2_with fail
          with_reducible refine (refCheckUser_any _ _ _ hs).mono ?_
          rintro e w2 ⟨rfl, rfl⟩
          rw [Hk.out]
          go_wp2_with fail
          with_reducible refine (refRole_any _ _ _ _ _ _ (hR.below hB1) hcm).mono ?_
          rintro e w3 ⟨rfl, hB2⟩
          rw [Hr.out]
          generalize (roleL s l).1 = q at *
          go_wp2_with fail
          go_ret2
          refine ⟨.slice none 0 0, by rw [HE.out]; rfl, ?_, hB1.trans (hB2.mono hB1.size)⟩
          rw [HL.out]
          exact OwnE.nil _ _ _ _ _
        · have HE : Hid (addE l s r = 0) := by unfold addE; rw [if_neg (by simp [hc]), if_neg (by simp [hk]), if_neg (by simp [hrl]), if_neg (by rw [hR.len_eq]; exact h32)]; rfl
          have HL : Hid (addL l s r = l.take (posL s l) ++ (s, r) :: l.drop (posL s l)) := by unfold addL; rw [if_pos HE.out]; rfl
          have hl32 := chkL_len hc
          have Hc := Lib.hid hc
          have Hk := Lib.hid hk
          have Hr := Lib.hid hrl
          clear hc hk hrl
          have hb : decide ((len : Int) ≥ 32) = false := by rw [decide_eq_false_iff_not]; have := hle.out; omega
          go_enter Try.func10, Try.ntmps10
          go_wp2_with fail
          with_reducible refine (refCheck_any _ _ _ _ _ hR hS).mono ?_
          rintro e w1 ⟨rfl, hB1⟩
          rw [Hc.out]
          go_wp2_with fail
          with_reducible refine (refCheckUser_any _ _ _ hs).mono ?_
          rintro e w2 ⟨rfl, rfl⟩
          rw [Hk.out]
          go_wp2_with fail
          with_reducible refine (refRole_any _ _ _ _ _ _ (hR.below hB1) hcm).mono ?_
          rintro e w3 ⟨rfl, hB2⟩
          rw [Hr.out]
          generalize (roleL s l).1 = q at *
          have hB3 := hB1.trans (hB2.mono hB1.size)
          clear hB1 hB2
          go_wp2_with fail
          go_loopw [11] (fun i wr => ∃ k : Nat, k ≤ len ∧ i = .int .i64 k ∧ Below w.heap.size w wr ∧ Hid (posL s l = k + posL s (l.drop k))) (fun i _ => len - (intOf i).toNat)
          case atStart => exact ⟨0, Nat.zero_le _, rfl, hB3, Lib.hid (by simp)⟩
          case round =>
            obtain ⟨k, hk, rfl, hB, hE⟩ := hrel
            by_cases hlt : k < len
            · have hkl : k < l.length := by rw [hR.len_eq]; exact hlt
              obtain ⟨b, off, ha, hbb, hc1, hc2⟩ := RowU.at hR k hlt
              rw [← hB.cell (p := ⟨b, _, none⟩) hbb] at hc1 hc2
              cases hlx : ltS l[k].1 s
              · have HP := Lib.hid (pos_stop hkl hlx hE.out)
                generalize l[k] = u at *
                obtain ⟨t, r2⟩ := u
                simp only at hc1 hc2 hlx
                unfold ltS at hlx
                subst ha
                clear hE
                have hR2 := hR.below hB
                have hbs := hB.size
                go_wp2_with fail
                obtain ⟨wd, hwd⟩ : ∃ wd, wd = wr.drew := ⟨_, rfl⟩
                have hBd : Below wr.heap.size wr wd := by rw [hwd]; exact (Below.refl _ _).drew
                have hR3 := hR2.below hBd
                have hBw := hB.trans (hBd.mono hbs)
                have hbw := hBw.size
                clear hBd hR2
                have hll := hle.out
                have hkk : k ≤ l.length := by rw [hll]; exact hk
                obtain ⟨hsl1, hrt⟩ := hR3.take elemU encU_ok k k rfl hk
                obtain ⟨ad, hsl2, hrd⟩ := hR3.drop elemU encU_ok k k rfl hk
                have htk : (l.take k).length = k := by rw [List.length_take]; omega
                obtain ⟨CS, hCS⟩ : ∃ CS : Array Value, CS = #[.string s, .int .i64 r] := ⟨_, rfl⟩
                have hCL : CS.toList = encU (s, r) := by rw [hCS]; rfl
                -- the copy first
                obtain ⟨v1, w1, hA1, hoA1, hgA1⟩ := append_E elemU encU_ok wd wd.heap.size 22 (.slice none 0 0) [] 0 rfl (OwnE.nil _ _ _ _ _) _ k _ (l.take k) hrt (by unfold maxLen; omega) (by omega) (Nat.le_refl _)
                have hbA1 : Below wd.heap.size wd w1 := below_grown (OwnE.nil encU 41 2 wd wd.heap.size) (Nat.le_refl _) hgA1
                have hoA2 := hoA1.below (below_alloc w1 (.cells CS 41))
                obtain ⟨v2, w2, hA2, hoA3, hgA2⟩ := append_E elemU encU_ok (w1.alloc (.cells CS 41)) wd.heap.size 22 v1 _ k htk hoA2 _ 1 1 [(s, r)] (RowE.one encU_ok w1 CS 41 (s, r) hCL) (by unfold maxLen; omega) (by omega) (by have := hbA1.size; simp; omega)
                have hbA2 : Below wd.heap.size wd w2 := hbA1.trans (((below_alloc w1 _).mono hbA1.size).trans (below_grown hoA2 (by have := hbA1.size; simp; omega) hgA2))
                obtain ⟨v3, w3, hA3, hoA4, hgA3⟩ := append_E elemU encU_ok w2 wd.heap.size 22 v2 _ (k + 1) (by simp [htk]) hoA3 ad (len - k) (cap - k) (l.drop k) (hrd.below hbA2) (by unfold maxLen; omega) (by omega) hbA2.size
                have hbA3 : Below wd.heap.size wd w3 := hbA2.trans (below_grown hoA3 hbA2.size hgA3)
                -- the new element first
                have hbB0 : Below wd.heap.size wd (wd.alloc (.cells CS 41)) := below_alloc wd _
                obtain ⟨v4, w4, hB1, hoB1, hgB1⟩ := append_E elemU encU_ok (wd.alloc (.cells CS 41)) (wd.alloc (.cells CS 41)).heap.size 22 (.slice none 0 0) [] 0 rfl (OwnE.nil _ _ _ _ _) _ k _ (l.take k) (hrt.below hbB0) (by unfold maxLen; omega) (by omega) (Nat.le_refl _)
                have hbB1 : Below (wd.alloc (.cells CS 41)).heap.size (wd.alloc (.cells CS 41)) w4 := below_grown (OwnE.nil encU 41 2 _ _) (Nat.le_refl _) hgB1
                have hbB2 : Below wd.heap.size wd w4 := hbB0.trans (hbB1.mono (by simp))
                obtain ⟨v5, w5, hB2, hoB3, hgB2⟩ := append_E elemU encU_ok w4 _ 22 v4 _ k htk hoB1 _ 1 1 [(s, r)] ((RowE.one encU_ok wd CS 41 (s, r) hCL).below hbB1) (by unfold maxLen; omega) (by omega) hbB1.size
                have hbB3 : Below wd.heap.size wd w5 := hbB2.trans ((below_grown hoB1 hbB1.size hgB2).mono (by simp))
                obtain ⟨v6, w6, hB3, hoB4, hgB3⟩ := append_E elemU encU_ok w5 wd.heap.size 22 v5 _ (k + 1) (by simp [htk]) (hoB3.base (by simp)) ad (len - k) (cap - k) (l.drop k) (hrd.below hbB3) (by unfold maxLen; omega) (by omega) hbB3.size
                have hbB4 : Below wd.heap.size wd w6 := hbB3.trans (below_grown (hoB3.base (by simp)) hbB3.size hgB3)
                have HA := Lib.hid (And.intro (OwnE.base hoA4 hbw) (hBw.trans (hbA3.mono hbw)))
                have HB := Lib.hid (And.intro (OwnE.base hoB4 hbw) (hBw.trans (hbB4.mono hbw)))
                clear hoA1 hoA2 hoA3 hoA4 hoB1 hoB3 hoB4 hgA1 hgA2 hgA3 hgB1 hgB2 hgB3 hbA1 hbA2 hbA3 hbB0 hbB1 hbB2 hbB3 hbB4 hrt hrd hCL htk hkk hll
                subst hCS
                subst hwd
                refine wp_region_noPanic ?_
                refine wp_region_held_drew (S := (fun _ => True)) (by kernel_rfl) ?_ (fun hHeld => ?_)
                · ((try dsimp only); try trivial)
                refine wpAnyH_take (i := 0) (oi := ⟨some 47, _, _, _, _, _⟩) (v := ?_) rfl (by kernel_rfl) (by kernel_rfl) (by kernel_rfl) (fun _ _ _ h => h) (Or.inl ⟨by rfl, ?_⟩) (by assumption) ?_
                rotate_left 1
                · (intro w hSw; (try dsimp only at hSw); go_simp <;> first | with_reducible rfl | (rw [if_pos (by omega)]))
                try simp only [Act.put, List.setIfInBounds_toArray, List.set_cons_zero, List.set_cons_succ]
                refine wpAnyH_take (i := 1) (oi := ⟨some 48, _, _, _, _, _⟩) (v := ?_) rfl (by kernel_rfl) (by kernel_rfl) (by kernel_rfl) (fun _ _ _ h => h) (Or.inl ⟨by rfl, ?_⟩) (by assumption) ?_
                rotate_left 1
                · (intro w hSw; (try dsimp only at hSw); go_simp <;> first | with_reducible rfl | (rw [if_pos (by omega)]))
                try simp only [Act.put, List.setIfInBounds_toArray, List.set_cons_zero, List.set_cons_succ]
                refine wpAnyH_take (i := 2) (oi := ⟨some 49, _, _, _, _, _⟩) (v := ?_) rfl (by kernel_rfl) (by kernel_rfl) (by kernel_rfl) (fun _ _ _ h => h) (Or.inl ⟨by rfl, ?_⟩) (by assumption) ?_
                rotate_left 1
                · (intro w hSw; (try dsimp only at hSw); go_simp <;> first | with_reducible rfl | (rw [if_pos (by omega)]))
                try simp only [Act.put, List.setIfInBounds_toArray, List.set_cons_zero, List.set_cons_succ]
                refine wpAnyH_take (i := 4) (oi := ⟨some 51, _, _, _, _, _⟩) (v := ?_) rfl (by kernel_rfl) (by kernel_rfl) (by kernel_rfl) (fun _ _ _ h => h) (Or.inl ⟨by rfl, ?_⟩) (by assumption) ?_
                rotate_left 1
                · (intro w hSw; (try dsimp only at hSw); go_simp <;> first | with_reducible rfl | (rw [if_pos (by omega)]))
                try simp only [Act.put, List.setIfInBounds_toArray, List.set_cons_zero, List.set_cons_succ]
                refine wpAnyH_take (i := 5) (oi := ⟨some 52, _, _, _, _, _⟩) (v := ?_) rfl (by kernel_rfl) (by kernel_rfl) (by kernel_rfl) (fun _ _ _ h => h) (Or.inl ⟨by rfl, ?_⟩) (by assumption) ?_
                rotate_left 1
                · (intro w hSw; (try dsimp only at hSw); go_simp <;> first | with_reducible rfl | (rw [if_pos (by omega)]))
                try simp only [Act.put, List.setIfInBounds_toArray, List.set_cons_zero, List.set_cons_succ]
                refine wpAnyH_take (i := 6) (oi := ⟨some 53, _, _, _, _, _⟩) (v := ?_) rfl (by kernel_rfl) (by kernel_rfl) (by kernel_rfl) (fun _ _ _ h => h) (Or.inl ⟨by rfl, ?_⟩) (by assumption) ?_
                rotate_left 1
                · (intro w hSw; (try dsimp only at hSw); go_simp <;> first | with_reducible rfl | (rw [if_pos (by omega)]))
                try simp only [Act.put, List.setIfInBounds_toArray, List.set_cons_zero, List.set_cons_succ]
                refine wpAnyH_take (i := 9) (oi := ⟨some 56, _, _, _, _, _⟩) (v := ?_) rfl (by kernel_rfl) (by kernel_rfl) (by kernel_rfl) (fun _ _ _ h => h) (Or.inl ⟨by rfl, ?_⟩) (by assumption) ?_
                rotate_left 1
                · (intro w hSw; (try dsimp only at hSw); go_simp <;> first | with_reducible rfl | (rw [if_pos (by omega)]))
                try simp only [Act.put, List.setIfInBounds_toArray, List.set_cons_zero, List.set_cons_succ]
                refine wpAnyH_take (i := 10) (oi := ⟨some 57, _, _, _, _, _⟩) (v := ?_) rfl (by kernel_rfl) (by kernel_rfl) (by kernel_rfl) (fun _ _ _ h => h) (Or.inl ⟨by rfl, ?_⟩) (by assumption) ?_
                rotate_left 1
                · (intro w hSw; (try dsimp only at hSw); go_simp <;> first | with_reducible rfl | (rw [if_pos (by omega)]))
                try simp only [Act.put, List.setIfInBounds_toArray, List.set_cons_zero, List.set_cons_succ]
                refine wpAnyH_take (i := 11) (oi := ⟨some 58, _, _, _, _, _⟩) (v := ?_) rfl (by kernel_rfl) (by kernel_rfl) (by kernel_rfl) (fun _ _ _ h => h) (Or.inl ⟨by rfl, ?_⟩) (by assumption) ?_
                rotate_left 1
                · (intro w hSw; (try dsimp only at hSw); go_simp <;> first | with_reducible rfl | (rw [if_pos (by omega)]))
                try simp only [Act.put, List.setIfInBounds_toArray, List.set_cons_zero, List.set_cons_succ]
                refine wpAnyH_ready (rs := [3, 7]) (by kernel_rfl) (by simp) ?_
                refine AllReadyH.cons (o := ⟨some 50, _, _, _, _, _⟩) rfl (fun K hK => ?_) ?_
                · skip
                  first | (refine step_append_by hA1 rfl _ _ rfl rfl rfl ?_) | (refine step_append_by hA2 rfl _ _ rfl rfl rfl ?_) | (refine step_append_by hA3 rfl _ _ rfl rfl rfl ?_) | (refine step_append_by hB1 rfl _ _ rfl rfl rfl ?_) | (refine step_append_by hB2 rfl _ _ rfl rfl rfl ?_) | (refine step_append_by hB3 rfl _ _ rfl rfl rfl ?_)
                  refine hK.out _ _ ?_ (fun hHeld => ?_)
                  · ((try dsimp only); try trivial)
                  clear hK K
                  try simp only [Act.put, List.setIfInBounds_toArray, List.set_cons_zero, List.set_cons_succ]
                  refine wpAnyH_ready (rs := [7]) (by kernel_rfl) (by simp) ?_
                  refine AllReadyH.cons (o := ⟨some 54, _, _, _, _, _⟩) rfl (fun K hK => ?_) AllReadyH.nil
                  go_simp
                  refine hK.out _ _ ?_ (fun hHeld => ?_)
                  · ((try dsimp only); try trivial)
                  clear hK K
                  try simp only [Act.put, List.setIfInBounds_toArray, List.set_cons_zero, List.set_cons_succ]
                  refine wpAnyH_ready (rs := [8]) (by kernel_rfl) (by simp) ?_
                  refine AllReadyH.cons (o := ⟨some 55, _, _, _, _, _⟩) rfl (fun K hK => ?_) AllReadyH.nil
                  first | (refine step_append_by hA1 rfl _ _ rfl rfl rfl ?_) | (refine step_append_by hA2 rfl _ _ rfl rfl rfl ?_) | (refine step_append_by hA3 rfl _ _ rfl rfl rfl ?_) | (refine step_append_by hB1 rfl _ _ rfl rfl rfl ?_) | (refine step_append_by hB2 rfl _ _ rfl rfl rfl ?_) | (refine step_append_by hB3 rfl _ _ rfl rfl rfl ?_)
                  refine hK.out _ _ ?_ (fun hHeld => ?_)
                  · ((try dsimp only); try trivial)
                  clear hK K
                  try simp only [Act.put, List.setIfInBounds_toArray, List.set_cons_zero, List.set_cons_succ]
                  refine wpAnyH_ready (rs := [12]) (by kernel_rfl) (by simp) ?_
                  refine AllReadyH.cons (o := ⟨some 59, _, _, _, _, _⟩) rfl (fun K hK => ?_) AllReadyH.nil
                  first | (refine step_append_by hA1 rfl _ _ rfl rfl rfl ?_) | (refine step_append_by hA2 rfl _ _ rfl rfl rfl ?_) | (refine step_append_by hA3 rfl _ _ rfl rfl rfl ?_) | (refine step_append_by hB1 rfl _ _ rfl rfl rfl ?_) | (refine step_append_by hB2 rfl _ _ rfl rfl rfl ?_) | (refine step_append_by hB3 rfl _ _ rfl rfl rfl ?_)
                  refine hK.out _ _ ?_ (fun hHeld => ?_)
                  · ((try dsimp only); try trivial)
                  clear hK K
                  try simp only [Act.put, List.setIfInBounds_toArray, List.set_cons_zero, List.set_cons_succ]
                  refine wpAnyH_take (i := 13) (oi := ⟨some 6, _, _, _, _, _⟩) (v := ?_) rfl (by kernel_rfl) (by kernel_rfl) (by kernel_rfl) (fun _ _ _ h => h) (Or.inl ⟨by rfl, ?_⟩) (by assumption) ?_
                  rotate_left 1
                  · (intro w hSw; (try dsimp only at hSw); go_simp <;> first | with_reducible rfl | (rw [if_pos (by omega)]))
                  try simp only [Act.put, List.setIfInBounds_toArray, List.set_cons_zero, List.set_cons_succ]
                  refine wpAnyH_take (i := 14) (oi := ⟨some 7, _, _, _, _, _⟩) (v := ?_) rfl (by kernel_rfl) (by kernel_rfl) (by kernel_rfl) (fun _ _ _ h => h) (Or.inl ⟨by rfl, ?_⟩) (by assumption) ?_
                  rotate_left 1
                  · (intro w hSw; (try dsimp only at hSw); go_simp <;> first | with_reducible rfl | (rw [if_pos (by omega)]))
                  try simp only [Act.put, List.setIfInBounds_toArray, List.set_cons_zero, List.set_cons_succ]
                  refine wpAnyH_done (by kernel_rfl) ?_ _
                  refine NoPanic.normal ?_
                  go_wp2_with fail
                  go_ret2
                  first | (refine ⟨v3, by rw [HE.out]; rfl, ?_, HA.out.2⟩; have hfin := HA.out.1; rw [List.append_assoc] at hfin; rw [HL.out, HP.out]; exact hfin) | (refine ⟨v6, by rw [HE.out]; rfl, ?_, HB.out.2⟩; have hfin := HB.out.1; rw [List.append_assoc] at hfin; rw [HL.out, HP.out]; exact hfin)
                refine AllReadyH.cons (o := ⟨some 54, _, _, _, _, _⟩) rfl (fun K hK => ?_) ?_
                · skip
                  go_simp
                  refine hK.out _ _ ?_ (fun hHeld => ?_)
                  · ((try dsimp only); try trivial)
                  clear hK K
                  try simp only [Act.put, List.setIfInBounds_toArray, List.set_cons_zero, List.set_cons_succ]
                  refine wpAnyH_ready (rs := [3]) (by kernel_rfl) (by simp) ?_
                  refine AllReadyH.cons (o := ⟨some 50, _, _, _, _, _⟩) rfl (fun K hK => ?_) AllReadyH.nil
                  first | (refine step_append_by hA1 rfl _ _ rfl rfl rfl ?_) | (refine step_append_by hA2 rfl _ _ rfl rfl rfl ?_) | (refine step_append_by hA3 rfl _ _ rfl rfl rfl ?_) | (refine step_append_by hB1 rfl _ _ rfl rfl rfl ?_) | (refine step_append_by hB2 rfl _ _ rfl rfl rfl ?_) | (refine step_append_by hB3 rfl _ _ rfl rfl rfl ?_)
                  refine hK.out _ _ ?_ (fun hHeld => ?_)
                  · ((try dsimp only); try trivial)
                  clear hK K
                  try simp only [Act.put, List.setIfInBounds_toArray, List.set_cons_zero, List.set_cons_succ]
                  refine wpAnyH_ready (rs := [8]) (by kernel_rfl) (by simp) ?_
                  refine AllReadyH.cons (o := ⟨some 55, _, _, _, _, _⟩) rfl (fun K hK => ?_) AllReadyH.nil
                  first | (refine step_append_by hA1 rfl _ _ rfl rfl rfl ?_) | (refine step_append_by hA2 rfl _ _ rfl rfl rfl ?_) | (refine step_append_by hA3 rfl _ _ rfl rfl rfl ?_) | (refine step_append_by hB1 rfl _ _ rfl rfl rfl ?_) | (refine step_append_by hB2 rfl _ _ rfl rfl rfl ?_) | (refine step_append_by hB3 rfl _ _ rfl rfl rfl ?_)
                  refine hK.out _ _ ?_ (fun hHeld => ?_)
                  · ((try dsimp only); try trivial)
                  clear hK K
                  try simp only [Act.put, List.setIfInBounds_toArray, List.set_cons_zero, List.set_cons_succ]
                  refine wpAnyH_ready (rs := [12]) (by kernel_rfl) (by simp) ?_
                  refine AllReadyH.cons (o := ⟨some 59, _, _, _, _, _⟩) rfl (fun K hK => ?_) AllReadyH.nil
                  first | (refine step_append_by hA1 rfl _ _ rfl rfl rfl ?_) | (refine step_append_by hA2 rfl _ _ rfl rfl rfl ?_) | (refine step_append_by hA3 rfl _ _ rfl rfl rfl ?_) | (refine step_append_by hB1 rfl _ _ rfl rfl rfl ?_) | (refine step_append_by hB2 rfl _ _ rfl rfl rfl ?_) | (refine step_append_by hB3 rfl _ _ rfl rfl rfl ?_)
                  refine hK.out _ _ ?_ (fun hHeld => ?_)
                  · ((try dsimp only); try trivial)
                  clear hK K
                  try simp only [Act.put, List.setIfInBounds_toArray, List.set_cons_zero, List.set_cons_succ]
                  refine wpAnyH_take (i := 13) (oi := ⟨some 6, _, _, _, _, _⟩) (v := ?_) rfl (by kernel_rfl) (by kernel_rfl) (by kernel_rfl) (fun _ _ _ h => h) (Or.inl ⟨by rfl, ?_⟩) (by assumption) ?_
                  rotate_left 1
                  · (intro w hSw; (try dsimp only at hSw); go_simp <;> first | with_reducible rfl | (rw [if_pos (by omega)]))
                  try simp only [Act.put, List.setIfInBounds_toArray, List.set_cons_zero, List.set_cons_succ]
                  refine wpAnyH_take (i := 14) (oi := ⟨some 7, _, _, _, _, _⟩) (v := ?_) rfl (by kernel_rfl) (by kernel_rfl) (by kernel_rfl) (fun _ _ _ h => h) (Or.inl ⟨by rfl, ?_⟩) (by assumption) ?_
                  rotate_left 1
                  · (intro w hSw; (try dsimp only at hSw); go_simp <;> first | with_reducible rfl | (rw [if_pos (by omega)]))
                  try simp only [Act.put, List.setIfInBounds_toArray, List.set_cons_zero, List.set_cons_succ]
                  refine wpAnyH_done (by kernel_rfl) ?_ _
                  refine NoPanic.normal ?_
                  go_wp2_with fail
                  go_ret2
                  first | (refine ⟨v3, by rw [HE.out]; rfl, ?_, HA.out.2⟩; have hfin := HA.out.1; rw [List.append_assoc] at hfin; rw [HL.out, HP.out]; exact hfin) | (refine ⟨v6, by rw [HE.out]; rfl, ?_, HB.out.2⟩; have hfin := HB.out.1; rw [List.append_assoc] at hfin; rw [HL.out, HP.out]; exact hfin)
                exact AllReadyH.nil
              · have HP := Lib.hid (pos_step hkl hlx hE.out)
                generalize l[k] = u at *
                obtain ⟨t, r2⟩ := u
                simp only at hc1 hc2 hlx
                unfold ltS at hlx
                subst ha
                clear hE
                go_wp2_with fail
                go_roundw
                case rel => exact ⟨k + 1, by omega, by go_num, hB, HP⟩
                case measure => simp [intOf]; omega
            · have HP := Lib.hid (pos_end (by rw [hR.len_eq]; exact hlt) (by rw [hR.len_eq]; exact hk) hE.out)
              clear hE
              have hR2 := hR.below hB
              have hbs := hB.size
              go_wp2_with fail
              obtain ⟨wd, hwd⟩ : ∃ wd, wd = wr.drew := ⟨_, rfl⟩
              have hBd : Below wr.heap.size wr wd := by rw [hwd]; exact (Below.refl _ _).drew
              have hR3 := hR2.below hBd
              have hBw := hB.trans (hBd.mono hbs)
              have hbw := hBw.size
              clear hBd hR2
              have hll := hle.out
              have hkk : k ≤ l.length := by rw [hll]; exact hk
              obtain ⟨hsl1, hrt⟩ := hR3.take elemU encU_ok k k rfl hk
              obtain ⟨ad, hsl2, hrd⟩ := hR3.drop elemU encU_ok k k rfl hk
              have htk : (l.take k).length = k := by rw [List.length_take]; omega
              obtain ⟨CS, hCS⟩ : ∃ CS : Array Value, CS = #[.string s, .int .i64 r] := ⟨_, rfl⟩
              have hCL : CS.toList = encU (s, r) := by rw [hCS]; rfl
              -- the copy first
              obtain ⟨v1, w1, hA1, hoA1, hgA1⟩ := append_E elemU encU_ok wd wd.heap.size 22 (.slice none 0 0) [] 0 rfl (OwnE.nil _ _ _ _ _) _ k _ (l.take k) hrt (by unfold maxLen; omega) (by omega) (Nat.le_refl _)
              have hbA1 : Below wd.heap.size wd w1 := below_grown (OwnE.nil encU 41 2 wd wd.heap.size) (Nat.le_refl _) hgA1
              have hoA2 := hoA1.below (below_alloc w1 (.cells CS 41))
              obtain ⟨v2, w2, hA2, hoA3, hgA2⟩ := append_E elemU encU_ok (w1.alloc (.cells CS 41)) wd.heap.size 22 v1 _ k htk hoA2 _ 1 1 [(s, r)] (RowE.one encU_ok w1 CS 41 (s, r) hCL) (by unfold maxLen; omega) (by omega) (by have := hbA1.size; simp; omega)
              have hbA2 : Below wd.heap.size wd w2 := hbA1.trans (((below_alloc w1 _).mono hbA1.size).trans (below_grown hoA2 (by have := hbA1.size; simp; omega) hgA2))
              obtain ⟨v3, w3, hA3, hoA4, hgA3⟩ := append_E elemU encU_ok w2 wd.heap.size 22 v2 _ (k + 1) (by simp [htk]) hoA3 ad (len - k) (cap - k) (l.drop k) (hrd.below hbA2) (by unfold maxLen; omega) (by omega) hbA2.size
              have hbA3 : Below wd.heap.size wd w3 := hbA2.trans (below_grown hoA3 hbA2.size hgA3)
              -- the new element first
              have hbB0 : Below wd.heap.size wd (wd.alloc (.cells CS 41)) := below_alloc wd _
              obtain ⟨v4, w4, hB1, hoB1, hgB1⟩ := append_E elemU encU_ok (wd.alloc (.cells CS 41)) (wd.alloc (.cells CS 41)).heap.size 22 (.slice none 0 0) [] 0 rfl (OwnE.nil _ _ _ _ _) _ k _ (l.take k) (hrt.below hbB0) (by unfold maxLen; omega) (by omega) (Nat.le_refl _)
              have hbB1 : Below (wd.alloc (.cells CS 41)).heap.size (wd.alloc (.cells CS 41)) w4 := below_grown (OwnE.nil encU 41 2 _ _) (Nat.le_refl _) hgB1
              have hbB2 : Below wd.heap.size wd w4 := hbB0.trans (hbB1.mono (by simp))
              obtain ⟨v5, w5, hB2, hoB3, hgB2⟩ := append_E elemU encU_ok w4 _ 22 v4 _ k htk hoB1 _ 1 1 [(s, r)] ((RowE.one encU_ok wd CS 41 (s, r) hCL).below hbB1) (by unfold maxLen; omega) (by omega) hbB1.size
              have hbB3 : Below wd.heap.size wd w5 := hbB2.trans ((below_grown hoB1 hbB1.size hgB2).mono (by simp))
              obtain ⟨v6, w6, hB3, hoB4, hgB3⟩ := append_E elemU encU_ok w5 wd.heap.size 22 v5 _ (k + 1) (by simp [htk]) (hoB3.base (by simp)) ad (len - k) (cap - k) (l.drop k) (hrd.below hbB3) (by unfold maxLen; omega) (by omega) hbB3.size
              have hbB4 : Below wd.heap.size wd w6 := hbB3.trans (below_grown (hoB3.base (by simp)) hbB3.size hgB3)
              have HA := Lib.hid (And.intro (OwnE.base hoA4 hbw) (hBw.trans (hbA3.mono hbw)))
              have HB := Lib.hid (And.intro (OwnE.base hoB4 hbw) (hBw.trans (hbB4.mono hbw)))
              clear hoA1 hoA2 hoA3 hoA4 hoB1 hoB3 hoB4 hgA1 hgA2 hgA3 hgB1 hgB2 hgB3 hbA1 hbA2 hbA3 hbB0 hbB1 hbB2 hbB3 hbB4 hrt hrd hCL htk hkk hll
              subst hCS
              subst hwd
              refine wp_region_noPanic ?_
              refine wp_region_held_drew (S := (fun _ => True)) (by kernel_rfl) ?_ (fun hHeld => ?_)
              · ((try dsimp only); try trivial)
              refine wpAnyH_take (i := 0) (oi := ⟨some 47, _, _, _, _, _⟩) (v := ?_) rfl (by kernel_rfl) (by kernel_rfl) (by kernel_rfl) (fun _ _ _ h => h) (Or.inl ⟨by rfl, ?_⟩) (by assumption) ?_
              rotate_left 1
              · (intro w hSw; (try dsimp only at hSw); go_simp <;> first | with_reducible rfl | (rw [if_pos (by omega)]))
              try simp only [Act.put, List.setIfInBounds_toArray, List.set_cons_zero, List.set_cons_succ]
              refine wpAnyH_take (i := 1) (oi := ⟨some 48, _, _, _, _, _⟩) (v := ?_) rfl (by kernel_rfl) (by kernel_rfl) (by kernel_rfl) (fun _ _ _ h => h) (Or.inl ⟨by rfl, ?_⟩) (by assumption) ?_
              rotate_left 1
              · (intro w hSw; (try dsimp only at hSw); go_simp <;> first | with_reducible rfl | (rw [if_pos (by omega)]))
              try simp only [Act.put, List.setIfInBounds_toArray, List.set_cons_zero, List.set_cons_succ]
              refine wpAnyH_take (i := 2) (oi := ⟨some 49, _, _, _, _, _⟩) (v := ?_) rfl (by kernel_rfl) (by kernel_rfl) (by kernel_rfl) (fun _ _ _ h => h) (Or.inl ⟨by rfl, ?_⟩) (by assumption) ?_
              rotate_left 1
              · (intro w hSw; (try dsimp only at hSw); go_simp <;> first | with_reducible rfl | (rw [if_pos (by omega)]))
              try simp only [Act.put, List.setIfInBounds_toArray, List.set_cons_zero, List.set_cons_succ]
              refine wpAnyH_take (i := 4) (oi := ⟨some 51, _, _, _, _, _⟩) (v := ?_) rfl (by kernel_rfl) (by kernel_rfl) (by kernel_rfl) (fun _ _ _ h => h) (Or.inl ⟨by rfl, ?_⟩) (by assumption) ?_
              rotate_left 1
              · (intro w hSw; (try dsimp only at hSw); go_simp <;> first | with_reducible rfl | (rw [if_pos (by omega)]))
              try simp only [Act.put, List.setIfInBounds_toArray, List.set_cons_zero, List.set_cons_succ]
              refine wpAnyH_take (i := 5) (oi := ⟨some 52, _, _, _, _, _⟩) (v := ?_) rfl (by kernel_rfl) (by kernel_rfl) (by kernel_rfl) (fun _ _ _ h => h) (Or.inl ⟨by rfl, ?_⟩) (by assumption) ?_
              rotate_left 1
              · (intro w hSw; (try dsimp only at hSw); go_simp <;> first | with_reducible rfl | (rw [if_pos (by omega)]))
              try simp only [Act.put, List.setIfInBounds_toArray, List.set_cons_zero, List.set_cons_succ]
              refine wpAnyH_take (i := 6) (oi := ⟨some 53, _, _, _, _, _⟩) (v := ?_) rfl (by kernel_rfl) (by kernel_rfl) (by kernel_rfl) (fun _ _ _ h => h) (Or.inl ⟨by rfl, ?_⟩) (by assumption) ?_
              rotate_left 1
              · (intro w hSw; (try dsimp only at hSw); go_simp <;> first | with_reducible rfl | (rw [if_pos (by omega)]))
              try simp only [Act.put, List.setIfInBounds_toArray, List.set_cons_zero, List.set_cons_succ]
              refine wpAnyH_take (i := 9) (oi := ⟨some 56, _, _, _, _, _⟩) (v := ?_) rfl (by kernel_rfl) (by kernel_rfl) (by kernel_rfl) (fun _ _ _ h => h) (Or.inl ⟨by rfl, ?_⟩) (by assumption) ?_
              rotate_left 1
              · (intro w hSw; (try dsimp only at hSw); go_simp <;> first | with_reducible rfl | (rw [if_pos (by omega)]))
              try simp only [Act.put, List.setIfInBounds_toArray, List.set_cons_zero, List.set_cons_succ]
              refine wpAnyH_take (i := 10) (oi := ⟨some 57, _, _, _, _, _⟩) (v := ?_) rfl (by kernel_rfl) (by kernel_rfl) (by kernel_rfl) (fun _ _ _ h => h) (Or.inl ⟨by rfl, ?_⟩) (by assumption) ?_
              rotate_left 1
              · (intro w hSw; (try dsimp only at hSw); go_simp <;> first | with_reducible rfl | (rw [if_pos (by omega)]))
              try simp only [Act.put, List.setIfInBounds_toArray, List.set_cons_zero, List.set_cons_succ]
              refine wpAnyH_take (i := 11) (oi := ⟨some 58, _, _, _, _, _⟩) (v := ?_) rfl (by kernel_rfl) (by kernel_rfl) (by kernel_rfl) (fun _ _ _ h => h) (Or.inl ⟨by rfl, ?_⟩) (by assumption) ?_
              rotate_left 1
              · (intro w hSw; (try dsimp only at hSw); go_simp <;> first | with_reducible rfl | (rw [if_pos (by omega)]))
              try simp only [Act.put, List.setIfInBounds_toArray, List.set_cons_zero, List.set_cons_succ]
              refine wpAnyH_ready (rs := [3, 7]) (by kernel_rfl) (by simp) ?_
              refine AllReadyH.cons (o := ⟨some 50, _, _, _, _, _⟩) rfl (fun K hK => ?_) ?_
              · skip
                first | (refine step_append_by hA1 rfl _ _ rfl rfl rfl ?_) | (refine step_append_by hA2 rfl _ _ rfl rfl rfl ?_) | (refine step_append_by hA3 rfl _ _ rfl rfl rfl ?_) | (refine step_append_by hB1 rfl _ _ rfl rfl rfl ?_) | (refine step_append_by hB2 rfl _ _ rfl rfl rfl ?_) | (refine step_append_by hB3 rfl _ _ rfl rfl rfl ?_)
                refine hK.out _ _ ?_ (fun hHeld => ?_)
                · ((try dsimp only); try trivial)
                clear hK K
                try simp only [Act.put, List.setIfInBounds_toArray, List.set_cons_zero, List.set_cons_succ]
                refine wpAnyH_ready (rs := [7]) (by kernel_rfl) (by simp) ?_
                refine AllReadyH.cons (o := ⟨some 54, _, _, _, _, _⟩) rfl (fun K hK => ?_) AllReadyH.nil
                go_simp
                refine hK.out _ _ ?_ (fun hHeld => ?_)
                · ((try dsimp only); try trivial)
                clear hK K
                try simp only [Act.put, List.setIfInBounds_toArray, List.set_cons_zero, List.set_cons_succ]
                refine wpAnyH_ready (rs := [8]) (by kernel_rfl) (by simp) ?_
                refine AllReadyH.cons (o := ⟨some 55, _, _, _, _, _⟩) rfl (fun K hK => ?_) AllReadyH.nil
                first | (refine step_append_by hA1 rfl _ _ rfl rfl rfl ?_) | (refine step_append_by hA2 rfl _ _ rfl rfl rfl ?_) | (refine step_append_by hA3 rfl _ _ rfl rfl rfl ?_) | (refine step_append_by hB1 rfl _ _ rfl rfl rfl ?_) | (refine step_append_by hB2 rfl _ _ rfl rfl rfl ?_) | (refine step_append_by hB3 rfl _ _ rfl rfl rfl ?_)
                refine hK.out _ _ ?_ (fun hHeld => ?_)
                · ((try dsimp only); try trivial)
                clear hK K
                try simp only [Act.put, List.setIfInBounds_toArray, List.set_cons_zero, List.set_cons_succ]
                refine wpAnyH_ready (rs := [12]) (by kernel_rfl) (by simp) ?_
                refine AllReadyH.cons (o := ⟨some 59, _, _, _, _, _⟩) rfl (fun K hK => ?_) AllReadyH.nil
                first | (refine step_append_by hA1 rfl _ _ rfl rfl rfl ?_) | (refine step_append_by hA2 rfl _ _ rfl rfl rfl ?_) | (refine step_append_by hA3 rfl _ _ rfl rfl rfl ?_) | (refine step_append_by hB1 rfl _ _ rfl rfl rfl ?_) | (refine step_append_by hB2 rfl _ _ rfl rfl rfl ?_) | (refine step_append_by hB3 rfl _ _ rfl rfl rfl ?_)
                refine hK.out _ _ ?_ (fun hHeld => ?_)
                · ((try dsimp only); try trivial)
                clear hK K
                try simp only [Act.put, List.setIfInBounds_toArray, List.set_cons_zero, List.set_cons_succ]
                refine wpAnyH_take (i := 13) (oi := ⟨some 6, _, _, _, _, _⟩) (v := ?_) rfl (by kernel_rfl) (by kernel_rfl) (by kernel_rfl) (fun _ _ _ h => h) (Or.inl ⟨by rfl, ?_⟩) (by assumption) ?_
                rotate_left 1
                · (intro w hSw; (try dsimp only at hSw); go_simp <;> first | with_reducible rfl | (rw [if_pos (by omega)]))
                try simp only [Act.put, List.setIfInBounds_toArray, List.set_cons_zero, List.set_cons_succ]
                refine wpAnyH_take (i := 14) (oi := ⟨some 7, _, _, _, _, _⟩) (v := ?_) rfl (by kernel_rfl) (by kernel_rfl) (by kernel_rfl) (fun _ _ _ h => h) (Or.inl ⟨by rfl, ?_⟩) (by assumption) ?_
                rotate_left 1
                · (intro w hSw; (try dsimp only at hSw); go_simp <;> first | with_reducible rfl | (rw [if_pos (by omega)]))
                try simp only [Act.put, List.setIfInBounds_toArray, List.set_cons_zero, List.set_cons_succ]
                refine wpAnyH_done (by kernel_rfl) ?_ _
                refine NoPanic.normal ?_
                go_wp2_with fail
                go_ret2
                first | (refine ⟨v3, by rw [HE.out]; rfl, ?_, HA.out.2⟩; have hfin := HA.out.1; rw [List.append_assoc] at hfin; rw [HL.out, HP.out]; exact hfin) | (refine ⟨v6, by rw [HE.out]; rfl, ?_, HB.out.2⟩; have hfin := HB.out.1; rw [List.append_assoc] at hfin; rw [HL.out, HP.out]; exact hfin)
              refine AllReadyH.cons (o := ⟨some 54, _, _, _, _, _⟩) rfl (fun K hK => ?_) ?_
              · skip
                go_simp
                refine hK.out _ _ ?_ (fun hHeld => ?_)
                · ((try dsimp only); try trivial)
                clear hK K
                try simp only [Act.put, List.setIfInBounds_toArray, List.set_cons_zero, List.set_cons_succ]
                refine wpAnyH_ready (rs := [3]) (by kernel_rfl) (by simp) ?_
                refine AllReadyH.cons (o := ⟨some 50, _, _, _, _, _⟩) rfl (fun K hK => ?_) AllReadyH.nil
                first | (refine step_append_by hA1 rfl _ _ rfl rfl rfl ?_) | (refine step_append_by hA2 rfl _ _ rfl rfl rfl ?_) | (refine step_append_by hA3 rfl _ _ rfl rfl rfl ?_) | (refine step_append_by hB1 rfl _ _ rfl rfl rfl ?_) | (refine step_append_by hB2 rfl _ _ rfl rfl rfl ?_) | (refine step_append_by hB3 rfl _ _ rfl rfl rfl ?_)
                refine hK.out _ _ ?_ (fun hHeld => ?_)
                · ((try dsimp only); try trivial)
                clear hK K
                try simp only [Act.put, List.setIfInBounds_toArray, List.set_cons_zero, List.set_cons_succ]
                refine wpAnyH_ready (rs := [8]) (by kernel_rfl) (by simp) ?_
                refine AllReadyH.cons (o := ⟨some 55, _, _, _, _, _⟩) rfl (fun K hK => ?_) AllReadyH.nil
                first | (refine step_append_by hA1 rfl _ _ rfl rfl rfl ?_) | (refine step_append_by hA2 rfl _ _ rfl rfl rfl ?_) | (refine step_append_by hA3 rfl _ _ rfl rfl rfl ?_) | (refine step_append_by hB1 rfl _ _ rfl rfl rfl ?_) | (refine step_append_by hB2 rfl _ _ rfl rfl rfl ?_) | (refine step_append_by hB3 rfl _ _ rfl rfl rfl ?_)
                refine hK.out _ _ ?_ (fun hHeld => ?_)
                · ((try dsimp only); try trivial)
                clear hK K
                try simp only [Act.put, List.setIfInBounds_toArray, List.set_cons_zero, List.set_cons_succ]
                refine wpAnyH_ready (rs := [12]) (by kernel_rfl) (by simp) ?_
                refine AllReadyH.cons (o := ⟨some 59, _, _, _, _, _⟩) rfl (fun K hK => ?_) AllReadyH.nil
                first | (refine step_append_by hA1 rfl _ _ rfl rfl rfl ?_) | (refine step_append_by hA2 rfl _ _ rfl rfl rfl ?_) | (refine step_append_by hA3 rfl _ _ rfl rfl rfl ?_) | (refine step_append_by hB1 rfl _ _ rfl rfl rfl ?_) | (refine step_append_by hB2 rfl _ _ rfl rfl rfl ?_) | (refine step_append_by hB3 rfl _ _ rfl rfl rfl ?_)
                refine hK.out _ _ ?_ (fun hHeld => ?_)
                · ((try dsimp only); try trivial)
                clear hK K
                try simp only [Act.put, List.setIfInBounds_toArray, List.set_cons_zero, List.set_cons_succ]
                refine wpAnyH_take (i := 13) (oi := ⟨some 6, _, _, _, _, _⟩) (v := ?_) rfl (by kernel_rfl) (by kernel_rfl) (by kernel_rfl) (fun _ _ _ h => h) (Or.inl ⟨by rfl, ?_⟩) (by assumption) ?_
                rotate_left 1
                · (intro w hSw; (try dsimp only at hSw); go_simp <;> first | with_reducible rfl | (rw [if_pos (by omega)]))
                try simp only [Act.put, List.setIfInBounds_toArray, List.set_cons_zero, List.set_cons_succ]
                refine wpAnyH_take (i := 14) (oi := ⟨some 7, _, _, _, _, _⟩) (v := ?_) rfl (by kernel_rfl) (by kernel_rfl) (by kernel_rfl) (fun _ _ _ h => h) (Or.inl ⟨by rfl, ?_⟩) (by assumption) ?_
                rotate_left 1
                · (intro w hSw; (try dsimp only at hSw); go_simp <;> first | with_reducible rfl | (rw [if_pos (by omega)]))
                try simp only [Act.put, List.setIfInBounds_toArray, List.set_cons_zero, List.set_cons_succ]
                refine wpAnyH_done (by kernel_rfl) ?_ _
                refine NoPanic.normal ?_
                go_wp2_with fail
                go_ret2
                first | (refine ⟨v3, by rw [HE.out]; rfl, ?_, HA.out.2⟩; have hfin := HA.out.1; rw [List.append_assoc] at hfin; rw [HL.out, HP.out]; exact hfin) | (refine ⟨v6, by rw [HE.out]; rfl, ?_, HB.out.2⟩; have hfin := HB.out.1; rw [List.append_assoc] at hfin; rw [HL.out, HP.out]; exact hfin)
              exact AllReadyH.nil
      · have HE : Hid (addE l s r = 9) := by unfold addE; rw [if_neg (by simp [hc]), if_neg (by simp [hk]), if_pos hrl]; rfl
        have HL := Lib.hid (addL_err HE.out (by decide))
        have Hc := Lib.hid hc
        have Hk := Lib.hid hk
        have Hr := Lib.hid hrl
        clear hc hk hrl
        go_enter Try.func10, Try.ntmps10
        go_wp2_with fail
        with_reducible refine (refCheck_any _ _ _ _ _ hR hS).mono ?_
        rintro e w1 ⟨rfl, hB1⟩
        rw [Hc.out]
        go_wp2_with fail
        with_reducible refine (refCheckUser_any _ _ _ hs).mono ?_
        rintro e w2 ⟨rfl, rfl⟩
        rw [Hk.out]
        go_wp2_with fail
        with_reducible refine (refRole_any _ _ _ _ _ _ (hR.below hB1) hcm).mono ?_
        rintro e w3 ⟨rfl, hB2⟩
        rw [Hr.out]
        generalize (roleL s l).1 = q at *
        go_wp2_with fail
        go_ret2
        refine ⟨.slice none 0 0, by rw [HE.out]; rfl, ?_, hB1.trans (hB2.mono hB1.size)⟩
        rw [HL.out]
        exact OwnE.nil _ _ _ _ _
    · have HE : Hid (addE l s r = chk s r) := by unfold addE; rw [if_neg (by simp [hc]), if_pos hk]; rfl
      have HL := Lib.hid (addL_err HE.out hk)
      have Hc := Lib.hid hc
      have hne : (chk s r != 0) = true := by rw [bne_iff_ne]; exact hk
      clear hc hk
      go_enter Try.func10, Try.ntmps10
      go_wp2_with fail
      with_reducible refine (refCheck_any _ _ _ _ _ hR hS).mono ?_
      rintro e w1 ⟨rfl, hB1⟩
      rw [Hc.out]
      go_wp2_with fail
      with_reducible refine (refCheckUser_any _ _ _ hs).mono ?_
      rintro e w2 ⟨rfl, rfl⟩
      generalize chk s r = c at *
      go_wp2_with fail
      go_ret2
      refine ⟨.slice none 0 0, by rw [HE.out]; rfl, ?_, hB1⟩
      rw [HL.out]
      exact OwnE.nil _ _ _ _ _
  · have HE : Hid (addE l s r = chkL l) := by unfold addE; rw [if_pos hc]; rfl
    have HL := Lib.hid (addL_err HE.out hc)
    have hne : (chkL l != 0) = true := by rw [bne_iff_ne]; exact hc
    clear hc
    go_enter Try.func10, Try.ntmps10
    go_wp2_with fail
    with_reducible refine (refCheck_any _ _ _ _ _ hR hS).mono ?_
    rintro e w1 ⟨rfl, hB1⟩
    generalize chkL l = c at *
    go_wp2_with fail
    go_ret2
    refine ⟨.slice none 0 0, by rw [HE.out]; rfl, ?_, hB1⟩
    rw [HL.out]
    exact OwnE.nil _ _ _ _ _
end Go.Proofs.Ytgmpoakcbgnfbaa
