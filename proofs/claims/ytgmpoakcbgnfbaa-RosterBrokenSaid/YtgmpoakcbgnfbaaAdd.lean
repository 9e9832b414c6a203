/-
  roster.Add, whatever the list.
-/
import Derived.Test.YtgmpoakcbgnfbaaInsert
import Derived.Test.YtgmpoakcbgnfbaaVR
namespace Go.Proofs.Ytgmpoakcbgnfbaa
open Go.ChangeShapes Go.WideShapes Go.ChangeAt Go.RowKit
set_option linter.unusedSimpArgs false
set_option linter.unusedVariables false
attribute [local go_sem ↓] Go.wp_at_zero Go.wp_at_succ

theorem rep1_plain {p : V.Pl} {w : World} {v u : Value} {x : V.AV} (h : V.Rep1 p w v x) (hx : V.plainV x = some u) : v = u := by
  cases x <;> simp [V.plainV] at hx <;> subst hx <;> exact V.plain_repF rfl h
theorem rep_tup2 {p : V.Pl} {w : World} {v u1 u2 : Value} {x y : V.AV} (h : V.Rep p w v (.tuple [x, y])) (hx : V.plainV x = some u1) (hy : V.plainV y = some u2) : v = .tuple #[u1, u2] := by
  obtain ⟨vs, rfl, hl, h2⟩ := h
  obtain ⟨l⟩ := vs
  match l, hl with
  | [a, b], _ =>
    have h0 := rep1_plain (h2 0 (by simp) (by simp)) hx
    have h1 := rep1_plain (h2 1 (by simp) (by simp)) hy
    simp at h0 h1
    rw [h0, h1]
theorem role_any (a : Option Addr) (len cap : Nat) (l : List U) (s : ByteArray) (w : World) (hR : RowU w a len cap l) (hcm : cap ≤ maxLen) :
    Calls Try.prog 11 #[.slice a len cap, .string s] w fun e w' => e = .returned (.tuple #[.int .i64 (roleL s l).1, .bool (roleL s l).2]) ∧ Below w.heap.size w w' := by
  have hlen := hR.len_eq
  refine ((role_v l s (by rw [hlen]; exact hR.small)).calls (vals := #[.slice a len cap, .string s]) (w := w) ?_).mono ?_
  · refine V.RepL.cons ?_ (V.RepL.cons (V.RepF.str s) V.RepL.nil)
    have := V.rep_of_row pairU encU_ok (p := V.pl0) hR hcm (fun x _ => V.pl0_M _)
    rw [← hlen] at this ⊢
    exact this
  · rintro e w' ⟨v, av, H', p', rfl, ⟨rfl, _⟩, hr, hB⟩
    exact ⟨by rw [rep_tup2 hr rfl rfl], hB⟩

def ltS (a b : ByteArray) : Bool := Op.bytesLess a.toList b.toList
def posL (s : ByteArray) : List U → Nat
  | [] => 0
  | u :: r => if ltS u.1 s = true then posL s r + 1 else 0
theorem posL_le (s : ByteArray) (l : List U) : posL s l ≤ l.length := by
  induction l with
  | nil => simp [posL]
  | cons u r ih => unfold posL; split <;> simp <;> omega
def addE (l : List U) (s : ByteArray) (r : Int) : Int := if chkL l ≠ 0 then chkL l else if chk s r ≠ 0 then chk s r else if (roleL s l).2 = true then 9 else if l.length = 32 then 2 else 0
def addL (l : List U) (s : ByteArray) (r : Int) : List U := if addE l s r = 0 then l.take (posL s l) ++ (s, r) :: l.drop (posL s l) else []
theorem addL_err {l : List U} {s : ByteArray} {r c : Int} (h : addE l s r = c) (hc : c ≠ 0) : addL l s r = [] := by unfold addL; rw [if_neg (by rw [h]; exact hc)]
theorem chkL_len {l : List U} (h : chkL l = 0) : l.length ≤ 32 := by
  unfold chkL at h
  split at h
  · cases h
  · omega
theorem pos_step {l : List U} {s : ByteArray} {k : Nat} (h : k < l.length) (hl : ltS l[k].1 s = true) (he : posL s l = k + posL s (l.drop k)) : posL s l = (k + 1) + posL s (l.drop (k + 1)) := by
  rw [he, List.drop_eq_getElem_cons h, posL, if_pos hl]; omega
theorem pos_stop {l : List U} {s : ByteArray} {k : Nat} (h : k < l.length) (hl : ltS l[k].1 s = false) (he : posL s l = k + posL s (l.drop k)) : posL s l = k := by
  rw [he, List.drop_eq_getElem_cons h, posL, if_neg (by rw [hl]; exact Bool.false_ne_true)]; omega
theorem pos_end {l : List U} {s : ByteArray} {k : Nat} (h : ¬ k < l.length) (hk : k ≤ l.length) (he : posL s l = k + posL s (l.drop k)) : posL s l = k := by
  rw [he, List.drop_eq_nil_of_le (by omega)]; simp [posL]

set_option maxHeartbeats 2000000 in
theorem add_any (a : Option Addr) (len cap : Nat) (l : List U) (s : ByteArray) (r : Int) (w : World) (hR : RowU w a len cap l) (hcm : cap ≤ maxLen) (hS : SmallU l) (hs : s.size ≤ maxLen) :
    Calls Try.prog 9 #[.slice a len cap, .string s, .int .i64 r] w fun e w' => ∃ v, e = .returned (.tuple #[v, .int .i64 (addE l s r)]) ∧ OwnU w' w.heap.size v (addL l s r) ∧ Below w.heap.size w w' := by
  have hm := hR.small
  have hle := Lib.hid hR.len_eq
  by_cases hc : chkL l = 0
  · by_cases hk : chk s r = 0
    · cases hrl : (roleL s l).2
      · by_cases h32 : len = 32
        · have HE : Hid (addE l s r = 2) := by unfold addE; rw [if_neg (by simp [hc]), if_neg (by simp [hk]), if_neg (by simp [hrl]), if_pos (by rw [hR.len_eq]; exact h32)]; rfl
          have HL := Lib.hid (addL_err HE.out (by decide))
          have Hc := Lib.hid hc
          have Hk := Lib.hid hk
          have Hr := Lib.hid hrl
          clear hc hk hrl
          have hb : ((len : Int) == 32) = true := by simp [h32]
          clear h32
          go_enter Try.func9, Try.ntmps9
          go_wp2_with fail
          with_reducible refine (check_any _ _ _ _ _ hR hS).mono ?_
          rintro e w1 ⟨rfl, hB1⟩
          rw [Hc.out]
          go_wp2_with fail
          with_reducible refine (checkUser_any _ _ _ hs).mono ?_
          rintro e w2 ⟨rfl, rfl⟩
          rw [Hk.out]
          go_wp2_with fail
          with_reducible refine (role_any _ _ _ _ _ _ (hR.below hB1) hcm).mono ?_
          rintro e w3 ⟨rfl, hB2⟩
          rw [Hr.out]
          generalize (roleL s l).1 = q at *
          go_wp2_with fail
          go_ret2
          refine ⟨.slice none 0 0, by rw [HE.out]; rfl, ?_, hB1.trans (hB2.mono hB1.size)⟩
          rw [HL.out]
          exact OwnE.nil _ _ _ _ _
        · have HE : Hid (addE l s r = 0) := by unfold addE; rw [if_neg (by simp [hc]), if_neg (by simp [hk]), if_neg (by simp [hrl]), if_neg (by rw [hR.len_eq]; exact h32)]; rfl
          have HL : Hid (addL l s r = l.take (posL s l) ++ (s, r) :: l.drop (posL s l)) := by unfold addL; rw [if_pos HE.out]; rfl
          have hl32 := chkL_len hc
          have Hc := Lib.hid hc
          have Hk := Lib.hid hk
          have Hr := Lib.hid hrl
          clear hc hk hrl
          have hb : ((len : Int) == 32) = false := by rw [beq_eq_false_iff_ne]; omega
          go_enter Try.func9, Try.ntmps9
          go_wp2_with fail
          with_reducible refine (check_any _ _ _ _ _ hR hS).mono ?_
          rintro e w1 ⟨rfl, hB1⟩
          rw [Hc.out]
          go_wp2_with fail
          with_reducible refine (checkUser_any _ _ _ hs).mono ?_
          rintro e w2 ⟨rfl, rfl⟩
          rw [Hk.out]
          go_wp2_with fail
          with_reducible refine (role_any _ _ _ _ _ _ (hR.below hB1) hcm).mono ?_
          rintro e w3 ⟨rfl, hB2⟩
          rw [Hr.out]
          generalize (roleL s l).1 = q at *
          have hB3 := hB1.trans (hB2.mono hB1.size)
          clear hB1 hB2
          go_wp2_with fail
          go_loopw [12] (fun i wr => ∃ k : Nat, k ≤ len ∧ i = .int .i64 k ∧ Below w.heap.size w wr ∧ Hid (posL s l = k + posL s (l.drop k))) (fun i _ => len - (intOf i).toNat)
          case atStart => exact ⟨0, Nat.zero_le _, rfl, hB3, Lib.hid (by simp)⟩
          case round =>
            obtain ⟨k, hk, rfl, hB, hE⟩ := hrel
            by_cases hlt : k < len
            · have hkl : k < l.length := by rw [hR.len_eq]; exact hlt
              obtain ⟨b, off, ha, hbb, hc1, hc2⟩ := RowU.at hR k hlt
              rw [← hB.cell (p := ⟨b, _, none⟩) hbb] at hc1 hc2
              cases hlx : ltS l[k].1 s
              · have HP := Lib.hid (pos_stop hkl hlx hE.out)
                generalize l[k] = u at *
                obtain ⟨t, r2⟩ := u
                simp only at hc1 hc2 hlx
                unfold ltS at hlx
                subst ha
                clear hE
                have hR2 := hR.below hB
                have hbs := hB.size
                go_wp2_with fail
                with_reducible refine (cloneU_any _ _ _ _ _ hR2).mono ?_
                rintro e w4 ⟨v4, rfl, ho4, hB4⟩
                have hB5 := hB.trans (hB4.mono hbs)
                have Ho5 := Lib.hid (OwnE.base ho4 hbs)
                clear ho4 hB4
                go_wp2_with fail
                with_reducible refine (insertU_any w.heap.size v4 l (by omega) (s, r) k (by rw [hle.out]; exact hk) #[.string s, .int .i64 r] rfl w4 Ho5.out hB5.size).mono ?_
                rintro e w6 ⟨v6, rfl, ho6, hB6⟩
                go_wp2_with fail
                go_ret2
                refine ⟨v6, by rw [HE.out]; rfl, ?_, hB5.trans hB6⟩
                rw [HL.out, HP.out]
                exact ho6
              · have HP := Lib.hid (pos_step hkl hlx hE.out)
                generalize l[k] = u at *
                obtain ⟨t, r2⟩ := u
                simp only at hc1 hc2 hlx
                unfold ltS at hlx
                subst ha
                clear hE
                go_wp2_with fail
                go_roundw
                case rel => exact ⟨k + 1, by omega, by go_num, hB, HP⟩
                case measure => simp [intOf]; omega
            · have HP := Lib.hid (pos_end (by rw [hR.len_eq]; exact hlt) (by rw [hR.len_eq]; exact hk) hE.out)
              clear hE
              have hR2 := hR.below hB
              have hbs := hB.size
              go_wp2_with fail
              with_reducible refine (cloneU_any _ _ _ _ _ hR2).mono ?_
              rintro e w4 ⟨v4, rfl, ho4, hB4⟩
              have hB5 := hB.trans (hB4.mono hbs)
              have Ho5 := Lib.hid (OwnE.base ho4 hbs)
              clear ho4 hB4
              go_wp2_with fail
              with_reducible refine (insertU_any w.heap.size v4 l (by omega) (s, r) k (by rw [hle.out]; exact hk) #[.string s, .int .i64 r] rfl w4 Ho5.out hB5.size).mono ?_
              rintro e w6 ⟨v6, rfl, ho6, hB6⟩
              go_wp2_with fail
              go_ret2
              refine ⟨v6, by rw [HE.out]; rfl, ?_, hB5.trans hB6⟩
              rw [HL.out, HP.out]
              exact ho6
      · have HE : Hid (addE l s r = 9) := by unfold addE; rw [if_neg (by simp [hc]), if_neg (by simp [hk]), if_pos hrl]; rfl
        have HL := Lib.hid (addL_err HE.out (by decide))
        have Hc := Lib.hid hc
        have Hk := Lib.hid hk
        have Hr := Lib.hid hrl
        clear hc hk hrl
        go_enter Try.func9, Try.ntmps9
        go_wp2_with fail
        with_reducible refine (check_any _ _ _ _ _ hR hS).mono ?_
        rintro e w1 ⟨rfl, hB1⟩
        rw [Hc.out]
        go_wp2_with fail
        with_reducible refine (checkUser_any _ _ _ hs).mono ?_
        rintro e w2 ⟨rfl, rfl⟩
        rw [Hk.out]
        go_wp2_with fail
        with_reducible refine (role_any _ _ _ _ _ _ (hR.below hB1) hcm).mono ?_
        rintro e w3 ⟨rfl, hB2⟩
        rw [Hr.out]
        generalize (roleL s l).1 = q at *
        go_wp2_with fail
        go_ret2
        refine ⟨.slice none 0 0, by rw [HE.out]; rfl, ?_, hB1.trans (hB2.mono hB1.size)⟩
        rw [HL.out]
        exact OwnE.nil _ _ _ _ _
    · have HE : Hid (addE l s r = chk s r) := by unfold addE; rw [if_neg (by simp [hc]), if_pos hk]; rfl
      have HL := Lib.hid (addL_err HE.out hk)
      have Hc := Lib.hid hc
      have hne : (chk s r != 0) = true := by rw [bne_iff_ne]; exact hk
      clear hc hk
      go_enter Try.func9, Try.ntmps9
      go_wp2_with fail
      with_reducible refine (check_any _ _ _ _ _ hR hS).mono ?_
      rintro e w1 ⟨rfl, hB1⟩
      rw [Hc.out]
      go_wp2_with fail
      with_reducible refine (checkUser_any _ _ _ hs).mono ?_
      rintro e w2 ⟨rfl, rfl⟩
      generalize chk s r = c at *
      go_wp2_with fail
      go_ret2
      refine ⟨.slice none 0 0, by rw [HE.out]; rfl, ?_, hB1⟩
      rw [HL.out]
      exact OwnE.nil _ _ _ _ _
  · have HE : Hid (addE l s r = chkL l) := by unfold addE; rw [if_pos hc]; rfl
    have HL := Lib.hid (addL_err HE.out hc)
    have hne : (chkL l != 0) = true := by rw [bne_iff_ne]; exact hc
    clear hc
    go_enter Try.func9, Try.ntmps9
    go_wp2_with fail
    with_reducible refine (check_any _ _ _ _ _ hR hS).mono ?_
    rintro e w1 ⟨rfl, hB1⟩
    generalize chkL l = c at *
    go_wp2_with fail
    go_ret2
    refine ⟨.slice none 0 0, by rw [HE.out]; rfl, ?_, hB1⟩
    rw [HL.out]
    exact OwnE.nil _ _ _ _ _
end Go.Proofs.Ytgmpoakcbgnfbaa
