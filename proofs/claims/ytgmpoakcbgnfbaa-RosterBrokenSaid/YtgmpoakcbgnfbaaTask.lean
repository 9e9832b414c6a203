/-
  Names of assignments and of users: the character tests, and IsTask, in the program and in the reference.
-/
import Derived.Test.YtgmpoakcbgnfbaaRowE
import Derived.Deep.QuietTactic
import Derived.Deep.RegionHeld3
import Derived.Deep.DrawnRows
import Derived.StillTailTactics
import Derived.BigQuiet
namespace Go.Proofs.Ytgmpoakcbgnfbaa
open Go.ChangeShapes Go.WideShapes Go.ChangeAt Go.RowKit
set_option linter.unusedSimpArgs false
set_option linter.unusedVariables false
attribute [local go_sem ↓] Go.wp_at_zero Go.wp_at_succ

def isL (c : Int) : Bool := decide (97 ≤ c) && decide (c ≤ 122)
def isD (c : Int) : Bool := decide (48 ≤ c) && decide (c ≤ 57)
def okc (i : Nat) (c : Int) : Bool := isL c || (decide (0 < i) && (isD c || c == 45))
def TaskP (s : ByteArray) : Prop := 1 ≤ s.size ∧ s.size ≤ 24 ∧ ∀ i (h : i < s.size), okc i (s[i].toNat : Int) = true
instance (s : ByteArray) : Decidable (TaskP s) := inferInstanceAs (Decidable (_ ∧ _ ∧ _))
def isTask (s : ByteArray) : Bool := decide (TaskP s)
theorem isTask_no (s : ByteArray) (i : Nat) (h : i < s.size) (hc : okc i (s[i].toNat : Int) = false) : isTask s = false := by
  unfold isTask; rw [decide_eq_false_iff_not]; rintro ⟨_, _, h3⟩; rw [h3 i h] at hc; cases hc
theorem isTask_size (s : ByteArray) (h : s.size < 1 ∨ 24 < s.size) : isTask s = false := by
  unfold isTask; rw [decide_eq_false_iff_not]; rintro ⟨h1, h2, _⟩; omega
theorem isTask_yes (s : ByteArray) (h : 1 ≤ s.size) (h2 : s.size ≤ 24) (h3 : ∀ i (h : i < s.size), okc i (s[i].toNat : Int) = true) : isTask s = true := decide_eq_true ⟨h, h2, h3⟩

theorem isLetter_any (c : Int) (w : World) : Calls Try.prog 25 #[.int .u8 c] w fun e w' => e = .returned (.bool (isL c)) ∧ w' = w := by
  by_cases h1 : 97 ≤ c <;> by_cases h2 : c ≤ 122
  all_goals (
    go_enter Try.func25, Try.ntmps25
    go_wp2
    go_ret
    exact ⟨by simp [isL, h1, h2], rfl⟩)
theorem isDigit_any (c : Int) (w : World) : Calls Try.prog 26 #[.int .u8 c] w fun e w' => e = .returned (.bool (isD c)) ∧ w' = w := by
  by_cases h1 : 48 ≤ c <;> by_cases h2 : c ≤ 57
  all_goals (
    go_enter Try.func26, Try.ntmps26
    go_wp2
    go_ret
    exact ⟨by simp [isD, h1, h2], rfl⟩)

set_option maxHeartbeats 1000000 in
theorem isTask_any (s : ByteArray) (w : World) (hs : s.size ≤ maxLen) : Calls Try.prog 21 #[.string s] w fun e w' => e = .returned (.bool (isTask s)) ∧ w' = w := by
  unfold maxLen at hs
  by_cases h0 : s.size = 0
  · have hb : ((s.size : Int) == 0) = true := by rw [beq_iff_eq]; omega
    have HF := Lib.hid (isTask_size s (by omega))
    go_enter Try.func21, Try.ntmps21
    go_wp2
    go_ret
    exact ⟨ret_bool HF.out.symm, rfl⟩
  · have hb : ((s.size : Int) == 0) = false := by rw [beq_eq_false_iff_ne]; omega
    by_cases h24 : 24 < s.size
    · have HF := Lib.hid (isTask_size s (by omega))
      go_enter Try.func21, Try.ntmps21
      go_wp2
      go_ret
      exact ⟨ret_bool HF.out.symm, rfl⟩
    · have hp : 0 < s.size := by omega
      have hb24 : decide (24 < (s.size : Int)) = false := by simp; omega
      cases hl : isL (s[0]'hp).toNat
      · have HF := Lib.hid (isTask_no s 0 hp (by simp [okc, hl]))
        go_enter Try.func21, Try.ntmps21
        go_wp2_with fail
        with_reducible refine (isLetter_any _ _).mono ?_
        rintro e w1 ⟨rfl, rfl⟩
        rw [hl]
        go_wp2_with fail
        go_ret
        exact ⟨ret_bool HF.out.symm, rfl⟩
      · go_enter Try.func21, Try.ntmps21
        go_wp2_with fail
        with_reducible refine (isLetter_any _ _).mono ?_
        rintro e w1 ⟨rfl, rfl⟩
        rw [hl]
        have hl0 : okc 0 (s[0]'hp).toNat = true := by simp [okc, hl]
        go_wp2_with fail
        go_loopw [3, 20] (fun _ i wr => ∃ k : Nat, k ≤ s.size ∧ i = .int .i64 k ∧ wr = w1 ∧ ∀ j (h : j < s.size), j < k → okc j (s[j].toNat : Int) = true) (fun _ i _ => s.size - (intOf i).toNat)
        case atStart => exact ⟨0, by omega, rfl, rfl, fun j _ h => by omega⟩
        case round =>
          obtain ⟨k, hk, rfl, rfl, hok⟩ := hrel
          by_cases hlt : k < s.size
          · have hnx : okc k (s[k]'hlt).toNat = true → ∀ j (h : j < s.size), j < k + 1 → okc j (s[j].toNat : Int) = true := fun hx j hj hjk => by
              rcases Nat.lt_or_ge j k with h1 | h1
              · exact hok j hj h1
              · obtain rfl : j = k := by omega
                exact hx
            have hno := isTask_no s k hlt
            have hk0 : k = 0 → okc k (s[k]'hlt).toNat = true := fun h => by subst h; exact hl0
            generalize hc : ((s[k]'hlt).toNat : Int) = c at hnx hno hk0
            cases hc1 : isL c
            · cases hc2 : isD c
              · cases hc3 : c == 45
                · have hz : okc k c = false := by simp [okc, hc1, hc2, hc3]
                  have HF := Lib.hid (hno hz)
                  clear hnx hno hk0 hok
                  go_wp2_with fail
                  with_reducible refine (isLetter_any _ _).mono ?_
                  rintro e w2 ⟨rfl, rfl⟩
                  rw [hc1]
                  go_wp2_with fail
                  with_reducible refine (isDigit_any _ _).mono ?_
                  rintro e w2 ⟨rfl, rfl⟩
                  rw [hc2]
                  have hc4 : (c != 45) = true := by rw [bne, hc3]; rfl
                  go_wp2_with fail
                  go_ret
                  exact ⟨ret_bool HF.out.symm, rfl⟩
                · have hz : okc k c = true := by
                    by_cases h : k = 0
                    · exact hk0 h
                    · have : 0 < k := by omega
                      simp [okc, hc1, hc3, this]
                  have HF := Lib.hid (hnx hz)
                  clear hnx hno hk0 hok
                  go_wp2_with fail
                  with_reducible refine (isLetter_any _ _).mono ?_
                  rintro e w2 ⟨rfl, rfl⟩
                  rw [hc1]
                  go_wp2_with fail
                  with_reducible refine (isDigit_any _ _).mono ?_
                  rintro e w2 ⟨rfl, rfl⟩
                  rw [hc2]
                  have hc4 : (c != 45) = false := by rw [bne, hc3]; rfl
                  go_wp2_with fail
                  go_roundw
                  case rel => exact ⟨k + 1, by omega, by go_num, by first | rfl | trivial, HF.out⟩
                  case measure => simp [intOf]; omega
              · have hz : okc k c = true := by
                  by_cases h : k = 0
                  · exact hk0 h
                  · have : 0 < k := by omega
                    simp [okc, hc1, hc2, this]
                have HF := Lib.hid (hnx hz)
                clear hnx hno hk0 hok
                go_wp2_with fail
                with_reducible refine (isLetter_any _ _).mono ?_
                rintro e w2 ⟨rfl, rfl⟩
                rw [hc1]
                go_wp2_with fail
                with_reducible refine (isDigit_any _ _).mono ?_
                rintro e w2 ⟨rfl, rfl⟩
                rw [hc2]
                go_wp2_with fail
                go_roundw
                case rel => exact ⟨k + 1, by omega, by go_num, by first | rfl | trivial, HF.out⟩
                case measure => simp [intOf]; omega
            · have hz : okc k c = true := by simp [okc, hc1]
              have HF := Lib.hid (hnx hz)
              clear hnx hno hk0 hok
              go_wp2_with fail
              with_reducible refine (isLetter_any _ _).mono ?_
              rintro e w2 ⟨rfl, rfl⟩
              rw [hc1]
              go_wp2_with fail
              go_roundw
              case rel => exact ⟨k + 1, by omega, by go_num, by first | rfl | trivial, HF.out⟩
              case measure => simp [intOf]; omega
          · have HF := Lib.hid (isTask_yes s (by omega) (by omega) (fun j hj => hok j hj (by omega)))
            go_wp2_with fail
            go_ret
            exact ⟨ret_bool HF.out.symm, rfl⟩

theorem hk3 {b : Bool} (k : Nat) (h : ((k : Int) == 0) = b) : decide (0 < k) = !b := by
  subst h
  by_cases h : k = 0
  · subst h; rfl
  · have : 0 < k := by omega
    have h2 : ((k : Int) == 0) = false := by rw [beq_eq_false_iff_ne]; omega
    simp [this, h2]
set_option maxHeartbeats 1000000 in
theorem refIsTask_any (s : ByteArray) (w : World) (hs : s.size ≤ maxLen) : Calls Try.prog 24 #[.string s] w fun e w' => e = .returned (.bool (isTask s)) ∧ w' = w := by
  unfold maxLen at hs
  go_enter Try.func24, Try.ntmps24
  go_wp2_with fail
  go_loopw [3, 4, 5] (fun i _ _ wr => ∃ k : Nat, k ≤ s.size ∧ i = .int .i64 k ∧ wr = w ∧ ∀ j (h : j < s.size), j < k → okc j (s[j].toNat : Int) = true) (fun i _ _ _ => s.size - (intOf i).toNat)
  case atStart => exact ⟨0, by omega, rfl, rfl, fun j _ h => by omega⟩
  case round =>
    obtain ⟨k, hk, rfl, rfl, hok⟩ := hrel
    by_cases hlt : k < s.size
    · have hnx : okc k (s[k]'hlt).toNat = true → ∀ j (h : j < s.size), j < k + 1 → okc j (s[j].toNat : Int) = true := fun hx j hj hjk => by
        rcases Nat.lt_or_ge j k with h1 | h1
        · exact hok j hj h1
        · obtain rfl : j = k := by omega
          exact hx
      have hno := isTask_no s k hlt
      generalize hc : ((s[k]'hlt).toNat : Int) = c at hnx hno
      by_cases hz : okc k c = true
      · have HF := Lib.hid (hnx hz)
        have Hz := Lib.hid hz
        clear hnx hno hok hz
        by_cases h1 : 97 ≤ c <;> by_cases h2 : c ≤ 122 <;> cases h3 : ((k : Int) == 0) <;> by_cases h4 : 48 ≤ c <;> by_cases h5 : c ≤ 57 <;> cases h6 : (c == 45)
        all_goals first
          | (exfalso; clear hlt hc; have := Hz.out; simp [okc, isL, isD, h1, h2, hk3 k h3, h4, h5, h6] at this; done)
          | (exfalso; clear hlt hc; have := beq_iff_eq.1 h6; omega)
          | (exfalso; omega)
          | (go_wp2_with fail
             go_roundw
             case rel => exact ⟨k + 1, by omega, by go_num, by first | rfl | trivial, HF.out⟩
             case measure => simp [intOf]; omega)
      · have hz' : okc k c = false := by simpa using hz
        have HF := Lib.hid (hno hz')
        have Hz := Lib.hid hz'
        clear hnx hno hok hz hz'
        by_cases h1 : 97 ≤ c <;> by_cases h2 : c ≤ 122 <;> cases h3 : ((k : Int) == 0) <;> by_cases h4 : 48 ≤ c <;> by_cases h5 : c ≤ 57 <;> cases h6 : (c == 45)
        all_goals first
          | (exfalso; clear hlt hc; have := Hz.out; simp [okc, isL, isD, h1, h2, hk3 k h3, h4, h5, h6] at this; done)
          | (exfalso; clear hlt hc; have := beq_iff_eq.1 h6; omega)
          | (exfalso; omega)
          | (go_wp2_with fail
             go_ret
             exact ⟨ret_bool HF.out.symm, rfl⟩)
    · obtain rfl : k = s.size := by omega
      by_cases h1 : 1 ≤ s.size
      · by_cases h2 : s.size ≤ 24
        · have HF := Lib.hid (isTask_yes s h1 h2 (fun j hj => hok j hj hj))
          have h1' : (1 : Int) ≤ s.size := by omega
          have h2' : decide ((s.size : Int) ≤ 24) = true := by simp; omega
          go_wp2_with fail
          go_ret
          exact ⟨ret_bool HF.out.symm, by first | rfl | trivial⟩
        · have HF := Lib.hid (isTask_size s (by omega))
          have h1' : (1 : Int) ≤ s.size := by omega
          have h2' : decide ((s.size : Int) ≤ 24) = false := by simp; omega
          go_wp2_with fail
          go_ret
          exact ⟨ret_bool HF.out.symm, by first | rfl | trivial⟩
      · have HF := Lib.hid (isTask_size s (by omega))
        have h1' : decide ((1 : Int) ≤ s.size) = false := by simp; omega
        go_wp2_with fail
        go_ret
        exact ⟨ret_bool HF.out.symm, by first | rfl | trivial⟩
end Go.Proofs.Ytgmpoakcbgnfbaa
