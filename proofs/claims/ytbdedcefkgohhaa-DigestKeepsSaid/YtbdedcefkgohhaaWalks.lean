/-
  The contracts of the functions that the laws of layer 6 call: Sum, Text, the reference Digest, awake.
-/
import Derived.Test.YtbdedcefkgohhaaLib
import Derived.Test.YtbdedcefkgohhaaMath
namespace Go.Proofs.Ytbdedcefkgohhaa
open Go.ChangeShapes Go.WideShapes Go.ChangeAt Go.RowKit

theorem elemBytes : ElemT Try.prog 22 5 (.int .u8 0) 1 1 :=
  ⟨Try.underlying22, info_parts (show (Try.prog.info? 5).map (fun i => (i.zero, i.size, i.bytes)) = some (some (.int .u8 0), 1, 1) by kernel_rfl), rfl, by decide⟩

theorem sum_any (a : Option Addr) (len cap : Nat) (zs : List Int) (bits : Int) (w : World) (hR : RowI .u8 w a len zs) (hb : -9223372036854775808 ≤ bits ∧ bits ≤ 9223372036854775807) :
    Calls Try.prog 8 #[.slice a len cap, .int .i64 bits] w fun e w' => e = .returned (.int .u32 (sumI zs bits)) ∧ w = w' := by
  have hm := hR.small
  have hle := hR.len_eq
  have HE := Lib.hid hle
  clear hle
  go_enter Try.func8, Try.ntmps8
  go_wp2
  go_loop [5, 7, 10] (fun h c i => ∃ k : Nat, k ≤ len ∧ i = .int .i64 k ∧ h = .int .u32 (foldI (zs.take k))) (fun _ _ i => len - (intOf i).toNat)
  case atStart => exact ⟨0, Nat.zero_le _, rfl, rfl⟩
  case round =>
    obtain ⟨k, hk, rfl, rfl⟩ := hrel
    by_cases hlt : k < len
    · obtain ⟨b, off, rfl, hc⟩ := hR.addr (by omega)
      have hcell := hc k hlt
      clear hc
      go_wp2
      go_round
      case rel => exact ⟨k+1, by omega, by go_num, by rw [foldI_snoc _ _ (by rw [HE.out]; exact hlt)]; rfl⟩
      case measure => simp [intOf]; omega
    · obtain rfl : k = len := by omega
      have Hz : Hid (zs.take k = zs) := List.take_of_length_le (by rw [HE.out]; omega)
      by_cases h1 : bits < 1
      · go_wp2
        go_ret
        exact ⟨ret_int (by rw [Hz.out]; exact (mask_mod _ (mixI_bd _ (foldI_bd zs).1 (foldI_bd zs).2).1 (mixI_bd _ (foldI_bd zs).1 (foldI_bd zs).2).2 1 (by omega) _ rfl).trans (by rw [sumI, clampI_lo h1])), rfl⟩
      by_cases h2 : 32 < bits
      · go_wp2
        go_ret
        exact ⟨ret_int (by rw [Hz.out]; exact (mask_mod _ (mixI_bd _ (foldI_bd zs).1 (foldI_bd zs).2).1 (mixI_bd _ (foldI_bd zs).1 (foldI_bd zs).2).2 32 (by omega) _ rfl).trans (by rw [sumI, clampI_hi h2])), rfl⟩
      have h3 : 1 ≤ bits := by omega
      have h4 : bits ≤ 32 := by omega
      go_wp2
      go_ret
      exact ⟨ret_int (by rw [Hz.out]; exact (mask_mod _ (mixI_bd _ (foldI_bd zs).1 (foldI_bd zs).2).1 (mixI_bd _ (foldI_bd zs).1 (foldI_bd zs).2).2 bits.toNat (by omega) _ (all_ones bits h3 h4)).trans (by rw [sumI, clampI_mid h3 h4])), rfl⟩

theorem ref_any (a : Option Addr) (len cap : Nat) (zs : List Int) (bits : Int) (w : World) (hR : RowI .u8 w a len zs) (hb : -9223372036854775808 ≤ bits ∧ bits ≤ 9223372036854775807) :
    Calls Try.prog 9 #[.slice a len cap, .int .i64 bits] w fun e w' => e = .returned (.int .u32 (sumI zs bits)) ∧ w = w' := by
  have hm := hR.small
  have hle := hR.len_eq
  have HE := Lib.hid hle
  clear hle
  go_enter Try.func9, Try.ntmps9
  go_wp2
  go_loop [5, 6] (fun h i => ∃ k : Nat, k ≤ len ∧ i = .int .i64 k ∧ h = .int .u32 (foldI (zs.take k))) (fun _ i => len - (intOf i).toNat)
  case atStart => exact ⟨0, Nat.zero_le _, rfl, rfl⟩
  case round =>
    obtain ⟨k, hk, rfl, rfl⟩ := hrel
    by_cases hlt : k < len
    · obtain ⟨b, off, rfl, hc⟩ := hR.addr (by omega)
      have hcell := hc k hlt
      clear hc
      go_wp2
      go_round
      case rel => exact ⟨k+1, by omega, by go_num, by rw [foldI_snoc _ _ (by rw [HE.out]; exact hlt)]; rfl⟩
      case measure => simp [intOf]; omega
    · obtain rfl : k = len := by omega
      have Hz : Hid (zs.take k = zs) := List.take_of_length_le (by rw [HE.out]; omega)
      by_cases h1 : bits < 1
      · go_wp2
        go_ret
        exact ⟨ret_int (by rw [Hz.out]; exact (shifts_mod (mixI (foldI zs)) 1 31 rfl).trans (by rw [sumI, clampI_lo h1])), rfl⟩
      by_cases h2 : 32 < bits
      · go_wp2
        go_ret
        exact ⟨ret_int (by rw [Hz.out]; exact (show mixI (foldI zs) % 4294967296 = sumI zs bits from by rw [sumI, clampI_hi h2]; rfl)), rfl⟩
      have h3 : 1 ≤ bits := by omega
      have h4 : bits ≤ 32 := by omega
      by_cases h5 : 1 < bits
      · go_wp2
        go_ret
        exact ⟨ret_int (by rw [Hz.out]; exact (shifts_mod (mixI (foldI zs)) bits.toNat (32 - bits).toNat (by omega)).trans (by rw [sumI, clampI_mid h3 h4])), rfl⟩
      · have h6 : bits ≤ 1 := by omega
        go_wp2
        go_ret
        exact ⟨ret_int (by rw [Hz.out]; exact (shifts_mod (mixI (foldI zs)) 1 31 rfl).trans (by rw [sumI, clampI_one h3 h6])), rfl⟩

theorem conv_any {w : World} {a : Option Addr} {len cap : Nat} {zs : List Int} (h : RowI .u8 w a len zs) :
    (Go.convert 22 9 (.slice a len cap)).run Try.prog w = .ok (.string (strOfNums zs)) w :=
  conv_string h 22 5 9 Try.underlying22 Try.underlying5 Try.underlying9

theorem text_any (s : ByteArray) (bits : Int) (w : World) (hs : s.size ≤ 9223372036854775807) (hb : -9223372036854775808 ≤ bits ∧ bits ≤ 9223372036854775807) :
    Calls Try.prog 10 #[.string s, .int .i64 bits] w fun e w' => e = .returned (.int .u32 (sumI (lettersI s) bits)) ∧ Below w.heap.size w w' := by
  have hcv := Lib.run_convert_string_bytes (P := Try.prog) w 9 22 5 s Try.underlying9 Try.underlying22 Try.underlying5
  have hbw := Lib.hid (below_bytesWorld w 5 s)
  have hrow := rowI_bytesWorld w 5 s hs
  go_enter Try.func10, Try.ntmps10
  go_wp2_with (go_at_call 8; refine (sum_any _ _ _ _ _ _ hrow hb).mono ?_; rintro e w' ⟨rfl, rfl⟩)
  go_ret
  exact ⟨rfl, hbw.out⟩

theorem awake_any (w : World) : Calls Try.prog 7 #[] w fun e w' => e = .returned (.bool true) ∧ Below w.heap.size w w' := by
  have hnil : RowI .u8 w none 0 [] := ⟨rfl, by omega, Or.inl rfl⟩
  go_enter Try.func7, Try.ntmps7
  go_wp2_with fail
  refine (sum_any _ _ _ _ _ _ hnil (by omega)).mono ?_
  rintro e w' ⟨rfl, rfl⟩
  go_wp2_with fail
  refine (text_any _ _ _ (by decide) (by omega)).mono ?_
  rintro e w1 ⟨rfl, hb1⟩
  go_wp2_with fail
  refine (text_any _ _ _ (by decide) (by omega)).mono ?_
  rintro e w2 ⟨rfl, hb2⟩
  have hne : (sumI (lettersI ⟨#[97]⟩) 32 != sumI (lettersI ⟨#[98]⟩) 32) = true := by decide +kernel
  go_wp2_with fail
  go_ret
  exact ⟨rfl, hb1.trans (hb2.mono hb1.size)⟩
end Go.Proofs.Ytbdedcefkgohhaa
