/-
  The digest as plain mathematics on integers: both texts compute 'sumI'. No program is imported here.
-/
import Derived.WalkKit
import Derived.Laws.BitsAllLaws
namespace Go.Proofs.Ytbdedcefkgohhaa
open Go.RowKit

def stepI (h c : Int) : Int := Go.bits BinOp.xor .u32 h (c % 4294967296) * 16777619 % 4294967296
def foldI (zs : List Int) : Int := zs.foldl stepI 2166136261
def mixI (h : Int) : Int := Go.bits BinOp.xor .u32 h (h / 65536)
def clampI (bits : Int) : Nat := if bits < 1 then 1 else if 32 < bits then 32 else bits.toNat
def sumI (zs : List Int) (bits : Int) : Int := mixI (foldI zs) % 2 ^ clampI bits

theorem stepI_bd (h c : Int) : 0 ≤ stepI h c ∧ stepI h c < 4294967296 := by unfold stepI; omega
theorem foldI_bd (zs : List Int) : 0 ≤ foldI zs ∧ foldI zs < 4294967296 := by
  unfold foldI
  rcases List.eq_nil_or_concat zs with rfl | ⟨l, a, rfl⟩
  · exact ⟨by decide, by decide⟩
  · simp only [List.concat_eq_append, List.foldl_append, List.foldl_cons, List.foldl_nil]; exact stepI_bd _ _
theorem xor_bd (a b : Int) (h1 : 0 ≤ a) (h2 : a < 4294967296) (h3 : 0 ≤ b) (h4 : b < 4294967296) : 0 ≤ Go.bits BinOp.xor .u32 a b ∧ Go.bits BinOp.xor .u32 a b < 4294967296 := by
  rw [u32_xor a b h1 h2 h3 h4]
  have : a.toNat ^^^ b.toNat < 2 ^ 32 := Nat.xor_lt_two_pow (by omega) (by omega)
  omega
theorem mixI_bd (h : Int) (h1 : 0 ≤ h) (h2 : h < 4294967296) : 0 ≤ mixI h ∧ mixI h < 4294967296 := xor_bd _ _ h1 h2 (by omega) (by omega)
theorem foldI_snoc (zs : List Int) (k : Nat) (h : k < zs.length) : foldI (zs.take (k + 1)) = stepI (foldI (zs.take k)) (zs[k]?.getD 0) := by
  unfold foldI
  rw [List.take_succ_eq_append_getElem h, List.foldl_append]
  simp [h]

theorem clampI_bd (bits : Int) : 1 ≤ clampI bits ∧ clampI bits ≤ 32 := by
  unfold clampI; split
  · omega
  · split <;> omega
theorem clampI_lo {bits : Int} (h : bits < 1) : clampI bits = 1 := by simp [clampI, h]
theorem clampI_hi {bits : Int} (h : 32 < bits) : clampI bits = 32 := by simp [clampI, h]; omega
theorem clampI_mid {bits : Int} (h1 : 1 ≤ bits) (h2 : bits ≤ 32) : clampI bits = bits.toNat := by
  unfold clampI; rw [if_neg (by omega), if_neg (by omega)]

theorem clampI_one {bits : Int} (h1 : 1 ≤ bits) (h2 : bits ≤ 1) : clampI bits = 1 := by rw [clampI_mid h1 (by omega)]; omega
/-- the mask: '& (2^32-1 >> (32-n))' keeps the last n bits -/
theorem mask_mod (h : Int) (h1 : 0 ≤ h) (h2 : h < 4294967296) (n : Nat) (hn2 : n ≤ 32) (m : Int) (hm : m = 2 ^ n - 1) : Go.bits BinOp.and .u32 h m = h % 2 ^ n := by
  have hp : (2 : Int) ^ n ≤ 2 ^ 32 := by
    have : (2 : Nat) ^ n ≤ 2 ^ 32 := Nat.pow_le_pow_right (by omega) hn2
    exact_mod_cast this
  have hq : (1 : Int) ≤ 2 ^ n := by
    have : 1 ≤ (2 : Nat) ^ n := Nat.one_le_two_pow
    exact_mod_cast this
  have hp' : (2 : Int) ^ 32 = 4294967296 := by decide
  subst hm
  rw [u32_and h _ h1 h2 (by omega) (by omega)]
  have e : ((2 : Int) ^ n - 1).toNat = 2 ^ n - 1 := by
    have : ((2 : Int) ^ n) = ((2 ^ n : Nat) : Int) := by simp
    omega
  rw [e, Nat.and_two_pow_sub_one_eq_mod]
  obtain ⟨k, rfl⟩ := Int.eq_ofNat_of_zero_le h1
  simp
theorem all_ones (bits : Int) (h1 : 1 ≤ bits) (h2 : bits ≤ 32) : (4294967295 : Int) / 2 ^ (32 - bits).toNat = 2 ^ bits.toNat - 1 := by
  obtain ⟨n, rfl⟩ := Int.eq_ofNat_of_zero_le (by omega : 0 ≤ bits)
  have hn1 : 1 ≤ n := by omega
  have hn2 : n ≤ 32 := by omega
  have key : ∀ n : Fin 33, 1 ≤ n.val → (4294967295 : Int) / 2 ^ (32 - (n.val : Int)).toNat = 2 ^ (n.val : Int).toNat - 1 := by decide
  exact key ⟨n, by omega⟩ hn1
/-- '<< (32-n)' and '>> (32-n)' in 32 bits keep the last n bits -/
theorem shifts_mod (h : Int) (n m : Nat) (hm : n + m = 32) : h * 2 ^ m % 4294967296 / 2 ^ m = h % 2 ^ n := by
  have e : (4294967296 : Int) = 2 ^ n * 2 ^ m := by rw [← Int.pow_add, hm]; decide
  rw [e, Int.mul_comm h, Int.mul_comm ((2 : Int) ^ n), Int.mul_emod_mul_of_pos]
  · rw [Int.mul_comm]; exact Int.mul_ediv_cancel _ (Int.ne_of_gt (Int.pow_pos (by decide)))
  · exact Int.pow_pos (by decide)
theorem sumI_bd (zs : List Int) (bits : Int) : 0 ≤ sumI zs bits ∧ sumI zs bits < 4294967296 := by
  have hf := foldI_bd zs
  have hm := mixI_bd _ hf.1 hf.2
  unfold sumI
  have hp : (0 : Int) < 2 ^ clampI bits := Int.pow_pos (by decide)
  have h1 := Int.emod_nonneg (mixI (foldI zs)) (Int.ne_of_gt hp)
  have h2 : mixI (foldI zs) % 2 ^ clampI bits ≤ mixI (foldI zs) := by
    obtain ⟨k, hk⟩ := Int.eq_ofNat_of_zero_le hm.1
    rw [hk]
    have : ((2 : Int) ^ clampI bits) = ((2 ^ clampI bits : Nat) : Int) := by simp
    rw [this, ← Int.natCast_emod]
    have := Nat.mod_le k (2 ^ clampI bits)
    omega
  omega

/-! the last byte decides -/
theorem xor_shift_inv (x : Nat) (h : x < 4294967296) : (x ^^^ x >>> 16) ^^^ (x ^^^ x >>> 16) >>> 16 = x := by
  rw [Nat.shiftRight_xor_distrib, ← Nat.shiftRight_add]
  have : x >>> (16 + 16) = 0 := by rw [Nat.shiftRight_eq_div_pow]; exact Nat.div_eq_of_lt h
  rw [this, Nat.xor_zero, Nat.xor_assoc, Nat.xor_self, Nat.xor_zero]
theorem mixI_inj (x y : Int) (hx : 0 ≤ x ∧ x < 4294967296) (hy : 0 ≤ y ∧ y < 4294967296) (h : mixI x = mixI y) : x = y := by
  have key : ∀ x : Int, 0 ≤ x ∧ x < 4294967296 → mixI x = ((x.toNat ^^^ x.toNat >>> 16 : Nat) : Int) := by
    intro x hx
    unfold mixI
    rw [u32_xor x _ hx.1 hx.2 (by omega) (by omega)]
    have : (x / 65536).toNat = x.toNat >>> 16 := by rw [Nat.shiftRight_eq_div_pow]; omega
    rw [this]
  rw [key x hx, key y hy] at h
  have h' : x.toNat ^^^ x.toNat >>> 16 = y.toNat ^^^ y.toNat >>> 16 := by exact_mod_cast h
  have hx' := xor_shift_inv x.toNat (by omega)
  have hy' := xor_shift_inv y.toNat (by omega)
  rw [h', hy'] at hx'
  omega
theorem mul_inj (a b : Int) (ha : 0 ≤ a ∧ a < 4294967296) (hb : 0 ≤ b ∧ b < 4294967296) (h : a * 16777619 % 4294967296 = b * 16777619 % 4294967296) : a = b := by
  have key : ∀ x : Int, 0 ≤ x ∧ x < 4294967296 → x * 16777619 % 4294967296 * 899433627 % 4294967296 = x := by
    intro x hx
    rw [Int.mul_emod, Int.emod_emod, ← Int.mul_emod, Int.mul_assoc, Int.mul_emod x, show ((16777619 : Int) * 899433627) % 4294967296 = 1 from by decide, Int.mul_one, Int.emod_emod]
    exact Int.emod_eq_of_lt hx.1 hx.2
  rw [← key a ha, ← key b hb, h]
theorem xor_inj (h c d : Int) (hh : 0 ≤ h ∧ h < 4294967296) (hc : 0 ≤ c ∧ c ≤ 255) (hd : 0 ≤ d ∧ d ≤ 255) (e : Go.bits BinOp.xor .u32 h c = Go.bits BinOp.xor .u32 h d) : c = d := by
  rw [u32_xor h c hh.1 hh.2 hc.1 (by omega), u32_xor h d hh.1 hh.2 hd.1 (by omega)] at e
  have e' : h.toNat ^^^ c.toNat = h.toNat ^^^ d.toNat := by exact_mod_cast e
  have e2 : h.toNat ^^^ (h.toNat ^^^ c.toNat) = h.toNat ^^^ (h.toNat ^^^ d.toNat) := by rw [e']
  rw [← Nat.xor_assoc, ← Nat.xor_assoc, Nat.xor_self, Nat.zero_xor, Nat.zero_xor] at e2
  omega
theorem stepI_inj (h c d : Int) (hh : 0 ≤ h ∧ h < 4294967296) (hc : 0 ≤ c ∧ c ≤ 255) (hd : 0 ≤ d ∧ d ≤ 255) (e : stepI h c = stepI h d) : c = d := by
  have hc' : c % 4294967296 = c := Int.emod_eq_of_lt hc.1 (by omega)
  have hd' : d % 4294967296 = d := Int.emod_eq_of_lt hd.1 (by omega)
  unfold stepI at e
  rw [hc', hd'] at e
  exact xor_inj h c d hh hc hd (mul_inj _ _ (xor_bd _ _ hh.1 hh.2 hc.1 (by omega)) (xor_bd _ _ hh.1 hh.2 hd.1 (by omega)) e)
theorem sumI_last (zs : List Int) (c d : Int) (hc : 0 ≤ c ∧ c ≤ 255) (hd : 0 ≤ d ∧ d ≤ 255) (hne : c ≠ d) : sumI (zs ++ [c]) 32 ≠ sumI (zs ++ [d]) 32 := by
  intro e
  have hfull : ∀ zs, sumI zs 32 = mixI (foldI zs) := by
    intro zs
    have := mixI_bd _ (foldI_bd zs).1 (foldI_bd zs).2
    unfold sumI
    rw [clampI_mid (by omega) (by omega)]
    exact Int.emod_eq_of_lt this.1 this.2
  rw [hfull, hfull] at e
  have e1 := mixI_inj _ _ (foldI_bd _) (foldI_bd _) e
  unfold foldI at e1
  rw [List.foldl_append, List.foldl_append] at e1
  exact hne (stepI_inj _ c d (foldI_bd zs) hc hd e1)
end Go.Proofs.Ytbdedcefkgohhaa
