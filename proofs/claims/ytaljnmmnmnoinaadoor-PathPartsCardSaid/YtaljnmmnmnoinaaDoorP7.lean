/-
  Paths: the laws' arguments and strings.
-/
import Derived.Test.YtaljnmmnmnoinaaDoorP6
namespace Go.Proofs.YtaljnmmnmnoinaaDoor
open Go Go.RowKit V
set_option linter.unusedSimpArgs false
set_option linter.unusedVariables false
set_option maxHeartbeats 20000000
abbrev bsV (l : List Int) : AV := .slv l.length 1 (l.map (AV.int .u8))
theorem bs_at (l : List Int) (k : Nat) (hk : k < l.length) : (l.map (AV.int .u8)).drop ((k : Int).toNat * 1) = AV.int .u8 (l.getD k 0) :: (l.drop (k + 1)).map (AV.int .u8) := by
  rw [Int.toNat_natCast, Nat.mul_one, ← List.map_drop, List.drop_eq_getElem_cons hk, List.map_cons, List.getD_eq_getElem?_getD, List.getElem?_eq_getElem hk]; rfl
def PL : List ByteArray := [.mk #[97], .mk #[98], .mk #[47], .mk #[47], .mk #[46, 46], .mk #[46], .mk #[120, 46, 109], .mk #[45], .mk #[65], .mk #[108, 111, 110, 103, 45, 110, 97, 109, 101], .mk #[47, 46, 47], .mk #[47, 46, 46, 47], .mk #[48], .mk #[32]]
def pcF (l : List Int) : Nat → ByteArray
  | 0 => bE
  | i + 1 => pcF l i ++ PL.getD ((l.getD i 0) % 14).toNat bE
theorem PL_sz : ∀ k, (PL.getD k bE).size ≤ 9
  | 0 | 1 | 2 | 3 | 4 | 5 | 6 | 7 | 8 | 9 | 10 | 11 | 12 | 13 => by decide
  | k + 14 => by rw [List.getD_eq_getElem?_getD, List.getElem?_eq_none (by simp [PL])]; decide
theorem pcF_sz (l : List Int) : ∀ i, (pcF l i).size ≤ i * 9
  | 0 => Nat.zero_le _
  | i + 1 => by
    have := pcF_sz l i
    have := PL_sz ((l.getD i 0) % 14).toNat
    unfold pcF
    rw [ByteArray.size_append]; omega
theorem PL_lit : ([AV.str (.mk #[97]), .str (.mk #[98]), .str (.mk #[47]), .str (.mk #[47]), .str (.mk #[46, 46]), .str (.mk #[46]), .str (.mk #[120, 46, 109]), .str (.mk #[45]), .str (.mk #[65]), .str (.mk #[108, 111, 110, 103, 45, 110, 97, 109, 101]), .str (.mk #[47, 46, 47]), .str (.mk #[47, 46, 46, 47]), .str (.mk #[48]), .str (.mk #[32])] : List AV) = flatA encS PL := rfl
theorem PL_at (k : Int) (h0 : 0 ≤ k) (h : k < 14) : (flatA encS PL).drop (0 + k.toNat * 1) = AV.str (PL.getD k.toNat bE) :: flatA encS (PL.drop (k.toNat + 1)) := by
  have := encS_at0 PL k.toNat (by show k.toNat < 14; omega)
  rw [Int.toNat_natCast] at this
  exact this
def pcS (l : List Int) (i : Nat) : St := stOf 26 [(0, bsV l), (3, .str (pcF l i)), (4, .int .i64 (i : Int))] []
theorem pieces_v (l : List Int) (hl : l.length ≤ 9223372036854775807) (hb : ∀ z ∈ l, 0 ≤ z ∧ z ≤ 255) : CallsV Tryd.prog 9 [bsV l] [] (fun av H' => av = .str (pcF l (min l.length 30)) ∧ H' = []) := by
  refine callsG_at Tryd.func9 (by kernel_rfl) ?_
  have hL : LoopG Tryd.prog 0 Tryd.f9 0 (.exit 0) (stOf 26 [(3, .str (pcF l (min l.length 30)))] []) (pcS l 0) := by
    refine loopG_of (min l.length 30) (pcS l) (by kernel_rfl) (by simp) ?_ ?_
    · intro i hi
      have hi1 : i < l.length := by omega
      have hi2 : i < 30 := by omega
      have at1 := bs_at l i hi1
      obtain ⟨z0, z1⟩ := hb _ (getD_mem' hi1 0)
      have e : pcF l (i + 1) = pcF l i ++ PL.getD ((l.getD i 0) % 14).toNat bE := rfl
      have hs1 := pcF_sz l i
      have hs2 := PL_sz ((l.getD i 0) % 14).toNat
      have tm : (l.getD i 0).tmod 14 = (l.getD i 0) % 14 := Int.tmod_eq_emod_of_nonneg z0
      have at2 := PL_at ((l.getD i 0) % 14) (by omega) (by omega)
      have hgk : 1 ≤ ((flatA encS PL).drop (0 + ((l.getD i 0) % 14).toNat * 1)).length := by rw [at2]; simp
      unfold pcS
      rw [e]
      have lit := PL_lit
      generalize PL = Q at *
      generalize pcF l i = s at *
      generalize l.getD i 0 = z at *
      have e1' := (congrArg (fun z => Blk.row 9 z) lit)
      have e2' := (congrArg (fun z => AV.fptr z) at1)
      have e3' := (congrArg (fun z => AV.int .u8 z) tm)
      have e4' := (drop_hd0 (v := AV.str (Q.getD (z % (14 : Int)).toNat bE)) at2 rfl)
      have e5' := (congrArg (fun z => AV.int .i64 z) (wrap_i64 (e := (↑i : Int) + (1 : Int)) (by omega) (by omega)))
      exact g_x [⟨5, [.tm 9 (.bool true)], .no⟩, ⟨8, [], .br true .no⟩, ⟨11, [.hp 0 (rhsOf e1')], .no⟩, ⟨13, [], .as (rhsOf e2')⟩, ⟨15, [], .as (rhsOf e3')⟩, ⟨17, [], .as (rhsOf e4')⟩, ⟨21, [], .as (rhsOf e5')⟩] [.sel [0, 3, 4], .keep [] []] (And.intro (congrArg AV.bool (show decide ((↑i : Int) < (↑l.length : Int)) = true from (by rw [decide_eq_true_iff]; omega))) (And.intro (show (bif true then decide ((↑i : Int) < (30 : Int)) else false) = true from (by simp_all; omega)) (And.intro (congrArg some e1') (And.intro (show (0 : Int) ≤ (↑i : Int) ∧ (↑i : Int) < (↑l.length : Int) from (by omega)) (And.intro e2' (And.intro (show 1 ≤ (AV.int .u8 z :: List.map (AV.int .u8) (List.drop (i + 1) l)).length from (by exact Nat.le_of_ble_eq_true (by kernel_rfl))) (And.intro (show (14 : Int) ≠ (0 : Int) from (by omega)) (And.intro e3' (And.intro (show (0 : Int) ≤ z % (14 : Int) ∧ z % (14 : Int) < (↑14 : Int) from (by omega)) (And.intro (show 1 ≤ (List.drop (0 + (z % (14 : Int)).toNat * 1) (flatA encS Q)).length from (drop_le0 (n := 1) at2 (by simp))) (And.intro e4' (And.intro (show s.size + (Q.getD (z % (14 : Int)).toNat bE).size ≤ 9223372036854775807 from (by omega)) e5'))))))))))))
    · unfold pcS
      have hx : (decide ((min l.length 30 : Nat) < (l.length : Int)) && decide (((min l.length 30 : Nat) : Int) < 30)) = false := by
        rw [Bool.and_eq_false_iff, decide_eq_false_iff_not, decide_eq_false_iff_not]; omega
      exact g_x [⟨5, [], .gd⟩, ⟨6, [], .gd⟩, ⟨8, [], .br false .no⟩] [.sel [3]] (And.intro (show (decide ((↑(min l.length 30) : Int) < (↑l.length : Int)) == true) = true → (decide ((↑(min l.length 30) : Int) < (↑l.length : Int)) == true) = true from (fun h => h)) (And.intro (show decide ((↑(min l.length 30) : Int) < (↑l.length : Int)) = true → (decide ((↑(min l.length 30) : Int) < (↑l.length : Int)) == true) = true from (by (simp; done))) (show (bif decide ((↑(min l.length 30) : Int) < (↑l.length : Int)) then decide ((↑(min l.length 30) : Int) < (30 : Int)) else false) = false from (by simp_all; done))))
  unfold pcS at hL
  have e1' := hL
  refine g_q [⟨3, [.sel [0, 3, 4]], .loop (exOf e1') (endOf e1')⟩] [.sel [2]] Exit.ret (stOf 26 [(2, AV.str (pcF l (min l.length 30)))] []) e1' ?_
  refine g_f [] [] (AV.str (pcF l (min l.length 30))) ([]) trivial ?_
  exact ⟨rfl, rfl⟩
end Go.Proofs.YtaljnmmnmnoinaaDoor
