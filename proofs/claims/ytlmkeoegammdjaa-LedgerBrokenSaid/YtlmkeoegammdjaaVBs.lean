/-
  The laws' step with an own row, and the rows of the reference's steps.
-/
import Derived.Test.YtlmkeoegammdjaaVX
namespace Go.Proofs.Ytlmkeoegammdjaa
open Go Go.RowKit V
set_option linter.unusedSimpArgs false
set_option linter.unusedVariables false
set_option maxHeartbeats 20000000
def nine (st tk : ByteArray) (v : Int) : List AV := [.str st, .str tk, .int .i64 v, .bool true, .int .i64 0, .int .i64 0, .str (ByteArray.mk #[]), .int .i64 0, .int .i64 0]
theorem refSubRow_v (l : List Mk) (st tk : ByteArray) (hl : OkL l) (hB : l.length ≤ 100000000) : CallsV Try.prog 24 [marksV l, .agg [.str st, .str tk]] [] (fun av H' => av = .sl 0 0 (subL l st tk).length 10 ∧ H' = [.row 38 (flatA encM (subL l st tk))]) := by
  have ins : ∀ k, k ≤ l.length → (CallsV Try.prog 24 [marksV l, .agg [.str st, .str tk]] [] fun a b => a = .sl 0 0 (l.length + 1) 10 ∧ b = [.row 38 ((flatA encM l).take (k * 10) ++ ([AV.str st, AV.str tk, AV.int IntKind.i64 (1 : Int), AV.bool true, AV.int IntKind.i64 (0 : Int), AV.int IntKind.i64 (0 : Int), AV.str (ByteArray.mk #[]), AV.int IntKind.i64 (0 : Int), AV.int IntKind.i64 (0 : Int), AV.nilsl] ++ (flatA encM l).drop (k * 10)))]) →
      CallsV Try.prog 24 [marksV l, .agg [.str st, .str tk]] [] fun a b => a = .sl 0 0 (insL l k (subM st tk 1)).length 10 ∧ b = [.row 38 (flatA encM (insL l k (subM st tk 1)))] := fun k hk h => by
    have h1 := weakMid ((flatA encM l).take (k * 10)) ((flatA encM l).drop (k * 10)) (nine st tk 1 ++ [AV.nilsl]) (nine st tk 1 ++ [AV.slv 0 1 []]) h rfl (weakTen _ rfl)
    refine h1.mono fun a b ⟨e1, e2⟩ => ⟨by rw [e1, insL_len l k _ hk], ?_⟩
    rw [e2, flatA_take lenM, flatA_drop lenM, insL, flat_mid]; rfl
  rcases ix0 l st tk with h | ⟨i, hi, h, _⟩
  · rcases pos0 l st tk with hp | ⟨k, hk, hp⟩
    · rw [subL, h, hp]
      refine ins l.length (Nat.le_refl _) ((refSubmit_new_v l st tk hl hB h).mono fun av H' ⟨h1, k', h2, h3, h4⟩ => ?_)
      have e : k' = l.length := by
        rcases h3 with ⟨_, h3⟩ | ⟨h3, _⟩
        · rw [hp] at h3; omega
        · exact h3
      subst e
      exact ⟨h1, h4⟩
    · rw [subL, h, hp, if_neg (by decide), if_pos (by omega), Int.toNat_natCast]
      refine ins k (by omega) ((refSubmit_new_v l st tk hl hB h).mono fun av H' ⟨h1, k', h2, h3, h4⟩ => ?_)
      have e : k' = k := by
        rcases h3 with ⟨_, h3⟩ | ⟨_, h3⟩
        · rw [hp] at h3; omega
        · rw [hp] at h3; omega
      subst e
      exact ⟨h1, h4⟩
  · rw [subL, h, if_pos (by omega), Int.toNat_natCast]
    have h1 := weakMid (flatA encM (l.take i)) (flatA encM (l.drop (i + 1))) (nine st tk (IntKind.i64.wrap ((l.getD i mD).ver + 1)) ++ [AV.nilsl]) (nine st tk (IntKind.i64.wrap ((l.getD i mD).ver + 1)) ++ [AV.slv 0 1 []]) (refSubmit_old_v l st tk hl i hi h) rfl (weakTen _ rfl)
    refine h1.mono fun a b ⟨e1, e2⟩ => ⟨by rw [e1, setL_len l i _ hi], ?_⟩
    rw [e2, setL, flat_mid]; rfl
theorem refReopRow_v (l : List Mk) (st tk : ByteArray) (hl : OkL l) : CallsV Try.prog 19 [marksV l, .agg [.str st, .str tk]] [] (fun av H' => av = .tuple [.sl 0 0 (reopL l st tk).length 10, .bool (reopB l st tk)] ∧ H' = [.row 38 (flatA encM (reopL l st tk))]) := by
  rcases ix0 l st tk with h | ⟨i, hi, h, _⟩
  · rw [reopL, reopB, h]; exact refReopN_v l st tk hl h
  · rw [reopL, reopB, h, if_pos (by omega), Int.toNat_natCast, decide_eq_true (show 0 ≤ (i : Int) by omega)]
    have h1 := weakMid (flatA encM (l.take i)) (flatA encM (l.drop (i + 1))) ([AV.str (l.getD i mD).st, AV.str (l.getD i mD).tk, AV.int .i64 (l.getD i mD).ver, .bool true, .int .i64 0, .int .i64 0, .str (ByteArray.mk #[]), .int .i64 0, .int .i64 0] ++ [AV.nilsl]) ([AV.str (l.getD i mD).st, AV.str (l.getD i mD).tk, AV.int .i64 (l.getD i mD).ver, .bool true, .int .i64 0, .int .i64 0, .str (ByteArray.mk #[]), .int .i64 0, .int .i64 0] ++ [AV.slv 0 1 []]) (refReopen_some_v l st tk hl i hi h) rfl (weakTen _ rfl)
    refine h1.mono fun a b ⟨e1, e2⟩ => ⟨by rw [e1, setL_len l i _ hi], ?_⟩
    rw [e2, setL, flat_mid]; rfl
theorem refCompRow_v (l : List Mk) (st tk : ByteArray) (hl : OkL l) (g : Mk) (hg : OkM g) : CallsV Try.prog 21 [marksV l, .agg [.str st, .str tk], .agg (gradeA g)] [] (fun av H' => av = .tuple [.sl 0 0 (compL l st tk g).length 10, .bool (compB l st tk)] ∧ H' = [.row 38 (flatA encM (compL l st tk g))]) := by
  rcases ix0 l st tk with h | ⟨i, hi, h, _⟩
  · rw [compL, compB, h]; exact refCompN_v l st tk hl h g
  · cases hp : (l.getD i mD).pend with
    | true =>
      rw [compL, compB, h, Int.toNat_natCast, hp, decide_eq_true (show 0 ≤ (i : Int) by omega)]
      refine (refComplete_some_v l st tk hl i hi h g hg hp).mono fun a b ⟨e1, e2⟩ => ⟨by rw [e1]; show _ = AV.tuple [.sl 0 0 (setL l i _).length 10, _]; rw [setL_len l i _ hi]; rfl, ?_⟩
      rw [e2]; show _ = [Blk.row 38 (flatA encM (setL l i _))]; rw [setL, flat_mid]; rfl
    | false => rw [compL, compB, h, Int.toNat_natCast, hp, decide_eq_true (show 0 ≤ (i : Int) by omega)]; exact refCompF_v l st tk hl i hi h g hp
end Go.Proofs.Ytlmkeoegammdjaa

namespace Go.Proofs.Ytlmkeoegammdjaa.V
open Go Go.RowKit
set_option linter.unusedSimpArgs false
set_option linter.unusedVariables false
section
variable {P : Program} {s : St} {Q : Exit → St → Prop} {ops : Array Oper}
theorem d_callo (i f : Nat) (as' : List AV) (x : AV) (t : TypeId) (xs : List AV) (m : Nat) (listed' : Array Bool) (s' : St) {n : Nat} {listed : Array Bool} (hn : m + 1 = n) (hr : Region.ready .any ops listed = [i]) (hc : (decide (i < ops.size) && (callable P f && (match calls (opAt ops i) with | some g => g == f | none => false))) = true) (ha : (callArgs (opAt ops i)).map s.ev = as') (hnid : as'.all noid1 = true) (hp : ∀ y ∈ xs, plain0 y = true)
    (hs : St.put ⟨s.t, s.H ++ [.row t xs]⟩ (opAt ops i).dst (ren (shf s.H.length) x) = s') (hl : listed.setIfInBounds i true = listed') (h : CallsV P f as' [] fun a b => a = x ∧ b = [.row t xs]) (k : RunD P ops Q m listed' s') : RunD P ops Q n listed s := by
  refine d_callb i f as' x [.row t xs] m listed' s' hn hr hc ha hnid ?_ hl h k
  subst hs
  simp only [List.map_cons, List.map_nil, shiftB, map_ren0 hp]
end
end Go.Proofs.Ytlmkeoegammdjaa.V

namespace Go.Proofs.Ytlmkeoegammdjaa
open Go Go.RowKit V
set_option linter.unusedSimpArgs false
set_option linter.unusedVariables false
set_option maxHeartbeats 20000000
theorem stepRow_v (l : List Mk) (x y : Int) (hx : 0 ≤ x ∧ x ≤ 255) (hl : OkL l) (hB : l.length ≤ 100000000) : CallsV Try.prog 8 [marksV l, .agg [.int .u8 x, .int .u8 y]] [] (fun av H' => av = .tuple [marksV (stepL l x y), .sl 0 0 (stepL l x y).length 10, .bool true] ∧ H' = [.row 38 (flatA encM (stepL l x y))]) := by
  have hm : 0 ≤ x.tmod 4 ∧ x.tmod 4 < 4 := ⟨Int.tmod_nonneg _ hx.1, Int.tmod_lt_of_pos _ (by decide)⟩
  have hz2 : 0 ≤ x.tdiv 4 := by rw [Int.tdiv_eq_ediv_of_nonneg hx.1]; omega
  have hw : IntKind.u8.wrap (x.tdiv 4) = x.tdiv 4 := wrap_u8 (by omega) (by rw [Int.tdiv_eq_ediv_of_nonneg hx.1]; omega)
  have hc1 := sub_v l (pst y) (ptk y) hl hB
  have hc2 := refSubRow_v l (pst y) (ptk y) hl hB
  have hc3 := reop_v l (pst y) (ptk y) hl
  have hc4 := refReopRow_v l (pst y) (ptk y) hl
  have hc5 := comp_v l (pst y) (ptk y) hl (g2m (gOf (x.tdiv 4))) (g2m_ok _)
  have hc6 := refCompRow_v l (pst y) (ptk y) hl (g2m (gOf (x.tdiv 4))) (g2m_ok _)
  have hp := pair_v y
  have hg := grade_v (x.tdiv 4) hz2
  have e : stepL l x y = (if x.tmod 4 = 0 ∨ x.tmod 4 = 1 then subL l (pst y) (ptk y) else if x.tmod 4 = 2 then reopL l (pst y) (ptk y) else compL l (pst y) (ptk y) (g2m (gOf (x.tdiv 4)))) := rfl
  generalize subL l (pst y) (ptk y) = a1 at *
  generalize reopL l (pst y) (ptk y) = a2 at *
  generalize compL l (pst y) (ptk y) (g2m (gOf (x.tdiv 4))) = a3 at *
  generalize reopB l (pst y) (ptk y) = b2 at *
  generalize compB l (pst y) (ptk y) = b3 at *
  generalize stepL l x y = z at *
  generalize pst y = s1 at *
  generalize ptk y = s2 at *
  generalize gOf (x.tdiv 4) = gg at *
  refine callsV_at Try.func8 (by kernel_rfl) ?_
  have noev := trivial
  rcases (show x.tmod 4 = 0 ∨ x.tmod 4 = 1 ∨ x.tmod 4 = 2 ∨ x.tmod 4 = 3 by omega) with hk | hk | hk | hk
  · rw [if_pos (Or.inl hk)] at e
    subst e
    refine Q_seq ?_
    let z1 : List (Nat × AV) := [(0, marksV l), (1, .agg [.int .u8 x, .int .u8 y]), (3, .ptr 0 0), (4, .nilsl), (5, .nilsl), (6, .bool false)]
    refine Q_run [0, 1, 3, 4, 5, 6, 7, 8, 9, 10, 11, 12, 13, 14, 15, 21, 22, 31] (stOf 75 z1 [.row 26 [.int .u8 x, .int .u8 y]]) ?_
    refine k_then ?_
    refine Q_seq ?_
    refine Q_reg ?_
    refine N_run 1 ((0 : Int) ≤ (1 : Int) ∧ (1 : Int) < (↑2 : Int)) [1, 2, 3, 4] (stOf 75 (z1 ++ [(16, .ptr 0 1)]) [.row 26 [.int .u8 x, .int .u8 y]]) (by exact ⟨by omega, by omega⟩) ?_
    refine N_run 1 (1 ≤ 1) [2, 3, 4] (stOf 75 (z1 ++ [(16, .ptr 0 1), (17, .int .u8 y)]) [.row 26 [.int .u8 x, .int .u8 y]]) (by exact by omega) ?_
    refine n_callp 12 [AV.int .u8 y] (AV.agg [AV.str s1, AV.str s2]) (stOf 75 (z1 ++ [(16, .ptr 0 1), (17, .int .u8 y), (18, .agg [.str s1, .str s2])]) [.row 26 [.int .u8 x, .int .u8 y]]) (by kernel_rfl) (by kernel_rfl) (by kernel_rfl) (by kernel_rfl) (hp ) ?_
    refine N_run 2 (2 ≤ 2) [] (stOf 75 (z1 ++ [(7, .ptr 1 0), (16, .ptr 0 1), (17, .int .u8 y), (18, .agg [.str s1, .str s2])]) [.row 26 [.int .u8 x, .int .u8 y], .row 31 [.str s1, .str s2]]) (by exact by omega) ?_
    refine N_sel [0, 1, 3, 4, 5, 6, 7, 8, 9, 10, 11, 12, 13, 14, 15, 21, 22, 31] (stOf 75 (z1 ++ [(7, .ptr 1 0)]) [.row 26 [.int .u8 x, .int .u8 y], .row 31 [.str s1, .str s2]]) ?_
    refine k_then ?_
    refine Q_seq ?_
    refine Q_seq ?_
    refine Q_reg ?_
    refine N_run 1 ((0 : Int) ≤ (0 : Int) ∧ (0 : Int) < (↑2 : Int)) [1, 2] (stOf 75 (z1 ++ [(7, .ptr 1 0), (19, .ptr 0 0)]) [.row 26 [.int .u8 x, .int .u8 y], .row 31 [.str s1, .str s2]]) (by exact ⟨by omega, by omega⟩) ?_
    refine N_run 1 (1 ≤ 2) [2] (stOf 75 (z1 ++ [(7, .ptr 1 0), (19, .ptr 0 0), (20, .int .u8 x)]) [.row 26 [.int .u8 x, .int .u8 y], .row 31 [.str s1, .str s2]]) (by exact by omega) ?_
    refine N_run 1 ((4 : Int) ≠ (0 : Int)) [] (stOf 75 (z1 ++ [(7, .ptr 1 0), (19, .ptr 0 0), (20, .int .u8 x), (21, .int .u8 (x.tmod (4 : Int)))]) [.row 26 [.int .u8 x, .int .u8 y], .row 31 [.str s1, .str s2]]) (by exact by omega) ?_
    refine n_set 21 (AV.int .u8 (x.tmod (4 : Int))) (AV.int .u8 0) (by kernel_rfl) (by rw [hk] <;> rfl) ?_
    refine N_sel [0, 1, 3, 4, 5, 6, 7, 8, 9, 10, 11, 12, 13, 14, 15, 21, 22, 31] (stOf 75 (z1 ++ [(7, .ptr 1 0), (21, .int .u8 0)]) [.row 26 [.int .u8 x, .int .u8 y], .row 31 [.str s1, .str s2]]) ?_
    refine k_then ?_
    refine q_block (by kernel_rfl) ?_
    refine Q_seq ?_
    refine Q_seq ?_
    refine Q_run [0, 1, 3, 4, 5, 6, 7, 8, 9, 10, 11, 12, 13, 14, 15, 21, 22, 31] (stOf 75 (z1 ++ [(7, .ptr 1 0), (21, .int .u8 0), (22, .bool true)]) [.row 26 [.int .u8 x, .int .u8 y], .row 31 [.str s1, .str s2]]) ?_
    refine k_then ?_
    refine q_yes (by kernel_rfl) true (by kernel_rfl) rfl ?_
    refine q_skip (by kernel_rfl) ?_
    refine k_then ?_
    refine q_yes (by kernel_rfl) true (by kernel_rfl) rfl ?_
    refine Q_seq ?_
    refine q_draw (by kernel_rfl) (by kernel_rfl) ?_
    refine d_takes [0, 1, 3, 4] (2 ≤ 2 ∧ 2 ≤ 2) 5 #[true, true, false, true, true, false, false, false, false] (stOf 75 (z1 ++ [(7, .ptr 1 0), (21, .int .u8 0), (22, .bool true), (25, marksV l), (26, .agg [.str s1, .str s2]), (28, marksV l), (29, .agg [.str s1, .str s2])]) [.row 26 [.int .u8 x, .int .u8 y], .row 31 [.str s1, .str s2]]) (by kernel_rfl) (by kernel_rfl) (by kernel_rfl) (by exact ⟨by omega, by omega⟩) ?_
    refine d_callp 2 23 [marksV l, AV.agg [AV.str s1, AV.str s2]] (marksV z) 4 #[true, true, true, true, true, false, false, false, false] (stOf 75 (z1 ++ [(7, .ptr 1 0), (21, .int .u8 0), (22, .bool true), (25, marksV l), (26, .agg [.str s1, .str s2]), (27, marksV z), (28, marksV l), (29, .agg [.str s1, .str s2])]) [.row 26 [.int .u8 x, .int .u8 y], .row 31 [.str s1, .str s2]]) (by kernel_rfl) (by kernel_rfl) (by kernel_rfl) (by kernel_rfl) (by kernel_rfl) (by kernel_rfl) (by kernel_rfl) (hc1 ) ?_
    refine d_callo 5 24 [marksV l, .agg [.str s1, .str s2]] (.sl 0 0 z.length 10) 38 (flatA encM z) 3 _ _ (by kernel_rfl) (by kernel_rfl) (by kernel_rfl) (by kernel_rfl) (by kernel_rfl) (plainM z) rfl rfl hc2 ?_
    refine d_takes [6, 7, 8] (True) 0 #[true, true, true, true, true, true, true, true, true] (stOf 75 [(0, marksV l), (1, .agg [.int .u8 x, .int .u8 y]), (3, .ptr 0 0), (4, marksV z), (5, .sl 2 0 z.length 10), (6, .bool true), (7, .ptr 1 0), (21, .int .u8 0), (22, .bool true), (25, marksV l), (26, .agg [.str s1, .str s2]), (27, marksV z), (28, marksV l), (29, .agg [.str s1, .str s2]), (30, .sl 2 0 z.length 10)] [.row 26 [.int .u8 x, .int .u8 y], .row 31 [.str s1, .str s2], .row 38 (flatA encM z)]) (by kernel_rfl) (by kernel_rfl) (by kernel_rfl) trivial ?_
    refine d_done [0, 1, 3, 4, 5, 6, 7, 8, 9, 10, 11, 12, 13, 14, 15, 21, 22, 31] (stOf 75 [(0, marksV l), (1, .agg [.int .u8 x, .int .u8 y]), (3, .ptr 0 0), (4, marksV z), (5, .sl 2 0 z.length 10), (6, .bool true), (7, .ptr 1 0), (21, .int .u8 0), (22, .bool true)] [.row 26 [.int .u8 x, .int .u8 y], .row 31 [.str s1, .str s2], .row 38 (flatA encM z)]) (by kernel_rfl) (by kernel_rfl) ?_
    refine k_then ?_
    refine q_ret (by kernel_rfl) ?_
    refine k_blockr ?_
    refine k_thenr ?_
    exact k_fin True (.tuple [marksV z, .sl 2 0 z.length 10, .bool true]) [2] [.row 38 (flatA encM z)] (.tuple [marksV z, .sl 0 0 z.length 10, .bool true]) (by kernel_rfl) (by kernel_rfl) (by kernel_rfl) trivial (keep_row 2 38 _ rfl (noidM z)) ⟨rfl, rfl⟩
  · rw [if_pos (Or.inr hk)] at e
    subst e
    refine Q_seq ?_
    let z2 : List (Nat × AV) := [(0, marksV l), (1, .agg [.int .u8 x, .int .u8 y]), (3, .ptr 0 0), (4, .nilsl), (5, .nilsl), (6, .bool false)]
    refine Q_run [0, 1, 3, 4, 5, 6, 7, 8, 9, 10, 11, 12, 13, 14, 15, 21, 22, 31] (stOf 75 z2 [.row 26 [.int .u8 x, .int .u8 y]]) ?_
    refine k_then ?_
    refine Q_seq ?_
    refine Q_reg ?_
    refine N_run 1 ((0 : Int) ≤ (1 : Int) ∧ (1 : Int) < (↑2 : Int)) [1, 2, 3, 4] (stOf 75 (z2 ++ [(16, .ptr 0 1)]) [.row 26 [.int .u8 x, .int .u8 y]]) (by exact ⟨by omega, by omega⟩) ?_
    refine N_run 1 (1 ≤ 1) [2, 3, 4] (stOf 75 (z2 ++ [(16, .ptr 0 1), (17, .int .u8 y)]) [.row 26 [.int .u8 x, .int .u8 y]]) (by exact by omega) ?_
    refine n_callp 12 [AV.int .u8 y] (AV.agg [AV.str s1, AV.str s2]) (stOf 75 (z2 ++ [(16, .ptr 0 1), (17, .int .u8 y), (18, .agg [.str s1, .str s2])]) [.row 26 [.int .u8 x, .int .u8 y]]) (by kernel_rfl) (by kernel_rfl) (by kernel_rfl) (by kernel_rfl) (hp ) ?_
    refine N_run 2 (2 ≤ 2) [] (stOf 75 (z2 ++ [(7, .ptr 1 0), (16, .ptr 0 1), (17, .int .u8 y), (18, .agg [.str s1, .str s2])]) [.row 26 [.int .u8 x, .int .u8 y], .row 31 [.str s1, .str s2]]) (by exact by omega) ?_
    refine N_sel [0, 1, 3, 4, 5, 6, 7, 8, 9, 10, 11, 12, 13, 14, 15, 21, 22, 31] (stOf 75 (z2 ++ [(7, .ptr 1 0)]) [.row 26 [.int .u8 x, .int .u8 y], .row 31 [.str s1, .str s2]]) ?_
    refine k_then ?_
    refine Q_seq ?_
    refine Q_seq ?_
    refine Q_reg ?_
    refine N_run 1 ((0 : Int) ≤ (0 : Int) ∧ (0 : Int) < (↑2 : Int)) [1, 2] (stOf 75 (z2 ++ [(7, .ptr 1 0), (19, .ptr 0 0)]) [.row 26 [.int .u8 x, .int .u8 y], .row 31 [.str s1, .str s2]]) (by exact ⟨by omega, by omega⟩) ?_
    refine N_run 1 (1 ≤ 2) [2] (stOf 75 (z2 ++ [(7, .ptr 1 0), (19, .ptr 0 0), (20, .int .u8 x)]) [.row 26 [.int .u8 x, .int .u8 y], .row 31 [.str s1, .str s2]]) (by exact by omega) ?_
    refine N_run 1 ((4 : Int) ≠ (0 : Int)) [] (stOf 75 (z2 ++ [(7, .ptr 1 0), (19, .ptr 0 0), (20, .int .u8 x), (21, .int .u8 (x.tmod (4 : Int)))]) [.row 26 [.int .u8 x, .int .u8 y], .row 31 [.str s1, .str s2]]) (by exact by omega) ?_
    refine n_set 21 (AV.int .u8 (x.tmod (4 : Int))) (AV.int .u8 1) (by kernel_rfl) (by rw [hk] <;> rfl) ?_
    refine N_sel [0, 1, 3, 4, 5, 6, 7, 8, 9, 10, 11, 12, 13, 14, 15, 21, 22, 31] (stOf 75 (z2 ++ [(7, .ptr 1 0), (21, .int .u8 1)]) [.row 26 [.int .u8 x, .int .u8 y], .row 31 [.str s1, .str s2]]) ?_
    refine k_then ?_
    refine q_block (by kernel_rfl) ?_
    refine Q_seq ?_
    refine Q_seq ?_
    refine Q_run [0, 1, 3, 4, 5, 6, 7, 8, 9, 10, 11, 12, 13, 14, 15, 21, 22, 31] (stOf 75 (z2 ++ [(7, .ptr 1 0), (21, .int .u8 1), (22, .bool false)]) [.row 26 [.int .u8 x, .int .u8 y], .row 31 [.str s1, .str s2]]) ?_
    refine k_then ?_
    refine q_no (by kernel_rfl) false (by kernel_rfl) rfl ?_
    refine Q_run [0, 1, 3, 4, 5, 6, 7, 8, 9, 10, 11, 12, 13, 14, 15, 21, 22, 31] (stOf 75 (z2 ++ [(7, .ptr 1 0), (21, .int .u8 1), (22, .bool true)]) [.row 26 [.int .u8 x, .int .u8 y], .row 31 [.str s1, .str s2]]) ?_
    refine k_then ?_
    refine q_yes (by kernel_rfl) true (by kernel_rfl) rfl ?_
    refine Q_seq ?_
    refine q_draw (by kernel_rfl) (by kernel_rfl) ?_
    refine d_takes [0, 1, 3, 4] (2 ≤ 2 ∧ 2 ≤ 2) 5 #[true, true, false, true, true, false, false, false, false] (stOf 75 (z2 ++ [(7, .ptr 1 0), (21, .int .u8 1), (22, .bool true), (25, marksV l), (26, .agg [.str s1, .str s2]), (28, marksV l), (29, .agg [.str s1, .str s2])]) [.row 26 [.int .u8 x, .int .u8 y], .row 31 [.str s1, .str s2]]) (by kernel_rfl) (by kernel_rfl) (by kernel_rfl) (by exact ⟨by omega, by omega⟩) ?_
    refine d_callp 2 23 [marksV l, AV.agg [AV.str s1, AV.str s2]] (marksV z) 4 #[true, true, true, true, true, false, false, false, false] (stOf 75 (z2 ++ [(7, .ptr 1 0), (21, .int .u8 1), (22, .bool true), (25, marksV l), (26, .agg [.str s1, .str s2]), (27, marksV z), (28, marksV l), (29, .agg [.str s1, .str s2])]) [.row 26 [.int .u8 x, .int .u8 y], .row 31 [.str s1, .str s2]]) (by kernel_rfl) (by kernel_rfl) (by kernel_rfl) (by kernel_rfl) (by kernel_rfl) (by kernel_rfl) (by kernel_rfl) (hc1 ) ?_
    refine d_callo 5 24 [marksV l, .agg [.str s1, .str s2]] (.sl 0 0 z.length 10) 38 (flatA encM z) 3 _ _ (by kernel_rfl) (by kernel_rfl) (by kernel_rfl) (by kernel_rfl) (by kernel_rfl) (plainM z) rfl rfl hc2 ?_
    refine d_takes [6, 7, 8] (True) 0 #[true, true, true, true, true, true, true, true, true] (stOf 75 [(0, marksV l), (1, .agg [.int .u8 x, .int .u8 y]), (3, .ptr 0 0), (4, marksV z), (5, .sl 2 0 z.length 10), (6, .bool true), (7, .ptr 1 0), (21, .int .u8 1), (22, .bool true), (25, marksV l), (26, .agg [.str s1, .str s2]), (27, marksV z), (28, marksV l), (29, .agg [.str s1, .str s2]), (30, .sl 2 0 z.length 10)] [.row 26 [.int .u8 x, .int .u8 y], .row 31 [.str s1, .str s2], .row 38 (flatA encM z)]) (by kernel_rfl) (by kernel_rfl) (by kernel_rfl) trivial ?_
    refine d_done [0, 1, 3, 4, 5, 6, 7, 8, 9, 10, 11, 12, 13, 14, 15, 21, 22, 31] (stOf 75 [(0, marksV l), (1, .agg [.int .u8 x, .int .u8 y]), (3, .ptr 0 0), (4, marksV z), (5, .sl 2 0 z.length 10), (6, .bool true), (7, .ptr 1 0), (21, .int .u8 1), (22, .bool true)] [.row 26 [.int .u8 x, .int .u8 y], .row 31 [.str s1, .str s2], .row 38 (flatA encM z)]) (by kernel_rfl) (by kernel_rfl) ?_
    refine k_then ?_
    refine q_ret (by kernel_rfl) ?_
    refine k_blockr ?_
    refine k_thenr ?_
    exact k_fin True (.tuple [marksV z, .sl 2 0 z.length 10, .bool true]) [2] [.row 38 (flatA encM z)] (.tuple [marksV z, .sl 0 0 z.length 10, .bool true]) (by kernel_rfl) (by kernel_rfl) (by kernel_rfl) trivial (keep_row 2 38 _ rfl (noidM z)) ⟨rfl, rfl⟩
  · rw [if_neg (by omega), if_pos hk] at e
    subst e
    refine Q_seq ?_
    let z3 : List (Nat × AV) := [(0, marksV l), (1, .agg [.int .u8 x, .int .u8 y]), (3, .ptr 0 0), (4, .nilsl), (5, .nilsl), (6, .bool false)]
    refine Q_run [0, 1, 3, 4, 5, 6, 7, 8, 9, 10, 11, 12, 13, 14, 15, 21, 22, 31] (stOf 75 z3 [.row 26 [.int .u8 x, .int .u8 y]]) ?_
    refine k_then ?_
    refine Q_seq ?_
    refine Q_reg ?_
    refine N_run 1 ((0 : Int) ≤ (1 : Int) ∧ (1 : Int) < (↑2 : Int)) [1, 2, 3, 4] (stOf 75 (z3 ++ [(16, .ptr 0 1)]) [.row 26 [.int .u8 x, .int .u8 y]]) (by exact ⟨by omega, by omega⟩) ?_
    refine N_run 1 (1 ≤ 1) [2, 3, 4] (stOf 75 (z3 ++ [(16, .ptr 0 1), (17, .int .u8 y)]) [.row 26 [.int .u8 x, .int .u8 y]]) (by exact by omega) ?_
    refine n_callp 12 [AV.int .u8 y] (AV.agg [AV.str s1, AV.str s2]) (stOf 75 (z3 ++ [(16, .ptr 0 1), (17, .int .u8 y), (18, .agg [.str s1, .str s2])]) [.row 26 [.int .u8 x, .int .u8 y]]) (by kernel_rfl) (by kernel_rfl) (by kernel_rfl) (by kernel_rfl) (hp ) ?_
    refine N_run 2 (2 ≤ 2) [] (stOf 75 (z3 ++ [(7, .ptr 1 0), (16, .ptr 0 1), (17, .int .u8 y), (18, .agg [.str s1, .str s2])]) [.row 26 [.int .u8 x, .int .u8 y], .row 31 [.str s1, .str s2]]) (by exact by omega) ?_
    refine N_sel [0, 1, 3, 4, 5, 6, 7, 8, 9, 10, 11, 12, 13, 14, 15, 21, 22, 31] (stOf 75 (z3 ++ [(7, .ptr 1 0)]) [.row 26 [.int .u8 x, .int .u8 y], .row 31 [.str s1, .str s2]]) ?_
    refine k_then ?_
    refine Q_seq ?_
    refine Q_seq ?_
    refine Q_reg ?_
    refine N_run 1 ((0 : Int) ≤ (0 : Int) ∧ (0 : Int) < (↑2 : Int)) [1, 2] (stOf 75 (z3 ++ [(7, .ptr 1 0), (19, .ptr 0 0)]) [.row 26 [.int .u8 x, .int .u8 y], .row 31 [.str s1, .str s2]]) (by exact ⟨by omega, by omega⟩) ?_
    refine N_run 1 (1 ≤ 2) [2] (stOf 75 (z3 ++ [(7, .ptr 1 0), (19, .ptr 0 0), (20, .int .u8 x)]) [.row 26 [.int .u8 x, .int .u8 y], .row 31 [.str s1, .str s2]]) (by exact by omega) ?_
    refine N_run 1 ((4 : Int) ≠ (0 : Int)) [] (stOf 75 (z3 ++ [(7, .ptr 1 0), (19, .ptr 0 0), (20, .int .u8 x), (21, .int .u8 (x.tmod (4 : Int)))]) [.row 26 [.int .u8 x, .int .u8 y], .row 31 [.str s1, .str s2]]) (by exact by omega) ?_
    refine n_set 21 (AV.int .u8 (x.tmod (4 : Int))) (AV.int .u8 2) (by kernel_rfl) (by rw [hk] <;> rfl) ?_
    refine N_sel [0, 1, 3, 4, 5, 6, 7, 8, 9, 10, 11, 12, 13, 14, 15, 21, 22, 31] (stOf 75 (z3 ++ [(7, .ptr 1 0), (21, .int .u8 2)]) [.row 26 [.int .u8 x, .int .u8 y], .row 31 [.str s1, .str s2]]) ?_
    refine k_then ?_
    refine q_block (by kernel_rfl) ?_
    refine Q_seq ?_
    refine Q_seq ?_
    refine Q_run [0, 1, 3, 4, 5, 6, 7, 8, 9, 10, 11, 12, 13, 14, 15, 21, 22, 31] (stOf 75 (z3 ++ [(7, .ptr 1 0), (21, .int .u8 2), (22, .bool false)]) [.row 26 [.int .u8 x, .int .u8 y], .row 31 [.str s1, .str s2]]) ?_
    refine k_then ?_
    refine q_no (by kernel_rfl) false (by kernel_rfl) rfl ?_
    refine Q_run [0, 1, 3, 4, 5, 6, 7, 8, 9, 10, 11, 12, 13, 14, 15, 21, 22, 31] (stOf 75 (z3 ++ [(7, .ptr 1 0), (21, .int .u8 2), (22, .bool false)]) [.row 26 [.int .u8 x, .int .u8 y], .row 31 [.str s1, .str s2]]) ?_
    refine k_then ?_
    refine q_no (by kernel_rfl) false (by kernel_rfl) rfl ?_
    refine Q_seq ?_
    refine Q_run [0, 1, 3, 4, 5, 6, 7, 8, 9, 10, 11, 12, 13, 14, 15, 21, 22, 31] (stOf 75 (z3 ++ [(7, .ptr 1 0), (21, .int .u8 2), (22, .bool false), (31, .bool true)]) [.row 26 [.int .u8 x, .int .u8 y], .row 31 [.str s1, .str s2]]) ?_
    refine k_then ?_
    refine q_yes (by kernel_rfl) true (by kernel_rfl) rfl ?_
    refine Q_seq ?_
    refine Q_reg ?_
    refine N_run 2 (2 ≤ 2) [2, 3, 4, 5, 6, 7] (stOf 75 (z3 ++ [(7, .ptr 1 0), (21, .int .u8 2), (22, .bool false), (31, .bool true), (34, marksV l), (35, .agg [.str s1, .str s2])]) [.row 26 [.int .u8 x, .int .u8 y], .row 31 [.str s1, .str s2]]) (by exact by omega) ?_
    refine n_callp 18 [marksV l, AV.agg [AV.str s1, AV.str s2]] (AV.tuple [marksV z, AV.bool b2]) (stOf 75 (z3 ++ [(7, .ptr 1 0), (21, .int .u8 2), (22, .bool false), (31, .bool true), (34, marksV l), (35, .agg [.str s1, .str s2]), (36, .tuple [marksV z, .bool b2])]) [.row 26 [.int .u8 x, .int .u8 y], .row 31 [.str s1, .str s2]]) (by kernel_rfl) (by kernel_rfl) (by kernel_rfl) (by kernel_rfl) (hc3 ) ?_
    refine N_run 5 (True) [] (stOf 75 (z3 ++ [(7, .ptr 1 0), (8, marksV z), (9, .bool b2), (21, .int .u8 2), (22, .bool false), (31, .bool true), (33, .tuple [marksV z, .bool b2]), (34, marksV l), (35, .agg [.str s1, .str s2]), (36, .tuple [marksV z, .bool b2]), (37, marksV z), (38, .bool b2)]) [.row 26 [.int .u8 x, .int .u8 y], .row 31 [.str s1, .str s2]]) trivial ?_
    refine N_sel [0, 1, 3, 4, 5, 6, 7, 8, 9, 10, 11, 12, 13, 14, 15, 21, 22, 31] (stOf 75 (z3 ++ [(7, .ptr 1 0), (8, marksV z), (9, .bool b2), (21, .int .u8 2), (22, .bool false), (31, .bool true)]) [.row 26 [.int .u8 x, .int .u8 y], .row 31 [.str s1, .str s2]]) ?_
    refine k_then ?_
    refine Q_seq ?_
    refine Q_reg ?_
    refine N_run 2 (2 ≤ 2) [2, 3, 4, 5, 6, 7] (stOf 75 (z3 ++ [(7, .ptr 1 0), (8, marksV z), (9, .bool b2), (21, .int .u8 2), (22, .bool false), (31, .bool true), (40, marksV l), (41, .agg [.str s1, .str s2])]) [.row 26 [.int .u8 x, .int .u8 y], .row 31 [.str s1, .str s2]]) (by exact by omega) ?_
    refine n_callo 19 [marksV l, .agg [.str s1, .str s2]] (.tuple [.sl 0 0 z.length 10, .bool b2]) 38 (flatA encM z) _ (by kernel_rfl) (by kernel_rfl) (by kernel_rfl) (plainM z) rfl hc4 ?_
    have hbb : (b2 == b2) = true := by simp
    refine N_run 5 (True) [] (stOf 75 (z3 ++ [(7, .ptr 1 0), (8, marksV z), (9, .bool b2), (10, .sl 2 0 z.length 10), (11, .bool b2), (21, .int .u8 2), (22, .bool false), (31, .bool true), (39, .tuple [.sl 2 0 z.length 10, .bool b2]), (40, marksV l), (41, .agg [.str s1, .str s2]), (42, .tuple [.sl 2 0 z.length 10, .bool b2]), (43, .sl 2 0 z.length 10), (44, .bool b2)]) [.row 26 [.int .u8 x, .int .u8 y], .row 31 [.str s1, .str s2], .row 38 (flatA encM z)]) trivial ?_
    refine N_sel [0, 1, 3, 4, 5, 6, 7, 8, 9, 10, 11, 12, 13, 14, 15, 21, 22, 31] (stOf 75 (z3 ++ [(7, .ptr 1 0), (8, marksV z), (9, .bool b2), (10, .sl 2 0 z.length 10), (11, .bool b2), (21, .int .u8 2), (22, .bool false), (31, .bool true)]) [.row 26 [.int .u8 x, .int .u8 y], .row 31 [.str s1, .str s2], .row 38 (flatA encM z)]) ?_
    refine k_then ?_
    refine Q_seq ?_
    refine Q_run [0, 1, 3, 4, 5, 6, 7, 8, 9, 10, 11, 12, 13, 14, 15, 21, 22, 31] (stOf 75 [(0, marksV l), (1, .agg [.int .u8 x, .int .u8 y]), (3, .ptr 0 0), (4, marksV z), (5, .sl 2 0 z.length 10), (6, .bool (b2 == b2)), (7, .ptr 1 0), (8, marksV z), (9, .bool b2), (10, .sl 2 0 z.length 10), (11, .bool b2), (21, .int .u8 2), (22, .bool false), (31, .bool true)] [.row 26 [.int .u8 x, .int .u8 y], .row 31 [.str s1, .str s2], .row 38 (flatA encM z)]) ?_
    refine k_then ?_
    refine q_set 6 (AV.bool (b2 == b2)) (AV.bool true) (by kernel_rfl) (by rw [hbb] <;> rfl) ?_
    refine q_ret (by kernel_rfl) ?_
    refine k_blockr ?_
    refine k_thenr ?_
    exact k_fin True (.tuple [marksV z, .sl 2 0 z.length 10, .bool true]) [2] [.row 38 (flatA encM z)] (.tuple [marksV z, .sl 0 0 z.length 10, .bool true]) (by kernel_rfl) (by kernel_rfl) (by kernel_rfl) trivial (keep_row 2 38 _ rfl (noidM z)) ⟨rfl, rfl⟩
  · rw [if_neg (by omega), if_neg (by omega)] at e
    subst e
    refine Q_seq ?_
    let z4 : List (Nat × AV) := [(0, marksV l), (1, .agg [.int .u8 x, .int .u8 y]), (3, .ptr 0 0), (4, .nilsl), (5, .nilsl), (6, .bool false)]
    refine Q_run [0, 1, 3, 4, 5, 6, 7, 8, 9, 10, 11, 12, 13, 14, 15, 21, 22, 31] (stOf 75 z4 [.row 26 [.int .u8 x, .int .u8 y]]) ?_
    refine k_then ?_
    refine Q_seq ?_
    refine Q_reg ?_
    refine N_run 1 ((0 : Int) ≤ (1 : Int) ∧ (1 : Int) < (↑2 : Int)) [1, 2, 3, 4] (stOf 75 (z4 ++ [(16, .ptr 0 1)]) [.row 26 [.int .u8 x, .int .u8 y]]) (by exact ⟨by omega, by omega⟩) ?_
    refine N_run 1 (1 ≤ 1) [2, 3, 4] (stOf 75 (z4 ++ [(16, .ptr 0 1), (17, .int .u8 y)]) [.row 26 [.int .u8 x, .int .u8 y]]) (by exact by omega) ?_
    refine n_callp 12 [AV.int .u8 y] (AV.agg [AV.str s1, AV.str s2]) (stOf 75 (z4 ++ [(16, .ptr 0 1), (17, .int .u8 y), (18, .agg [.str s1, .str s2])]) [.row 26 [.int .u8 x, .int .u8 y]]) (by kernel_rfl) (by kernel_rfl) (by kernel_rfl) (by kernel_rfl) (hp ) ?_
    refine N_run 2 (2 ≤ 2) [] (stOf 75 (z4 ++ [(7, .ptr 1 0), (16, .ptr 0 1), (17, .int .u8 y), (18, .agg [.str s1, .str s2])]) [.row 26 [.int .u8 x, .int .u8 y], .row 31 [.str s1, .str s2]]) (by exact by omega) ?_
    refine N_sel [0, 1, 3, 4, 5, 6, 7, 8, 9, 10, 11, 12, 13, 14, 15, 21, 22, 31] (stOf 75 (z4 ++ [(7, .ptr 1 0)]) [.row 26 [.int .u8 x, .int .u8 y], .row 31 [.str s1, .str s2]]) ?_
    refine k_then ?_
    refine Q_seq ?_
    refine Q_seq ?_
    refine Q_reg ?_
    refine N_run 1 ((0 : Int) ≤ (0 : Int) ∧ (0 : Int) < (↑2 : Int)) [1, 2] (stOf 75 (z4 ++ [(7, .ptr 1 0), (19, .ptr 0 0)]) [.row 26 [.int .u8 x, .int .u8 y], .row 31 [.str s1, .str s2]]) (by exact ⟨by omega, by omega⟩) ?_
    refine N_run 1 (1 ≤ 2) [2] (stOf 75 (z4 ++ [(7, .ptr 1 0), (19, .ptr 0 0), (20, .int .u8 x)]) [.row 26 [.int .u8 x, .int .u8 y], .row 31 [.str s1, .str s2]]) (by exact by omega) ?_
    refine N_run 1 ((4 : Int) ≠ (0 : Int)) [] (stOf 75 (z4 ++ [(7, .ptr 1 0), (19, .ptr 0 0), (20, .int .u8 x), (21, .int .u8 (x.tmod (4 : Int)))]) [.row 26 [.int .u8 x, .int .u8 y], .row 31 [.str s1, .str s2]]) (by exact by omega) ?_
    refine n_set 21 (AV.int .u8 (x.tmod (4 : Int))) (AV.int .u8 3) (by kernel_rfl) (by rw [hk] <;> rfl) ?_
    refine N_sel [0, 1, 3, 4, 5, 6, 7, 8, 9, 10, 11, 12, 13, 14, 15, 21, 22, 31] (stOf 75 (z4 ++ [(7, .ptr 1 0), (21, .int .u8 3)]) [.row 26 [.int .u8 x, .int .u8 y], .row 31 [.str s1, .str s2]]) ?_
    refine k_then ?_
    refine q_block (by kernel_rfl) ?_
    refine Q_seq ?_
    refine Q_seq ?_
    refine Q_run [0, 1, 3, 4, 5, 6, 7, 8, 9, 10, 11, 12, 13, 14, 15, 21, 22, 31] (stOf 75 (z4 ++ [(7, .ptr 1 0), (21, .int .u8 3), (22, .bool false)]) [.row 26 [.int .u8 x, .int .u8 y], .row 31 [.str s1, .str s2]]) ?_
    refine k_then ?_
    refine q_no (by kernel_rfl) false (by kernel_rfl) rfl ?_
    refine Q_run [0, 1, 3, 4, 5, 6, 7, 8, 9, 10, 11, 12, 13, 14, 15, 21, 22, 31] (stOf 75 (z4 ++ [(7, .ptr 1 0), (21, .int .u8 3), (22, .bool false)]) [.row 26 [.int .u8 x, .int .u8 y], .row 31 [.str s1, .str s2]]) ?_
    refine k_then ?_
    refine q_no (by kernel_rfl) false (by kernel_rfl) rfl ?_
    refine Q_seq ?_
    refine Q_run [0, 1, 3, 4, 5, 6, 7, 8, 9, 10, 11, 12, 13, 14, 15, 21, 22, 31] (stOf 75 (z4 ++ [(7, .ptr 1 0), (21, .int .u8 3), (22, .bool false), (31, .bool false)]) [.row 26 [.int .u8 x, .int .u8 y], .row 31 [.str s1, .str s2]]) ?_
    refine k_then ?_
    refine q_no (by kernel_rfl) false (by kernel_rfl) rfl ?_
    refine q_skip (by kernel_rfl) ?_
    refine k_block ?_
    refine k_then ?_
    refine Q_seq ?_
    refine q_draw (by kernel_rfl) (by kernel_rfl) ?_
    refine d_takes [0, 1, 2] (2 ≤ 2 ∧ (0 : Int) ≤ (0 : Int) ∧ (0 : Int) < (↑2 : Int)) 9 #[true, true, true, false, false, false, false, false, false, false, false, false] (stOf 75 (z4 ++ [(7, .ptr 1 0), (21, .int .u8 3), (22, .bool false), (31, .bool false), (51, marksV l), (52, .agg [.str s1, .str s2]), (53, .ptr 0 0)]) [.row 26 [.int .u8 x, .int .u8 y], .row 31 [.str s1, .str s2]]) (by kernel_rfl) (by kernel_rfl) (by kernel_rfl) (by exact ⟨by omega, by omega, by omega⟩) ?_
    refine d_takes [3, 4] (1 ≤ 2 ∧ (4 : Int) ≠ (0 : Int)) 7 #[true, true, true, true, true, false, false, false, false, false, false, false] (stOf 75 (z4 ++ [(7, .ptr 1 0), (21, .int .u8 3), (22, .bool false), (31, .bool false), (51, marksV l), (52, .agg [.str s1, .str s2]), (53, .ptr 0 0), (54, .int .u8 x), (55, .int .u8 (IntKind.u8.wrap (x.tdiv (4 : Int))))]) [.row 26 [.int .u8 x, .int .u8 y], .row 31 [.str s1, .str s2]]) (by kernel_rfl) (by kernel_rfl) (by kernel_rfl) (by exact ⟨by omega, by omega⟩) ?_
    refine d_set 55 (AV.int .u8 (IntKind.u8.wrap (x.tdiv (4 : Int)))) (AV.int .u8 (x.tdiv (4 : Int))) (by kernel_rfl) (by rw [hw] <;> rfl) ?_
    refine d_callp 5 25 [AV.int .u8 (x.tdiv (4 : Int))] (AV.agg [AV.int .i64 gg.kind, AV.int .i64 gg.err, AV.str gg.path, AV.int .i64 gg.at', AV.int .i64 gg.score, AV.slv gg.verd.length 1 (List.map (AV.int .i64) gg.verd)]) 6 #[true, true, true, true, true, true, false, false, false, false, false, false] (stOf 75 (z4 ++ [(7, .ptr 1 0), (21, .int .u8 3), (22, .bool false), (31, .bool false), (51, marksV l), (52, .agg [.str s1, .str s2]), (53, .ptr 0 0), (54, .int .u8 x), (55, .int .u8 (x.tdiv (4 : Int))), (56, .agg [.int .i64 gg.kind, .int .i64 gg.err, .str gg.path, .int .i64 gg.at', .int .i64 gg.score, .slv gg.verd.length 1 (List.map (.int .i64) gg.verd)])]) [.row 26 [.int .u8 x, .int .u8 y], .row 31 [.str s1, .str s2]]) (by kernel_rfl) (by kernel_rfl) (by kernel_rfl) (by kernel_rfl) (by kernel_rfl) (by kernel_rfl) (by kernel_rfl) (hg ) ?_
    refine d_callp 6 20 [marksV l, AV.agg [AV.str s1, AV.str s2], AV.agg [AV.int .i64 gg.kind, AV.int .i64 gg.err, AV.str gg.path, AV.int .i64 gg.at', AV.int .i64 gg.score, AV.slv gg.verd.length 1 (List.map (AV.int .i64) gg.verd)]] (AV.tuple [marksV z, AV.bool b3]) 5 #[true, true, true, true, true, true, true, false, false, false, false, false] (stOf 75 (z4 ++ [(7, .ptr 1 0), (21, .int .u8 3), (22, .bool false), (31, .bool false), (51, marksV l), (52, .agg [.str s1, .str s2]), (53, .ptr 0 0), (54, .int .u8 x), (55, .int .u8 (x.tdiv (4 : Int))), (56, .agg [.int .i64 gg.kind, .int .i64 gg.err, .str gg.path, .int .i64 gg.at', .int .i64 gg.score, .slv gg.verd.length 1 (List.map (.int .i64) gg.verd)]), (57, .tuple [marksV z, .bool b3])]) [.row 26 [.int .u8 x, .int .u8 y], .row 31 [.str s1, .str s2]]) (by kernel_rfl) (by kernel_rfl) (by kernel_rfl) (by kernel_rfl) (by kernel_rfl) (by kernel_rfl) (by kernel_rfl) (hc5 ) ?_
    refine d_takes [7, 8, 9, 10, 11] (True) 0 #[true, true, true, true, true, true, true, true, true, true, true, true] (stOf 75 (z4 ++ [(7, .ptr 1 0), (12, marksV z), (13, .bool b3), (21, .int .u8 3), (22, .bool false), (31, .bool false), (50, .tuple [marksV z, .bool b3]), (51, marksV l), (52, .agg [.str s1, .str s2]), (53, .ptr 0 0), (54, .int .u8 x), (55, .int .u8 (x.tdiv (4 : Int))), (56, .agg [.int .i64 gg.kind, .int .i64 gg.err, .str gg.path, .int .i64 gg.at', .int .i64 gg.score, .slv gg.verd.length 1 (List.map (.int .i64) gg.verd)]), (57, .tuple [marksV z, .bool b3]), (58, marksV z), (59, .bool b3)]) [.row 26 [.int .u8 x, .int .u8 y], .row 31 [.str s1, .str s2]]) (by kernel_rfl) (by kernel_rfl) (by kernel_rfl) trivial ?_
    refine d_done [0, 1, 3, 4, 5, 6, 7, 8, 9, 10, 11, 12, 13, 14, 15, 21, 22, 31] (stOf 75 (z4 ++ [(7, .ptr 1 0), (12, marksV z), (13, .bool b3), (21, .int .u8 3), (22, .bool false), (31, .bool false)]) [.row 26 [.int .u8 x, .int .u8 y], .row 31 [.str s1, .str s2]]) (by kernel_rfl) (by kernel_rfl) ?_
    refine k_then ?_
    refine Q_seq ?_
    refine q_draw (by kernel_rfl) (by kernel_rfl) ?_
    refine d_takes [0, 1, 2] (2 ≤ 2 ∧ (0 : Int) ≤ (0 : Int) ∧ (0 : Int) < (↑2 : Int)) 9 #[true, true, true, false, false, false, false, false, false, false, false, false] (stOf 75 (z4 ++ [(7, .ptr 1 0), (12, marksV z), (13, .bool b3), (21, .int .u8 3), (22, .bool false), (31, .bool false), (61, marksV l), (62, .agg [.str s1, .str s2]), (63, .ptr 0 0)]) [.row 26 [.int .u8 x, .int .u8 y], .row 31 [.str s1, .str s2]]) (by kernel_rfl) (by kernel_rfl) (by kernel_rfl) (by exact ⟨by omega, by omega, by omega⟩) ?_
    refine d_takes [3, 4] (1 ≤ 2 ∧ (4 : Int) ≠ (0 : Int)) 7 #[true, true, true, true, true, false, false, false, false, false, false, false] (stOf 75 (z4 ++ [(7, .ptr 1 0), (12, marksV z), (13, .bool b3), (21, .int .u8 3), (22, .bool false), (31, .bool false), (61, marksV l), (62, .agg [.str s1, .str s2]), (63, .ptr 0 0), (64, .int .u8 x), (65, .int .u8 (IntKind.u8.wrap (x.tdiv (4 : Int))))]) [.row 26 [.int .u8 x, .int .u8 y], .row 31 [.str s1, .str s2]]) (by kernel_rfl) (by kernel_rfl) (by kernel_rfl) (by exact ⟨by omega, by omega⟩) ?_
    refine d_set 65 (AV.int .u8 (IntKind.u8.wrap (x.tdiv (4 : Int)))) (AV.int .u8 (x.tdiv (4 : Int))) (by kernel_rfl) (by rw [hw] <;> rfl) ?_
    refine d_callp 5 25 [AV.int .u8 (x.tdiv (4 : Int))] (AV.agg [AV.int .i64 gg.kind, AV.int .i64 gg.err, AV.str gg.path, AV.int .i64 gg.at', AV.int .i64 gg.score, AV.slv gg.verd.length 1 (List.map (AV.int .i64) gg.verd)]) 6 #[true, true, true, true, true, true, false, false, false, false, false, false] (stOf 75 (z4 ++ [(7, .ptr 1 0), (12, marksV z), (13, .bool b3), (21, .int .u8 3), (22, .bool false), (31, .bool false), (61, marksV l), (62, .agg [.str s1, .str s2]), (63, .ptr 0 0), (64, .int .u8 x), (65, .int .u8 (x.tdiv (4 : Int))), (66, .agg [.int .i64 gg.kind, .int .i64 gg.err, .str gg.path, .int .i64 gg.at', .int .i64 gg.score, .slv gg.verd.length 1 (List.map (.int .i64) gg.verd)])]) [.row 26 [.int .u8 x, .int .u8 y], .row 31 [.str s1, .str s2]]) (by kernel_rfl) (by kernel_rfl) (by kernel_rfl) (by kernel_rfl) (by kernel_rfl) (by kernel_rfl) (by kernel_rfl) (hg ) ?_
    refine d_callo 6 21 [marksV l, .agg [.str s1, .str s2], .agg (gradeA (g2m gg))] (.tuple [.sl 0 0 z.length 10, .bool b3]) 38 (flatA encM z) 5 _ _ (by kernel_rfl) (by kernel_rfl) (by kernel_rfl) (by kernel_rfl) (by kernel_rfl) (plainM z) rfl rfl hc6 ?_
    have hbb : (b3 == b3) = true := by simp
    refine d_takes [7, 8, 9, 10, 11] (True) 0 #[true, true, true, true, true, true, true, true, true, true, true, true] (stOf 75 (z4 ++ [(7, .ptr 1 0), (12, marksV z), (13, .bool b3), (14, .sl 2 0 z.length 10), (15, .bool b3), (21, .int .u8 3), (22, .bool false), (31, .bool false), (60, .tuple [.sl 2 0 z.length 10, .bool b3]), (61, marksV l), (62, .agg [.str s1, .str s2]), (63, .ptr 0 0), (64, .int .u8 x), (65, .int .u8 (x.tdiv (4 : Int))), (66, .agg [.int .i64 gg.kind, .int .i64 gg.err, .str gg.path, .int .i64 gg.at', .int .i64 gg.score, .slv gg.verd.length 1 (List.map (.int .i64) gg.verd)]), (67, .tuple [.sl 2 0 z.length 10, .bool b3]), (68, .sl 2 0 z.length 10), (69, .bool b3)]) [.row 26 [.int .u8 x, .int .u8 y], .row 31 [.str s1, .str s2], .row 38 (flatA encM z)]) (by kernel_rfl) (by kernel_rfl) (by kernel_rfl) trivial ?_
    refine d_done [0, 1, 3, 4, 5, 6, 7, 8, 9, 10, 11, 12, 13, 14, 15, 21, 22, 31] (stOf 75 (z4 ++ [(7, .ptr 1 0), (12, marksV z), (13, .bool b3), (14, .sl 2 0 z.length 10), (15, .bool b3), (21, .int .u8 3), (22, .bool false), (31, .bool false)]) [.row 26 [.int .u8 x, .int .u8 y], .row 31 [.str s1, .str s2], .row 38 (flatA encM z)]) (by kernel_rfl) (by kernel_rfl) ?_
    refine k_then ?_
    refine Q_seq ?_
    refine Q_run [0, 1, 3, 4, 5, 6, 7, 8, 9, 10, 11, 12, 13, 14, 15, 21, 22, 31] (stOf 75 [(0, marksV l), (1, .agg [.int .u8 x, .int .u8 y]), (3, .ptr 0 0), (4, marksV z), (5, .sl 2 0 z.length 10), (6, .bool (b3 == b3)), (7, .ptr 1 0), (12, marksV z), (13, .bool b3), (14, .sl 2 0 z.length 10), (15, .bool b3), (21, .int .u8 3), (22, .bool false), (31, .bool false)] [.row 26 [.int .u8 x, .int .u8 y], .row 31 [.str s1, .str s2], .row 38 (flatA encM z)]) ?_
    refine k_then ?_
    refine q_set 6 (AV.bool (b3 == b3)) (AV.bool true) (by kernel_rfl) (by rw [hbb] <;> rfl) ?_
    refine q_ret (by kernel_rfl) ?_
    exact k_fin True (.tuple [marksV z, .sl 2 0 z.length 10, .bool true]) [2] [.row 38 (flatA encM z)] (.tuple [marksV z, .sl 0 0 z.length 10, .bool true]) (by kernel_rfl) (by kernel_rfl) (by kernel_rfl) trivial (keep_row 2 38 _ rfl (noidM z)) ⟨rfl, rfl⟩
end Go.Proofs.Ytlmkeoegammdjaa
