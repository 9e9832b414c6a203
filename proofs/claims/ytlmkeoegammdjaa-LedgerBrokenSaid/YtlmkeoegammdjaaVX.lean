/-
  Steps of the laws.
-/
import Derived.Test.YtlmkeoegammdjaaVW
import Derived.Test.YtlmkeoegammdjaaVFg
namespace Go.Proofs.Ytlmkeoegammdjaa
open Go Go.RowKit V
set_option linter.unusedSimpArgs false
set_option linter.unusedVariables false
set_option maxHeartbeats 20000000
def subL (l : List Mk) (st tk : ByteArray) : List Mk :=
  if 0 ≤ ixL st tk 0 l then setL l (ixL st tk 0 l).toNat (subM st tk (IntKind.i64.wrap ((l.getD (ixL st tk 0 l).toNat mD).ver + 1)))
  else insL l (if 0 ≤ posL st tk 0 l then (posL st tk 0 l).toNat else l.length) (subM st tk 1)
def reopL (l : List Mk) (st tk : ByteArray) : List Mk :=
  if 0 ≤ ixL st tk 0 l then setL l (ixL st tk 0 l).toNat (zeroM (l.getD (ixL st tk 0 l).toNat mD)) else l
def reopB (l : List Mk) (st tk : ByteArray) : Bool := decide (0 ≤ ixL st tk 0 l)
def compB (l : List Mk) (st tk : ByteArray) : Bool := decide (0 ≤ ixL st tk 0 l) && (l.getD (ixL st tk 0 l).toNat mD).pend
def compL (l : List Mk) (st tk : ByteArray) (g : Mk) : List Mk :=
  if compB l st tk = true then setL l (ixL st tk 0 l).toNat (putG (l.getD (ixL st tk 0 l).toNat mD) g) else l
theorem ix0 (l : List Mk) (st tk : ByteArray) : ixL st tk 0 l = -1 ∨ ∃ i, i < l.length ∧ ixL st tk 0 l = (i : Int) ∧ isP (l.getD i mD) st tk = true := by
  rcases ix_cases st tk l 0 with h | ⟨i, h1, h2, h3⟩
  · exact Or.inl h
  · exact Or.inr ⟨i, h1, by rw [h2, Nat.zero_add], h3⟩
theorem pos0 (l : List Mk) (st tk : ByteArray) : posL st tk 0 l = -1 ∨ ∃ i, i < l.length ∧ posL st tk 0 l = (i : Int) := by
  rcases pos_cases st tk l 0 with h | ⟨i, h1, h2⟩
  · exact Or.inl h
  · exact Or.inr ⟨i, h1, by rw [h2, Nat.zero_add]⟩
theorem sub_v (l : List Mk) (st tk : ByteArray) (hl : OkL l) (hB : l.length ≤ 100000000) : CallsV Try.prog 23 [marksV l, .agg [.str st, .str tk]] [] (fun av H' => av = marksV (subL l st tk) ∧ H' = []) := by
  rcases ix0 l st tk with h | ⟨i, hi, h, _⟩
  · rcases pos0 l st tk with hp | ⟨k, hk, hp⟩
    · rw [subL, h, hp]; exact subE_v l st tk hl hB h hp
    · rw [subL, h, hp, if_neg (by decide), if_pos (by omega), Int.toNat_natCast]; exact subM_v l st tk hl hB h k hk hp
  · rw [subL, h, if_pos (by omega), Int.toNat_natCast]; exact subO_v l st tk hl i hi h
theorem refSub_v (l : List Mk) (st tk : ByteArray) (hl : OkL l) (hB : l.length ≤ 100000000) : CallsV Try.prog 24 [marksV l, .agg [.str st, .str tk]] [] (fun av H' => av = marksV (subL l st tk) ∧ H' = []) := by
  rcases ix0 l st tk with h | ⟨i, hi, h, _⟩
  · rcases pos0 l st tk with hp | ⟨k, hk, hp⟩
    · rw [subL, h, hp]; exact refSubE_v l st tk hl hB h hp
    · rw [subL, h, hp, if_neg (by decide), if_pos (by omega), Int.toNat_natCast]; exact refSubM_v l st tk hl hB h k hk hp
  · rw [subL, h, if_pos (by omega), Int.toNat_natCast]; exact refSubO_v l st tk hl i hi h
theorem reop_v (l : List Mk) (st tk : ByteArray) (hl : OkL l) : CallsV Try.prog 18 [marksV l, .agg [.str st, .str tk]] [] (fun av H' => av = .tuple [marksV (reopL l st tk), .bool (reopB l st tk)] ∧ H' = []) := by
  rcases ix0 l st tk with h | ⟨i, hi, h, _⟩
  · rw [reopL, reopB, h]; exact reopN_v l st tk hl h
  · rw [reopL, reopB, h, if_pos (by omega), Int.toNat_natCast, decide_eq_true (show 0 ≤ (i : Int) by omega)]; exact reopS_v l st tk hl i hi h
theorem refReop_v (l : List Mk) (st tk : ByteArray) (hl : OkL l) : CallsV Try.prog 19 [marksV l, .agg [.str st, .str tk]] [] (fun av H' => av = .tuple [marksV (reopL l st tk), .bool (reopB l st tk)] ∧ H' = []) := by
  rcases ix0 l st tk with h | ⟨i, hi, h, _⟩
  · rw [reopL, reopB, h]; exact byMarksT l (refReopN_v l st tk hl h) rfl rfl
  · rw [reopL, reopB, h, if_pos (by omega), Int.toNat_natCast, decide_eq_true (show 0 ≤ (i : Int) by omega)]; exact refReopS_v l st tk hl i hi h
theorem comp_v (l : List Mk) (st tk : ByteArray) (hl : OkL l) (g : Mk) (hg : OkM g) : CallsV Try.prog 20 [marksV l, .agg [.str st, .str tk], .agg (gradeA g)] [] (fun av H' => av = .tuple [marksV (compL l st tk g), .bool (compB l st tk)] ∧ H' = []) := by
  rcases ix0 l st tk with h | ⟨i, hi, h, _⟩
  · rw [compL, compB, h]; exact compN_v l st tk hl h g
  · cases hp : (l.getD i mD).pend with
    | true => rw [compL, compB, h, Int.toNat_natCast, hp, decide_eq_true (show 0 ≤ (i : Int) by omega)]; exact compS_v l st tk hl i hi h g hg hp
    | false => rw [compL, compB, h, Int.toNat_natCast, hp, decide_eq_true (show 0 ≤ (i : Int) by omega)]; exact compF_v l st tk hl i hi h g hp
theorem refComp_v (l : List Mk) (st tk : ByteArray) (hl : OkL l) (g : Mk) (hg : OkM g) : CallsV Try.prog 21 [marksV l, .agg [.str st, .str tk], .agg (gradeA g)] [] (fun av H' => av = .tuple [marksV (compL l st tk g), .bool (compB l st tk)] ∧ H' = []) := by
  rcases ix0 l st tk with h | ⟨i, hi, h, _⟩
  · rw [compL, compB, h]; exact byMarksT l (refCompN_v l st tk hl h g) rfl rfl
  · cases hp : (l.getD i mD).pend with
    | true => rw [compL, compB, h, Int.toNat_natCast, hp, decide_eq_true (show 0 ≤ (i : Int) by omega)]; exact refCompS_v l st tk hl i hi h g hg hp
    | false => rw [compL, compB, h, Int.toNat_natCast, hp, decide_eq_true (show 0 ≤ (i : Int) by omega)]; exact byMarksT l (refCompF_v l st tk hl i hi h g hp) rfl rfl
theorem mem_set {l : List Mk} {i : Nat} {m x : Mk} (h : x ∈ setL l i m) : x ∈ l ∨ x = m := by
  rcases List.mem_append.1 h with h | h
  · exact Or.inl (List.mem_of_mem_take h)
  · rcases List.mem_cons.1 h with h | h
    · exact Or.inr h
    · exact Or.inl (List.mem_of_mem_drop h)
theorem mem_ins {l : List Mk} {i : Nat} {m x : Mk} (h : x ∈ insL l i m) : x ∈ l ∨ x = m := by
  rcases List.mem_append.1 h with h | h
  · exact Or.inl (List.mem_of_mem_take h)
  · rcases List.mem_cons.1 h with h | h
    · exact Or.inr h
    · exact Or.inl (List.mem_of_mem_drop h)
theorem sub_ok (l : List Mk) (st tk : ByteArray) (hl : ∀ m ∈ l, OkM m) : (subL l st tk).length ≤ l.length + 1 ∧ ∀ m ∈ subL l st tk, OkM m := by
  have hz : ∀ v, OkM (subM st tk v) := fun v => Nat.zero_le _
  unfold subL
  split
  · rcases ix0 l st tk with h | ⟨i, hi, h, _⟩
    · omega
    · rw [h, Int.toNat_natCast]
      exact ⟨by rw [setL_len _ _ _ hi]; omega, fun m hm => (mem_set hm).elim (hl m) fun e => e ▸ hz _⟩
  · rcases pos0 l st tk with h | ⟨i, hi, h⟩
    · rw [h, if_neg (by decide)]
      exact ⟨by rw [insL_len _ _ _ (Nat.le_refl _)]; omega, fun m hm => (mem_ins hm).elim (hl m) fun e => e ▸ hz _⟩
    · rw [h, if_pos (by omega), Int.toNat_natCast]
      exact ⟨by rw [insL_len _ _ _ (by omega)]; omega, fun m hm => (mem_ins hm).elim (hl m) fun e => e ▸ hz _⟩
theorem reop_ok (l : List Mk) (st tk : ByteArray) (hl : ∀ m ∈ l, OkM m) : (reopL l st tk).length = l.length ∧ ∀ m ∈ reopL l st tk, OkM m := by
  unfold reopL
  split
  · rcases ix0 l st tk with h | ⟨i, hi, h, _⟩
    · omega
    · rw [h, Int.toNat_natCast]
      exact ⟨setL_len _ _ _ hi, fun m hm => (mem_set hm).elim (hl m) fun e => e ▸ Nat.zero_le _⟩
  · exact ⟨rfl, hl⟩
theorem comp_ok (l : List Mk) (st tk : ByteArray) (g : Mk) (hg : OkM g) (hl : ∀ m ∈ l, OkM m) : (compL l st tk g).length = l.length ∧ ∀ m ∈ compL l st tk g, OkM m := by
  unfold compL compB
  split
  · rename_i hc
    rcases ix0 l st tk with h | ⟨i, hi, h, _⟩
    · rw [h] at hc; simp at hc
    · rw [h, Int.toNat_natCast]
      exact ⟨setL_len _ _ _ hi, fun m hm => (mem_set hm).elim (hl m) fun e => e ▸ hg⟩
  · exact ⟨rfl, hl⟩
def pst (y : Int) : ByteArray := strOfNums [IntKind.u8.wrap ((97 : Int) + y.tmod (4 : Int))]
def ptk (y : Int) : ByteArray := strOfNums [IntKind.u8.wrap ((120 : Int) + (IntKind.u8.wrap (y.tdiv (4 : Int))).tmod (3 : Int))]
theorem pair_v (k : Int) : CallsV Try.prog 12 [.int .u8 k] [] (fun av H' => av = .agg [.str (pst k), .str (ptk k)] ∧ H' = []) := by
  refine callsV_at Try.func12 (by kernel_rfl) ?_
  refine Q_seq ?_
  refine Q_run [0, 2] (stOf 15 [(0, .int .u8 k), (2, .ptr 0 0)] [.row 31 [.str (ByteArray.mk #[]), .str (ByteArray.mk #[])]]) ?_
  refine k_then ?_
  refine Q_seq ?_
  refine Q_reg ?_
  let z1 : List (Nat × AV) := [(0, .int .u8 k), (2, .ptr 0 0), (3, .int .u8 k), (4, .int .u8 (k.tmod (4 : Int))), (5, .int .u8 (IntKind.u8.wrap ((97 : Int) + k.tmod (4 : Int))))]
  refine N_run 3 ((4 : Int) ≠ (0 : Int)) [3, 4, 5, 6, 7, 8, 9, 10, 11, 12] (stOf 15 z1 [.row 31 [.str (ByteArray.mk #[]), .str (ByteArray.mk #[])]]) (by exact by omega) ?_
  refine N_run 2 ((List.take 1 (List.drop 0 (List.take 0 (zerosL [AV.int .u8 0] 1) ++ [(stOf 15 z1 [.row 31 [.str (ByteArray.mk #[]), .str (ByteArray.mk #[])]]).ev (Operand.tmp 5)] ++ List.drop 1 (zerosL [.int .u8 0] 1)))).all isU8 = true) [5, 6, 7, 8, 9, 10, 11, 12] (stOf 15 (z1 ++ [(6, .sl 1 0 1 1), (7, .str (strOfNums [IntKind.u8.wrap ((97 : Int) + k.tmod (4 : Int))]))]) [.row 31 [.str (ByteArray.mk #[]), .str (ByteArray.mk #[])], .row 5 [.int .u8 (IntKind.u8.wrap ((97 : Int) + k.tmod (4 : Int)))]]) (by exact by kernel_rfl) ?_
  refine N_run 2 ((4 : Int) ≠ (0 : Int)) [7, 8, 9, 10, 11, 12] (stOf 15 (z1 ++ [(6, .sl 1 0 1 1), (7, .str (strOfNums [IntKind.u8.wrap ((97 : Int) + k.tmod (4 : Int))])), (8, .int .u8 k), (9, .int .u8 (IntKind.u8.wrap (k.tdiv (4 : Int))))]) [.row 31 [.str (ByteArray.mk #[]), .str (ByteArray.mk #[])], .row 5 [.int .u8 (IntKind.u8.wrap ((97 : Int) + k.tmod (4 : Int)))]]) (by exact by omega) ?_
  refine N_run 2 ((3 : Int) ≠ (0 : Int)) [9, 10, 11, 12] (stOf 15 (z1 ++ [(6, .sl 1 0 1 1), (7, .str (strOfNums [IntKind.u8.wrap ((97 : Int) + k.tmod (4 : Int))])), (8, .int .u8 k), (9, .int .u8 (IntKind.u8.wrap (k.tdiv (4 : Int)))), (10, .int .u8 ((IntKind.u8.wrap (k.tdiv (4 : Int))).tmod (3 : Int))), (11, .int .u8 (IntKind.u8.wrap ((120 : Int) + (IntKind.u8.wrap (k.tdiv (4 : Int))).tmod (3 : Int))))]) [.row 31 [.str (ByteArray.mk #[]), .str (ByteArray.mk #[])], .row 5 [.int .u8 (IntKind.u8.wrap ((97 : Int) + k.tmod (4 : Int)))]]) (by exact by omega) ?_
  refine N_run 2 ((List.take 1 (List.drop 0 (List.take 0 (zerosL [AV.int .u8 0] 1) ++ [(stOf 15 (z1 ++ [(6, .sl 1 0 1 1), (7, .str (strOfNums [IntKind.u8.wrap ((97 : Int) + k.tmod (4 : Int))])), (8, .int .u8 k), (9, .int .u8 (IntKind.u8.wrap (k.tdiv (4 : Int)))), (10, .int .u8 ((IntKind.u8.wrap (k.tdiv (4 : Int))).tmod (3 : Int))), (11, .int .u8 (IntKind.u8.wrap ((120 : Int) + (IntKind.u8.wrap (k.tdiv (4 : Int))).tmod (3 : Int))))]) [.row 31 [.str (ByteArray.mk #[]), .str (ByteArray.mk #[])], .row 5 [.int .u8 (IntKind.u8.wrap ((97 : Int) + k.tmod (4 : Int)))]]).ev (Operand.tmp 11)] ++ List.drop 1 (zerosL [.int .u8 0] 1)))).all isU8 = true) [11, 12] (stOf 15 (z1 ++ [(6, .sl 1 0 1 1), (7, .str (strOfNums [IntKind.u8.wrap ((97 : Int) + k.tmod (4 : Int))])), (8, .int .u8 k), (9, .int .u8 (IntKind.u8.wrap (k.tdiv (4 : Int)))), (10, .int .u8 ((IntKind.u8.wrap (k.tdiv (4 : Int))).tmod (3 : Int))), (11, .int .u8 (IntKind.u8.wrap ((120 : Int) + (IntKind.u8.wrap (k.tdiv (4 : Int))).tmod (3 : Int)))), (12, .sl 2 0 1 1), (13, .str (strOfNums [IntKind.u8.wrap ((120 : Int) + (IntKind.u8.wrap (k.tdiv (4 : Int))).tmod (3 : Int))]))]) [.row 31 [.str (ByteArray.mk #[]), .str (ByteArray.mk #[])], .row 5 [.int .u8 (IntKind.u8.wrap ((97 : Int) + k.tmod (4 : Int)))], .row 5 [.int .u8 (IntKind.u8.wrap ((120 : Int) + (IntKind.u8.wrap (k.tdiv (4 : Int))).tmod (3 : Int)))]]) (by exact by kernel_rfl) ?_
  refine N_run 2 (2 ≤ 2) [] (stOf 15 (z1 ++ [(6, .sl 1 0 1 1), (7, .str (strOfNums [IntKind.u8.wrap ((97 : Int) + k.tmod (4 : Int))])), (8, .int .u8 k), (9, .int .u8 (IntKind.u8.wrap (k.tdiv (4 : Int)))), (10, .int .u8 ((IntKind.u8.wrap (k.tdiv (4 : Int))).tmod (3 : Int))), (11, .int .u8 (IntKind.u8.wrap ((120 : Int) + (IntKind.u8.wrap (k.tdiv (4 : Int))).tmod (3 : Int)))), (12, .sl 2 0 1 1), (13, .str (strOfNums [IntKind.u8.wrap ((120 : Int) + (IntKind.u8.wrap (k.tdiv (4 : Int))).tmod (3 : Int))])), (14, .agg [.str (strOfNums [IntKind.u8.wrap ((97 : Int) + k.tmod (4 : Int))]), .str (strOfNums [IntKind.u8.wrap ((120 : Int) + (IntKind.u8.wrap (k.tdiv (4 : Int))).tmod (3 : Int))])])]) [.row 31 [.str (strOfNums [IntKind.u8.wrap ((97 : Int) + k.tmod (4 : Int))]), .str (strOfNums [IntKind.u8.wrap ((120 : Int) + (IntKind.u8.wrap (k.tdiv (4 : Int))).tmod (3 : Int))])], .row 5 [.int .u8 (IntKind.u8.wrap ((97 : Int) + k.tmod (4 : Int)))], .row 5 [.int .u8 (IntKind.u8.wrap ((120 : Int) + (IntKind.u8.wrap (k.tdiv (4 : Int))).tmod (3 : Int)))]]) (by exact by omega) ?_
  refine N_sel [0, 2] (stOf 15 [(0, .int .u8 k), (2, .ptr 0 0)] [.row 31 [.str (strOfNums [IntKind.u8.wrap ((97 : Int) + k.tmod (4 : Int))]), .str (strOfNums [IntKind.u8.wrap ((120 : Int) + (IntKind.u8.wrap (k.tdiv (4 : Int))).tmod (3 : Int))])], .row 5 [.int .u8 (IntKind.u8.wrap ((97 : Int) + k.tmod (4 : Int)))], .row 5 [.int .u8 (IntKind.u8.wrap ((120 : Int) + (IntKind.u8.wrap (k.tdiv (4 : Int))).tmod (3 : Int)))]]) ?_
  refine k_then ?_
  refine q_ret (by kernel_rfl) ?_
  refine k_fin (2 ≤ 2) (AV.agg [AV.str (strOfNums [IntKind.u8.wrap ((97 : Int) + k.tmod (4 : Int))]), AV.str (strOfNums [IntKind.u8.wrap ((120 : Int) + (IntKind.u8.wrap (k.tdiv (4 : Int))).tmod (3 : Int))])]) [] [] (AV.agg [AV.str (strOfNums [IntKind.u8.wrap ((97 : Int) + k.tmod (4 : Int))]), AV.str (strOfNums [IntKind.u8.wrap ((120 : Int) + (IntKind.u8.wrap (k.tdiv (4 : Int))).tmod (3 : Int))])]) (by kernel_rfl) (by kernel_rfl) (by kernel_rfl) (by exact by omega) (keep_nil _) ?_
  exact ⟨rfl, rfl⟩
def g2m (g : Gr) : Mk := ⟨ByteArray.empty, ByteArray.empty, 0, false, g.kind, g.err, g.path, g.at', g.score, g.verd⟩
theorem g2m_ok (k : Int) : OkM (g2m (gOf k)) := gOf_len k
def stepL (l : List Mk) (x y : Int) : List Mk :=
  if x.tmod 4 = 0 ∨ x.tmod 4 = 1 then subL l (pst y) (ptk y) else if x.tmod 4 = 2 then reopL l (pst y) (ptk y) else compL l (pst y) (ptk y) (g2m (gOf (x.tdiv 4)))
theorem step_ok (l : List Mk) (x y : Int) (hl : ∀ m ∈ l, OkM m) : (stepL l x y).length ≤ l.length + 1 ∧ ∀ m ∈ stepL l x y, OkM m := by
  unfold stepL
  split
  · exact sub_ok l _ _ hl
  · split
    · have := reop_ok l (pst y) (ptk y) hl
      exact ⟨by omega, this.2⟩
    · have := comp_ok l (pst y) (ptk y) (g2m (gOf (x.tdiv 4))) (g2m_ok _) hl
      exact ⟨by omega, this.2⟩
theorem step_v (l : List Mk) (x y : Int) (hx : 0 ≤ x ∧ x ≤ 255) (hl : OkL l) (hB : l.length ≤ 100000000) : CallsV Try.prog 8 [marksV l, .agg [.int .u8 x, .int .u8 y]] [] (fun av H' => av = .tuple [marksV (stepL l x y), marksV (stepL l x y), .bool true] ∧ H' = []) := by
  have hm : 0 ≤ x.tmod 4 ∧ x.tmod 4 < 4 := ⟨Int.tmod_nonneg _ hx.1, Int.tmod_lt_of_pos _ (by decide)⟩
  have hz2 : 0 ≤ x.tdiv 4 := by rw [Int.tdiv_eq_ediv_of_nonneg hx.1]; omega
  have hw : IntKind.u8.wrap (x.tdiv 4) = x.tdiv 4 := wrap_u8 (by omega) (by rw [Int.tdiv_eq_ediv_of_nonneg hx.1]; omega)
  have hc1 := sub_v l (pst y) (ptk y) hl hB
  have hc2 := refSub_v l (pst y) (ptk y) hl hB
  have hc3 := reop_v l (pst y) (ptk y) hl
  have hc4 := refReop_v l (pst y) (ptk y) hl
  have hc5 := comp_v l (pst y) (ptk y) hl (g2m (gOf (x.tdiv 4))) (g2m_ok _)
  have hc6 := refComp_v l (pst y) (ptk y) hl (g2m (gOf (x.tdiv 4))) (g2m_ok _)
  have hp := pair_v y
  have hg := grade_v (x.tdiv 4) hz2
  have e : stepL l x y = (if x.tmod 4 = 0 ∨ x.tmod 4 = 1 then subL l (pst y) (ptk y) else if x.tmod 4 = 2 then reopL l (pst y) (ptk y) else compL l (pst y) (ptk y) (g2m (gOf (x.tdiv 4)))) := rfl
  generalize subL l (pst y) (ptk y) = a1 at *
  generalize reopL l (pst y) (ptk y) = a2 at *
  generalize compL l (pst y) (ptk y) (g2m (gOf (x.tdiv 4))) = a3 at *
  generalize reopB l (pst y) (ptk y) = b2 at *
  generalize compB l (pst y) (ptk y) = b3 at *
  generalize stepL l x y = z at *
  generalize pst y = s1 at *
  generalize ptk y = s2 at *
  generalize gOf (x.tdiv 4) = gg at *
  refine callsV_at Try.func8 (by kernel_rfl) ?_
  have noev := trivial
  rcases (show x.tmod 4 = 0 ∨ x.tmod 4 = 1 ∨ x.tmod 4 = 2 ∨ x.tmod 4 = 3 by omega) with hk | hk | hk | hk
  · rw [if_pos (Or.inl hk)] at e
    subst e
    refine Q_seq ?_
    let z2 : List (Nat × AV) := [(0, marksV l), (1, .agg [.int .u8 x, .int .u8 y]), (3, .ptr 0 0), (4, .nilsl), (5, .nilsl), (6, .bool false)]
    refine Q_run [0, 1, 3, 4, 5, 6, 7, 8, 9, 10, 11, 12, 13, 14, 15, 21, 22, 31] (stOf 75 z2 [.row 26 [.int .u8 x, .int .u8 y]]) ?_
    refine k_then ?_
    refine Q_seq ?_
    refine Q_reg ?_
    refine N_run 1 ((0 : Int) ≤ (1 : Int) ∧ (1 : Int) < (↑2 : Int)) [1, 2, 3, 4] (stOf 75 (z2 ++ [(16, .ptr 0 1)]) [.row 26 [.int .u8 x, .int .u8 y]]) (by exact ⟨by omega, by omega⟩) ?_
    refine N_run 1 (1 ≤ 1) [2, 3, 4] (stOf 75 (z2 ++ [(16, .ptr 0 1), (17, .int .u8 y)]) [.row 26 [.int .u8 x, .int .u8 y]]) (by exact by omega) ?_
    refine n_callp 12 [AV.int .u8 y] (AV.agg [AV.str s1, AV.str s2]) (stOf 75 (z2 ++ [(16, .ptr 0 1), (17, .int .u8 y), (18, .agg [.str s1, .str s2])]) [.row 26 [.int .u8 x, .int .u8 y]]) (by kernel_rfl) (by kernel_rfl) (by kernel_rfl) (by kernel_rfl) (hp ) ?_
    refine N_run 2 (2 ≤ 2) [] (stOf 75 (z2 ++ [(7, .ptr 1 0), (16, .ptr 0 1), (17, .int .u8 y), (18, .agg [.str s1, .str s2])]) [.row 26 [.int .u8 x, .int .u8 y], .row 31 [.str s1, .str s2]]) (by exact by omega) ?_
    refine N_sel [0, 1, 3, 4, 5, 6, 7, 8, 9, 10, 11, 12, 13, 14, 15, 21, 22, 31] (stOf 75 (z2 ++ [(7, .ptr 1 0)]) [.row 26 [.int .u8 x, .int .u8 y], .row 31 [.str s1, .str s2]]) ?_
    refine k_then ?_
    refine Q_seq ?_
    refine Q_seq ?_
    refine Q_reg ?_
    refine N_run 1 ((0 : Int) ≤ (0 : Int) ∧ (0 : Int) < (↑2 : Int)) [1, 2] (stOf 75 (z2 ++ [(7, .ptr 1 0), (19, .ptr 0 0)]) [.row 26 [.int .u8 x, .int .u8 y], .row 31 [.str s1, .str s2]]) (by exact ⟨by omega, by omega⟩) ?_
    refine N_run 1 (1 ≤ 2) [2] (stOf 75 (z2 ++ [(7, .ptr 1 0), (19, .ptr 0 0), (20, .int .u8 x)]) [.row 26 [.int .u8 x, .int .u8 y], .row 31 [.str s1, .str s2]]) (by exact by omega) ?_
    refine N_run 1 ((4 : Int) ≠ (0 : Int)) [] (stOf 75 (z2 ++ [(7, .ptr 1 0), (19, .ptr 0 0), (20, .int .u8 x), (21, .int .u8 (x.tmod (4 : Int)))]) [.row 26 [.int .u8 x, .int .u8 y], .row 31 [.str s1, .str s2]]) (by exact by omega) ?_
    refine n_set 21 (AV.int .u8 (x.tmod (4 : Int))) (AV.int .u8 0) (by kernel_rfl) (by rw [hk] <;> rfl) ?_
    refine N_sel [0, 1, 3, 4, 5, 6, 7, 8, 9, 10, 11, 12, 13, 14, 15, 21, 22, 31] (stOf 75 (z2 ++ [(7, .ptr 1 0), (21, .int .u8 0)]) [.row 26 [.int .u8 x, .int .u8 y], .row 31 [.str s1, .str s2]]) ?_
    refine k_then ?_
    refine q_block (by kernel_rfl) ?_
    refine Q_seq ?_
    refine Q_seq ?_
    refine Q_run [0, 1, 3, 4, 5, 6, 7, 8, 9, 10, 11, 12, 13, 14, 15, 21, 22, 31] (stOf 75 (z2 ++ [(7, .ptr 1 0), (21, .int .u8 0), (22, .bool true)]) [.row 26 [.int .u8 x, .int .u8 y], .row 31 [.str s1, .str s2]]) ?_
    refine k_then ?_
    refine q_yes (by kernel_rfl) true (by kernel_rfl) rfl ?_
    refine q_skip (by kernel_rfl) ?_
    refine k_then ?_
    refine q_yes (by kernel_rfl) true (by kernel_rfl) rfl ?_
    refine Q_seq ?_
    refine q_draw (by kernel_rfl) (by kernel_rfl) ?_
    refine d_takes [0, 1, 3, 4] (2 ≤ 2 ∧ 2 ≤ 2) 5 #[true, true, false, true, true, false, false, false, false] (stOf 75 (z2 ++ [(7, .ptr 1 0), (21, .int .u8 0), (22, .bool true), (25, marksV l), (26, .agg [.str s1, .str s2]), (28, marksV l), (29, .agg [.str s1, .str s2])]) [.row 26 [.int .u8 x, .int .u8 y], .row 31 [.str s1, .str s2]]) (by kernel_rfl) (by kernel_rfl) (by kernel_rfl) (by exact ⟨by omega, by omega⟩) ?_
    refine d_callp 2 23 [marksV l, AV.agg [AV.str s1, AV.str s2]] (marksV z) 4 #[true, true, true, true, true, false, false, false, false] (stOf 75 (z2 ++ [(7, .ptr 1 0), (21, .int .u8 0), (22, .bool true), (25, marksV l), (26, .agg [.str s1, .str s2]), (27, marksV z), (28, marksV l), (29, .agg [.str s1, .str s2])]) [.row 26 [.int .u8 x, .int .u8 y], .row 31 [.str s1, .str s2]]) (by kernel_rfl) (by kernel_rfl) (by kernel_rfl) (by kernel_rfl) (by kernel_rfl) (by kernel_rfl) (by kernel_rfl) (hc1 ) ?_
    refine d_callp 5 24 [marksV l, AV.agg [AV.str s1, AV.str s2]] (marksV z) 3 #[true, true, true, true, true, true, false, false, false] (stOf 75 (z2 ++ [(7, .ptr 1 0), (21, .int .u8 0), (22, .bool true), (25, marksV l), (26, .agg [.str s1, .str s2]), (27, marksV z), (28, marksV l), (29, .agg [.str s1, .str s2]), (30, marksV z)]) [.row 26 [.int .u8 x, .int .u8 y], .row 31 [.str s1, .str s2]]) (by kernel_rfl) (by kernel_rfl) (by kernel_rfl) (by kernel_rfl) (by kernel_rfl) (by kernel_rfl) (by kernel_rfl) (hc2 ) ?_
    refine d_takes [6, 7, 8] (True) 0 #[true, true, true, true, true, true, true, true, true] (stOf 75 [(0, marksV l), (1, .agg [.int .u8 x, .int .u8 y]), (3, .ptr 0 0), (4, marksV z), (5, marksV z), (6, .bool true), (7, .ptr 1 0), (21, .int .u8 0), (22, .bool true), (25, marksV l), (26, .agg [.str s1, .str s2]), (27, marksV z), (28, marksV l), (29, .agg [.str s1, .str s2]), (30, marksV z)] [.row 26 [.int .u8 x, .int .u8 y], .row 31 [.str s1, .str s2]]) (by kernel_rfl) (by kernel_rfl) (by kernel_rfl) trivial ?_
    refine d_done [0, 1, 3, 4, 5, 6, 7, 8, 9, 10, 11, 12, 13, 14, 15, 21, 22, 31] (stOf 75 [(0, marksV l), (1, .agg [.int .u8 x, .int .u8 y]), (3, .ptr 0 0), (4, marksV z), (5, marksV z), (6, .bool true), (7, .ptr 1 0), (21, .int .u8 0), (22, .bool true)] [.row 26 [.int .u8 x, .int .u8 y], .row 31 [.str s1, .str s2]]) (by kernel_rfl) (by kernel_rfl) ?_
    refine k_then ?_
    refine q_ret (by kernel_rfl) ?_
    refine k_blockr ?_
    refine k_thenr ?_
    refine k_fin (True) (AV.tuple [marksV z, marksV z, AV.bool true]) [] [] (AV.tuple [marksV z, marksV z, AV.bool true]) (by kernel_rfl) (by kernel_rfl) (by kernel_rfl) trivial (keep_nil _) ?_
    exact ⟨rfl, rfl⟩
  · rw [if_pos (Or.inr hk)] at e
    subst e
    refine Q_seq ?_
    let z3 : List (Nat × AV) := [(0, marksV l), (1, .agg [.int .u8 x, .int .u8 y]), (3, .ptr 0 0), (4, .nilsl), (5, .nilsl), (6, .bool false)]
    refine Q_run [0, 1, 3, 4, 5, 6, 7, 8, 9, 10, 11, 12, 13, 14, 15, 21, 22, 31] (stOf 75 z3 [.row 26 [.int .u8 x, .int .u8 y]]) ?_
    refine k_then ?_
    refine Q_seq ?_
    refine Q_reg ?_
    refine N_run 1 ((0 : Int) ≤ (1 : Int) ∧ (1 : Int) < (↑2 : Int)) [1, 2, 3, 4] (stOf 75 (z3 ++ [(16, .ptr 0 1)]) [.row 26 [.int .u8 x, .int .u8 y]]) (by exact ⟨by omega, by omega⟩) ?_
    refine N_run 1 (1 ≤ 1) [2, 3, 4] (stOf 75 (z3 ++ [(16, .ptr 0 1), (17, .int .u8 y)]) [.row 26 [.int .u8 x, .int .u8 y]]) (by exact by omega) ?_
    refine n_callp 12 [AV.int .u8 y] (AV.agg [AV.str s1, AV.str s2]) (stOf 75 (z3 ++ [(16, .ptr 0 1), (17, .int .u8 y), (18, .agg [.str s1, .str s2])]) [.row 26 [.int .u8 x, .int .u8 y]]) (by kernel_rfl) (by kernel_rfl) (by kernel_rfl) (by kernel_rfl) (hp ) ?_
    refine N_run 2 (2 ≤ 2) [] (stOf 75 (z3 ++ [(7, .ptr 1 0), (16, .ptr 0 1), (17, .int .u8 y), (18, .agg [.str s1, .str s2])]) [.row 26 [.int .u8 x, .int .u8 y], .row 31 [.str s1, .str s2]]) (by exact by omega) ?_
    refine N_sel [0, 1, 3, 4, 5, 6, 7, 8, 9, 10, 11, 12, 13, 14, 15, 21, 22, 31] (stOf 75 (z3 ++ [(7, .ptr 1 0)]) [.row 26 [.int .u8 x, .int .u8 y], .row 31 [.str s1, .str s2]]) ?_
    refine k_then ?_
    refine Q_seq ?_
    refine Q_seq ?_
    refine Q_reg ?_
    refine N_run 1 ((0 : Int) ≤ (0 : Int) ∧ (0 : Int) < (↑2 : Int)) [1, 2] (stOf 75 (z3 ++ [(7, .ptr 1 0), (19, .ptr 0 0)]) [.row 26 [.int .u8 x, .int .u8 y], .row 31 [.str s1, .str s2]]) (by exact ⟨by omega, by omega⟩) ?_
    refine N_run 1 (1 ≤ 2) [2] (stOf 75 (z3 ++ [(7, .ptr 1 0), (19, .ptr 0 0), (20, .int .u8 x)]) [.row 26 [.int .u8 x, .int .u8 y], .row 31 [.str s1, .str s2]]) (by exact by omega) ?_
    refine N_run 1 ((4 : Int) ≠ (0 : Int)) [] (stOf 75 (z3 ++ [(7, .ptr 1 0), (19, .ptr 0 0), (20, .int .u8 x), (21, .int .u8 (x.tmod (4 : Int)))]) [.row 26 [.int .u8 x, .int .u8 y], .row 31 [.str s1, .str s2]]) (by exact by omega) ?_
    refine n_set 21 (AV.int .u8 (x.tmod (4 : Int))) (AV.int .u8 1) (by kernel_rfl) (by rw [hk] <;> rfl) ?_
    refine N_sel [0, 1, 3, 4, 5, 6, 7, 8, 9, 10, 11, 12, 13, 14, 15, 21, 22, 31] (stOf 75 (z3 ++ [(7, .ptr 1 0), (21, .int .u8 1)]) [.row 26 [.int .u8 x, .int .u8 y], .row 31 [.str s1, .str s2]]) ?_
    refine k_then ?_
    refine q_block (by kernel_rfl) ?_
    refine Q_seq ?_
    refine Q_seq ?_
    refine Q_run [0, 1, 3, 4, 5, 6, 7, 8, 9, 10, 11, 12, 13, 14, 15, 21, 22, 31] (stOf 75 (z3 ++ [(7, .ptr 1 0), (21, .int .u8 1), (22, .bool false)]) [.row 26 [.int .u8 x, .int .u8 y], .row 31 [.str s1, .str s2]]) ?_
    refine k_then ?_
    refine q_no (by kernel_rfl) false (by kernel_rfl) rfl ?_
    refine Q_run [0, 1, 3, 4, 5, 6, 7, 8, 9, 10, 11, 12, 13, 14, 15, 21, 22, 31] (stOf 75 (z3 ++ [(7, .ptr 1 0), (21, .int .u8 1), (22, .bool true)]) [.row 26 [.int .u8 x, .int .u8 y], .row 31 [.str s1, .str s2]]) ?_
    refine k_then ?_
    refine q_yes (by kernel_rfl) true (by kernel_rfl) rfl ?_
    refine Q_seq ?_
    refine q_draw (by kernel_rfl) (by kernel_rfl) ?_
    refine d_takes [0, 1, 3, 4] (2 ≤ 2 ∧ 2 ≤ 2) 5 #[true, true, false, true, true, false, false, false, false] (stOf 75 (z3 ++ [(7, .ptr 1 0), (21, .int .u8 1), (22, .bool true), (25, marksV l), (26, .agg [.str s1, .str s2]), (28, marksV l), (29, .agg [.str s1, .str s2])]) [.row 26 [.int .u8 x, .int .u8 y], .row 31 [.str s1, .str s2]]) (by kernel_rfl) (by kernel_rfl) (by kernel_rfl) (by exact ⟨by omega, by omega⟩) ?_
    refine d_callp 2 23 [marksV l, AV.agg [AV.str s1, AV.str s2]] (marksV z) 4 #[true, true, true, true, true, false, false, false, false] (stOf 75 (z3 ++ [(7, .ptr 1 0), (21, .int .u8 1), (22, .bool true), (25, marksV l), (26, .agg [.str s1, .str s2]), (27, marksV z), (28, marksV l), (29, .agg [.str s1, .str s2])]) [.row 26 [.int .u8 x, .int .u8 y], .row 31 [.str s1, .str s2]]) (by kernel_rfl) (by kernel_rfl) (by kernel_rfl) (by kernel_rfl) (by kernel_rfl) (by kernel_rfl) (by kernel_rfl) (hc1 ) ?_
    refine d_callp 5 24 [marksV l, AV.agg [AV.str s1, AV.str s2]] (marksV z) 3 #[true, true, true, true, true, true, false, false, false] (stOf 75 (z3 ++ [(7, .ptr 1 0), (21, .int .u8 1), (22, .bool true), (25, marksV l), (26, .agg [.str s1, .str s2]), (27, marksV z), (28, marksV l), (29, .agg [.str s1, .str s2]), (30, marksV z)]) [.row 26 [.int .u8 x, .int .u8 y], .row 31 [.str s1, .str s2]]) (by kernel_rfl) (by kernel_rfl) (by kernel_rfl) (by kernel_rfl) (by kernel_rfl) (by kernel_rfl) (by kernel_rfl) (hc2 ) ?_
    refine d_takes [6, 7, 8] (True) 0 #[true, true, true, true, true, true, true, true, true] (stOf 75 [(0, marksV l), (1, .agg [.int .u8 x, .int .u8 y]), (3, .ptr 0 0), (4, marksV z), (5, marksV z), (6, .bool true), (7, .ptr 1 0), (21, .int .u8 1), (22, .bool true), (25, marksV l), (26, .agg [.str s1, .str s2]), (27, marksV z), (28, marksV l), (29, .agg [.str s1, .str s2]), (30, marksV z)] [.row 26 [.int .u8 x, .int .u8 y], .row 31 [.str s1, .str s2]]) (by kernel_rfl) (by kernel_rfl) (by kernel_rfl) trivial ?_
    refine d_done [0, 1, 3, 4, 5, 6, 7, 8, 9, 10, 11, 12, 13, 14, 15, 21, 22, 31] (stOf 75 [(0, marksV l), (1, .agg [.int .u8 x, .int .u8 y]), (3, .ptr 0 0), (4, marksV z), (5, marksV z), (6, .bool true), (7, .ptr 1 0), (21, .int .u8 1), (22, .bool true)] [.row 26 [.int .u8 x, .int .u8 y], .row 31 [.str s1, .str s2]]) (by kernel_rfl) (by kernel_rfl) ?_
    refine k_then ?_
    refine q_ret (by kernel_rfl) ?_
    refine k_blockr ?_
    refine k_thenr ?_
    refine k_fin (True) (AV.tuple [marksV z, marksV z, AV.bool true]) [] [] (AV.tuple [marksV z, marksV z, AV.bool true]) (by kernel_rfl) (by kernel_rfl) (by kernel_rfl) trivial (keep_nil _) ?_
    exact ⟨rfl, rfl⟩
  · rw [if_neg (by omega), if_pos hk] at e
    subst e
    refine Q_seq ?_
    let z4 : List (Nat × AV) := [(0, marksV l), (1, .agg [.int .u8 x, .int .u8 y]), (3, .ptr 0 0), (4, .nilsl), (5, .nilsl), (6, .bool false)]
    refine Q_run [0, 1, 3, 4, 5, 6, 7, 8, 9, 10, 11, 12, 13, 14, 15, 21, 22, 31] (stOf 75 z4 [.row 26 [.int .u8 x, .int .u8 y]]) ?_
    refine k_then ?_
    refine Q_seq ?_
    refine Q_reg ?_
    refine N_run 1 ((0 : Int) ≤ (1 : Int) ∧ (1 : Int) < (↑2 : Int)) [1, 2, 3, 4] (stOf 75 (z4 ++ [(16, .ptr 0 1)]) [.row 26 [.int .u8 x, .int .u8 y]]) (by exact ⟨by omega, by omega⟩) ?_
    refine N_run 1 (1 ≤ 1) [2, 3, 4] (stOf 75 (z4 ++ [(16, .ptr 0 1), (17, .int .u8 y)]) [.row 26 [.int .u8 x, .int .u8 y]]) (by exact by omega) ?_
    refine n_callp 12 [AV.int .u8 y] (AV.agg [AV.str s1, AV.str s2]) (stOf 75 (z4 ++ [(16, .ptr 0 1), (17, .int .u8 y), (18, .agg [.str s1, .str s2])]) [.row 26 [.int .u8 x, .int .u8 y]]) (by kernel_rfl) (by kernel_rfl) (by kernel_rfl) (by kernel_rfl) (hp ) ?_
    refine N_run 2 (2 ≤ 2) [] (stOf 75 (z4 ++ [(7, .ptr 1 0), (16, .ptr 0 1), (17, .int .u8 y), (18, .agg [.str s1, .str s2])]) [.row 26 [.int .u8 x, .int .u8 y], .row 31 [.str s1, .str s2]]) (by exact by omega) ?_
    refine N_sel [0, 1, 3, 4, 5, 6, 7, 8, 9, 10, 11, 12, 13, 14, 15, 21, 22, 31] (stOf 75 (z4 ++ [(7, .ptr 1 0)]) [.row 26 [.int .u8 x, .int .u8 y], .row 31 [.str s1, .str s2]]) ?_
    refine k_then ?_
    refine Q_seq ?_
    refine Q_seq ?_
    refine Q_reg ?_
    refine N_run 1 ((0 : Int) ≤ (0 : Int) ∧ (0 : Int) < (↑2 : Int)) [1, 2] (stOf 75 (z4 ++ [(7, .ptr 1 0), (19, .ptr 0 0)]) [.row 26 [.int .u8 x, .int .u8 y], .row 31 [.str s1, .str s2]]) (by exact ⟨by omega, by omega⟩) ?_
    refine N_run 1 (1 ≤ 2) [2] (stOf 75 (z4 ++ [(7, .ptr 1 0), (19, .ptr 0 0), (20, .int .u8 x)]) [.row 26 [.int .u8 x, .int .u8 y], .row 31 [.str s1, .str s2]]) (by exact by omega) ?_
    refine N_run 1 ((4 : Int) ≠ (0 : Int)) [] (stOf 75 (z4 ++ [(7, .ptr 1 0), (19, .ptr 0 0), (20, .int .u8 x), (21, .int .u8 (x.tmod (4 : Int)))]) [.row 26 [.int .u8 x, .int .u8 y], .row 31 [.str s1, .str s2]]) (by exact by omega) ?_
    refine n_set 21 (AV.int .u8 (x.tmod (4 : Int))) (AV.int .u8 2) (by kernel_rfl) (by rw [hk] <;> rfl) ?_
    refine N_sel [0, 1, 3, 4, 5, 6, 7, 8, 9, 10, 11, 12, 13, 14, 15, 21, 22, 31] (stOf 75 (z4 ++ [(7, .ptr 1 0), (21, .int .u8 2)]) [.row 26 [.int .u8 x, .int .u8 y], .row 31 [.str s1, .str s2]]) ?_
    refine k_then ?_
    refine q_block (by kernel_rfl) ?_
    refine Q_seq ?_
    refine Q_seq ?_
    refine Q_run [0, 1, 3, 4, 5, 6, 7, 8, 9, 10, 11, 12, 13, 14, 15, 21, 22, 31] (stOf 75 (z4 ++ [(7, .ptr 1 0), (21, .int .u8 2), (22, .bool false)]) [.row 26 [.int .u8 x, .int .u8 y], .row 31 [.str s1, .str s2]]) ?_
    refine k_then ?_
    refine q_no (by kernel_rfl) false (by kernel_rfl) rfl ?_
    refine Q_run [0, 1, 3, 4, 5, 6, 7, 8, 9, 10, 11, 12, 13, 14, 15, 21, 22, 31] (stOf 75 (z4 ++ [(7, .ptr 1 0), (21, .int .u8 2), (22, .bool false)]) [.row 26 [.int .u8 x, .int .u8 y], .row 31 [.str s1, .str s2]]) ?_
    refine k_then ?_
    refine q_no (by kernel_rfl) false (by kernel_rfl) rfl ?_
    refine Q_seq ?_
    refine Q_run [0, 1, 3, 4, 5, 6, 7, 8, 9, 10, 11, 12, 13, 14, 15, 21, 22, 31] (stOf 75 (z4 ++ [(7, .ptr 1 0), (21, .int .u8 2), (22, .bool false), (31, .bool true)]) [.row 26 [.int .u8 x, .int .u8 y], .row 31 [.str s1, .str s2]]) ?_
    refine k_then ?_
    refine q_yes (by kernel_rfl) true (by kernel_rfl) rfl ?_
    refine Q_seq ?_
    refine Q_reg ?_
    refine N_run 2 (2 ≤ 2) [2, 3, 4, 5, 6, 7] (stOf 75 (z4 ++ [(7, .ptr 1 0), (21, .int .u8 2), (22, .bool false), (31, .bool true), (34, marksV l), (35, .agg [.str s1, .str s2])]) [.row 26 [.int .u8 x, .int .u8 y], .row 31 [.str s1, .str s2]]) (by exact by omega) ?_
    refine n_callp 18 [marksV l, AV.agg [AV.str s1, AV.str s2]] (AV.tuple [marksV z, AV.bool b2]) (stOf 75 (z4 ++ [(7, .ptr 1 0), (21, .int .u8 2), (22, .bool false), (31, .bool true), (34, marksV l), (35, .agg [.str s1, .str s2]), (36, .tuple [marksV z, .bool b2])]) [.row 26 [.int .u8 x, .int .u8 y], .row 31 [.str s1, .str s2]]) (by kernel_rfl) (by kernel_rfl) (by kernel_rfl) (by kernel_rfl) (hc3 ) ?_
    refine N_run 5 (True) [] (stOf 75 (z4 ++ [(7, .ptr 1 0), (8, marksV z), (9, .bool b2), (21, .int .u8 2), (22, .bool false), (31, .bool true), (33, .tuple [marksV z, .bool b2]), (34, marksV l), (35, .agg [.str s1, .str s2]), (36, .tuple [marksV z, .bool b2]), (37, marksV z), (38, .bool b2)]) [.row 26 [.int .u8 x, .int .u8 y], .row 31 [.str s1, .str s2]]) trivial ?_
    refine N_sel [0, 1, 3, 4, 5, 6, 7, 8, 9, 10, 11, 12, 13, 14, 15, 21, 22, 31] (stOf 75 (z4 ++ [(7, .ptr 1 0), (8, marksV z), (9, .bool b2), (21, .int .u8 2), (22, .bool false), (31, .bool true)]) [.row 26 [.int .u8 x, .int .u8 y], .row 31 [.str s1, .str s2]]) ?_
    refine k_then ?_
    refine Q_seq ?_
    refine Q_reg ?_
    refine N_run 2 (2 ≤ 2) [2, 3, 4, 5, 6, 7] (stOf 75 (z4 ++ [(7, .ptr 1 0), (8, marksV z), (9, .bool b2), (21, .int .u8 2), (22, .bool false), (31, .bool true), (40, marksV l), (41, .agg [.str s1, .str s2])]) [.row 26 [.int .u8 x, .int .u8 y], .row 31 [.str s1, .str s2]]) (by exact by omega) ?_
    refine n_callp 19 [marksV l, AV.agg [AV.str s1, AV.str s2]] (AV.tuple [marksV z, AV.bool b2]) (stOf 75 (z4 ++ [(7, .ptr 1 0), (8, marksV z), (9, .bool b2), (21, .int .u8 2), (22, .bool false), (31, .bool true), (40, marksV l), (41, .agg [.str s1, .str s2]), (42, .tuple [marksV z, .bool b2])]) [.row 26 [.int .u8 x, .int .u8 y], .row 31 [.str s1, .str s2]]) (by kernel_rfl) (by kernel_rfl) (by kernel_rfl) (by kernel_rfl) (hc4 ) ?_
    refine N_run 5 (True) [] (stOf 75 (z4 ++ [(7, .ptr 1 0), (8, marksV z), (9, .bool b2), (10, marksV z), (11, .bool b2), (21, .int .u8 2), (22, .bool false), (31, .bool true), (39, .tuple [marksV z, .bool b2]), (40, marksV l), (41, .agg [.str s1, .str s2]), (42, .tuple [marksV z, .bool b2]), (43, marksV z), (44, .bool b2)]) [.row 26 [.int .u8 x, .int .u8 y], .row 31 [.str s1, .str s2]]) trivial ?_
    refine N_sel [0, 1, 3, 4, 5, 6, 7, 8, 9, 10, 11, 12, 13, 14, 15, 21, 22, 31] (stOf 75 (z4 ++ [(7, .ptr 1 0), (8, marksV z), (9, .bool b2), (10, marksV z), (11, .bool b2), (21, .int .u8 2), (22, .bool false), (31, .bool true)]) [.row 26 [.int .u8 x, .int .u8 y], .row 31 [.str s1, .str s2]]) ?_
    refine k_then ?_
    refine Q_seq ?_
    refine Q_run [0, 1, 3, 4, 5, 6, 7, 8, 9, 10, 11, 12, 13, 14, 15, 21, 22, 31] (stOf 75 [(0, marksV l), (1, .agg [.int .u8 x, .int .u8 y]), (3, .ptr 0 0), (4, marksV z), (5, marksV z), (6, .bool (b2 == b2)), (7, .ptr 1 0), (8, marksV z), (9, .bool b2), (10, marksV z), (11, .bool b2), (21, .int .u8 2), (22, .bool false), (31, .bool true)] [.row 26 [.int .u8 x, .int .u8 y], .row 31 [.str s1, .str s2]]) ?_
    refine k_then ?_
    refine q_ret (by kernel_rfl) ?_
    refine k_blockr ?_
    refine k_thenr ?_
    refine k_fin (True) (AV.tuple [marksV z, marksV z, AV.bool (b2 == b2)]) [] [] (AV.tuple [marksV z, marksV z, AV.bool (b2 == b2)]) (by kernel_rfl) (by kernel_rfl) (by kernel_rfl) trivial (keep_nil _) ?_
    exact ⟨by simp, rfl⟩
  · rw [if_neg (by omega), if_neg (by omega)] at e
    subst e
    refine Q_seq ?_
    let z5 : List (Nat × AV) := [(0, marksV l), (1, .agg [.int .u8 x, .int .u8 y]), (3, .ptr 0 0), (4, .nilsl), (5, .nilsl), (6, .bool false)]
    refine Q_run [0, 1, 3, 4, 5, 6, 7, 8, 9, 10, 11, 12, 13, 14, 15, 21, 22, 31] (stOf 75 z5 [.row 26 [.int .u8 x, .int .u8 y]]) ?_
    refine k_then ?_
    refine Q_seq ?_
    refine Q_reg ?_
    refine N_run 1 ((0 : Int) ≤ (1 : Int) ∧ (1 : Int) < (↑2 : Int)) [1, 2, 3, 4] (stOf 75 (z5 ++ [(16, .ptr 0 1)]) [.row 26 [.int .u8 x, .int .u8 y]]) (by exact ⟨by omega, by omega⟩) ?_
    refine N_run 1 (1 ≤ 1) [2, 3, 4] (stOf 75 (z5 ++ [(16, .ptr 0 1), (17, .int .u8 y)]) [.row 26 [.int .u8 x, .int .u8 y]]) (by exact by omega) ?_
    refine n_callp 12 [AV.int .u8 y] (AV.agg [AV.str s1, AV.str s2]) (stOf 75 (z5 ++ [(16, .ptr 0 1), (17, .int .u8 y), (18, .agg [.str s1, .str s2])]) [.row 26 [.int .u8 x, .int .u8 y]]) (by kernel_rfl) (by kernel_rfl) (by kernel_rfl) (by kernel_rfl) (hp ) ?_
    refine N_run 2 (2 ≤ 2) [] (stOf 75 (z5 ++ [(7, .ptr 1 0), (16, .ptr 0 1), (17, .int .u8 y), (18, .agg [.str s1, .str s2])]) [.row 26 [.int .u8 x, .int .u8 y], .row 31 [.str s1, .str s2]]) (by exact by omega) ?_
    refine N_sel [0, 1, 3, 4, 5, 6, 7, 8, 9, 10, 11, 12, 13, 14, 15, 21, 22, 31] (stOf 75 (z5 ++ [(7, .ptr 1 0)]) [.row 26 [.int .u8 x, .int .u8 y], .row 31 [.str s1, .str s2]]) ?_
    refine k_then ?_
    refine Q_seq ?_
    refine Q_seq ?_
    refine Q_reg ?_
    refine N_run 1 ((0 : Int) ≤ (0 : Int) ∧ (0 : Int) < (↑2 : Int)) [1, 2] (stOf 75 (z5 ++ [(7, .ptr 1 0), (19, .ptr 0 0)]) [.row 26 [.int .u8 x, .int .u8 y], .row 31 [.str s1, .str s2]]) (by exact ⟨by omega, by omega⟩) ?_
    refine N_run 1 (1 ≤ 2) [2] (stOf 75 (z5 ++ [(7, .ptr 1 0), (19, .ptr 0 0), (20, .int .u8 x)]) [.row 26 [.int .u8 x, .int .u8 y], .row 31 [.str s1, .str s2]]) (by exact by omega) ?_
    refine N_run 1 ((4 : Int) ≠ (0 : Int)) [] (stOf 75 (z5 ++ [(7, .ptr 1 0), (19, .ptr 0 0), (20, .int .u8 x), (21, .int .u8 (x.tmod (4 : Int)))]) [.row 26 [.int .u8 x, .int .u8 y], .row 31 [.str s1, .str s2]]) (by exact by omega) ?_
    refine n_set 21 (AV.int .u8 (x.tmod (4 : Int))) (AV.int .u8 3) (by kernel_rfl) (by rw [hk] <;> rfl) ?_
    refine N_sel [0, 1, 3, 4, 5, 6, 7, 8, 9, 10, 11, 12, 13, 14, 15, 21, 22, 31] (stOf 75 (z5 ++ [(7, .ptr 1 0), (21, .int .u8 3)]) [.row 26 [.int .u8 x, .int .u8 y], .row 31 [.str s1, .str s2]]) ?_
    refine k_then ?_
    refine q_block (by kernel_rfl) ?_
    refine Q_seq ?_
    refine Q_seq ?_
    refine Q_run [0, 1, 3, 4, 5, 6, 7, 8, 9, 10, 11, 12, 13, 14, 15, 21, 22, 31] (stOf 75 (z5 ++ [(7, .ptr 1 0), (21, .int .u8 3), (22, .bool false)]) [.row 26 [.int .u8 x, .int .u8 y], .row 31 [.str s1, .str s2]]) ?_
    refine k_then ?_
    refine q_no (by kernel_rfl) false (by kernel_rfl) rfl ?_
    refine Q_run [0, 1, 3, 4, 5, 6, 7, 8, 9, 10, 11, 12, 13, 14, 15, 21, 22, 31] (stOf 75 (z5 ++ [(7, .ptr 1 0), (21, .int .u8 3), (22, .bool false)]) [.row 26 [.int .u8 x, .int .u8 y], .row 31 [.str s1, .str s2]]) ?_
    refine k_then ?_
    refine q_no (by kernel_rfl) false (by kernel_rfl) rfl ?_
    refine Q_seq ?_
    refine Q_run [0, 1, 3, 4, 5, 6, 7, 8, 9, 10, 11, 12, 13, 14, 15, 21, 22, 31] (stOf 75 (z5 ++ [(7, .ptr 1 0), (21, .int .u8 3), (22, .bool false), (31, .bool false)]) [.row 26 [.int .u8 x, .int .u8 y], .row 31 [.str s1, .str s2]]) ?_
    refine k_then ?_
    refine q_no (by kernel_rfl) false (by kernel_rfl) rfl ?_
    refine q_skip (by kernel_rfl) ?_
    refine k_block ?_
    refine k_then ?_
    refine Q_seq ?_
    refine q_draw (by kernel_rfl) (by kernel_rfl) ?_
    refine d_takes [0, 1, 2] (2 ≤ 2 ∧ (0 : Int) ≤ (0 : Int) ∧ (0 : Int) < (↑2 : Int)) 9 #[true, true, true, false, false, false, false, false, false, false, false, false] (stOf 75 (z5 ++ [(7, .ptr 1 0), (21, .int .u8 3), (22, .bool false), (31, .bool false), (51, marksV l), (52, .agg [.str s1, .str s2]), (53, .ptr 0 0)]) [.row 26 [.int .u8 x, .int .u8 y], .row 31 [.str s1, .str s2]]) (by kernel_rfl) (by kernel_rfl) (by kernel_rfl) (by exact ⟨by omega, by omega, by omega⟩) ?_
    refine d_takes [3, 4] (1 ≤ 2 ∧ (4 : Int) ≠ (0 : Int)) 7 #[true, true, true, true, true, false, false, false, false, false, false, false] (stOf 75 (z5 ++ [(7, .ptr 1 0), (21, .int .u8 3), (22, .bool false), (31, .bool false), (51, marksV l), (52, .agg [.str s1, .str s2]), (53, .ptr 0 0), (54, .int .u8 x), (55, .int .u8 (IntKind.u8.wrap (x.tdiv (4 : Int))))]) [.row 26 [.int .u8 x, .int .u8 y], .row 31 [.str s1, .str s2]]) (by kernel_rfl) (by kernel_rfl) (by kernel_rfl) (by exact ⟨by omega, by omega⟩) ?_
    refine d_set 55 (AV.int .u8 (IntKind.u8.wrap (x.tdiv (4 : Int)))) (AV.int .u8 (x.tdiv (4 : Int))) (by kernel_rfl) (by rw [hw] <;> rfl) ?_
    refine d_callp 5 25 [AV.int .u8 (x.tdiv (4 : Int))] (AV.agg [AV.int .i64 gg.kind, AV.int .i64 gg.err, AV.str gg.path, AV.int .i64 gg.at', AV.int .i64 gg.score, AV.slv gg.verd.length 1 (List.map (AV.int .i64) gg.verd)]) 6 #[true, true, true, true, true, true, false, false, false, false, false, false] (stOf 75 (z5 ++ [(7, .ptr 1 0), (21, .int .u8 3), (22, .bool false), (31, .bool false), (51, marksV l), (52, .agg [.str s1, .str s2]), (53, .ptr 0 0), (54, .int .u8 x), (55, .int .u8 (x.tdiv (4 : Int))), (56, .agg [.int .i64 gg.kind, .int .i64 gg.err, .str gg.path, .int .i64 gg.at', .int .i64 gg.score, .slv gg.verd.length 1 (List.map (.int .i64) gg.verd)])]) [.row 26 [.int .u8 x, .int .u8 y], .row 31 [.str s1, .str s2]]) (by kernel_rfl) (by kernel_rfl) (by kernel_rfl) (by kernel_rfl) (by kernel_rfl) (by kernel_rfl) (by kernel_rfl) (hg ) ?_
    refine d_callp 6 20 [marksV l, AV.agg [AV.str s1, AV.str s2], AV.agg [AV.int .i64 gg.kind, AV.int .i64 gg.err, AV.str gg.path, AV.int .i64 gg.at', AV.int .i64 gg.score, AV.slv gg.verd.length 1 (List.map (AV.int .i64) gg.verd)]] (AV.tuple [marksV z, AV.bool b3]) 5 #[true, true, true, true, true, true, true, false, false, false, false, false] (stOf 75 (z5 ++ [(7, .ptr 1 0), (21, .int .u8 3), (22, .bool false), (31, .bool false), (51, marksV l), (52, .agg [.str s1, .str s2]), (53, .ptr 0 0), (54, .int .u8 x), (55, .int .u8 (x.tdiv (4 : Int))), (56, .agg [.int .i64 gg.kind, .int .i64 gg.err, .str gg.path, .int .i64 gg.at', .int .i64 gg.score, .slv gg.verd.length 1 (List.map (.int .i64) gg.verd)]), (57, .tuple [marksV z, .bool b3])]) [.row 26 [.int .u8 x, .int .u8 y], .row 31 [.str s1, .str s2]]) (by kernel_rfl) (by kernel_rfl) (by kernel_rfl) (by kernel_rfl) (by kernel_rfl) (by kernel_rfl) (by kernel_rfl) (hc5 ) ?_
    refine d_takes [7, 8, 9, 10, 11] (True) 0 #[true, true, true, true, true, true, true, true, true, true, true, true] (stOf 75 (z5 ++ [(7, .ptr 1 0), (12, marksV z), (13, .bool b3), (21, .int .u8 3), (22, .bool false), (31, .bool false), (50, .tuple [marksV z, .bool b3]), (51, marksV l), (52, .agg [.str s1, .str s2]), (53, .ptr 0 0), (54, .int .u8 x), (55, .int .u8 (x.tdiv (4 : Int))), (56, .agg [.int .i64 gg.kind, .int .i64 gg.err, .str gg.path, .int .i64 gg.at', .int .i64 gg.score, .slv gg.verd.length 1 (List.map (.int .i64) gg.verd)]), (57, .tuple [marksV z, .bool b3]), (58, marksV z), (59, .bool b3)]) [.row 26 [.int .u8 x, .int .u8 y], .row 31 [.str s1, .str s2]]) (by kernel_rfl) (by kernel_rfl) (by kernel_rfl) trivial ?_
    refine d_done [0, 1, 3, 4, 5, 6, 7, 8, 9, 10, 11, 12, 13, 14, 15, 21, 22, 31] (stOf 75 (z5 ++ [(7, .ptr 1 0), (12, marksV z), (13, .bool b3), (21, .int .u8 3), (22, .bool false), (31, .bool false)]) [.row 26 [.int .u8 x, .int .u8 y], .row 31 [.str s1, .str s2]]) (by kernel_rfl) (by kernel_rfl) ?_
    refine k_then ?_
    refine Q_seq ?_
    refine q_draw (by kernel_rfl) (by kernel_rfl) ?_
    refine d_takes [0, 1, 2] (2 ≤ 2 ∧ (0 : Int) ≤ (0 : Int) ∧ (0 : Int) < (↑2 : Int)) 9 #[true, true, true, false, false, false, false, false, false, false, false, false] (stOf 75 (z5 ++ [(7, .ptr 1 0), (12, marksV z), (13, .bool b3), (21, .int .u8 3), (22, .bool false), (31, .bool false), (61, marksV l), (62, .agg [.str s1, .str s2]), (63, .ptr 0 0)]) [.row 26 [.int .u8 x, .int .u8 y], .row 31 [.str s1, .str s2]]) (by kernel_rfl) (by kernel_rfl) (by kernel_rfl) (by exact ⟨by omega, by omega, by omega⟩) ?_
    refine d_takes [3, 4] (1 ≤ 2 ∧ (4 : Int) ≠ (0 : Int)) 7 #[true, true, true, true, true, false, false, false, false, false, false, false] (stOf 75 (z5 ++ [(7, .ptr 1 0), (12, marksV z), (13, .bool b3), (21, .int .u8 3), (22, .bool false), (31, .bool false), (61, marksV l), (62, .agg [.str s1, .str s2]), (63, .ptr 0 0), (64, .int .u8 x), (65, .int .u8 (IntKind.u8.wrap (x.tdiv (4 : Int))))]) [.row 26 [.int .u8 x, .int .u8 y], .row 31 [.str s1, .str s2]]) (by kernel_rfl) (by kernel_rfl) (by kernel_rfl) (by exact ⟨by omega, by omega⟩) ?_
    refine d_set 65 (AV.int .u8 (IntKind.u8.wrap (x.tdiv (4 : Int)))) (AV.int .u8 (x.tdiv (4 : Int))) (by kernel_rfl) (by rw [hw] <;> rfl) ?_
    refine d_callp 5 25 [AV.int .u8 (x.tdiv (4 : Int))] (AV.agg [AV.int .i64 gg.kind, AV.int .i64 gg.err, AV.str gg.path, AV.int .i64 gg.at', AV.int .i64 gg.score, AV.slv gg.verd.length 1 (List.map (AV.int .i64) gg.verd)]) 6 #[true, true, true, true, true, true, false, false, false, false, false, false] (stOf 75 (z5 ++ [(7, .ptr 1 0), (12, marksV z), (13, .bool b3), (21, .int .u8 3), (22, .bool false), (31, .bool false), (61, marksV l), (62, .agg [.str s1, .str s2]), (63, .ptr 0 0), (64, .int .u8 x), (65, .int .u8 (x.tdiv (4 : Int))), (66, .agg [.int .i64 gg.kind, .int .i64 gg.err, .str gg.path, .int .i64 gg.at', .int .i64 gg.score, .slv gg.verd.length 1 (List.map (.int .i64) gg.verd)])]) [.row 26 [.int .u8 x, .int .u8 y], .row 31 [.str s1, .str s2]]) (by kernel_rfl) (by kernel_rfl) (by kernel_rfl) (by kernel_rfl) (by kernel_rfl) (by kernel_rfl) (by kernel_rfl) (hg ) ?_
    refine d_callp 6 21 [marksV l, AV.agg [AV.str s1, AV.str s2], AV.agg [AV.int .i64 gg.kind, AV.int .i64 gg.err, AV.str gg.path, AV.int .i64 gg.at', AV.int .i64 gg.score, AV.slv gg.verd.length 1 (List.map (AV.int .i64) gg.verd)]] (AV.tuple [marksV z, AV.bool b3]) 5 #[true, true, true, true, true, true, true, false, false, false, false, false] (stOf 75 (z5 ++ [(7, .ptr 1 0), (12, marksV z), (13, .bool b3), (21, .int .u8 3), (22, .bool false), (31, .bool false), (61, marksV l), (62, .agg [.str s1, .str s2]), (63, .ptr 0 0), (64, .int .u8 x), (65, .int .u8 (x.tdiv (4 : Int))), (66, .agg [.int .i64 gg.kind, .int .i64 gg.err, .str gg.path, .int .i64 gg.at', .int .i64 gg.score, .slv gg.verd.length 1 (List.map (.int .i64) gg.verd)]), (67, .tuple [marksV z, .bool b3])]) [.row 26 [.int .u8 x, .int .u8 y], .row 31 [.str s1, .str s2]]) (by kernel_rfl) (by kernel_rfl) (by kernel_rfl) (by kernel_rfl) (by kernel_rfl) (by kernel_rfl) (by kernel_rfl) (hc6 ) ?_
    refine d_takes [7, 8, 9, 10, 11] (True) 0 #[true, true, true, true, true, true, true, true, true, true, true, true] (stOf 75 (z5 ++ [(7, .ptr 1 0), (12, marksV z), (13, .bool b3), (14, marksV z), (15, .bool b3), (21, .int .u8 3), (22, .bool false), (31, .bool false), (60, .tuple [marksV z, .bool b3]), (61, marksV l), (62, .agg [.str s1, .str s2]), (63, .ptr 0 0), (64, .int .u8 x), (65, .int .u8 (x.tdiv (4 : Int))), (66, .agg [.int .i64 gg.kind, .int .i64 gg.err, .str gg.path, .int .i64 gg.at', .int .i64 gg.score, .slv gg.verd.length 1 (List.map (.int .i64) gg.verd)]), (67, .tuple [marksV z, .bool b3]), (68, marksV z), (69, .bool b3)]) [.row 26 [.int .u8 x, .int .u8 y], .row 31 [.str s1, .str s2]]) (by kernel_rfl) (by kernel_rfl) (by kernel_rfl) trivial ?_
    refine d_done [0, 1, 3, 4, 5, 6, 7, 8, 9, 10, 11, 12, 13, 14, 15, 21, 22, 31] (stOf 75 (z5 ++ [(7, .ptr 1 0), (12, marksV z), (13, .bool b3), (14, marksV z), (15, .bool b3), (21, .int .u8 3), (22, .bool false), (31, .bool false)]) [.row 26 [.int .u8 x, .int .u8 y], .row 31 [.str s1, .str s2]]) (by kernel_rfl) (by kernel_rfl) ?_
    refine k_then ?_
    refine Q_seq ?_
    refine Q_run [0, 1, 3, 4, 5, 6, 7, 8, 9, 10, 11, 12, 13, 14, 15, 21, 22, 31] (stOf 75 [(0, marksV l), (1, .agg [.int .u8 x, .int .u8 y]), (3, .ptr 0 0), (4, marksV z), (5, marksV z), (6, .bool (b3 == b3)), (7, .ptr 1 0), (12, marksV z), (13, .bool b3), (14, marksV z), (15, .bool b3), (21, .int .u8 3), (22, .bool false), (31, .bool false)] [.row 26 [.int .u8 x, .int .u8 y], .row 31 [.str s1, .str s2]]) ?_
    refine k_then ?_
    refine q_ret (by kernel_rfl) ?_
    refine k_fin (True) (AV.tuple [marksV z, marksV z, AV.bool (b3 == b3)]) [] [] (AV.tuple [marksV z, marksV z, AV.bool (b3 == b3)]) (by kernel_rfl) (by kernel_rfl) (by kernel_rfl) trivial (keep_nil _) ?_
    exact ⟨by simp, rfl⟩
end Go.Proofs.Ytlmkeoegammdjaa
