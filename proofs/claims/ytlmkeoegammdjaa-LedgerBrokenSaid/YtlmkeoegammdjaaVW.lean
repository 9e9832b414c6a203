/-
  Steps, over any list of marks: the results as values.
-/
import Derived.Test.YtlmkeoegammdjaaVU
namespace Go.Proofs.Ytlmkeoegammdjaa
open Go Go.RowKit V
set_option linter.unusedSimpArgs false
set_option linter.unusedVariables false
set_option maxHeartbeats 20000000
theorem weakMid {P : Program} {f : FuncId} {args : List AV} {x : AV} {t : TypeId} (A B cs cs' : List AV) (h : CallsV P f args [] fun a b => a = x ∧ b = [.row t (A ++ (cs ++ B))]) (hl : cs'.length = cs.length)
    (hw : ∀ (i : Nat) (h : i < cs.length) (h' : i < cs'.length) (p : Pl) (w : World) (v : Value), Rep0 p w v cs[i] → Rep0 p w v cs'[i]) : CallsV P f args [] fun a b => a = x ∧ b = [.row t (A ++ (cs' ++ B))] :=
  h.weakRow _ (by simp only [List.length_append, hl]) (fun i h h' p w v hv => by
    by_cases h1 : i < A.length
    · rw [List.getElem_append_left h1] at hv ⊢; exact hv
    · rw [List.getElem_append_right (by omega)] at hv ⊢
      by_cases h2 : i - A.length < cs.length
      · rw [List.getElem_append_left (by omega)] at hv
        rw [List.getElem_append_left (by omega)]
        exact hw _ h2 (by omega) p w v hv
      · rw [List.getElem_append_right (by omega)] at hv
        rw [List.getElem_append_right (by omega)]
        simpa only [hl] using hv)
theorem byMarks {P : Program} {f : FuncId} {args : List AV} {n : Nat} {xs : List AV} (L : List Mk) (h : CallsV P f args [] fun a b => a = .sl 0 0 n 10 ∧ b = [.row 38 xs]) (hx : xs = flatA encM L) (hn : n = L.length) : CallsV P f args [] fun a b => a = marksV L ∧ b = [] := by
  subst hx hn
  refine (h.byRow (R' := fun a => a = marksV L) fun av H' ⟨h1, h2⟩ => ?_)
  subst h1 h2
  have e : (flatA encM L).take (L.length * 10) = flatA encM L := List.take_of_length_le (by rw [flatA_length lenM]; exact Nat.le_refl _)
  have hb := ByV.row L.length 10 38 (flatA encM L) (leafM L) (by rw [flatA_length lenM]; exact Nat.le_refl _)
  rw [e] at hb
  exact ⟨_, hb, rfl⟩
theorem byMarksT {P : Program} {f : FuncId} {args : List AV} {n : Nat} {xs : List AV} {c : Bool} (L : List Mk) (h : CallsV P f args [] fun a b => a = .tuple [.sl 0 0 n 10, .bool c] ∧ b = [.row 38 xs]) (hx : xs = flatA encM L) (hn : n = L.length) : CallsV P f args [] fun a b => a = .tuple [marksV L, .bool c] ∧ b = [] := by
  subst hx hn
  refine (h.byRow (R' := fun a => a = .tuple [marksV L, .bool c]) fun av H' ⟨h1, h2⟩ => ?_)
  subst h1 h2
  have e : (flatA encM L).take (L.length * 10) = flatA encM L := List.take_of_length_le (by rw [flatA_length lenM]; exact Nat.le_refl _)
  have hb := ByV.rowT L.length 10 38 (flatA encM L) c (leafM L) (by rw [flatA_length lenM]; exact Nat.le_refl _)
  rw [e] at hb
  exact ⟨_, hb, rfl⟩
theorem nilMarksT {P : Program} {f : FuncId} {args : List AV} {c : Bool} (h : CallsV P f args [] fun a b => a = .tuple [.nilsl, .bool c] ∧ b = []) : CallsV P f args [] fun a b => a = .tuple [marksV [], .bool c] ∧ b = [] :=
  h.byRow (R' := fun a => a = .tuple [marksV [], .bool c]) fun av H' ⟨h1, h2⟩ => by
    subst h1 h2
    exact ⟨_, ByV.tup 0 10 c (by decide), rfl⟩
/-- ten cells, the last of them nil -/
theorem weakTen (cs : List AV) (hc : cs.length = 9) (i : Nat) (h : i < (cs ++ [AV.nilsl]).length) (h' : i < (cs ++ [AV.slv 0 1 []]).length) (p : Pl) (w : World) (v : Value) (hv : Rep0 p w v (cs ++ [AV.nilsl])[i]) : Rep0 p w v (cs ++ [AV.slv 0 1 []])[i] := by
  by_cases h1 : i < cs.length
  · rw [List.getElem_append_left h1] at hv ⊢; exact hv
  · have e : i = 9 := by simp only [List.length_append, List.length_cons, List.length_nil] at h; omega
    subst e
    rw [List.getElem_append_right (by omega)] at hv ⊢
    simp only [hc, Nat.sub_self, List.getElem_cons_zero] at hv ⊢
    exact nil_slv0 1 (by decide) p w v hv
def zeroM (m : Mk) : Mk := ⟨m.st, m.tk, m.ver, true, 0, 0, ByteArray.mk #[], 0, 0, []⟩
def subM (st tk : ByteArray) (v : Int) : Mk := ⟨st, tk, v, true, 0, 0, ByteArray.mk #[], 0, 0, []⟩
theorem flat_mid (P1 P2 : List Mk) (m : Mk) : flatA encM (P1 ++ m :: P2) = flatA encM P1 ++ (encM m ++ flatA encM P2) := by rw [flatA_append, flatA_cons]
def insL (l : List Mk) (k : Nat) (m : Mk) : List Mk := l.take k ++ m :: l.drop k
theorem insL_len (l : List Mk) (k : Nat) (m : Mk) (hk : k ≤ l.length) : (insL l k m).length = l.length + 1 := by
  rw [insL, List.length_append, List.length_cons, List.length_take, List.length_drop]; omega

theorem insRow (l : List Mk) (st tk : ByteArray) {f : FuncId} {args : List AV} (k : Nat) (hk : k ≤ l.length) (h : CallsV Try.prog f args [] fun a b => a = .sl 0 0 (l.length + 1) 10 ∧ b = [.row 38 ((flatA encM l).take (k * 10) ++ ([AV.str st, AV.str tk, AV.int IntKind.i64 (1 : Int), AV.bool true, AV.int IntKind.i64 (0 : Int), AV.int IntKind.i64 (0 : Int), AV.str (ByteArray.mk #[]), AV.int IntKind.i64 (0 : Int), AV.int IntKind.i64 (0 : Int), AV.nilsl] ++ (flatA encM l).drop (k * 10)))]) : CallsV Try.prog f args [] fun a b => a = marksV (insL l k (subM st tk 1)) ∧ b = [] := by
  have h1 := weakMid ((flatA encM l).take (k * 10)) ((flatA encM l).drop (k * 10)) ([AV.str st, AV.str tk, AV.int .i64 1, .bool true, .int .i64 0, .int .i64 0, .str (ByteArray.mk #[]), .int .i64 0, .int .i64 0] ++ [AV.nilsl]) ([AV.str st, AV.str tk, AV.int .i64 1, .bool true, .int .i64 0, .int .i64 0, .str (ByteArray.mk #[]), .int .i64 0, .int .i64 0] ++ [AV.slv 0 1 []]) h rfl (weakTen _ rfl)
  refine byMarks _ h1 ?_ (insL_len l k _ hk).symm
  rw [flatA_take lenM, flatA_drop lenM, insL, flat_mid]; rfl
section
variable (l : List Mk) (st tk : ByteArray) (hl : OkL l)
include hl
theorem reopS_v (i : Nat) (hi : i < l.length) (h : ixL st tk 0 l = (i : Int)) : CallsV Try.prog 18 [marksV l, .agg [.str st, .str tk]] [] (fun av H' => av = .tuple [marksV (setL l i (zeroM (l.getD i mD))), .bool true] ∧ H' = []) := by
  have h0 := reopen_some_v l st tk hl i hi h
  simp only [List.append_assoc] at h0
  have h1 := weakMid (flatA encM (l.take i)) (flatA encM (l.drop (i + 1))) ([AV.str (l.getD i mD).st, AV.str (l.getD i mD).tk, AV.int .i64 (l.getD i mD).ver, .bool true, .int .i64 0, .int .i64 0, .str (ByteArray.mk #[]), .int .i64 0, .int .i64 0] ++ [AV.nilsl]) ([AV.str (l.getD i mD).st, AV.str (l.getD i mD).tk, AV.int .i64 (l.getD i mD).ver, .bool true, .int .i64 0, .int .i64 0, .str (ByteArray.mk #[]), .int .i64 0, .int .i64 0] ++ [AV.slv 0 1 []]) h0 rfl (weakTen _ rfl)
  exact byMarksT _ h1 (flat_mid _ _ (zeroM (l.getD i mD))).symm (setL_len l i _ hi).symm
theorem refReopS_v (i : Nat) (hi : i < l.length) (h : ixL st tk 0 l = (i : Int)) : CallsV Try.prog 19 [marksV l, .agg [.str st, .str tk]] [] (fun av H' => av = .tuple [marksV (setL l i (zeroM (l.getD i mD))), .bool true] ∧ H' = []) := by
  have h0 := refReopen_some_v l st tk hl i hi h
  have h1 := weakMid (flatA encM (l.take i)) (flatA encM (l.drop (i + 1))) ([AV.str (l.getD i mD).st, AV.str (l.getD i mD).tk, AV.int .i64 (l.getD i mD).ver, .bool true, .int .i64 0, .int .i64 0, .str (ByteArray.mk #[]), .int .i64 0, .int .i64 0] ++ [AV.nilsl]) ([AV.str (l.getD i mD).st, AV.str (l.getD i mD).tk, AV.int .i64 (l.getD i mD).ver, .bool true, .int .i64 0, .int .i64 0, .str (ByteArray.mk #[]), .int .i64 0, .int .i64 0] ++ [AV.slv 0 1 []]) h0 rfl (weakTen _ rfl)
  exact byMarksT _ h1 (flat_mid _ _ (zeroM (l.getD i mD))).symm (setL_len l i _ hi).symm
theorem reopN_v (h : ixL st tk 0 l = -1) : CallsV Try.prog 18 [marksV l, .agg [.str st, .str tk]] [] (fun av H' => av = .tuple [marksV l, .bool false] ∧ H' = []) := by
  rcases Nat.eq_zero_or_pos l.length with h0 | h0
  · obtain rfl := List.eq_nil_of_length_eq_zero h0
    exact nilMarksT (reopen_nil_v st tk)
  · exact byMarksT l (reopen_none_v l st tk hl h0 h) rfl rfl
theorem compS_v (i : Nat) (hi : i < l.length) (h : ixL st tk 0 l = (i : Int)) (g : Mk) (hg : OkM g) (hp : (l.getD i mD).pend = true) : CallsV Try.prog 20 [marksV l, .agg [.str st, .str tk], .agg (gradeA g)] [] (fun av H' => av = .tuple [marksV (setL l i (putG (l.getD i mD) g)), .bool true] ∧ H' = []) :=
  byMarksT _ (complete_some_v l st tk hl i hi h g hg hp) rfl (setL_len l i _ hi).symm
theorem refCompS_v (i : Nat) (hi : i < l.length) (h : ixL st tk 0 l = (i : Int)) (g : Mk) (hg : OkM g) (hp : (l.getD i mD).pend = true) : CallsV Try.prog 21 [marksV l, .agg [.str st, .str tk], .agg (gradeA g)] [] (fun av H' => av = .tuple [marksV (setL l i (putG (l.getD i mD) g)), .bool true] ∧ H' = []) :=
  byMarksT _ (refComplete_some_v l st tk hl i hi h g hg hp) (flat_mid _ _ (putG (l.getD i mD) g)).symm (setL_len l i _ hi).symm
theorem compN_v (h : ixL st tk 0 l = -1) (g : Mk) : CallsV Try.prog 20 [marksV l, .agg [.str st, .str tk], .agg (gradeA g)] [] (fun av H' => av = .tuple [marksV l, .bool false] ∧ H' = []) := by
  rcases Nat.eq_zero_or_pos l.length with h0 | h0
  · obtain rfl := List.eq_nil_of_length_eq_zero h0
    exact nilMarksT (complete_nil_v st tk g)
  · exact byMarksT l (complete_none_v l st tk hl h0 h g) rfl rfl
theorem compF_v (i : Nat) (hi : i < l.length) (h : ixL st tk 0 l = (i : Int)) (g : Mk) (hp : (l.getD i mD).pend = false) : CallsV Try.prog 20 [marksV l, .agg [.str st, .str tk], .agg (gradeA g)] [] (fun av H' => av = .tuple [marksV l, .bool false] ∧ H' = []) :=
  byMarksT l (complete_not_v l st tk hl i hi h g hp) rfl rfl
theorem refReopN_v (h : ixL st tk 0 l = -1) : CallsV Try.prog 19 [marksV l, .agg [.str st, .str tk]] [] (fun av H' => av = .tuple [.sl 0 0 l.length 10, .bool false] ∧ H' = [.row 38 (flatA encM l)]) := by
  refine callsV_at Try.func19 (by kernel_rfl) ?_
  have hB := hl.1
  have noev := trivial
  refine Q_seq ?_
  let z1 : List (Nat × AV) := [(0, marksV l), (1, .agg [.str st, .str tk]), (3, .ptr 0 0), (4, .nilsl), (5, .bool false)]
  refine Q_run [0, 1, 3, 4, 5, 6, 7, 14] (stOf 26 z1 [.row 31 [.str st, .str tk]]) ?_
  refine k_then ?_
  refine Q_seq ?_
  refine Q_reg ?_
  refine N_run 1 (True) [1, 2] (stOf 26 (z1 ++ [(8, marksV l)]) [.row 31 [.str st, .str tk]]) trivial ?_
  refine n_append 23 38 10 120 0 l.length (k := none) [] (flatA encM l) (.const (.slice none 0 0)) (.tmp 8) _ (by kernel_rfl) (by kernel_rfl) (by kernel_rfl) (Or.inl ⟨rfl, rfl, rfl, rfl⟩) (Or.inl rfl) (by omega) (by unfold maxLen; omega) rfl ?_
  refine n_set 9 (.sl 1 0 (0 + l.length) 10) (.sl 1 0 l.length 10) (by kernel_rfl) (by rw [Nat.zero_add]) ?_
  refine N_run 1 (True) [] (stOf 26 (z1 ++ [(6, .sl 1 0 l.length 10), (8, marksV l), (9, .sl 1 0 l.length 10)]) [.row 31 [.str st, .str tk], .row 38 ([] ++ flatA encM l)]) trivial ?_
  refine N_sel [0, 1, 3, 4, 5, 6, 7, 14] (stOf 26 (z1 ++ [(6, .sl 1 0 l.length 10)]) [.row 31 [.str st, .str tk], .row 38 ([] ++ flatA encM l)]) ?_
  refine k_then ?_
  refine Q_seq ?_
  refine Q_reg ?_
  refine N_run 2 (2 ≤ 2) [2, 3] (stOf 26 (z1 ++ [(6, .sl 1 0 l.length 10), (10, marksV l), (11, .agg [.str st, .str tk])]) [.row 31 [.str st, .str tk], .row 38 ([] ++ flatA encM l)]) (by exact by omega) ?_
  refine n_callp 31 [marksV l, AV.agg [AV.str st, AV.str tk]] (AV.int .i64 (ixL st tk 0 l)) (stOf 26 (z1 ++ [(6, .sl 1 0 l.length 10), (10, marksV l), (11, .agg [.str st, .str tk]), (12, .int .i64 (ixL st tk 0 l))]) [.row 31 [.str st, .str tk], .row 38 ([] ++ flatA encM l)]) (by kernel_rfl) (by kernel_rfl) (by kernel_rfl) (by kernel_rfl) (place_v l st tk hl ) ?_
  refine n_set 12 (AV.int .i64 (ixL st tk 0 l)) (AV.int .i64 (-1)) (by kernel_rfl) (by rw [h] <;> rfl) ?_
  refine N_run 1 (True) [] (stOf 26 (z1 ++ [(6, .sl 1 0 l.length 10), (7, .int .i64 (-1)), (10, marksV l), (11, .agg [.str st, .str tk]), (12, .int .i64 (-1))]) [.row 31 [.str st, .str tk], .row 38 ([] ++ flatA encM l)]) trivial ?_
  refine N_sel [0, 1, 3, 4, 5, 6, 7, 14] (stOf 26 (z1 ++ [(6, .sl 1 0 l.length 10), (7, .int .i64 (-1))]) [.row 31 [.str st, .str tk], .row 38 ([] ++ flatA encM l)]) ?_
  refine k_then ?_
  refine Q_seq ?_
  refine Q_seq ?_
  refine Q_run [0, 1, 3, 4, 5, 6, 7, 14] (stOf 26 (z1 ++ [(6, .sl 1 0 l.length 10), (7, .int .i64 (-1)), (14, .bool true)]) [.row 31 [.str st, .str tk], .row 38 ([] ++ flatA encM l)]) ?_
  refine k_then ?_
  refine q_yes (by kernel_rfl) true (by kernel_rfl) rfl ?_
  refine Q_seq ?_
  refine Q_run [0, 1, 3, 4, 5, 6, 7, 14] (stOf 26 [(0, marksV l), (1, .agg [.str st, .str tk]), (3, .ptr 0 0), (4, .sl 1 0 l.length 10), (5, .bool false), (6, .sl 1 0 l.length 10), (7, .int .i64 (-1)), (14, .bool true)] [.row 31 [.str st, .str tk], .row 38 ([] ++ flatA encM l)]) ?_
  refine k_then ?_
  refine q_ret (by kernel_rfl) ?_
  refine k_thenr ?_
  exact k_fin True (.tuple [.sl 1 0 l.length 10, .bool false]) [1] [.row 38 (flatA encM l)] (.tuple [.sl 0 0 l.length 10, .bool false]) (by kernel_rfl) (by kernel_rfl) (by kernel_rfl) trivial (keep_row 1 38 _ rfl (noidM l)) ⟨rfl, rfl⟩
theorem refCompN_v (h : ixL st tk 0 l = -1) (g : Mk) : CallsV Try.prog 21 [marksV l, .agg [.str st, .str tk], .agg (gradeA g)] [] (fun av H' => av = .tuple [.sl 0 0 l.length 10, .bool false] ∧ H' = [.row 38 (flatA encM l)]) := by
  refine callsV_at Try.func21 (by kernel_rfl) ?_
  have hB := hl.1
  have noev := trivial
  have norow := trivial
  refine Q_seq ?_
  refine Q_reg ?_
  let z2 : List (Nat × AV) := [(0, marksV l), (1, .agg [.str st, .str tk]), (2, .agg [.int .i64 g.kind, .int .i64 g.err, .str g.path, .int .i64 g.at', .int .i64 g.score, .slv g.verd.length 1 (List.map (.int .i64) g.verd)]), (4, .ptr 0 0), (5, .ptr 1 0), (6, .nilsl), (7, .bool false)]
  refine N_run 4 (True) [] (stOf 36 z2 [.row 31 [.str st, .str tk], .row 36 [.int .i64 g.kind, .int .i64 g.err, .str g.path, .int .i64 g.at', .int .i64 g.score, .slv g.verd.length 1 (List.map (.int .i64) g.verd)]]) trivial ?_
  refine N_sel [0, 1, 2, 4, 5, 6, 7, 8, 9, 24] (stOf 36 z2 [.row 31 [.str st, .str tk], .row 36 [.int .i64 g.kind, .int .i64 g.err, .str g.path, .int .i64 g.at', .int .i64 g.score, .slv g.verd.length 1 (List.map (.int .i64) g.verd)]]) ?_
  refine k_then ?_
  refine Q_seq ?_
  refine Q_reg ?_
  refine N_run 1 (True) [1, 2] (stOf 36 (z2 ++ [(10, marksV l)]) [.row 31 [.str st, .str tk], .row 36 [.int .i64 g.kind, .int .i64 g.err, .str g.path, .int .i64 g.at', .int .i64 g.score, .slv g.verd.length 1 (List.map (.int .i64) g.verd)]]) trivial ?_
  refine n_append 23 38 10 120 0 l.length (k := none) [] (flatA encM l) (.const (.slice none 0 0)) (.tmp 10) _ (by kernel_rfl) (by kernel_rfl) (by kernel_rfl) (Or.inl ⟨rfl, rfl, rfl, rfl⟩) (Or.inl rfl) (by omega) (by unfold maxLen; omega) rfl ?_
  refine n_set 11 (.sl 2 0 (0 + l.length) 10) (.sl 2 0 l.length 10) (by kernel_rfl) (by rw [Nat.zero_add]) ?_
  refine N_run 1 (True) [] (stOf 36 (z2 ++ [(8, .sl 2 0 l.length 10), (10, marksV l), (11, .sl 2 0 l.length 10)]) [.row 31 [.str st, .str tk], .row 36 [.int .i64 g.kind, .int .i64 g.err, .str g.path, .int .i64 g.at', .int .i64 g.score, .slv g.verd.length 1 (List.map (.int .i64) g.verd)], .row 38 ([] ++ flatA encM l)]) trivial ?_
  refine N_sel [0, 1, 2, 4, 5, 6, 7, 8, 9, 24] (stOf 36 (z2 ++ [(8, .sl 2 0 l.length 10)]) [.row 31 [.str st, .str tk], .row 36 [.int .i64 g.kind, .int .i64 g.err, .str g.path, .int .i64 g.at', .int .i64 g.score, .slv g.verd.length 1 (List.map (.int .i64) g.verd)], .row 38 ([] ++ flatA encM l)]) ?_
  refine k_then ?_
  refine Q_seq ?_
  refine Q_reg ?_
  refine N_run 1 (True) [1, 2, 3] (stOf 36 (z2 ++ [(8, .sl 2 0 l.length 10), (12, marksV l)]) [.row 31 [.str st, .str tk], .row 36 [.int .i64 g.kind, .int .i64 g.err, .str g.path, .int .i64 g.at', .int .i64 g.score, .slv g.verd.length 1 (List.map (.int .i64) g.verd)], .row 38 ([] ++ flatA encM l)]) trivial ?_
  refine N_run 1 (2 ≤ 2) [2, 3] (stOf 36 (z2 ++ [(8, .sl 2 0 l.length 10), (12, marksV l), (13, .agg [.str st, .str tk])]) [.row 31 [.str st, .str tk], .row 36 [.int .i64 g.kind, .int .i64 g.err, .str g.path, .int .i64 g.at', .int .i64 g.score, .slv g.verd.length 1 (List.map (.int .i64) g.verd)], .row 38 ([] ++ flatA encM l)]) (by exact by omega) ?_
  refine n_callp 31 [marksV l, AV.agg [AV.str st, AV.str tk]] (AV.int .i64 (ixL st tk 0 l)) (stOf 36 (z2 ++ [(8, .sl 2 0 l.length 10), (12, marksV l), (13, .agg [.str st, .str tk]), (14, .int .i64 (ixL st tk 0 l))]) [.row 31 [.str st, .str tk], .row 36 [.int .i64 g.kind, .int .i64 g.err, .str g.path, .int .i64 g.at', .int .i64 g.score, .slv g.verd.length 1 (List.map (.int .i64) g.verd)], .row 38 ([] ++ flatA encM l)]) (by kernel_rfl) (by kernel_rfl) (by kernel_rfl) (by kernel_rfl) (place_v l st tk hl ) ?_
  refine n_set 14 (AV.int .i64 (ixL st tk 0 l)) (AV.int .i64 (-1)) (by kernel_rfl) (by rw [h] <;> rfl) ?_
  refine N_run 1 (True) [] (stOf 36 (z2 ++ [(8, .sl 2 0 l.length 10), (9, .int .i64 (-1)), (12, marksV l), (13, .agg [.str st, .str tk]), (14, .int .i64 (-1))]) [.row 31 [.str st, .str tk], .row 36 [.int .i64 g.kind, .int .i64 g.err, .str g.path, .int .i64 g.at', .int .i64 g.score, .slv g.verd.length 1 (List.map (.int .i64) g.verd)], .row 38 ([] ++ flatA encM l)]) trivial ?_
  refine N_sel [0, 1, 2, 4, 5, 6, 7, 8, 9, 24] (stOf 36 (z2 ++ [(8, .sl 2 0 l.length 10), (9, .int .i64 (-1))]) [.row 31 [.str st, .str tk], .row 36 [.int .i64 g.kind, .int .i64 g.err, .str g.path, .int .i64 g.at', .int .i64 g.score, .slv g.verd.length 1 (List.map (.int .i64) g.verd)], .row 38 ([] ++ flatA encM l)]) ?_
  refine k_then ?_
  refine Q_seq ?_
  refine Q_seq ?_
  refine Q_reg ?_
  refine N_run 3 (True) [3, 4, 5, 6, 7, 8, 9] (stOf 36 (z2 ++ [(8, .sl 2 0 l.length 10), (9, .int .i64 (-1)), (15, .int .i64 (-1)), (16, .bool true), (17, .bool true)]) [.row 31 [.str st, .str tk], .row 36 [.int .i64 g.kind, .int .i64 g.err, .str g.path, .int .i64 g.at', .int .i64 g.score, .slv g.verd.length 1 (List.map (.int .i64) g.verd)], .row 38 ([] ++ flatA encM l)]) trivial ?_
  refine n_skip (stOf 36 (z2 ++ [(8, .sl 2 0 l.length 10), (9, .int .i64 (-1)), (15, .int .i64 (-1)), (16, .bool true), (17, .bool true), (18, .cnd false (.bool false))]) [.row 31 [.str st, .str tk], .row 36 [.int .i64 g.kind, .int .i64 g.err, .str g.path, .int .i64 g.at', .int .i64 g.score, .slv g.verd.length 1 (List.map (.int .i64) g.verd)], .row 38 ([] ++ flatA encM l)]) (by kernel_rfl) (by kernel_rfl) (by kernel_rfl) ?_
  refine n_skip (stOf 36 (z2 ++ [(8, .sl 2 0 l.length 10), (9, .int .i64 (-1)), (15, .int .i64 (-1)), (16, .bool true), (17, .bool true), (18, .cnd false (.bool false)), (19, .cnd false (.bool false))]) [.row 31 [.str st, .str tk], .row 36 [.int .i64 g.kind, .int .i64 g.err, .str g.path, .int .i64 g.at', .int .i64 g.score, .slv g.verd.length 1 (List.map (.int .i64) g.verd)], .row 38 ([] ++ flatA encM l)]) (by kernel_rfl) (by kernel_rfl) (by kernel_rfl) ?_
  refine n_skip (stOf 36 (z2 ++ [(8, .sl 2 0 l.length 10), (9, .int .i64 (-1)), (15, .int .i64 (-1)), (16, .bool true), (17, .bool true), (18, .cnd false (.bool false)), (19, .cnd false (.bool false)), (20, .cnd false (.bool false))]) [.row 31 [.str st, .str tk], .row 36 [.int .i64 g.kind, .int .i64 g.err, .str g.path, .int .i64 g.at', .int .i64 g.score, .slv g.verd.length 1 (List.map (.int .i64) g.verd)], .row 38 ([] ++ flatA encM l)]) (by kernel_rfl) (by kernel_rfl) (by kernel_rfl) ?_
  refine n_skip (stOf 36 (z2 ++ [(8, .sl 2 0 l.length 10), (9, .int .i64 (-1)), (15, .int .i64 (-1)), (16, .bool true), (17, .bool true), (18, .cnd false (.bool false)), (19, .cnd false (.bool false)), (20, .cnd false (.bool false)), (21, .cnd false (.bool false))]) [.row 31 [.str st, .str tk], .row 36 [.int .i64 g.kind, .int .i64 g.err, .str g.path, .int .i64 g.at', .int .i64 g.score, .slv g.verd.length 1 (List.map (.int .i64) g.verd)], .row 38 ([] ++ flatA encM l)]) (by kernel_rfl) (by kernel_rfl) (by kernel_rfl) ?_
  refine n_skip (stOf 36 (z2 ++ [(8, .sl 2 0 l.length 10), (9, .int .i64 (-1)), (15, .int .i64 (-1)), (16, .bool true), (17, .bool true), (18, .cnd false (.bool false)), (19, .cnd false (.bool false)), (20, .cnd false (.bool false)), (21, .cnd false (.bool false)), (22, .cnd false (.bool false))]) [.row 31 [.str st, .str tk], .row 36 [.int .i64 g.kind, .int .i64 g.err, .str g.path, .int .i64 g.at', .int .i64 g.score, .slv g.verd.length 1 (List.map (.int .i64) g.verd)], .row 38 ([] ++ flatA encM l)]) (by kernel_rfl) (by kernel_rfl) (by kernel_rfl) ?_
  refine n_skip (stOf 36 (z2 ++ [(8, .sl 2 0 l.length 10), (9, .int .i64 (-1)), (15, .int .i64 (-1)), (16, .bool true), (17, .bool true), (18, .cnd false (.bool false)), (19, .cnd false (.bool false)), (20, .cnd false (.bool false)), (21, .cnd false (.bool false)), (22, .cnd false (.bool false)), (23, .cnd false (.bool false))]) [.row 31 [.str st, .str tk], .row 36 [.int .i64 g.kind, .int .i64 g.err, .str g.path, .int .i64 g.at', .int .i64 g.score, .slv g.verd.length 1 (List.map (.int .i64) g.verd)], .row 38 ([] ++ flatA encM l)]) (by kernel_rfl) (by kernel_rfl) (by kernel_rfl) ?_
  refine N_run 1 (true = false → false = true) [] (stOf 36 (z2 ++ [(8, .sl 2 0 l.length 10), (9, .int .i64 (-1)), (15, .int .i64 (-1)), (16, .bool true), (17, .bool true), (18, .cnd false (.bool false)), (19, .cnd false (.bool false)), (20, .cnd false (.bool false)), (21, .cnd false (.bool false)), (22, .cnd false (.bool false)), (23, .cnd false (.bool false)), (24, .bool true)]) [.row 31 [.str st, .str tk], .row 36 [.int .i64 g.kind, .int .i64 g.err, .str g.path, .int .i64 g.at', .int .i64 g.score, .slv g.verd.length 1 (List.map (.int .i64) g.verd)], .row 38 ([] ++ flatA encM l)]) (by exact by decide) ?_
  refine N_sel [0, 1, 2, 4, 5, 6, 7, 8, 9, 24] (stOf 36 (z2 ++ [(8, .sl 2 0 l.length 10), (9, .int .i64 (-1)), (24, .bool true)]) [.row 31 [.str st, .str tk], .row 36 [.int .i64 g.kind, .int .i64 g.err, .str g.path, .int .i64 g.at', .int .i64 g.score, .slv g.verd.length 1 (List.map (.int .i64) g.verd)], .row 38 ([] ++ flatA encM l)]) ?_
  refine k_then ?_
  refine q_yes (by kernel_rfl) true (by kernel_rfl) rfl ?_
  refine Q_seq ?_
  refine Q_reg ?_
  let z3 : List (Nat × AV) := [(0, marksV l), (1, .agg [.str st, .str tk]), (2, .agg [.int .i64 g.kind, .int .i64 g.err, .str g.path, .int .i64 g.at', .int .i64 g.score, .slv g.verd.length 1 (List.map (.int .i64) g.verd)]), (4, .ptr 0 0), (5, .ptr 1 0), (6, .sl 2 0 l.length 10), (7, .bool false), (8, .sl 2 0 l.length 10), (9, .int .i64 (-1)), (24, .bool true)]
  refine N_run 3 (True) [] (stOf 36 (z3 ++ [(25, .sl 2 0 l.length 10)]) [.row 31 [.str st, .str tk], .row 36 [.int .i64 g.kind, .int .i64 g.err, .str g.path, .int .i64 g.at', .int .i64 g.score, .slv g.verd.length 1 (List.map (.int .i64) g.verd)], .row 38 ([] ++ flatA encM l)]) trivial ?_
  refine N_sel [0, 1, 2, 4, 5, 6, 7, 8, 9, 24] (stOf 36 z3 [.row 31 [.str st, .str tk], .row 36 [.int .i64 g.kind, .int .i64 g.err, .str g.path, .int .i64 g.at', .int .i64 g.score, .slv g.verd.length 1 (List.map (.int .i64) g.verd)], .row 38 ([] ++ flatA encM l)]) ?_
  refine k_then ?_
  refine q_ret (by kernel_rfl) ?_
  refine k_thenr ?_
  exact k_fin True (.tuple [.sl 2 0 l.length 10, .bool false]) [2] [.row 38 (flatA encM l)] (.tuple [.sl 0 0 l.length 10, .bool false]) (by kernel_rfl) (by kernel_rfl) (by kernel_rfl) trivial (keep_row 2 38 _ rfl (noidM l)) ⟨rfl, rfl⟩
theorem refCompF_v (i : Nat) (hi : i < l.length) (h : ixL st tk 0 l = (i : Int)) (g : Mk) (hp : (l.getD i mD).pend = false) : CallsV Try.prog 21 [marksV l, .agg [.str st, .str tk], .agg (gradeA g)] [] (fun av H' => av = .tuple [.sl 0 0 l.length 10, .bool false] ∧ H' = [.row 38 (flatA encM l)]) := by
  refine callsV_at Try.func21 (by kernel_rfl) ?_
  have hB := hl.1
  have hd := marks_at l i hi
  have hlt : decide ((i : Int) < 0) = false := by rw [decide_eq_false_iff_not]; omega
  have noev := trivial
  refine Q_seq ?_
  let z4 : List (Nat × AV) := [(0, marksV l), (1, .agg [.str st, .str tk]), (2, .agg [.int .i64 g.kind, .int .i64 g.err, .str g.path, .int .i64 g.at', .int .i64 g.score, .slv g.verd.length 1 (List.map (.int .i64) g.verd)]), (4, .ptr 0 0), (5, .ptr 1 0), (6, .nilsl), (7, .bool false)]
  refine Q_run [0, 1, 2, 4, 5, 6, 7, 8, 9, 24] (stOf 36 z4 [.row 31 [.str st, .str tk], .row 36 [.int .i64 g.kind, .int .i64 g.err, .str g.path, .int .i64 g.at', .int .i64 g.score, .slv g.verd.length 1 (List.map (.int .i64) g.verd)]]) ?_
  refine k_then ?_
  refine Q_seq ?_
  refine Q_reg ?_
  refine N_run 1 (True) [1, 2] (stOf 36 (z4 ++ [(10, marksV l)]) [.row 31 [.str st, .str tk], .row 36 [.int .i64 g.kind, .int .i64 g.err, .str g.path, .int .i64 g.at', .int .i64 g.score, .slv g.verd.length 1 (List.map (.int .i64) g.verd)]]) trivial ?_
  refine n_append 23 38 10 120 0 l.length (k := none) [] (flatA encM l) (.const (.slice none 0 0)) (.tmp 10) _ (by kernel_rfl) (by kernel_rfl) (by kernel_rfl) (Or.inl ⟨rfl, rfl, rfl, rfl⟩) (Or.inl rfl) (by omega) (by unfold maxLen; omega) rfl ?_
  refine n_set 11 (.sl 2 0 (0 + l.length) 10) (.sl 2 0 l.length 10) (by kernel_rfl) (by rw [Nat.zero_add]) ?_
  refine N_run 1 (True) [] (stOf 36 (z4 ++ [(8, .sl 2 0 l.length 10), (10, marksV l), (11, .sl 2 0 l.length 10)]) [.row 31 [.str st, .str tk], .row 36 [.int .i64 g.kind, .int .i64 g.err, .str g.path, .int .i64 g.at', .int .i64 g.score, .slv g.verd.length 1 (List.map (.int .i64) g.verd)], .row 38 ([] ++ flatA encM l)]) trivial ?_
  refine N_sel [0, 1, 2, 4, 5, 6, 7, 8, 9, 24] (stOf 36 (z4 ++ [(8, .sl 2 0 l.length 10)]) [.row 31 [.str st, .str tk], .row 36 [.int .i64 g.kind, .int .i64 g.err, .str g.path, .int .i64 g.at', .int .i64 g.score, .slv g.verd.length 1 (List.map (.int .i64) g.verd)], .row 38 ([] ++ flatA encM l)]) ?_
  refine k_then ?_
  refine Q_seq ?_
  refine Q_reg ?_
  refine N_run 2 (2 ≤ 2) [2, 3] (stOf 36 (z4 ++ [(8, .sl 2 0 l.length 10), (12, marksV l), (13, .agg [.str st, .str tk])]) [.row 31 [.str st, .str tk], .row 36 [.int .i64 g.kind, .int .i64 g.err, .str g.path, .int .i64 g.at', .int .i64 g.score, .slv g.verd.length 1 (List.map (.int .i64) g.verd)], .row 38 ([] ++ flatA encM l)]) (by exact by omega) ?_
  refine n_callp 31 [marksV l, AV.agg [AV.str st, AV.str tk]] (AV.int .i64 (ixL st tk 0 l)) (stOf 36 (z4 ++ [(8, .sl 2 0 l.length 10), (12, marksV l), (13, .agg [.str st, .str tk]), (14, .int .i64 (ixL st tk 0 l))]) [.row 31 [.str st, .str tk], .row 36 [.int .i64 g.kind, .int .i64 g.err, .str g.path, .int .i64 g.at', .int .i64 g.score, .slv g.verd.length 1 (List.map (.int .i64) g.verd)], .row 38 ([] ++ flatA encM l)]) (by kernel_rfl) (by kernel_rfl) (by kernel_rfl) (by kernel_rfl) (place_v l st tk hl ) ?_
  refine n_set 14 (AV.int .i64 (ixL st tk 0 l)) (AV.int .i64 (↑i : Int)) (by kernel_rfl) (by rw [h] <;> rfl) ?_
  refine N_run 1 (True) [] (stOf 36 (z4 ++ [(8, .sl 2 0 l.length 10), (9, .int .i64 (↑i : Int)), (12, marksV l), (13, .agg [.str st, .str tk]), (14, .int .i64 (↑i : Int))]) [.row 31 [.str st, .str tk], .row 36 [.int .i64 g.kind, .int .i64 g.err, .str g.path, .int .i64 g.at', .int .i64 g.score, .slv g.verd.length 1 (List.map (.int .i64) g.verd)], .row 38 ([] ++ flatA encM l)]) trivial ?_
  refine N_sel [0, 1, 2, 4, 5, 6, 7, 8, 9, 24] (stOf 36 (z4 ++ [(8, .sl 2 0 l.length 10), (9, .int .i64 (↑i : Int))]) [.row 31 [.str st, .str tk], .row 36 [.int .i64 g.kind, .int .i64 g.err, .str g.path, .int .i64 g.at', .int .i64 g.score, .slv g.verd.length 1 (List.map (.int .i64) g.verd)], .row 38 ([] ++ flatA encM l)]) ?_
  refine k_then ?_
  refine Q_seq ?_
  refine Q_seq ?_
  refine Q_reg ?_
  refine N_run 6 (((decide ((↑i : Int) < (0 : Int)) == false) = true → (decide ((↑i : Int) < (0 : Int)) == false) = true) ∧ ((decide ((↑i : Int) < (0 : Int)) == false) = true → (decide ((↑i : Int) < (0 : Int)) == false) = true) ∧ ((decide ((↑i : Int) < (0 : Int)) == false) = true → (0 : Int) ≤ (↑i : Int) ∧ (↑i : Int) < (↑l.length : Int))) [6, 7, 8, 9] (stOf 36 (z4 ++ [(8, .sl 2 0 l.length 10), (9, .int .i64 (↑i : Int)), (15, .int .i64 (↑i : Int)), (16, .bool (decide ((↑i : Int) < (0 : Int)))), (17, .bool (decide ((↑i : Int) < (0 : Int)))), (18, .cnd (decide ((↑i : Int) < (0 : Int)) == false) (marksV l)), (19, .cnd (decide ((↑i : Int) < (0 : Int)) == false) (.int .i64 (↑i : Int))), (20, .cnd (decide ((↑i : Int) < (0 : Int)) == false) (.fptr (List.drop ((↑i : Int).toNat * 10) (flatA encM l))))]) [.row 31 [.str st, .str tk], .row 36 [.int .i64 g.kind, .int .i64 g.err, .str g.path, .int .i64 g.at', .int .i64 g.score, .slv g.verd.length 1 (List.map (.int .i64) g.verd)], .row 38 ([] ++ flatA encM l)]) (by exact ⟨fun h => h, fun h => h, by omega⟩) ?_
  refine n_set 16 (AV.bool (decide ((↑i : Int) < (0 : Int)))) (AV.bool false) (by kernel_rfl) (by rw [hlt] <;> rfl) ?_
  refine n_set 17 (AV.bool (decide ((↑i : Int) < (0 : Int)))) (AV.bool false) (by kernel_rfl) (by rw [hlt] <;> rfl) ?_
  refine n_set 18 (AV.cnd (decide ((↑i : Int) < (0 : Int)) == false) (marksV l)) (AV.cnd true (marksV l)) (by kernel_rfl) (by rw [hlt] <;> rfl) ?_
  refine n_set 19 (AV.cnd (decide ((↑i : Int) < (0 : Int)) == false) (AV.int .i64 (↑i : Int))) (AV.cnd true (AV.int .i64 (↑i : Int))) (by kernel_rfl) (by rw [hlt] <;> rfl) ?_
  refine n_set 20 (AV.cnd (decide ((↑i : Int) < (0 : Int)) == false) (AV.fptr (List.drop ((↑i : Int).toNat * 10) (flatA encM l)))) (AV.cnd true (AV.fptr (List.drop ((↑i : Int).toNat * 10) (flatA encM l)))) (by kernel_rfl) (by rw [hlt] <;> rfl) ?_
  refine n_set 20 (AV.cnd true (AV.fptr (List.drop ((↑i : Int).toNat * 10) (flatA encM l)))) (AV.cnd true (AV.fptr (AV.str (l.getD i mD).st :: AV.str (l.getD i mD).tk :: AV.int .i64 (l.getD i mD).ver :: AV.bool (l.getD i mD).pend :: AV.int .i64 (l.getD i mD).kind :: AV.int .i64 (l.getD i mD).err :: AV.str (l.getD i mD).path :: AV.int .i64 (l.getD i mD).at' :: AV.int .i64 (l.getD i mD).score :: AV.slv (l.getD i mD).verd.length 1 (List.map (AV.int .i64) (l.getD i mD).verd) :: flatA encM (List.drop (i + 1) l)))) (by kernel_rfl) (by rw [hd] <;> rfl) ?_
  refine n_set 20 (AV.cnd true (AV.fptr (AV.str (l.getD i mD).st :: AV.str (l.getD i mD).tk :: AV.int .i64 (l.getD i mD).ver :: AV.bool (l.getD i mD).pend :: AV.int .i64 (l.getD i mD).kind :: AV.int .i64 (l.getD i mD).err :: AV.str (l.getD i mD).path :: AV.int .i64 (l.getD i mD).at' :: AV.int .i64 (l.getD i mD).score :: AV.slv (l.getD i mD).verd.length 1 (List.map (AV.int .i64) (l.getD i mD).verd) :: flatA encM (List.drop (i + 1) l)))) (AV.cnd true (AV.fptr (AV.str (l.getD i mD).st :: AV.str (l.getD i mD).tk :: AV.int .i64 (l.getD i mD).ver :: AV.bool false :: AV.int .i64 (l.getD i mD).kind :: AV.int .i64 (l.getD i mD).err :: AV.str (l.getD i mD).path :: AV.int .i64 (l.getD i mD).at' :: AV.int .i64 (l.getD i mD).score :: AV.slv (l.getD i mD).verd.length 1 (List.map (AV.int .i64) (l.getD i mD).verd) :: flatA encM (List.drop (i + 1) l)))) (by kernel_rfl) (by rw [hp] <;> rfl) ?_
  refine N_run 2 (((false == false) = true → true = true) ∧ ((false == false) = true → (false == false) = true) ∧ ((false == false) = true → 1 ≤ (List.drop 3 (AV.str (l.getD i mD).st :: AV.str (l.getD i mD).tk :: AV.int .i64 (l.getD i mD).ver :: AV.bool false :: AV.int .i64 (l.getD i mD).kind :: AV.int .i64 (l.getD i mD).err :: AV.str (l.getD i mD).path :: AV.int .i64 (l.getD i mD).at' :: AV.int .i64 (l.getD i mD).score :: AV.slv (l.getD i mD).verd.length 1 (List.map (AV.int .i64) (l.getD i mD).verd) :: flatA encM (List.drop (i + 1) l))).length)) [8, 9] (stOf 36 (z4 ++ [(8, .sl 2 0 l.length 10), (9, .int .i64 (↑i : Int)), (15, .int .i64 (↑i : Int)), (16, .bool false), (17, .bool false), (18, .cnd true (marksV l)), (19, .cnd true (.int .i64 (↑i : Int))), (20, .cnd true (.fptr (.str (l.getD i mD).st :: .str (l.getD i mD).tk :: .int .i64 (l.getD i mD).ver :: .bool false :: .int .i64 (l.getD i mD).kind :: .int .i64 (l.getD i mD).err :: .str (l.getD i mD).path :: .int .i64 (l.getD i mD).at' :: .int .i64 (l.getD i mD).score :: .slv (l.getD i mD).verd.length 1 (List.map (.int .i64) (l.getD i mD).verd) :: flatA encM (List.drop (i + 1) l)))), (21, .cnd true (.fptr (.bool false :: .int .i64 (l.getD i mD).kind :: .int .i64 (l.getD i mD).err :: .str (l.getD i mD).path :: .int .i64 (l.getD i mD).at' :: .int .i64 (l.getD i mD).score :: .slv (l.getD i mD).verd.length 1 (List.map (.int .i64) (l.getD i mD).verd) :: flatA encM (List.drop (i + 1) l)))), (22, .cnd true (.bool false))]) [.row 31 [.str st, .str tk], .row 36 [.int .i64 g.kind, .int .i64 g.err, .str g.path, .int .i64 g.at', .int .i64 g.score, .slv g.verd.length 1 (List.map (.int .i64) g.verd)], .row 38 ([] ++ flatA encM l)]) (by exact ⟨fun h => h, fun h => h, by (simp; done)⟩) ?_
  refine N_run 2 (((false == false) = true → true = true) ∧ (false = false → (false == false) = true)) [] (stOf 36 (z4 ++ [(8, .sl 2 0 l.length 10), (9, .int .i64 (↑i : Int)), (15, .int .i64 (↑i : Int)), (16, .bool false), (17, .bool false), (18, .cnd true (marksV l)), (19, .cnd true (.int .i64 (↑i : Int))), (20, .cnd true (.fptr (.str (l.getD i mD).st :: .str (l.getD i mD).tk :: .int .i64 (l.getD i mD).ver :: .bool false :: .int .i64 (l.getD i mD).kind :: .int .i64 (l.getD i mD).err :: .str (l.getD i mD).path :: .int .i64 (l.getD i mD).at' :: .int .i64 (l.getD i mD).score :: .slv (l.getD i mD).verd.length 1 (List.map (.int .i64) (l.getD i mD).verd) :: flatA encM (List.drop (i + 1) l)))), (21, .cnd true (.fptr (.bool false :: .int .i64 (l.getD i mD).kind :: .int .i64 (l.getD i mD).err :: .str (l.getD i mD).path :: .int .i64 (l.getD i mD).at' :: .int .i64 (l.getD i mD).score :: .slv (l.getD i mD).verd.length 1 (List.map (.int .i64) (l.getD i mD).verd) :: flatA encM (List.drop (i + 1) l)))), (22, .cnd true (.bool false)), (23, .cnd true (.bool true)), (24, .bool true)]) [.row 31 [.str st, .str tk], .row 36 [.int .i64 g.kind, .int .i64 g.err, .str g.path, .int .i64 g.at', .int .i64 g.score, .slv g.verd.length 1 (List.map (.int .i64) g.verd)], .row 38 ([] ++ flatA encM l)]) (by exact ⟨fun h => h, by decide⟩) ?_
  refine N_sel [0, 1, 2, 4, 5, 6, 7, 8, 9, 24] (stOf 36 (z4 ++ [(8, .sl 2 0 l.length 10), (9, .int .i64 (↑i : Int)), (24, .bool true)]) [.row 31 [.str st, .str tk], .row 36 [.int .i64 g.kind, .int .i64 g.err, .str g.path, .int .i64 g.at', .int .i64 g.score, .slv g.verd.length 1 (List.map (.int .i64) g.verd)], .row 38 ([] ++ flatA encM l)]) ?_
  refine k_then ?_
  refine q_yes (by kernel_rfl) true (by kernel_rfl) rfl ?_
  refine Q_seq ?_
  refine Q_run [0, 1, 2, 4, 5, 6, 7, 8, 9, 24] (stOf 36 [(0, marksV l), (1, .agg [.str st, .str tk]), (2, .agg [.int .i64 g.kind, .int .i64 g.err, .str g.path, .int .i64 g.at', .int .i64 g.score, .slv g.verd.length 1 (List.map (.int .i64) g.verd)]), (4, .ptr 0 0), (5, .ptr 1 0), (6, .sl 2 0 l.length 10), (7, .bool false), (8, .sl 2 0 l.length 10), (9, .int .i64 (↑i : Int)), (24, .bool true)] [.row 31 [.str st, .str tk], .row 36 [.int .i64 g.kind, .int .i64 g.err, .str g.path, .int .i64 g.at', .int .i64 g.score, .slv g.verd.length 1 (List.map (.int .i64) g.verd)], .row 38 ([] ++ flatA encM l)]) ?_
  refine k_then ?_
  refine q_ret (by kernel_rfl) ?_
  refine k_thenr ?_
  exact k_fin True (.tuple [.sl 2 0 l.length 10, .bool false]) [2] [.row 38 (flatA encM l)] (.tuple [.sl 0 0 l.length 10, .bool false]) (by kernel_rfl) (by kernel_rfl) (by kernel_rfl) trivial (keep_row 2 38 _ rfl (noidM l)) ⟨rfl, rfl⟩
theorem subO_v (i : Nat) (hi : i < l.length) (h : ixL st tk 0 l = (i : Int)) : CallsV Try.prog 23 [marksV l, .agg [.str st, .str tk]] [] (fun av H' => av = marksV (setL l i (subM st tk (IntKind.i64.wrap ((l.getD i mD).ver + 1)))) ∧ H' = []) := by
  have h1 := weakMid (flatA encM (l.take i)) (flatA encM (l.drop (i + 1))) ([AV.str st, AV.str tk, AV.int .i64 (IntKind.i64.wrap ((l.getD i mD).ver + 1)), .bool true, .int .i64 0, .int .i64 0, .str (ByteArray.mk #[]), .int .i64 0, .int .i64 0] ++ [AV.nilsl]) ([AV.str st, AV.str tk, AV.int .i64 (IntKind.i64.wrap ((l.getD i mD).ver + 1)), .bool true, .int .i64 0, .int .i64 0, .str (ByteArray.mk #[]), .int .i64 0, .int .i64 0] ++ [AV.slv 0 1 []]) (submit_old_v l st tk hl i hi h) rfl (weakTen _ rfl)
  exact byMarks _ h1 (flat_mid _ _ (subM st tk (IntKind.i64.wrap ((l.getD i mD).ver + 1)))).symm (setL_len l i _ hi).symm
theorem refSubO_v (i : Nat) (hi : i < l.length) (h : ixL st tk 0 l = (i : Int)) : CallsV Try.prog 24 [marksV l, .agg [.str st, .str tk]] [] (fun av H' => av = marksV (setL l i (subM st tk (IntKind.i64.wrap ((l.getD i mD).ver + 1)))) ∧ H' = []) := by
  have h1 := weakMid (flatA encM (l.take i)) (flatA encM (l.drop (i + 1))) ([AV.str st, AV.str tk, AV.int .i64 (IntKind.i64.wrap ((l.getD i mD).ver + 1)), .bool true, .int .i64 0, .int .i64 0, .str (ByteArray.mk #[]), .int .i64 0, .int .i64 0] ++ [AV.nilsl]) ([AV.str st, AV.str tk, AV.int .i64 (IntKind.i64.wrap ((l.getD i mD).ver + 1)), .bool true, .int .i64 0, .int .i64 0, .str (ByteArray.mk #[]), .int .i64 0, .int .i64 0] ++ [AV.slv 0 1 []]) (refSubmit_old_v l st tk hl i hi h) rfl (weakTen _ rfl)
  exact byMarks _ h1 (flat_mid _ _ (subM st tk (IntKind.i64.wrap ((l.getD i mD).ver + 1)))).symm (setL_len l i _ hi).symm
theorem subM_v (hB : l.length ≤ 100000000) (h : ixL st tk 0 l = -1) (k : Nat) (hk : k < l.length) (hp : posL st tk 0 l = (k : Int)) : CallsV Try.prog 23 [marksV l, .agg [.str st, .str tk]] [] (fun av H' => av = marksV (insL l k (subM st tk 1)) ∧ H' = []) :=
  insRow l st tk k (by omega) (submit_mid_v l st tk hl hB (by omega) h k hk hp)
theorem subE_v (hB : l.length ≤ 100000000) (h : ixL st tk 0 l = -1) (hp : posL st tk 0 l = -1) : CallsV Try.prog 23 [marksV l, .agg [.str st, .str tk]] [] (fun av H' => av = marksV (insL l l.length (subM st tk 1)) ∧ H' = []) := by
  rcases Nat.eq_zero_or_pos l.length with h0 | h0
  · obtain rfl := List.eq_nil_of_length_eq_zero h0
    exact insRow [] st tk 0 (by simp) (submit_nil_v st tk)
  · refine insRow l st tk l.length (Nat.le_refl _) ?_
    have h1 := submit_end_v l st tk hl hB h0 h hp
    have e1 : (flatA encM l).take (l.length * 10) = flatA encM l := List.take_of_length_le (by rw [flatA_length lenM]; exact Nat.le_refl _)
    have e2 : (flatA encM l).drop (l.length * 10) = [] := List.drop_eq_nil_of_le (by rw [flatA_length lenM]; exact Nat.le_refl _)
    rw [e1, e2, List.append_nil]
    exact h1
theorem refSubM_v (hB : l.length ≤ 100000000) (h : ixL st tk 0 l = -1) (k : Nat) (hk : k < l.length) (hp : posL st tk 0 l = (k : Int)) : CallsV Try.prog 24 [marksV l, .agg [.str st, .str tk]] [] (fun av H' => av = marksV (insL l k (subM st tk 1)) ∧ H' = []) :=
  insRow l st tk k (by omega) ((refSubmit_new_v l st tk hl hB h).mono fun av H' ⟨h1, k', h2, h3, h4⟩ => by
    have e : k' = k := by
      rcases h3 with ⟨_, h3⟩ | ⟨_, h3⟩
      · rw [hp] at h3; omega
      · rw [hp] at h3; omega
    subst e
    exact ⟨h1, h4⟩)
theorem refSubE_v (hB : l.length ≤ 100000000) (h : ixL st tk 0 l = -1) (hp : posL st tk 0 l = -1) : CallsV Try.prog 24 [marksV l, .agg [.str st, .str tk]] [] (fun av H' => av = marksV (insL l l.length (subM st tk 1)) ∧ H' = []) :=
  insRow l st tk l.length (Nat.le_refl _) ((refSubmit_new_v l st tk hl hB h).mono fun av H' ⟨h1, k', h2, h3, h4⟩ => by
    have e : k' = l.length := by
      rcases h3 with ⟨_, h3⟩ | ⟨h3, _⟩
      · rw [hp] at h3; omega
      · exact h3
    subst e
    exact ⟨h1, h4⟩)
end
end Go.Proofs.Ytlmkeoegammdjaa
