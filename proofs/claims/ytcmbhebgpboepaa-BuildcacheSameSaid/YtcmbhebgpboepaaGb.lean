/-
  Caches: a step on both.
-/
import Derived.Test.YtcmbhebgpboepaaGa
namespace Go.Proofs.Ytcmbhebgpboepaa
open Go Go.RowKit V
set_option linter.unusedSimpArgs false
set_option linter.unusedVariables false
set_option maxHeartbeats 20000000
theorem key_eq {a b : ByteArray} (h : (a.toList == b.toList) = true) : a = b := by
  have h1 : a.data.toList = b.data.toList := by
    have := eq_of_beq h
    rwa [ByteArray.toList_eq, ByteArray.toList_eq] at this
  cases a; cases b
  simpa using h1
theorem find_or (l : List Ent) (key : ByteArray) : (∀ k, k < l.length → ((l.getD k eD).1.toList == key.toList) = false) ∨ ∃ i, i < l.length ∧ (∀ k, k < i → ((l.getD k eD).1.toList == key.toList) = false) ∧ (l.getD i eD).1 = key := by
  induction l with
  | nil => exact Or.inl fun k hk => absurd hk (by simp)
  | cons e l ih =>
    cases h : (e.1.toList == key.toList) with
    | true =>
      exact Or.inr ⟨0, by simp, fun k hk => absurd hk (by omega), key_eq h⟩
    | false =>
      rcases ih with ih | ⟨i, h1, h2, h3⟩
      · refine Or.inl fun k hk => ?_
        cases k with
        | zero => exact h
        | succ k => simpa using ih k (by simpa using hk)
      · refine Or.inr ⟨i + 1, by simpa using h1, fun k hk => ?_, by simpa using h3⟩
        cases k with
        | zero => exact h
        | succ k => simpa using h2 k (by omega)
theorem weakA {P : Program} {f : FuncId} {args args' : List AV} {H : List Blk} {R : AV → List Blk → Prop} (h : CallsV P f args' H R) (hw : ∀ (p : Pl) (w : World) (vals : List Value), RepL (Rep p w) vals args → RepL (Rep p w) vals args') : CallsV P f args H R := fun p w vals hH hv => h p w vals hH (hw p w _ hv)
/-- seen as -/
def Wk (x y : AV) : Prop := ∀ (M : Nat → Prop) (w : World) (v : Value), RepF M w v x → RepF M w v y
theorem Wk.refl (x : AV) : Wk x x := fun _ _ _ h => h
theorem Wk.nil {sz : Nat} (hs : 0 < sz) : Wk .nilsl (.slv 0 sz []) := fun M w v h => by
  cases h
  exact RepF.slv none ⟨0, 0, none⟩ 0 0 sz [] (fun _ => undef) (Or.inr ⟨rfl, rfl⟩) (by simp) (Nat.le_refl _) (by simp [maxLen]) hs (fun i hi => absurd hi (by simp)) (fun i hi => absurd hi (by simp))
def WkL (xs ys : List AV) : Prop := xs.length = ys.length ∧ ∀ i, i < xs.length → Wk (xs.getD i .junk) (ys.getD i .junk)
theorem WkL.nil : WkL [] [] := ⟨rfl, fun i hi => absurd hi (by simp)⟩
theorem WkL.cons {x y : AV} {xs ys : List AV} (h : Wk x y) (k : WkL xs ys) : WkL (x :: xs) (y :: ys) := ⟨by simp [k.1], fun i hi => by
  cases i with
  | zero => exact h
  | succ i => simpa using k.2 i (by simpa using hi)⟩
theorem Wk.slv {len sz : Nat} {xs ys : List AV} (h : WkL xs ys) : Wk (.slv len sz xs) (.slv len sz ys) := fun M w v hv => by
  cases hv with
  | slv oa a _ cap _ _ vs ho hl hcap hcm hsz hc hr => exact .slv oa a _ cap _ _ vs ho (by rw [← h.1]; exact hl) hcap hcm hsz (fun i hi => hc i (by rw [h.1]; exact hi)) fun i hi => h.2 i (by rw [h.1]; exact hi) M w _ (hr i (by rw [h.1]; exact hi))
theorem WkL.agg {xs ys : List AV} (h : WkL xs ys) (hp : ∀ x ∈ xs, ∀ (p : Pl) (w : World) (v : Value), Rep0 p w v x → RepF p.M w v x) (hq : ∀ y ∈ ys, ∀ (p : Pl) (w : World) (v : Value), RepF p.M w v y → Rep0 p w v y) (p : Pl) (w : World) (v : Value) (hv : Rep p w v (.agg xs)) : Rep p w v (.agg ys) :=
  agg_weak h.1.symm (fun i h1 h2 p w v hh => hq _ (List.getElem_mem h2) p w v (by
    have := h.2 i h1 p.M w v
    rw [getD_get _ _ h1, getD_get _ _ h2] at this
    exact this (hp _ (List.getElem_mem h1) p w v hh))) p w v hv
/-- the object, in its parts -/
def ob (k : Int) : Obj := ⟨sM, [⟨sF, [], resO k⟩], [⟨sMF, [], resO k, [], [(1, IntKind.i64.wrap k), (16, 0)]⟩], [sMF]⟩
def ob0 : Obj := ⟨ByteArray.empty, [], [], []⟩
theorem ob_wk (k : Int) : WkL (obV k) (encO (ob k)) :=
  .cons (.refl _) (.cons (.slv (.cons (.refl _) (.cons (.nil (by decide)) (.cons (.refl _) .nil)))) (.cons (.slv (.cons (.refl _) (.cons (.nil (by decide)) (.cons (.refl _) (.cons (.nil (by decide)) (.cons (.refl _) .nil)))))) (.cons (.refl _) .nil)))
theorem ob0_wk : WkL [.str ByteArray.empty, .nilsl, .nilsl, .nilsl] (encO ob0) := .cons (.refl _) (.cons (.nil (by decide)) (.cons (.nil (by decide)) (.cons (.nil (by decide)) .nil)))
theorem agg2 {a b a' b' : List AV} (ha : ∀ (p : Pl) (w : World) (v : Value), Rep p w v (.agg a) → Rep p w v (.agg a')) (hb : ∀ (p : Pl) (w : World) (v : Value), Rep p w v (.agg b) → Rep p w v (.agg b')) (p : Pl) (w : World) (vals : List Value) (h : RepL (Rep p w) vals [.agg a, .agg b]) : RepL (Rep p w) vals [.agg a', .agg b'] := by
  refine ⟨h.1, fun i h1 h2 => ?_⟩
  have h3 := h.2 i h1 (by simpa using h2)
  simp only [List.length_cons, List.length_nil] at h2
  rcases i with _ | _ | i
  · exact ha _ _ _ h3
  · exact hb _ _ _ h3
  · omega
theorem ob_rep (k : Int) (p : Pl) (w : World) (v : Value) (h : Rep p w v (.agg (obV k))) : Rep p w v (.agg (encO (ob k))) := by
  refine (ob_wk k).agg (fun x hx p w v hv => ?_) (fun y hy p w v hv => ?_) p w v h
  · simp only [obV, List.mem_cons, List.not_mem_nil, or_false] at hx
    rcases hx with rfl | rfl | rfl | rfl <;> exact hv
  · simp only [encO, ob, List.mem_cons, List.not_mem_nil, or_false] at hy
    rcases hy with rfl | rfl | rfl | rfl <;> exact hv
theorem ob0_rep (p : Pl) (w : World) (v : Value) (h : Rep p w v (.agg [.str ByteArray.empty, .nilsl, .nilsl, .nilsl])) : Rep p w v (.agg (encO ob0)) := by
  refine ob0_wk.agg (fun x hx p w v hv => ?_) (fun y hy p w v hv => ?_) p w v h
  · simp only [List.mem_cons, List.not_mem_nil, or_false] at hx
    rcases hx with rfl | rfl | rfl | rfl <;> exact hv
  · simp only [encO, ob0, List.mem_cons, List.not_mem_nil, or_false] at hy
    rcases hy with rfl | rfl | rfl | rfl <;> exact hv
theorem ob_ok (k : Int) : OkO (ob k) := ⟨by simp [ob], by simp [ob], by simp [ob], fun x hx => by simp only [ob, List.mem_singleton] at hx; subst hx; simp [OkS], fun x hx => by simp only [ob, List.mem_singleton] at hx; subst hx; simp [OkC]⟩
theorem ob0_ok : OkO ob0 := ⟨by simp [ob0], by simp [ob0], by simp [ob0], fun x hx => by simp [ob0] at hx, fun x hx => by simp [ob0] at hx⟩
theorem eqL_refl {α : Type} (f : α → α → Bool) (h : ∀ a, f a a = true) : ∀ l : List α, eqL f l l = true
  | [] => rfl
  | a :: l => by rw [eqL, h, eqL_refl f h l]; rfl
theorem eqI_refl (a : Int) : eqI a a = true := beq_self_eq_true _
theorem eqP_refl (a : Int × Int) : eqP a a = true := by simp [eqP]
theorem eqB_refl (a : ByteArray) : eqB a a = true := beq_self_eq_true _
theorem eqSig_refl (a : Sig) : eqSig a a = true := by simp [eqSig, eqB_refl, eqI_refl, eqL_refl eqI eqI_refl]
theorem eqCod_refl (a : Cod) : eqCod a a = true := by simp [eqCod, eqB_refl, eqI_refl, eqL_refl eqI eqI_refl, eqL_refl eqP eqP_refl]
theorem eqObj_refl (a : Obj) : eqObj a a = true := by simp [eqObj, eqB_refl, eqL_refl eqSig eqSig_refl, eqL_refl eqCod eqCod_refl, eqL_refl eqB eqB_refl]
theorem refOb (a b : Int) : CallsV Try.prog 20 [.agg (obV a), .agg (obV b)] [] (fun av H' => av = .bool (eqObj (ob a) (ob b)) ∧ H' = []) :=
  weakA (refSame (ob a) (ob b) (ob_ok a) (ob_ok b)) (agg2 (ob_rep a) (ob_rep b))
theorem refOb1 (a : Int) : CallsV Try.prog 20 [.agg (obV a), .agg (obV a)] [] (fun av H' => av = .bool true ∧ H' = []) := by
  have h := refOb a a
  rw [eqObj_refl] at h
  exact h
theorem refOb0 : CallsV Try.prog 20 [.agg [.str ByteArray.empty, .nilsl, .nilsl, .nilsl], .agg [.str ByteArray.empty, .nilsl, .nilsl, .nilsl]] [] (fun av H' => av = .bool true ∧ H' = []) := by
  have h := weakA (refSame ob0 ob0 ob0_ok ob0_ok) (agg2 ob0_rep ob0_rep)
  rw [eqObj_refl] at h
  exact h
theorem strOfNums_size (l : List Int) : (strOfNums l).size = l.length := by simp [strOfNums, ByteArray.size]
/-- a key -/
def keyF (k : Int) : ByteArray := (strOfNums [IntKind.u8.wrap (97 + k.tmod 9), 120]).extract (Int.toNat 0) (IntKind.u8.wrap (1 + k.tmod 2)).toNat
theorem keyF_size (k : Int) : (keyF k).size ≤ 1000000 := by
  unfold keyF
  rw [ByteArray.size_extract, strOfNums_size]
  simp
  omega
theorem key_v (k : Int) (h0 : 0 ≤ k) (h1 : k < 256) : CallsV Try.prog 19 [.int .u8 k] [] (fun av H' => av = .str (keyF k) ∧ H' = []) := by
  refine callsG_at Try.func19 (by kernel_rfl) ?_
  have hb : 0 ≤ (0 : Int) ∧ 0 ≤ IntKind.u8.wrap (1 + k.tmod 2) ∧ IntKind.u8.wrap (1 + k.tmod 2) ≤ ((2 : Nat) : Int) := by
    have e : k.tmod 2 = k % 2 := Int.tmod_eq_emod_of_nonneg h0
    rw [wrap_u8 (by omega) (by omega)]
    omega
  refine g_q [] [.sel [2]] Exit.ret (stOf 12 [(2, AV.str ((strOfNums [IntKind.u8.wrap ((97 : Int) + k.tmod (9 : Int)), (120 : Int)]).extract (Int.toNat (0 : Int)) (IntKind.u8.wrap ((1 : Int) + k.tmod (2 : Int))).toNat))] [Blk.row 5 [AV.int .u8 (IntKind.u8.wrap ((97 : Int) + k.tmod (9 : Int))), AV.int .u8 (120 : Int)]]) (And.intro (show (9 : Int) ≠ (0 : Int) from (by omega)) (And.intro (show (List.take 2 (List.drop 0 [AV.int .u8 (IntKind.u8.wrap ((97 : Int) + k.tmod (9 : Int))), AV.int .u8 (120 : Int)])).all isU8 = true from (by kernel_rfl)) (And.intro (show (2 : Int) ≠ (0 : Int) from (by omega)) (show (0 : Int) ≤ (0 : Int) ∧ (0 : Int) ≤ IntKind.u8.wrap ((1 : Int) + k.tmod (2 : Int)) ∧ IntKind.u8.wrap ((1 : Int) + k.tmod (2 : Int)) ≤ (↑2 : Int) from (by omega))))) ?_
  refine g_f [] [] (AV.str ((strOfNums [IntKind.u8.wrap ((97 : Int) + k.tmod (9 : Int)), (120 : Int)]).extract (Int.toNat (0 : Int)) (IntKind.u8.wrap ((1 : Int) + k.tmod (2 : Int))).toNat)) ([]) trivial ?_
  exact ⟨rfl, rfl⟩
/-- both -/
def bothH (n r : Int) (l : List Ent) : List Blk := [.row 40 [.int .i64 n, .int .i64 r, .sl 2 0 l.length 6], .row 35 [.int .i64 r, .sl 3 0 l.length 5], .row 73 (flatA (encE n) l), .row 89 (flatA encD l)]
def bothD (n r : Int) (l : List Ent) : List Blk := [.row 40 [.int .i64 n, .int .i64 r, .sl 4 0 l.length 6], .row 35 [.int .i64 r, .sl 5 0 l.length 5], .dead, .dead, .row 73 (flatA (encE n) l), .row 89 (flatA encD l)]
theorem play_get_T (n r : Int) (l : List Ent) (a b : Int) (hb0 : 0 ≤ b) (hb1 : b < 256) (ha : a.tmod 5 = 2 ∨ a.tmod 5 = 3) (hl : l.length ≤ 1000) (i : Nat) (hi : i < l.length) (h1 : ∀ k, k < i → ((l.getD k eD).1.toList == (keyF b).toList) = false) (h2 : (l.getD i eD).1 = keyF b) : CallsV Try.prog 11 [.ptr 0 0, .ptr 1 0, .agg [.int .u8 a, .int .u8 b]] (bothH n r l) (fun av H' => av = .bool true ∧ H' = bothD n r (l.eraseIdx i ++ [l.getD i eD])) := by
  refine callsG_at Try.func11 (by kernel_rfl) ?_
  have g1 := get_T n r l (keyF b) (keyF_size b) hl i hi h1 h2
  have g2 := getR_T r l (keyF b) hl i hi h1 h2
  unfold cacheH cacheD at g1
  unfold refH refD at g2
  unfold bothH bothD
  refine g_split (a.tmod (5 : Int) == (2 : Int)) (fun hq1 => ?_) (fun hq1 => ?_)
  · (have gq1 := hq1; simp only [Bool.cond_true_left, Bool.cond_false_right, Bool.cond_false_left, Bool.cond_true_right, beq_true, beq_false, Bool.not_not, Bool.or_eq_true, Bool.and_eq_true, Bool.or_eq_false_iff, Bool.and_eq_false_iff, Bool.not_eq_true', Bool.not_eq_false', beq_iff_eq, beq_eq_false_iff_ne, bne_iff_ne, bne_eq_false_iff_eq, decide_eq_true_eq, decide_eq_false_iff_not, ne_eq] at gq1)
    have e1' := key_v b hb0 hb1
    have e2' := g1
    have e3' := g2
    have e4' := refOb1 (l.getD i eD).2
    refine g_q [⟨7, [], .br false .no⟩, ⟨10, [], .br false .no⟩, ⟨13, [], .br true .no⟩, ⟨14, [], .br true .no⟩, ⟨18, [], .call (avOf e1') (blOf e1') []⟩, ⟨19, [], .callS [0, 2] [false, true] (avOf e2') (blOf e2') [false, false, true]⟩, ⟨29, [], .call (avOf e1') (blOf e1') []⟩, ⟨30, [], .callS [1, 3] [false, true] (avOf e3') (blOf e3') [false, false, true]⟩, ⟨39, [], .call (avOf e4') (blOf e4') []⟩] [.sel [6]] Exit.ret (stOf 81 [(6, AV.bool true)] [Blk.row 40 [AV.int .i64 n, AV.int .i64 r, AV.sl 5 0 (l.eraseIdx i ++ [l.getD i eD]).length 6], Blk.row 35 [AV.int .i64 r, AV.sl 7 0 (l.eraseIdx i ++ [l.getD i eD]).length 5], Blk.dead, Blk.dead, Blk.row 31 [AV.int .u8 a, AV.int .u8 b], Blk.row 73 (flatA (encE n) (l.eraseIdx i ++ [l.getD i eD])), Blk.row 49 [AV.str sM, AV.slv 1 3 [AV.str sF, AV.nilsl, AV.int .i64 (resO (l.getD i eD).snd)], AV.slv 1 5 [AV.str sMF, AV.nilsl, AV.int .i64 (resO (l.getD i eD).snd), AV.nilsl, AV.slv 2 2 [AV.int .i64 (1 : Int), AV.int .i64 (IntKind.i64.wrap (l.getD i eD).snd), AV.int .i64 (16 : Int), AV.int .i64 (0 : Int)]], AV.slv 1 1 [AV.str sMF]], Blk.row 89 (flatA encD (l.eraseIdx i ++ [l.getD i eD])), Blk.row 49 [AV.str sM, AV.slv 1 3 [AV.str sF, AV.nilsl, AV.int .i64 (resO (l.getD i eD).snd)], AV.slv 1 5 [AV.str sMF, AV.nilsl, AV.int .i64 (resO (l.getD i eD).snd), AV.nilsl, AV.slv 2 2 [AV.int .i64 (1 : Int), AV.int .i64 (IntKind.i64.wrap (l.getD i eD).snd), AV.int .i64 (16 : Int), AV.int .i64 (0 : Int)]], AV.slv 1 1 [AV.str sMF]]]) (And.intro (show (0 : Int) ≤ (0 : Int) ∧ (0 : Int) < (↑2 : Int) from (by omega)) (And.intro (show 1 ≤ 2 from (by omega)) (And.intro (show (5 : Int) ≠ (0 : Int) from (by omega)) (And.intro (show (a.tmod (5 : Int) == (0 : Int)) = false from (by rw [beq_eq_false_iff_ne]; omega)) (And.intro (show (a.tmod (5 : Int) == (1 : Int)) = false from (by rw [beq_eq_false_iff_ne]; omega)) (And.intro (show (a.tmod (5 : Int) == (2 : Int)) = true from (by assumption)) (And.intro (show (a.tmod (5 : Int) == (2 : Int)) = true from (by assumption)) (And.intro (show (0 : Int) ≤ (1 : Int) ∧ (1 : Int) < (↑2 : Int) from (by omega)) (And.intro (show 1 ≤ 1 from (by omega)) (And.intro e1' (And.intro (show ∀ (x : AV), x ∈ flatA (encE n) l → noid0 x = true from ents_noid n l) (And.intro (show ∀ (x : AV), x ∈ flatA (encE n) (l.eraseIdx i ++ [l.getD i eD]) → noid0 x = true from ents_noid n (l.eraseIdx i ++ [l.getD i eD])) (And.intro e2' (And.intro (show 4 ≤ 4 from (by omega)) (And.intro (show (0 : Int) ≤ (1 : Int) ∧ (1 : Int) < (↑2 : Int) from (by omega)) (And.intro (show 1 ≤ 1 from (by omega)) (And.intro e1' (And.intro (show ∀ (x : AV), x ∈ flatA encD l → noid0 x = true from held_noid l) (And.intro (show ∀ (x : AV), x ∈ flatA encD (l.eraseIdx i ++ [l.getD i eD]) → noid0 x = true from held_noid (l.eraseIdx i ++ [l.getD i eD])) (And.intro e3' (And.intro (show 4 ≤ 4 from (by omega)) (And.intro (show 4 ≤ 4 from (by omega)) (And.intro (show 4 ≤ 4 from (by omega)) e4'))))))))))))))))))))))) ?_
    refine g_f [0, 1, 2, 3, 5, 7] [false, false, false, false, true, true] (AV.bool true) ([Blk.row 40 [AV.int .i64 n, AV.int .i64 r, AV.sl 4 0 (l.eraseIdx i ++ [l.getD i eD]).length 6], Blk.row 35 [AV.int .i64 r, AV.sl 5 0 (l.eraseIdx i ++ [l.getD i eD]).length 5], Blk.dead, Blk.dead, Blk.row 73 (flatA (encE n) (l.eraseIdx i ++ [l.getD i eD])), Blk.row 89 (flatA encD (l.eraseIdx i ++ [l.getD i eD]))]) (And.intro (show ∀ (x : AV), x ∈ flatA (encE n) (l.eraseIdx i ++ [l.getD i eD]) → noid0 x = true from ents_noid n (l.eraseIdx i ++ [l.getD i eD])) (show ∀ (x : AV), x ∈ flatA encD (l.eraseIdx i ++ [l.getD i eD]) → noid0 x = true from held_noid (l.eraseIdx i ++ [l.getD i eD]))) ?_
    exact ⟨rfl, rfl⟩
  · (have gq1 := hq1; simp only [Bool.cond_true_left, Bool.cond_false_right, Bool.cond_false_left, Bool.cond_true_right, beq_true, beq_false, Bool.not_not, Bool.or_eq_true, Bool.and_eq_true, Bool.or_eq_false_iff, Bool.and_eq_false_iff, Bool.not_eq_true', Bool.not_eq_false', beq_iff_eq, beq_eq_false_iff_ne, bne_iff_ne, bne_eq_false_iff_eq, decide_eq_true_eq, decide_eq_false_iff_not, ne_eq] at gq1)
    have e1' := key_v b hb0 hb1
    have e2' := g1
    have e3' := g2
    have e4' := refOb1 (l.getD i eD).2
    refine g_q [⟨7, [], .br false .no⟩, ⟨10, [], .br false .no⟩, ⟨13, [], .br false .no⟩, ⟨16, [], .br true .no⟩, ⟨20, [], .call (avOf e1') (blOf e1') []⟩, ⟨21, [], .callS [0, 2] [false, true] (avOf e2') (blOf e2') [false, false, true]⟩, ⟨31, [], .call (avOf e1') (blOf e1') []⟩, ⟨32, [], .callS [1, 3] [false, true] (avOf e3') (blOf e3') [false, false, true]⟩, ⟨41, [], .call (avOf e4') (blOf e4') []⟩] [.sel [6]] Exit.ret (stOf 81 [(6, AV.bool true)] [Blk.row 40 [AV.int .i64 n, AV.int .i64 r, AV.sl 5 0 (l.eraseIdx i ++ [l.getD i eD]).length 6], Blk.row 35 [AV.int .i64 r, AV.sl 7 0 (l.eraseIdx i ++ [l.getD i eD]).length 5], Blk.dead, Blk.dead, Blk.row 31 [AV.int .u8 a, AV.int .u8 b], Blk.row 73 (flatA (encE n) (l.eraseIdx i ++ [l.getD i eD])), Blk.row 49 [AV.str sM, AV.slv 1 3 [AV.str sF, AV.nilsl, AV.int .i64 (resO (l.getD i eD).snd)], AV.slv 1 5 [AV.str sMF, AV.nilsl, AV.int .i64 (resO (l.getD i eD).snd), AV.nilsl, AV.slv 2 2 [AV.int .i64 (1 : Int), AV.int .i64 (IntKind.i64.wrap (l.getD i eD).snd), AV.int .i64 (16 : Int), AV.int .i64 (0 : Int)]], AV.slv 1 1 [AV.str sMF]], Blk.row 89 (flatA encD (l.eraseIdx i ++ [l.getD i eD])), Blk.row 49 [AV.str sM, AV.slv 1 3 [AV.str sF, AV.nilsl, AV.int .i64 (resO (l.getD i eD).snd)], AV.slv 1 5 [AV.str sMF, AV.nilsl, AV.int .i64 (resO (l.getD i eD).snd), AV.nilsl, AV.slv 2 2 [AV.int .i64 (1 : Int), AV.int .i64 (IntKind.i64.wrap (l.getD i eD).snd), AV.int .i64 (16 : Int), AV.int .i64 (0 : Int)]], AV.slv 1 1 [AV.str sMF]]]) (And.intro (show (0 : Int) ≤ (0 : Int) ∧ (0 : Int) < (↑2 : Int) from (by omega)) (And.intro (show 1 ≤ 2 from (by omega)) (And.intro (show (5 : Int) ≠ (0 : Int) from (by omega)) (And.intro (show (a.tmod (5 : Int) == (0 : Int)) = false from (by rw [beq_eq_false_iff_ne]; omega)) (And.intro (show (a.tmod (5 : Int) == (1 : Int)) = false from (by rw [beq_eq_false_iff_ne]; omega)) (And.intro (show (a.tmod (5 : Int) == (2 : Int)) = false from (by assumption)) (And.intro (show (a.tmod (5 : Int) == (3 : Int)) = true from (by rw [beq_iff_eq]; omega)) (And.intro (show (0 : Int) ≤ (1 : Int) ∧ (1 : Int) < (↑2 : Int) from (by omega)) (And.intro (show 1 ≤ 1 from (by omega)) (And.intro e1' (And.intro (show ∀ (x : AV), x ∈ flatA (encE n) l → noid0 x = true from ents_noid n l) (And.intro (show ∀ (x : AV), x ∈ flatA (encE n) (l.eraseIdx i ++ [l.getD i eD]) → noid0 x = true from ents_noid n (l.eraseIdx i ++ [l.getD i eD])) (And.intro e2' (And.intro (show 4 ≤ 4 from (by omega)) (And.intro (show (0 : Int) ≤ (1 : Int) ∧ (1 : Int) < (↑2 : Int) from (by omega)) (And.intro (show 1 ≤ 1 from (by omega)) (And.intro e1' (And.intro (show ∀ (x : AV), x ∈ flatA encD l → noid0 x = true from held_noid l) (And.intro (show ∀ (x : AV), x ∈ flatA encD (l.eraseIdx i ++ [l.getD i eD]) → noid0 x = true from held_noid (l.eraseIdx i ++ [l.getD i eD])) (And.intro e3' (And.intro (show 4 ≤ 4 from (by omega)) (And.intro (show 4 ≤ 4 from (by omega)) (And.intro (show 4 ≤ 4 from (by omega)) e4'))))))))))))))))))))))) ?_
    refine g_f [0, 1, 2, 3, 5, 7] [false, false, false, false, true, true] (AV.bool true) ([Blk.row 40 [AV.int .i64 n, AV.int .i64 r, AV.sl 4 0 (l.eraseIdx i ++ [l.getD i eD]).length 6], Blk.row 35 [AV.int .i64 r, AV.sl 5 0 (l.eraseIdx i ++ [l.getD i eD]).length 5], Blk.dead, Blk.dead, Blk.row 73 (flatA (encE n) (l.eraseIdx i ++ [l.getD i eD])), Blk.row 89 (flatA encD (l.eraseIdx i ++ [l.getD i eD]))]) (And.intro (show ∀ (x : AV), x ∈ flatA (encE n) (l.eraseIdx i ++ [l.getD i eD]) → noid0 x = true from ents_noid n (l.eraseIdx i ++ [l.getD i eD])) (show ∀ (x : AV), x ∈ flatA encD (l.eraseIdx i ++ [l.getD i eD]) → noid0 x = true from held_noid (l.eraseIdx i ++ [l.getD i eD]))) ?_
    exact ⟨rfl, rfl⟩
end Go.Proofs.Ytcmbhebgpboepaa
