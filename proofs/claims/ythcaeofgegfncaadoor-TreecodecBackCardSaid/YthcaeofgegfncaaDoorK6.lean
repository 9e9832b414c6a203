/-
  What the law leans on.
-/
import Derived.Test.YthcaeofgegfncaaDoorK5
namespace Go.Proofs.YthcaeofgegfncaaDoor
open Go Go.RowKit V
set_option linter.unusedSimpArgs false
set_option linter.unusedVariables false
set_option maxHeartbeats 20000000
/-- what stands for an own row as a value -/
def RdV (H : List Blk) (x y : AV) : Prop := ∀ (p p1 : Pl) (w : World) (v : Value), RH p H w → Lends (fun _ => true) p p1 → Rep p w v x → Rep p1 w v y
theorem callsV_val {P : Program} {f : FuncId} {args : List AV} {x y : AV} {H : List Blk} (h : CallsV P f args [] fun a b => a = x ∧ b = H) (hr : RdV H x y) : CallsV P f args [] fun a b => a = y ∧ b = [] := fun p w vals hH hv =>
  (h p w vals hH hv).mono fun e w' ⟨v, av, H', p', h1, ⟨h2, h2'⟩, h3, h4, h5⟩ => by
    subst h2 h2'
    have hn : p.n = 0 := hH.n
    obtain ⟨k1, k2, _⟩ := keep_ok (keep := []) (H' := []) h5 h3 (by rw [hn]; exact keep_nil _)
    exact ⟨v, _, [], p'.keep [], h1, ⟨rfl, rfl⟩, k1, hr _ _ _ _ h3 (lends0 h3 (fun _ => true)) h4, k2⟩
theorem rd_sl {t : TypeId} {xs : List AV} {len sz : Nat} (hn : ∀ x ∈ xs, noid0 x = true ∧ x ≠ .junk) (hl : len * sz = xs.length) : RdV [.row t xs] (.sl 0 0 len sz) (.slv len sz xs) := fun p p1 w v hH hL h => by
  have := reads_sl (st := 0) (p1 := p1) rfl hn (by omega) hH hL h
  rwa [List.drop_zero, hl, List.take_length] at this
theorem rd_agg {t : TypeId} {xs : List AV} {len sz : Nat} (hn : ∀ x ∈ xs, noid0 x = true ∧ x ≠ .junk) (hl : len * sz = xs.length) : RdV [.row t xs] (.agg [.sl 0 0 len sz]) (.agg [.slv len sz xs]) := fun p p1 w v hH hL h => by
  obtain ⟨vs, e1, e2, e3⟩ := h
  refine ⟨vs, e1, e2, fun i i1 i2 => ?_⟩
  simp only [List.length_cons, List.length_nil] at i2
  obtain rfl : i = 0 := by omega
  have h0 := e3 0 i1 (by simp)
  exact ⟨h0.1, (rd_sl (t := t) hn hl p p1 w _ hH hL h0.2 : Rep p1 w _ (.slv len sz xs))⟩
theorem rd_tup {H : List Blk} {cs ds : List AV} {y : AV} (hy : (∃ n, y = .int .i64 n) ∨ ∃ b, y = .bool b) (h : RdV H (.agg cs) (.agg ds)) : RdV H (.tuple [.agg cs, y]) (.tuple [.agg ds, y]) := fun p p1 w v hH hL hv => by
  obtain ⟨vs, e1, e2, e3⟩ := hv
  refine ⟨vs, e1, e2, fun i i1 i2 => ?_⟩
  simp only [List.length_cons, List.length_nil] at i2
  rcases i with _ | _ | i
  · have h0 : Rep p w vs.toList[0] (.agg cs) := e3 0 i1 (by simp)
    exact h p p1 w _ hH hL h0
  · rcases hy with ⟨n, rfl⟩ | ⟨b, rfl⟩
    · have h0 : RepF p.M w vs.toList[1] (.int .i64 n) := e3 1 i1 (by simp)
      have h2 : ∃ z, vs.toList[1] = z ∧ RepF p.M w z (.int .i64 n) := ⟨_, rfl, h0⟩
      obtain ⟨z, hz, hz2⟩ := h2
      show Rep1 p1 w vs.toList[1] (.int .i64 n)
      rw [hz]
      cases hz2
      exact RepF.int _ _
    · have h0 : RepF p.M w vs.toList[1] (.bool b) := e3 1 i1 (by simp)
      have h2 : ∃ z, vs.toList[1] = z ∧ RepF p.M w z (.bool b) := ⟨_, rfl, h0⟩
      obtain ⟨z, hz, hz2⟩ := h2
      show Rep1 p1 w vs.toList[1] (.bool b)
      rw [hz]
      cases hz2
      exact RepF.bool b
  · omega
theorem rd_nil : RdV [] (.agg [.nilsl]) (treeV []) := fun p p1 w v hH hL h => by
  obtain ⟨vs, e1, e2, e3⟩ := h
  refine ⟨vs, e1, e2, fun i i1 i2 => ?_⟩
  simp only [List.length_cons, List.length_nil] at i2
  obtain rfl : i = 0 := by omega
  have h0 := e3 0 i1 (by simp)
  refine ⟨h0.1, ?_⟩
  have h1 : RepF p.M w vs.toList[0] .nilsl := h0.2
  have h2 : ∃ z, vs.toList[0] = z ∧ RepF p.M w z .nilsl := ⟨_, rfl, h1⟩
  obtain ⟨z, hz, hz2⟩ := h2
  show Rep0 p1 w vs.toList[0] (.slv 0 2 [])
  rw [hz]
  cases hz2
  exact nil_slv0 2 (by omega) p1 w _ (RepF.nilsl)
theorem rd_tree (l : List TE) : RdV [.row 46 (flatA encT l)] (.agg [.sl 0 0 l.length 2]) (treeV l) := rd_agg (encT_lend l) (encT_len l).symm
/-- a tree and an error -/
theorem val_err {f : FuncId} {args : List AV} {e : Int} {l : List TE} (h : CallsV Tryd.prog f args [] (fun av H' => (e = 0 ∧ av = .tuple [.agg [.sl 0 0 l.length 2], .int .i64 0] ∧ H' = [.row 46 (flatA encT l)]) ∨ (e ≠ 0 ∧ av = .tuple [.agg [.nilsl], .int .i64 e] ∧ H' = []))) : CallsV Tryd.prog f args [] (fun av H' => av = .tuple [treeV (if e = 0 then l else []), .int .i64 e] ∧ H' = []) := by
  by_cases he : e = 0
  · rw [if_pos he]
    subst he
    exact callsV_val (h.mono fun av H' q => by
      rcases q with ⟨_, q⟩ | ⟨q, _⟩
      · exact q
      · exact absurd rfl q) (rd_tup (.inl ⟨_, rfl⟩) (rd_tree l))
  · rw [if_neg he]
    exact callsV_val (h.mono fun av H' q => by
      rcases q with ⟨q, _⟩ | ⟨_, q⟩
      · exact absurd q he
      · exact q) (rd_tup (.inl ⟨_, rfl⟩) rd_nil)
def ptO (l : List TE) (x : TE) : List TE := if ptF l x = 0 then sortR (ptL l x) else []
theorem putR_w (l : List TE) (x : TE) (hl : l.length ≤ 900) (hok : ∀ x ∈ l, OkT x) (hx : OkT x) : CallsV Tryd.prog 20 [treeV l, .str x.1, .str x.2] [] (fun av H' => av = .tuple [treeV (ptO l x), .int .i64 (ptF l x)] ∧ H' = []) := val_err (putR l x hl hok hx)
theorem entries_w (l : List (Int × Int)) (hl : l.length ≤ 9223372036854775807) (hz : ∀ x ∈ l, (0 ≤ x.1 ∧ x.1 ≤ 255) ∧ 0 ≤ x.2 ∧ x.2 ≤ 255) : CallsV Tryd.prog 19 [.slv l.length 2 (flatA encB l)] [] (fun av H' => av = filesV (enK l (enN l)) ∧ H' = []) := callsV_val (entries_v l hl hz) (rd_sl (encT_lend _) (encT_len _).symm)
end Go.Proofs.YthcaeofgegfncaaDoor
namespace Go.Proofs.YthcaeofgegfncaaDoor
open Go Go.RowKit V
set_option linter.unusedSimpArgs false
set_option linter.unusedVariables false
set_option maxHeartbeats 20000000
theorem sortR_len' (l : List TE) : (sortR l).length = l.length := (sortR_perm l).length_eq
theorem nil_arg (p : Pl) (w : World) (v : Value) (h : Rep p w v (.agg [.nilsl])) : Rep p w v (treeV []) :=
  agg_weak (cs := [.nilsl]) (cs' := [.slv 0 2 []]) rfl (fun i h1 h2 p w v hv => by
    simp only [List.length_cons, List.length_nil] at h1
    obtain rfl : i = 0 := by omega
    exact nil_slv0 2 (by omega) p w v hv) p w v h
theorem callsV_nil {P : Program} {f : FuncId} {as' : List AV} {H : List Blk} {R : AV → List Blk → Prop} (h : CallsV P f (treeV [] :: as') H R) : CallsV P f (.agg [.nilsl] :: as') H R := fun p w vals hH hv => h p w vals hH ⟨hv.1, fun i i1 i2 => by
  have := hv.2 i i1 i2
  cases i with
  | zero => exact nil_arg _ _ _ this
  | succ i => exact this⟩
def trN (T : List TE) (x : TE) : List TE := if ptF T x = 0 then sortR (ptL T x) else T
def trK (X : List TE) : Nat → List TE
  | 0 => []
  | k + 1 => trN (trK X k) (X.getD k tD)
def tr0 (X : List TE) (k : Nat) : St := stOf 36 [(2, .ptr 0 0), (3, .ptr 1 0), (4, filesV X), (5, .int .i64 (k : Int))] [.row 24 [.nilsl], .row 24 [.nilsl]]
def tr1 (X : List TE) (k : Nat) (T : List TE) : St := stOf 36 [(2, .ptr 0 0), (3, .ptr 1 0), (4, filesV X), (5, .int .i64 (k : Int))] [.row 24 [.nilsl], .row 24 [filesV T]]
def trS (X : List TE) (k : Nat) (T : List TE) : St := if T = [] then tr0 X k else tr1 X k T
theorem ptL_ne (T : List TE) (x : TE) : sortR (ptL T x) ≠ [] := fun h => by
  have := congrArg List.length h
  rw [sortR_len'] at this
  unfold ptL at this
  rw [(insR_perm _ _).length_eq] at this
  simp at this
theorem trStep (X T : List TE) (hl : X.length ≤ 900) (ht : T.length ≤ 900) (hX : ∀ x ∈ X, OkT x) (hT : ∀ x ∈ T, OkT x) (k : Nat) (hk : k < X.length) : GoV Tryd.prog 0 (loopB Tryd.f12 0) (isX .normal (trS X (k + 1) (trN T (X.getD k tD)))) (trS X k T) := by
  have at1 : (flatA encT X).drop ((k : Int).toNat * 2) = AV.str (X.getD k tD).1 :: AV.str (X.getD k tD).2 :: flatA encT (X.drop (k + 1)) := encT_at X k hk
  have hx := hX _ (getD_mem' hk tD)
  have pu := putR_w T (X.getD k tD) ht hT hx
  have hne := ptL_ne T (X.getD k tD)
  unfold trN
  unfold ptO at pu
  by_cases hp : ptF T (X.getD k tD) = 0
  · rw [if_pos hp]
    rw [if_pos hp, hp] at pu
    generalize sortR (ptL T (X.getD k tD)) = U at *
    generalize X.getD k tD = x at *
    unfold trS
    rw [if_neg hne]
    by_cases h0 : T = []
    · subst h0
      have pu := callsV_nil pu
      rw [if_pos rfl]
      unfold tr0 tr1
      have e1' := (congrArg (fun z => AV.fptr z) at1)
      have e2' := pu
      have e3' := (congrArg (fun z => AV.int .i64 z) (wrap_i64 (e := (↑k : Int) + (1 : Int)) (by omega) (by omega)))
      exact g_xB [⟨4, [], .br true .no⟩, ⟨8, [], .as (rhsOf e1')⟩, ⟨13, [], .as (rhsOf e1')⟩, ⟨16, [], .call (avOf e2') (blOf e2') []⟩, ⟨29, [], .as (rhsOf e3')⟩] [.sel [2, 3, 4, 5], .keep [0, 1] [false, false]] (And.intro (show decide ((↑k : Int) < (↑X.length : Int)) = true from (by rw [decide_eq_true_iff]; omega)) (And.intro (show 1 ≤ 1 from (by omega)) (And.intro (show (0 : Int) ≤ (↑k : Int) ∧ (↑k : Int) < (↑X.length : Int) from (by omega)) (And.intro e1' (And.intro (show 1 ≤ (AV.str x.fst :: AV.str x.snd :: flatA encT (List.drop (k + 1) X)).length from (by exact Nat.le_of_ble_eq_true (by kernel_rfl))) (And.intro (show (0 : Int) ≤ (↑k : Int) ∧ (↑k : Int) < (↑X.length : Int) from (by omega)) (And.intro e1' (And.intro (show 1 ≤ (AV.str x.snd :: flatA encT (List.drop (k + 1) X)).length from (by exact Nat.le_of_ble_eq_true (by kernel_rfl))) (And.intro e2' (And.intro e2' (And.intro (show 1 ≤ 1 from (by omega)) (And.intro (show 1 ≤ 1 from (by omega)) (And.intro (show 1 ≤ 1 from (by omega)) e3')))))))))))))
    · rw [if_neg h0]
      unfold tr1
      have e1' := (congrArg (fun z => AV.fptr z) at1)
      have e2' := pu
      have e3' := (congrArg (fun z => AV.int .i64 z) (wrap_i64 (e := (↑k : Int) + (1 : Int)) (by omega) (by omega)))
      exact g_xB [⟨4, [], .br true .no⟩, ⟨8, [], .as (rhsOf e1')⟩, ⟨13, [], .as (rhsOf e1')⟩, ⟨16, [], .call (avOf e2') (blOf e2') []⟩, ⟨29, [], .as (rhsOf e3')⟩] [.sel [2, 3, 4, 5], .keep [0, 1] [false, false]] (And.intro (show decide ((↑k : Int) < (↑X.length : Int)) = true from (by rw [decide_eq_true_iff]; omega)) (And.intro (show 1 ≤ 1 from (by omega)) (And.intro (show (0 : Int) ≤ (↑k : Int) ∧ (↑k : Int) < (↑X.length : Int) from (by omega)) (And.intro e1' (And.intro (show 1 ≤ (AV.str x.fst :: AV.str x.snd :: flatA encT (List.drop (k + 1) X)).length from (by exact Nat.le_of_ble_eq_true (by kernel_rfl))) (And.intro (show (0 : Int) ≤ (↑k : Int) ∧ (↑k : Int) < (↑X.length : Int) from (by omega)) (And.intro e1' (And.intro (show 1 ≤ (AV.str x.snd :: flatA encT (List.drop (k + 1) X)).length from (by exact Nat.le_of_ble_eq_true (by kernel_rfl))) (And.intro e2' (And.intro e2' (And.intro (show 1 ≤ 1 from (by omega)) (And.intro (show 1 ≤ 1 from (by omega)) (And.intro (show 1 ≤ 1 from (by omega)) e3')))))))))))))
  · rw [if_neg hp]
    rw [if_neg hp] at pu
    generalize ptF T (X.getD k tD) = e at *
    generalize X.getD k tD = x at *
    have hq : (e == 0) = false := beq_eq_false_iff_ne.2 hp
    unfold trS
    by_cases h0 : T = []
    · subst h0
      have pu := callsV_nil pu
      rw [if_pos rfl, if_pos rfl]
      unfold tr0
      have e1' := (congrArg (fun z => AV.fptr z) at1)
      have e2' := pu
      have e3' := (congrArg (fun z => AV.int .i64 z) (wrap_i64 (e := (↑k : Int) + (1 : Int)) (by omega) (by omega)))
      exact g_xB [⟨4, [], .br true .no⟩, ⟨8, [], .as (rhsOf e1')⟩, ⟨13, [], .as (rhsOf e1')⟩, ⟨16, [], .call (avOf e2') (blOf e2') []⟩, ⟨25, [], .br false .no⟩, ⟨27, [], .as (rhsOf e3')⟩] [.sel [2, 3, 4, 5], .keep [0, 1] [false, false]] (And.intro (show decide ((↑k : Int) < (↑X.length : Int)) = true from (by rw [decide_eq_true_iff]; omega)) (And.intro (show 1 ≤ 1 from (by omega)) (And.intro (show (0 : Int) ≤ (↑k : Int) ∧ (↑k : Int) < (↑X.length : Int) from (by omega)) (And.intro e1' (And.intro (show 1 ≤ (AV.str x.fst :: AV.str x.snd :: flatA encT (List.drop (k + 1) X)).length from (by exact Nat.le_of_ble_eq_true (by kernel_rfl))) (And.intro (show (0 : Int) ≤ (↑k : Int) ∧ (↑k : Int) < (↑X.length : Int) from (by omega)) (And.intro e1' (And.intro (show 1 ≤ (AV.str x.snd :: flatA encT (List.drop (k + 1) X)).length from (by exact Nat.le_of_ble_eq_true (by kernel_rfl))) (And.intro e2' (And.intro e2' (And.intro (show 1 ≤ 1 from (by omega)) (And.intro (show (e == (0 : Int)) = false from (by assumption)) e3'))))))))))))
    · rw [if_neg h0, if_neg h0]
      unfold tr1
      have e1' := (congrArg (fun z => AV.fptr z) at1)
      have e2' := pu
      have e3' := (congrArg (fun z => AV.int .i64 z) (wrap_i64 (e := (↑k : Int) + (1 : Int)) (by omega) (by omega)))
      exact g_xB [⟨4, [], .br true .no⟩, ⟨8, [], .as (rhsOf e1')⟩, ⟨13, [], .as (rhsOf e1')⟩, ⟨16, [], .call (avOf e2') (blOf e2') []⟩, ⟨25, [], .br false .no⟩, ⟨27, [], .as (rhsOf e3')⟩] [.sel [2, 3, 4, 5], .keep [0, 1] [false, false]] (And.intro (show decide ((↑k : Int) < (↑X.length : Int)) = true from (by rw [decide_eq_true_iff]; omega)) (And.intro (show 1 ≤ 1 from (by omega)) (And.intro (show (0 : Int) ≤ (↑k : Int) ∧ (↑k : Int) < (↑X.length : Int) from (by omega)) (And.intro e1' (And.intro (show 1 ≤ (AV.str x.fst :: AV.str x.snd :: flatA encT (List.drop (k + 1) X)).length from (by exact Nat.le_of_ble_eq_true (by kernel_rfl))) (And.intro (show (0 : Int) ≤ (↑k : Int) ∧ (↑k : Int) < (↑X.length : Int) from (by omega)) (And.intro e1' (And.intro (show 1 ≤ (AV.str x.snd :: flatA encT (List.drop (k + 1) X)).length from (by exact Nat.le_of_ble_eq_true (by kernel_rfl))) (And.intro e2' (And.intro e2' (And.intro (show 1 ≤ 1 from (by omega)) (And.intro (show (e == (0 : Int)) = false from (by assumption)) e3'))))))))))))
/-- valid for itself: as a file that the laws use -/
theorem trK_fine (X : List TE) : ∀ k, ckF (trK X k) = 0
  | 0 => by rfl
  | k + 1 => by
    have ih := trK_fine X k
    show ckF (trN (trK X k) (X.getD k tD)) = 0
    unfold trN
    split
    · rename_i h
      unfold ptF at h
      rw [if_pos ih] at h
      obtain ⟨h1, h2⟩ := bd_fine h
      exact fine_ck (h1.perm (sortR_perm _).symm) (sortR_srt h1.dst) (by rw [clF_perm (sortR_perm _)]; exact h2)
    · exact ih
theorem trK_ok (X : List TE) (hX : ∀ x ∈ X, OkT x) : ∀ k, k ≤ X.length → ∀ x ∈ trK X k, OkT x
  | 0, _, x, hx => by cases hx
  | k + 1, h, x, hx => by
    have ih := trK_ok X hX k (by omega)
    have hx : x ∈ trN (trK X k) (X.getD k tD) := hx
    unfold trN at hx
    split at hx
    · have hx := (sortR_perm _).mem_iff.1 hx
      unfold ptL at hx
      rcases insR_mem.1 hx with rfl | h2
      · exact hX _ (getD_mem (by omega))
      · exact ih x (wo_mem.1 h2).1
    · exact ih x hx
theorem trK_len (X : List TE) (k : Nat) : (trK X k).length ≤ 64 := (ck_fine (trK_fine X k)).1.len
def trF (l : List (Int × Int)) : List TE := trK (enK l (enN l)) (enK l (enN l)).length
theorem enE_ok (x : Int × Int) : OkT (enE x) := by
  have h1 : ∀ b ∈ ptT, b.size ≤ 30000 := by decide
  have h2 : ∀ b ∈ txT, b.size ≤ 9223372036854775807 := by decide
  unfold enE
  refine ⟨h1 _ ?_, h2 _ ?_⟩
  · have hl : x.1.toNat % 12 < ptT.length := Nat.mod_lt _ (by omega)
    show ptT.getD (x.1.toNat % 12) bE ∈ ptT
    rw [List.getD_eq_getElem?_getD, List.getElem?_eq_getElem hl]; exact List.getElem_mem hl
  · have hl : x.2.toNat % 8 < txT.length := Nat.mod_lt _ (by omega)
    show txT.getD (x.2.toNat % 8) bE ∈ txT
    rw [List.getD_eq_getElem?_getD, List.getElem?_eq_getElem hl]; exact List.getElem_mem hl
theorem enK_ok (l : List (Int × Int)) (k : Nat) : ∀ x ∈ enK l k, OkT x := fun x hx => by
  unfold enK at hx
  obtain ⟨y, _, rfl⟩ := List.mem_map.1 hx
  exact enE_ok y
theorem enX_len (l : List (Int × Int)) : (enK l (enN l)).length ≤ 20 := by
  unfold enK enN
  rw [List.length_map, List.length_take]; omega
theorem trF_ok (l : List (Int × Int)) : ∀ x ∈ trF l, OkT x := trK_ok _ (enK_ok l _) _ (Nat.le_refl _)
theorem trF_fine (l : List (Int × Int)) : ckF (trF l) = 0 := trK_fine _ _
theorem tree_v (l : List (Int × Int)) (hl : l.length ≤ 9223372036854775807) (hz : ∀ x ∈ l, (0 ≤ x.1 ∧ x.1 ≤ 255) ∧ 0 ≤ x.2 ∧ x.2 ≤ 255) : CallsV Tryd.prog 12 [.slv l.length 2 (flatA encB l)] [] (fun av H' => (trF l = [] ∧ av = .agg [.nilsl] ∧ H' = []) ∨ (trF l ≠ [] ∧ av = treeV (trF l) ∧ H' = [])) := by
  refine callsG_at Tryd.func12 (by kernel_rfl) ?_
  have en := entries_w l hl hz
  have hX := enK_ok l (enN l)
  have hXl := enX_len l
  unfold trF
  generalize enK l (enN l) = X at *
  have lo : ∀ s', GoV Tryd.prog 0 (loopB Tryd.f12 0) (isX (.exit 0) s') (trS X X.length (trK X X.length)) → LoopG Tryd.prog 0 Tryd.f12 0 (.exit 0) s' (tr0 X 0) := fun s' hx =>
    loopG_of X.length (fun k => trS X k (trK X k)) rfl (by simp) (fun k hk => trStep X (trK X k) (by omega) (by have := trK_len X k; omega) hX (trK_ok X hX k (by omega)) k hk) hx
  generalize trK X X.length = T at *
  by_cases h0 : T = []
  · have hL : LoopG Tryd.prog 0 Tryd.f12 0 (.exit 0) (stOf 36 [(2, .ptr 0 0), (3, .ptr 1 0)] [.row 24 [.nilsl], .row 24 [.nilsl]]) (tr0 X 0) := by
      refine lo _ ?_
      unfold trS
      rw [if_pos h0]
      unfold tr0
      clear lo
      exact g_x [⟨4, [], .br false .no⟩] [.sel [2, 3]] (show decide ((↑X.length : Int) < (↑X.length : Int)) = false from (by rw [decide_eq_false_iff_not]; omega))
    unfold tr0 at hL
    clear lo
    have e1' := en
    have e2' := hL
    refine g_q [⟨5, [], .call (avOf e1') (blOf e1') []⟩, ⟨8, [.sel [2, 3, 4, 5]], .loop (exOf e2') (endOf e2')⟩] [.sel [2]] Exit.ret (stOf 36 [(2, AV.ptr 0 0)] [Blk.row 24 [AV.nilsl], Blk.row 24 [AV.nilsl]]) (And.intro (show 1 ≤ 1 from (by omega)) (And.intro e1' (And.intro e2' (And.intro (show 1 ≤ 1 from (by omega)) (show 1 ≤ 1 from (by omega)))))) ?_
    refine g_f [] [] (AV.agg [AV.nilsl]) ([]) (show 1 ≤ 1 from (by omega)) ?_
    exact .inl ⟨h0, rfl, rfl⟩
  · have hL : LoopG Tryd.prog 0 Tryd.f12 0 (.exit 0) (stOf 36 [(2, .ptr 0 0), (3, .ptr 1 0)] [.row 24 [.nilsl], .row 24 [filesV T]]) (tr0 X 0) := by
      refine lo _ ?_
      unfold trS
      rw [if_neg h0]
      unfold tr1
      clear lo
      exact g_x [⟨4, [], .br false .no⟩] [.sel [2, 3]] (show decide ((↑X.length : Int) < (↑X.length : Int)) = false from (by rw [decide_eq_false_iff_not]; omega))
    unfold tr0 at hL
    clear lo
    have e1' := en
    have e2' := hL
    refine g_q [⟨5, [], .call (avOf e1') (blOf e1') []⟩, ⟨8, [.sel [2, 3, 4, 5]], .loop (exOf e2') (endOf e2')⟩] [.sel [2]] Exit.ret (stOf 36 [(2, AV.ptr 0 0)] [Blk.row 24 [AV.slv T.length 2 (flatA encT T)], Blk.row 24 [AV.slv T.length 2 (flatA encT T)]]) (And.intro (show 1 ≤ 1 from (by omega)) (And.intro e1' (And.intro e2' (And.intro (show 1 ≤ 1 from (by omega)) (show 1 ≤ 1 from (by omega)))))) ?_
    refine g_f [] [] (AV.agg [AV.slv T.length 2 (flatA encT T)]) ([]) (show 1 ≤ 1 from (by omega)) ?_
    exact .inr ⟨h0, rfl, rfl⟩
theorem tree_w (l : List (Int × Int)) (hl : l.length ≤ 9223372036854775807) (hz : ∀ x ∈ l, (0 ≤ x.1 ∧ x.1 ≤ 255) ∧ 0 ≤ x.2 ∧ x.2 ≤ 255) : CallsV Tryd.prog 12 [.slv l.length 2 (flatA encB l)] [] (fun av H' => av = treeV (trF l) ∧ H' = []) := by
  have h := tree_v l hl hz
  by_cases h0 : trF l = []
  · rw [h0]
    exact callsV_val (h.mono fun av H' q => by
      rcases q with ⟨_, q⟩ | ⟨q, _⟩
      · exact q
      · exact absurd h0 q) rd_nil
  · exact h.mono fun av H' q => by
      rcases q with ⟨q, _⟩ | ⟨_, q⟩
      · exact absurd q h0
      · exact q
end Go.Proofs.YthcaeofgegfncaaDoor
namespace Go.Proofs.YthcaeofgegfncaaDoor
open Go Go.RowKit V
set_option linter.unusedSimpArgs false
set_option linter.unusedVariables false
set_option maxHeartbeats 20000000
structure Stp (l : List (Int × Int)) : Prop where
  len : l.length ≤ 9223372036854775807
  each : ∀ x ∈ l, (0 ≤ x.1 ∧ x.1 ≤ 255) ∧ 0 ≤ x.2 ∧ x.2 ≤ 255
abbrev stpV (l : List (Int × Int)) : AV := .slv l.length 2 (flatA encB l)
end Go.Proofs.YthcaeofgegfncaaDoor
namespace Go.Proofs.YthcaeofgegfncaaDoor
open Go Go.RowKit V
set_option linter.unusedSimpArgs false
set_option linter.unusedVariables false
set_option maxHeartbeats 20000000
def encBV (z : Int × Int) : List Value := [.int .u8 z.1, .int .u8 z.2]
theorem pairB : PairE encBV encB := fun _ => rfl
theorem encBV_ok : Enc encBV 2 := ⟨fun _ => rfl, fun x u hu => by simp [encBV] at hu; rcases hu with rfl | rfl <;> rfl, by omega⟩
set_option maxRecDepth 20000 in
theorem arg_steps {w : World} {v : Value} (h : Arg Tryd.prog w 25 v) : ∃ l : List (Int × Int), Rep pl0 w v (stpV l) ∧ Stp l := by
  obtain ⟨a, len, cap, rfl, h1, h2, h3, vs, h4, h5, h6⟩ := Arg.slice Tryd.underlying25 (ts := [5, 5]) (by kernel_rfl) (by kernel_rfl) (by decide) h
  have h4' : vs.length = len * 2 := h4
  obtain ⟨l, g1, rfl, g3⟩ := rows_of (enc := encBV) (size := 2) (fun z => (0 ≤ z.1 ∧ z.1 ≤ 255) ∧ (0 ≤ z.2 ∧ z.2 ≤ 255)) len vs h4' (fun i hi => by
    have a0 := h6 i hi 0 (by simp) (by simp only [List.length_cons, List.length_nil]; omega)
    have a1 := h6 i hi 1 (by simp) (by simp only [List.length_cons, List.length_nil]; omega)
    unfold Good at a0 a1
    simp only [List.getElem_cons_zero, List.getElem_cons_succ, Tryd.underlying5] at a0 a1
    obtain ⟨y, e0, hy⟩ := a0
    obtain ⟨z, e1, hz⟩ := a1
    refine ⟨(y, z), ?_, wf_u8 hy, wf_u8 hz⟩
    simp only [List.length_cons, List.length_nil, Nat.zero_add] at e0 e1
    rw [List.drop_eq_getElem_cons (by omega), List.drop_eq_getElem_cons (by omega), List.take_succ_cons, List.take_succ_cons, List.take_zero]
    exact congr (congrArg _ e0) (congrArg (fun x => [x]) e1))
  refine ⟨l, ?_, by unfold maxLen at h2; omega, g3⟩
  have := rep_of_rowV (p := pl0) pairB encBV_ok g1 h1 h3 h5 h2 (fun x _ => pl0_M _)
  rw [← g1] at this ⊢
  exact this
end Go.Proofs.YthcaeofgegfncaaDoor
namespace Go.Proofs.YthcaeofgegfncaaDoor
open Go Go.RowKit V
set_option linter.unusedSimpArgs false
set_option linter.unusedVariables false
set_option maxHeartbeats 20000000
end Go.Proofs.YthcaeofgegfncaaDoor
namespace Go.Proofs.YthcaeofgegfncaaDoor
open Go Go.RowKit V
set_option linter.unusedSimpArgs false
set_option linter.unusedVariables false
set_option maxHeartbeats 20000000
structure Raw (l : List TE) : Prop where
  len : l.length ≤ 9223372036854775807
  each : ∀ x ∈ l, x.1.size ≤ reachBytes ∧ x.2.size ≤ reachBytes
end Go.Proofs.YthcaeofgegfncaaDoor
namespace Go.Proofs.YthcaeofgegfncaaDoor
open Go Go.RowKit V
set_option linter.unusedSimpArgs false
set_option linter.unusedVariables false
set_option maxHeartbeats 20000000
def sgS (a b : List TE) (i : Nat) : St := stOf 31 [(2, .ptr 0 0), (3, .ptr 1 0), (5, .int .i64 (i : Int))] [.row 24 [filesV a], .row 24 [filesV b]]
theorem sameG (a b : List TE) (ha : a.length ≤ 1000) : CallsV Tryd.prog 15 [treeV a, treeV b] [] (fun av H' => av = .bool (decide (a = b)) ∧ H' = []) := by
  by_cases hab : a = b
  · subst hab
    rw [decide_eq_true rfl]
    exact sameR a ha
  · rw [decide_eq_false hab]
    refine callsG_at Tryd.func15 (by kernel_rfl) ?_
    by_cases hlen : a.length = b.length
    · have hf : ∃ m, m < a.length ∧ (∀ k, k < m → a.getD k tD = b.getD k tD) ∧ a.getD m tD ≠ b.getD m tD := by
        rcases fstN_or (fun k => decide (a.getD k tD = b.getD k tD)) a.length with ⟨_, h2⟩ | ⟨h1, h2, h3⟩
        · exfalso
          refine hab (List.ext_getElem hlen fun i h1 h2' => ?_)
          have := of_decide_eq_true (h2 i h1)
          rwa [getD_get h1, getD_get h2'] at this
        · exact ⟨_, h1, fun k hk => of_decide_eq_true (h2 k hk), of_decide_eq_false h3⟩
      obtain ⟨m, h1, h2, h3⟩ := hf
      have hL : LoopG Tryd.prog 0 Tryd.f15 0 .ret (stOf 31 [(4, .bool false)] []) (sgS a b 0) := by
        refine loopG_of m (fun k => sgS a b k) rfl (by simp) ?_ ?_
        · intro k hk
          have at1 := encT_at a k (by omega)
          have at2 := encT_at b k (by omega)
          rw [← h2 k hk] at at2
          generalize a.getD k tD = x at at1 at2
          have e1 : (x.1.toList == x.1.toList) = true := beq_self_eq_true _
          have e2 : (x.2.toList == x.2.toList) = true := beq_self_eq_true _
          clear h2 h3 hab
          unfold sgS
          have e1' := (congrArg (fun z => AV.fptr z) at1)
          have e2' := (congrArg (fun z => AV.fptr z) at2)
          have e3' := (congrArg (fun z => AV.int .i64 z) (wrap_i64 (e := (↑k : Int) + (1 : Int)) (by omega) (by omega)))
          exact g_x [⟨5, [], .br true .no⟩, ⟨9, [], .as (rhsOf e1')⟩, ⟨14, [], .as (rhsOf e2')⟩, ⟨17, [], .br false .no⟩, ⟨19, [], .as (rhsOf e3')⟩] [.sel [2, 3, 5]] (And.intro (show 1 ≤ 1 from (by omega)) (And.intro (show decide ((↑k : Int) < (↑a.length : Int)) = true from (by rw [decide_eq_true_iff]; omega)) (And.intro (show 1 ≤ 1 from (by omega)) (And.intro (show (0 : Int) ≤ (↑k : Int) ∧ (↑k : Int) < (↑a.length : Int) from (by omega)) (And.intro e1' (And.intro (show 2 ≤ (AV.str x.fst :: AV.str x.snd :: flatA encT (List.drop (k + 1) a)).length from (by exact Nat.le_of_ble_eq_true (by kernel_rfl))) (And.intro (show 1 ≤ 1 from (by omega)) (And.intro (show (0 : Int) ≤ (↑k : Int) ∧ (↑k : Int) < (↑b.length : Int) from (by omega)) (And.intro e2' (And.intro (show 2 ≤ (AV.str x.fst :: AV.str x.snd :: flatA encT (List.drop (k + 1) b)).length from (by exact Nat.le_of_ble_eq_true (by kernel_rfl))) (And.intro (Eq.trans (congrArg (fun z => !(z && (x.snd.toList == x.snd.toList && true))) e1) (congrArg (fun z => !(true && (z && true))) e2)) e3')))))))))))
        · have at1 := encT_at a m (by omega)
          have at2 := encT_at b m (by omega)
          have hne : ((a.getD m tD).1.toList == (b.getD m tD).1.toList && ((a.getD m tD).2.toList == (b.getD m tD).2.toList && true)) = false := by
            rw [Bool.and_true, Bool.and_eq_false_iff]
            by_cases q : (a.getD m tD).1 = (b.getD m tD).1
            · right
              rw [← Bool.not_eq_true, beqL_iff]
              exact fun q2 => h3 (Prod.ext q q2)
            · left
              rw [← Bool.not_eq_true, beqL_iff]
              exact q
          generalize a.getD m tD = x at *
          generalize b.getD m tD = y at *
          have h1' : decide ((m : Int) < (a.length : Int)) = true := decide_eq_true (by omega)
          clear h2 h3 hab
          unfold sgS
          have e1' := (congrArg (fun z => AV.bool z) h1')
          have e2' := (congrArg (fun z => AV.fptr z) at1)
          have e3' := (congrArg (fun z => AV.fptr z) at2)
          have e4' := (congrArg (fun z => AV.bool !z) hne)
          exact g_x [⟨4, [], .as (rhsOf e1')⟩, ⟨9, [], .as (rhsOf e2')⟩, ⟨14, [], .as (rhsOf e3')⟩, ⟨16, [], .as (rhsOf e4')⟩] [.sel [4], .keep [] []] (And.intro (show 1 ≤ 1 from (by omega)) (And.intro e1' (And.intro (show 1 ≤ 1 from (by omega)) (And.intro (show (0 : Int) ≤ (↑m : Int) ∧ (↑m : Int) < (↑a.length : Int) from (by omega)) (And.intro e2' (And.intro (show 2 ≤ (AV.str x.fst :: AV.str x.snd :: flatA encT (List.drop (m + 1) a)).length from (by exact Nat.le_of_ble_eq_true (by kernel_rfl))) (And.intro (show 1 ≤ 1 from (by omega)) (And.intro (show (0 : Int) ≤ (↑m : Int) ∧ (↑m : Int) < (↑b.length : Int) from (by omega)) (And.intro e3' (And.intro (show 2 ≤ (AV.str y.fst :: AV.str y.snd :: flatA encT (List.drop (m + 1) b)).length from (by exact Nat.le_of_ble_eq_true (by kernel_rfl))) e4'))))))))))
      unfold sgS at hL
      have e1' := hL
      refine g_q [⟨10, [], .br false .no⟩, ⟨12, [.sel [2, 3, 5]], .loop (exOf e1') (endOf e1')⟩] [] Exit.ret (stOf 31 [(4, AV.bool false)] []) (And.intro (show 1 ≤ 1 from (by omega)) (And.intro (show 1 ≤ 1 from (by omega)) (And.intro (show ((↑a.length : Int) != (↑b.length : Int)) = false from (by simp_all; done)) e1'))) ?_
      refine g_f [] [] (AV.bool false) ([]) trivial ?_
      exact ⟨rfl, rfl⟩
    · refine g_q [⟨10, [], .br true .no⟩] [.sel [4]] Exit.ret (stOf 31 [(4, AV.bool false)] [Blk.row 24 [AV.slv a.length 2 (flatA encT a)], Blk.row 24 [AV.slv b.length 2 (flatA encT b)]]) (And.intro (show 1 ≤ 1 from (by omega)) (And.intro (show 1 ≤ 1 from (by omega)) (show ((↑a.length : Int) != (↑b.length : Int)) = true from (by simp_all; omega)))) ?_
      refine g_f [] [] (AV.bool false) ([]) trivial ?_
      exact ⟨rfl, rfl⟩
end Go.Proofs.YthcaeofgegfncaaDoor
namespace Go.Proofs.YthcaeofgegfncaaDoor
open Go Go.RowKit V
set_option linter.unusedSimpArgs false
set_option linter.unusedVariables false
set_option maxHeartbeats 20000000
theorem rd_second {p p1 : Pl} {w : World} {v : Value} {y : AV} (hy : (∃ n, y = .int .i64 n) ∨ ∃ b, y = .bool b) (h : Rep1 p w v y) : Rep1 p1 w v y := by
  rcases hy with ⟨n, rfl⟩ | ⟨b, rfl⟩
  · have h0 : RepF p.M w v (.int .i64 n) := h
    cases h0
    exact RepF.int _ _
  · have h0 : RepF p.M w v (.bool b) := h
    cases h0
    exact RepF.bool b
theorem rd_tup_sl {t : TypeId} {xs : List AV} {len sz : Nat} {y : AV} (hy : (∃ n, y = .int .i64 n) ∨ ∃ b, y = .bool b) (hn : ∀ x ∈ xs, noid0 x = true ∧ x ≠ .junk) (hl : len * sz = xs.length) : RdV [.row t xs] (.tuple [.sl 0 0 len sz, y]) (.tuple [.slv len sz xs, y]) := fun p p1 w v hH hL hv => by
  obtain ⟨vs, e1, e2, e3⟩ := hv
  refine ⟨vs, e1, e2, fun i i1 i2 => ?_⟩
  simp only [List.length_cons, List.length_nil] at i2
  rcases i with _ | _ | i
  · have h0 : Rep p w vs.toList[0] (.sl 0 0 len sz) := e3 0 i1 (by simp)
    exact (rd_sl (t := t) hn hl p p1 w _ hH hL h0 : Rep p1 w _ (.slv len sz xs))
  · exact rd_second hy (e3 1 i1 (by simp))
  · omega
theorem rd_tup_nil {sz : Nat} {y : AV} (hs : 0 < sz) (hy : (∃ n, y = .int .i64 n) ∨ ∃ b, y = .bool b) : RdV [] (.tuple [.nilsl, y]) (.tuple [.slv 0 sz [], y]) := fun p p1 w v hH hL hv => by
  obtain ⟨vs, e1, e2, e3⟩ := hv
  refine ⟨vs, e1, e2, fun i i1 i2 => ?_⟩
  simp only [List.length_cons, List.length_nil] at i2
  rcases i with _ | _ | i
  · have h0 : RepF p.M w vs.toList[0] .nilsl := e3 0 i1 (by simp)
    have h2 : ∃ z, vs.toList[0] = z ∧ RepF p.M w z .nilsl := ⟨_, rfl, h0⟩
    obtain ⟨z, hz, hz2⟩ := h2
    show Rep0 p1 w vs.toList[0] (.slv 0 sz [])
    rw [hz]
    cases hz2
    exact nil_slv0 sz hs p1 w _ RepF.nilsl
  · exact rd_second hy (e3 1 i1 (by simp))
  · omega
def eA (x : TE) : List AV := .int .u8 (IntKind.u8.wrap (x.1.size : Int)) :: (bytesAV x.1 ++ .int .u8 (IntKind.u8.wrap ((x.2.size / 256 : Nat) : Int)) :: .int .u8 (IntKind.u8.wrap (x.2.size : Int)) :: bytesAV x.2)
def eN (x : TE) : Nat := x.1.size + x.2.size + 3
theorem bytesAV_len (s : ByteArray) : (bytesAV s).length = s.size := by unfold bytesAV; rw [List.length_map, Array.length_toList]; rfl
theorem eA_len (x : TE) : (eA x).length = eN x := by
  unfold eA eN
  rw [List.length_cons, List.length_append, List.length_cons, List.length_cons, bytesAV_len, bytesAV_len]; omega
def ecA (l : List TE) : List AV := l.flatMap eA
def ecN (l : List TE) : Nat := (ecA l).length
theorem ecA_snoc (l : List TE) (x : TE) : ecA (l ++ [x]) = ecA l ++ eA x := by simp [ecA]
theorem isB_bytes (s : ByteArray) : ∀ x ∈ bytesAV s, ∃ z : Int, x = .int .u8 z ∧ 0 ≤ z ∧ z ≤ 255 := fun x hx => by
  obtain ⟨b, _, rfl⟩ := List.mem_map.1 hx
  have := b.toNat_lt
  exact ⟨_, rfl, by omega, by omega⟩
theorem wrap_u8 (n : Int) : 0 ≤ IntKind.u8.wrap n ∧ IntKind.u8.wrap n ≤ 255 := by
  have h : IntKind.u8.wrap n = n % 256 := IntKind.wrap_u8 n
  omega
theorem isB_e (x : TE) : ∀ y ∈ eA x, ∃ z : Int, y = .int .u8 z ∧ 0 ≤ z ∧ z ≤ 255 := fun y hy => by
  unfold eA at hy
  rcases List.mem_cons.1 hy with rfl | hy
  · exact ⟨_, rfl, wrap_u8 _⟩
  · rcases List.mem_append.1 hy with hy | hy
    · exact isB_bytes _ y hy
    · rcases List.mem_cons.1 hy with rfl | hy
      · exact ⟨_, rfl, wrap_u8 _⟩
      · rcases List.mem_cons.1 hy with rfl | hy
        · exact ⟨_, rfl, wrap_u8 _⟩
        · exact isB_bytes _ y hy
theorem isB_ec (l : List TE) : ∀ y ∈ ecA l, ∃ z : Int, y = .int .u8 z ∧ 0 ≤ z ∧ z ≤ 255 := fun y hy => by
  obtain ⟨x, _, h⟩ := List.mem_flatMap.1 hy
  exact isB_e x y h
theorem noB {o : List AV} (h : ∀ y ∈ o, ∃ z : Int, y = .int .u8 z ∧ 0 ≤ z ∧ z ≤ 255) : (∀ y ∈ o, noid0 y = true) ∧ (∀ y ∈ o, plain0 y = true) ∧ (∀ y ∈ o, noid0 y = true ∧ y ≠ .junk) ∧ o.all isU8 = true := by
  refine ⟨fun y hy => ?_, fun y hy => ?_, fun y hy => ?_, List.all_eq_true.2 fun y hy => ?_⟩ <;> obtain ⟨z, rfl, _⟩ := h y hy
  · rfl
  · rfl
  · exact ⟨rfl, by simp⟩
  · rfl
end Go.Proofs.YthcaeofgegfncaaDoor
namespace Go.Proofs.YthcaeofgegfncaaDoor
open Go Go.RowKit V
set_option linter.unusedSimpArgs false
set_option linter.unusedVariables false
set_option maxHeartbeats 20000000
theorem shift8 (n : Nat) : (n : Int).fdiv (2 ^ min (Int.toNat 8) IntKind.i64.bits) = ((n / 256 : Nat) : Int) := by
  have e : (2 : Int) ^ min (Int.toNat 8) IntKind.i64.bits = ((256 : Nat) : Int) := by decide
  rw [e, Int.fdiv_eq_ediv_of_nonneg _ (by omega), ← Int.natCast_ediv]
def envS (l : List TE) (k : Nat) (o : List AV) (n : Nat) : St := stOf 52 [(5, .sl 0 0 n 1), (14, filesV l), (15, .int .i64 (l.length : Int)), (16, .int .i64 (k : Int))] [.row 5 o]
theorem take_all (o : List AV) (n : Nat) (h : o.length = n) : List.take (n * 1) o = o := List.take_of_length_le (by omega)
theorem env_step (l : List TE) (k : Nat) (o : List AV) (n : Nat) (hk : k < l.length) (hl : l.length ≤ 1000) (ho : ∀ y ∈ o, ∃ z : Int, y = .int .u8 z ∧ 0 ≤ z ∧ z ≤ 255) (hn : o.length = n) (hn2 : n ≤ 10000000) (hx : OkT (l.getD k tD)) (hx2 : (l.getD k tD).2.size ≤ 4096) : GoV Tryd.prog 0 (loopB Tryd.f10 0) (isX .normal (envS l (k + 1) (o ++ eA (l.getD k tD)) (n + 1 + (l.getD k tD).1.size + 2 + (l.getD k tD).2.size))) (envS l k o n) := by
  have at1 : (flatA encT l).drop ((k : Int).toNat * 2) = AV.str (l.getD k tD).1 :: AV.str (l.getD k tD).2 :: flatA encT (l.drop (k + 1)) := encT_at l k hk
  have e1 := isB_e (l.getD k tD)
  have hx1 := hx.1
  unfold eA at e1 ⊢
  generalize l.getD k tD = x at *
  have sh := shift8 x.2.size
  have lp := bytesAV_len x.1
  have lc := bytesAV_len x.2
  generalize hbp : bytesAV x.1 = bp at *
  generalize hbc : bytesAV x.2 = bc at *
  obtain ⟨o1, h1⟩ : ∃ o1, o ++ [AV.int .u8 (IntKind.u8.wrap (x.1.size : Int))] = o1 := ⟨_, rfl⟩
  obtain ⟨o2, h2⟩ : ∃ o2, o1 ++ bp = o2 := ⟨_, rfl⟩
  obtain ⟨o3, h3⟩ : ∃ o3, o2 ++ [AV.int .u8 (IntKind.u8.wrap ((x.2.size / 256 : Nat) : Int)), AV.int .u8 (IntKind.u8.wrap (x.2.size : Int))] = o3 := ⟨_, rfl⟩
  obtain ⟨o4, h4⟩ : ∃ o4, o3 ++ bc = o4 := ⟨_, rfl⟩
  have hf : o ++ (AV.int .u8 (IntKind.u8.wrap (x.1.size : Int)) :: (bp ++ AV.int .u8 (IntKind.u8.wrap ((x.2.size / 256 : Nat) : Int)) :: AV.int .u8 (IntKind.u8.wrap (x.2.size : Int)) :: bc)) = o4 := by
    rw [← h4, ← h3, ← h2, ← h1]; simp
  have l1 : o1.length = n + 1 := by rw [← h1, List.length_append, hn]; rfl
  have l2 : o2.length = n + 1 + x.1.size := by rw [← h2, List.length_append, l1, lp]
  have l3 : o3.length = n + 1 + x.1.size + 2 := by rw [← h3, List.length_append, l2]; rfl
  have t0 := take_all o _ hn
  have t1 := take_all o1 _ l1
  have t2 := take_all o2 _ l2
  have t3 := take_all o3 _ l3
  have b0 := (noB ho).1
  have all : ∀ y ∈ o4, ∃ z : Int, y = .int .u8 z ∧ 0 ≤ z ∧ z ≤ 255 := fun y hy => by
    rw [← hf] at hy
    rcases List.mem_append.1 hy with h | h
    · exact ho y h
    · exact e1 y h
  have b4 := (noB all).1
  have b3 : ∀ y ∈ o3, noid0 y = true := fun y hy => b4 y (by rw [← h4]; exact List.mem_append_left _ hy)
  have b2 : ∀ y ∈ o2, noid0 y = true := fun y hy => b3 y (by rw [← h3]; exact List.mem_append_left _ hy)
  have b1 : ∀ y ∈ o1, noid0 y = true := fun y hy => b2 y (by rw [← h2]; exact List.mem_append_left _ hy)
  have g0 : n * 1 ≤ o.length := by omega
  have g1 : (n + 1) * 1 ≤ o1.length := by omega
  have g2 : (n + 1 + x.1.size) * 1 ≤ o2.length := by omega
  have g3 : (n + 1 + x.1.size + 2) * 1 ≤ o3.length := by omega
  rw [hf]
  clear hf all e1 ho lp lc
  unfold envS
  have e1' := (congrArg (fun z => AV.fptr z) at1)
  have e2' := (Eq.trans (congrArg (fun z => Blk.row 5 (z ++ [AV.int .u8 (IntKind.u8.wrap (↑x.fst.size : Int))])) t0) (congrArg (fun z => Blk.row 5 z) h1))
  have e3' := (Eq.trans (Eq.trans (congrArg (fun z => Blk.row 5 (List.take ((n + 1) * 1) o1 ++ z)) hbp) (congrArg (fun z => Blk.row 5 (z ++ bp)) t1)) (congrArg (fun z => Blk.row 5 z) h2))
  have e4' := (congrArg (fun z => AV.int .i64 z) sh)
  have e5' := (Eq.trans (congrArg (fun z => Blk.row 5 (z ++ [AV.int .u8 (IntKind.u8.wrap (↑(x.snd.size / 256) : Int)), AV.int .u8 (IntKind.u8.wrap (↑x.snd.size : Int))])) t2) (congrArg (fun z => Blk.row 5 z) h3))
  have e6' := (Eq.trans (Eq.trans (congrArg (fun z => Blk.row 5 (List.take ((n + 1 + x.fst.size + 2) * 1) o3 ++ z)) hbc) (congrArg (fun z => Blk.row 5 (z ++ bc)) t3)) (congrArg (fun z => Blk.row 5 z) h4))
  have e7' := (congrArg (fun z => AV.int .i64 z) (wrap_i64 (e := (↑k : Int) + (1 : Int)) (by omega) (by omega)))
  exact g_x [⟨1, [], .br true .no⟩, ⟨2, [], .as (rhsOf e1')⟩, ⟨13, [.hp 3 (rhsOf e2')], .no⟩, ⟨18, [.hp 4 (rhsOf e3')], .no⟩, ⟨23, [], .as (rhsOf e4')⟩, ⟨31, [.hp 6 (rhsOf e5')], .no⟩, ⟨36, [.hp 7 (rhsOf e6')], .no⟩, ⟨37, [], .as (rhsOf e7')⟩] [.sel [5, 14, 15, 16], .keep [7] [true]] (And.intro (show decide ((↑k : Int) < (↑l.length : Int)) = true from (by rw [decide_eq_true_iff]; omega)) (And.intro (show (0 : Int) ≤ (↑k : Int) ∧ (↑k : Int) < (↑l.length : Int) from (by omega)) (And.intro e1' (And.intro (show 2 ≤ (AV.str x.fst :: AV.str x.snd :: flatA encT (List.drop (k + 1) l)).length from (by exact Nat.le_of_ble_eq_true (by kernel_rfl))) (And.intro (show 2 ≤ 2 from (by omega)) (And.intro (show 1 ≤ 2 from (by omega)) (And.intro (show n * 1 ≤ o.length from (by omega)) (And.intro (show 1 ≤ 1 from (by omega)) (And.intro (show (n + 1) * 1 ≤ 140737488355328 from (by omega)) (And.intro (show n + 1 ≤ maxLen from (by (unfold maxLen; omega))) (And.intro (congrArg some e2') (And.intro (show 1 ≤ 2 from (by omega)) (And.intro (show (n + 1) * 1 ≤ o1.length from (by omega)) (And.intro (show (n + 1 + x.fst.size) * 1 ≤ 140737488355328 from (by omega)) (And.intro (show n + 1 + x.fst.size ≤ maxLen from (by (unfold maxLen; omega))) (And.intro (congrArg some e3') (And.intro (show 1 ≤ 1 from (by omega)) (And.intro (show (0 : Int) ≤ (8 : Int) from (by omega)) (And.intro e4' (And.intro (show 1 ≤ 1 from (by omega)) (And.intro (show (n + 1 + x.fst.size) * 1 ≤ o2.length from (by omega)) (And.intro (show 2 ≤ 2 from (by omega)) (And.intro (show (n + 1 + x.fst.size + 2) * 1 ≤ 140737488355328 from (by omega)) (And.intro (show n + 1 + x.fst.size + 2 ≤ maxLen from (by (unfold maxLen; omega))) (And.intro (congrArg some e5') (And.intro (show 1 ≤ 1 from (by omega)) (And.intro (show (n + 1 + x.fst.size + 2) * 1 ≤ o3.length from (by omega)) (And.intro (show (n + 1 + x.fst.size + 2 + x.snd.size) * 1 ≤ 140737488355328 from (by omega)) (And.intro (show n + 1 + x.fst.size + 2 + x.snd.size ≤ maxLen from (by (unfold maxLen; omega))) (And.intro (congrArg some e6') (And.intro e7' (show ∀ (x : AV), x ∈ o4 → noid0 x = true from b4))))))))))))))))))))))))))))))))
end Go.Proofs.YthcaeofgegfncaaDoor
namespace Go.Proofs.YthcaeofgegfncaaDoor
open Go Go.RowKit V
set_option linter.unusedSimpArgs false
set_option linter.unusedVariables false
set_option maxHeartbeats 20000000
def ecF (l : List TE) : Int := if ckF l = 0 then (if 6000 < ecN l then 2 else 0) else ckF l
def ecO (l : List TE) : List AV := if ecF l = 0 then ecA l else []
theorem ecA_next {l : List TE} {k : Nat} (hk : k < l.length) : ecA (l.take (k + 1)) = ecA (l.take k) ++ eA (l.getD k tD) := by
  rw [take_snoc hk, ecA_snoc]
theorem ecN_next {l : List TE} {k : Nat} (hk : k < l.length) : ecN (l.take (k + 1)) = ecN (l.take k) + 1 + (l.getD k tD).1.size + 2 + (l.getD k tD).2.size := by
  unfold ecN
  rw [ecA_next hk, List.length_append, eA_len]
  unfold eN; omega
theorem cf_size {x : TE} (h : cfF x = 0) : x.2.size ≤ 4096 := by
  unfold cfF at h
  split at h
  · split at h
    · assumption
    · cases h
  · cases h
theorem ecN_le {l : List TE} (hok : ∀ x ∈ l, OkT x) (hc : ∀ x ∈ l, cfF x = 0) : ∀ k, k ≤ l.length → ecN (l.take k) ≤ k * 40000
  | 0, _ => by simp [ecN, ecA]
  | k + 1, h => by
    have ih := ecN_le hok hc k (by omega)
    have h1 := (hok _ (getD_mem (show k < l.length by omega))).1
    have h2 := cf_size (hc _ (getD_mem (show k < l.length by omega)))
    rw [ecN_next (by omega)]
    omega
theorem env_loop (l : List TE) (hc : ckF l = 0) (hok : ∀ x ∈ l, OkT x) : LoopG Tryd.prog 0 Tryd.f10 0 (.exit 0) (stOf 52 [(5, .sl 0 0 (ecN l) 1)] [.row 5 (ecA l)]) (envS l 0 [] 0) := by
  have fi := (ck_fine hc).1
  have h64 := fi.len
  refine loopG_of l.length (fun k => envS l k (ecA (l.take k)) (ecN (l.take k))) rfl (by simp) ?_ ?_
  · intro k hk
    have hb := ecN_le hok fi.each k (by omega)
    rw [ecA_next hk, ecN_next hk]
    exact env_step l k _ _ hk (by omega) (isB_ec _) rfl (by omega) (hok _ (getD_mem hk)) (cf_size (fi.each _ (getD_mem hk)))
  · rw [List.take_length]
    have b := (noB (isB_ec l)).1
    generalize ecA l = o at *
    generalize ecN l = n at *
    unfold envS
    exact g_x [⟨1, [], .br false .no⟩] [.sel [5]] (show decide ((↑l.length : Int) < (↑l.length : Int)) = false from (by rw [decide_eq_false_iff_not]; omega))
theorem enc_v (l : List TE) (hl : l.length ≤ 1000) (hok : ∀ x ∈ l, OkT x) : CallsV Tryd.prog 10 [treeV l] [] (fun av H' => (ecF l = 0 ∧ av = .tuple [.sl 0 0 (ecN l) 1, .int .i64 0] ∧ H' = [.row 5 (ecA l)]) ∨ (ecF l ≠ 0 ∧ av = .tuple [.nilsl, .int .i64 (ecF l)] ∧ H' = [])) := by
  refine callsG_at Tryd.func10 (by kernel_rfl) ?_
  have ck := check_v l hl hok
  unfold ecF
  by_cases hc : ckF l = 0
  · rw [hc] at ck
    rw [if_pos hc]
    have lo := env_loop l hc hok
    have b := noB (isB_ec l)
    have hb := ecN_le hok (ck_fine hc).1.each l.length (Nat.le_refl _)
    rw [List.take_length] at hb
    have h64 := (ck_fine hc).1.len
    have hbb : ecN l ≤ 10000000 := by omega
    have b1 := b.1
    have b2 := b.2.1
    clear b hb
    generalize ecA l = o at *
    generalize ecN l = n at *
    unfold envS at lo
    by_cases h6 : 6000 < n
    · rw [if_pos h6]
      have e1' := ck
      have e2' := lo
      refine g_q [⟨4, [], .call (avOf e1') (blOf e1') []⟩, ⟨14, [.sel [5, 14, 15, 16], .keep [] [], .own 5 5 1], .loop (exOf e2') (endOf e2')⟩, ⟨18, [], .br true .no⟩] [.sel [2, 3]] Exit.ret (stOf 52 [(2, AV.nilsl), (3, AV.int .i64 (2 : Int))] [Blk.row 5 o]) (And.intro (show 1 ≤ 1 from (by omega)) (And.intro e1' (And.intro (show 1 ≤ 1 from (by omega)) (And.intro e2' (show decide ((↑n : Int) > (6000 : Int)) = true from (by rw [decide_eq_true_iff]; omega)))))) ?_
      refine g_f [] [] (AV.tuple [AV.nilsl, AV.int .i64 (2 : Int)]) ([]) trivial ?_
      exact .inr ⟨by decide, rfl, rfl⟩
    · rw [if_neg h6]
      have e1' := ck
      have e2' := lo
      refine g_q [⟨4, [], .call (avOf e1') (blOf e1') []⟩, ⟨14, [.sel [5, 14, 15, 16], .keep [] [], .own 5 5 1], .loop (exOf e2') (endOf e2')⟩, ⟨18, [], .br false .no⟩] [.sel [2, 3]] Exit.ret (stOf 52 [(2, AV.sl 0 0 n 1), (3, AV.int .i64 (0 : Int))] [Blk.row 5 o]) (And.intro (show 1 ≤ 1 from (by omega)) (And.intro e1' (And.intro (show 1 ≤ 1 from (by omega)) (And.intro e2' (show decide ((↑n : Int) > (6000 : Int)) = false from (by rw [decide_eq_false_iff_not]; omega)))))) ?_
      refine g_f [0] [true] (AV.tuple [AV.sl 0 0 n 1, AV.int .i64 (0 : Int)]) ([Blk.row 5 o]) (show ∀ (x : AV), x ∈ o → noid0 x = true from b1) ?_
      exact .inl ⟨rfl, rfl, rfl⟩
  · rw [if_neg hc]
    have hq : (ckF l == 0) = false := beq_eq_false_iff_ne.2 hc
    generalize ckF l = e at *
    have e1' := ck
    refine g_q [⟨4, [], .call (avOf e1') (blOf e1') []⟩, ⟨8, [], .br true .no⟩] [.sel [2, 3]] Exit.ret (stOf 52 [(2, AV.nilsl), (3, AV.int .i64 e)] [Blk.row 24 [AV.slv l.length 2 (flatA encT l)]]) (And.intro (show 1 ≤ 1 from (by omega)) (And.intro e1' (show (e != (0 : Int)) = true from (by simp_all; done)))) ?_
    refine g_f [] [] (AV.tuple [AV.nilsl, AV.int .i64 e]) ([]) trivial ?_
    exact .inr ⟨hc, rfl, rfl⟩
theorem val_enc {f : FuncId} {args : List AV} {e : Int} {n : Nat} {o : List AV} (ho : ∀ y ∈ o, noid0 y = true ∧ y ≠ .junk) (hn : o.length = n) (h : CallsV Tryd.prog f args [] (fun av H' => (e = 0 ∧ av = .tuple [.sl 0 0 n 1, .int .i64 0] ∧ H' = [.row 5 o]) ∨ (e ≠ 0 ∧ av = .tuple [.nilsl, .int .i64 e] ∧ H' = []))) : CallsV Tryd.prog f args [] (fun av H' => av = .tuple [.slv (if e = 0 then o else []).length 1 (if e = 0 then o else []), .int .i64 e] ∧ H' = []) := by
  by_cases he : e = 0
  · rw [if_pos he]
    subst he
    rw [hn]
    exact callsV_val (h.mono fun av H' q => by
      rcases q with ⟨_, q⟩ | ⟨q, _⟩
      · exact q
      · exact absurd rfl q) (rd_tup_sl (.inl ⟨_, rfl⟩) ho (by omega))
  · rw [if_neg he]
    exact callsV_val (h.mono fun av H' q => by
      rcases q with ⟨q, _⟩ | ⟨_, q⟩
      · exact absurd q he
      · exact q) (rd_tup_nil (by omega) (.inl ⟨_, rfl⟩))
theorem enc_w (l : List TE) (hl : l.length ≤ 1000) (hok : ∀ x ∈ l, OkT x) : CallsV Tryd.prog 10 [treeV l] [] (fun av H' => av = .tuple [.slv (ecO l).length 1 (ecO l), .int .i64 (ecF l)] ∧ H' = []) := val_enc (noB (isB_ec l)).2.2.1 rfl (enc_v l hl hok)
end Go.Proofs.YthcaeofgegfncaaDoor
namespace Go.Proofs.YthcaeofgegfncaaDoor
open Go Go.RowKit V
set_option linter.unusedSimpArgs false
set_option linter.unusedVariables false
set_option maxHeartbeats 20000000
def awT : List TE := [(.mk #[97], .mk #[120, 121])]
theorem awT1 : ecF awT = 0 := by kernel_rfl
theorem awT2 : ecA awT = [.int .u8 1, .int .u8 97, .int .u8 0, .int .u8 2, .int .u8 120, .int .u8 121] := by kernel_rfl
theorem awake_v : CallsV Tryd.prog 9 [] [] (fun av H' => av = .bool true ∧ H' = []) := by
  refine callsG_at Tryd.func9 (by kernel_rfl) ?_
  have o1 : CallsV Tryd.prog 10 [.agg [.slv 1 2 [.str (.mk #[97]), .str (.mk #[120, 121])]]] [] (fun av H' => av = .tuple [.sl 0 0 6 1, .int .i64 0] ∧ H' = [.row 5 [.int .u8 1, .int .u8 97, .int .u8 0, .int .u8 2, .int .u8 120, .int .u8 121]]) := by
    refine (enc_v awT (by decide) (fun x hx => by
      simp only [awT, List.mem_cons, List.not_mem_nil, or_false] at hx
      subst hx
      exact ⟨by decide, by decide⟩)).mono fun av H' q => ?_
    rcases q with ⟨_, q1, q2⟩ | ⟨q, _⟩
    · have e : ecN awT = 6 := by kernel_rfl
      rw [awT2] at q2
      rw [e] at q1
      exact ⟨q1, q2⟩
    · exact absurd awT1 q
  have e1' := (show Reads [Blk.row 46 [AV.str (ByteArray.mk #[(97 : UInt8)]), AV.str (ByteArray.mk #[(120 : UInt8), (121 : UInt8)])]] [AV.agg [AV.sl 0 0 1 2]] [AV.agg [AV.slv 1 2 [AV.str (ByteArray.mk #[(97 : UInt8)]), AV.str (ByteArray.mk #[(120 : UInt8), (121 : UInt8)])]]] from (Reads.cons (Reads1.val (by kernel_rfl)) Reads.nil))
  have e2' := o1
  refine g_q [⟨4, [], .lend (rdOf e1') (avOf e2') (blOf e2') [false]⟩] [.sel [0]] Exit.ret (stOf 17 [(0, AV.bool true)] [Blk.row 46 [AV.str (ByteArray.mk #[(97 : UInt8)]), AV.str (ByteArray.mk #[(120 : UInt8), (121 : UInt8)])], Blk.row 5 [AV.int .u8 (1 : Int), AV.int .u8 (97 : Int), AV.int .u8 (0 : Int), AV.int .u8 (2 : Int), AV.int .u8 (120 : Int), AV.int .u8 (121 : Int)]]) (And.intro e1' (And.intro (show (novR (AV.tuple [AV.sl 0 0 6 1, AV.int .i64 (0 : Int)]) && [Blk.row 5 [AV.int .u8 (1 : Int), AV.int .u8 (97 : Int), AV.int .u8 (0 : Int), AV.int .u8 (2 : Int), AV.int .u8 (120 : Int), AV.int .u8 (121 : Int)]].all novB) = true from (by kernel_rfl)) (And.intro e2' (show (List.take 6 (List.drop 0 [AV.int .u8 (1 : Int), AV.int .u8 (97 : Int), AV.int .u8 (0 : Int), AV.int .u8 (2 : Int), AV.int .u8 (120 : Int), AV.int .u8 (121 : Int)])).all isU8 = true from (by kernel_rfl))))) ?_
  refine g_f [] [] (AV.bool true) ([]) trivial ?_
  exact ⟨rfl, rfl⟩
end Go.Proofs.YthcaeofgegfncaaDoor
namespace Go.Proofs.YthcaeofgegfncaaDoor
open Go Go.RowKit V
set_option linter.unusedSimpArgs false
set_option linter.unusedVariables false
set_option maxHeartbeats 20000000
theorem trK_sub (X : List TE) : ∀ k, k ≤ X.length → ∀ x ∈ trK X k, x ∈ X
  | 0, _, x, hx => by cases hx
  | k + 1, h, x, hx => by
    have ih := trK_sub X k (by omega)
    have hx : x ∈ trN (trK X k) (X.getD k tD) := hx
    unfold trN at hx
    split at hx
    · have hx := (sortR_perm _).mem_iff.1 hx
      unfold ptL at hx
      rcases insR_mem.1 hx with rfl | h2
      · exact getD_mem (by omega)
      · exact ih x (wo_mem.1 h2).1
    · exact ih x hx
theorem enE_small (x : Int × Int) : (enE x).1.size ≤ 20 ∧ (enE x).2.size ≤ 40 := by
  have h1 : ∀ b ∈ ptT, b.size ≤ 20 := by decide
  have h2 : ∀ b ∈ txT, b.size ≤ 40 := by decide
  unfold enE
  refine ⟨h1 _ ?_, h2 _ ?_⟩
  · have hl : x.1.toNat % 12 < ptT.length := Nat.mod_lt _ (by omega)
    show ptT.getD (x.1.toNat % 12) bE ∈ ptT
    rw [List.getD_eq_getElem?_getD, List.getElem?_eq_getElem hl]; exact List.getElem_mem hl
  · have hl : x.2.toNat % 8 < txT.length := Nat.mod_lt _ (by omega)
    show txT.getD (x.2.toNat % 8) bE ∈ txT
    rw [List.getD_eq_getElem?_getD, List.getElem?_eq_getElem hl]; exact List.getElem_mem hl
theorem trF_small (l : List (Int × Int)) : ∀ x ∈ trF l, x.1.size ≤ 20 ∧ x.2.size ≤ 40 := fun x hx => by
  have := trK_sub _ _ (Nat.le_refl _) x hx
  unfold enK at this
  obtain ⟨y, _, rfl⟩ := List.mem_map.1 this
  exact enE_small y
theorem ecN_small {l : List TE} (h : ∀ x ∈ l, x.1.size ≤ 20 ∧ x.2.size ≤ 40) : ∀ k, k ≤ l.length → ecN (l.take k) ≤ k * 63
  | 0, _ => by simp [ecN, ecA]
  | k + 1, hk => by
    have ih := ecN_small h k (by omega)
    have h1 := h _ (getD_mem (show k < l.length by omega))
    rw [ecN_next (by omega)]
    omega
/-- what a short list's code is -/
theorem ec_small {l : List TE} (hc : ckF l = 0) (h : ∀ x ∈ l, x.1.size ≤ 20 ∧ x.2.size ≤ 40) : ecF l = 0 ∧ ecO l = ecA l := by
  have h64 := (ck_fine hc).1.len
  have hb := ecN_small h l.length (Nat.le_refl _)
  rw [List.take_length] at hb
  have e : ecF l = 0 := by
    unfold ecF
    rw [if_pos hc, if_neg (by omega)]
  exact ⟨e, by unfold ecO; rw [if_pos e]⟩
theorem strNums_size (l : List Int) : (strOfNums l).size = l.length := by unfold strOfNums ByteArray.size; simp
end Go.Proofs.YthcaeofgegfncaaDoor
namespace Go.Proofs.YthcaeofgegfncaaDoor
open Go Go.RowKit V
set_option linter.unusedSimpArgs false
set_option linter.unusedVariables false
set_option maxHeartbeats 20000000
/-- bytes as cells -/
def cB (r : List Int) : List AV := r.map (AV.int .u8)
abbrev bvV (r : List Int) : AV := .slv r.length 1 (cB r)
theorem cB_u8 (r : List Int) : (cB r).all isU8 = true := List.all_eq_true.2 fun x hx => by
  obtain ⟨z, _, rfl⟩ := List.mem_map.1 hx
  rfl
theorem cB_num (r : List Int) : (cB r).map numV = r := by
  unfold cB
  rw [List.map_map]
  exact List.map_id' r
def stB (r : List Int) : ByteArray := strOfNums r
theorem text_1 (r : List Int) (n : Nat) : List.map numV (List.take (((n : Int).toNat - Int.toNat 0) * 1) (List.drop (Int.toNat 0 * 1) (cB r))) = r.take n := by
  rw [Int.toNat_natCast, show n - Int.toNat 0 = n from Nat.sub_zero n, Nat.mul_one, show Int.toNat 0 * 1 = 0 from rfl, List.drop_zero, List.map_take, cB_num]
theorem text_2 (r : List Int) (n : Nat) : AV.slv ((r.length : Int).toNat - (n : Int).toNat) 1 (List.take (((r.length : Int).toNat - (n : Int).toNat) * 1) (List.drop ((n : Int).toNat * 1) (cB r))) = bvV (r.drop n) := by
  rw [Int.toNat_natCast, Int.toNat_natCast, Nat.mul_one, Nat.mul_one]
  have h : List.take (r.length - n) (List.drop n (cB r)) = cB (r.drop n) := by
    unfold cB
    rw [List.map_drop]
    exact List.take_of_length_le (by rw [List.length_drop, List.length_map]; exact Nat.le_refl _)
  unfold bvV
  rw [h, List.length_drop]
theorem isU8_take (r : List Int) (k n : Nat) : (List.take k (List.drop n (cB r))).all isU8 = true := List.all_eq_true.2 fun x hx => List.all_eq_true.1 (cB_u8 r) x (List.mem_of_mem_drop (List.mem_of_mem_take hx))
theorem text_t (r : List Int) (n : Nat) (hr : r.length ≤ 10000) (hn : n ≤ r.length) : CallsV Tryd.prog 30 [bvV r, .int .i64 (n : Int)] [] (fun av H' => av = .tuple [.str (stB (r.take n)), bvV (r.drop n), .bool true] ∧ H' = []) := by
  refine callsG_at Tryd.func30 (by kernel_rfl) ?_
  have u1 := isU8_take r (((n : Int).toNat - 0) * 1) 0
  have u2 := isU8_take r (((n : Int).toNat - Int.toNat 0) * 1) (Int.toNat 0 * 1)
  refine g_q [⟨7, [], .br false .no⟩] [.sel [4, 5, 6]] Exit.ret (stOf 18 [(4, AV.str (strOfNums (List.map numV (List.take (((↑n : Int).toNat - Int.toNat (0 : Int)) * 1) (List.drop (Int.toNat (0 : Int) * 1) (cB r)))))), (5, AV.slv ((↑r.length : Int).toNat - (↑n : Int).toNat) 1 (List.take (((↑r.length : Int).toNat - (↑n : Int).toNat) * 1) (List.drop ((↑n : Int).toNat * 1) (cB r)))), (6, AV.bool true)] []) (And.intro (show decide ((↑n : Int) > (↑r.length : Int)) = false from (by rw [decide_eq_false_iff_not]; omega)) (And.intro (show (0 : Int) ≤ (0 : Int) ∧ (0 : Int) ≤ (↑n : Int) ∧ (↑n : Int) ≤ (↑r.length : Int) from (by omega)) (And.intro (show (List.take (((↑n : Int).toNat - 0) * 1) (List.drop 0 (cB r))).all isU8 = true from (by omega)) (show (0 : Int) ≤ (↑n : Int) ∧ (↑n : Int) ≤ (↑r.length : Int) ∧ (↑r.length : Int) ≤ (↑r.length : Int) from (by omega))))) ?_
  refine g_f [] [] (AV.tuple [AV.str (strOfNums (List.map numV (List.take (((↑n : Int).toNat - Int.toNat (0 : Int)) * 1) (List.drop (Int.toNat (0 : Int) * 1) (cB r))))), AV.slv ((↑r.length : Int).toNat - (↑n : Int).toNat) 1 (List.take (((↑r.length : Int).toNat - (↑n : Int).toNat) * 1) (List.drop ((↑n : Int).toNat * 1) (cB r))), AV.bool true]) ([]) trivial ?_
  exact ⟨by rw [text_1, text_2]; rfl, rfl⟩
theorem text_f (r : List Int) (n : Nat) (hr : r.length ≤ 10000) (hn : r.length < n) (hn2 : n ≤ 100000) : CallsV Tryd.prog 30 [bvV r, .int .i64 (n : Int)] [] (fun av H' => av = .tuple [.str bE, .nilsl, .bool false] ∧ H' = []) := by
  refine callsG_at Tryd.func30 (by kernel_rfl) ?_
  refine g_q [⟨7, [], .br true .no⟩] [.sel [4, 5, 6]] Exit.ret (stOf 18 [(4, AV.str (ByteArray.mk #[])), (5, AV.nilsl), (6, AV.bool false)] []) (show decide ((↑n : Int) > (↑r.length : Int)) = true from (by rw [decide_eq_true_iff]; omega)) ?_
  refine g_f [] [] (AV.tuple [AV.str (ByteArray.mk #[]), AV.nilsl, AV.bool false]) ([]) trivial ?_
  exact ⟨rfl, rfl⟩
theorem cB_at (r : List Int) (k : Nat) (h : k < r.length) : (cB r).drop k = AV.int .u8 (r.getD k 0) :: cB (r.drop (k + 1)) := by
  unfold cB
  rw [← List.map_drop, List.drop_eq_getElem_cons h, List.getD_eq_getElem?_getD, List.getElem?_eq_getElem h]
  rfl
theorem shl8 (h : Nat) : (h : Int) * 2 ^ min (Int.toNat 8) IntKind.i64.bits = ((h * 256 : Nat) : Int) := by
  have e : (2 : Int) ^ min (Int.toNat 8) IntKind.i64.bits = 256 := by decide
  rw [e]; omega
theorem or8 (h l : Nat) (hh : h ≤ 255) (hl : l ≤ 255) : ((BitVec.ofInt IntKind.i64.bits ((h * 256 : Nat) : Int) ||| BitVec.ofInt IntKind.i64.bits (l : Int)).toNat : Int) = ((h * 256 + l : Nat) : Int) := by
  have e1 : BitVec.ofInt IntKind.i64.bits ((h * 256 : Nat) : Int) = BitVec.ofNat 64 (h * 256) := BitVec.ofInt_natCast 64 (h * 256)
  have e2 : BitVec.ofInt IntKind.i64.bits (l : Int) = BitVec.ofNat 64 l := BitVec.ofInt_natCast 64 l
  have e3 : (BitVec.ofNat 64 (h * 256) ||| BitVec.ofNat 64 l).toNat = h * 256 + l := by
    rw [BitVec.toNat_or, BitVec.toNat_ofNat, BitVec.toNat_ofNat, Nat.mod_eq_of_lt (by omega), Nat.mod_eq_of_lt (by omega)]
    have := Nat.shiftLeft_add_eq_or_of_lt (show l < 2 ^ 8 by omega) h
    rw [Nat.shiftLeft_eq] at this
    exact this.symm
  rw [e1, e2]
  exact congrArg Nat.cast e3
/-- one file, and what is behind it -/
def pfF (r : List Int) : Option (TE × List Int) :=
  if (r.drop 1).length < (r.getD 0 0).toNat then none else
  if ((r.drop 1).drop (r.getD 0 0).toNat).length < 2 then none else
  if (((r.drop 1).drop (r.getD 0 0).toNat).drop 2).length < (((r.drop 1).drop (r.getD 0 0).toNat).getD 0 0).toNat * 256 + (((r.drop 1).drop (r.getD 0 0).toNat).getD 1 0).toNat then none else
  some ((stB ((r.drop 1).take (r.getD 0 0).toNat), stB ((((r.drop 1).drop (r.getD 0 0).toNat).drop 2).take ((((r.drop 1).drop (r.getD 0 0).toNat).getD 0 0).toNat * 256 + (((r.drop 1).drop (r.getD 0 0).toNat).getD 1 0).toNat))), (((r.drop 1).drop (r.getD 0 0).toNat).drop 2).drop ((((r.drop 1).drop (r.getD 0 0).toNat).getD 0 0).toNat * 256 + (((r.drop 1).drop (r.getD 0 0).toNat).getD 1 0).toNat))
theorem byteN {r : List Int} (hz : ∀ z ∈ r, 0 ≤ z ∧ z ≤ 255) (k : Nat) : r.getD k 0 = ((r.getD k 0).toNat : Int) ∧ (r.getD k 0).toNat ≤ 255 := by
  rcases Nat.lt_or_ge k r.length with h | h
  · have := hz _ (getD_mem' h 0)
    omega
  · rw [List.getD_eq_getElem?_getD, List.getElem?_eq_none h]
    exact ⟨rfl, by decide⟩
set_option maxRecDepth 20000 in
theorem file_v (r : List Int) (hz : ∀ z ∈ r, 0 ≤ z ∧ z ≤ 255) (hr : r.length ≤ 10000) (h0 : 0 < r.length) : (∀ x s, pfF r = some (x, s) → CallsV Tryd.prog 21 [bvV r] [] (fun av H' => av = .tuple [.agg [.str x.1, .str x.2], bvV s, .bool true] ∧ H' = [])) ∧ (pfF r = none → ∃ p, CallsV Tryd.prog 21 [bvV r] [] (fun av H' => av = .tuple [.agg [.str p, .str (.mk #[])], .nilsl, .bool false] ∧ H' = [])) := by
  unfold pfF
  have a0 : (cB r).drop (Int.toNat 0 * 1) = _ := cB_at r 0 h0
  obtain ⟨z0, z1⟩ := byteN hz 0
  rw [z0] at a0
  have q1 : AV.slv ((r.length : Int).toNat - Int.toNat 1) 1 (List.take (((r.length : Int).toNat - Int.toNat 1) * 1) (List.drop (Int.toNat 1 * 1) (cB r))) = bvV (r.drop 1) := text_2 r 1
  have hl : (r.drop 1).length ≤ 10000 := by rw [List.length_drop]; omega
  have hz1 : ∀ z ∈ r.drop 1, 0 ≤ z ∧ z ≤ 255 := fun z h => hz z (List.mem_of_mem_drop h)
  generalize (r.getD 0 0).toNat = k at *
  generalize r.drop 1 = r1 at *
  clear hz z0
  by_cases c1 : r1.length < k
  · rw [if_pos c1]
    refine ⟨fun _ _ h => (by cases h), fun _ => ⟨.mk #[], ?_⟩⟩
    have t1 := text_f r1 k hl c1 (by omega)
    refine callsG_at Tryd.func21 (by kernel_rfl) ?_
    have e1' := q1
    have e2' := (congrArg (fun z => AV.fptr z) a0)
    have e3' := (congrArg (fun z => AV.int .i64 z) (wrap_i64 (e := (↑k : Int)) (by omega) (by omega)))
    have e4' := t1
    refine g_q [⟨4, [], .as (rhsOf e1')⟩, ⟨6, [], .as (rhsOf e2')⟩, ⟨8, [], .as (rhsOf e3')⟩, ⟨9, [], .call (avOf e4') (blOf e4') []⟩] [.sel [2, 3, 4]] Exit.ret (stOf 49 [(2, AV.ptr 0 0), (3, AV.nilsl), (4, AV.bool false)] [Blk.row 46 [AV.str (ByteArray.mk #[]), AV.str (ByteArray.mk #[])]]) (And.intro (show (0 : Int) ≤ (1 : Int) ∧ (1 : Int) ≤ (↑r.length : Int) ∧ (↑r.length : Int) ≤ (↑r.length : Int) from (by omega)) (And.intro e1' (And.intro (show (0 : Int) ≤ (0 : Int) ∧ (0 : Int) < (↑r.length : Int) from (by omega)) (And.intro e2' (And.intro (show 1 ≤ (AV.int .u8 (↑k : Int) :: cB r1).length from (by exact Nat.le_of_ble_eq_true (by kernel_rfl))) (And.intro e3' (And.intro e4' (And.intro (show true = false → false = true from (by decide)) (show 2 ≤ 2 from (by omega)))))))))) ?_
    refine g_f [] [] (AV.tuple [AV.agg [AV.str (ByteArray.mk #[]), AV.str (ByteArray.mk #[])], AV.nilsl, AV.bool false]) ([]) (show 2 ≤ 2 from (by omega)) ?_
    exact ⟨rfl, rfl⟩
  · rw [if_neg c1]
    have t1 := text_t r1 k hl (by omega)
    have hl2 : (r1.drop k).length ≤ 10000 := by rw [List.length_drop]; omega
    have hz2 : ∀ z ∈ r1.drop k, 0 ≤ z ∧ z ≤ 255 := fun z h => hz1 z (List.mem_of_mem_drop h)
    generalize stB (r1.take k) = p at *
    generalize r1.drop k = r2 at *
    clear hz1
    by_cases c2 : r2.length < 2
    · rw [if_pos c2]
      refine ⟨fun _ _ h => (by cases h), fun _ => ⟨.mk #[], ?_⟩⟩
      refine callsG_at Tryd.func21 (by kernel_rfl) ?_
      have e1' := q1
      have e2' := (congrArg (fun z => AV.fptr z) a0)
      have e3' := (congrArg (fun z => AV.int .i64 z) (wrap_i64 (e := (↑k : Int)) (by omega) (by omega)))
      have e4' := t1
      refine g_q [⟨4, [], .as (rhsOf e1')⟩, ⟨6, [], .as (rhsOf e2')⟩, ⟨8, [], .as (rhsOf e3')⟩, ⟨9, [], .call (avOf e4') (blOf e4') []⟩, ⟨24, [], .br true .no⟩] [.sel [2, 3, 4]] Exit.ret (stOf 49 [(2, AV.ptr 0 0), (3, AV.nilsl), (4, AV.bool false)] [Blk.row 46 [AV.str (ByteArray.mk #[]), AV.str (ByteArray.mk #[])]]) (And.intro (show (0 : Int) ≤ (1 : Int) ∧ (1 : Int) ≤ (↑r.length : Int) ∧ (↑r.length : Int) ≤ (↑r.length : Int) from (by omega)) (And.intro e1' (And.intro (show (0 : Int) ≤ (0 : Int) ∧ (0 : Int) < (↑r.length : Int) from (by omega)) (And.intro e2' (And.intro (show 1 ≤ (AV.int .u8 (↑k : Int) :: cB r1).length from (by exact Nat.le_of_ble_eq_true (by kernel_rfl))) (And.intro e3' (And.intro e4' (And.intro (show (bif false then true else decide ((↑r2.length : Int) < (2 : Int))) = true from (by simp_all; omega)) (show 2 ≤ 2 from (by omega)))))))))) ?_
      refine g_f [] [] (AV.tuple [AV.agg [AV.str (ByteArray.mk #[]), AV.str (ByteArray.mk #[])], AV.nilsl, AV.bool false]) ([]) (show 2 ≤ 2 from (by omega)) ?_
      exact ⟨rfl, rfl⟩
    · rw [if_neg c2]
      have a1 : (cB r2).drop (Int.toNat 0 * 1) = _ := cB_at r2 0 (by omega)
      have a2 : (cB r2).drop (Int.toNat 1 * 1) = _ := cB_at r2 1 (by omega)
      have q2 : AV.slv ((r2.length : Int).toNat - Int.toNat 2) 1 (List.take (((r2.length : Int).toNat - Int.toNat 2) * 1) (List.drop (Int.toNat 2 * 1) (cB r2))) = bvV (r2.drop 2) := text_2 r2 2
      obtain ⟨y0, y1⟩ := byteN hz2 0
      obtain ⟨x0, x1⟩ := byteN hz2 1
      rw [y0] at a1
      rw [x0] at a2
      have hl3 : (r2.drop 2).length ≤ 10000 := by rw [List.length_drop]; omega
      have so := shl8 (r2.getD 0 0).toNat
      have oo := or8 (r2.getD 0 0).toNat (r2.getD 1 0).toNat y1 x1
      have hb : (((r2.getD 0 0).toNat * 256 : Nat) : Int) ≤ 65280 := by omega
      generalize (r2.getD 0 0).toNat = u at *
      generalize (r2.getD 1 0).toNat = v at *
      have hb2 : ((u * 256 + v : Nat) : Int) ≤ 65535 := by omega
      have hb3 : 0 ≤ ((u * 256 + v : Nat) : Int) := by omega
      have hb4 : 0 ≤ ((u * 256 : Nat) : Int) := by omega
      generalize u * 256 + v = m at *
      generalize u * 256 = u8 at *
      generalize r2.drop 2 = r3 at *
      clear y0 x0 hz2
      by_cases c3 : r3.length < m
      · rw [if_pos c3]
        refine ⟨fun _ _ h => (by cases h), fun _ => ⟨p, ?_⟩⟩
        have t2 := text_f r3 m hl3 c3 (by omega)
        refine callsG_at Tryd.func21 (by kernel_rfl) ?_
        have e1' := q1
        have e2' := (congrArg (fun z => AV.fptr z) a0)
        have e3' := (congrArg (fun z => AV.int .i64 z) (wrap_i64 (e := (↑k : Int)) (by omega) (by omega)))
        have e4' := t1
        have e5' := q2
        have e6' := (congrArg (fun z => AV.fptr z) a1)
        have e7' := (congrArg (fun z => AV.int .i64 z) (wrap_i64 (e := (↑u : Int)) (by omega) (by omega)))
        have e8' := (Eq.trans (congrArg (fun z => AV.int .i64 (IntKind.i64.wrap z)) so) (congrArg (fun z => AV.int .i64 z) (wrap_i64 (e := (↑u8 : Int)) (by omega) (by omega))))
        have e9' := (congrArg (fun z => AV.fptr z) a2)
        have e10' := (congrArg (fun z => AV.int .i64 z) (wrap_i64 (e := (↑v : Int)) (by omega) (by omega)))
        have e11' := (Eq.trans (congrArg (fun z => AV.int .i64 (IntKind.i64.wrap z)) oo) (congrArg (fun z => AV.int .i64 z) (wrap_i64 (e := (↑m : Int)) (by omega) (by omega))))
        have e12' := t2
        refine g_q [⟨4, [], .as (rhsOf e1')⟩, ⟨6, [], .as (rhsOf e2')⟩, ⟨8, [], .as (rhsOf e3')⟩, ⟨9, [], .call (avOf e4') (blOf e4') []⟩, ⟨24, [], .br false .no⟩, ⟨26, [], .as (rhsOf e5')⟩, ⟨28, [], .as (rhsOf e6')⟩, ⟨30, [], .as (rhsOf e7')⟩, ⟨31, [], .as (rhsOf e8')⟩, ⟨33, [], .as (rhsOf e9')⟩, ⟨35, [], .as (rhsOf e10')⟩, ⟨36, [], .as (rhsOf e11')⟩, ⟨37, [], .call (avOf e12') (blOf e12') []⟩] [.sel [2, 3, 4]] Exit.ret (stOf 49 [(2, AV.ptr 0 0), (3, AV.nilsl), (4, AV.bool false)] [Blk.row 46 [AV.str p, AV.str bE]]) (And.intro (show (0 : Int) ≤ (1 : Int) ∧ (1 : Int) ≤ (↑r.length : Int) ∧ (↑r.length : Int) ≤ (↑r.length : Int) from (by omega)) (And.intro e1' (And.intro (show (0 : Int) ≤ (0 : Int) ∧ (0 : Int) < (↑r.length : Int) from (by omega)) (And.intro e2' (And.intro (show 1 ≤ (AV.int .u8 (↑k : Int) :: cB r1).length from (by exact Nat.le_of_ble_eq_true (by kernel_rfl))) (And.intro e3' (And.intro e4' (And.intro (show (bif false then true else decide ((↑r2.length : Int) < (2 : Int))) = false from (by simp_all; omega)) (And.intro (show (0 : Int) ≤ (2 : Int) ∧ (2 : Int) ≤ (↑r2.length : Int) ∧ (↑r2.length : Int) ≤ (↑r2.length : Int) from (by omega)) (And.intro e5' (And.intro (show (0 : Int) ≤ (0 : Int) ∧ (0 : Int) < (↑r2.length : Int) from (by omega)) (And.intro e6' (And.intro (show 1 ≤ (AV.int .u8 (↑u : Int) :: cB (List.drop 1 r2)).length from (by exact Nat.le_of_ble_eq_true (by kernel_rfl))) (And.intro e7' (And.intro (show (0 : Int) ≤ (8 : Int) from (by omega)) (And.intro e8' (And.intro (show (0 : Int) ≤ (1 : Int) ∧ (1 : Int) < (↑r2.length : Int) from (by omega)) (And.intro e9' (And.intro (show 1 ≤ (AV.int .u8 (↑v : Int) :: cB r3).length from (by exact Nat.le_of_ble_eq_true (by kernel_rfl))) (And.intro e10' (And.intro e11' (And.intro e12' (show 2 ≤ 2 from (by omega)))))))))))))))))))))))) ?_
        refine g_f [] [] (AV.tuple [AV.agg [AV.str p, AV.str bE], AV.nilsl, AV.bool false]) ([]) (show 2 ≤ 2 from (by omega)) ?_
        exact ⟨rfl, rfl⟩
      · rw [if_neg c3]
        refine ⟨fun x s h => ?_, fun h => (by cases h)⟩
        cases h
        have t2 := text_t r3 m hl3 (by omega)
        refine callsG_at Tryd.func21 (by kernel_rfl) ?_
        have e1' := q1
        have e2' := (congrArg (fun z => AV.fptr z) a0)
        have e3' := (congrArg (fun z => AV.int .i64 z) (wrap_i64 (e := (↑k : Int)) (by omega) (by omega)))
        have e4' := t1
        have e5' := q2
        have e6' := (congrArg (fun z => AV.fptr z) a1)
        have e7' := (congrArg (fun z => AV.int .i64 z) (wrap_i64 (e := (↑u : Int)) (by omega) (by omega)))
        have e8' := (Eq.trans (congrArg (fun z => AV.int .i64 (IntKind.i64.wrap z)) so) (congrArg (fun z => AV.int .i64 z) (wrap_i64 (e := (↑u8 : Int)) (by omega) (by omega))))
        have e9' := (congrArg (fun z => AV.fptr z) a2)
        have e10' := (congrArg (fun z => AV.int .i64 z) (wrap_i64 (e := (↑v : Int)) (by omega) (by omega)))
        have e11' := (Eq.trans (congrArg (fun z => AV.int .i64 (IntKind.i64.wrap z)) oo) (congrArg (fun z => AV.int .i64 z) (wrap_i64 (e := (↑m : Int)) (by omega) (by omega))))
        have e12' := t2
        refine g_q [⟨4, [], .as (rhsOf e1')⟩, ⟨6, [], .as (rhsOf e2')⟩, ⟨8, [], .as (rhsOf e3')⟩, ⟨9, [], .call (avOf e4') (blOf e4') []⟩, ⟨24, [], .br false .no⟩, ⟨26, [], .as (rhsOf e5')⟩, ⟨28, [], .as (rhsOf e6')⟩, ⟨30, [], .as (rhsOf e7')⟩, ⟨31, [], .as (rhsOf e8')⟩, ⟨33, [], .as (rhsOf e9')⟩, ⟨35, [], .as (rhsOf e10')⟩, ⟨36, [], .as (rhsOf e11')⟩, ⟨37, [], .call (avOf e12') (blOf e12') []⟩] [.sel [2, 3, 4]] Exit.ret (stOf 49 [(2, AV.ptr 0 0), (3, AV.slv (List.drop m r3).length 1 (cB (List.drop m r3))), (4, AV.bool true)] [Blk.row 46 [AV.str p, AV.str (stB (List.take m r3))]]) (And.intro (show (0 : Int) ≤ (1 : Int) ∧ (1 : Int) ≤ (↑r.length : Int) ∧ (↑r.length : Int) ≤ (↑r.length : Int) from (by omega)) (And.intro e1' (And.intro (show (0 : Int) ≤ (0 : Int) ∧ (0 : Int) < (↑r.length : Int) from (by omega)) (And.intro e2' (And.intro (show 1 ≤ (AV.int .u8 (↑k : Int) :: cB r1).length from (by exact Nat.le_of_ble_eq_true (by kernel_rfl))) (And.intro e3' (And.intro e4' (And.intro (show (bif false then true else decide ((↑r2.length : Int) < (2 : Int))) = false from (by simp_all; omega)) (And.intro (show (0 : Int) ≤ (2 : Int) ∧ (2 : Int) ≤ (↑r2.length : Int) ∧ (↑r2.length : Int) ≤ (↑r2.length : Int) from (by omega)) (And.intro e5' (And.intro (show (0 : Int) ≤ (0 : Int) ∧ (0 : Int) < (↑r2.length : Int) from (by omega)) (And.intro e6' (And.intro (show 1 ≤ (AV.int .u8 (↑u : Int) :: cB (List.drop 1 r2)).length from (by exact Nat.le_of_ble_eq_true (by kernel_rfl))) (And.intro e7' (And.intro (show (0 : Int) ≤ (8 : Int) from (by omega)) (And.intro e8' (And.intro (show (0 : Int) ≤ (1 : Int) ∧ (1 : Int) < (↑r2.length : Int) from (by omega)) (And.intro e9' (And.intro (show 1 ≤ (AV.int .u8 (↑v : Int) :: cB r3).length from (by exact Nat.le_of_ble_eq_true (by kernel_rfl))) (And.intro e10' (And.intro e11' (And.intro e12' (show 2 ≤ 2 from (by omega)))))))))))))))))))))))) ?_
        refine g_f [] [] (AV.tuple [AV.agg [AV.str p, AV.str (stB (List.take m r3))], AV.slv (List.drop m r3).length 1 (cB (List.drop m r3)), AV.bool true]) ([]) (show 2 ≤ 2 from (by omega)) ?_
        exact ⟨rfl, rfl⟩
end Go.Proofs.YthcaeofgegfncaaDoor
namespace Go.Proofs.YthcaeofgegfncaaDoor
open Go Go.RowKit V
set_option linter.unusedSimpArgs false
set_option linter.unusedVariables false
set_option maxHeartbeats 20000000
def paF : Nat → List Int → Option (List TE)
  | 0, _ => some []
  | n + 1, r => if r.length = 0 then some [] else match pfF r with
    | none => none
    | some (x, s) => (paF n s).map (x :: ·)
theorem stB_size (l : List Int) : (stB l).size = l.length := strNums_size l
theorem pf_len {r s : List Int} {x : TE} (h0 : 0 < r.length) (h : pfF r = some (x, s)) : r.length = eN x + s.length ∧ (∀ z ∈ s, z ∈ r) ∧ x.1.size ≤ r.length ∧ x.2.size ≤ r.length := by
  unfold pfF at h
  have hl : (r.drop 1).length + 1 = r.length := by rw [List.length_drop]; omega
  have hm : ∀ z ∈ r.drop 1, z ∈ r := fun z h => List.mem_of_mem_drop h
  generalize (r.getD 0 0).toNat = k at *
  generalize r.drop 1 = r1 at *
  split at h
  · cases h
  · rename_i c1
    have l2 : (r1.drop k).length + k = r1.length := by rw [List.length_drop]; omega
    have m2 : ∀ z ∈ r1.drop k, z ∈ r1 := fun z h => List.mem_of_mem_drop h
    have p2 : (r1.take k).length = k := by rw [List.length_take]; omega
    generalize hr2 : r1.drop k = r2 at *
    split at h
    · cases h
    · rename_i c2
      generalize (r2.getD 0 0).toNat * 256 + (r2.getD 1 0).toNat = m at *
      have l3 : (r2.drop 2).length + 2 = r2.length := by rw [List.length_drop]; omega
      have m3 : ∀ z ∈ r2.drop 2, z ∈ r2 := fun z h => List.mem_of_mem_drop h
      generalize r2.drop 2 = r3 at *
      split at h
      · cases h
      · rename_i c3
        have l4 : (r3.drop m).length + m = r3.length := by rw [List.length_drop]; omega
        have p4 : (r3.take m).length = m := by rw [List.length_take]; omega
        cases h
        unfold eN
        simp only [stB_size]
        exact ⟨by omega, fun z hz => hm z (m2 z (m3 z (List.mem_of_mem_drop hz))), by omega, by omega⟩
def dv0 (r : List Int) : St := stOf 36 [(0, bvV r), (2, .ptr 0 0), (4, .ptr 1 0)] [.row 24 [.nilsl], .row 24 [.nilsl]]
def dv1 (r : List Int) (o : List TE) : St := stOf 36 [(0, bvV r), (2, .ptr 0 0), (4, .ptr 1 0)] [.row 24 [.nilsl], .row 24 [.sl 2 0 o.length 2], .row 46 (flatA encT o)]
def dvZ (r : List Int) (o : List TE) : St := if o = [] then dv0 r else dv1 r o
def dvX (o : List TE) : St := if o = [] then stOf 36 [(2, .ptr 0 0), (4, .ptr 1 0)] [.row 24 [.nilsl], .row 24 [.nilsl]] else stOf 36 [(2, .ptr 0 0), (4, .ptr 1 0)] [.row 24 [.nilsl], .row 24 [.sl 2 0 o.length 2], .row 46 (flatA encT o)]
def dvB : St := stOf 36 [(2, .ptr 0 0), (3, .int .i64 5)] [.row 24 [.nilsl]]
theorem dv_ok (r s : List Int) (x : TE) (o : List TE) (hz : ∀ z ∈ r, 0 ≤ z ∧ z ≤ 255) (hr : r.length ≤ 10000) (h0 : 0 < r.length) (ho : o.length ≤ 5000) (h : pfF r = some (x, s)) : GoV Tryd.prog 0 (loopB Tryd.f13 0) (isX .normal (dvZ s (o ++ [x]))) (dvZ r o) := by
  have fv := (file_v r hz hr h0).1 x s h
  unfold dvZ
  rw [if_neg (show o ++ [x] ≠ [] by simp)]
  by_cases ho0 : o = []
  · subst ho0
    rw [if_pos rfl]
    unfold dv0 dv1
    rw [List.nil_append]
    clear h hz
    have e1' := fv
    exact g_x [⟨3, [], .br true .no⟩, ⟨5, [], .call (avOf e1') (blOf e1') []⟩] [.sel [0, 2, 4], .keep [0, 1, 4] [false, false, false]] (And.intro (show decide ((↑r.length : Int) > (0 : Int)) = true from (by rw [decide_eq_true_iff]; omega)) (And.intro e1' (And.intro (show 2 ≤ 2 from (by omega)) (And.intro (show 1 ≤ 1 from (by omega)) (And.intro (show 2 ≤ 2 from (by omega)) (And.intro (show 2 ≤ 2 from (by omega)) (And.intro (show 32 ≤ 140737488355328 from (by omega)) (And.intro (show 1 ≤ maxLen from (by (unfold maxLen; omega))) (show 1 ≤ 1 from (by omega))))))))))
  · rw [if_neg ho0]
    have hsn := encT_snoc o x
    have hge := encT_ge o
    have n1 := encT_noid o
    have n2 := encT_noid (o ++ [x])
    unfold dv1
    rw [List.length_append, List.length_singleton]
    clear h hz
    have e1' := fv
    have e2' := (congrArg (fun z => Blk.row 46 z) hsn)
    exact g_x [⟨3, [], .br true .no⟩, ⟨5, [], .call (avOf e1') (blOf e1') []⟩, ⟨22, [.hp 5 (rhsOf e2')], .no⟩] [.sel [0, 2, 4], .keep [0, 1, 5] [false, false, true]] (And.intro (show decide ((↑r.length : Int) > (0 : Int)) = true from (by rw [decide_eq_true_iff]; omega)) (And.intro e1' (And.intro (show 2 ≤ 2 from (by omega)) (And.intro (show 1 ≤ 1 from (by omega)) (And.intro (show 2 ≤ 2 from (by omega)) (And.intro (show o.length * 2 ≤ (flatA encT o).length from (by omega)) (And.intro (show 2 ≤ 2 from (by omega)) (And.intro (show (o.length + 1) * 32 ≤ 140737488355328 from (by omega)) (And.intro (show o.length + 1 ≤ maxLen from (by (unfold maxLen; omega))) (And.intro (congrArg some e2') (And.intro (show 1 ≤ 1 from (by omega)) (show ∀ (x_1 : AV), x_1 ∈ flatA encT (o ++ [x]) → noid0 x_1 = true from n2))))))))))))
theorem dv_bad (r : List Int) (o : List TE) (hz : ∀ z ∈ r, 0 ≤ z ∧ z ≤ 255) (hr : r.length ≤ 10000) (h0 : 0 < r.length) (h : pfF r = none) : GoV Tryd.prog 0 (loopB Tryd.f13 0) (isX .ret dvB) (dvZ r o) := by
  obtain ⟨p, fv⟩ := (file_v r hz hr h0).2 h
  have n1 := encT_noid o
  unfold dvZ dvB
  by_cases ho0 : o = []
  · rw [if_pos ho0]
    unfold dv0
    clear h hz
    have e1' := fv
    exact g_x [⟨3, [], .br true .no⟩, ⟨5, [], .call (avOf e1') (blOf e1') []⟩] [.sel [2, 3], .keep [0] [false]] (And.intro (show decide ((↑r.length : Int) > (0 : Int)) = true from (by rw [decide_eq_true_iff]; omega)) (And.intro e1' (And.intro (show 2 ≤ 2 from (by omega)) (show 1 ≤ 1 from (by omega)))))
  · rw [if_neg ho0]
    unfold dv1
    clear h hz
    have e1' := fv
    exact g_x [⟨3, [], .br true .no⟩, ⟨5, [], .call (avOf e1') (blOf e1') []⟩] [.sel [2, 3], .keep [0] [false]] (And.intro (show decide ((↑r.length : Int) > (0 : Int)) = true from (by rw [decide_eq_true_iff]; omega)) (And.intro e1' (And.intro (show 2 ≤ 2 from (by omega)) (show 1 ≤ 1 from (by omega)))))
theorem dv_end (r : List Int) (o : List TE) (h : r.length = 0) : GoV Tryd.prog 0 (loopB Tryd.f13 0) (isX (.exit 0) (dvX o)) (dvZ r o) := by
  have n1 := encT_noid o
  have hr := List.length_eq_zero_iff.1 h
  subst hr
  unfold dvZ dvX
  by_cases ho0 : o = []
  · rw [if_pos ho0, if_pos ho0]
    unfold dv0
    exact g_x [] [.sel [2, 4]] trivial
  · rw [if_neg ho0, if_neg ho0]
    unfold dv1
    exact g_x [] [.sel [2, 4]] trivial
end Go.Proofs.YthcaeofgegfncaaDoor
namespace Go.Proofs.YthcaeofgegfncaaDoor
open Go Go.RowKit V
set_option linter.unusedSimpArgs false
set_option linter.unusedVariables false
set_option maxHeartbeats 20000000
theorem pa_step {n : Nat} {r : List Int} (h0 : 0 < r.length) : paF (n + 1) r = match pfF r with | none => none | some (x, s) => (paF n s).map (x :: ·) := by
  conv => lhs; unfold paF
  rw [if_neg (by omega)]
  all_goals (cases pfF r <;> rfl)
theorem pa_end {n : Nat} {r : List Int} (h0 : r.length = 0) : paF n r = some [] := by
  cases n with
  | zero => rfl
  | succ n => unfold paF; rw [if_pos h0]
def dvI (T : Option (List TE)) (n : Nat) (s : St) : Prop := ∃ r o, r.length ≤ n ∧ (∀ z ∈ r, 0 ≤ z ∧ z ≤ 255) ∧ r.length + o.length ≤ 5000 ∧ (paF n r).map (o ++ ·) = T ∧ s = dvZ r o
theorem dv_loop (r : List Int) (hz : ∀ z ∈ r, 0 ≤ z ∧ z ≤ 255) (hr : r.length ≤ 5000) : (∀ L, paF r.length r = some L → LoopG Tryd.prog 0 Tryd.f13 0 (.exit 0) (dvX L) (dv0 r)) ∧ (paF r.length r = none → LoopG Tryd.prog 0 Tryd.f13 0 .ret dvB (dv0 r)) := by
  constructor
  · intro L hL
    refine loopG_inv r.length (dvI (some L)) ⟨r, [], Nat.le_refl _, hz, by simpa using hr, by rw [hL]; rfl, rfl⟩ (by simp) ?_
    rintro n _ ⟨r, o, h1, h2, h3, h4, rfl⟩
    rcases Nat.eq_zero_or_pos r.length with h0 | h0
    · rw [pa_end h0] at h4
      have : o = L := by simpa using h4
      subst this
      refine (dv_end r o h0).mono ?_
      rintro _ _ ⟨rfl, rfl⟩
      exact .inr ⟨rfl, rfl⟩
    · cases n with
      | zero => omega
      | succ n =>
        rw [pa_step h0] at h4
        cases hp : pfF r with
        | none => rw [hp] at h4; cases h4
        | some q =>
          obtain ⟨x, s⟩ := q
          rw [hp] at h4
          obtain ⟨l1, l2, _, _⟩ := pf_len h0 hp
          unfold eN at l1
          refine (dv_ok r s x o h2 (by omega) h0 (by omega) hp).mono ?_
          rintro _ _ ⟨rfl, rfl⟩
          refine .inl ⟨rfl, n, by omega, s, o ++ [x], by omega, fun z hz => h2 z (l2 z hz), by rw [List.length_append, List.length_singleton]; omega, ?_, rfl⟩
          rw [← h4]
          show _ = Option.map _ (Option.map _ (paF n s))
          rw [Option.map_map]
          congr 1
          funext y
          simp
  · intro hL
    refine loopG_inv r.length (dvI none) ⟨r, [], Nat.le_refl _, hz, by simpa using hr, by rw [hL]; rfl, rfl⟩ (by simp) ?_
    rintro n _ ⟨r, o, h1, h2, h3, h4, rfl⟩
    rcases Nat.eq_zero_or_pos r.length with h0 | h0
    · rw [pa_end h0] at h4
      cases h4
    · cases n with
      | zero => omega
      | succ n =>
        rw [pa_step h0] at h4
        cases hp : pfF r with
        | none =>
          refine (dv_bad r o h2 (by omega) h0 hp).mono ?_
          rintro _ _ ⟨rfl, rfl⟩
          exact .inr ⟨rfl, rfl⟩
        | some q =>
          obtain ⟨x, s⟩ := q
          rw [hp] at h4
          obtain ⟨l1, l2, _, _⟩ := pf_len h0 hp
          unfold eN at l1
          refine (dv_ok r s x o h2 (by omega) h0 (by omega) hp).mono ?_
          rintro _ _ ⟨rfl, rfl⟩
          refine .inl ⟨rfl, n, by omega, s, o ++ [x], by omega, fun z hz => h2 z (l2 z hz), by rw [List.length_append, List.length_singleton]; omega, ?_, rfl⟩
          rw [← h4]
          show _ = Option.map _ (Option.map _ (paF n s))
          rw [Option.map_map]
          congr 1
          funext y
          simp
theorem pa_files : ∀ (n : Nat) (r : List Int) (L : List TE), r.length ≤ n → paF n r = some L → ecN L = r.length ∧ 3 * L.length ≤ r.length ∧ ∀ x ∈ L, x.1.size ≤ r.length ∧ x.2.size ≤ r.length
  | 0, r, L, h, hp => by
    have h0 : r.length = 0 := by omega
    rw [pa_end h0] at hp
    cases hp
    exact ⟨by rw [h0]; rfl, by simp, fun x hx => by cases hx⟩
  | n + 1, r, L, h, hp => by
    rcases Nat.eq_zero_or_pos r.length with h0 | h0
    · rw [pa_end h0] at hp
      cases hp
      exact ⟨by rw [h0]; rfl, by simp, fun x hx => by cases hx⟩
    · rw [pa_step h0] at hp
      cases hq : pfF r with
      | none => rw [hq] at hp; cases hp
      | some q =>
        obtain ⟨x, s⟩ := q
        rw [hq] at hp
        obtain ⟨l1, l2, l3, l4⟩ := pf_len h0 hq
        obtain ⟨M, hM, rfl⟩ := Option.map_eq_some_iff.1 hp
        have hs : s.length ≤ n := by unfold eN at l1; omega
        obtain ⟨k1, k2, k3⟩ := pa_files n s M hs hM
        refine ⟨?_, by simp only [List.length_cons]; unfold eN at l1; omega, fun y hy => ?_⟩
        · have e : ecN (x :: M) = eN x + ecN M := by
            unfold ecN
            rw [show ecA (x :: M) = eA x ++ ecA M by simp [ecA], List.length_append, eA_len]
          rw [e, k1, l1]
        · rcases List.mem_cons.1 hy with rfl | hy
          · exact ⟨l3, l4⟩
          · have := k3 y hy
            unfold eN at l1
            exact ⟨by omega, by omega⟩
def deF (r : List Int) : Int := match paF r.length r with | none => 5 | some L => if ckF L = 0 then 0 else 5
def deO (r : List Int) : List TE := match paF r.length r with | none => [] | some L => if ckF L = 0 then L else []
theorem dec_w (r : List Int) (hz : ∀ z ∈ r, 0 ≤ z ∧ z ≤ 255) (hr : r.length ≤ 2990) : CallsV Tryd.prog 13 [bvV r] [] (fun av H' => av = .tuple [treeV (deO r), .int .i64 (deF r)] ∧ H' = []) := by
  have lo := dv_loop r hz (by omega)
  have pf := pa_files r.length r
  unfold deO deF
  have bad : ∀ (h : CallsV Tryd.prog 13 [bvV r] [] (fun av H' => av = .tuple [.agg [.nilsl], .int .i64 5] ∧ H' = [])), CallsV Tryd.prog 13 [bvV r] [] (fun av H' => av = .tuple [treeV [], .int .i64 5] ∧ H' = []) := fun h => callsV_val h (rd_tup (.inl ⟨_, rfl⟩) rd_nil)
  cases hp : paF r.length r with
  | none =>
    refine bad ?_
    refine callsG_at Tryd.func13 (by kernel_rfl) ?_
    have lo := lo.2 hp
    unfold dv0 dvB at lo
    clear pf bad hz hp
    have e1' := lo
    refine g_q [⟨5, [], .br false .no⟩, ⟨7, [.sel [0, 2, 4]], .loop (exOf e1') (endOf e1')⟩] [] Exit.ret (stOf 36 [(2, AV.ptr 0 0), (3, AV.int .i64 (5 : Int))] [Blk.row 24 [AV.nilsl]]) (And.intro (show decide ((↑r.length : Int) > (6000 : Int)) = false from (by rw [decide_eq_false_iff_not]; omega)) e1') ?_
    refine g_f [] [] (AV.tuple [AV.agg [AV.nilsl], AV.int .i64 (5 : Int)]) ([]) (show 1 ≤ 1 from (by omega)) ?_
    exact ⟨rfl, rfl⟩
  | some L =>
    have lo := lo.1 L hp
    obtain ⟨_, p2, p3⟩ := pf L (Nat.le_refl _) hp
    have lok : ∀ x ∈ L, OkT x := fun x hx => by
      have := p3 x hx
      exact ⟨by omega, by omega⟩
    have ck := check_v L (by omega) lok
    have n1 := encT_noid L
    have n2 := encT_plain L
    have n3 := encT_lend L
    have nge := encT_ge L
    have ntk := flatA_all_take encT_l L
    clear pf hz hp p3 lok
    show CallsV _ _ _ _ (fun av H' => av = .tuple [treeV (if ckF L = 0 then L else []), .int .i64 (if ckF L = 0 then 0 else 5)] ∧ H' = [])
    by_cases hc : ckF L = 0
    · rw [if_pos hc, if_pos hc]
      rw [hc] at ck
      by_cases h0 : L = []
      · subst h0
        have ck := callsV_nil ck
        refine callsV_val (x := .tuple [.agg [.nilsl], .int .i64 0]) (H := []) ?_ (rd_tup (.inl ⟨_, rfl⟩) rd_nil)
        refine callsG_at Tryd.func13 (by kernel_rfl) ?_
        unfold dvX at lo
        rw [if_pos rfl] at lo
        unfold dv0 at lo
        clear bad
        have e1' := lo
        have e2' := ck
        refine g_q [⟨5, [], .br false .no⟩, ⟨7, [.sel [0, 2, 4]], .loop (exOf e1') (endOf e1')⟩, ⟨9, [], .call (avOf e2') (blOf e2') []⟩] [.sel [2, 3]] Exit.ret (stOf 36 [(2, AV.ptr 0 0), (3, AV.int .i64 (0 : Int))] [Blk.row 24 [AV.nilsl], Blk.row 24 [AV.nilsl]]) (And.intro (show decide ((↑r.length : Int) > (6000 : Int)) = false from (by rw [decide_eq_false_iff_not]; omega)) (And.intro e1' (And.intro (show 1 ≤ 1 from (by omega)) (And.intro e2' (And.intro (show 1 ≤ 1 from (by omega)) (show 1 ≤ 1 from (by omega))))))) ?_
        refine g_f [] [] (AV.tuple [AV.agg [AV.nilsl], AV.int .i64 (0 : Int)]) ([]) (show 1 ≤ 1 from (by omega)) ?_
        exact ⟨rfl, rfl⟩
      · refine callsV_val (x := .tuple [.agg [.sl 0 0 L.length 2], .int .i64 0]) (H := [.row 46 (flatA encT L)]) ?_ (rd_tup (.inl ⟨_, rfl⟩) (rd_tree L))
        refine callsG_at Tryd.func13 (by kernel_rfl) ?_
        unfold dvX at lo
        rw [if_neg h0] at lo
        unfold dv0 at lo
        clear bad
        have e1' := lo
        have e2' := (show Reads [Blk.row 24 [AV.nilsl], Blk.row 24 [AV.sl 2 0 L.length 2], Blk.row 46 (flatA encT L)] [AV.agg [AV.sl 2 0 L.length 2]] [AV.agg [AV.slv L.length 2 (flatA encT L)]] from (Reads.cons (Reads1.agg (ReadsC.cons (Reads0.sl (t := 46) (xs := flatA encT L) (by kernel_rfl) (show ∀ (x : AV), x ∈ flatA encT L → noid0 x = true ∧ x ≠ AV.junk from n3) (show 0 + L.length * 2 ≤ (flatA encT L).length from (by omega)) ntk) ReadsC.nil)) Reads.nil))
        have e3' := ck
        refine g_q [⟨5, [], .br false .no⟩, ⟨7, [.sel [0, 2, 4]], .loop (exOf e1') (endOf e1')⟩, ⟨9, [], .lend (rdOf e2') (avOf e3') (blOf e3') []⟩] [.sel [2, 3]] Exit.ret (stOf 36 [(2, AV.ptr 0 0), (3, AV.int .i64 (0 : Int))] [Blk.row 24 [AV.sl 2 0 L.length 2], Blk.row 24 [AV.sl 2 0 L.length 2], Blk.row 46 (flatA encT L)]) (And.intro (show decide ((↑r.length : Int) > (6000 : Int)) = false from (by rw [decide_eq_false_iff_not]; omega)) (And.intro e1' (And.intro (show 1 ≤ 1 from (by omega)) (And.intro e2' (And.intro (show (novR (AV.int .i64 (0 : Int)) && [].all novB) = true from (by kernel_rfl)) (And.intro e3' (And.intro (show 1 ≤ 1 from (by omega)) (show 1 ≤ 1 from (by omega))))))))) ?_
        refine g_f [2] [true] (AV.tuple [AV.agg [AV.sl 0 0 L.length 2], AV.int .i64 (0 : Int)]) ([Blk.row 46 (flatA encT L)]) (And.intro (show 1 ≤ 1 from (by omega)) (show ∀ (x : AV), x ∈ flatA encT L → noid0 x = true from n1)) ?_
        exact ⟨rfl, rfl⟩
    · rw [if_neg hc, if_neg hc]
      refine bad ?_
      have hq : (ckF L == 0) = false := beq_eq_false_iff_ne.2 hc
      by_cases h0 : L = []
      · subst h0
        exact absurd rfl hc
      · refine callsG_at Tryd.func13 (by kernel_rfl) ?_
        unfold dvX at lo
        rw [if_neg h0] at lo
        unfold dv0 at lo
        generalize ckF L = e at *
        clear bad
        have e1' := lo
        have e2' := (show Reads [Blk.row 24 [AV.nilsl], Blk.row 24 [AV.sl 2 0 L.length 2], Blk.row 46 (flatA encT L)] [AV.agg [AV.sl 2 0 L.length 2]] [AV.agg [AV.slv L.length 2 (flatA encT L)]] from (Reads.cons (Reads1.agg (ReadsC.cons (Reads0.sl (t := 46) (xs := flatA encT L) (by kernel_rfl) (show ∀ (x : AV), x ∈ flatA encT L → noid0 x = true ∧ x ≠ AV.junk from n3) (show 0 + L.length * 2 ≤ (flatA encT L).length from (by omega)) ntk) ReadsC.nil)) Reads.nil))
        have e3' := ck
        refine g_q [⟨5, [], .br false .no⟩, ⟨7, [.sel [0, 2, 4]], .loop (exOf e1') (endOf e1')⟩, ⟨9, [], .lend (rdOf e2') (avOf e3') (blOf e3') []⟩, ⟨11, [], .br true .no⟩] [.sel [2, 3]] Exit.ret (stOf 36 [(2, AV.ptr 0 0), (3, AV.int .i64 (5 : Int))] [Blk.row 24 [AV.nilsl], Blk.row 24 [AV.sl 2 0 L.length 2], Blk.row 46 (flatA encT L)]) (And.intro (show decide ((↑r.length : Int) > (6000 : Int)) = false from (by rw [decide_eq_false_iff_not]; omega)) (And.intro e1' (And.intro (show 1 ≤ 1 from (by omega)) (And.intro e2' (And.intro (show (novR (AV.int .i64 e) && [].all novB) = true from (by kernel_rfl)) (And.intro e3' (And.intro (show (e != (0 : Int)) = true from (by simp_all; done)) (show 1 ≤ 1 from (by omega))))))))) ?_
        refine g_f [] [] (AV.tuple [AV.agg [AV.nilsl], AV.int .i64 (5 : Int)]) ([]) (show 1 ≤ 1 from (by omega)) ?_
        exact ⟨rfl, rfl⟩
end Go.Proofs.YthcaeofgegfncaaDoor
namespace Go.Proofs.YthcaeofgegfncaaDoor
open Go Go.RowKit V
set_option linter.unusedSimpArgs false
set_option linter.unusedVariables false
set_option maxHeartbeats 20000000
def Byt (r : List Int) : Prop := ∀ z ∈ r, 0 ≤ z ∧ z ≤ 255
def unB (s : ByteArray) : List Int := s.data.toList.map fun b => (b.toNat : Int)
theorem unB_len (s : ByteArray) : (unB s).length = s.size := by
  unfold unB
  rw [List.length_map, Array.length_toList]
  rfl
theorem stB_unB (s : ByteArray) : stB (unB s) = s := by
  unfold stB strOfNums unB
  rw [List.map_map]
  have e : ((fun n : Int => UInt8.ofNat n.toNat) ∘ fun b : UInt8 => (b.toNat : Int)) = id := by
    funext b
    simp
  rw [e, List.map_id]
theorem unB_stB {r : List Int} (h : Byt r) : unB (stB r) = r := by
  unfold unB stB strOfNums
  rw [List.toList_toArray, List.map_map]
  conv => rhs; rw [← List.map_id r]
  refine List.map_congr_left fun z hz => ?_
  have := h z hz
  show ((UInt8.ofNat z.toNat).toNat : Int) = z
  rw [UInt8.toNat_ofNat_of_lt' (by show z.toNat < 256; omega)]
  omega
def ecZ (l : List TE) : List Int := (ecA l).map numV
theorem cells_back {o : List AV} (h : ∀ y ∈ o, ∃ z : Int, y = .int .u8 z ∧ 0 ≤ z ∧ z ≤ 255) : cB (o.map numV) = o ∧ Byt (o.map numV) := by
  constructor
  · unfold cB
    rw [List.map_map]
    conv => rhs; rw [← List.map_id o]
    refine List.map_congr_left fun y hy => ?_
    obtain ⟨z, rfl, _⟩ := h y hy
    rfl
  · intro z hz
    obtain ⟨y, hy, rfl⟩ := List.mem_map.1 hz
    obtain ⟨z, rfl, h1⟩ := h y hy
    exact h1
theorem ecZ_cB (l : List TE) : cB (ecZ l) = ecA l := (cells_back (isB_ec l)).1
theorem ecZ_byt (l : List TE) : Byt (ecZ l) := (cells_back (isB_ec l)).2
theorem ecZ_len (l : List TE) : (ecZ l).length = ecN l := by unfold ecZ ecN; rw [List.length_map]
theorem bytes_num (s : ByteArray) : (bytesAV s).map numV = unB s := by
  unfold bytesAV unB
  rw [List.map_map]
  rfl
theorem ecZ_cons (x : TE) (l : List TE) (h1 : x.1.size ≤ 255) (h2 : x.2.size ≤ 65535) : ecZ (x :: l) = (x.1.size : Int) :: (unB x.1 ++ ((x.2.size / 256 : Nat) : Int) :: ((x.2.size % 256 : Nat) : Int) :: (unB x.2 ++ ecZ l)) := by
  unfold ecZ
  rw [show ecA (x :: l) = eA x ++ ecA l by simp [ecA]]
  unfold eA
  have w1 : IntKind.u8.wrap (x.1.size : Int) = (x.1.size : Int) := by rw [IntKind.wrap_u8]; omega
  have w2 : IntKind.u8.wrap ((x.2.size / 256 : Nat) : Int) = ((x.2.size / 256 : Nat) : Int) := by rw [IntKind.wrap_u8]; omega
  have w3 : IntKind.u8.wrap (x.2.size : Int) = ((x.2.size % 256 : Nat) : Int) := by rw [IntKind.wrap_u8]; omega
  rw [w1, w2, w3]
  simp only [List.cons_append, List.append_assoc, List.map_cons, List.map_append, bytes_num]
  rfl
theorem pf_code (x : TE) (l : List TE) (h1 : x.1.size ≤ 255) (h2 : x.2.size ≤ 65535) : pfF (ecZ (x :: l)) = some (x, ecZ l) := by
  rw [ecZ_cons x l h1 h2]
  unfold pfF
  simp only [List.drop_succ_cons, List.drop_zero, List.getD_cons_zero, Int.toNat_natCast]
  have d1 : List.drop x.1.size (unB x.1 ++ ((x.2.size / 256 : Nat) : Int) :: ((x.2.size % 256 : Nat) : Int) :: (unB x.2 ++ ecZ l)) = ((x.2.size / 256 : Nat) : Int) :: ((x.2.size % 256 : Nat) : Int) :: (unB x.2 ++ ecZ l) := List.drop_left' (unB_len x.1)
  have d2 : List.take x.1.size (unB x.1 ++ ((x.2.size / 256 : Nat) : Int) :: ((x.2.size % 256 : Nat) : Int) :: (unB x.2 ++ ecZ l)) = unB x.1 := List.take_left' (unB_len x.1)
  rw [d1, d2]
  simp only [List.drop_succ_cons, List.drop_zero, List.getD_cons_zero, List.getD_cons_succ, Int.toNat_natCast]
  rw [Nat.div_add_mod' x.2.size 256]
  have d3 : List.take x.2.size (unB x.2 ++ ecZ l) = unB x.2 := List.take_left' (unB_len x.2)
  have d4 : List.drop x.2.size (unB x.2 ++ ecZ l) = ecZ l := List.drop_left' (unB_len x.2)
  rw [d3, d4, stB_unB, stB_unB]
  rw [if_neg (by rw [List.length_append, unB_len]; omega), if_neg (by simp), if_neg (by rw [List.length_append, unB_len]; omega)]
theorem pa_code : ∀ (l : List TE) (n : Nat), (ecZ l).length ≤ n → (∀ x ∈ l, x.1.size ≤ 255 ∧ x.2.size ≤ 65535) → paF n (ecZ l) = some l
  | [], n, _, _ => pa_end rfl
  | x :: l, n, h, hx => by
    obtain ⟨h1, h2⟩ := hx x (by simp)
    have hp := pf_code x l h1 h2
    have hpos : 0 < (ecZ (x :: l)).length := by rw [ecZ_cons x l h1 h2]; simp
    obtain ⟨l1, _, _, _⟩ := pf_len hpos hp
    cases n with
    | zero => omega
    | succ n =>
      rw [pa_step hpos, hp]
      show Option.map (x :: ·) (paF n (ecZ l)) = _
      rw [pa_code l n (by unfold eN at l1; omega) fun y hy => hx y (List.mem_cons_of_mem _ hy)]
      rfl
theorem trK_short (X : List TE) : ∀ k, (trK X k).length ≤ k
  | 0 => Nat.le_refl _
  | k + 1 => by
    have ih := trK_short X k
    show (trN (trK X k) (X.getD k tD)).length ≤ k + 1
    unfold trN
    split
    · rw [sortR_len']
      unfold ptL
      rw [(insR_perm _ _).length_eq, List.length_cons]
      have := woK_len (trK X k) (X.getD k tD).1 (trK X k).length
      omega
    · omega
theorem trF_short (l : List (Int × Int)) : (trF l).length ≤ 20 := Nat.le_trans (trK_short _ _) (enX_len l)
theorem backLaw (l m : List (Int × Int)) (hl : Stp l) (hm : Stp m) : CallsV Tryd.prog 5 [stpV l, stpV m] [] (fun av H' => av = .bool true ∧ H' = []) := by
  refine callsG_at Tryd.func5 (by kernel_rfl) ?_
  have aw := awake_v
  have t1 := tree_w l hl.1 hl.2
  have t2 := tree_w m hm.1 hm.2
  have n1 := trF_short l
  have n2 := trF_short m
  have o1 := trF_ok l
  have o2 := trF_ok m
  have c1 := trF_fine l
  have c2 := trF_fine m
  have s1 := trF_small l
  have s2 := trF_small m
  generalize trF l = a at *
  generalize trF m = b at *
  have k1 := enc_w a (by omega) o1
  have k2 := enc_w b (by omega) o2
  obtain ⟨f1, g1⟩ := ec_small c1 s1
  obtain ⟨f2, g2⟩ := ec_small c2 s2
  have z1 : ∀ {a : List TE}, a.length ≤ 20 → (∀ x ∈ a, x.1.size ≤ 20 ∧ x.2.size ≤ 40) → (ecZ a).length ≤ 1300 := fun {a} h h2 => by
    have h1 := ecN_small h2 a.length (Nat.le_refl _)
    rw [List.take_length] at h1
    rw [ecZ_len]
    omega
  have p1 := pa_code a (ecZ a).length (Nat.le_refl _) fun x hx => by have := s1 x hx; omega
  have p2 := pa_code b (ecZ b).length (Nat.le_refl _) fun x hx => by have := s2 x hx; omega
  have dc := dec_w (ecZ a) (ecZ_byt a) (by have := z1 n1 s1; omega)
  have e1 : deF (ecZ a) = 0 := by unfold deF; rw [p1]; exact if_pos c1
  have e2 : deO (ecZ a) = a := by unfold deO; rw [p1]; exact if_pos c1
  rw [e1, e2] at dc
  unfold bvV at dc
  have sm := sameR a (by omega)
  have sg := sameG a b (by omega)
  have hs : ((stB (ecZ a)).toList == (stB (ecZ b)).toList) = decide (a = b) := by
    by_cases h : a = b
    · rw [h, decide_eq_true rfl]; exact beq_self_eq_true _
    · rw [decide_eq_false h, ← Bool.not_eq_true, beqL_iff]
      intro q
      have q2 : ecZ a = ecZ b := by rw [← unB_stB (ecZ_byt a), ← unB_stB (ecZ_byt b), q]
      rw [q2] at p1
      exact h (Option.some.inj (p1.symm.trans p2))
  have u1 := cB_u8 (ecZ a)
  have u2 := cB_u8 (ecZ b)
  have v1 : strOfNums ((cB (ecZ a)).map numV) = stB (ecZ a) := by rw [cB_num]; rfl
  have v2 : strOfNums ((cB (ecZ b)).map numV) = stB (ecZ b) := by rw [cB_num]; rfl
  have la : (ecA a).length = (ecZ a).length := by rw [ecZ_len]; rfl
  have lb : (ecA b).length = (ecZ b).length := by rw [ecZ_len]; rfl
  rw [f1, g1, la, ← ecZ_cB] at k1
  rw [f2, g2, lb, ← ecZ_cB] at k2
  clear p1 p2 e1 e2 f1 f2 g1 g2 la lb z1 s1 s2 c1 c2 o1 o2
  generalize stB (ecZ a) = x at *
  generalize stB (ecZ b) = y at *
  generalize ecZ a = r at *
  generalize ecZ b = s at *
  generalize cB r = cr at *
  generalize cB s = cs at *
  generalize decide (a = b) = t at *
  cases t with
  | false =>
    have e1' := t1
    have e2' := t2
    have e3' := k1
    have e4' := k2
    have e5' := dc
    have e6' := aw
    have e7' := sm
    have e8' := (congrArg (fun z => AV.str z) v1)
    have e9' := (congrArg (fun z => AV.str z) v2)
    have e10' := (congrArg (fun z => AV.bool z) hs)
    have e11' := sg
    refine g_q [⟨2, [], .call (avOf e1') (blOf e1') []⟩, ⟨4, [], .call (avOf e2') (blOf e2') []⟩, ⟨10, [], .call (avOf e3') (blOf e3') []⟩, ⟨17, [], .call (avOf e4') (blOf e4') []⟩, ⟨24, [], .call (avOf e5') (blOf e5') []⟩, ⟨31, [], .call (avOf e6') (blOf e6') []⟩, ⟨47, [], .call (avOf e7') (blOf e7') []⟩, ⟨51, [], .as (rhsOf e8')⟩, ⟨53, [], .as (rhsOf e9')⟩, ⟨54, [], .as (rhsOf e10')⟩, ⟨57, [], .call (avOf e11') (blOf e11') []⟩] [.sel [4]] Exit.ret (stOf 61 [(4, AV.bool true)] [Blk.row 24 [AV.slv a.length 2 (flatA encT a)], Blk.row 24 [AV.slv b.length 2 (flatA encT b)], Blk.row 24 [AV.slv a.length 2 (flatA encT a)]]) (And.intro e1' (And.intro e2' (And.intro (show 1 ≤ 1 from (by omega)) (And.intro (show 1 ≤ 1 from (by omega)) (And.intro (show 1 ≤ 1 from (by omega)) (And.intro e3' (And.intro (show 1 ≤ 1 from (by omega)) (And.intro e4' (And.intro e5' (And.intro (show 1 ≤ 1 from (by omega)) (And.intro e6' (And.intro (show 1 ≤ 1 from (by omega)) (And.intro (show 1 ≤ 1 from (by omega)) (And.intro e7' (And.intro (show cr.all isU8 = true from (by omega)) (And.intro e8' (And.intro (show cs.all isU8 = true from (by omega)) (And.intro e9' (And.intro e10' (And.intro (show 1 ≤ 1 from (by omega)) (And.intro (show 1 ≤ 1 from (by omega)) e11'))))))))))))))))))))) ?_
    refine g_f [] [] (AV.bool true) ([]) trivial ?_
    exact ⟨by first | rfl | simp, rfl⟩
  | true =>
    have e1' := t1
    have e2' := t2
    have e3' := k1
    have e4' := k2
    have e5' := dc
    have e6' := aw
    have e7' := sm
    have e8' := (congrArg (fun z => AV.str z) v1)
    have e9' := (congrArg (fun z => AV.str z) v2)
    have e10' := (congrArg (fun z => AV.bool z) hs)
    have e11' := sg
    refine g_q [⟨2, [], .call (avOf e1') (blOf e1') []⟩, ⟨4, [], .call (avOf e2') (blOf e2') []⟩, ⟨10, [], .call (avOf e3') (blOf e3') []⟩, ⟨17, [], .call (avOf e4') (blOf e4') []⟩, ⟨24, [], .call (avOf e5') (blOf e5') []⟩, ⟨31, [], .call (avOf e6') (blOf e6') []⟩, ⟨47, [], .call (avOf e7') (blOf e7') []⟩, ⟨51, [], .as (rhsOf e8')⟩, ⟨53, [], .as (rhsOf e9')⟩, ⟨54, [], .as (rhsOf e10')⟩, ⟨57, [], .call (avOf e11') (blOf e11') []⟩] [.sel [4]] Exit.ret (stOf 61 [(4, AV.bool true)] [Blk.row 24 [AV.slv a.length 2 (flatA encT a)], Blk.row 24 [AV.slv b.length 2 (flatA encT b)], Blk.row 24 [AV.slv a.length 2 (flatA encT a)]]) (And.intro e1' (And.intro e2' (And.intro (show 1 ≤ 1 from (by omega)) (And.intro (show 1 ≤ 1 from (by omega)) (And.intro (show 1 ≤ 1 from (by omega)) (And.intro e3' (And.intro (show 1 ≤ 1 from (by omega)) (And.intro e4' (And.intro e5' (And.intro (show 1 ≤ 1 from (by omega)) (And.intro e6' (And.intro (show 1 ≤ 1 from (by omega)) (And.intro (show 1 ≤ 1 from (by omega)) (And.intro e7' (And.intro (show cr.all isU8 = true from (by omega)) (And.intro e8' (And.intro (show cs.all isU8 = true from (by omega)) (And.intro e9' (And.intro e10' (And.intro (show 1 ≤ 1 from (by omega)) (And.intro (show 1 ≤ 1 from (by omega)) e11'))))))))))))))))))))) ?_
    refine g_f [] [] (AV.bool true) ([]) trivial ?_
    exact ⟨by first | rfl | simp, rfl⟩
end Go.Proofs.YthcaeofgegfncaaDoor
namespace Go.Proofs.YthcaeofgegfncaaDoor
open Go Go.RowKit V
set_option linter.unusedSimpArgs false
set_option linter.unusedVariables false
set_option maxHeartbeats 20000000
end Go.Proofs.YthcaeofgegfncaaDoor
namespace Go.Proofs.YthcaeofgegfncaaDoor
open Go Go.RowKit V
set_option linter.unusedSimpArgs false
set_option linter.unusedVariables false
set_option maxHeartbeats 20000000
end Go.Proofs.YthcaeofgegfncaaDoor
namespace Go.Proofs.YthcaeofgegfncaaDoor
open Go Go.RowKit V
set_option linter.unusedSimpArgs false
set_option linter.unusedVariables false
set_option maxHeartbeats 20000000
end Go.Proofs.YthcaeofgegfncaaDoor
namespace Go.Proofs.YthcaeofgegfncaaDoor
open Go Go.RowKit V
set_option linter.unusedSimpArgs false
set_option linter.unusedVariables false
set_option maxHeartbeats 20000000
end Go.Proofs.YthcaeofgegfncaaDoor
namespace Go.Proofs.YthcaeofgegfncaaDoor
open Go Go.RowKit V
set_option linter.unusedSimpArgs false
set_option linter.unusedVariables false
set_option maxHeartbeats 20000000
structure RawB (r : List Int) : Prop where
  len : r.length ≤ 9223372036854775807
  byt : Byt r
end Go.Proofs.YthcaeofgegfncaaDoor
