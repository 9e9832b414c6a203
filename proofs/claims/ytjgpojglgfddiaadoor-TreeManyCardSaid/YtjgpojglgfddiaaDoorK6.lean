/-
  What the law leans on.
-/
import Derived.Test.YtjgpojglgfddiaaDoorK5
namespace Go.Proofs.YtjgpojglgfddiaaDoor
open Go Go.RowKit V
set_option linter.unusedSimpArgs false
set_option linter.unusedVariables false
set_option maxHeartbeats 20000000
/-- what stands for an own row as a value -/
def RdV (H : List Blk) (x y : AV) : Prop := ∀ (p p1 : Pl) (w : World) (v : Value), RH p H w → Lends (fun _ => true) p p1 → Rep p w v x → Rep p1 w v y
theorem callsV_val {P : Program} {f : FuncId} {args : List AV} {x y : AV} {H : List Blk} (h : CallsV P f args [] fun a b => a = x ∧ b = H) (hr : RdV H x y) : CallsV P f args [] fun a b => a = y ∧ b = [] := fun p w vals hH hv =>
  (h p w vals hH hv).mono fun e w' ⟨v, av, H', p', h1, ⟨h2, h2'⟩, h3, h4, h5⟩ => by
    subst h2 h2'
    have hn : p.n = 0 := hH.n
    obtain ⟨k1, k2, _⟩ := keep_ok (keep := []) (H' := []) h5 h3 (by rw [hn]; exact keep_nil _)
    exact ⟨v, _, [], p'.keep [], h1, ⟨rfl, rfl⟩, k1, hr _ _ _ _ h3 (lends0 h3 (fun _ => true)) h4, k2⟩
theorem rd_sl {t : TypeId} {xs : List AV} {len sz : Nat} (hn : ∀ x ∈ xs, noid0 x = true ∧ x ≠ .junk) (hl : len * sz = xs.length) : RdV [.row t xs] (.sl 0 0 len sz) (.slv len sz xs) := fun p p1 w v hH hL h => by
  have := reads_sl (st := 0) (p1 := p1) rfl hn (by omega) hH hL h
  rwa [List.drop_zero, hl, List.take_length] at this
theorem rd_agg {t : TypeId} {xs : List AV} {len sz : Nat} (hn : ∀ x ∈ xs, noid0 x = true ∧ x ≠ .junk) (hl : len * sz = xs.length) : RdV [.row t xs] (.agg [.sl 0 0 len sz]) (.agg [.slv len sz xs]) := fun p p1 w v hH hL h => by
  obtain ⟨vs, e1, e2, e3⟩ := h
  refine ⟨vs, e1, e2, fun i i1 i2 => ?_⟩
  simp only [List.length_cons, List.length_nil] at i2
  obtain rfl : i = 0 := by omega
  have h0 := e3 0 i1 (by simp)
  exact ⟨h0.1, (rd_sl (t := t) hn hl p p1 w _ hH hL h0.2 : Rep p1 w _ (.slv len sz xs))⟩
theorem rd_tup {H : List Blk} {cs ds : List AV} {y : AV} (hy : (∃ n, y = .int .i64 n) ∨ ∃ b, y = .bool b) (h : RdV H (.agg cs) (.agg ds)) : RdV H (.tuple [.agg cs, y]) (.tuple [.agg ds, y]) := fun p p1 w v hH hL hv => by
  obtain ⟨vs, e1, e2, e3⟩ := hv
  refine ⟨vs, e1, e2, fun i i1 i2 => ?_⟩
  simp only [List.length_cons, List.length_nil] at i2
  rcases i with _ | _ | i
  · have h0 : Rep p w vs.toList[0] (.agg cs) := e3 0 i1 (by simp)
    exact h p p1 w _ hH hL h0
  · rcases hy with ⟨n, rfl⟩ | ⟨b, rfl⟩
    · have h0 : RepF p.M w vs.toList[1] (.int .i64 n) := e3 1 i1 (by simp)
      have h2 : ∃ z, vs.toList[1] = z ∧ RepF p.M w z (.int .i64 n) := ⟨_, rfl, h0⟩
      obtain ⟨z, hz, hz2⟩ := h2
      show Rep1 p1 w vs.toList[1] (.int .i64 n)
      rw [hz]
      cases hz2
      exact RepF.int _ _
    · have h0 : RepF p.M w vs.toList[1] (.bool b) := e3 1 i1 (by simp)
      have h2 : ∃ z, vs.toList[1] = z ∧ RepF p.M w z (.bool b) := ⟨_, rfl, h0⟩
      obtain ⟨z, hz, hz2⟩ := h2
      show Rep1 p1 w vs.toList[1] (.bool b)
      rw [hz]
      cases hz2
      exact RepF.bool b
  · omega
theorem rd_nil : RdV [] (.agg [.nilsl]) (treeV []) := fun p p1 w v hH hL h => by
  obtain ⟨vs, e1, e2, e3⟩ := h
  refine ⟨vs, e1, e2, fun i i1 i2 => ?_⟩
  simp only [List.length_cons, List.length_nil] at i2
  obtain rfl : i = 0 := by omega
  have h0 := e3 0 i1 (by simp)
  refine ⟨h0.1, ?_⟩
  have h1 : RepF p.M w vs.toList[0] .nilsl := h0.2
  have h2 : ∃ z, vs.toList[0] = z ∧ RepF p.M w z .nilsl := ⟨_, rfl, h1⟩
  obtain ⟨z, hz, hz2⟩ := h2
  show Rep0 p1 w vs.toList[0] (.slv 0 2 [])
  rw [hz]
  cases hz2
  exact nil_slv0 2 (by omega) p1 w _ (RepF.nilsl)
theorem rd_tree (l : List TE) : RdV [.row 31 (flatA encT l)] (.agg [.sl 0 0 l.length 2]) (treeV l) := rd_agg (encT_lend l) (encT_len l).symm
/-- a tree and an error -/
theorem val_err {f : FuncId} {args : List AV} {e : Int} {l : List TE} (h : CallsV Tryd.prog f args [] (fun av H' => (e = 0 ∧ av = .tuple [.agg [.sl 0 0 l.length 2], .int .i64 0] ∧ H' = [.row 31 (flatA encT l)]) ∨ (e ≠ 0 ∧ av = .tuple [.agg [.nilsl], .int .i64 e] ∧ H' = []))) : CallsV Tryd.prog f args [] (fun av H' => av = .tuple [treeV (if e = 0 then l else []), .int .i64 e] ∧ H' = []) := by
  by_cases he : e = 0
  · rw [if_pos he]
    subst he
    exact callsV_val (h.mono fun av H' q => by
      rcases q with ⟨_, q⟩ | ⟨q, _⟩
      · exact q
      · exact absurd rfl q) (rd_tup (.inl ⟨_, rfl⟩) (rd_tree l))
  · rw [if_neg he]
    exact callsV_val (h.mono fun av H' q => by
      rcases q with ⟨q, _⟩ | ⟨_, q⟩
      · exact absurd q he
      · exact q) (rd_tup (.inl ⟨_, rfl⟩) rd_nil)
def ovO (a b : List TE) : List TE := if ovF a b = 0 then sortR (ovK a b a.length) else []
end Go.Proofs.YtjgpojglgfddiaaDoor
namespace Go.Proofs.YtjgpojglgfddiaaDoor
open Go Go.RowKit V
set_option linter.unusedSimpArgs false
set_option linter.unusedVariables false
set_option maxHeartbeats 20000000
theorem nil_arg (p : Pl) (w : World) (v : Value) (h : Rep p w v (.agg [.nilsl])) : Rep p w v (treeV []) :=
  agg_weak (cs := [.nilsl]) (cs' := [.slv 0 2 []]) rfl (fun i h1 h2 p w v hv => by
    simp only [List.length_cons, List.length_nil] at h1
    obtain rfl : i = 0 := by omega
    exact nil_slv0 2 (by omega) p w v hv) p w v h
theorem callsV_nil {P : Program} {f : FuncId} {as' : List AV} {H : List Blk} {R : AV → List Blk → Prop} (h : CallsV P f (treeV [] :: as') H R) : CallsV P f (.agg [.nilsl] :: as') H R := fun p w vals hH hv => h p w vals hH ⟨hv.1, fun i i1 i2 => by
  have := hv.2 i i1 i2
  cases i with
  | zero => exact nil_arg _ _ _ this
  | succ i => exact this⟩
def trN (T : List TE) (x : TE) : List TE := if ptF T x = 0 then sortR (ptL T x) else T
def trK (X : List TE) : Nat → List TE
  | 0 => []
  | k + 1 => trN (trK X k) (X.getD k tD)
/-- valid for itself: as a file that the laws use -/
theorem trK_fine (X : List TE) : ∀ k, ckF (trK X k) = 0
  | 0 => by rfl
  | k + 1 => by
    have ih := trK_fine X k
    show ckF (trN (trK X k) (X.getD k tD)) = 0
    unfold trN
    split
    · rename_i h
      unfold ptF at h
      rw [if_pos ih] at h
      obtain ⟨h1, h2⟩ := bd_fine h
      exact fine_ck (h1.perm (sortR_perm _).symm) (sortR_srt h1.dst) (by rw [clF_perm (sortR_perm _)]; exact h2)
    · exact ih
end Go.Proofs.YtjgpojglgfddiaaDoor
namespace Go.Proofs.YtjgpojglgfddiaaDoor
open Go Go.RowKit V
set_option linter.unusedSimpArgs false
set_option linter.unusedVariables false
set_option maxHeartbeats 20000000
def awA : List TE := [(.mk #[97, 47, 120], .mk #[]), (.mk #[98], .mk #[49])]
def awB : List TE := [(.mk #[98], .mk #[50]), (.mk #[99, 47, 121], .mk #[])]
def awC : List TE := [(.mk #[97], .mk #[]), (.mk #[97, 47, 98], .mk #[])]
def awO : List TE := [(.mk #[97, 47, 120], .mk #[]), (.mk #[98], .mk #[50]), (.mk #[99, 47, 121], .mk #[])]
theorem aw1 : ovF awA awB = 0 := by kernel_rfl
theorem aw3 : bdF awC = 10 := by kernel_rfl
theorem awok : (∀ x ∈ awA, OkT x) ∧ (∀ x ∈ awB, OkT x) ∧ ∀ x ∈ awC, OkT x := by
  refine ⟨?_, ?_, ?_⟩ <;> intro x hx <;> simp [awA, awB, awC] at hx <;> rcases hx with rfl | rfl <;> exact ⟨by decide, by decide⟩
theorem awake_v : CallsV Tryd.prog 12 [] [] (fun av H' => av = .bool true ∧ H' = []) := by
  refine callsG_at Tryd.func12 (by kernel_rfl) ?_
  have o1 : CallsV Tryd.prog 30 [.agg [.slv 2 2 [.str (.mk #[97, 47, 120]), .str (.mk #[]), .str (.mk #[98]), .str (.mk #[49])]], .agg [.slv 2 2 [.str (.mk #[98]), .str (.mk #[50]), .str (.mk #[99, 47, 121]), .str (.mk #[])]]] [] (fun av H' => av = .tuple [.agg [.sl 0 0 3 2], .int .i64 0] ∧ H' = [.row 31 [.str (.mk #[97, 47, 120]), .str (.mk #[]), .str (.mk #[98]), .str (.mk #[50]), .str (.mk #[99, 47, 121]), .str (.mk #[])]]) := by
    refine (over_v awA awB (by decide) (by decide) awok.1 awok.2.1).mono fun av H' q => ?_
    rcases q with ⟨_, q1, q2⟩ | ⟨q, _⟩
    · have e : sortR (ovK awA awB awA.length) = awO := by kernel_rfl
      rw [e] at q1 q2
      exact ⟨q1, q2⟩
    · exact absurd aw1 q
  have b1 : CallsV Tryd.prog 18 [.slv 2 2 [.str (.mk #[97]), .str (.mk #[]), .str (.mk #[97, 47, 98]), .str (.mk #[])]] [] (fun av H' => av = .tuple [.agg [.nilsl], .int .i64 10] ∧ H' = []) := by
    have h := build_ne awC (by decide) awok.2.2 (by rw [aw3]; decide)
    rw [aw3] at h
    exact h
  have e1' := (show Reads [Blk.row 31 [AV.str (ByteArray.mk #[(97 : UInt8), (47 : UInt8), (120 : UInt8)]), AV.str (ByteArray.mk #[]), AV.str (ByteArray.mk #[(98 : UInt8)]), AV.str (ByteArray.mk #[(49 : UInt8)])], Blk.row 24 [AV.sl 0 0 2 2], Blk.row 31 [AV.str (ByteArray.mk #[(98 : UInt8)]), AV.str (ByteArray.mk #[(50 : UInt8)]), AV.str (ByteArray.mk #[(99 : UInt8), (47 : UInt8), (121 : UInt8)]), AV.str (ByteArray.mk #[])], Blk.row 24 [AV.sl 2 0 2 2]] [AV.agg [AV.sl 0 0 2 2], AV.agg [AV.sl 2 0 2 2]] [AV.agg [AV.slv 2 2 [AV.str (ByteArray.mk #[(97 : UInt8), (47 : UInt8), (120 : UInt8)]), AV.str (ByteArray.mk #[]), AV.str (ByteArray.mk #[(98 : UInt8)]), AV.str (ByteArray.mk #[(49 : UInt8)])]], AV.agg [AV.slv 2 2 [AV.str (ByteArray.mk #[(98 : UInt8)]), AV.str (ByteArray.mk #[(50 : UInt8)]), AV.str (ByteArray.mk #[(99 : UInt8), (47 : UInt8), (121 : UInt8)]), AV.str (ByteArray.mk #[])]]] from (Reads.cons (Reads1.val (by kernel_rfl)) (Reads.cons (Reads1.val (by kernel_rfl)) Reads.nil)))
  have e2' := o1
  have e3' := (show Reads [Blk.row 31 [AV.str (ByteArray.mk #[(97 : UInt8), (47 : UInt8), (120 : UInt8)]), AV.str (ByteArray.mk #[]), AV.str (ByteArray.mk #[(98 : UInt8)]), AV.str (ByteArray.mk #[(49 : UInt8)])], Blk.row 24 [AV.sl 0 0 2 2], Blk.row 31 [AV.str (ByteArray.mk #[(98 : UInt8)]), AV.str (ByteArray.mk #[(50 : UInt8)]), AV.str (ByteArray.mk #[(99 : UInt8), (47 : UInt8), (121 : UInt8)]), AV.str (ByteArray.mk #[])], Blk.row 24 [AV.sl 2 0 2 2], Blk.row 31 [AV.str (ByteArray.mk #[(97 : UInt8), (47 : UInt8), (120 : UInt8)]), AV.str (ByteArray.mk #[]), AV.str (ByteArray.mk #[(98 : UInt8)]), AV.str (ByteArray.mk #[(50 : UInt8)]), AV.str (ByteArray.mk #[(99 : UInt8), (47 : UInt8), (121 : UInt8)]), AV.str (ByteArray.mk #[])], Blk.row 24 [AV.sl 4 0 3 2], Blk.row 31 [AV.str (ByteArray.mk #[(97 : UInt8)]), AV.str (ByteArray.mk #[]), AV.str (ByteArray.mk #[(97 : UInt8), (47 : UInt8), (98 : UInt8)]), AV.str (ByteArray.mk #[])]] [AV.sl 6 0 2 2] [AV.slv 2 2 [AV.str (ByteArray.mk #[(97 : UInt8)]), AV.str (ByteArray.mk #[]), AV.str (ByteArray.mk #[(97 : UInt8), (47 : UInt8), (98 : UInt8)]), AV.str (ByteArray.mk #[])]] from (Reads.cons (Reads1.val (by kernel_rfl)) Reads.nil))
  have e4' := b1
  refine g_q [⟨15, [], .lend (rdOf e1') (avOf e2') (blOf e2') [false]⟩, ⟨25, [], .lend (rdOf e3') (avOf e4') (blOf e4') []⟩] [.sel [0]] Exit.ret (stOf 48 [(0, AV.bool true)] [Blk.row 31 [AV.str (ByteArray.mk #[(97 : UInt8), (47 : UInt8), (120 : UInt8)]), AV.str (ByteArray.mk #[]), AV.str (ByteArray.mk #[(98 : UInt8)]), AV.str (ByteArray.mk #[(49 : UInt8)])], Blk.row 24 [AV.sl 0 0 2 2], Blk.row 31 [AV.str (ByteArray.mk #[(98 : UInt8)]), AV.str (ByteArray.mk #[(50 : UInt8)]), AV.str (ByteArray.mk #[(99 : UInt8), (47 : UInt8), (121 : UInt8)]), AV.str (ByteArray.mk #[])], Blk.row 24 [AV.sl 2 0 2 2], Blk.row 31 [AV.str (ByteArray.mk #[(97 : UInt8), (47 : UInt8), (120 : UInt8)]), AV.str (ByteArray.mk #[]), AV.str (ByteArray.mk #[(98 : UInt8)]), AV.str (ByteArray.mk #[(50 : UInt8)]), AV.str (ByteArray.mk #[(99 : UInt8), (47 : UInt8), (121 : UInt8)]), AV.str (ByteArray.mk #[])], Blk.row 24 [AV.sl 4 0 3 2], Blk.row 31 [AV.str (ByteArray.mk #[(97 : UInt8)]), AV.str (ByteArray.mk #[]), AV.str (ByteArray.mk #[(97 : UInt8), (47 : UInt8), (98 : UInt8)]), AV.str (ByteArray.mk #[])], Blk.row 24 [AV.nilsl]]) (And.intro (show 1 ≤ 1 from (by omega)) (And.intro (show 1 ≤ 1 from (by omega)) (And.intro (show 1 ≤ 1 from (by omega)) (And.intro (show 1 ≤ 1 from (by omega)) (And.intro e1' (And.intro (show (novR (AV.tuple [AV.agg [AV.sl 0 0 3 2], AV.int .i64 (0 : Int)]) && [Blk.row 31 [AV.str (ByteArray.mk #[(97 : UInt8), (47 : UInt8), (120 : UInt8)]), AV.str (ByteArray.mk #[]), AV.str (ByteArray.mk #[(98 : UInt8)]), AV.str (ByteArray.mk #[(50 : UInt8)]), AV.str (ByteArray.mk #[(99 : UInt8), (47 : UInt8), (121 : UInt8)]), AV.str (ByteArray.mk #[])]].all novB) = true from (by kernel_rfl)) (And.intro e2' (And.intro (show 1 ≤ 1 from (by omega)) (And.intro e3' (And.intro (show (novR (AV.tuple [AV.agg [AV.nilsl], AV.int .i64 (10 : Int)]) && [].all novB) = true from (by kernel_rfl)) (And.intro e4' (And.intro (show 1 ≤ 1 from (by omega)) (And.intro (show 1 ≤ 1 from (by omega)) (And.intro (show 1 ≤ 1 from (by omega)) (And.intro (show (0 : Int) ≤ (1 : Int) ∧ (1 : Int) < (↑3 : Int) from (by omega)) (show 1 ≤ 3 from (by omega))))))))))))))))) ?_
  refine g_f [] [] (AV.bool true) ([]) trivial ?_
  exact ⟨rfl, rfl⟩
end Go.Proofs.YtjgpojglgfddiaaDoor
namespace Go.Proofs.YtjgpojglgfddiaaDoor
open Go Go.RowKit V
set_option linter.unusedSimpArgs false
set_option linter.unusedVariables false
set_option maxHeartbeats 20000000
structure Stp (l : List (Int × Int)) : Prop where
  len : l.length ≤ 9223372036854775807
  each : ∀ x ∈ l, (0 ≤ x.1 ∧ x.1 ≤ 255) ∧ 0 ≤ x.2 ∧ x.2 ≤ 255
end Go.Proofs.YtjgpojglgfddiaaDoor
namespace Go.Proofs.YtjgpojglgfddiaaDoor
open Go Go.RowKit V
set_option linter.unusedSimpArgs false
set_option linter.unusedVariables false
set_option maxHeartbeats 20000000
end Go.Proofs.YtjgpojglgfddiaaDoor
namespace Go.Proofs.YtjgpojglgfddiaaDoor
open Go Go.RowKit V
set_option linter.unusedSimpArgs false
set_option linter.unusedVariables false
set_option maxHeartbeats 20000000
theorem callsV_nil2 {P : Program} {f : FuncId} {x : AV} {H : List Blk} {R : AV → List Blk → Prop} (h : CallsV P f [x, treeV []] H R) : CallsV P f [x, .agg [.nilsl]] H R := fun p w vals hH hv => h p w vals hH ⟨hv.1, fun i i1 i2 => by
  have := hv.2 i i1 i2
  match i, i2 with
  | 0, _ => exact this
  | 1, _ => exact nil_arg _ _ _ this⟩
theorem gtF_iff (l : List TE) (p : ByteArray) : (gtF l p).2 = true ↔ ∃ y ∈ l, y.1 = p := by
  rw [← gt_iff]
  unfold gtF
  split
  · rename_i h; exact ⟨fun _ => h, fun _ => rfl⟩
  · rename_i h; exact ⟨fun q => (by cases q), fun q => absurd q h⟩
theorem ovK_end (a b : List TE) : ovK a b a.length = b ++ a.filter fun x => !(gtF b x.1).2 := by
  unfold ovK; rw [List.take_length]
theorem bd_perm {l m : List TE} (hp : l.Perm m) (hd : Dst l) (hc : ∀ x ∈ l, cfF x = 0) : bdF l = bdF m ∧ sortR l = sortR m := by
  have hs : sortR l = sortR m := sort_eq (dst_perm hd hp) (sortR_srt hd) ((sortR_perm l).trans hp)
  refine ⟨?_, hs⟩
  by_cases h64 : 64 < l.length
  · unfold bdF
    rw [if_pos h64, if_pos (by rw [← hp.length_eq]; exact h64)]
  · have hf : Fine l := ⟨by omega, hc, hd⟩
    rw [fine_bd hf, fine_bd (hf.perm hp), clF_perm hp]
theorem ovK_dst {a b : List TE} (ha : Dst a) (hb : Dst b) : Dst (ovK a b a.length) := by
  rw [ovK_end]
  refine List.pairwise_append.2 ⟨hb, List.Pairwise.sublist List.filter_sublist ha, fun x hx y hy e => ?_⟩
  obtain ⟨_, h2⟩ := List.mem_filter.1 hy
  rw [Bool.not_eq_true', ← Bool.not_eq_true, gtF_iff] at h2
  exact h2 ⟨x, hx, e⟩
theorem ovK_each {a b : List TE} (ha : ∀ x ∈ a, cfF x = 0) (hb : ∀ x ∈ b, cfF x = 0) : ∀ x ∈ ovK a b a.length, cfF x = 0 := fun x hx => by
  rw [ovK_end] at hx
  rcases List.mem_append.1 hx with h | h
  · exact hb x h
  · exact ha x (List.mem_filter.1 h).1
theorem ov_ok {a b : List TE} (ha : ckF a = 0) (hb : ckF b = 0) (h : ovF a b = 0) : ovO a b = sortR (ovK a b a.length) ∧ ckF (ovO a b) = 0 := by
  have e : ovO a b = sortR (ovK a b a.length) := by unfold ovO; rw [if_pos h]
  refine ⟨e, ?_⟩
  rw [e]
  unfold ovF at h
  rw [if_pos ha, if_pos hb] at h
  obtain ⟨h1, h2⟩ := bd_fine h
  exact fine_ck (h1.perm (sortR_perm _).symm) (sortR_srt h1.dst) (by rw [clF_perm (sortR_perm _)]; exact h2)
/-- one over the other, over the third -/
theorem ov_assoc {a b c : List TE} (ha : ckF a = 0) (hb : ckF b = 0) (hc : ckF c = 0) (h1 : ovF a b = 0) (h2 : ovF b c = 0) : ovF (ovO a b) c = ovF a (ovO b c) ∧ ovO (ovO a b) c = ovO a (ovO b c) := by
  obtain ⟨e1, k1⟩ := ov_ok ha hb h1
  obtain ⟨e2, k2⟩ := ov_ok hb hc h2
  have fa := ck_fine ha
  have fb := ck_fine hb
  have fc := ck_fine hc
  have f1 := ck_fine k1
  have f2 := ck_fine k2
  have p1 : (ovO a b).Perm (b ++ a.filter fun x => !(gtF b x.1).2) := by rw [e1, ovK_end]; exact sortR_perm _
  have p2 : (ovO b c).Perm (c ++ b.filter fun x => !(gtF c x.1).2) := by rw [e2, ovK_end]; exact sortR_perm _
  have hbc : ∀ x : TE, (!(gtF (ovO b c) x.1).2) = ((!(gtF b x.1).2) && (!(gtF c x.1).2)) := fun x => by
    have hi : (gtF (ovO b c) x.1).2 = true ↔ ((gtF b x.1).2 = true ∨ (gtF c x.1).2 = true) := by
      rw [gtF_iff, gtF_iff, gtF_iff]
      constructor
      · rintro ⟨y, hy, e⟩
        rcases List.mem_append.1 (p2.mem_iff.1 hy) with h | h
        · exact .inr ⟨y, h, e⟩
        · exact .inl ⟨y, (List.mem_filter.1 h).1, e⟩
      · rintro (⟨y, hy, e⟩ | ⟨y, hy, e⟩)
        · by_cases hq : (gtF c y.1).2 = true
          · obtain ⟨z, hz, ez⟩ := (gtF_iff _ _).1 hq
            exact ⟨z, p2.mem_iff.2 (List.mem_append_left _ hz), ez.trans e⟩
          · exact ⟨y, p2.mem_iff.2 (List.mem_append_right _ (List.mem_filter.2 ⟨hy, by rw [Bool.not_eq_true', ← Bool.not_eq_true]; exact hq⟩)), e⟩
        · exact ⟨y, p2.mem_iff.2 (List.mem_append_left _ hy), e⟩
    cases g0 : (gtF (ovO b c) x.1).2 <;> cases g1 : (gtF b x.1).2 <;> cases g2 : (gtF c x.1).2 <;> rw [g0, g1, g2] at hi <;> simp at hi ⊢
  have hp : (ovK (ovO a b) c (ovO a b).length).Perm (ovK a (ovO b c) a.length) := by
    rw [ovK_end, ovK_end]
    refine (List.Perm.append_left c (p1.filter _)).trans ?_
    rw [List.filter_append, List.filter_filter]
    refine List.Perm.trans ?_ (List.Perm.append_right _ p2.symm)
    rw [List.append_assoc]
    refine List.Perm.append_left c (List.Perm.append_left _ ?_)
    rw [List.filter_congr (q := fun x => !(gtF (ovO b c) x.1).2) fun x _ => by rw [hbc x, Bool.and_comm]]
  have hd := ovK_dst f1.1.dst fc.1.dst
  have he := ovK_each f1.1.each fc.1.each
  obtain ⟨b1, b2⟩ := bd_perm hp hd he
  have eF : ovF (ovO a b) c = ovF a (ovO b c) := by
    unfold ovF
    rw [if_pos k1, if_pos hc, if_pos ha, if_pos k2, b1]
  refine ⟨eF, ?_⟩
  unfold ovO at b2 ⊢
  unfold ovO at eF
  rw [eF, b2]
end Go.Proofs.YtjgpojglgfddiaaDoor
namespace Go.Proofs.YtjgpojglgfddiaaDoor
open Go Go.RowKit V
set_option linter.unusedSimpArgs false
set_option linter.unusedVariables false
set_option maxHeartbeats 20000000
structure Raw (l : List TE) : Prop where
  len : l.length ≤ 9223372036854775807
  each : ∀ x ∈ l, x.1.size ≤ reachBytes ∧ x.2.size ≤ reachBytes
end Go.Proofs.YtjgpojglgfddiaaDoor
namespace Go.Proofs.YtjgpojglgfddiaaDoor
open Go Go.RowKit V
set_option linter.unusedSimpArgs false
set_option linter.unusedVariables false
set_option maxHeartbeats 20000000
theorem mod_nat (z : Int) (n : Nat) (hz : 0 ≤ z) : z.tmod (n : Int) = ((z.toNat % n : Nat) : Int) := by
  rw [Int.ofNat_tmod, Int.toNat_of_nonneg hz]
end Go.Proofs.YtjgpojglgfddiaaDoor
namespace Go.Proofs.YtjgpojglgfddiaaDoor
open Go Go.RowKit V
set_option linter.unusedSimpArgs false
set_option linter.unusedVariables false
set_option maxHeartbeats 20000000
end Go.Proofs.YtjgpojglgfddiaaDoor
namespace Go.Proofs.YtjgpojglgfddiaaDoor
open Go Go.RowKit V
set_option linter.unusedSimpArgs false
set_option linter.unusedVariables false
set_option maxHeartbeats 20000000
end Go.Proofs.YtjgpojglgfddiaaDoor
namespace Go.Proofs.YtjgpojglgfddiaaDoor
open Go Go.RowKit V
set_option linter.unusedSimpArgs false
set_option linter.unusedVariables false
set_option maxHeartbeats 20000000
def mnB (i : Nat) : ByteArray := .mk #[102, (97 + i / 26).toUInt8, (97 + i % 26).toUInt8]
def mnK (k : Nat) : List TE := (List.range k).map fun i => (mnB i, ByteArray.empty)
theorem mnK_len (k : Nat) : (mnK k).length = k := by simp [mnK]
theorem mnK_next (k : Nat) : mnK (k + 1) = mnK k ++ [(mnB k, ByteArray.empty)] := by
  unfold mnK; rw [List.range_succ, List.map_append]; rfl
def mnS (n z : Int) (k : Nat) : St := stOf 71 [(0, .int .u8 n), (1, .int .u8 z), (5, .sl 0 0 k 2), (6, .int .i64 (k : Int))] [.row 31 (flatA encT (mnK k))]
theorem mnB_all : (List.range 80).all (fun k => decide (ByteArray.mk #[102] ++ strOfNums [IntKind.u8.wrap (97 + IntKind.u8.wrap (IntKind.i64.wrap ((k : Int).tdiv 26))), IntKind.u8.wrap (97 + IntKind.u8.wrap ((k : Int).tmod 26))] = mnB k)) = true := by decide +kernel
theorem mnB_eq (k : Nat) (hk : k < 80) : ByteArray.mk #[102] ++ strOfNums [IntKind.u8.wrap (97 + IntKind.u8.wrap (IntKind.i64.wrap ((k : Int).tdiv 26))), IntKind.u8.wrap (97 + IntKind.u8.wrap ((k : Int).tmod 26))] = mnB k := of_decide_eq_true (List.all_eq_true.1 mnB_all k (List.mem_range.2 hk))
theorem mn_step (n z : Int) (q k : Nat) (hq : n.tmod 20 = (q : Int)) (hq2 : q < 20) (hk : k < 55 + q) : GoV Tryd.prog 0 (loopB Tryd.f5 0) (isX .normal (mnS n z (k + 1))) (mnS n z k) := by
  have hs := encT_snoc (mnK k) (mnB k, ByteArray.empty)
  rw [mnK_len, ← mnK_next] at hs
  have hge := encT_ge (mnK k)
  rw [mnK_len] at hge
  have n1 := encT_noid (mnK k)
  have n2 := encT_noid (mnK (k + 1))
  have e1 := mnB_eq k (by omega)
  unfold mnS
  generalize mnK k = o at *
  generalize mnK (k + 1) = o2 at *
  generalize mnB k = v at *
  have e1' := (congrArg (fun z => AV.int .u8 z) hq)
  have e2' := (congrArg (fun z => AV.int .i64 z) (wrap_i64 (e := (↑q : Int)) (by omega) (by omega)))
  have e3' := (congrArg (fun z => AV.int .i64 z) (wrap_i64 (e := (55 : Int) + (↑q : Int)) (by omega) (by omega)))
  have e4' := (congrArg (fun z => AV.str z) e1)
  have e5' := (congrArg (fun z => Blk.row 31 z) hs)
  have e6' := (congrArg (fun z => AV.int .i64 z) (wrap_i64 (e := (↑k : Int) + (1 : Int)) (by omega) (by omega)))
  exact g_x [⟨2, [], .as (rhsOf e1')⟩, ⟨3, [], .as (rhsOf e2')⟩, ⟨4, [], .as (rhsOf e3')⟩, ⟨6, [], .br true .no⟩, ⟨18, [], .as (rhsOf e4')⟩, ⟨22, [.hp 3 (rhsOf e5')], .no⟩, ⟨24, [], .as (rhsOf e6')⟩] [.sel [0, 1, 5, 6], .keep [3] [true]] (And.intro (show (20 : Int) ≠ (0 : Int) from (by omega)) (And.intro e1' (And.intro e2' (And.intro e3' (And.intro (show decide ((↑k : Int) < (55 : Int) + (↑q : Int)) = true from (by rw [decide_eq_true_iff]; omega)) (And.intro (show (26 : Int) ≠ (0 : Int) from (by omega)) (And.intro (show (26 : Int) ≠ (0 : Int) from (by omega)) (And.intro (show (List.take 2 (List.drop 0 [AV.int .u8 (IntKind.u8.wrap ((97 : Int) + IntKind.u8.wrap (IntKind.i64.wrap ((↑k : Int).tdiv (26 : Int))))), AV.int .u8 (IntKind.u8.wrap ((97 : Int) + IntKind.u8.wrap ((↑k : Int).tmod (26 : Int))))])).all isU8 = true from (by kernel_rfl)) (And.intro (show 3 ≤ 9223372036854775807 from (by omega)) (And.intro e4' (And.intro (show k * 2 ≤ (flatA encT o).length from (by omega)) (And.intro (show 2 ≤ 2 from (by omega)) (And.intro (show (k + 1) * 32 ≤ 140737488355328 from (by omega)) (And.intro (show k + 1 ≤ maxLen from (by (unfold maxLen; omega))) (And.intro (congrArg some e5') (And.intro e6' (show ∀ (x : AV), x ∈ flatA encT o2 → noid0 x = true from n2)))))))))))))))))
theorem mn_loop (n z : Int) (q : Nat) (hq : n.tmod 20 = (q : Int)) (hq2 : q < 20) : LoopG Tryd.prog 0 Tryd.f5 0 (.exit 0) (stOf 71 [(1, .int .u8 z), (5, .sl 0 0 (55 + q) 2)] [.row 31 (flatA encT (mnK (55 + q)))]) (mnS n z 0) := by
  refine loopG_of (55 + q) (fun k => mnS n z k) rfl (by simp) (fun k hk => mn_step n z q k hq hq2 hk) ?_
  have n1 := encT_noid (mnK (55 + q))
  have e1 : ((55 + q : Nat) : Int) = 55 + (q : Int) := by omega
  unfold mnS
  generalize mnK (55 + q) = o at *
  generalize hN : 55 + q = N at *
  have e1' := (congrArg (fun z => AV.int .u8 z) hq)
  have e2' := (congrArg (fun z => AV.int .i64 z) (wrap_i64 (e := (↑q : Int)) (by omega) (by omega)))
  have e3' := (congrArg (fun z => AV.int .i64 z) (wrap_i64 (e := (55 : Int) + (↑q : Int)) (by omega) (by omega)))
  exact g_x [⟨2, [], .as (rhsOf e1')⟩, ⟨3, [], .as (rhsOf e2')⟩, ⟨4, [], .as (rhsOf e3')⟩, ⟨6, [], .br false .no⟩] [.sel [1, 5]] (And.intro (show (20 : Int) ≠ (0 : Int) from (by omega)) (And.intro e1' (And.intro e2' (And.intro e3' (show decide ((↑N : Int) < (55 : Int) + (↑q : Int)) = false from (by rw [decide_eq_false_iff_not]; omega))))))
theorem mnB_ok : (List.range 80).all (fun i => vaF (mnB i) && ((List.range 80).all fun j => !decide (i < j) || Op.bytesLess (mnB i).toList (mnB j).toList)) = true := by decide +kernel
theorem mnB_va (i : Nat) (h : i < 80) : vaF (mnB i) = true := by
  have := List.all_eq_true.1 mnB_ok i (List.mem_range.2 h)
  rw [Bool.and_eq_true] at this
  exact this.1
theorem mnB_lt (i j : Nat) (h : i < j) (hj : j < 80) : Op.bytesLess (mnB i).toList (mnB j).toList = true := by
  have := List.all_eq_true.1 mnB_ok i (List.mem_range.2 (by omega))
  rw [Bool.and_eq_true] at this
  have := List.all_eq_true.1 this.2 j (List.mem_range.2 hj)
  simpa [h] using this
def mnU (N : Nat) (v : ByteArray) : List TE := (mnK N).set 0 (mnB 0, v)
theorem mnU_len (N : Nat) (v : ByteArray) : (mnU N v).length = N := by unfold mnU; rw [List.length_set, mnK_len]
theorem mnU_get (N : Nat) (v : ByteArray) (i : Nat) (h : i < N) : ((mnU N v).getD i tD) = (mnB i, if i = 0 then v else ByteArray.empty) := by
  unfold mnU
  rw [List.getD_eq_getElem?_getD, List.getElem?_set]
  by_cases h0 : 0 = i
  · subst h0
    rw [if_pos rfl, if_pos (by rw [mnK_len]; exact h), if_pos rfl]
    rfl
  · rw [if_neg h0, if_neg (fun e => h0 e.symm), List.getElem?_eq_getElem (by rw [mnK_len]; exact h)]
    simp [mnK]
theorem mnU_srt (N : Nat) (v : ByteArray) (hN : N ≤ 80) : Srt (mnU N v) := by
  refine List.pairwise_iff_getElem.2 fun i j hi hj hij => ?_
  rw [mnU_len] at hi hj
  have h1 := mnU_get N v i hi
  have h2 := mnU_get N v j hj
  rw [getD_get (by rw [mnU_len]; exact hi)] at h1
  rw [getD_get (by rw [mnU_len]; exact hj)] at h2
  rw [h1, h2]
  exact mnB_lt i j hij (by omega)
theorem cf_va {x : TE} (h : vaF x.1 = true) : cfF x = if x.2.size ≤ 4096 then 0 else 2 := by unfold cfF; rw [if_pos h]
theorem mnU_same (N : Nat) (v : ByteArray) (h0 : 0 < N) (hN : N ≤ 80) : ckF (mnU N v) = bdF (mnU N v) := by
  have hs := mnU_srt N v hN
  by_cases h64 : 64 < N
  · unfold ckF bdF
    rw [mnU_len, if_pos h64, if_pos h64]
  · by_cases hv : v.size ≤ 4096
    · have hf : Fine (mnU N v) := ⟨by rw [mnU_len]; omega, fun x hx => by
        obtain ⟨i, hi, rfl⟩ := mem_getD hx
        rw [mnU_len] at hi
        rw [mnU_get N v i hi, cf_va (mnB_va i (by omega))]
        by_cases h0 : i = 0
        · rw [if_pos h0]; exact if_pos hv
        · rw [if_neg h0]; exact if_pos (Nat.zero_le _), hs.dst⟩
      rw [fine_bd hf]
      cases hc : clF (mnU N v) with
      | true => rw [fine_ck hf hs hc]; rfl
      | false =>
        unfold ckF
        rw [if_neg (by rw [mnU_len]; exact h64)]
        rcases fstN_or (okE (mnU N v)) (mnU N v).length with ⟨h1, _⟩ | ⟨h1, _, h3⟩
        · rw [if_neg (by omega), hc]
        · exfalso
          have h3 : (stE (mnU N v) (fstN (okE (mnU N v)) (mnU N v).length) == 0) = false := h3
          generalize fstN (okE (mnU N v)) (mnU N v).length = m at *
          have hz : stE (mnU N v) m = 0 := by
            unfold stE
            rw [if_pos (hf.each _ (getD_mem h1)), if_neg]
            rw [Bool.and_eq_true, decide_eq_true_eq]
            rintro ⟨k0, k1⟩
            have h2 := srt_get hs (i := m - 1) (j := m) (by omega) h1
            have h4 : Op.bytesLess ((mnU N v).getD (m - 1) tD).1.toList ((mnU N v).getD m tD).1.toList = true := h2
            unfold leS at k1
            rw [Bool.or_eq_true, beqL_iff] at k1
            rcases k1 with k1 | k1
            · rw [(bl_asymm _ _ h4).1] at k1; cases k1
            · rw [k1, bl_irrefl] at h4; cases h4
          rw [hz] at h3; cases h3
    · have g0 := mnU_get N v 0 h0
      rw [if_pos rfl] at g0
      have c0 : cfF ((mnU N v).getD 0 tD) = 2 := by rw [g0, cf_va (mnB_va 0 (by omega)), if_neg hv]
      have e1 : stE (mnU N v) 0 = 2 := by unfold stE; rw [c0]; rfl
      have e2 : bdE (mnU N v) 0 = 2 := by unfold bdE bsE; rw [c0]; rfl
      have f1 : fstN (okE (mnU N v)) (mnU N v).length = 0 := by
        rcases fstN_or (okE (mnU N v)) (mnU N v).length with ⟨h1, h2⟩ | ⟨h1, h2, _⟩
        · have := h2 0 (by rw [mnU_len]; exact h0)
          unfold okE at this
          rw [e1] at this; cases this
        · rcases Nat.eq_zero_or_pos (fstN (okE (mnU N v)) (mnU N v).length) with h | h
          · exact h
          · have := h2 0 h
            unfold okE at this
            rw [e1] at this; cases this
      have f2 : bdM (mnU N v) = 0 := by
        rcases bdM_or (mnU N v) with ⟨h1, h2⟩ | ⟨h1, h2, _⟩
        · have := h2 0 (by rw [mnU_len]; exact h0)
          rw [e2] at this; cases this
        · rcases Nat.eq_zero_or_pos (bdM (mnU N v)) with h | h
          · exact h
          · have := h2 0 h
            rw [e2] at this; cases this
      unfold ckF bdF
      rw [f1, f2, mnU_len, if_neg h64, if_neg h64, if_pos h0, if_pos h0, e1, e2]
theorem mnU_ok (N : Nat) (v : ByteArray) (hN : N ≤ 80) (hv : v.size ≤ 9223372036854775807) : ∀ x ∈ mnU N v, OkT x := fun x hx => by
  obtain ⟨i, hi, rfl⟩ := mem_getD hx
  rw [mnU_len] at hi
  rw [mnU_get N v i hi]
  refine ⟨?_, ?_⟩
  · show (mnB i).size ≤ 30000
    have : (mnB i).size = 3 := rfl
    omega
  · show (if i = 0 then v else ByteArray.empty).size ≤ _
    split
    · exact hv
    · exact Nat.zero_le _
end Go.Proofs.YtjgpojglgfddiaaDoor
namespace Go.Proofs.YtjgpojglgfddiaaDoor
open Go Go.RowKit V
set_option linter.unusedSimpArgs false
set_option linter.unusedVariables false
set_option maxHeartbeats 20000000
theorem strNums_size (l : List Int) : (strOfNums l).size = l.length := by simp [strOfNums, ByteArray.size]
theorem manyLaw (n z : Int) (hn : 0 ≤ n ∧ n ≤ 255) (hz : 0 ≤ z ∧ z ≤ 255) : CallsV Tryd.prog 5 [.int .u8 n, .int .u8 z] [] (fun av H' => av = .bool true ∧ H' = []) := by
  refine callsG_at Tryd.func5 (by kernel_rfl) ?_
  have aw := awake_v
  have hq : n.tmod 20 = ((n.toNat % 20 : Nat) : Int) := mod_nat n 20 hn.1
  have hq2 : n.toNat % 20 < 20 := Nat.mod_lt _ (by omega)
  have hr : z.tmod 10 = ((z.toNat % 10 : Nat) : Int) := mod_nat z 10 hz.1
  have hr2 : z.toNat % 10 < 10 := Nat.mod_lt _ (by omega)
  generalize n.toNat % 20 = q at *
  generalize z.toNat % 10 = r at *
  have lo := mn_loop n z q hq hq2
  have n1 := encT_noid (mnK (55 + q))
  have n2 := encT_plain (mnK (55 + q))
  have e1 : (4091 : Int) + (r : Int) = ((4091 + r : Nat) : Int) := by omega
  have b1 : 4091 + r ≤ 5000 := by omega
  have fo := fofs
  unfold mnS at lo
  generalize 4091 + r = M at *
  obtain ⟨zz, z1, z2, z3⟩ : ∃ zz : List AV, zerosL [AV.int .u8 0] ((M : Int).toNat * 1) = zz ∧ zz.length = M ∧ ∀ x ∈ zz, x = AV.int .u8 0 := by
    refine ⟨_, rfl, ?_, fun x hx => ?_⟩
    · unfold zerosL; rw [List.length_map, List.length_range, Int.toNat_natCast, Nat.mul_one]
    · unfold zerosL at hx
      obtain ⟨i, _, rfl⟩ := List.mem_map.1 hx
      have : i % 1 = 0 := Nat.mod_one i
      simp [this]
  have z4 : ∀ x ∈ zz, noid0 x = true ∧ x ≠ .junk := fun x hx => by rw [z3 x hx]; exact ⟨rfl, by simp⟩
  have z5 : zz.all isU8 = true := List.all_eq_true.2 fun x hx => by rw [z3 x hx]; rfl
  have z6 : List.take (M * 1) zz = zz := List.take_of_length_le (by omega)
  have z7 : 0 + (M : Int).toNat * 1 ≤ zz.length := by rw [z2, Int.toNat_natCast]; omega
  have z8 : ∀ x ∈ zz, noid0 x = true := fun x hx => (z4 x hx).1
  have hv : (strOfNums (zz.map numV)).size = M := by rw [strNums_size, List.length_map, z2]
  clear z3
  generalize hvv : strOfNums (zz.map numV) = v at *
  have U1 : (mnK (55 + q)).set 0 (mnB 0, v) = mnU (55 + q) v := rfl
  have g0 := encT_gk (mnK (55 + q)) 0 (by rw [mnK_len]; omega)
  have gge := encT_ge (mnK (55 + q))
  rw [mnK_len] at gge
  have fs := fld_set (mnK (55 + q)) 0 (by rw [mnK_len]; omega) v
  have hh : ((mnK (55 + q)).getD 0 tD).1 = mnB 0 := by
    unfold mnK
    rw [show 55 + q = (54 + q) + 1 by omega, List.range_succ_eq_map]
    rfl
  rw [hh, U1] at fs
  have fs : (flatA encT (mnK (55 + q))).take (0 + Int.toNat 0 * 2 + 1) ++ [AV.str v] ++ (flatA encT (mnK (55 + q))).drop (0 + Int.toNat 0 * 2 + 1 + 1) = flatA encT (mnU (55 + q) v) := fs
  have f0 : 0 + Int.toNat 0 * 2 + 1 + 1 ≤ (flatA encT (mnK (55 + q))).length := by
    have : Int.toNat 0 = 0 := rfl
    rw [this]; omega
  have ul := mnU_len (55 + q) v
  have uok := mnU_ok (55 + q) v (by omega) (by omega)
  have same := mnU_same (55 + q) v (by omega) (by omega)
  have ck := check_v (mnU (55 + q) v) (by omega) uok
  have bok := fun h => build_ok (mnU (55 + q) v) (by omega) uok h
  have bne := fun h => build_ne (mnU (55 + q) v) (by omega) uok h
  have rok := fun h => buildR_ok (mnU (55 + q) v) (by omega) uok h
  have rne := fun h => buildR_ne (mnU (55 + q) v) (by omega) uok h
  rw [same] at ck
  have m1 := encT_noid (mnU (55 + q) v)
  have m2 := encT_plain (mnU (55 + q) v)
  have m3 := encT_lend (mnU (55 + q) v)
  have mge := encT_ge (mnU (55 + q) v)
  have mtk := flatA_all_take encT_l (mnU (55 + q) v)
  unfold treeV filesV at ck
  unfold filesV at bok bne rok rne
  rw [ul] at mge mtk ck bok bne rok rne
  have sl := sortR_len' (mnU (55 + q) v)
  rw [ul] at sl
  rw [sl] at bok rok
  clear hh U1 same uok
  generalize mnU (55 + q) v = U at *
  generalize mnK (55 + q) = o at *
  have hN : 55 + q ≤ 80 := by omega
  have hN0 : 0 < 55 + q := by omega
  generalize 55 + q = N at *
  by_cases hb : bdF U = 0
  · have k1 := bok hb
    have k2 := rok hb
    have sm := sameR (sortR U) (by omega)
    have w1 := encT_noid (sortR U)
    have w2 := encT_plain (sortR U)
    have w3 := encT_lend (sortR U)
    have wge := encT_ge (sortR U)
    have wtk := flatA_all_take encT_l (sortR U)
    have wnv := encT_nov (sortR U) 31 (AV.tuple [AV.agg [AV.sl 0 0 N 2], AV.int .i64 (0 : Int)]) rfl
    unfold treeV filesV at sm
    rw [sl] at wge wtk sm
    rw [hb] at ck
    clear bok bne rok rne hb sl
    generalize sortR U = W at *
    have e1' := lo
    have e2' := (congrArg (fun z => AV.int .u8 z) hr)
    have e3' := (congrArg (fun z => AV.int .i64 z) (wrap_i64 (e := (↑r : Int)) (by omega) (by omega)))
    have e4' := (Eq.trans (congrArg (fun z => AV.int .i64 (IntKind.i64.wrap z)) e1) (congrArg (fun z => AV.int .i64 z) (wrap_i64 (e := (↑M : Int)) (by omega) (by omega))))
    have e5' := (congrArg (fun z => AV.sl 1 0 z 1) (Int.toNat_natCast (M)))
    have e6' := (congrArg (fun z => Blk.row 5 z) z1)
    have e7' := (congrArg (fun z => AV.slv M 1 z) z6)
    have e8' := (congrArg (fun z => AV.str z) hvv)
    have e9' := (congrArg (fun z => Blk.row 31 z) fs)
    have e10' := (show Reads [Blk.row 31 (flatA encT U), Blk.dead] [AV.sl 0 0 N 2] [AV.slv N 2 (flatA encT U)] from (Reads.cons (Reads1.sl (t := 31) (xs := flatA encT U) (by kernel_rfl) (show ∀ (x : AV), x ∈ flatA encT U → noid0 x = true ∧ x ≠ AV.junk from m3) (show 0 + N * 2 ≤ (flatA encT U).length from (by omega)) mtk) Reads.nil))
    have e11' := k1
    have e12' := (show Reads [Blk.row 31 (flatA encT U), Blk.dead, Blk.row 31 (flatA encT W), Blk.row 24 [AV.sl 2 0 N 2]] [AV.sl 0 0 N 2] [AV.slv N 2 (flatA encT U)] from (Reads.cons (Reads1.sl (t := 31) (xs := flatA encT U) (by kernel_rfl) (show ∀ (x : AV), x ∈ flatA encT U → noid0 x = true ∧ x ≠ AV.junk from m3) (show 0 + N * 2 ≤ (flatA encT U).length from (by omega)) mtk) Reads.nil))
    have e13' := k2
    have e14' := aw
    have e15' := (show Reads [Blk.row 31 (flatA encT U), Blk.dead, Blk.row 31 (flatA encT W), Blk.row 24 [AV.sl 2 0 N 2], Blk.row 31 (flatA encT W), Blk.row 24 [AV.sl 4 0 N 2]] [AV.agg [AV.sl 2 0 N 2], AV.agg [AV.sl 4 0 N 2]] [AV.agg [AV.slv N 2 (flatA encT W)], AV.agg [AV.slv N 2 (flatA encT W)]] from (Reads.cons (Reads1.agg (ReadsC.cons (Reads0.sl (t := 31) (xs := flatA encT W) (by kernel_rfl) (show ∀ (x : AV), x ∈ flatA encT W → noid0 x = true ∧ x ≠ AV.junk from w3) (show 0 + N * 2 ≤ (flatA encT W).length from (by omega)) wtk) ReadsC.nil)) (Reads.cons (Reads1.agg (ReadsC.cons (Reads0.sl (t := 31) (xs := flatA encT W) (by kernel_rfl) (show ∀ (x : AV), x ∈ flatA encT W → noid0 x = true ∧ x ≠ AV.junk from w3) (show 0 + N * 2 ≤ (flatA encT W).length from (by omega)) wtk) ReadsC.nil)) Reads.nil)))
    have e16' := sm
    have e17' := (show Reads [Blk.row 31 (flatA encT U), Blk.dead, Blk.row 31 (flatA encT W), Blk.row 24 [AV.sl 2 0 N 2], Blk.row 31 (flatA encT W), Blk.row 24 [AV.sl 4 0 N 2]] [AV.agg [AV.sl 0 0 N 2]] [AV.agg [AV.slv N 2 (flatA encT U)]] from (Reads.cons (Reads1.agg (ReadsC.cons (Reads0.sl (t := 31) (xs := flatA encT U) (by kernel_rfl) (show ∀ (x : AV), x ∈ flatA encT U → noid0 x = true ∧ x ≠ AV.junk from m3) (show 0 + N * 2 ≤ (flatA encT U).length from (by omega)) mtk) ReadsC.nil)) Reads.nil))
    have e18' := ck
    refine g_q [⟨3, [.sel [0, 1, 5, 6], .own 5 31 2], .loop (exOf e1') (endOf e1')⟩, ⟨6, [], .as (rhsOf e2')⟩, ⟨7, [], .as (rhsOf e3')⟩, ⟨8, [], .as (rhsOf e4')⟩, ⟨9, [], .as (rhsOf e5')⟩, ⟨10, [.hp 1 (rhsOf e6'), .frz 39, .tm 39 (rhsOf e7')], .as (rhsOf e8')⟩, ⟨14, [.hp 0 (rhsOf e9')], .no⟩, ⟨15, [], .lend (rdOf e10') (avOf e11') (blOf e11') [true]⟩, ⟨23, [], .lend (rdOf e12') (avOf e13') (blOf e13') [true]⟩, ⟨30, [], .call (avOf e14') (blOf e14') []⟩, ⟨39, [], .lend (rdOf e15') (avOf e16') (blOf e16') []⟩, ⟨44, [], .lend (rdOf e17') (avOf e18') (blOf e18') []⟩] [.sel [4]] Exit.ret (stOf 71 [(4, AV.bool true)] [Blk.row 31 (flatA encT U), Blk.dead, Blk.row 31 (flatA encT W), Blk.row 24 [AV.sl 2 0 N 2], Blk.row 31 (flatA encT W), Blk.row 24 [AV.sl 4 0 N 2]]) (And.intro e1' (And.intro (show (10 : Int) ≠ (0 : Int) from (by omega)) (And.intro e2' (And.intro e3' (And.intro e4' (And.intro (show (0 : Int) ≤ (↑M : Int) ∧ (↑M : Int) ≤ (↑M : Int) from (by omega)) (And.intro (show (↑1 : Int) * (↑M : Int) ≤ (281474976710656 : Int) ∧ (↑M : Int) ≤ (9223372036854775807 : Int) from (by omega)) (And.intro e5' (And.intro (congrArg some e6') (And.intro (show ∀ (x : AV), x ∈ zz → noid0 x = true ∧ x ≠ AV.junk from z4) (And.intro (show 0 + M * 1 ≤ zz.length from (by omega)) (And.intro e7' (And.intro (show zz.all isU8 = true from (by omega)) (And.intro e8' (And.intro (show (0 : Int) ≤ (0 : Int) ∧ (0 : Int) < (↑N : Int) from (by omega)) (And.intro (show 2 ≤ (flatA encT o).length from (by omega)) (And.intro (congrArg some e9') (And.intro (show ∀ (x : AV), x ∈ flatA encT W → plain0 x = true from w2) (And.intro e10' (And.intro (show (novR (AV.tuple [AV.agg [AV.sl 0 0 N 2], AV.int .i64 (0 : Int)]) && [Blk.row 31 (flatA encT W)].all novB) = true from (by omega)) (And.intro e11' (And.intro (show 1 ≤ 1 from (by omega)) (And.intro (show ∀ (x : AV), x ∈ flatA encT W → plain0 x = true from w2) (And.intro e12' (And.intro (show (novR (AV.tuple [AV.agg [AV.sl 0 0 N 2], AV.int .i64 (0 : Int)]) && [Blk.row 31 (flatA encT W)].all novB) = true from (by omega)) (And.intro e13' (And.intro (show 1 ≤ 1 from (by omega)) (And.intro e14' (And.intro (show 1 ≤ 1 from (by omega)) (And.intro (show 1 ≤ 1 from (by omega)) (And.intro e15' (And.intro (show (novR (AV.bool true) && [].all novB) = true from (by kernel_rfl)) (And.intro e16' (And.intro e17' (And.intro (show (novR (AV.int .i64 (0 : Int)) && [].all novB) = true from (by kernel_rfl)) e18'))))))))))))))))))))))))))))))))))) ?_
    refine g_f [] [] (AV.bool true) ([]) trivial ?_
    exact ⟨by simp, rfl⟩
  · have k1 := bne hb
    have k2 := rne hb
    have sm := callsV_nil2 (callsV_nil (sameR [] (by simp)))
    clear bok bne rok rne sl
    generalize bdF U = e at *
    have e1' := lo
    have e2' := (congrArg (fun z => AV.int .u8 z) hr)
    have e3' := (congrArg (fun z => AV.int .i64 z) (wrap_i64 (e := (↑r : Int)) (by omega) (by omega)))
    have e4' := (Eq.trans (congrArg (fun z => AV.int .i64 (IntKind.i64.wrap z)) e1) (congrArg (fun z => AV.int .i64 z) (wrap_i64 (e := (↑M : Int)) (by omega) (by omega))))
    have e5' := (congrArg (fun z => AV.sl 1 0 z 1) (Int.toNat_natCast (M)))
    have e6' := (congrArg (fun z => Blk.row 5 z) z1)
    have e7' := (congrArg (fun z => AV.slv M 1 z) z6)
    have e8' := (congrArg (fun z => AV.str z) hvv)
    have e9' := (congrArg (fun z => Blk.row 31 z) fs)
    have e10' := (show Reads [Blk.row 31 (flatA encT U), Blk.dead] [AV.sl 0 0 N 2] [AV.slv N 2 (flatA encT U)] from (Reads.cons (Reads1.sl (t := 31) (xs := flatA encT U) (by kernel_rfl) (show ∀ (x : AV), x ∈ flatA encT U → noid0 x = true ∧ x ≠ AV.junk from m3) (show 0 + N * 2 ≤ (flatA encT U).length from (by omega)) mtk) Reads.nil))
    have e11' := k1
    have e12' := (show Reads [Blk.row 31 (flatA encT U), Blk.dead, Blk.row 24 [AV.nilsl]] [AV.sl 0 0 N 2] [AV.slv N 2 (flatA encT U)] from (Reads.cons (Reads1.sl (t := 31) (xs := flatA encT U) (by kernel_rfl) (show ∀ (x : AV), x ∈ flatA encT U → noid0 x = true ∧ x ≠ AV.junk from m3) (show 0 + N * 2 ≤ (flatA encT U).length from (by omega)) mtk) Reads.nil))
    have e13' := k2
    have e14' := aw
    have e15' := sm
    have e16' := (show Reads [Blk.row 31 (flatA encT U), Blk.dead, Blk.row 24 [AV.nilsl], Blk.row 24 [AV.nilsl]] [AV.agg [AV.sl 0 0 N 2]] [AV.agg [AV.slv N 2 (flatA encT U)]] from (Reads.cons (Reads1.agg (ReadsC.cons (Reads0.sl (t := 31) (xs := flatA encT U) (by kernel_rfl) (show ∀ (x : AV), x ∈ flatA encT U → noid0 x = true ∧ x ≠ AV.junk from m3) (show 0 + N * 2 ≤ (flatA encT U).length from (by omega)) mtk) ReadsC.nil)) Reads.nil))
    have e17' := ck
    refine g_q [⟨3, [.sel [0, 1, 5, 6], .own 5 31 2], .loop (exOf e1') (endOf e1')⟩, ⟨6, [], .as (rhsOf e2')⟩, ⟨7, [], .as (rhsOf e3')⟩, ⟨8, [], .as (rhsOf e4')⟩, ⟨9, [], .as (rhsOf e5')⟩, ⟨10, [.hp 1 (rhsOf e6'), .frz 39, .tm 39 (rhsOf e7')], .as (rhsOf e8')⟩, ⟨14, [.hp 0 (rhsOf e9')], .no⟩, ⟨15, [], .lend (rdOf e10') (avOf e11') (blOf e11') []⟩, ⟨23, [], .lend (rdOf e12') (avOf e13') (blOf e13') []⟩, ⟨30, [], .call (avOf e14') (blOf e14') []⟩, ⟨37, [.tm 59 (.bool true)], .no⟩, ⟨39, [], .call (avOf e15') (blOf e15') []⟩, ⟨44, [], .lend (rdOf e16') (avOf e17') (blOf e17') []⟩] [.sel [4]] Exit.ret (stOf 71 [(4, AV.bool (bif true then e == e else false))] [Blk.row 31 (flatA encT U), Blk.dead, Blk.row 24 [AV.nilsl], Blk.row 24 [AV.nilsl]]) (And.intro e1' (And.intro (show (10 : Int) ≠ (0 : Int) from (by omega)) (And.intro e2' (And.intro e3' (And.intro e4' (And.intro (show (0 : Int) ≤ (↑M : Int) ∧ (↑M : Int) ≤ (↑M : Int) from (by omega)) (And.intro (show (↑1 : Int) * (↑M : Int) ≤ (281474976710656 : Int) ∧ (↑M : Int) ≤ (9223372036854775807 : Int) from (by omega)) (And.intro e5' (And.intro (congrArg some e6') (And.intro (show ∀ (x : AV), x ∈ zz → noid0 x = true ∧ x ≠ AV.junk from z4) (And.intro (show 0 + M * 1 ≤ zz.length from (by omega)) (And.intro e7' (And.intro (show zz.all isU8 = true from (by omega)) (And.intro e8' (And.intro (show (0 : Int) ≤ (0 : Int) ∧ (0 : Int) < (↑N : Int) from (by omega)) (And.intro (show 2 ≤ (flatA encT o).length from (by omega)) (And.intro (congrArg some e9') (And.intro e10' (And.intro (show (novR (AV.tuple [AV.agg [AV.nilsl], AV.int .i64 e]) && [].all novB) = true from (by kernel_rfl)) (And.intro e11' (And.intro (show 1 ≤ 1 from (by omega)) (And.intro e12' (And.intro (show (novR (AV.tuple [AV.agg [AV.nilsl], AV.int .i64 e]) && [].all novB) = true from (by kernel_rfl)) (And.intro e13' (And.intro (show 1 ≤ 1 from (by omega)) (And.intro e14' (And.intro (congrArg AV.bool (show (bif true then e == e else false) = true from (by simp_all; done))) (And.intro (show 1 ≤ 1 from (by omega)) (And.intro (show 1 ≤ 1 from (by omega)) (And.intro e15' (And.intro e16' (And.intro (show (novR (AV.int .i64 e) && [].all novB) = true from (by kernel_rfl)) e17')))))))))))))))))))))))))))))))) ?_
    refine g_f [] [] (AV.bool (bif true then e == e else false)) ([]) trivial ?_
    exact ⟨by simp, rfl⟩
end Go.Proofs.YtjgpojglgfddiaaDoor
