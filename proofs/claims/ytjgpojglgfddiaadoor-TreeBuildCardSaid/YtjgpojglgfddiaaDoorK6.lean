/-
  What the law leans on.
-/
import Derived.Test.YtjgpojglgfddiaaDoorK5
namespace Go.Proofs.YtjgpojglgfddiaaDoor
open Go Go.RowKit V
set_option linter.unusedSimpArgs false
set_option linter.unusedVariables false
set_option maxHeartbeats 20000000
/-- what stands for an own row as a value -/
def RdV (H : List Blk) (x y : AV) : Prop := ∀ (p p1 : Pl) (w : World) (v : Value), RH p H w → Lends (fun _ => true) p p1 → Rep p w v x → Rep p1 w v y
theorem callsV_val {P : Program} {f : FuncId} {args : List AV} {x y : AV} {H : List Blk} (h : CallsV P f args [] fun a b => a = x ∧ b = H) (hr : RdV H x y) : CallsV P f args [] fun a b => a = y ∧ b = [] := fun p w vals hH hv =>
  (h p w vals hH hv).mono fun e w' ⟨v, av, H', p', h1, ⟨h2, h2'⟩, h3, h4, h5⟩ => by
    subst h2 h2'
    have hn : p.n = 0 := hH.n
    obtain ⟨k1, k2, _⟩ := keep_ok (keep := []) (H' := []) h5 h3 (by rw [hn]; exact keep_nil _)
    exact ⟨v, _, [], p'.keep [], h1, ⟨rfl, rfl⟩, k1, hr _ _ _ _ h3 (lends0 h3 (fun _ => true)) h4, k2⟩
theorem rd_sl {t : TypeId} {xs : List AV} {len sz : Nat} (hn : ∀ x ∈ xs, noid0 x = true ∧ x ≠ .junk) (hl : len * sz = xs.length) : RdV [.row t xs] (.sl 0 0 len sz) (.slv len sz xs) := fun p p1 w v hH hL h => by
  have := reads_sl (st := 0) (p1 := p1) rfl hn (by omega) hH hL h
  rwa [List.drop_zero, hl, List.take_length] at this
theorem rd_agg {t : TypeId} {xs : List AV} {len sz : Nat} (hn : ∀ x ∈ xs, noid0 x = true ∧ x ≠ .junk) (hl : len * sz = xs.length) : RdV [.row t xs] (.agg [.sl 0 0 len sz]) (.agg [.slv len sz xs]) := fun p p1 w v hH hL h => by
  obtain ⟨vs, e1, e2, e3⟩ := h
  refine ⟨vs, e1, e2, fun i i1 i2 => ?_⟩
  simp only [List.length_cons, List.length_nil] at i2
  obtain rfl : i = 0 := by omega
  have h0 := e3 0 i1 (by simp)
  exact ⟨h0.1, (rd_sl (t := t) hn hl p p1 w _ hH hL h0.2 : Rep p1 w _ (.slv len sz xs))⟩
theorem rd_tup {H : List Blk} {cs ds : List AV} {y : AV} (hy : (∃ n, y = .int .i64 n) ∨ ∃ b, y = .bool b) (h : RdV H (.agg cs) (.agg ds)) : RdV H (.tuple [.agg cs, y]) (.tuple [.agg ds, y]) := fun p p1 w v hH hL hv => by
  obtain ⟨vs, e1, e2, e3⟩ := hv
  refine ⟨vs, e1, e2, fun i i1 i2 => ?_⟩
  simp only [List.length_cons, List.length_nil] at i2
  rcases i with _ | _ | i
  · have h0 : Rep p w vs.toList[0] (.agg cs) := e3 0 i1 (by simp)
    exact h p p1 w _ hH hL h0
  · rcases hy with ⟨n, rfl⟩ | ⟨b, rfl⟩
    · have h0 : RepF p.M w vs.toList[1] (.int .i64 n) := e3 1 i1 (by simp)
      have h2 : ∃ z, vs.toList[1] = z ∧ RepF p.M w z (.int .i64 n) := ⟨_, rfl, h0⟩
      obtain ⟨z, hz, hz2⟩ := h2
      show Rep1 p1 w vs.toList[1] (.int .i64 n)
      rw [hz]
      cases hz2
      exact RepF.int _ _
    · have h0 : RepF p.M w vs.toList[1] (.bool b) := e3 1 i1 (by simp)
      have h2 : ∃ z, vs.toList[1] = z ∧ RepF p.M w z (.bool b) := ⟨_, rfl, h0⟩
      obtain ⟨z, hz, hz2⟩ := h2
      show Rep1 p1 w vs.toList[1] (.bool b)
      rw [hz]
      cases hz2
      exact RepF.bool b
  · omega
theorem rd_nil : RdV [] (.agg [.nilsl]) (treeV []) := fun p p1 w v hH hL h => by
  obtain ⟨vs, e1, e2, e3⟩ := h
  refine ⟨vs, e1, e2, fun i i1 i2 => ?_⟩
  simp only [List.length_cons, List.length_nil] at i2
  obtain rfl : i = 0 := by omega
  have h0 := e3 0 i1 (by simp)
  refine ⟨h0.1, ?_⟩
  have h1 : RepF p.M w vs.toList[0] .nilsl := h0.2
  have h2 : ∃ z, vs.toList[0] = z ∧ RepF p.M w z .nilsl := ⟨_, rfl, h1⟩
  obtain ⟨z, hz, hz2⟩ := h2
  show Rep0 p1 w vs.toList[0] (.slv 0 2 [])
  rw [hz]
  cases hz2
  exact nil_slv0 2 (by omega) p1 w _ (RepF.nilsl)
theorem rd_tree (l : List TE) : RdV [.row 31 (flatA encT l)] (.agg [.sl 0 0 l.length 2]) (treeV l) := rd_agg (encT_lend l) (encT_len l).symm
/-- a tree and an error -/
theorem val_err {f : FuncId} {args : List AV} {e : Int} {l : List TE} (h : CallsV Tryd.prog f args [] (fun av H' => (e = 0 ∧ av = .tuple [.agg [.sl 0 0 l.length 2], .int .i64 0] ∧ H' = [.row 31 (flatA encT l)]) ∨ (e ≠ 0 ∧ av = .tuple [.agg [.nilsl], .int .i64 e] ∧ H' = []))) : CallsV Tryd.prog f args [] (fun av H' => av = .tuple [treeV (if e = 0 then l else []), .int .i64 e] ∧ H' = []) := by
  by_cases he : e = 0
  · rw [if_pos he]
    subst he
    exact callsV_val (h.mono fun av H' q => by
      rcases q with ⟨_, q⟩ | ⟨q, _⟩
      · exact q
      · exact absurd rfl q) (rd_tup (.inl ⟨_, rfl⟩) (rd_tree l))
  · rw [if_neg he]
    exact callsV_val (h.mono fun av H' q => by
      rcases q with ⟨q, _⟩ | ⟨_, q⟩
      · exact absurd q he
      · exact q) (rd_tup (.inl ⟨_, rfl⟩) rd_nil)
def bdO' (l : List TE) : List TE := if bdF l = 0 then sortR l else []
def ovO (a b : List TE) : List TE := if ovF a b = 0 then sortR (ovK a b a.length) else []
theorem buildR_w (l : List TE) (hl : l.length ≤ 1000) (hok : ∀ x ∈ l, OkT x) : CallsV Tryd.prog 19 [filesV l] [] (fun av H' => av = .tuple [treeV (bdO' l), .int .i64 (bdF l)] ∧ H' = []) := val_err (buildR l hl hok)
theorem build_w (l : List TE) (hl : l.length ≤ 1000) (hok : ∀ x ∈ l, OkT x) : CallsV Tryd.prog 18 [filesV l] [] (fun av H' => av = .tuple [treeV (bdO' l), .int .i64 (bdF l)] ∧ H' = []) := val_err (build_v l hl hok)
theorem entries_w (l : List (Int × Int)) (hl : l.length ≤ 9223372036854775807) (hz : ∀ x ∈ l, (0 ≤ x.1 ∧ x.1 ≤ 255) ∧ 0 ≤ x.2 ∧ x.2 ≤ 255) : CallsV Tryd.prog 20 [.slv l.length 2 (flatA encB l)] [] (fun av H' => av = filesV (enK l (enN l)) ∧ H' = []) := callsV_val (entries_v l hl hz) (rd_sl (encT_lend _) (encT_len _).symm)
end Go.Proofs.YtjgpojglgfddiaaDoor
namespace Go.Proofs.YtjgpojglgfddiaaDoor
open Go Go.RowKit V
set_option linter.unusedSimpArgs false
set_option linter.unusedVariables false
set_option maxHeartbeats 20000000
def trN (T : List TE) (x : TE) : List TE := if ptF T x = 0 then sortR (ptL T x) else T
def trK (X : List TE) : Nat → List TE
  | 0 => []
  | k + 1 => trN (trK X k) (X.getD k tD)
/-- valid for itself: as a file that the laws use -/
theorem trK_fine (X : List TE) : ∀ k, ckF (trK X k) = 0
  | 0 => by rfl
  | k + 1 => by
    have ih := trK_fine X k
    show ckF (trN (trK X k) (X.getD k tD)) = 0
    unfold trN
    split
    · rename_i h
      unfold ptF at h
      rw [if_pos ih] at h
      obtain ⟨h1, h2⟩ := bd_fine h
      exact fine_ck (h1.perm (sortR_perm _).symm) (sortR_srt h1.dst) (by rw [clF_perm (sortR_perm _)]; exact h2)
    · exact ih
theorem enE_ok (x : Int × Int) : OkT (enE x) := by
  have h1 : ∀ b ∈ ptT, b.size ≤ 30000 := by decide
  have h2 : ∀ b ∈ txT, b.size ≤ 9223372036854775807 := by decide
  unfold enE
  refine ⟨h1 _ ?_, h2 _ ?_⟩
  · have hl : x.1.toNat % 12 < ptT.length := Nat.mod_lt _ (by omega)
    show ptT.getD (x.1.toNat % 12) bE ∈ ptT
    rw [List.getD_eq_getElem?_getD, List.getElem?_eq_getElem hl]; exact List.getElem_mem hl
  · have hl : x.2.toNat % 8 < txT.length := Nat.mod_lt _ (by omega)
    show txT.getD (x.2.toNat % 8) bE ∈ txT
    rw [List.getD_eq_getElem?_getD, List.getElem?_eq_getElem hl]; exact List.getElem_mem hl
theorem enK_ok (l : List (Int × Int)) (k : Nat) : ∀ x ∈ enK l k, OkT x := fun x hx => by
  unfold enK at hx
  obtain ⟨y, _, rfl⟩ := List.mem_map.1 hx
  exact enE_ok y
theorem enX_len (l : List (Int × Int)) : (enK l (enN l)).length ≤ 20 := by
  unfold enK enN
  rw [List.length_map, List.length_take]; omega
end Go.Proofs.YtjgpojglgfddiaaDoor
namespace Go.Proofs.YtjgpojglgfddiaaDoor
open Go Go.RowKit V
set_option linter.unusedSimpArgs false
set_option linter.unusedVariables false
set_option maxHeartbeats 20000000
def awA : List TE := [(.mk #[97, 47, 120], .mk #[]), (.mk #[98], .mk #[49])]
def awB : List TE := [(.mk #[98], .mk #[50]), (.mk #[99, 47, 121], .mk #[])]
def awC : List TE := [(.mk #[97], .mk #[]), (.mk #[97, 47, 98], .mk #[])]
def awO : List TE := [(.mk #[97, 47, 120], .mk #[]), (.mk #[98], .mk #[50]), (.mk #[99, 47, 121], .mk #[])]
theorem aw1 : ovF awA awB = 0 := by kernel_rfl
theorem aw3 : bdF awC = 10 := by kernel_rfl
theorem awok : (∀ x ∈ awA, OkT x) ∧ (∀ x ∈ awB, OkT x) ∧ ∀ x ∈ awC, OkT x := by
  refine ⟨?_, ?_, ?_⟩ <;> intro x hx <;> simp [awA, awB, awC] at hx <;> rcases hx with rfl | rfl <;> exact ⟨by decide, by decide⟩
theorem awake_v : CallsV Tryd.prog 12 [] [] (fun av H' => av = .bool true ∧ H' = []) := by
  refine callsG_at Tryd.func12 (by kernel_rfl) ?_
  have o1 : CallsV Tryd.prog 30 [.agg [.slv 2 2 [.str (.mk #[97, 47, 120]), .str (.mk #[]), .str (.mk #[98]), .str (.mk #[49])]], .agg [.slv 2 2 [.str (.mk #[98]), .str (.mk #[50]), .str (.mk #[99, 47, 121]), .str (.mk #[])]]] [] (fun av H' => av = .tuple [.agg [.sl 0 0 3 2], .int .i64 0] ∧ H' = [.row 31 [.str (.mk #[97, 47, 120]), .str (.mk #[]), .str (.mk #[98]), .str (.mk #[50]), .str (.mk #[99, 47, 121]), .str (.mk #[])]]) := by
    refine (over_v awA awB (by decide) (by decide) awok.1 awok.2.1).mono fun av H' q => ?_
    rcases q with ⟨_, q1, q2⟩ | ⟨q, _⟩
    · have e : sortR (ovK awA awB awA.length) = awO := by kernel_rfl
      rw [e] at q1 q2
      exact ⟨q1, q2⟩
    · exact absurd aw1 q
  have b1 : CallsV Tryd.prog 18 [.slv 2 2 [.str (.mk #[97]), .str (.mk #[]), .str (.mk #[97, 47, 98]), .str (.mk #[])]] [] (fun av H' => av = .tuple [.agg [.nilsl], .int .i64 10] ∧ H' = []) := by
    have h := build_ne awC (by decide) awok.2.2 (by rw [aw3]; decide)
    rw [aw3] at h
    exact h
  have e1' := (show Reads [Blk.row 31 [AV.str (ByteArray.mk #[(97 : UInt8), (47 : UInt8), (120 : UInt8)]), AV.str (ByteArray.mk #[]), AV.str (ByteArray.mk #[(98 : UInt8)]), AV.str (ByteArray.mk #[(49 : UInt8)])], Blk.row 24 [AV.sl 0 0 2 2], Blk.row 31 [AV.str (ByteArray.mk #[(98 : UInt8)]), AV.str (ByteArray.mk #[(50 : UInt8)]), AV.str (ByteArray.mk #[(99 : UInt8), (47 : UInt8), (121 : UInt8)]), AV.str (ByteArray.mk #[])], Blk.row 24 [AV.sl 2 0 2 2]] [AV.agg [AV.sl 0 0 2 2], AV.agg [AV.sl 2 0 2 2]] [AV.agg [AV.slv 2 2 [AV.str (ByteArray.mk #[(97 : UInt8), (47 : UInt8), (120 : UInt8)]), AV.str (ByteArray.mk #[]), AV.str (ByteArray.mk #[(98 : UInt8)]), AV.str (ByteArray.mk #[(49 : UInt8)])]], AV.agg [AV.slv 2 2 [AV.str (ByteArray.mk #[(98 : UInt8)]), AV.str (ByteArray.mk #[(50 : UInt8)]), AV.str (ByteArray.mk #[(99 : UInt8), (47 : UInt8), (121 : UInt8)]), AV.str (ByteArray.mk #[])]]] from (Reads.cons (Reads1.val (by kernel_rfl)) (Reads.cons (Reads1.val (by kernel_rfl)) Reads.nil)))
  have e2' := o1
  have e3' := (show Reads [Blk.row 31 [AV.str (ByteArray.mk #[(97 : UInt8), (47 : UInt8), (120 : UInt8)]), AV.str (ByteArray.mk #[]), AV.str (ByteArray.mk #[(98 : UInt8)]), AV.str (ByteArray.mk #[(49 : UInt8)])], Blk.row 24 [AV.sl 0 0 2 2], Blk.row 31 [AV.str (ByteArray.mk #[(98 : UInt8)]), AV.str (ByteArray.mk #[(50 : UInt8)]), AV.str (ByteArray.mk #[(99 : UInt8), (47 : UInt8), (121 : UInt8)]), AV.str (ByteArray.mk #[])], Blk.row 24 [AV.sl 2 0 2 2], Blk.row 31 [AV.str (ByteArray.mk #[(97 : UInt8), (47 : UInt8), (120 : UInt8)]), AV.str (ByteArray.mk #[]), AV.str (ByteArray.mk #[(98 : UInt8)]), AV.str (ByteArray.mk #[(50 : UInt8)]), AV.str (ByteArray.mk #[(99 : UInt8), (47 : UInt8), (121 : UInt8)]), AV.str (ByteArray.mk #[])], Blk.row 24 [AV.sl 4 0 3 2], Blk.row 31 [AV.str (ByteArray.mk #[(97 : UInt8)]), AV.str (ByteArray.mk #[]), AV.str (ByteArray.mk #[(97 : UInt8), (47 : UInt8), (98 : UInt8)]), AV.str (ByteArray.mk #[])]] [AV.sl 6 0 2 2] [AV.slv 2 2 [AV.str (ByteArray.mk #[(97 : UInt8)]), AV.str (ByteArray.mk #[]), AV.str (ByteArray.mk #[(97 : UInt8), (47 : UInt8), (98 : UInt8)]), AV.str (ByteArray.mk #[])]] from (Reads.cons (Reads1.val (by kernel_rfl)) Reads.nil))
  have e4' := b1
  refine g_q [⟨15, [], .lend (rdOf e1') (avOf e2') (blOf e2') [false]⟩, ⟨25, [], .lend (rdOf e3') (avOf e4') (blOf e4') []⟩] [.sel [0]] Exit.ret (stOf 48 [(0, AV.bool true)] [Blk.row 31 [AV.str (ByteArray.mk #[(97 : UInt8), (47 : UInt8), (120 : UInt8)]), AV.str (ByteArray.mk #[]), AV.str (ByteArray.mk #[(98 : UInt8)]), AV.str (ByteArray.mk #[(49 : UInt8)])], Blk.row 24 [AV.sl 0 0 2 2], Blk.row 31 [AV.str (ByteArray.mk #[(98 : UInt8)]), AV.str (ByteArray.mk #[(50 : UInt8)]), AV.str (ByteArray.mk #[(99 : UInt8), (47 : UInt8), (121 : UInt8)]), AV.str (ByteArray.mk #[])], Blk.row 24 [AV.sl 2 0 2 2], Blk.row 31 [AV.str (ByteArray.mk #[(97 : UInt8), (47 : UInt8), (120 : UInt8)]), AV.str (ByteArray.mk #[]), AV.str (ByteArray.mk #[(98 : UInt8)]), AV.str (ByteArray.mk #[(50 : UInt8)]), AV.str (ByteArray.mk #[(99 : UInt8), (47 : UInt8), (121 : UInt8)]), AV.str (ByteArray.mk #[])], Blk.row 24 [AV.sl 4 0 3 2], Blk.row 31 [AV.str (ByteArray.mk #[(97 : UInt8)]), AV.str (ByteArray.mk #[]), AV.str (ByteArray.mk #[(97 : UInt8), (47 : UInt8), (98 : UInt8)]), AV.str (ByteArray.mk #[])], Blk.row 24 [AV.nilsl]]) (And.intro (show 1 ≤ 1 from (by omega)) (And.intro (show 1 ≤ 1 from (by omega)) (And.intro (show 1 ≤ 1 from (by omega)) (And.intro (show 1 ≤ 1 from (by omega)) (And.intro e1' (And.intro (show (novR (AV.tuple [AV.agg [AV.sl 0 0 3 2], AV.int .i64 (0 : Int)]) && [Blk.row 31 [AV.str (ByteArray.mk #[(97 : UInt8), (47 : UInt8), (120 : UInt8)]), AV.str (ByteArray.mk #[]), AV.str (ByteArray.mk #[(98 : UInt8)]), AV.str (ByteArray.mk #[(50 : UInt8)]), AV.str (ByteArray.mk #[(99 : UInt8), (47 : UInt8), (121 : UInt8)]), AV.str (ByteArray.mk #[])]].all novB) = true from (by kernel_rfl)) (And.intro e2' (And.intro (show 1 ≤ 1 from (by omega)) (And.intro e3' (And.intro (show (novR (AV.tuple [AV.agg [AV.nilsl], AV.int .i64 (10 : Int)]) && [].all novB) = true from (by kernel_rfl)) (And.intro e4' (And.intro (show 1 ≤ 1 from (by omega)) (And.intro (show 1 ≤ 1 from (by omega)) (And.intro (show 1 ≤ 1 from (by omega)) (And.intro (show (0 : Int) ≤ (1 : Int) ∧ (1 : Int) < (↑3 : Int) from (by omega)) (show 1 ≤ 3 from (by omega))))))))))))))))) ?_
  refine g_f [] [] (AV.bool true) ([]) trivial ?_
  exact ⟨rfl, rfl⟩
end Go.Proofs.YtjgpojglgfddiaaDoor
namespace Go.Proofs.YtjgpojglgfddiaaDoor
open Go Go.RowKit V
set_option linter.unusedSimpArgs false
set_option linter.unusedVariables false
set_option maxHeartbeats 20000000
structure Stp (l : List (Int × Int)) : Prop where
  len : l.length ≤ 9223372036854775807
  each : ∀ x ∈ l, (0 ≤ x.1 ∧ x.1 ≤ 255) ∧ 0 ≤ x.2 ∧ x.2 ≤ 255
abbrev stpV (l : List (Int × Int)) : AV := .slv l.length 2 (flatA encB l)
end Go.Proofs.YtjgpojglgfddiaaDoor
namespace Go.Proofs.YtjgpojglgfddiaaDoor
open Go Go.RowKit V
set_option linter.unusedSimpArgs false
set_option linter.unusedVariables false
set_option maxHeartbeats 20000000
def encBV (z : Int × Int) : List Value := [.int .u8 z.1, .int .u8 z.2]
theorem pairB : PairE encBV encB := fun _ => rfl
theorem encBV_ok : Enc encBV 2 := ⟨fun _ => rfl, fun x u hu => by simp [encBV] at hu; rcases hu with rfl | rfl <;> rfl, by omega⟩
set_option maxRecDepth 20000 in
theorem arg_steps {w : World} {v : Value} (h : Arg Tryd.prog w 25 v) : ∃ l : List (Int × Int), Rep pl0 w v (stpV l) ∧ Stp l := by
  obtain ⟨a, len, cap, rfl, h1, h2, h3, vs, h4, h5, h6⟩ := Arg.slice Tryd.underlying25 (ts := [5, 5]) (by kernel_rfl) (by kernel_rfl) (by decide) h
  have h4' : vs.length = len * 2 := h4
  obtain ⟨l, g1, rfl, g3⟩ := rows_of (enc := encBV) (size := 2) (fun z => (0 ≤ z.1 ∧ z.1 ≤ 255) ∧ (0 ≤ z.2 ∧ z.2 ≤ 255)) len vs h4' (fun i hi => by
    have a0 := h6 i hi 0 (by simp) (by simp only [List.length_cons, List.length_nil]; omega)
    have a1 := h6 i hi 1 (by simp) (by simp only [List.length_cons, List.length_nil]; omega)
    unfold Good at a0 a1
    simp only [List.getElem_cons_zero, List.getElem_cons_succ, Tryd.underlying5] at a0 a1
    obtain ⟨y, e0, hy⟩ := a0
    obtain ⟨z, e1, hz⟩ := a1
    refine ⟨(y, z), ?_, wf_u8 hy, wf_u8 hz⟩
    simp only [List.length_cons, List.length_nil, Nat.zero_add] at e0 e1
    rw [List.drop_eq_getElem_cons (by omega), List.drop_eq_getElem_cons (by omega), List.take_succ_cons, List.take_succ_cons, List.take_zero]
    exact congr (congrArg _ e0) (congrArg (fun x => [x]) e1))
  refine ⟨l, ?_, by unfold maxLen at h2; omega, g3⟩
  have := rep_of_rowV (p := pl0) pairB encBV_ok g1 h1 h3 h5 h2 (fun x _ => pl0_M _)
  rw [← g1] at this ⊢
  exact this
end Go.Proofs.YtjgpojglgfddiaaDoor
namespace Go.Proofs.YtjgpojglgfddiaaDoor
open Go Go.RowKit V
set_option linter.unusedSimpArgs false
set_option linter.unusedVariables false
set_option maxHeartbeats 20000000
theorem gtF_iff (l : List TE) (p : ByteArray) : (gtF l p).2 = true ↔ ∃ y ∈ l, y.1 = p := by
  rw [← gt_iff]
  unfold gtF
  split
  · rename_i h; exact ⟨fun _ => h, fun _ => rfl⟩
  · rename_i h; exact ⟨fun q => (by cases q), fun q => absurd q h⟩
theorem ovK_end (a b : List TE) : ovK a b a.length = b ++ a.filter fun x => !(gtF b x.1).2 := by
  unfold ovK; rw [List.take_length]
theorem bd_perm {l m : List TE} (hp : l.Perm m) (hd : Dst l) (hc : ∀ x ∈ l, cfF x = 0) : bdF l = bdF m ∧ sortR l = sortR m := by
  have hs : sortR l = sortR m := sort_eq (dst_perm hd hp) (sortR_srt hd) ((sortR_perm l).trans hp)
  refine ⟨?_, hs⟩
  by_cases h64 : 64 < l.length
  · unfold bdF
    rw [if_pos h64, if_pos (by rw [← hp.length_eq]; exact h64)]
  · have hf : Fine l := ⟨by omega, hc, hd⟩
    rw [fine_bd hf, fine_bd (hf.perm hp), clF_perm hp]
theorem ovK_dst {a b : List TE} (ha : Dst a) (hb : Dst b) : Dst (ovK a b a.length) := by
  rw [ovK_end]
  refine List.pairwise_append.2 ⟨hb, List.Pairwise.sublist List.filter_sublist ha, fun x hx y hy e => ?_⟩
  obtain ⟨_, h2⟩ := List.mem_filter.1 hy
  rw [Bool.not_eq_true', ← Bool.not_eq_true, gtF_iff] at h2
  exact h2 ⟨x, hx, e⟩
theorem ovK_each {a b : List TE} (ha : ∀ x ∈ a, cfF x = 0) (hb : ∀ x ∈ b, cfF x = 0) : ∀ x ∈ ovK a b a.length, cfF x = 0 := fun x hx => by
  rw [ovK_end] at hx
  rcases List.mem_append.1 hx with h | h
  · exact hb x h
  · exact ha x (List.mem_filter.1 h).1
theorem ov_ok {a b : List TE} (ha : ckF a = 0) (hb : ckF b = 0) (h : ovF a b = 0) : ovO a b = sortR (ovK a b a.length) ∧ ckF (ovO a b) = 0 := by
  have e : ovO a b = sortR (ovK a b a.length) := by unfold ovO; rw [if_pos h]
  refine ⟨e, ?_⟩
  rw [e]
  unfold ovF at h
  rw [if_pos ha, if_pos hb] at h
  obtain ⟨h1, h2⟩ := bd_fine h
  exact fine_ck (h1.perm (sortR_perm _).symm) (sortR_srt h1.dst) (by rw [clF_perm (sortR_perm _)]; exact h2)
/-- one over the other, over the third -/
theorem ov_assoc {a b c : List TE} (ha : ckF a = 0) (hb : ckF b = 0) (hc : ckF c = 0) (h1 : ovF a b = 0) (h2 : ovF b c = 0) : ovF (ovO a b) c = ovF a (ovO b c) ∧ ovO (ovO a b) c = ovO a (ovO b c) := by
  obtain ⟨e1, k1⟩ := ov_ok ha hb h1
  obtain ⟨e2, k2⟩ := ov_ok hb hc h2
  have fa := ck_fine ha
  have fb := ck_fine hb
  have fc := ck_fine hc
  have f1 := ck_fine k1
  have f2 := ck_fine k2
  have p1 : (ovO a b).Perm (b ++ a.filter fun x => !(gtF b x.1).2) := by rw [e1, ovK_end]; exact sortR_perm _
  have p2 : (ovO b c).Perm (c ++ b.filter fun x => !(gtF c x.1).2) := by rw [e2, ovK_end]; exact sortR_perm _
  have hbc : ∀ x : TE, (!(gtF (ovO b c) x.1).2) = ((!(gtF b x.1).2) && (!(gtF c x.1).2)) := fun x => by
    have hi : (gtF (ovO b c) x.1).2 = true ↔ ((gtF b x.1).2 = true ∨ (gtF c x.1).2 = true) := by
      rw [gtF_iff, gtF_iff, gtF_iff]
      constructor
      · rintro ⟨y, hy, e⟩
        rcases List.mem_append.1 (p2.mem_iff.1 hy) with h | h
        · exact .inr ⟨y, h, e⟩
        · exact .inl ⟨y, (List.mem_filter.1 h).1, e⟩
      · rintro (⟨y, hy, e⟩ | ⟨y, hy, e⟩)
        · by_cases hq : (gtF c y.1).2 = true
          · obtain ⟨z, hz, ez⟩ := (gtF_iff _ _).1 hq
            exact ⟨z, p2.mem_iff.2 (List.mem_append_left _ hz), ez.trans e⟩
          · exact ⟨y, p2.mem_iff.2 (List.mem_append_right _ (List.mem_filter.2 ⟨hy, by rw [Bool.not_eq_true', ← Bool.not_eq_true]; exact hq⟩)), e⟩
        · exact ⟨y, p2.mem_iff.2 (List.mem_append_left _ hy), e⟩
    cases g0 : (gtF (ovO b c) x.1).2 <;> cases g1 : (gtF b x.1).2 <;> cases g2 : (gtF c x.1).2 <;> rw [g0, g1, g2] at hi <;> simp at hi ⊢
  have hp : (ovK (ovO a b) c (ovO a b).length).Perm (ovK a (ovO b c) a.length) := by
    rw [ovK_end, ovK_end]
    refine (List.Perm.append_left c (p1.filter _)).trans ?_
    rw [List.filter_append, List.filter_filter]
    refine List.Perm.trans ?_ (List.Perm.append_right _ p2.symm)
    rw [List.append_assoc]
    refine List.Perm.append_left c (List.Perm.append_left _ ?_)
    rw [List.filter_congr (q := fun x => !(gtF (ovO b c) x.1).2) fun x _ => by rw [hbc x, Bool.and_comm]]
  have hd := ovK_dst f1.1.dst fc.1.dst
  have he := ovK_each f1.1.each fc.1.each
  obtain ⟨b1, b2⟩ := bd_perm hp hd he
  have eF : ovF (ovO a b) c = ovF a (ovO b c) := by
    unfold ovF
    rw [if_pos k1, if_pos hc, if_pos ha, if_pos k2, b1]
  refine ⟨eF, ?_⟩
  unfold ovO at b2 ⊢
  unfold ovO at eF
  rw [eF, b2]
end Go.Proofs.YtjgpojglgfddiaaDoor
namespace Go.Proofs.YtjgpojglgfddiaaDoor
open Go Go.RowKit V
set_option linter.unusedSimpArgs false
set_option linter.unusedVariables false
set_option maxHeartbeats 20000000
structure Raw (l : List TE) : Prop where
  len : l.length ≤ 9223372036854775807
  each : ∀ x ∈ l, x.1.size ≤ reachBytes ∧ x.2.size ≤ reachBytes
set_option maxRecDepth 20000 in
theorem raw_files {n : Nat} {x : AV} (h : ShB Tryd.prog reachBytes (n + 2) 22 x) : ∃ l : List TE, x = filesV l ∧ Raw l := by
  obtain ⟨l, h1, h2, _, h3⟩ := shB_slice (n := n + 1) (ts := [9, 9]) encT (fun x => x.1.size ≤ reachBytes ∧ x.2.size ≤ reachBytes) Tryd.underlying22 (by kernel_rfl) (fun c hc hs => by
    match c, hc with
    | [c0, c1], _ =>
      obtain ⟨s, f0, g0⟩ := shB_str Tryd.underlying9 (hs 0 (by simp))
      obtain ⟨t, f1, g1⟩ := shB_str Tryd.underlying9 (hs 1 (by simp))
      simp only [List.getD_cons_zero, List.getD_cons_succ] at f0 f1
      exact ⟨(s, t), by rw [f0, f1]; rfl, g0, g1⟩) h
  exact ⟨l, h1, h2, h3⟩
set_option maxRecDepth 20000 in
theorem arg_files {w : World} {v : Value} (h : ArgB Tryd.prog reachBytes w 22 v) : ∃ l : List TE, Rep pl0 w v (filesV l) ∧ Raw l := by
  obtain ⟨x, h1, h2⟩ := argB_rep h (by kernel_rfl)
  obtain ⟨l, e0, g⟩ := raw_files (n := 6) h2
  rw [e0] at h1
  exact ⟨l, h1, g⟩
theorem fw_sum (l : List TE) (hr : ∀ x ∈ l, x.1.size ≤ reachBytes ∧ x.2.size ≤ reachBytes) : ∀ k, k ≤ l.length → k ≤ 12 → ∃ n : Nat, fwK l k = (n : Int) ∧ n ≤ k * 281474976710656 ∧ ∀ i, i < k → (l.getD i tD).1.size ≤ n ∧ (l.getD i tD).2.size ≤ n
  | 0, _, _ => ⟨0, rfl, Nat.zero_le _, fun i h => absurd h (Nat.not_lt_zero i)⟩
  | k + 1, h, h12 => by
    obtain ⟨n, e, h1, h2⟩ := fw_sum l hr k (by omega) (by omega)
    obtain ⟨r1, r2⟩ := hr _ (getD_mem (show k < l.length by omega))
    have hb : reachBytes = 140737488351232 := rfl
    rw [hb] at r1 r2
    refine ⟨n + ((l.getD k tD).1.size + (l.getD k tD).2.size), ?_, by omega, fun i hi => ?_⟩
    · show IntKind.i64.wrap (fwK l k + IntKind.i64.wrap (((l.getD k tD).1.size : Int) + ((l.getD k tD).2.size : Int))) = _
      rw [wrap_i64 (e := ((l.getD k tD).1.size : Int) + ((l.getD k tD).2.size : Int)) (by omega) (by omega), e, wrap_i64 (by omega) (by omega)]
      omega
    · rcases Nat.lt_succ_iff_lt_or_eq.1 hi with q | rfl
      · have := h2 i q; omega
      · omega
def fewB (l : List TE) : Bool := decide ((l.length : Int) ≤ 12) && decide (fwK l l.length ≤ 3000)
theorem few_ok {l : List TE} (hr : Raw l) (h : fewB l = true) : l.length ≤ 12 ∧ ∀ x ∈ l, OkT x := by
  unfold fewB at h
  rw [Bool.and_eq_true, decide_eq_true_eq, decide_eq_true_eq] at h
  have h12 : l.length ≤ 12 := by omega
  obtain ⟨n, e, h1, h2⟩ := fw_sum l hr.each l.length (Nat.le_refl _) h12
  refine ⟨h12, fun x hx => ?_⟩
  obtain ⟨i, hi, rfl⟩ := mem_getD hx
  have := h2 i hi
  have h3 := h.2
  rw [e] at h3
  unfold OkT
  omega
end Go.Proofs.YtjgpojglgfddiaaDoor
namespace Go.Proofs.YtjgpojglgfddiaaDoor
open Go Go.RowKit V
set_option linter.unusedSimpArgs false
set_option linter.unusedVariables false
set_option maxHeartbeats 20000000
theorem few_w (l : List TE) (h : Raw l) : CallsV Tryd.prog 11 [treeV l] [] (fun av H' => av = .bool (fewB l) ∧ H' = []) := few_v l h.1
end Go.Proofs.YtjgpojglgfddiaaDoor
namespace Go.Proofs.YtjgpojglgfddiaaDoor
open Go Go.RowKit V
set_option linter.unusedSimpArgs false
set_option linter.unusedVariables false
set_option maxHeartbeats 20000000
theorem bdO_len (l : List TE) : (bdO' l).length ≤ 64 := by
  unfold bdO'
  split
  · rename_i h; rw [sortR_len']; exact bd_len h
  · exact Nat.zero_le _
theorem buildLaw (r : List TE) (l : List (Int × Int)) (hr : Raw r) (hl : Stp l) : CallsV Tryd.prog 4 [filesV r, stpV l] [] (fun av H' => av = .bool true ∧ H' = []) := by
  refine callsG_at Tryd.func4 (by kernel_rfl) ?_
  have aw := awake_v
  have fw := few_w r hr
  cases hf : fewB r with
  | false =>
    rw [hf] at fw
    have e1' := fw
    have e2' := aw
    refine g_q [⟨3, [], .call (avOf e1') (blOf e1') []⟩, ⟨6, [], .call (avOf e2') (blOf e2') []⟩] [.sel [4]] Exit.ret (stOf 61 [(4, AV.bool true)] []) (And.intro e1' e2') ?_
    refine g_f [] [] (AV.bool true) ([]) trivial ?_
    exact ⟨rfl, rfl⟩
  | true =>
    rw [hf] at fw
    obtain ⟨r12, rok⟩ := few_ok hr hf
    have k1 := build_w r (by omega) rok
    have k2 := buildR_w r (by omega) rok
    have en := entries_w l hl.1 hl.2
    have xok := enK_ok l (enN l)
    have xl := enX_len l
    have k3 := build_w (enK l (enN l)) (by omega) xok
    have k4 := buildR_w (enK l (enN l)) (by omega) xok
    have s1 := sameR (bdO' r) (by have := bdO_len r; omega)
    have s2 := sameR (bdO' (enK l (enN l))) (by have := bdO_len (enK l (enN l)); omega)
    generalize bdO' (enK l (enN l)) = u at *
    generalize bdF (enK l (enN l)) = e at *
    generalize enK l (enN l) = X at *
    generalize bdO' r = v at *
    generalize bdF r = f at *
    clear rok xok hf
    have e1' := fw
    have e2' := k1
    have e3' := k2
    have e4' := en
    have e5' := k3
    have e6' := k4
    have e7' := aw
    have e8' := s1
    have e9' := s2
    refine g_q [⟨3, [], .call (avOf e1') (blOf e1') []⟩, ⟨7, [], .call (avOf e2') (blOf e2') []⟩, ⟨15, [], .call (avOf e3') (blOf e3') []⟩, ⟨23, [], .call (avOf e4') (blOf e4') []⟩, ⟨24, [], .call (avOf e5') (blOf e5') []⟩, ⟨32, [], .call (avOf e4') (blOf e4') []⟩, ⟨33, [], .call (avOf e6') (blOf e6') []⟩, ⟨40, [], .call (avOf e7') (blOf e7') []⟩, ⟨44, [], .call (avOf e8') (blOf e8') []⟩, ⟨52, [.tm 51 (.bool true)], .no⟩, ⟨54, [], .call (avOf e9') (blOf e9') []⟩] [.sel [4]] Exit.ret (stOf 61 [(4, AV.bool (bif true then e == e else false))] [Blk.row 24 [AV.slv v.length 2 (flatA encT v)], Blk.row 24 [AV.slv v.length 2 (flatA encT v)], Blk.row 24 [AV.slv u.length 2 (flatA encT u)], Blk.row 24 [AV.slv u.length 2 (flatA encT u)]]) (And.intro e1' (And.intro e2' (And.intro (show 1 ≤ 1 from (by omega)) (And.intro e3' (And.intro (show 1 ≤ 1 from (by omega)) (And.intro e4' (And.intro e5' (And.intro (show 1 ≤ 1 from (by omega)) (And.intro e4' (And.intro e6' (And.intro (show 1 ≤ 1 from (by omega)) (And.intro e7' (And.intro (show 1 ≤ 1 from (by omega)) (And.intro (show 1 ≤ 1 from (by omega)) (And.intro e8' (And.intro (congrArg AV.bool (show (bif true then f == f else false) = true from (by simp_all; done))) (And.intro (show 1 ≤ 1 from (by omega)) (And.intro (show 1 ≤ 1 from (by omega)) e9')))))))))))))))))) ?_
    refine g_f [] [] (AV.bool (bif true then e == e else false)) ([]) trivial ?_
    exact ⟨by simp, rfl⟩
end Go.Proofs.YtjgpojglgfddiaaDoor
