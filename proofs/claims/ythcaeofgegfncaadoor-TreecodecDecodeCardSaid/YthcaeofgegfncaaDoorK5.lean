/-
  What the law leans on.
-/
import Derived.Test.YthcaeofgegfncaaDoorK4
namespace Go.Proofs.YthcaeofgegfncaaDoor
open Go Go.RowKit V
set_option linter.unusedSimpArgs false
set_option linter.unusedVariables false
set_option maxHeartbeats 20000000
abbrev TE := ByteArray × ByteArray
abbrev tD : TE := (ByteArray.empty, ByteArray.empty)
abbrev lt (a b : ByteArray) : Bool := Op.bytesLess a.toList b.toList
theorem bl_trans : ∀ (x y z : List UInt8), Op.bytesLess x y = true → Op.bytesLess y z = true → Op.bytesLess x z = true
  | _, [], _, h, _ => by cases ‹List UInt8› <;> simp [Op.bytesLess] at h
  | _, _ :: _, [], _, h => by simp [Op.bytesLess] at h
  | [], b :: y, c :: z, _, _ => by simp [Op.bytesLess]
  | a :: x, b :: y, c :: z, h, k => by
    simp only [Op.bytesLess, Bool.or_eq_true, Bool.and_eq_true, decide_eq_true_eq, beq_iff_eq] at h k ⊢
    rcases h with h | ⟨rfl, h⟩
    · rcases k with k | ⟨rfl, k⟩
      · exact Or.inl (UInt8.lt_trans h k)
      · exact Or.inl h
    · rcases k with k | ⟨rfl, k⟩
      · exact Or.inl k
      · exact Or.inr ⟨rfl, bl_trans x y z h k⟩
theorem bl_tri : ∀ (x y : List UInt8), Op.bytesLess x y = false → (x == y) = false → Op.bytesLess y x = true
  | [], [], _, h => by simp at h
  | a :: x, [], _, _ => by simp [Op.bytesLess]
  | [], b :: y, h, _ => by simp [Op.bytesLess] at h
  | a :: x, b :: y, h, k => by
    simp only [Op.bytesLess, Bool.or_eq_false_iff, Bool.and_eq_false_iff, decide_eq_false_iff_not, beq_eq_false_iff_ne, ne_eq, Bool.or_eq_true, Bool.and_eq_true, decide_eq_true_eq, beq_iff_eq] at h k ⊢
    by_cases hab : b = a
    · subst hab
      refine Or.inr ⟨rfl, bl_tri x y ?_ ?_⟩
      · rcases h.2 with h2 | h2
        · exact absurd rfl h2
        · exact h2
      · rw [beq_eq_false_iff_ne]
        intro e
        exact k (by rw [e])
    · rcases UInt8.lt_or_lt_of_ne hab with h1 | h1
      · exact Or.inl h1
      · exact absurd h1 h.1
theorem bl_asymm : ∀ (x y : List UInt8), Op.bytesLess x y = true → Op.bytesLess y x = false ∧ (y == x) = false
  | _, [], h => by cases ‹List UInt8› <;> simp [Op.bytesLess] at h
  | [], b :: y, _ => by simp [Op.bytesLess]
  | a :: x, b :: y, h => by
    simp only [Op.bytesLess, Bool.or_eq_true, Bool.and_eq_true, decide_eq_true_eq, beq_iff_eq, Bool.or_eq_false_iff, Bool.and_eq_false_iff, decide_eq_false_iff_not, beq_eq_false_iff_ne, ne_eq] at h ⊢
    rcases h with h | ⟨rfl, h⟩
    · exact ⟨⟨UInt8.lt_asymm h, Or.inl fun e => UInt8.lt_irrefl _ (e ▸ h)⟩, by rw [List.cons.injEq]; exact fun e => UInt8.lt_irrefl _ (e.1 ▸ h)⟩
    · have ih := bl_asymm x y h
      exact ⟨⟨UInt8.lt_irrefl _, Or.inr ih.1⟩, by rw [List.cons.injEq]; exact fun e => by have := ih.2; simp [e.2] at this⟩
theorem toList_inj {a b : ByteArray} (h : a.toList = b.toList) : a = b := by
  rw [ByteArray.toList_eq, ByteArray.toList_eq] at h
  cases a with | mk c => cases b with | mk d => simp at h; rw [h]
theorem bl_irrefl (x : List UInt8) : Op.bytesLess x x = false := by
  cases h : Op.bytesLess x x with
  | false => rfl
  | true => have := (bl_asymm x x h).2; simp at this
abbrev ltE (x y : TE) : Bool := lt x.1 y.1
theorem ltE_trans {x y z : TE} (h : ltE x y = true) (k : ltE y z = true) : ltE x z = true := bl_trans _ _ _ h k
theorem ltE_asymm {x y : TE} (h : ltE x y = true) : ltE y x = false := (bl_asymm _ _ h).1
theorem ltE_tri {x y : TE} (h : ltE x y = false) (hne : x.1 ≠ y.1) : ltE y x = true := bl_tri _ _ h (by rw [beq_eq_false_iff_ne]; exact fun e => hne (toList_inj e))
/-- in order -/
def Srt (l : List TE) : Prop := l.Pairwise fun x y => ltE x y = true
/-- no path twice -/
def Dst (l : List TE) : Prop := l.Pairwise fun x y => x.1 ≠ y.1
theorem Srt.dst {l : List TE} (h : Srt l) : Dst l := List.Pairwise.imp (fun {x y} hxy e => by
  have : Op.bytesLess x.1.toList y.1.toList = true := hxy
  rw [e, bl_irrefl] at this; cases this) h
theorem srt_unique {l m : List TE} (h1 : Srt l) (h2 : Srt m) (hp : l.Perm m) : l = m :=
  List.Perm.eq_of_pairwise (le := fun x y => ltE x y = true) (fun a b _ _ h k => by rw [ltE_asymm h] at k; cases k) h1 h2 hp
theorem dst_perm {l m : List TE} (h : Dst l) (hp : l.Perm m) : Dst m := List.Pairwise.perm h hp fun {x y} hxy e => hxy e.symm
def insR (x : TE) : List TE → List TE
  | [] => [x]
  | y :: r => if ltE y x = true then y :: insR x r else x :: y :: r
theorem insR_perm (x : TE) : ∀ l, (insR x l).Perm (x :: l)
  | [] => List.Perm.refl _
  | y :: r => by
    unfold insR
    split
    · exact (List.Perm.cons y (insR_perm x r)).trans (List.Perm.swap x y r)
    · exact List.Perm.refl _
theorem insR_mem {x z : TE} {l : List TE} : z ∈ insR x l ↔ z = x ∨ z ∈ l := by
  rw [(insR_perm x l).mem_iff, List.mem_cons]
theorem insR_srt (x : TE) : ∀ l, Srt l → (∀ y ∈ l, y.1 ≠ x.1) → Srt (insR x l)
  | [], _, _ => List.pairwise_singleton _ _
  | y :: r, h, hn => by
    obtain ⟨h1, h2⟩ := List.pairwise_cons.1 h
    unfold insR
    by_cases hy : ltE y x = true
    · rw [if_pos hy]
      refine List.pairwise_cons.2 ⟨fun z hz => ?_, insR_srt x r h2 fun z hz => hn z (List.mem_cons_of_mem _ hz)⟩
      rcases insR_mem.1 hz with rfl | hz
      · exact hy
      · exact h1 z hz
    · rw [if_neg hy]
      have hxy : ltE x y = true := ltE_tri (by simpa using hy) (hn y (by simp))
      exact List.pairwise_cons.2 ⟨fun z hz => by
        rcases List.mem_cons.1 hz with rfl | hz
        · exact hxy
        · exact ltE_trans hxy (h1 z hz), h⟩
def sortR (l : List TE) : List TE := l.foldl (fun o x => insR x o) []
theorem foldl_perm : ∀ (l o : List TE), (l.foldl (fun o x => insR x o) o).Perm (o ++ l)
  | [], o => by rw [List.append_nil]; exact List.Perm.refl _
  | x :: l, o => by
    rw [List.foldl_cons]
    refine (foldl_perm l (insR x o)).trans ?_
    refine ((insR_perm x o).append_right l).trans ?_
    exact (List.perm_middle (l₁ := o) (l₂ := l) (a := x)).symm
theorem foldl_srt : ∀ (l o : List TE), Srt o → Dst (o ++ l) → Srt (l.foldl (fun o x => insR x o) o)
  | [], o, h, _ => h
  | x :: l, o, h, hd => by
    rw [List.foldl_cons]
    have hd' : Dst (x :: (o ++ l)) := dst_perm hd List.perm_middle
    refine foldl_srt l (insR x o) (insR_srt x o h fun y hy => ?_) (dst_perm hd' ((insR_perm x o).append_right l).symm)
    exact fun e => (List.pairwise_cons.1 hd').1 y (List.mem_append_left _ hy) e.symm
theorem sortR_perm (l : List TE) : (sortR l).Perm l := by
  have := foldl_perm l []
  rwa [List.nil_append] at this
theorem sortR_srt {l : List TE} (h : Dst l) : Srt (sortR l) := foldl_srt l [] List.Pairwise.nil (by rwa [List.nil_append])
/-- what is in order and has the same elements is what the definition gives -/
theorem sort_eq {l m : List TE} (hd : Dst l) (hm : Srt m) (hp : m.Perm l) : m = sortR l := srt_unique hm (sortR_srt hd) (hp.trans (sortR_perm l).symm)
def xch (l : List TE) (j : Nat) : List TE := (l.set j (l.getD (j - 1) tD)).set (j - 1) (l.getD j tD)
/-- element i moved k places to the left -/
def mvL (l : List TE) (i k : Nat) : List TE := l.take (i - k) ++ l.getD i tD :: ((l.drop (i - k)).take k ++ l.drop (i + 1))
theorem take_split (l : List TE) (i m : Nat) (hi : i < l.length) (hm : m ≤ i) : l.take i = l.take (i - m) ++ (l.drop (i - m)).take m := by
  conv => lhs; rw [show i = (i - m) + m by omega]
  rw [List.take_add]
theorem mvL_take (l : List TE) (i m : Nat) (hi : i < l.length) (hm : m ≤ i) : (mvL l i m).take (i + 1) = l.take (i - m) ++ l.getD i tD :: (l.drop (i - m)).take m := by
  unfold mvL
  have h1 : (l.take (i - m)).length = i - m := by rw [List.length_take]; omega
  have h2 : ((l.drop (i - m)).take m).length = m := by rw [List.length_take, List.length_drop]; omega
  have e : l.take (i - m) ++ l.getD i tD :: ((l.drop (i - m)).take m ++ l.drop (i + 1)) = (l.take (i - m) ++ l.getD i tD :: (l.drop (i - m)).take m) ++ l.drop (i + 1) := by simp
  rw [e, List.take_left' (by rw [List.length_append, List.length_cons, h1, h2]; omega)]
theorem mid_get (l : List TE) (i m : Nat) (hi : i < l.length) (hm : m ≤ i) (b : TE) (hb : b ∈ (l.drop (i - m)).take m) : ∃ k, k < m ∧ b = l.getD (i - 1 - k) tD := by
  obtain ⟨j, hj, e⟩ := List.getElem_of_mem hb
  rw [List.length_take, List.length_drop] at hj
  rw [List.getElem_take, List.getElem_drop] at e
  refine ⟨m - 1 - j, by omega, ?_⟩
  rw [← e, List.getD_eq_getElem?_getD, show i - 1 - (m - 1 - j) = i - m + j by omega, List.getElem?_eq_getElem (by omega)]
  rfl
/-- after the last exchange the first i + 1 elements are in order -/
theorem mvL_srt (l : List TE) (i m : Nat) (hi : i < l.length) (hm : m ≤ i) (h : Srt (l.take i)) (hd : Dst l) (h1 : ∀ k, k < m → ltE (l.getD i tD) (l.getD (i - 1 - k) tD) = true) (h2 : m = i ∨ ltE (l.getD i tD) (l.getD (i - m - 1) tD) = false) : Srt ((mvL l i m).take (i + 1)) := by
  rw [mvL_take l i m hi hm]
  rw [take_split l i m hi hm] at h
  obtain ⟨hP, hM, hPM⟩ := List.pairwise_append.1 h
  refine List.pairwise_append.2 ⟨hP, List.pairwise_cons.2 ⟨fun b hb => ?_, hM⟩, fun a ha b hb => ?_⟩
  · obtain ⟨k, hk, rfl⟩ := mid_get l i m hi hm b hb
    exact h1 k hk
  · rcases List.mem_cons.1 hb with rfl | hb
    · -- the last element before it
      obtain ⟨j, hj, e⟩ := List.getElem_of_mem ha
      rw [List.length_take] at hj
      rw [List.getElem_take] at e
      have hlt : i - m - 1 < l.length := by omega
      have hlast : ltE (l.getD (i - m - 1) tD) (l.getD i tD) = true := by
        rcases h2 with h2 | h2
        · omega
        · refine ltE_tri h2 ?_
          rw [List.getD_eq_getElem?_getD, List.getD_eq_getElem?_getD, List.getElem?_eq_getElem hi, List.getElem?_eq_getElem hlt]
          exact fun e => (List.pairwise_iff_getElem.1 hd) (i - m - 1) i hlt hi (by omega) e.symm
      rcases Nat.lt_or_ge j (i - m - 1) with hj2 | hj2
      · have := (List.pairwise_iff_getElem.1 hP) j (i - m - 1) (by rw [List.length_take]; omega) (by rw [List.length_take]; omega) hj2
        rw [List.getElem_take, List.getElem_take, e] at this
        rw [List.getD_eq_getElem?_getD, List.getElem?_eq_getElem hlt] at hlast
        exact ltE_trans this hlast
      · obtain rfl : j = i - m - 1 := by omega
        rw [List.getD_eq_getElem?_getD, List.getElem?_eq_getElem hlt] at hlast
        rw [← e]; exact hlast
    · exact hPM a ha b hb
theorem getD_app_mid (P : List TE) (x : TE) (M : List TE) (d : TE) : (P ++ x :: M).getD P.length d = x := by
  rw [List.getD_eq_getElem?_getD, List.getElem?_append_right (Nat.le_refl _), Nat.sub_self]; rfl
theorem mvL_at (l : List TE) (i k : Nat) (hi : i < l.length) (hk : k ≤ i) : (mvL l i k).getD (i - k) tD = l.getD i tD := by
  have h1 : (l.take (i - k)).length = i - k := by rw [List.length_take]; omega
  have := getD_app_mid (l.take (i - k)) (l.getD i tD) ((l.drop (i - k)).take k ++ l.drop (i + 1)) tD
  rw [h1] at this
  exact this
theorem mvL_before (l : List TE) (i k : Nat) (hi : i < l.length) (hk : k < i) : (mvL l i k).getD (i - k - 1) tD = l.getD (i - k - 1) tD := by
  have h1 : (l.take (i - k)).length = i - k := by rw [List.length_take]; omega
  unfold mvL
  rw [List.getD_eq_getElem?_getD, List.getElem?_append_left (by rw [h1]; omega), List.getElem?_take_of_lt (by omega), ← List.getD_eq_getElem?_getD]
/-- one exchange more -/
theorem mvL_next (l : List TE) (i k : Nat) (hi : i < l.length) (hk : k < i) : mvL l i (k + 1) = xch (mvL l i k) (i - k) := by
  unfold xch
  rw [mvL_at l i k hi (by omega), mvL_before l i k hi hk]
  have hlt : i - k - 1 < l.length := by omega
  have e : l.take (i - k) = l.take (i - (k + 1)) ++ [l.getD (i - k - 1) tD] := by
    rw [show i - k = (i - (k + 1)) + 1 by omega, List.take_succ_eq_append_getElem (by omega), List.getD_eq_getElem?_getD, show i - (k + 1) + 1 - 1 = i - (k + 1) by omega, List.getElem?_eq_getElem (by omega)]
    rfl
  have e2 : (l.drop (i - (k + 1))).take (k + 1) = l.getD (i - k - 1) tD :: (l.drop (i - k)).take k := by
    rw [List.drop_eq_getElem_cons (show i - (k + 1) < l.length by omega), List.take_succ_cons, List.getD_eq_getElem?_getD, show i - k - 1 = i - (k + 1) by omega, List.getElem?_eq_getElem (by omega), show i - (k + 1) + 1 = i - k by omega]
    rfl
  have hl : (l.take (i - (k + 1))).length = i - (k + 1) := by rw [List.length_take]; omega
  unfold mvL
  rw [e, e2]
  generalize l.take (i - (k + 1)) = P at hl
  generalize l.getD (i - k - 1) tD = y
  generalize l.getD i tD = x
  generalize (l.drop (i - k)).take k = T
  generalize l.drop (i + 1) = D
  have e3 : P ++ [y] ++ x :: (T ++ D) = P ++ y :: x :: (T ++ D) := by simp
  rw [e3, show i - k = P.length + 1 by omega, show P.length + 1 - 1 = P.length by omega]
  rw [List.set_append_right _ _ (by omega), show P.length + 1 - P.length = 1 by omega, List.set_append_right _ _ (Nat.le_refl _), Nat.sub_self]
  simp
/-- how many places element i goes to the left -/
def mOf (l : List TE) (i : Nat) : Nat := (List.range i).findIdx fun k => !ltE (l.getD i tD) (l.getD (i - 1 - k) tD)
/-- after k elements were put in their places -/
def insN (l : List TE) : Nat → List TE
  | 0 => l
  | k + 1 => mvL (insN l k) (k + 1) (mOf (insN l k) (k + 1))
end Go.Proofs.YthcaeofgegfncaaDoor
namespace Go.Proofs.YthcaeofgegfncaaDoor
open Go Go.RowKit V
set_option linter.unusedSimpArgs false
set_option linter.unusedVariables false
set_option maxHeartbeats 20000000
def encT (x : (ByteArray × ByteArray)) : List AV := [AV.str x.1, AV.str x.2]
theorem encT_l (x : (ByteArray × ByteArray)) : (encT x).length = 2 := rfl
theorem encT_at (l : List (ByteArray × ByteArray)) (k : Nat) (hk : k < l.length) : (flatA encT l).drop ((k : Int).toNat * 2) = AV.str (l.getD k (ByteArray.empty, ByteArray.empty)).1 :: AV.str (l.getD k (ByteArray.empty, ByteArray.empty)).2 :: flatA encT (l.drop (k + 1)) := flatA_at encT_l l (ByteArray.empty, ByteArray.empty) k hk
theorem encT_at0 (l : List (ByteArray × ByteArray)) (k : Nat) (hk : k < l.length) : (flatA encT l).drop (0 + (k : Int).toNat * 2) = AV.str (l.getD k (ByteArray.empty, ByteArray.empty)).1 :: AV.str (l.getD k (ByteArray.empty, ByteArray.empty)).2 :: flatA encT (l.drop (k + 1)) := by
  rw [Nat.zero_add]; exact flatA_at encT_l l (ByteArray.empty, ByteArray.empty) k hk
theorem encT_len (l : List (ByteArray × ByteArray)) : (flatA encT l).length = l.length * 2 := flatA_length (n := 2) encT_l l
theorem encT_ge (l : List (ByteArray × ByteArray)) : l.length * 2 ≤ (flatA encT l).length := Nat.le_of_eq (encT_len l).symm
theorem encT_gk (l : List (ByteArray × ByteArray)) (k : Nat) (hk : k < l.length) : 2 ≤ ((flatA encT l).drop (0 + (k : Int).toNat * 2)).length := by
  rw [encT_at0 l k hk]; simp
theorem encT_noid (l : List (ByteArray × ByteArray)) : ∀ x ∈ flatA encT l, noid0 x = true := flatA_noid _ (fun a x hx => by
  simp only [encT, List.mem_cons, List.not_mem_nil, or_false] at hx
  rcases hx with rfl | rfl <;> rfl) l
theorem encT_plain (l : List (ByteArray × ByteArray)) : ∀ x ∈ flatA encT l, plain0 x = true := flatA_all (p := fun x => plain0 x = true) (fun a x hx => by
  simp only [encT, List.mem_cons, List.not_mem_nil, or_false] at hx
  rcases hx with rfl | rfl <;> rfl) l
theorem encT_lend (l : List (ByteArray × ByteArray)) : ∀ x ∈ flatA encT l, noid0 x = true ∧ x ≠ .junk := flatA_all (p := fun x => noid0 x = true ∧ x ≠ .junk) (fun a x hx => by
  simp only [encT, List.mem_cons, List.not_mem_nil, or_false] at hx
  rcases hx with rfl | rfl <;> exact ⟨rfl, by simp⟩) l
theorem encT_snoc (l : List (ByteArray × ByteArray)) (x : (ByteArray × ByteArray)) : (flatA encT l).take (l.length * 2) ++ [AV.str x.1, AV.str x.2] = flatA encT (l ++ [x]) := flatA_snoc encT_l l x
abbrev filesV (l : List TE) : AV := .slv l.length 2 (flatA encT l)
abbrev treeV (l : List TE) : AV := .agg [filesV l]
def OkT (x : TE) : Prop := x.1.size ≤ 30000 ∧ x.2.size ≤ 9223372036854775807
/-- what a file is, for itself -/
def cfF (x : TE) : Int := if vaF x.1 = true then (if x.2.size ≤ 4096 then 0 else 2) else 8
theorem checkFile_v (x : TE) (hx : OkT x) : CallsV Tryd.prog 22 [.agg (encT x)] [] (fun av H' => av = .int .i64 (cfF x) ∧ H' = []) := by
  refine callsG_at Tryd.func22 (by kernel_rfl) ?_
  obtain ⟨h1, h2⟩ := hx
  have hv := (valid_v x.1 h1).1
  unfold cfF encT
  cases h : vaF x.1 with
  | false =>
    rw [h] at hv
    rw [if_neg (by decide)]
    have e1' := hv
    refine g_q [⟨4, [], .call (avOf e1') (blOf e1') []⟩] [.sel [2]] Exit.ret (stOf 11 [(2, AV.int .i64 (8 : Int))] [Blk.row 46 [AV.str x.fst, AV.str x.snd]]) (And.intro (show 1 ≤ 2 from (by omega)) e1') ?_
    refine g_f [] [] (AV.int .i64 (8 : Int)) ([]) trivial ?_
    exact ⟨rfl, rfl⟩
  | true =>
    rw [h] at hv
    rw [if_pos rfl]
    by_cases h3 : x.2.size ≤ 4096
    · rw [if_pos h3]
      have e1' := hv
      refine g_q [⟨4, [], .call (avOf e1') (blOf e1') []⟩, ⟨11, [], .br false .no⟩] [.sel [2]] Exit.ret (stOf 11 [(2, AV.int .i64 (0 : Int))] [Blk.row 46 [AV.str x.fst, AV.str x.snd]]) (And.intro (show 1 ≤ 2 from (by omega)) (And.intro e1' (And.intro (show 1 ≤ 1 from (by omega)) (show decide ((↑x.snd.size : Int) > (4096 : Int)) = false from (by rw [decide_eq_false_iff_not]; omega))))) ?_
      refine g_f [] [] (AV.int .i64 (0 : Int)) ([]) trivial ?_
      exact ⟨rfl, rfl⟩
    · rw [if_neg h3]
      have e1' := hv
      refine g_q [⟨4, [], .call (avOf e1') (blOf e1') []⟩, ⟨11, [], .br true .no⟩] [.sel [2]] Exit.ret (stOf 11 [(2, AV.int .i64 (2 : Int))] [Blk.row 46 [AV.str x.fst, AV.str x.snd]]) (And.intro (show 1 ≤ 2 from (by omega)) (And.intro e1' (And.intro (show 1 ≤ 1 from (by omega)) (show decide ((↑x.snd.size : Int) > (4096 : Int)) = true from (by rw [decide_eq_true_iff]; omega))))) ?_
      refine g_f [] [] (AV.int .i64 (2 : Int)) ([]) trivial ?_
      exact ⟨rfl, rfl⟩
def clP (l : List TE) (i k : Nat) : Bool := !((i : Int) == (k : Int)) && unF (l.getD i tD).1 (l.getD k tD).1
def clR (l : List TE) (i : Nat) : Bool := allN (fun k => !clP l i k) l.length
def clF (l : List TE) : Bool := allN (fun i => clR l i) l.length
def c1S (l : List TE) (i k : Nat) : St := stOf 33 [(0, filesV l), (3, .int .i64 (i : Int)), (4, .ptr 0 0), (7, filesV l), (8, .int .i64 (l.length : Int)), (9, .int .i64 (i : Int)), (14, filesV l), (15, .int .i64 (l.length : Int)), (16, .int .i64 (k : Int))] [.row 46 (encT (l.getD i tD))]
theorem c1_round (l : List TE) (hl : l.length ≤ 1000) (hok : ∀ x ∈ l, OkT x) (i k : Nat) (hi : i < l.length) (hk : k < l.length) : CallsV Tryd.prog 32 [.str (l.getD i tD).1, .str (l.getD k tD).1] [] (fun av H' => av = .bool (unF (l.getD i tD).1 (l.getD k tD).1) ∧ H' = []) ∧ CallsV Tryd.prog 34 [.str (l.getD i tD).1, .str (l.getD k tD).1] [] (fun av H' => av = .bool (unF (l.getD i tD).1 (l.getD k tD).1) ∧ H' = []) := by
  have h1 := (hok _ (getD_mem' hi tD)).1
  have h2 := (hok _ (getD_mem' hk tD)).1
  exact under_v _ _ (by omega) (by omega)
theorem c1L_T (l : List TE) (hl : l.length ≤ 1000) (hok : ∀ x ∈ l, OkT x) (i : Nat) (hi : i < l.length) (h : ∀ k, k < l.length → (!clP l i k) = true) : LoopG Tryd.prog 0 Tryd.f23 1 (.exit 2) (stOf 33 [(0, filesV l), (7, filesV l), (8, .int .i64 (l.length : Int)), (9, .int .i64 (i : Int))] []) (c1S l i 0) := by
  refine loopG_of l.length (fun k => c1S l i k) (by kernel_rfl) (by simp) ?_ ?_
  · intro k hk
    have h := h k hk
    have u := (c1_round l hl hok i k hi hk).1
    have at1 := encT_at l k hk
    unfold clP at h
    unfold c1S encT
    generalize unF (l.getD i tD).1 (l.getD k tD).1 = b at h u
    by_cases hik : (i : Int) = (k : Int)
    · have hq : ((i : Int) == (k : Int)) = true := by rw [hik]; exact beq_self_eq_true _
      have e1' := (congrArg (fun z => AV.fptr z) at1)
      have e2' := (congrArg (fun z => AV.int .i64 z) (wrap_i64 (e := (↑k : Int) + (1 : Int)) (by omega) (by omega)))
      exact g_x [⟨1, [], .br true .no⟩, ⟨3, [], .as (rhsOf e1')⟩, ⟨12, [.tm 24 (.bool false)], .no⟩, ⟨19, [], .as (rhsOf e2')⟩] [.sel [0, 3, 4, 7, 8, 9, 14, 15, 16], .keep [0] [false]] (And.intro (show decide ((↑k : Int) < (↑l.length : Int)) = true from (by rw [decide_eq_true_iff]; omega)) (And.intro (show (0 : Int) ≤ (↑k : Int) ∧ (↑k : Int) < (↑l.length : Int) from (by omega)) (And.intro e1' (And.intro (show 2 ≤ (AV.str (l.getD k (ByteArray.empty, ByteArray.empty)).fst :: AV.str (l.getD k (ByteArray.empty, ByteArray.empty)).snd :: flatA encT (List.drop (k + 1) l)).length from (by exact Nat.le_of_ble_eq_true (by kernel_rfl))) (And.intro (show 2 ≤ 2 from (by omega)) (And.intro (congrArg AV.bool (show ((↑i : Int) != (↑k : Int)) = false from (by simp_all; done))) (And.intro (show false = true → false = true from (fun h => h)) e2')))))))
    · have hq : ((i : Int) == (k : Int)) = false := beq_eq_false_iff_ne.2 hik
      rw [hq] at h
      have hb : b = false := by simpa using h
      subst hb
      have e1' := (congrArg (fun z => AV.fptr z) at1)
      have e2' := u
      have e3' := (congrArg (fun z => AV.int .i64 z) (wrap_i64 (e := (↑k : Int) + (1 : Int)) (by omega) (by omega)))
      exact g_x [⟨1, [], .br true .no⟩, ⟨3, [], .as (rhsOf e1')⟩, ⟨12, [.tm 24 (.bool true)], .no⟩, ⟨16, [], .call (avOf e2') (blOf e2') []⟩, ⟨19, [], .as (rhsOf e3')⟩] [.sel [0, 3, 4, 7, 8, 9, 14, 15, 16], .keep [0] [false]] (And.intro (show decide ((↑k : Int) < (↑l.length : Int)) = true from (by rw [decide_eq_true_iff]; omega)) (And.intro (show (0 : Int) ≤ (↑k : Int) ∧ (↑k : Int) < (↑l.length : Int) from (by omega)) (And.intro e1' (And.intro (show 2 ≤ (AV.str (l.getD k (ByteArray.empty, ByteArray.empty)).fst :: AV.str (l.getD k (ByteArray.empty, ByteArray.empty)).snd :: flatA encT (List.drop (k + 1) l)).length from (by exact Nat.le_of_ble_eq_true (by kernel_rfl))) (And.intro (show 2 ≤ 2 from (by omega)) (And.intro (congrArg AV.bool (show ((↑i : Int) != (↑k : Int)) = true from (by simp_all; done))) (And.intro (show 1 ≤ 2 from (by omega)) (And.intro (show 1 ≤ 2 from (by omega)) (And.intro e2' e3')))))))))
  · unfold c1S
    exact g_x [⟨1, [], .br false .no⟩] [.sel [0, 7, 8, 9], .keep [] []] (show decide ((↑l.length : Int) < (↑l.length : Int)) = false from (by rw [decide_eq_false_iff_not]; omega))
end Go.Proofs.YthcaeofgegfncaaDoor
namespace Go.Proofs.YthcaeofgegfncaaDoor
open Go Go.RowKit V
set_option linter.unusedSimpArgs false
set_option linter.unusedVariables false
set_option maxHeartbeats 20000000
theorem c1L_F (l : List TE) (hl : l.length ≤ 1000) (hok : ∀ x ∈ l, OkT x) (i : Nat) (hi : i < l.length) (m : Nat) (hm : m < l.length) (h : ∀ k, k < m → (!clP l i k) = true) (hf : (!clP l i m) = false) : LoopG Tryd.prog 0 Tryd.f23 1 .ret (stOf 33 [(2, .int .i64 10)] []) (c1S l i 0) := by
  refine loopG_of m (fun k => c1S l i k) (by kernel_rfl) (by simp) ?_ ?_
  · intro k hk
    have h := h k hk
    have hk : k < l.length := by omega
    have u := (c1_round l hl hok i k hi hk).1
    have at1 := encT_at l k hk
    unfold clP at h
    unfold c1S encT
    generalize unF (l.getD i tD).1 (l.getD k tD).1 = b at h u
    by_cases hik : (i : Int) = (k : Int)
    · have hq : ((i : Int) == (k : Int)) = true := by rw [hik]; exact beq_self_eq_true _
      have e1' := (congrArg (fun z => AV.fptr z) at1)
      have e2' := (congrArg (fun z => AV.int .i64 z) (wrap_i64 (e := (↑k : Int) + (1 : Int)) (by omega) (by omega)))
      exact g_x [⟨1, [], .br true .no⟩, ⟨3, [], .as (rhsOf e1')⟩, ⟨12, [.tm 24 (.bool false)], .no⟩, ⟨19, [], .as (rhsOf e2')⟩] [.sel [0, 3, 4, 7, 8, 9, 14, 15, 16], .keep [0] [false]] (And.intro (show decide ((↑k : Int) < (↑l.length : Int)) = true from (by rw [decide_eq_true_iff]; omega)) (And.intro (show (0 : Int) ≤ (↑k : Int) ∧ (↑k : Int) < (↑l.length : Int) from (by omega)) (And.intro e1' (And.intro (show 2 ≤ (AV.str (l.getD k (ByteArray.empty, ByteArray.empty)).fst :: AV.str (l.getD k (ByteArray.empty, ByteArray.empty)).snd :: flatA encT (List.drop (k + 1) l)).length from (by exact Nat.le_of_ble_eq_true (by kernel_rfl))) (And.intro (show 2 ≤ 2 from (by omega)) (And.intro (congrArg AV.bool (show ((↑i : Int) != (↑k : Int)) = false from (by simp_all; done))) (And.intro (show false = true → false = true from (fun h => h)) e2')))))))
    · have hq : ((i : Int) == (k : Int)) = false := beq_eq_false_iff_ne.2 hik
      rw [hq] at h
      have hb : b = false := by simpa using h
      subst hb
      have e1' := (congrArg (fun z => AV.fptr z) at1)
      have e2' := u
      have e3' := (congrArg (fun z => AV.int .i64 z) (wrap_i64 (e := (↑k : Int) + (1 : Int)) (by omega) (by omega)))
      exact g_x [⟨1, [], .br true .no⟩, ⟨3, [], .as (rhsOf e1')⟩, ⟨12, [.tm 24 (.bool true)], .no⟩, ⟨16, [], .call (avOf e2') (blOf e2') []⟩, ⟨19, [], .as (rhsOf e3')⟩] [.sel [0, 3, 4, 7, 8, 9, 14, 15, 16], .keep [0] [false]] (And.intro (show decide ((↑k : Int) < (↑l.length : Int)) = true from (by rw [decide_eq_true_iff]; omega)) (And.intro (show (0 : Int) ≤ (↑k : Int) ∧ (↑k : Int) < (↑l.length : Int) from (by omega)) (And.intro e1' (And.intro (show 2 ≤ (AV.str (l.getD k (ByteArray.empty, ByteArray.empty)).fst :: AV.str (l.getD k (ByteArray.empty, ByteArray.empty)).snd :: flatA encT (List.drop (k + 1) l)).length from (by exact Nat.le_of_ble_eq_true (by kernel_rfl))) (And.intro (show 2 ≤ 2 from (by omega)) (And.intro (congrArg AV.bool (show ((↑i : Int) != (↑k : Int)) = true from (by simp_all; done))) (And.intro (show 1 ≤ 2 from (by omega)) (And.intro (show 1 ≤ 2 from (by omega)) (And.intro e2' e3')))))))))
  · have u := (c1_round l hl hok i m hi hm).1
    have at1 := encT_at l m hm
    unfold clP at hf
    unfold c1S encT
    generalize unF (l.getD i tD).1 (l.getD m tD).1 = b at hf u
    have hq : ((i : Int) == (m : Int)) = false := by
      cases hh : ((i : Int) == (m : Int)) <;> simp_all
    rw [hq] at hf
    have hb : b = true := by simpa using hf
    subst hb
    have e1' := (congrArg (fun z => AV.fptr z) at1)
    have e2' := u
    exact g_x [⟨1, [], .br true .no⟩, ⟨3, [], .as (rhsOf e1')⟩, ⟨12, [.tm 24 (.bool true)], .no⟩, ⟨16, [], .call (avOf e2') (blOf e2') []⟩] [.sel [2], .keep [] []] (And.intro (show decide ((↑m : Int) < (↑l.length : Int)) = true from (by rw [decide_eq_true_iff]; omega)) (And.intro (show (0 : Int) ≤ (↑m : Int) ∧ (↑m : Int) < (↑l.length : Int) from (by omega)) (And.intro e1' (And.intro (show 2 ≤ (AV.str (l.getD m (ByteArray.empty, ByteArray.empty)).fst :: AV.str (l.getD m (ByteArray.empty, ByteArray.empty)).snd :: flatA encT (List.drop (m + 1) l)).length from (by exact Nat.le_of_ble_eq_true (by kernel_rfl))) (And.intro (show 2 ≤ 2 from (by omega)) (And.intro (congrArg AV.bool (show ((↑i : Int) != (↑m : Int)) = true from (by simp_all; done))) (And.intro (show 1 ≤ 2 from (by omega)) (And.intro (show 1 ≤ 2 from (by omega)) e2'))))))))
def c0S (l : List TE) (i : Nat) : St := stOf 33 [(0, filesV l), (7, filesV l), (8, .int .i64 (l.length : Int)), (9, .int .i64 (i : Int))] []
theorem clash_v (l : List TE) (hl : l.length ≤ 1000) (hok : ∀ x ∈ l, OkT x) : CallsV Tryd.prog 23 [filesV l] [] (fun av H' => av = .int .i64 (bif clF l then 0 else 10) ∧ H' = []) := by
  refine callsG_at Tryd.func23 (by kernel_rfl) ?_
  unfold clF
  rcases allN_or (fun i => clR l i) l.length with ⟨h1, h2⟩ | ⟨h1, m, hm, h2, h3⟩
  · have hL : LoopG Tryd.prog 0 Tryd.f23 0 (.exit 0) (stOf 33 [] []) (c0S l 0) := by
      refine loopG_of l.length (fun i => c0S l i) (by kernel_rfl) (by simp) ?_ ?_
      · intro i hi
        have hr : clR l i = true := h2 i hi
        have at1 := encT_at l i hi
        rcases allN_or (fun k => !clP l i k) l.length with ⟨_, h5⟩ | ⟨h4, _⟩
        · have hI := c1L_T l hl hok i hi h5
          unfold c1S encT at hI
          unfold c0S
          have e1' := (congrArg (fun z => AV.fptr z) at1)
          have e2' := hI
          have e3' := (congrArg (fun z => AV.int .i64 z) (wrap_i64 (e := (↑i : Int) + (1 : Int)) (by omega) (by omega)))
          exact g_x [⟨1, [], .br true .no⟩, ⟨3, [], .as (rhsOf e1')⟩, ⟨11, [.sel [0, 3, 4, 7, 8, 9, 14, 15, 16]], .loop (exOf e2') (endOf e2')⟩, ⟨12, [], .as (rhsOf e3')⟩] [.sel [0, 7, 8, 9]] (And.intro (show decide ((↑i : Int) < (↑l.length : Int)) = true from (by rw [decide_eq_true_iff]; omega)) (And.intro (show (0 : Int) ≤ (↑i : Int) ∧ (↑i : Int) < (↑l.length : Int) from (by omega)) (And.intro e1' (And.intro (show 2 ≤ (AV.str (l.getD i (ByteArray.empty, ByteArray.empty)).fst :: AV.str (l.getD i (ByteArray.empty, ByteArray.empty)).snd :: flatA encT (List.drop (i + 1) l)).length from (by exact Nat.le_of_ble_eq_true (by kernel_rfl))) (And.intro (show 2 ≤ 2 from (by omega)) (And.intro e2' e3'))))))
        · unfold clR at hr; rw [h4] at hr; cases hr
      · unfold c0S
        exact g_x [⟨1, [], .br false .no⟩] [.sel []] (show decide ((↑l.length : Int) < (↑l.length : Int)) = false from (by rw [decide_eq_false_iff_not]; omega))
    rw [h1, cond_true]
    unfold c0S at hL
    have e1' := hL
    refine g_q [⟨4, [.sel [0, 7, 8, 9]], .loop (exOf e1') (endOf e1')⟩] [] Exit.ret (stOf 33 [(2, AV.int .i64 (0 : Int))] []) e1' ?_
    refine g_f [] [] (AV.int .i64 (0 : Int)) ([]) trivial ?_
    exact ⟨rfl, rfl⟩
  · have hL : LoopG Tryd.prog 0 Tryd.f23 0 .ret (stOf 33 [(2, .int .i64 10)] []) (c0S l 0) := by
      refine loopG_of m (fun i => c0S l i) (by kernel_rfl) (by simp) ?_ ?_
      · intro i hi
        have hr : clR l i = true := h2 i hi
        have hi : i < l.length := by omega
        have at1 := encT_at l i hi
        rcases allN_or (fun k => !clP l i k) l.length with ⟨_, h5⟩ | ⟨h4, _⟩
        · have hI := c1L_T l hl hok i hi h5
          unfold c1S encT at hI
          unfold c0S
          have e1' := (congrArg (fun z => AV.fptr z) at1)
          have e2' := hI
          have e3' := (congrArg (fun z => AV.int .i64 z) (wrap_i64 (e := (↑i : Int) + (1 : Int)) (by omega) (by omega)))
          exact g_x [⟨1, [], .br true .no⟩, ⟨3, [], .as (rhsOf e1')⟩, ⟨11, [.sel [0, 3, 4, 7, 8, 9, 14, 15, 16]], .loop (exOf e2') (endOf e2')⟩, ⟨12, [], .as (rhsOf e3')⟩] [.sel [0, 7, 8, 9]] (And.intro (show decide ((↑i : Int) < (↑l.length : Int)) = true from (by rw [decide_eq_true_iff]; omega)) (And.intro (show (0 : Int) ≤ (↑i : Int) ∧ (↑i : Int) < (↑l.length : Int) from (by omega)) (And.intro e1' (And.intro (show 2 ≤ (AV.str (l.getD i (ByteArray.empty, ByteArray.empty)).fst :: AV.str (l.getD i (ByteArray.empty, ByteArray.empty)).snd :: flatA encT (List.drop (i + 1) l)).length from (by exact Nat.le_of_ble_eq_true (by kernel_rfl))) (And.intro (show 2 ≤ 2 from (by omega)) (And.intro e2' e3'))))))
        · unfold clR at hr; rw [h4] at hr; cases hr
      · have hr : clR l m = false := h3
        have at1 := encT_at l m hm
        rcases allN_or (fun k => !clP l m k) l.length with ⟨h4, _⟩ | ⟨_, k, hk, h5, h6⟩
        · unfold clR at hr; rw [h4] at hr; cases hr
        · have hI := c1L_F l hl hok m hm k hk h5 h6
          unfold c1S encT at hI
          unfold c0S
          have e1' := (congrArg (fun z => AV.fptr z) at1)
          have e2' := hI
          exact g_x [⟨1, [], .br true .no⟩, ⟨3, [], .as (rhsOf e1')⟩, ⟨11, [.sel [0, 3, 4, 7, 8, 9, 14, 15, 16]], .loop (exOf e2') (endOf e2')⟩] [] (And.intro (show decide ((↑m : Int) < (↑l.length : Int)) = true from (by rw [decide_eq_true_iff]; omega)) (And.intro (show (0 : Int) ≤ (↑m : Int) ∧ (↑m : Int) < (↑l.length : Int) from (by omega)) (And.intro e1' (And.intro (show 2 ≤ (AV.str (l.getD m (ByteArray.empty, ByteArray.empty)).fst :: AV.str (l.getD m (ByteArray.empty, ByteArray.empty)).snd :: flatA encT (List.drop (m + 1) l)).length from (by exact Nat.le_of_ble_eq_true (by kernel_rfl))) (And.intro (show 2 ≤ 2 from (by omega)) e2')))))
    rw [h1, cond_false]
    unfold c0S at hL
    have e1' := hL
    refine g_q [⟨4, [.sel [0, 7, 8, 9]], .loop (exOf e1') (endOf e1')⟩] [] Exit.ret (stOf 33 [(2, AV.int .i64 (10 : Int))] []) e1' ?_
    refine g_f [] [] (AV.int .i64 (10 : Int)) ([]) trivial ?_
    exact ⟨rfl, rfl⟩
def r1S (l : List TE) (i k : Nat) : St := stOf 33 [(0, filesV l), (3, .int .i64 (i : Int)), (4, .int .i64 (k : Int))] []
theorem r1L_T (l : List TE) (hl : l.length ≤ 1000) (hok : ∀ x ∈ l, OkT x) (i : Nat) (hi : i < l.length) (h : ∀ k, k < l.length → (!clP l i k) = true) : LoopG Tryd.prog 0 Tryd.f25 1 (.exit 2) (stOf 33 [(0, filesV l), (3, .int .i64 (i : Int))] []) (r1S l i 0) := by
  refine loopG_of l.length (fun k => r1S l i k) (by kernel_rfl) (by simp) ?_ ?_
  · intro k hk
    have h := h k hk
    have u := (c1_round l hl hok i k hi hk).2
    have at1 := encT_at l k hk
    have at2 := encT_at l i hi
    unfold clP at h
    unfold r1S
    generalize unF (l.getD i tD).1 (l.getD k tD).1 = b at h u
    by_cases hik : (i : Int) = (k : Int)
    · have hq : ((i : Int) == (k : Int)) = true := by rw [hik]; exact beq_self_eq_true _
      have e1' := (congrArg (fun z => AV.int .i64 z) (wrap_i64 (e := (↑k : Int) + (1 : Int)) (by omega) (by omega)))
      exact g_x [⟨4, [], .br true .no⟩, ⟨9, [], .br false .no⟩, ⟨10, [], .br false .no⟩, ⟨11, [], .br false .no⟩, ⟨12, [], .br false .no⟩, ⟨13, [], .br false .no⟩, ⟨14, [], .br false .no⟩, ⟨15, [], .br false .no⟩, ⟨16, [], .br false .no⟩, ⟨17, [], .br false .no⟩, ⟨18, [], .br false .no⟩, ⟨19, [], .br false .no⟩, ⟨21, [], .br false .no⟩, ⟨23, [], .as (rhsOf e1')⟩] [.sel [0, 3, 4]] (And.intro (show decide ((↑k : Int) < (↑l.length : Int)) = true from (by rw [decide_eq_true_iff]; omega)) (And.intro (show (((↑i : Int) != (↑k : Int)) == true) = false from (by simp_all; done)) (And.intro (show (((↑i : Int) != (↑k : Int)) == true) = false from (by simp_all; done)) (And.intro (show (((↑i : Int) != (↑k : Int)) == true) = false from (by simp_all; done)) (And.intro (show (((↑i : Int) != (↑k : Int)) == true) = false from (by simp_all; done)) (And.intro (show (((↑i : Int) != (↑k : Int)) == true) = false from (by simp_all; done)) (And.intro (show (((↑i : Int) != (↑k : Int)) == true) = false from (by simp_all; done)) (And.intro (show (((↑i : Int) != (↑k : Int)) == true) = false from (by simp_all; done)) (And.intro (show (((↑i : Int) != (↑k : Int)) == true) = false from (by simp_all; done)) (And.intro (show (((↑i : Int) != (↑k : Int)) == true) = false from (by simp_all; done)) (And.intro (show (((↑i : Int) != (↑k : Int)) == true) = false from (by simp_all; done)) (And.intro (show (((↑i : Int) != (↑k : Int)) == true) = false from (by simp_all; done)) (And.intro (show ((↑i : Int) != (↑k : Int)) = true → false = true from (by (simp; omega))) (And.intro (show (bif (↑i : Int) != (↑k : Int) then false else false) = false from (by simp_all; done)) e1'))))))))))))))
    · have hq : ((i : Int) == (k : Int)) = false := beq_eq_false_iff_ne.2 hik
      rw [hq] at h
      have hb : b = false := by simpa using h
      subst hb
      have e1' := (congrArg (fun z => AV.fptr z) at2)
      have e2' := (congrArg (fun z => AV.fptr z) at1)
      have e3' := u
      have e4' := (congrArg (fun z => AV.int .i64 z) (wrap_i64 (e := (↑k : Int) + (1 : Int)) (by omega) (by omega)))
      exact g_x [⟨4, [], .br true .no⟩, ⟨9, [], .br true .no⟩, ⟨10, [], .br true .no⟩, ⟨11, [], .br true (.as (rhsOf e1'))⟩, ⟨12, [], .br true .no⟩, ⟨13, [], .br true .no⟩, ⟨14, [], .br true .no⟩, ⟨15, [], .br true .no⟩, ⟨16, [], .br true (.as (rhsOf e2'))⟩, ⟨17, [], .br true .no⟩, ⟨18, [], .br true .no⟩, ⟨19, [], .br true (.call (avOf e3') (blOf e3') [])⟩, ⟨21, [], .br false .no⟩, ⟨23, [], .as (rhsOf e4')⟩] [.sel [0, 3, 4]] (And.intro (show decide ((↑k : Int) < (↑l.length : Int)) = true from (by rw [decide_eq_true_iff]; omega)) (And.intro (show (((↑i : Int) != (↑k : Int)) == true) = true from (by simp_all; done)) (And.intro (show (((↑i : Int) != (↑k : Int)) == true) = true from (by simp_all; done)) (And.intro (show (((↑i : Int) != (↑k : Int)) == true) = true from (by simp_all; done)) (And.intro (show (0 : Int) ≤ (↑i : Int) ∧ (↑i : Int) < (↑l.length : Int) from (by omega)) (And.intro e1' (And.intro (show (((↑i : Int) != (↑k : Int)) == true) = true from (by simp_all; done)) (And.intro (show (((↑i : Int) != (↑k : Int)) == true) = true from (by simp_all; done)) (And.intro (show 1 ≤ (AV.str (l.getD i (ByteArray.empty, ByteArray.empty)).fst :: AV.str (l.getD i (ByteArray.empty, ByteArray.empty)).snd :: flatA encT (List.drop (i + 1) l)).length from (by exact Nat.le_of_ble_eq_true (by kernel_rfl))) (And.intro (show (((↑i : Int) != (↑k : Int)) == true) = true from (by simp_all; done)) (And.intro (show (((↑i : Int) != (↑k : Int)) == true) = true from (by simp_all; done)) (And.intro (show (((↑i : Int) != (↑k : Int)) == true) = true from (by simp_all; done)) (And.intro (show (0 : Int) ≤ (↑k : Int) ∧ (↑k : Int) < (↑l.length : Int) from (by omega)) (And.intro e2' (And.intro (show (((↑i : Int) != (↑k : Int)) == true) = true from (by simp_all; done)) (And.intro (show (((↑i : Int) != (↑k : Int)) == true) = true from (by simp_all; done)) (And.intro (show 1 ≤ (AV.str (l.getD k (ByteArray.empty, ByteArray.empty)).fst :: AV.str (l.getD k (ByteArray.empty, ByteArray.empty)).snd :: flatA encT (List.drop (k + 1) l)).length from (by exact Nat.le_of_ble_eq_true (by kernel_rfl))) (And.intro (show (((↑i : Int) != (↑k : Int)) == true) = true from (by simp_all; done)) (And.intro e3' (And.intro (show (bif (↑i : Int) != (↑k : Int) then false else false) = false from (by simp_all; done)) e4'))))))))))))))))))))
  · unfold r1S
    exact g_x [⟨4, [], .br false .no⟩] [.sel [0, 3]] (show decide ((↑l.length : Int) < (↑l.length : Int)) = false from (by rw [decide_eq_false_iff_not]; omega))
theorem r1L_F (l : List TE) (hl : l.length ≤ 1000) (hok : ∀ x ∈ l, OkT x) (i : Nat) (hi : i < l.length) (m : Nat) (hm : m < l.length) (h : ∀ k, k < m → (!clP l i k) = true) (hf : (!clP l i m) = false) : LoopG Tryd.prog 0 Tryd.f25 1 .ret (stOf 33 [(2, .bool true)] []) (r1S l i 0) := by
  refine loopG_of m (fun k => r1S l i k) (by kernel_rfl) (by simp) ?_ ?_
  · intro k hk
    have h := h k hk
    have hk : k < l.length := by omega
    have u := (c1_round l hl hok i k hi hk).2
    have at1 := encT_at l k hk
    have at2 := encT_at l i hi
    unfold clP at h
    unfold r1S
    generalize unF (l.getD i tD).1 (l.getD k tD).1 = b at h u
    by_cases hik : (i : Int) = (k : Int)
    · have hq : ((i : Int) == (k : Int)) = true := by rw [hik]; exact beq_self_eq_true _
      have e1' := (congrArg (fun z => AV.int .i64 z) (wrap_i64 (e := (↑k : Int) + (1 : Int)) (by omega) (by omega)))
      exact g_x [⟨4, [], .br true .no⟩, ⟨9, [], .br false .no⟩, ⟨10, [], .br false .no⟩, ⟨11, [], .br false .no⟩, ⟨12, [], .br false .no⟩, ⟨13, [], .br false .no⟩, ⟨14, [], .br false .no⟩, ⟨15, [], .br false .no⟩, ⟨16, [], .br false .no⟩, ⟨17, [], .br false .no⟩, ⟨18, [], .br false .no⟩, ⟨19, [], .br false .no⟩, ⟨21, [], .br false .no⟩, ⟨23, [], .as (rhsOf e1')⟩] [.sel [0, 3, 4]] (And.intro (show decide ((↑k : Int) < (↑l.length : Int)) = true from (by rw [decide_eq_true_iff]; omega)) (And.intro (show (((↑i : Int) != (↑k : Int)) == true) = false from (by simp_all; done)) (And.intro (show (((↑i : Int) != (↑k : Int)) == true) = false from (by simp_all; done)) (And.intro (show (((↑i : Int) != (↑k : Int)) == true) = false from (by simp_all; done)) (And.intro (show (((↑i : Int) != (↑k : Int)) == true) = false from (by simp_all; done)) (And.intro (show (((↑i : Int) != (↑k : Int)) == true) = false from (by simp_all; done)) (And.intro (show (((↑i : Int) != (↑k : Int)) == true) = false from (by simp_all; done)) (And.intro (show (((↑i : Int) != (↑k : Int)) == true) = false from (by simp_all; done)) (And.intro (show (((↑i : Int) != (↑k : Int)) == true) = false from (by simp_all; done)) (And.intro (show (((↑i : Int) != (↑k : Int)) == true) = false from (by simp_all; done)) (And.intro (show (((↑i : Int) != (↑k : Int)) == true) = false from (by simp_all; done)) (And.intro (show (((↑i : Int) != (↑k : Int)) == true) = false from (by simp_all; done)) (And.intro (show ((↑i : Int) != (↑k : Int)) = true → false = true from (by (simp; omega))) (And.intro (show (bif (↑i : Int) != (↑k : Int) then false else false) = false from (by simp_all; done)) e1'))))))))))))))
    · have hq : ((i : Int) == (k : Int)) = false := beq_eq_false_iff_ne.2 hik
      rw [hq] at h
      have hb : b = false := by simpa using h
      subst hb
      have e1' := (congrArg (fun z => AV.fptr z) at2)
      have e2' := (congrArg (fun z => AV.fptr z) at1)
      have e3' := u
      have e4' := (congrArg (fun z => AV.int .i64 z) (wrap_i64 (e := (↑k : Int) + (1 : Int)) (by omega) (by omega)))
      exact g_x [⟨4, [], .br true .no⟩, ⟨9, [], .br true .no⟩, ⟨10, [], .br true .no⟩, ⟨11, [], .br true (.as (rhsOf e1'))⟩, ⟨12, [], .br true .no⟩, ⟨13, [], .br true .no⟩, ⟨14, [], .br true .no⟩, ⟨15, [], .br true .no⟩, ⟨16, [], .br true (.as (rhsOf e2'))⟩, ⟨17, [], .br true .no⟩, ⟨18, [], .br true .no⟩, ⟨19, [], .br true (.call (avOf e3') (blOf e3') [])⟩, ⟨21, [], .br false .no⟩, ⟨23, [], .as (rhsOf e4')⟩] [.sel [0, 3, 4]] (And.intro (show decide ((↑k : Int) < (↑l.length : Int)) = true from (by rw [decide_eq_true_iff]; omega)) (And.intro (show (((↑i : Int) != (↑k : Int)) == true) = true from (by simp_all; done)) (And.intro (show (((↑i : Int) != (↑k : Int)) == true) = true from (by simp_all; done)) (And.intro (show (((↑i : Int) != (↑k : Int)) == true) = true from (by simp_all; done)) (And.intro (show (0 : Int) ≤ (↑i : Int) ∧ (↑i : Int) < (↑l.length : Int) from (by omega)) (And.intro e1' (And.intro (show (((↑i : Int) != (↑k : Int)) == true) = true from (by simp_all; done)) (And.intro (show (((↑i : Int) != (↑k : Int)) == true) = true from (by simp_all; done)) (And.intro (show 1 ≤ (AV.str (l.getD i (ByteArray.empty, ByteArray.empty)).fst :: AV.str (l.getD i (ByteArray.empty, ByteArray.empty)).snd :: flatA encT (List.drop (i + 1) l)).length from (by exact Nat.le_of_ble_eq_true (by kernel_rfl))) (And.intro (show (((↑i : Int) != (↑k : Int)) == true) = true from (by simp_all; done)) (And.intro (show (((↑i : Int) != (↑k : Int)) == true) = true from (by simp_all; done)) (And.intro (show (((↑i : Int) != (↑k : Int)) == true) = true from (by simp_all; done)) (And.intro (show (0 : Int) ≤ (↑k : Int) ∧ (↑k : Int) < (↑l.length : Int) from (by omega)) (And.intro e2' (And.intro (show (((↑i : Int) != (↑k : Int)) == true) = true from (by simp_all; done)) (And.intro (show (((↑i : Int) != (↑k : Int)) == true) = true from (by simp_all; done)) (And.intro (show 1 ≤ (AV.str (l.getD k (ByteArray.empty, ByteArray.empty)).fst :: AV.str (l.getD k (ByteArray.empty, ByteArray.empty)).snd :: flatA encT (List.drop (k + 1) l)).length from (by exact Nat.le_of_ble_eq_true (by kernel_rfl))) (And.intro (show (((↑i : Int) != (↑k : Int)) == true) = true from (by simp_all; done)) (And.intro e3' (And.intro (show (bif (↑i : Int) != (↑k : Int) then false else false) = false from (by simp_all; done)) e4'))))))))))))))))))))
  · have u := (c1_round l hl hok i m hi hm).2
    have at1 := encT_at l m hm
    have at2 := encT_at l i hi
    unfold clP at hf
    unfold r1S
    generalize unF (l.getD i tD).1 (l.getD m tD).1 = b at hf u
    have hq : ((i : Int) == (m : Int)) = false := by
      cases hh : ((i : Int) == (m : Int)) <;> simp_all
    rw [hq] at hf
    have hb : b = true := by simpa using hf
    subst hb
    have e1' := (congrArg (fun z => AV.fptr z) at2)
    have e2' := (congrArg (fun z => AV.fptr z) at1)
    have e3' := u
    exact g_x [⟨4, [], .br true .no⟩, ⟨9, [], .br true .no⟩, ⟨10, [], .br true .no⟩, ⟨11, [], .br true (.as (rhsOf e1'))⟩, ⟨12, [], .br true .no⟩, ⟨13, [], .br true .no⟩, ⟨14, [], .br true .no⟩, ⟨15, [], .br true .no⟩, ⟨16, [], .br true (.as (rhsOf e2'))⟩, ⟨17, [], .br true .no⟩, ⟨18, [], .br true .no⟩, ⟨19, [], .br true (.call (avOf e3') (blOf e3') [])⟩, ⟨21, [], .br true .no⟩] [.sel [2]] (And.intro (show decide ((↑m : Int) < (↑l.length : Int)) = true from (by rw [decide_eq_true_iff]; omega)) (And.intro (show (((↑i : Int) != (↑m : Int)) == true) = true from (by simp_all; done)) (And.intro (show (((↑i : Int) != (↑m : Int)) == true) = true from (by simp_all; done)) (And.intro (show (((↑i : Int) != (↑m : Int)) == true) = true from (by simp_all; done)) (And.intro (show (0 : Int) ≤ (↑i : Int) ∧ (↑i : Int) < (↑l.length : Int) from (by omega)) (And.intro e1' (And.intro (show (((↑i : Int) != (↑m : Int)) == true) = true from (by simp_all; done)) (And.intro (show (((↑i : Int) != (↑m : Int)) == true) = true from (by simp_all; done)) (And.intro (show 1 ≤ (AV.str (l.getD i (ByteArray.empty, ByteArray.empty)).fst :: AV.str (l.getD i (ByteArray.empty, ByteArray.empty)).snd :: flatA encT (List.drop (i + 1) l)).length from (by exact Nat.le_of_ble_eq_true (by kernel_rfl))) (And.intro (show (((↑i : Int) != (↑m : Int)) == true) = true from (by simp_all; done)) (And.intro (show (((↑i : Int) != (↑m : Int)) == true) = true from (by simp_all; done)) (And.intro (show (((↑i : Int) != (↑m : Int)) == true) = true from (by simp_all; done)) (And.intro (show (0 : Int) ≤ (↑m : Int) ∧ (↑m : Int) < (↑l.length : Int) from (by omega)) (And.intro e2' (And.intro (show (((↑i : Int) != (↑m : Int)) == true) = true from (by simp_all; done)) (And.intro (show (((↑i : Int) != (↑m : Int)) == true) = true from (by simp_all; done)) (And.intro (show 1 ≤ (AV.str (l.getD m (ByteArray.empty, ByteArray.empty)).fst :: AV.str (l.getD m (ByteArray.empty, ByteArray.empty)).snd :: flatA encT (List.drop (m + 1) l)).length from (by exact Nat.le_of_ble_eq_true (by kernel_rfl))) (And.intro (show (((↑i : Int) != (↑m : Int)) == true) = true from (by simp_all; done)) (And.intro e3' (show (bif (↑i : Int) != (↑m : Int) then true else false) = true from (by simp_all; done)))))))))))))))))))))
def r0S (l : List TE) (i : Nat) : St := stOf 33 [(0, filesV l), (3, .int .i64 (i : Int))] []
theorem clashR (l : List TE) (hl : l.length ≤ 1000) (hok : ∀ x ∈ l, OkT x) : CallsV Tryd.prog 25 [filesV l] [] (fun av H' => av = .bool (!clF l) ∧ H' = []) := by
  refine callsG_at Tryd.func25 (by kernel_rfl) ?_
  unfold clF
  rcases allN_or (fun i => clR l i) l.length with ⟨h1, h2⟩ | ⟨h1, m, hm, h2, h3⟩
  · have hL : LoopG Tryd.prog 0 Tryd.f25 0 (.exit 0) (stOf 33 [] []) (r0S l 0) := by
      refine loopG_of l.length (fun i => r0S l i) (by kernel_rfl) (by simp) ?_ ?_
      · intro i hi
        have hr : clR l i = true := h2 i hi
        rcases allN_or (fun k => !clP l i k) l.length with ⟨_, h5⟩ | ⟨h4, _⟩
        · have hI := r1L_T l hl hok i hi h5
          unfold r1S at hI
          unfold r0S
          have e1' := hI
          have e2' := (congrArg (fun z => AV.int .i64 z) (wrap_i64 (e := (↑i : Int) + (1 : Int)) (by omega) (by omega)))
          exact g_x [⟨4, [], .br true .no⟩, ⟨6, [.sel [0, 3, 4]], .loop (exOf e1') (endOf e1')⟩, ⟨8, [], .as (rhsOf e2')⟩] [.sel [0, 3]] (And.intro (show decide ((↑i : Int) < (↑l.length : Int)) = true from (by rw [decide_eq_true_iff]; omega)) (And.intro e1' e2'))
        · unfold clR at hr; rw [h4] at hr; cases hr
      · unfold r0S
        exact g_x [⟨4, [], .br false .no⟩] [.sel []] (show decide ((↑l.length : Int) < (↑l.length : Int)) = false from (by rw [decide_eq_false_iff_not]; omega))
    rw [h1, Bool.not_true]
    unfold r0S at hL
    have e1' := hL
    refine g_q [⟨2, [.sel [0, 3]], .loop (exOf e1') (endOf e1')⟩] [] Exit.ret (stOf 33 [(2, AV.bool false)] []) e1' ?_
    refine g_f [] [] (AV.bool false) ([]) trivial ?_
    exact ⟨rfl, rfl⟩
  · have hL : LoopG Tryd.prog 0 Tryd.f25 0 .ret (stOf 33 [(2, .bool true)] []) (r0S l 0) := by
      refine loopG_of m (fun i => r0S l i) (by kernel_rfl) (by simp) ?_ ?_
      · intro i hi
        have hr : clR l i = true := h2 i hi
        have hi : i < l.length := by omega
        rcases allN_or (fun k => !clP l i k) l.length with ⟨_, h5⟩ | ⟨h4, _⟩
        · have hI := r1L_T l hl hok i hi h5
          unfold r1S at hI
          unfold r0S
          have e1' := hI
          have e2' := (congrArg (fun z => AV.int .i64 z) (wrap_i64 (e := (↑i : Int) + (1 : Int)) (by omega) (by omega)))
          exact g_x [⟨4, [], .br true .no⟩, ⟨6, [.sel [0, 3, 4]], .loop (exOf e1') (endOf e1')⟩, ⟨8, [], .as (rhsOf e2')⟩] [.sel [0, 3]] (And.intro (show decide ((↑i : Int) < (↑l.length : Int)) = true from (by rw [decide_eq_true_iff]; omega)) (And.intro e1' e2'))
        · unfold clR at hr; rw [h4] at hr; cases hr
      · have hr : clR l m = false := h3
        rcases allN_or (fun k => !clP l m k) l.length with ⟨h4, _⟩ | ⟨_, k, hk, h5, h6⟩
        · unfold clR at hr; rw [h4] at hr; cases hr
        · have hI := r1L_F l hl hok m hm k hk h5 h6
          unfold r1S at hI
          unfold r0S
          have e1' := hI
          exact g_x [⟨4, [], .br true .no⟩, ⟨6, [.sel [0, 3, 4]], .loop (exOf e1') (endOf e1')⟩] [] (And.intro (show decide ((↑m : Int) < (↑l.length : Int)) = true from (by rw [decide_eq_true_iff]; omega)) e1')
    rw [h1, Bool.not_false]
    unfold r0S at hL
    have e1' := hL
    refine g_q [⟨2, [.sel [0, 3]], .loop (exOf e1') (endOf e1')⟩] [] Exit.ret (stOf 33 [(2, AV.bool true)] []) e1' ?_
    refine g_f [] [] (AV.bool true) ([]) trivial ?_
    exact ⟨rfl, rfl⟩
end Go.Proofs.YthcaeofgegfncaaDoor
namespace Go.Proofs.YthcaeofgegfncaaDoor
open Go Go.RowKit V
set_option linter.unusedSimpArgs false
set_option linter.unusedVariables false
set_option maxHeartbeats 20000000
abbrev leS (a b : ByteArray) : Bool := Op.bytesLess a.toList b.toList || a.toList == b.toList
/-- the first that does not hold -/
def fstN (f : Nat → Bool) (n : Nat) : Nat := (List.range n).findIdx fun k => !f k
theorem fstN_or (f : Nat → Bool) (n : Nat) : (fstN f n = n ∧ ∀ k, k < n → f k = true) ∨ (fstN f n < n ∧ (∀ k, k < fstN f n → f k = true) ∧ f (fstN f n) = false) := by
  have hle : fstN f n ≤ n := by
    have := List.findIdx_le_length (p := fun k => !f k) (xs := List.range n)
    rwa [List.length_range] at this
  have hb : ∀ k, k < fstN f n → f k = true := fun k hk => by
    have := List.not_of_lt_findIdx (p := fun k => !f k) (xs := List.range n) (i := k) hk
    rw [List.getElem_range] at this
    simpa using this
  rcases Nat.lt_or_ge (fstN f n) n with h | h
  · refine Or.inr ⟨h, hb, ?_⟩
    have := List.findIdx_getElem (p := fun k => !f k) (xs := List.range n) (w := by rw [List.length_range]; exact h)
    rw [List.getElem_range] at this
    have h2 : (!f (fstN f n)) = true := this
    rwa [Bool.not_eq_true'] at h2
  · exact Or.inl ⟨by omega, fun k hk => hb k (by omega)⟩
/-- what is wrong with a file -/
def stE (l : List TE) (i : Nat) : Int := if cfF (l.getD i tD) = 0 then (if (decide ((i : Int) > 0) && leS (l.getD i tD).1 (l.getD (i - 1) tD).1) = true then 9 else 0) else cfF (l.getD i tD)
def okE (l : List TE) (i : Nat) : Bool := stE l i == 0
def ckF (l : List TE) : Int := if 64 < l.length then 2 else if fstN (okE l) l.length < l.length then stE l (fstN (okE l) l.length) else bif clF l then 0 else 10
def ckS (l : List TE) (i : Nat) : St := stOf 41 [(1, .ptr 0 0), (11, filesV l), (12, .int .i64 (l.length : Int)), (13, .int .i64 (i : Int))] [.row 24 [filesV l]]
theorem ck_round (l : List TE) (hl : l.length ≤ 1000) (hok : ∀ x ∈ l, OkT x) (i : Nat) (hi : i < l.length) : (stE l i = 0 → GoV Tryd.prog 0 (loopB Tryd.f17 0) (isX .normal (ckS l (i + 1))) (ckS l i)) ∧ (stE l i ≠ 0 → GoV Tryd.prog 0 (loopB Tryd.f17 0) (isX .ret (stOf 41 [(2, .int .i64 (stE l i))] [])) (ckS l i)) := by
  have at1 := encT_at l i hi
  have cf := checkFile_v (l.getD i tD) (hok _ (getD_mem' hi tD))
  unfold stE
  by_cases h0 : cfF (l.getD i tD) = 0
  · rw [h0] at cf
    rw [if_pos h0]
    rcases Nat.eq_zero_or_pos i with h1 | h1
    · subst h1
      rw [if_neg (by simp)]
      refine ⟨fun _ => ?_, fun h => absurd rfl h⟩
      unfold ckS
      unfold encT at cf
      have e1' := (congrArg (fun z => AV.fptr z) at1)
      have e2' := cf
      exact g_x [⟨1, [], .br true .no⟩, ⟨3, [], .as (rhsOf e1')⟩, ⟨9, [], .call (avOf e2') (blOf e2') []⟩] [.sel [1, 11, 12, 13], .keep [0] [false]] (And.intro (show decide ((0 : Int) < (↑l.length : Int)) = true from (by rw [decide_eq_true_iff]; omega)) (And.intro (show (0 : Int) ≤ (0 : Int) ∧ (0 : Int) < (↑l.length : Int) from (by omega)) (And.intro e1' (And.intro (show 2 ≤ (AV.str (l.getD 0 (ByteArray.empty, ByteArray.empty)).fst :: AV.str (l.getD 0 (ByteArray.empty, ByteArray.empty)).snd :: flatA encT (List.drop 1 l)).length from (by exact Nat.le_of_ble_eq_true (by kernel_rfl))) (And.intro (show 2 ≤ 2 from (by omega)) (And.intro (show 2 ≤ 2 from (by omega)) (And.intro e2' (show false = true → false = true from (fun h => h)))))))))
    · have at2 := encT_at l (i - 1) (by omega)
      have e1 : ((i : Int) - 1).toNat = ((i - 1 : Nat) : Int).toNat := by omega
      have hd : decide ((i : Int) > 0) = true := decide_eq_true (by omega)
      have hb : 0 ≤ (i : Int) - 1 ∧ (i : Int) - 1 < (l.length : Int) := by omega
      rw [← e1] at at2
      rw [hd, Bool.true_and]
      cases hle : leS (l.getD i tD).1 (l.getD (i - 1) tD).1 with
      | true =>
        rw [if_pos rfl]
        refine ⟨fun h => absurd h (by decide), fun _ => ?_⟩
        unfold leS at hle
        unfold ckS
        unfold encT at cf
        have e1' := (congrArg (fun z => AV.fptr z) at1)
        have e2' := cf
        have e3' := (congrArg (fun z => AV.int .i64 z) (wrap_i64 (e := (↑i : Int) - (1 : Int)) (by omega) (by omega)))
        have e4' := (congrArg (fun z => AV.fptr z) at2)
        exact g_x [⟨1, [], .br true .no⟩, ⟨3, [], .as (rhsOf e1')⟩, ⟨9, [], .call (avOf e2') (blOf e2') []⟩, ⟨17, [], .br true .no⟩, ⟨18, [], .br true .no⟩, ⟨19, [], .br true .no⟩, ⟨20, [], .br true .no⟩, ⟨21, [], .br true .no⟩, ⟨22, [], .br true (.as (rhsOf e3'))⟩, ⟨23, [], .br true (.as (rhsOf e4'))⟩, ⟨24, [], .br true .no⟩, ⟨25, [], .br true .no⟩, ⟨26, [], .br true .no⟩, ⟨28, [], .br true .no⟩] [.sel [2], .keep [] []] (And.intro (show decide ((↑i : Int) < (↑l.length : Int)) = true from (by rw [decide_eq_true_iff]; omega)) (And.intro (show (0 : Int) ≤ (↑i : Int) ∧ (↑i : Int) < (↑l.length : Int) from (by omega)) (And.intro e1' (And.intro (show 2 ≤ (AV.str (l.getD i (ByteArray.empty, ByteArray.empty)).fst :: AV.str (l.getD i (ByteArray.empty, ByteArray.empty)).snd :: flatA encT (List.drop (i + 1) l)).length from (by exact Nat.le_of_ble_eq_true (by kernel_rfl))) (And.intro (show 2 ≤ 2 from (by omega)) (And.intro (show 2 ≤ 2 from (by omega)) (And.intro e2' (And.intro (congrArg (fun z => z == true) hd) (And.intro (congrArg (fun z => z == true) hd) (And.intro (show 1 ≤ 2 from (by omega)) (And.intro (congrArg (fun z => z == true) hd) (And.intro (congrArg (fun z => z == true) hd) (And.intro (show 1 ≤ 1 from (by omega)) (And.intro (congrArg (fun z => z == true) hd) (And.intro (congrArg (fun z => z == true) hd) (And.intro e3' (And.intro (congrArg (fun z => z == true) hd) (And.intro (show (0 : Int) ≤ (↑i : Int) - (1 : Int) ∧ (↑i : Int) - (1 : Int) < (↑l.length : Int) from (by omega)) (And.intro e4' (And.intro (congrArg (fun z => z == true) hd) (And.intro (congrArg (fun z => z == true) hd) (And.intro (show 1 ≤ (AV.str (l.getD (i - 1) (ByteArray.empty, ByteArray.empty)).fst :: AV.str (l.getD (i - 1) (ByteArray.empty, ByteArray.empty)).snd :: flatA encT (List.drop (i - 1 + 1) l)).length from (by exact Nat.le_of_ble_eq_true (by kernel_rfl))) (And.intro (congrArg (fun z => z == true) hd) (Eq.trans (congrArg (fun z => bif z then Op.bytesLess (l.getD i (ByteArray.empty, ByteArray.empty)).fst.toList (l.getD (i - 1) (ByteArray.empty, ByteArray.empty)).fst.toList || (l.getD i (ByteArray.empty, ByteArray.empty)).fst.toList == (l.getD (i - 1) (ByteArray.empty, ByteArray.empty)).fst.toList else false) hd) (congrArg (fun z => bif true then z else false) hle)))))))))))))))))))))))))
      | false =>
        rw [if_neg (by decide)]
        refine ⟨fun _ => ?_, fun h => absurd rfl h⟩
        unfold leS at hle
        unfold ckS
        unfold encT at cf
        have e1' := (congrArg (fun z => AV.fptr z) at1)
        have e2' := cf
        have e3' := (congrArg (fun z => AV.int .i64 z) (wrap_i64 (e := (↑i : Int) - (1 : Int)) (by omega) (by omega)))
        have e4' := (congrArg (fun z => AV.fptr z) at2)
        have e5' := (congrArg (fun z => AV.int .i64 z) (wrap_i64 (e := (↑i : Int) + (1 : Int)) (by omega) (by omega)))
        exact g_x [⟨1, [], .br true .no⟩, ⟨3, [], .as (rhsOf e1')⟩, ⟨9, [], .call (avOf e2') (blOf e2') []⟩, ⟨17, [], .br true .no⟩, ⟨18, [], .br true .no⟩, ⟨19, [], .br true .no⟩, ⟨20, [], .br true .no⟩, ⟨21, [], .br true .no⟩, ⟨22, [], .br true (.as (rhsOf e3'))⟩, ⟨23, [], .br true (.as (rhsOf e4'))⟩, ⟨24, [], .br true .no⟩, ⟨25, [], .br true .no⟩, ⟨26, [], .br true .no⟩, ⟨28, [], .br false .no⟩, ⟨29, [], .as (rhsOf e5')⟩] [.sel [1, 11, 12, 13], .keep [0] [false]] (And.intro (show decide ((↑i : Int) < (↑l.length : Int)) = true from (by rw [decide_eq_true_iff]; omega)) (And.intro (show (0 : Int) ≤ (↑i : Int) ∧ (↑i : Int) < (↑l.length : Int) from (by omega)) (And.intro e1' (And.intro (show 2 ≤ (AV.str (l.getD i (ByteArray.empty, ByteArray.empty)).fst :: AV.str (l.getD i (ByteArray.empty, ByteArray.empty)).snd :: flatA encT (List.drop (i + 1) l)).length from (by exact Nat.le_of_ble_eq_true (by kernel_rfl))) (And.intro (show 2 ≤ 2 from (by omega)) (And.intro (show 2 ≤ 2 from (by omega)) (And.intro e2' (And.intro (congrArg (fun z => z == true) hd) (And.intro (congrArg (fun z => z == true) hd) (And.intro (show 1 ≤ 2 from (by omega)) (And.intro (congrArg (fun z => z == true) hd) (And.intro (congrArg (fun z => z == true) hd) (And.intro (show 1 ≤ 1 from (by omega)) (And.intro (congrArg (fun z => z == true) hd) (And.intro (congrArg (fun z => z == true) hd) (And.intro e3' (And.intro (congrArg (fun z => z == true) hd) (And.intro (show (0 : Int) ≤ (↑i : Int) - (1 : Int) ∧ (↑i : Int) - (1 : Int) < (↑l.length : Int) from (by omega)) (And.intro e4' (And.intro (congrArg (fun z => z == true) hd) (And.intro (congrArg (fun z => z == true) hd) (And.intro (show 1 ≤ (AV.str (l.getD (i - 1) (ByteArray.empty, ByteArray.empty)).fst :: AV.str (l.getD (i - 1) (ByteArray.empty, ByteArray.empty)).snd :: flatA encT (List.drop (i - 1 + 1) l)).length from (by exact Nat.le_of_ble_eq_true (by kernel_rfl))) (And.intro (congrArg (fun z => z == true) hd) (And.intro (Eq.trans (congrArg (fun z => bif z then Op.bytesLess (l.getD i (ByteArray.empty, ByteArray.empty)).fst.toList (l.getD (i - 1) (ByteArray.empty, ByteArray.empty)).fst.toList || (l.getD i (ByteArray.empty, ByteArray.empty)).fst.toList == (l.getD (i - 1) (ByteArray.empty, ByteArray.empty)).fst.toList else false) hd) (congrArg (fun z => bif true then z else false) hle)) e5'))))))))))))))))))))))))
  · rw [if_neg h0]
    refine ⟨fun h => absurd h h0, fun _ => ?_⟩
    have hq : (cfF (l.getD i tD) == 0) = false := beq_eq_false_iff_ne.2 h0
    generalize cfF (l.getD i tD) = e at *
    unfold ckS
    unfold encT at cf
    have e1' := (congrArg (fun z => AV.fptr z) at1)
    have e2' := cf
    exact g_x [⟨1, [], .br true .no⟩, ⟨3, [], .as (rhsOf e1')⟩, ⟨9, [], .call (avOf e2') (blOf e2') []⟩, ⟨13, [], .br true .no⟩] [.sel [2], .keep [] []] (And.intro (show decide ((↑i : Int) < (↑l.length : Int)) = true from (by rw [decide_eq_true_iff]; omega)) (And.intro (show (0 : Int) ≤ (↑i : Int) ∧ (↑i : Int) < (↑l.length : Int) from (by omega)) (And.intro e1' (And.intro (show 2 ≤ (AV.str (l.getD i (ByteArray.empty, ByteArray.empty)).fst :: AV.str (l.getD i (ByteArray.empty, ByteArray.empty)).snd :: flatA encT (List.drop (i + 1) l)).length from (by exact Nat.le_of_ble_eq_true (by kernel_rfl))) (And.intro (show 2 ≤ 2 from (by omega)) (And.intro (show 2 ≤ 2 from (by omega)) (And.intro e2' (show (e != (0 : Int)) = true from (by simp_all; done)))))))))
theorem check_v (l : List TE) (hl : l.length ≤ 1000) (hok : ∀ x ∈ l, OkT x) : CallsV Tryd.prog 17 [treeV l] [] (fun av H' => av = .int .i64 (ckF l) ∧ H' = []) := by
  refine callsG_at Tryd.func17 (by kernel_rfl) ?_
  unfold ckF
  by_cases h64 : 64 < l.length
  · rw [if_pos h64]
    refine g_q [⟨6, [], .br true .no⟩] [.sel [2]] Exit.ret (stOf 41 [(2, AV.int .i64 (2 : Int))] [Blk.row 24 [AV.slv l.length 2 (flatA encT l)]]) (And.intro (show 1 ≤ 1 from (by omega)) (show decide ((↑l.length : Int) > (64 : Int)) = true from (by rw [decide_eq_true_iff]; omega))) ?_
    refine g_f [] [] (AV.int .i64 (2 : Int)) ([]) trivial ?_
    exact ⟨rfl, rfl⟩
  · rw [if_neg h64]
    rcases fstN_or (okE l) l.length with ⟨h1, h2⟩ | ⟨h1, h2, h3⟩
    · have hL : LoopG Tryd.prog 0 Tryd.f17 0 (.exit 0) (stOf 41 [(1, .ptr 0 0)] [.row 24 [filesV l]]) (ckS l 0) := by
        refine loopG_of l.length (fun i => ckS l i) (by kernel_rfl) (by simp) ?_ ?_
        · intro i hi
          exact (ck_round l hl hok i hi).1 (eq_of_beq (h2 i hi))
        · unfold ckS
          exact g_x [⟨1, [], .br false .no⟩] [.sel [1]] (show decide ((↑l.length : Int) < (↑l.length : Int)) = false from (by rw [decide_eq_false_iff_not]; omega))
      have cl := clash_v l hl hok
      rw [h1, if_neg (by omega)]
      unfold ckS at hL
      have e1' := hL
      have e2' := cl
      refine g_q [⟨6, [], .br false .no⟩, ⟨11, [.sel [1, 11, 12, 13]], .loop (exOf e1') (endOf e1')⟩, ⟨14, [], .call (avOf e2') (blOf e2') []⟩] [.sel [2]] Exit.ret (stOf 41 [(2, AV.int .i64 (bif clF l then (0 : Int) else (10 : Int)))] [Blk.row 24 [AV.slv l.length 2 (flatA encT l)]]) (And.intro (show 1 ≤ 1 from (by omega)) (And.intro (show decide ((↑l.length : Int) > (64 : Int)) = false from (by rw [decide_eq_false_iff_not]; omega)) (And.intro (show 1 ≤ 1 from (by omega)) (And.intro e1' (And.intro (show 1 ≤ 1 from (by omega)) e2'))))) ?_
      refine g_f [] [] (AV.int .i64 (bif clF l then (0 : Int) else (10 : Int))) ([]) trivial ?_
      exact ⟨rfl, rfl⟩
    · have hL : LoopG Tryd.prog 0 Tryd.f17 0 .ret (stOf 41 [(2, .int .i64 (stE l (fstN (okE l) l.length)))] []) (ckS l 0) := by
        refine loopG_of (fstN (okE l) l.length) (fun i => ckS l i) (by kernel_rfl) (by simp) ?_ ?_
        · intro i hi
          exact (ck_round l hl hok i (by omega)).1 (eq_of_beq (h2 i hi))
        · exact (ck_round l hl hok _ h1).2 (fun h => by rw [okE, h] at h3; cases h3)
      rw [if_pos h1]
      unfold ckS at hL
      have e1' := hL
      refine g_q [⟨6, [], .br false .no⟩, ⟨11, [.sel [1, 11, 12, 13]], .loop (exOf e1') (endOf e1')⟩] [] Exit.ret (stOf 41 [(2, AV.int .i64 (stE l (fstN (okE l) l.length)))] []) (And.intro (show 1 ≤ 1 from (by omega)) (And.intro (show decide ((↑l.length : Int) > (64 : Int)) = false from (by rw [decide_eq_false_iff_not]; omega)) (And.intro (show 1 ≤ 1 from (by omega)) e1'))) ?_
      refine g_f [] [] (AV.int .i64 (stE l (fstN (okE l) l.length))) ([]) trivial ?_
      exact ⟨rfl, rfl⟩
def krS (l : List TE) (i : Nat) : St := stOf 49 [(1, .ptr 0 0), (3, .int .i64 (i : Int))] [.row 24 [filesV l]]
theorem kr_round (l : List TE) (hl : l.length ≤ 1000) (hok : ∀ x ∈ l, OkT x) (i : Nat) (hi : i < l.length) : (stE l i = 0 → GoV Tryd.prog 0 (loopB Tryd.f18 0) (isX .normal (krS l (i + 1))) (krS l i)) ∧ (stE l i ≠ 0 → GoV Tryd.prog 0 (loopB Tryd.f18 0) (isX .ret (stOf 49 [(2, .int .i64 (stE l i))] [])) (krS l i)) := by
  have at1 : (flatA encT l).drop ((i : Int).toNat * 2) = AV.str (l.getD i tD).1 :: AV.str (l.getD i tD).2 :: flatA encT (l.drop (i + 1)) := encT_at l i hi
  have hx := (hok _ (getD_mem' hi tD)).1
  have vr := (valid_v (l.getD i tD).1 hx).2
  unfold stE cfF
  cases hv : vaF (l.getD i tD).1 with
  | false =>
    rw [hv] at vr
    rw [if_neg (show ¬ (false = true) by decide), if_neg (show ¬ ((8 : Int) = 0) by decide)]
    refine ⟨fun h => absurd h (by decide), fun _ => ?_⟩
    unfold krS
    have e1' := (congrArg (fun z => AV.fptr z) at1)
    have e2' := vr
    exact g_x [⟨5, [], .br true .no⟩, ⟨9, [], .as (rhsOf e1')⟩, ⟨15, [], .call (avOf e2') (blOf e2') []⟩] [.sel [2], .keep [] []] (And.intro (show 1 ≤ 1 from (by omega)) (And.intro (show decide ((↑i : Int) < (↑l.length : Int)) = true from (by rw [decide_eq_true_iff]; omega)) (And.intro (show 1 ≤ 1 from (by omega)) (And.intro (show (0 : Int) ≤ (↑i : Int) ∧ (↑i : Int) < (↑l.length : Int) from (by omega)) (And.intro e1' (And.intro (show 2 ≤ (AV.str (l.getD i tD).fst :: AV.str (l.getD i tD).snd :: flatA encT (List.drop (i + 1) l)).length from (by exact Nat.le_of_ble_eq_true (by kernel_rfl))) (And.intro (show 2 ≤ 2 from (by omega)) (And.intro (show 1 ≤ 2 from (by omega)) e2'))))))))
  | true =>
    rw [hv] at vr
    rw [if_pos rfl]
    by_cases h4 : (l.getD i tD).2.size ≤ 4096
    · rw [if_pos h4, if_pos rfl]
      rcases Nat.eq_zero_or_pos i with h1 | h1
      · subst h1
        rw [if_neg (by simp)]
        refine ⟨fun _ => ?_, fun h => absurd rfl h⟩
        unfold krS
        have e1' := (congrArg (fun z => AV.fptr z) at1)
        have e2' := vr
        exact g_x [⟨5, [], .br true .no⟩, ⟨9, [], .as (rhsOf e1')⟩, ⟨15, [], .call (avOf e2') (blOf e2') []⟩, ⟨24, [], .br false .no⟩] [.sel [1, 3], .keep [0] [false]] (And.intro (show 1 ≤ 1 from (by omega)) (And.intro (show decide ((0 : Int) < (↑l.length : Int)) = true from (by rw [decide_eq_true_iff]; omega)) (And.intro (show 1 ≤ 1 from (by omega)) (And.intro (show (0 : Int) ≤ (0 : Int) ∧ (0 : Int) < (↑l.length : Int) from (by omega)) (And.intro e1' (And.intro (show 2 ≤ (AV.str (l.getD 0 tD).fst :: AV.str (l.getD 0 tD).snd :: flatA encT (List.drop 1 l)).length from (by exact Nat.le_of_ble_eq_true (by kernel_rfl))) (And.intro (show 2 ≤ 2 from (by omega)) (And.intro (show 1 ≤ 2 from (by omega)) (And.intro e2' (And.intro (show 1 ≤ 1 from (by omega)) (And.intro (show decide ((↑(l.getD 0 tD).snd.size : Int) > (4096 : Int)) = false from (by rw [decide_eq_false_iff_not]; omega)) (show false = true → false = true from (fun h => h)))))))))))))
      · have at2 := encT_at l (i - 1) (by omega)
        have e1 : ((i : Int) - 1).toNat = ((i - 1 : Nat) : Int).toNat := by omega
        have hd : decide ((i : Int) > 0) = true := decide_eq_true (by omega)
        have hb : 0 ≤ (i : Int) - 1 ∧ (i : Int) - 1 < (l.length : Int) := by omega
        rw [← e1] at at2
        rw [hd, Bool.true_and]
        cases hle : leS (l.getD i tD).1 (l.getD (i - 1) tD).1 with
        | true =>
          rw [if_pos rfl]
          refine ⟨fun h => absurd h (by decide), fun _ => ?_⟩
          unfold leS at hle
          unfold krS
          have e1' := (congrArg (fun z => AV.fptr z) at1)
          have e2' := vr
          have e3' := (congrArg (fun z => AV.int .i64 z) (wrap_i64 (e := (↑i : Int) - (1 : Int)) (by omega) (by omega)))
          have e4' := (congrArg (fun z => AV.fptr z) at2)
          exact g_x [⟨5, [], .br true .no⟩, ⟨9, [], .as (rhsOf e1')⟩, ⟨15, [], .call (avOf e2') (blOf e2') []⟩, ⟨24, [], .br false .no⟩, ⟨28, [], .br true .no⟩, ⟨29, [], .br true .no⟩, ⟨30, [], .br true .no⟩, ⟨31, [], .br true .no⟩, ⟨32, [], .br true .no⟩, ⟨33, [], .br true (.as (rhsOf e3'))⟩, ⟨34, [], .br true (.as (rhsOf e4'))⟩, ⟨35, [], .br true .no⟩, ⟨36, [], .br true .no⟩, ⟨37, [], .br true .no⟩, ⟨40, [], .br true .no⟩] [.sel [2], .keep [] []] (And.intro (show 1 ≤ 1 from (by omega)) (And.intro (show decide ((↑i : Int) < (↑l.length : Int)) = true from (by rw [decide_eq_true_iff]; omega)) (And.intro (show 1 ≤ 1 from (by omega)) (And.intro (show (0 : Int) ≤ (↑i : Int) ∧ (↑i : Int) < (↑l.length : Int) from (by omega)) (And.intro e1' (And.intro (show 2 ≤ (AV.str (l.getD i tD).fst :: AV.str (l.getD i tD).snd :: flatA encT (List.drop (i + 1) l)).length from (by exact Nat.le_of_ble_eq_true (by kernel_rfl))) (And.intro (show 2 ≤ 2 from (by omega)) (And.intro (show 1 ≤ 2 from (by omega)) (And.intro e2' (And.intro (show 1 ≤ 1 from (by omega)) (And.intro (show decide ((↑(l.getD i tD).snd.size : Int) > (4096 : Int)) = false from (by rw [decide_eq_false_iff_not]; omega)) (And.intro (congrArg (fun z => z == true) hd) (And.intro (congrArg (fun z => z == true) hd) (And.intro (show 1 ≤ 2 from (by omega)) (And.intro (congrArg (fun z => z == true) hd) (And.intro (congrArg (fun z => z == true) hd) (And.intro (show 1 ≤ 1 from (by omega)) (And.intro (congrArg (fun z => z == true) hd) (And.intro (congrArg (fun z => z == true) hd) (And.intro e3' (And.intro (congrArg (fun z => z == true) hd) (And.intro (show (0 : Int) ≤ (↑i : Int) - (1 : Int) ∧ (↑i : Int) - (1 : Int) < (↑l.length : Int) from (by omega)) (And.intro e4' (And.intro (congrArg (fun z => z == true) hd) (And.intro (congrArg (fun z => z == true) hd) (And.intro (show 1 ≤ (AV.str (l.getD (i - 1) (ByteArray.empty, ByteArray.empty)).fst :: AV.str (l.getD (i - 1) (ByteArray.empty, ByteArray.empty)).snd :: flatA encT (List.drop (i - 1 + 1) l)).length from (by exact Nat.le_of_ble_eq_true (by kernel_rfl))) (And.intro (congrArg (fun z => z == true) hd) (Eq.trans (congrArg (fun z => bif z then Op.bytesLess (l.getD i tD).fst.toList (l.getD (i - 1) (ByteArray.empty, ByteArray.empty)).fst.toList || (l.getD i tD).fst.toList == (l.getD (i - 1) (ByteArray.empty, ByteArray.empty)).fst.toList else false) hd) (congrArg (fun z => bif true then z else false) hle)))))))))))))))))))))))))))))
        | false =>
          rw [if_neg (by decide)]
          refine ⟨fun _ => ?_, fun h => absurd rfl h⟩
          unfold leS at hle
          unfold krS
          have e1' := (congrArg (fun z => AV.fptr z) at1)
          have e2' := vr
          have e3' := (congrArg (fun z => AV.int .i64 z) (wrap_i64 (e := (↑i : Int) - (1 : Int)) (by omega) (by omega)))
          have e4' := (congrArg (fun z => AV.fptr z) at2)
          have e5' := (congrArg (fun z => AV.int .i64 z) (wrap_i64 (e := (↑i : Int) + (1 : Int)) (by omega) (by omega)))
          exact g_x [⟨5, [], .br true .no⟩, ⟨9, [], .as (rhsOf e1')⟩, ⟨15, [], .call (avOf e2') (blOf e2') []⟩, ⟨24, [], .br false .no⟩, ⟨28, [], .br true .no⟩, ⟨29, [], .br true .no⟩, ⟨30, [], .br true .no⟩, ⟨31, [], .br true .no⟩, ⟨32, [], .br true .no⟩, ⟨33, [], .br true (.as (rhsOf e3'))⟩, ⟨34, [], .br true (.as (rhsOf e4'))⟩, ⟨35, [], .br true .no⟩, ⟨36, [], .br true .no⟩, ⟨37, [], .br true .no⟩, ⟨40, [], .br false .no⟩, ⟨42, [], .as (rhsOf e5')⟩] [.sel [1, 3], .keep [0] [false]] (And.intro (show 1 ≤ 1 from (by omega)) (And.intro (show decide ((↑i : Int) < (↑l.length : Int)) = true from (by rw [decide_eq_true_iff]; omega)) (And.intro (show 1 ≤ 1 from (by omega)) (And.intro (show (0 : Int) ≤ (↑i : Int) ∧ (↑i : Int) < (↑l.length : Int) from (by omega)) (And.intro e1' (And.intro (show 2 ≤ (AV.str (l.getD i tD).fst :: AV.str (l.getD i tD).snd :: flatA encT (List.drop (i + 1) l)).length from (by exact Nat.le_of_ble_eq_true (by kernel_rfl))) (And.intro (show 2 ≤ 2 from (by omega)) (And.intro (show 1 ≤ 2 from (by omega)) (And.intro e2' (And.intro (show 1 ≤ 1 from (by omega)) (And.intro (show decide ((↑(l.getD i tD).snd.size : Int) > (4096 : Int)) = false from (by rw [decide_eq_false_iff_not]; omega)) (And.intro (congrArg (fun z => z == true) hd) (And.intro (congrArg (fun z => z == true) hd) (And.intro (show 1 ≤ 2 from (by omega)) (And.intro (congrArg (fun z => z == true) hd) (And.intro (congrArg (fun z => z == true) hd) (And.intro (show 1 ≤ 1 from (by omega)) (And.intro (congrArg (fun z => z == true) hd) (And.intro (congrArg (fun z => z == true) hd) (And.intro e3' (And.intro (congrArg (fun z => z == true) hd) (And.intro (show (0 : Int) ≤ (↑i : Int) - (1 : Int) ∧ (↑i : Int) - (1 : Int) < (↑l.length : Int) from (by omega)) (And.intro e4' (And.intro (congrArg (fun z => z == true) hd) (And.intro (congrArg (fun z => z == true) hd) (And.intro (show 1 ≤ (AV.str (l.getD (i - 1) (ByteArray.empty, ByteArray.empty)).fst :: AV.str (l.getD (i - 1) (ByteArray.empty, ByteArray.empty)).snd :: flatA encT (List.drop (i - 1 + 1) l)).length from (by exact Nat.le_of_ble_eq_true (by kernel_rfl))) (And.intro (congrArg (fun z => z == true) hd) (And.intro (Eq.trans (congrArg (fun z => bif z then Op.bytesLess (l.getD i tD).fst.toList (l.getD (i - 1) (ByteArray.empty, ByteArray.empty)).fst.toList || (l.getD i tD).fst.toList == (l.getD (i - 1) (ByteArray.empty, ByteArray.empty)).fst.toList else false) hd) (congrArg (fun z => bif true then z else false) hle)) e5'))))))))))))))))))))))))))))
    · rw [if_neg h4, if_neg (show ¬ ((2 : Int) = 0) by decide)]
      refine ⟨fun h => absurd h (by decide), fun _ => ?_⟩
      unfold krS
      have e1' := (congrArg (fun z => AV.fptr z) at1)
      have e2' := vr
      exact g_x [⟨5, [], .br true .no⟩, ⟨9, [], .as (rhsOf e1')⟩, ⟨15, [], .call (avOf e2') (blOf e2') []⟩, ⟨24, [], .br true .no⟩] [.sel [2], .keep [] []] (And.intro (show 1 ≤ 1 from (by omega)) (And.intro (show decide ((↑i : Int) < (↑l.length : Int)) = true from (by rw [decide_eq_true_iff]; omega)) (And.intro (show 1 ≤ 1 from (by omega)) (And.intro (show (0 : Int) ≤ (↑i : Int) ∧ (↑i : Int) < (↑l.length : Int) from (by omega)) (And.intro e1' (And.intro (show 2 ≤ (AV.str (l.getD i tD).fst :: AV.str (l.getD i tD).snd :: flatA encT (List.drop (i + 1) l)).length from (by exact Nat.le_of_ble_eq_true (by kernel_rfl))) (And.intro (show 2 ≤ 2 from (by omega)) (And.intro (show 1 ≤ 2 from (by omega)) (And.intro e2' (And.intro (show 1 ≤ 1 from (by omega)) (show decide ((↑(l.getD i tD).snd.size : Int) > (4096 : Int)) = true from (by rw [decide_eq_true_iff]; omega))))))))))))
theorem checkR (l : List TE) (hl : l.length ≤ 1000) (hok : ∀ x ∈ l, OkT x) : CallsV Tryd.prog 18 [treeV l] [] (fun av H' => av = .int .i64 (ckF l) ∧ H' = []) := by
  refine callsG_at Tryd.func18 (by kernel_rfl) ?_
  unfold ckF
  by_cases h64 : 64 < l.length
  · rw [if_pos h64]
    refine g_q [⟨6, [], .br true .no⟩] [.sel [2]] Exit.ret (stOf 49 [(2, AV.int .i64 (2 : Int))] [Blk.row 24 [AV.slv l.length 2 (flatA encT l)]]) (And.intro (show 1 ≤ 1 from (by omega)) (show decide ((↑l.length : Int) > (64 : Int)) = true from (by rw [decide_eq_true_iff]; omega))) ?_
    refine g_f [] [] (AV.int .i64 (2 : Int)) ([]) trivial ?_
    exact ⟨rfl, rfl⟩
  · rw [if_neg h64]
    rcases fstN_or (okE l) l.length with ⟨h1, h2⟩ | ⟨h1, h2, h3⟩
    · have hL : LoopG Tryd.prog 0 Tryd.f18 0 (.exit 0) (stOf 49 [(1, .ptr 0 0)] [.row 24 [filesV l]]) (krS l 0) := by
        refine loopG_of l.length (fun i => krS l i) (by kernel_rfl) (by simp) ?_ ?_
        · intro i hi
          exact (kr_round l hl hok i hi).1 (eq_of_beq (h2 i hi))
        · unfold krS
          exact g_x [⟨5, [], .br false .no⟩] [.sel [1]] (And.intro (show 1 ≤ 1 from (by omega)) (show decide ((↑l.length : Int) < (↑l.length : Int)) = false from (by rw [decide_eq_false_iff_not]; omega)))
      have cl := clashR l hl hok
      rw [h1, if_neg (by omega)]
      unfold krS at hL
      cases hc : clF l with
      | true =>
        rw [hc] at cl
        have e1' := hL
        have e2' := cl
        refine g_q [⟨6, [], .br false .no⟩, ⟨8, [.sel [1, 3]], .loop (exOf e1') (endOf e1')⟩, ⟨11, [], .call (avOf e2') (blOf e2') []⟩] [.sel [2]] Exit.ret (stOf 49 [(2, AV.int .i64 (0 : Int))] [Blk.row 24 [AV.slv l.length 2 (flatA encT l)]]) (And.intro (show 1 ≤ 1 from (by omega)) (And.intro (show decide ((↑l.length : Int) > (64 : Int)) = false from (by rw [decide_eq_false_iff_not]; omega)) (And.intro e1' (And.intro (show 1 ≤ 1 from (by omega)) e2')))) ?_
        refine g_f [] [] (AV.int .i64 (0 : Int)) ([]) trivial ?_
        exact ⟨rfl, rfl⟩
      | false =>
        rw [hc] at cl
        have e1' := hL
        have e2' := cl
        refine g_q [⟨6, [], .br false .no⟩, ⟨8, [.sel [1, 3]], .loop (exOf e1') (endOf e1')⟩, ⟨11, [], .call (avOf e2') (blOf e2') []⟩] [.sel [2]] Exit.ret (stOf 49 [(2, AV.int .i64 (10 : Int))] [Blk.row 24 [AV.slv l.length 2 (flatA encT l)]]) (And.intro (show 1 ≤ 1 from (by omega)) (And.intro (show decide ((↑l.length : Int) > (64 : Int)) = false from (by rw [decide_eq_false_iff_not]; omega)) (And.intro e1' (And.intro (show 1 ≤ 1 from (by omega)) e2')))) ?_
        refine g_f [] [] (AV.int .i64 (10 : Int)) ([]) trivial ?_
        exact ⟨rfl, rfl⟩
    · have hL : LoopG Tryd.prog 0 Tryd.f18 0 .ret (stOf 49 [(2, .int .i64 (stE l (fstN (okE l) l.length)))] []) (krS l 0) := by
        refine loopG_of (fstN (okE l) l.length) (fun i => krS l i) (by kernel_rfl) (by simp) ?_ ?_
        · intro i hi
          exact (kr_round l hl hok i (by omega)).1 (eq_of_beq (h2 i hi))
        · exact (kr_round l hl hok _ h1).2 (fun h => by rw [okE, h] at h3; cases h3)
      rw [if_pos h1]
      unfold krS at hL
      have e1' := hL
      refine g_q [⟨6, [], .br false .no⟩, ⟨8, [.sel [1, 3]], .loop (exOf e1') (endOf e1')⟩] [] Exit.ret (stOf 49 [(2, AV.int .i64 (stE l (fstN (okE l) l.length)))] []) (And.intro (show 1 ≤ 1 from (by omega)) (And.intro (show decide ((↑l.length : Int) > (64 : Int)) = false from (by rw [decide_eq_false_iff_not]; omega)) e1')) ?_
      refine g_f [] [] (AV.int .i64 (stE l (fstN (okE l) l.length))) ([]) trivial ?_
      exact ⟨rfl, rfl⟩
end Go.Proofs.YthcaeofgegfncaaDoor
namespace Go.Proofs.YthcaeofgegfncaaDoor
open Go Go.RowKit V
set_option linter.unusedSimpArgs false
set_option linter.unusedVariables false
set_option maxHeartbeats 20000000
def woK (l : List TE) (p : ByteArray) (k : Nat) : List TE := (l.take k).filter fun x => !(x.1.toList == p.toList)
theorem woK_next (l : List TE) (p : ByteArray) (k : Nat) (hk : k < l.length) : woK l p (k + 1) = if (l.getD k tD).1.toList == p.toList then woK l p k else woK l p k ++ [l.getD k tD] := by
  unfold woK
  rw [List.take_succ_eq_append_getElem hk, List.filter_append, List.getD_eq_getElem?_getD, List.getElem?_eq_getElem hk]
  simp only [Option.getD_some]
  cases h : l[k].1.toList == p.toList <;> simp [h]
theorem woK_len (l : List TE) (p : ByteArray) (k : Nat) : (woK l p k).length ≤ l.length := by
  unfold woK
  exact Nat.le_trans (List.length_filter_le _ _) (by rw [List.length_take]; omega)
def woS (l : List TE) (p : ByteArray) (k : Nat) (o : List TE) : St := stOf 31 [(1, .str p), (2, .ptr 0 0), (5, .sl 1 0 o.length 2), (6, .int .i64 (k : Int))] [.row 24 [filesV l], .row 46 (flatA encT o)]
theorem withoutR (l : List TE) (p : ByteArray) (hl : l.length ≤ 1000) : CallsV Tryd.prog 28 [treeV l, .str p] [] (fun av H' => av = .sl 0 0 (woK l p l.length).length 2 ∧ H' = [.row 46 (flatA encT (woK l p l.length))]) := by
  refine callsG_at Tryd.func28 (by kernel_rfl) ?_
  have hL : LoopG Tryd.prog 0 Tryd.f28 0 (.exit 0) (stOf 31 [(5, .sl 0 0 (woK l p l.length).length 2)] [.row 46 (flatA encT (woK l p l.length))]) (woS l p 0 []) := by
    refine loopG_of l.length (fun k => woS l p k (woK l p k)) (by kernel_rfl) (by simp [woK]) ?_ ?_
    · intro k hk
      have at1 : (flatA encT l).drop ((k : Int).toNat * 2) = AV.str (l.getD k tD).1 :: AV.str (l.getD k tD).2 :: flatA encT (l.drop (k + 1)) := encT_at l k hk
      rw [woK_next l p k hk]
      have hn := woK_len l p k
      generalize woK l p k = o at *
      generalize l.getD k tD = x at *
      have hsn := encT_snoc o x
      have hge := encT_ge o
      cases hq : x.1.toList == p.toList with
      | true =>
        rw [if_pos rfl]
        unfold woS
        have e1' := (congrArg (fun z => AV.fptr z) at1)
        have e2' := (congrArg (fun z => AV.int .i64 z) (wrap_i64 (e := (↑k : Int) + (1 : Int)) (by omega) (by omega)))
        exact g_x [⟨5, [], .br true .no⟩, ⟨9, [], .as (rhsOf e1')⟩, ⟨14, [], .br false .no⟩, ⟨16, [], .as (rhsOf e2')⟩] [.sel [1, 2, 5, 6]] (And.intro (show 1 ≤ 1 from (by omega)) (And.intro (show decide ((↑k : Int) < (↑l.length : Int)) = true from (by rw [decide_eq_true_iff]; omega)) (And.intro (show 1 ≤ 1 from (by omega)) (And.intro (show (0 : Int) ≤ (↑k : Int) ∧ (↑k : Int) < (↑l.length : Int) from (by omega)) (And.intro e1' (And.intro (show 1 ≤ (AV.str x.fst :: AV.str x.snd :: flatA encT (List.drop (k + 1) l)).length from (by exact Nat.le_of_ble_eq_true (by kernel_rfl))) (And.intro (congrArg (fun z => !z) hq) e2')))))))
      | false =>
        rw [if_neg (by decide)]
        unfold woS
        rw [List.length_append, List.length_singleton]
        have e1' := (congrArg (fun z => AV.fptr z) at1)
        have e2' := (congrArg (fun z => Blk.row 46 z) hsn)
        have e3' := (congrArg (fun z => AV.int .i64 z) (wrap_i64 (e := (↑k : Int) + (1 : Int)) (by omega) (by omega)))
        exact g_x [⟨5, [], .br true .no⟩, ⟨9, [], .as (rhsOf e1')⟩, ⟨14, [], .br true .no⟩, ⟨19, [], .as (rhsOf e1')⟩, ⟨23, [.hp 3 (rhsOf e2')], .no⟩, ⟨25, [], .as (rhsOf e3')⟩] [.sel [1, 2, 5, 6], .keep [0, 3] [false, true]] (And.intro (show 1 ≤ 1 from (by omega)) (And.intro (show decide ((↑k : Int) < (↑l.length : Int)) = true from (by rw [decide_eq_true_iff]; omega)) (And.intro (show 1 ≤ 1 from (by omega)) (And.intro (show (0 : Int) ≤ (↑k : Int) ∧ (↑k : Int) < (↑l.length : Int) from (by omega)) (And.intro e1' (And.intro (show 1 ≤ (AV.str x.fst :: AV.str x.snd :: flatA encT (List.drop (k + 1) l)).length from (by exact Nat.le_of_ble_eq_true (by kernel_rfl))) (And.intro (congrArg (fun z => !z) hq) (And.intro (show 1 ≤ 1 from (by omega)) (And.intro (show (0 : Int) ≤ (↑k : Int) ∧ (↑k : Int) < (↑l.length : Int) from (by omega)) (And.intro e1' (And.intro (show 2 ≤ (AV.str x.fst :: AV.str x.snd :: flatA encT (List.drop (k + 1) l)).length from (by exact Nat.le_of_ble_eq_true (by kernel_rfl))) (And.intro (show o.length * 2 ≤ (flatA encT o).length from (by omega)) (And.intro (show 2 ≤ 2 from (by omega)) (And.intro (show (o.length + 1) * 32 ≤ 140737488355328 from (by omega)) (And.intro (show o.length + 1 ≤ maxLen from (by (unfold maxLen; omega))) (And.intro (congrArg some e2') (And.intro e3' (show ∀ (x_1 : AV), x_1 ∈ flatA encT (o ++ [x]) → noid0 x_1 = true from encT_noid (o ++ [x])))))))))))))))))))
    · generalize woK l p l.length = o
      unfold woS
      exact g_x [⟨5, [], .br false .no⟩] [.sel [5], .keep [1] [true]] (And.intro (show 1 ≤ 1 from (by omega)) (And.intro (show decide ((↑l.length : Int) < (↑l.length : Int)) = false from (by rw [decide_eq_false_iff_not]; omega)) (show ∀ (x : AV), x ∈ flatA encT o → noid0 x = true from encT_noid o)))
  generalize woK l p l.length = o at *
  unfold woS at hL
  have e1' := hL
  refine g_q [⟨4, [.sel [1, 2, 5, 6], .own 5 46 2], .loop (exOf e1') (endOf e1')⟩] [.sel [4]] Exit.ret (stOf 31 [(4, AV.sl 0 0 o.length 2)] [Blk.row 46 (flatA encT o)]) e1' ?_
  refine g_f [0] [true] (AV.sl 0 0 o.length 2) ([Blk.row 46 (flatA encT o)]) (show ∀ (x : AV), x ∈ flatA encT o → noid0 x = true from encT_noid o) ?_
  exact ⟨rfl, rfl⟩
def kF (o : List TE) (x : TE) : Nat := o.findIdx fun y => !ltE y x
theorem kF_le (o : List TE) (x : TE) : kF o x ≤ o.length := List.findIdx_le_length
theorem kF_lt (o : List TE) (x : TE) (k : Nat) (h : k < kF o x) : ltE (o.getD k tD) x = true := by
  have hle := kF_le o x
  have := List.not_of_lt_findIdx (p := fun y => !ltE y x) (xs := o) (i := k) h
  rw [List.getD_eq_getElem?_getD, List.getElem?_eq_getElem (by omega)]
  simpa using this
theorem kF_at (o : List TE) (x : TE) (h : kF o x < o.length) : ltE (o.getD (kF o x) tD) x = false := by
  have := List.findIdx_getElem (p := fun y => !ltE y x) (xs := o) (w := h)
  rw [List.getD_eq_getElem?_getD, List.getElem?_eq_getElem h]
  have h2 : (!ltE (o[kF o x]'h) x) = true := this
  rw [Bool.not_eq_true'] at h2
  exact h2
theorem insR_split (x : TE) : ∀ o : List TE, insR x o = o.take (kF o x) ++ x :: o.drop (kF o x)
  | [] => rfl
  | y :: r => by
    have ih := insR_split x r
    unfold insR kF
    rw [List.findIdx_cons]
    cases h : ltE y x with
    | true =>
      rw [if_pos rfl]
      simp only [Bool.not_true, cond_false]
      rw [List.take_succ_cons, List.drop_succ_cons, List.cons_append]
      exact congrArg (y :: ·) ih
    | false =>
      rw [if_neg (by decide)]
      rfl
def bkS (l o : List TE) (i k : Nat) : St := stOf 89 [(0, filesV l), (2, .ptr 0 0), (4, .sl 1 0 o.length 2), (5, .int .i64 (i : Int)), (6, .int .i64 (k : Int))] [.row 24 [.nilsl], .row 46 (flatA encT o)]
theorem bkL (l o : List TE) (i : Nat) (hi : i < l.length) (hl : l.length ≤ 1000) (ho : o.length ≤ 1000) : LoopG Tryd.prog 0 Tryd.f29 1 (.exit 2) (bkS l o i (kF o (l.getD i tD))) (bkS l o i 0) := by
  have at1 : (flatA encT l).drop ((i : Int).toNat * 2) = AV.str (l.getD i tD).1 :: AV.str (l.getD i tD).2 :: flatA encT (l.drop (i + 1)) := encT_at l i hi
  have hle := kF_le o (l.getD i tD)
  refine loopG_of (kF o (l.getD i tD)) (fun k => bkS l o i k) (by kernel_rfl) (by simp) ?_ ?_
  · intro k hk
    have h := kF_lt o _ k hk
    have hk2 : k < o.length := by omega
    have at2 : (flatA encT o).drop (0 + (k : Int).toNat * 2) = AV.str (o.getD k tD).1 :: AV.str (o.getD k tD).2 :: flatA encT (o.drop (k + 1)) := encT_at0 o k hk2
    have hgk := encT_gk o k hk2
    unfold bkS
    generalize l.getD i tD = x at *
    generalize o.getD k tD = y at *
    have h' : Op.bytesLess y.1.toList x.1.toList = true := h
    have e1' := (drop_hd (o := 0) (v := AV.str y.fst) at2 rfl)
    have e2' := (congrArg (fun z => AV.fptr z) at1)
    have e3' := (congrArg (fun z => AV.int .i64 z) (wrap_i64 (e := (↑k : Int) + (1 : Int)) (by omega) (by omega)))
    exact g_x [⟨5, [], .br true .no⟩, ⟨6, [], .br true .no⟩, ⟨7, [], .br true .no⟩, ⟨8, [], .br true .no⟩, ⟨9, [], .br true (.as (rhsOf e1'))⟩, ⟨10, [], .br true .no⟩, ⟨11, [], .br true .no⟩, ⟨12, [], .br true (.as (rhsOf e2'))⟩, ⟨13, [], .br true .no⟩, ⟨14, [], .br true .no⟩, ⟨15, [], .br true .no⟩, ⟨17, [], .br true .no⟩, ⟨19, [], .as (rhsOf e3')⟩] [.sel [0, 2, 4, 5, 6]] (And.intro (show (decide ((↑k : Int) < (↑o.length : Int)) == true) = true from (by simp_all; done)) (And.intro (show (decide ((↑k : Int) < (↑o.length : Int)) == true) = true from (by simp_all; done)) (And.intro (show (decide ((↑k : Int) < (↑o.length : Int)) == true) = true from (by simp_all; done)) (And.intro (show (0 : Int) ≤ (↑k : Int) ∧ (↑k : Int) < (↑o.length : Int) from (by omega)) (And.intro (show (decide ((↑k : Int) < (↑o.length : Int)) == true) = true from (by simp_all; done)) (And.intro (show (decide ((↑k : Int) < (↑o.length : Int)) == true) = true from (by simp_all; done)) (And.intro (show 1 ≤ (List.drop (0 + (↑k : Int).toNat * 2 + 0) (flatA encT o)).length from (drop_le (o := 0) (n := 1) at2 (by simp))) (And.intro e1' (And.intro (show (decide ((↑k : Int) < (↑o.length : Int)) == true) = true from (by simp_all; done)) (And.intro (show (decide ((↑k : Int) < (↑o.length : Int)) == true) = true from (by simp_all; done)) (And.intro (show (decide ((↑k : Int) < (↑o.length : Int)) == true) = true from (by simp_all; done)) (And.intro (show (0 : Int) ≤ (↑i : Int) ∧ (↑i : Int) < (↑l.length : Int) from (by omega)) (And.intro e2' (And.intro (show (decide ((↑k : Int) < (↑o.length : Int)) == true) = true from (by simp_all; done)) (And.intro (show (decide ((↑k : Int) < (↑o.length : Int)) == true) = true from (by simp_all; done)) (And.intro (show 1 ≤ (AV.str x.fst :: AV.str x.snd :: flatA encT (List.drop (i + 1) l)).length from (by exact Nat.le_of_ble_eq_true (by kernel_rfl))) (And.intro (show (decide ((↑k : Int) < (↑o.length : Int)) == true) = true from (by simp_all; done)) (And.intro (show (bif decide ((↑k : Int) < (↑o.length : Int)) then Op.bytesLess y.fst.toList x.fst.toList else false) = true from (by simp_all; done)) e3'))))))))))))))))))
  · rcases Nat.lt_or_ge (kF o (l.getD i tD)) o.length with hk2 | hk2
    · have h := kF_at o _ hk2
      generalize kF o (l.getD i tD) = k at *
      have at2 : (flatA encT o).drop (0 + (k : Int).toNat * 2) = AV.str (o.getD k tD).1 :: AV.str (o.getD k tD).2 :: flatA encT (o.drop (k + 1)) := encT_at0 o k hk2
      have hgk := encT_gk o k hk2
      unfold bkS
      generalize l.getD i tD = x at *
      generalize o.getD k tD = y at *
      have h' : Op.bytesLess y.1.toList x.1.toList = false := h
      have e1' := (drop_hd (o := 0) (v := AV.str y.fst) at2 rfl)
      have e2' := (congrArg (fun z => AV.fptr z) at1)
      exact g_x [⟨5, [], .br true .no⟩, ⟨6, [], .br true .no⟩, ⟨7, [], .br true .no⟩, ⟨8, [], .br true .no⟩, ⟨9, [], .br true (.as (rhsOf e1'))⟩, ⟨10, [], .br true .no⟩, ⟨11, [], .br true .no⟩, ⟨12, [], .br true (.as (rhsOf e2'))⟩, ⟨13, [], .br true .no⟩, ⟨14, [], .br true .no⟩, ⟨15, [], .br true .no⟩, ⟨17, [], .br false .no⟩] [.sel [0, 2, 4, 5, 6]] (And.intro (show (decide ((↑k : Int) < (↑o.length : Int)) == true) = true from (by simp_all; done)) (And.intro (show (decide ((↑k : Int) < (↑o.length : Int)) == true) = true from (by simp_all; done)) (And.intro (show (decide ((↑k : Int) < (↑o.length : Int)) == true) = true from (by simp_all; done)) (And.intro (show (0 : Int) ≤ (↑k : Int) ∧ (↑k : Int) < (↑o.length : Int) from (by omega)) (And.intro (show (decide ((↑k : Int) < (↑o.length : Int)) == true) = true from (by simp_all; done)) (And.intro (show (decide ((↑k : Int) < (↑o.length : Int)) == true) = true from (by simp_all; done)) (And.intro (show 1 ≤ (List.drop (0 + (↑k : Int).toNat * 2 + 0) (flatA encT o)).length from (drop_le (o := 0) (n := 1) at2 (by simp))) (And.intro e1' (And.intro (show (decide ((↑k : Int) < (↑o.length : Int)) == true) = true from (by simp_all; done)) (And.intro (show (decide ((↑k : Int) < (↑o.length : Int)) == true) = true from (by simp_all; done)) (And.intro (show (decide ((↑k : Int) < (↑o.length : Int)) == true) = true from (by simp_all; done)) (And.intro (show (0 : Int) ≤ (↑i : Int) ∧ (↑i : Int) < (↑l.length : Int) from (by omega)) (And.intro e2' (And.intro (show (decide ((↑k : Int) < (↑o.length : Int)) == true) = true from (by simp_all; done)) (And.intro (show (decide ((↑k : Int) < (↑o.length : Int)) == true) = true from (by simp_all; done)) (And.intro (show 1 ≤ (AV.str x.fst :: AV.str x.snd :: flatA encT (List.drop (i + 1) l)).length from (by exact Nat.le_of_ble_eq_true (by kernel_rfl))) (And.intro (show (decide ((↑k : Int) < (↑o.length : Int)) == true) = true from (by simp_all; done)) (show (bif decide ((↑k : Int) < (↑o.length : Int)) then Op.bytesLess y.fst.toList x.fst.toList else false) = false from (by simp_all; done)))))))))))))))))))
    · generalize kF o (l.getD i tD) = k at *
      obtain rfl : k = o.length := by omega
      unfold bkS
      exact g_x [⟨5, [], .br false .no⟩, ⟨6, [], .br false .no⟩, ⟨7, [], .br false .no⟩, ⟨8, [], .br false .no⟩, ⟨9, [], .br false .no⟩, ⟨10, [], .br false .no⟩, ⟨11, [], .br false .no⟩, ⟨12, [], .br false .no⟩, ⟨13, [], .br false .no⟩, ⟨14, [], .br false .no⟩, ⟨15, [], .br false .no⟩, ⟨17, [], .br false .no⟩] [.sel [0, 2, 4, 5, 6]] (And.intro (show (decide ((↑o.length : Int) < (↑o.length : Int)) == true) = false from (by simp_all; done)) (And.intro (show (decide ((↑o.length : Int) < (↑o.length : Int)) == true) = false from (by simp_all; done)) (And.intro (show (decide ((↑o.length : Int) < (↑o.length : Int)) == true) = false from (by simp_all; done)) (And.intro (show (decide ((↑o.length : Int) < (↑o.length : Int)) == true) = false from (by simp_all; done)) (And.intro (show (decide ((↑o.length : Int) < (↑o.length : Int)) == true) = false from (by simp_all; done)) (And.intro (show (decide ((↑o.length : Int) < (↑o.length : Int)) == true) = false from (by simp_all; done)) (And.intro (show (decide ((↑o.length : Int) < (↑o.length : Int)) == true) = false from (by simp_all; done)) (And.intro (show (decide ((↑o.length : Int) < (↑o.length : Int)) == true) = false from (by simp_all; done)) (And.intro (show (decide ((↑o.length : Int) < (↑o.length : Int)) == true) = false from (by simp_all; done)) (And.intro (show (decide ((↑o.length : Int) < (↑o.length : Int)) == true) = false from (by simp_all; done)) (And.intro (show (decide ((↑o.length : Int) < (↑o.length : Int)) == true) = false from (by simp_all; done)) (And.intro (show decide ((↑o.length : Int) < (↑o.length : Int)) = true → false = true from (by (simp; done))) (show (bif decide ((↑o.length : Int) < (↑o.length : Int)) then false else false) = false from (by simp_all; done))))))))))))))
end Go.Proofs.YthcaeofgegfncaaDoor
namespace Go.Proofs.YthcaeofgegfncaaDoor
open Go Go.RowKit V
set_option linter.unusedSimpArgs false
set_option linter.unusedVariables false
set_option maxHeartbeats 20000000
def b0S (l o : List TE) (i : Nat) : St := stOf 89 [(0, filesV l), (2, .ptr 0 0), (4, .sl 1 0 o.length 2), (5, .int .i64 (i : Int))] [.row 24 [.nilsl], .row 46 (flatA encT o)]
def bRet (e : Int) : St := stOf 89 [(2, .ptr 0 0), (3, .int .i64 e)] [.row 24 [.nilsl]]
def twF (o : List TE) (x : TE) : Bool := decide (kF o x < o.length) && ((o.getD (kF o x) tD).1.toList == x.1.toList)
def bsE (o : List TE) (x : TE) : Int := if cfF x = 0 then (if twF o x = true then 9 else 0) else cfF x
theorem insRow (o : List TE) (x : TE) (k : Nat) (hk : k ≤ o.length) : List.take ((0 + ((k : Int).toNat - Int.toNat 0) + 1) * 2) (List.take ((0 + ((k : Int).toNat - Int.toNat 0)) * 2) ([] ++ List.take (((k : Int).toNat - Int.toNat 0) * 2) (List.drop 0 (flatA encT o))) ++ [AV.str x.1, AV.str x.2]) ++ List.take (((o.length : Int).toNat - (k : Int).toNat) * 2) (List.drop (0 + (k : Int).toNat * 2) (flatA encT o)) = flatA encT (o.take k ++ x :: o.drop k) := by
  rw [Int.toNat_natCast, Int.toNat_natCast, Int.toNat_zero, Nat.sub_zero, Nat.zero_add, Nat.zero_add, List.nil_append, List.drop_zero, List.take_take, Nat.min_self, flatA_take encT_l, flatA_drop encT_l]
  have h1 : (flatA encT (o.take k)).length = k * 2 := by rw [encT_len, List.length_take]; omega
  have h2 : List.take ((k + 1) * 2) (flatA encT (o.take k) ++ [AV.str x.1, AV.str x.2]) = flatA encT (o.take k) ++ [AV.str x.1, AV.str x.2] := List.take_of_length_le (by rw [List.length_append, h1]; simp; omega)
  have h3 : List.take ((o.length - k) * 2) (flatA encT (o.drop k)) = flatA encT (o.drop k) := List.take_of_length_le (by rw [encT_len, List.length_drop]; exact Nat.le_refl _)
  rw [h2, h3, show o.take k ++ x :: o.drop k = (o.take k ++ [x]) ++ o.drop k by simp, flatA_append, flatA_append]
  rfl
theorem insLen (o : List TE) (x : TE) (k : Nat) (hk : k ≤ o.length) : 0 + ((k : Int).toNat - Int.toNat 0) + 1 + ((o.length : Int).toNat - (k : Int).toNat) = (o.take k ++ x :: o.drop k).length := by
  rw [List.length_append, List.length_cons, List.length_take, List.length_drop]; omega
theorem insNo (o : List TE) (k : Nat) : ∀ x ∈ [] ++ List.take (((k : Int).toNat - Int.toNat 0) * 2) (List.drop 0 (flatA encT o)), noid0 x = true := fun x hx => by
  rw [List.nil_append] at hx
  exact encT_noid o x (List.mem_of_mem_drop (List.mem_of_mem_take hx))
theorem b_round_ok (l o : List TE) (i : Nat) (hi : i < l.length) (hl : l.length ≤ 1000) (ho : o.length ≤ 1000) (hok : ∀ x ∈ l, OkT x) (h : bsE o (l.getD i tD) = 0) : GoV Tryd.prog 0 (loopB Tryd.f29 0) (isX .normal (b0S l (insR (l.getD i tD) o) (i + 1))) (b0S l o i) := by
  have at1 : (flatA encT l).drop ((i : Int).toNat * 2) = AV.str (l.getD i tD).1 :: AV.str (l.getD i tD).2 :: flatA encT (l.drop (i + 1)) := encT_at l i hi
  have vr := (valid_v (l.getD i tD).1 (hok _ (getD_mem' hi tD)).1).2
  have bl := bkL l o i hi hl ho
  have hle := kF_le o (l.getD i tD)
  unfold bsE cfF twF at h
  rw [insR_split]
  cases hv : vaF (l.getD i tD).1 with
  | false => rw [hv] at h; simp at h
  | true =>
    rw [hv] at vr h
    by_cases h4 : (l.getD i tD).2.size ≤ 4096
    · rw [if_pos rfl, if_pos h4, if_pos rfl] at h
      have hge := encT_ge o
      unfold bkS at bl
      unfold b0S
      rcases Nat.lt_or_ge (kF o (l.getD i tD)) o.length with hk2 | hk2
      · rw [decide_eq_true hk2, Bool.true_and] at h
        generalize kF o (l.getD i tD) = k at *
        have at2 : (flatA encT o).drop (0 + (k : Int).toNat * 2) = AV.str (o.getD k tD).1 :: AV.str (o.getD k tD).2 :: flatA encT (o.drop (k + 1)) := encT_at0 o k hk2
        have hgk := encT_gk o k hk2
        have r1 := insRow o (l.getD i tD) k hle
        have r2 := insLen o (l.getD i tD) k hle
        have n1 := insNo o k
        have n2 := encT_noid (o.take k ++ l.getD i tD :: o.drop k)
        have n3 := n2
        rw [← r1] at n3
        rw [at2] at r1 n3
        generalize l.getD i tD = x at *
        generalize o.getD k tD = y at *
        have hne : (y.1.toList == x.1.toList) = false := by
          cases hh : (y.1.toList == x.1.toList) <;> simp_all
        clear h
        have e1' := (congrArg (fun z => AV.fptr z) at1)
        have e2' := vr
        have e3' := bl
        have e4' := (drop_hd (o := 0) (v := AV.str y.fst) at2 rfl)
        have e5' := (congrArg (fun z => AV.sl 5 0 z 2) r2)
        have e6' := (Eq.trans (congrArg (fun z => Blk.row 46 (List.take ((0 + ((↑k : Int).toNat - Int.toNat (0 : Int)) + 1) * 2) (List.take ((0 + ((↑k : Int).toNat - Int.toNat (0 : Int))) * 2) ([] ++ List.take (((↑k : Int).toNat - Int.toNat (0 : Int)) * 2) (List.drop 0 (flatA encT o))) ++ [AV.str x.fst, AV.str x.snd]) ++ List.take (((↑o.length : Int).toNat - (↑k : Int).toNat) * 2) z)) at2) (congrArg (fun z => Blk.row 46 z) r1))
        have e7' := (congrArg (fun z => AV.int .i64 z) (wrap_i64 (e := (↑i : Int) + (1 : Int)) (by omega) (by omega)))
        exact g_xB [⟨4, [], .br true .no⟩, ⟨7, [], .as (rhsOf e1')⟩, ⟨10, [], .call (avOf e2') (blOf e2') []⟩, ⟨15, [], .as (rhsOf e1')⟩, ⟨20, [], .br false .no⟩, ⟨22, [.sel [0, 2, 4, 5, 6]], .loop (exOf e3') (endOf e3')⟩, ⟨28, [], .br true .no⟩, ⟨29, [], .br true .no⟩, ⟨30, [], .br true .no⟩, ⟨31, [], .br true .no⟩, ⟨32, [], .br true (.as (rhsOf e4'))⟩, ⟨33, [], .br true .no⟩, ⟨34, [], .br true .no⟩, ⟨35, [], .br true (.as (rhsOf e1'))⟩, ⟨36, [], .br true .no⟩, ⟨37, [], .br true .no⟩, ⟨38, [], .br true .no⟩, ⟨40, [], .br false .no⟩, ⟨44, [.flags [false, true] true], .no⟩, ⟨47, [], .as (rhsOf e1')⟩, ⟨49, [.flags [false, true] false], .no⟩, ⟨50, [.flags [false, true] true], .no⟩, ⟨54, [.flags [false, true] true], .as (rhsOf e5')⟩, ⟨55, [.hp 5 (rhsOf e6')], .no⟩, ⟨57, [], .as (rhsOf e7')⟩] [.sel [0, 2, 4, 5], .keep [0, 5] [false, true]] (And.intro (show decide ((↑i : Int) < (↑l.length : Int)) = true from (by rw [decide_eq_true_iff]; omega)) (And.intro (show (0 : Int) ≤ (↑i : Int) ∧ (↑i : Int) < (↑l.length : Int) from (by omega)) (And.intro e1' (And.intro (show 1 ≤ (AV.str x.fst :: AV.str x.snd :: flatA encT (List.drop (i + 1) l)).length from (by exact Nat.le_of_ble_eq_true (by kernel_rfl))) (And.intro e2' (And.intro (show (0 : Int) ≤ (↑i : Int) ∧ (↑i : Int) < (↑l.length : Int) from (by omega)) (And.intro e1' (And.intro (show 1 ≤ (AV.str x.snd :: flatA encT (List.drop (i + 1) l)).length from (by exact Nat.le_of_ble_eq_true (by kernel_rfl))) (And.intro (show decide ((↑x.snd.size : Int) > (4096 : Int)) = false from (by rw [decide_eq_false_iff_not]; omega)) (And.intro e3' (And.intro (show (decide ((↑k : Int) < (↑o.length : Int)) == true) = true from (by simp_all; done)) (And.intro (show (decide ((↑k : Int) < (↑o.length : Int)) == true) = true from (by simp_all; done)) (And.intro (show (decide ((↑k : Int) < (↑o.length : Int)) == true) = true from (by simp_all; done)) (And.intro (show (0 : Int) ≤ (↑k : Int) ∧ (↑k : Int) < (↑o.length : Int) from (by omega)) (And.intro (show (decide ((↑k : Int) < (↑o.length : Int)) == true) = true from (by simp_all; done)) (And.intro (show (decide ((↑k : Int) < (↑o.length : Int)) == true) = true from (by simp_all; done)) (And.intro (show 1 ≤ (List.drop (0 + (↑k : Int).toNat * 2 + 0) (flatA encT o)).length from (drop_le (o := 0) (n := 1) at2 (by simp))) (And.intro e4' (And.intro (show (decide ((↑k : Int) < (↑o.length : Int)) == true) = true from (by simp_all; done)) (And.intro (show (decide ((↑k : Int) < (↑o.length : Int)) == true) = true from (by simp_all; done)) (And.intro (show (decide ((↑k : Int) < (↑o.length : Int)) == true) = true from (by simp_all; done)) (And.intro (show (0 : Int) ≤ (↑i : Int) ∧ (↑i : Int) < (↑l.length : Int) from (by omega)) (And.intro e1' (And.intro (show (decide ((↑k : Int) < (↑o.length : Int)) == true) = true from (by simp_all; done)) (And.intro (show (decide ((↑k : Int) < (↑o.length : Int)) == true) = true from (by simp_all; done)) (And.intro (show 1 ≤ (AV.str x.fst :: AV.str x.snd :: flatA encT (List.drop (i + 1) l)).length from (by exact Nat.le_of_ble_eq_true (by kernel_rfl))) (And.intro (show (decide ((↑k : Int) < (↑o.length : Int)) == true) = true from (by simp_all; done)) (And.intro (show (bif decide ((↑k : Int) < (↑o.length : Int)) then y.fst.toList == x.fst.toList else false) = false from (by simp_all; done)) (And.intro (show (0 : Int) ≤ (0 : Int) ∧ (0 : Int) ≤ (↑k : Int) ∧ (↑k : Int) ≤ (↑o.length : Int) from (by omega)) (And.intro (show 0 + ((↑k : Int).toNat - 0) * 2 ≤ (flatA encT o).length from (by omega)) (And.intro (show (0 + ((↑k : Int).toNat - 0)) * 32 ≤ 140737488355328 from (by omega)) (And.intro (show 0 + ((↑k : Int).toNat - 0) ≤ maxLen from (by (unfold maxLen; omega))) (And.intro (show (0 : Int) ≤ (↑i : Int) ∧ (↑i : Int) < (↑l.length : Int) from (by omega)) (And.intro e1' (And.intro (show (0 : Int) ≤ (↑k : Int) ∧ (↑k : Int) ≤ (↑o.length : Int) ∧ (↑o.length : Int) ≤ (↑o.length : Int) from (by omega)) (And.intro (show (0 : Int) ≤ (↑i : Int) ∧ (↑i : Int) < (↑l.length : Int) from (by omega)) (And.intro e1' (And.intro (show 0 + ((↑k : Int).toNat - 0) * 2 ≤ (flatA encT o).length from (by omega)) (And.intro (show (0 + ((↑k : Int).toNat - 0)) * 32 ≤ 140737488355328 from (by omega)) (And.intro (show 0 + ((↑k : Int).toNat - 0) ≤ maxLen from (by (unfold maxLen; omega))) (And.intro (show 2 ≤ (AV.str x.fst :: AV.str x.snd :: flatA encT (List.drop (i + 1) l)).length from (by exact Nat.le_of_ble_eq_true (by kernel_rfl))) (And.intro (show (0 : Int) ≤ (↑k : Int) ∧ (↑k : Int) ≤ (↑o.length : Int) ∧ (↑o.length : Int) ≤ (↑o.length : Int) from (by omega)) (And.intro (show 0 + ((↑k : Int).toNat - 0) * 2 ≤ (flatA encT o).length from (by omega)) (And.intro (show (0 + ((↑k : Int).toNat - 0)) * 32 ≤ 140737488355328 from (by omega)) (And.intro (show 0 + ((↑k : Int).toNat - 0) ≤ maxLen from (by (unfold maxLen; omega))) (And.intro (show (0 : Int) ≤ (↑i : Int) ∧ (↑i : Int) < (↑l.length : Int) from (by omega)) (And.intro e1' (And.intro (show 2 ≤ (AV.str x.fst :: AV.str x.snd :: flatA encT (List.drop (i + 1) l)).length from (by exact Nat.le_of_ble_eq_true (by kernel_rfl))) (And.intro (show 0 + ((↑k : Int).toNat - 0) * 2 ≤ (flatA encT o).length from (by omega)) (And.intro (show (0 + ((↑k : Int).toNat - 0)) * 32 ≤ 140737488355328 from (by omega)) (And.intro (show 0 + ((↑k : Int).toNat - 0) ≤ maxLen from (by (unfold maxLen; omega))) (And.intro (show (0 : Int) ≤ (↑k : Int) ∧ (↑k : Int) ≤ (↑o.length : Int) ∧ (↑o.length : Int) ≤ (↑o.length : Int) from (by omega)) (And.intro (show 0 + ((↑k : Int).toNat - 0) * 2 ≤ (flatA encT o).length from (by omega)) (And.intro (show (0 + ((↑k : Int).toNat - 0)) * 32 ≤ 140737488355328 from (by omega)) (And.intro (show 0 + ((↑k : Int).toNat - 0) ≤ maxLen from (by (unfold maxLen; omega))) (And.intro (show 2 ≤ (AV.str x.fst :: AV.str x.snd :: flatA encT (List.drop (i + 1) l)).length from (by exact Nat.le_of_ble_eq_true (by kernel_rfl))) (And.intro (show (0 : Int) ≤ (↑i : Int) ∧ (↑i : Int) < (↑l.length : Int) from (by omega)) (And.intro e1' (And.intro (show (0 : Int) ≤ (↑k : Int) ∧ (↑k : Int) ≤ (↑o.length : Int) ∧ (↑o.length : Int) ≤ (↑o.length : Int) from (by omega)) (And.intro (show 0 + ((↑k : Int).toNat - 0) * 2 ≤ (flatA encT o).length from (by omega)) (And.intro (show (0 + ((↑k : Int).toNat - 0)) * 32 ≤ 140737488355328 from (by omega)) (And.intro (show 0 + ((↑k : Int).toNat - 0) ≤ maxLen from (by (unfold maxLen; omega))) (And.intro (show ∀ (x : AV), x ∈ flatA encT o → noid0 x = true from encT_noid o) (And.intro (show ∀ (x : AV), x ∈ [] ++ List.take (((↑k : Int).toNat - 0) * 2) (List.drop 0 (flatA encT o)) → noid0 x = true from n1) (And.intro (show (0 : Int) ≤ (↑k : Int) ∧ (↑k : Int) ≤ (↑o.length : Int) ∧ (↑o.length : Int) ≤ (↑o.length : Int) from (by omega)) (And.intro (show 0 + ((↑k : Int).toNat - 0) * 2 ≤ (flatA encT o).length from (by omega)) (And.intro (show (0 + ((↑k : Int).toNat - 0)) * 32 ≤ 140737488355328 from (by omega)) (And.intro (show 0 + ((↑k : Int).toNat - 0) ≤ maxLen from (by (unfold maxLen; omega))) (And.intro (show 2 ≤ (AV.str x.fst :: AV.str x.snd :: flatA encT (List.drop (i + 1) l)).length from (by exact Nat.le_of_ble_eq_true (by kernel_rfl))) (And.intro (show (0 + ((↑k : Int).toNat - 0)) * 2 ≤ ([] ++ List.take (((↑k : Int).toNat - 0) * 2) (List.drop 0 (flatA encT o))).length from (by (simp; omega))) (And.intro (show 2 ≤ 2 from (by omega)) (And.intro (show (0 + ((↑k : Int).toNat - 0) + 1) * 32 ≤ 140737488355328 from (by omega)) (And.intro (show 0 + ((↑k : Int).toNat - 0) + 1 ≤ maxLen from (by (unfold maxLen; omega))) (And.intro (show (0 : Int) ≤ (↑k : Int) ∧ (↑k : Int) ≤ (↑o.length : Int) ∧ (↑o.length : Int) ≤ (↑o.length : Int) from (by omega)) (And.intro (show 0 + ((↑k : Int).toNat - 0) * 2 ≤ (flatA encT o).length from (by omega)) (And.intro (show (0 + ((↑k : Int).toNat - 0)) * 32 ≤ 140737488355328 from (by omega)) (And.intro (show 0 + ((↑k : Int).toNat - 0) ≤ maxLen from (by (unfold maxLen; omega))) (And.intro (show ∀ (x : AV), x ∈ flatA encT o → noid0 x = true from encT_noid o) (And.intro (show ∀ (x : AV), x ∈ [] ++ List.take (((↑k : Int).toNat - 0) * 2) (List.drop 0 (flatA encT o)) → noid0 x = true from n1) (And.intro (show (0 : Int) ≤ (↑k : Int) ∧ (↑k : Int) ≤ (↑o.length : Int) ∧ (↑o.length : Int) ≤ (↑o.length : Int) from (by omega)) (And.intro (show (0 + ((↑k : Int).toNat - 0)) * 2 ≤ ([] ++ List.take (((↑k : Int).toNat - 0) * 2) (List.drop 0 (flatA encT o))).length from (by (simp; omega))) (And.intro (show 2 ≤ 2 from (by omega)) (And.intro (show (0 + ((↑k : Int).toNat - 0) + 1) * 32 ≤ 140737488355328 from (by omega)) (And.intro (show 0 + ((↑k : Int).toNat - 0) + 1 ≤ maxLen from (by (unfold maxLen; omega))) (And.intro (show (0 + ((↑k : Int).toNat - 0) + 1) * 2 ≤ (List.take ((0 + ((↑k : Int).toNat - 0)) * 2) ([] ++ List.take (((↑k : Int).toNat - 0) * 2) (List.drop 0 (flatA encT o))) ++ [AV.str x.fst, AV.str x.snd]).length from (by (simp; omega))) (And.intro (show 0 + (↑k : Int).toNat * 2 + ((↑o.length : Int).toNat - (↑k : Int).toNat) * 2 ≤ (flatA encT o).length from (by omega)) (And.intro (show (0 + ((↑k : Int).toNat - 0) + 1 + ((↑o.length : Int).toNat - (↑k : Int).toNat)) * 32 ≤ 140737488355328 from (by omega)) (And.intro (show 0 + ((↑k : Int).toNat - 0) + 1 + ((↑o.length : Int).toNat - (↑k : Int).toNat) ≤ maxLen from (by (unfold maxLen; omega))) (And.intro e5' (And.intro (congrArg some e6') (And.intro e7' (show ∀ (x_1 : AV), x_1 ∈ flatA encT (List.take k o ++ x :: List.drop k o) → noid0 x_1 = true from n2))))))))))))))))))))))))))))))))))))))))))))))))))))))))))))))))))))))))))))))))))))))))))))
      · generalize kF o (l.getD i tD) = k at *
        obtain rfl : k = o.length := by omega
        have r1 := insRow o (l.getD i tD) o.length (Nat.le_refl _)
        have r2 := insLen o (l.getD i tD) o.length (Nat.le_refl _)
        have n1 := insNo o o.length
        have n2 := encT_noid (o.take o.length ++ l.getD i tD :: o.drop o.length)
        have n3 := n2
        rw [← r1] at n3
        generalize l.getD i tD = x at *
        clear h
        have e1' := (congrArg (fun z => AV.fptr z) at1)
        have e2' := vr
        have e3' := bl
        have e4' := (congrArg (fun z => AV.sl 5 0 z 2) r2)
        have e5' := (congrArg (fun z => Blk.row 46 z) r1)
        have e6' := (congrArg (fun z => AV.int .i64 z) (wrap_i64 (e := (↑i : Int) + (1 : Int)) (by omega) (by omega)))
        exact g_xB [⟨4, [], .br true .no⟩, ⟨7, [], .as (rhsOf e1')⟩, ⟨10, [], .call (avOf e2') (blOf e2') []⟩, ⟨15, [], .as (rhsOf e1')⟩, ⟨20, [], .br false .no⟩, ⟨22, [.sel [0, 2, 4, 5, 6]], .loop (exOf e3') (endOf e3')⟩, ⟨28, [], .br false .no⟩, ⟨29, [], .br false .no⟩, ⟨30, [], .br false .no⟩, ⟨31, [], .br false .no⟩, ⟨32, [], .br false .no⟩, ⟨33, [], .br false .no⟩, ⟨34, [], .br false .no⟩, ⟨35, [], .br false .no⟩, ⟨36, [], .br false .no⟩, ⟨37, [], .br false .no⟩, ⟨38, [], .br false .no⟩, ⟨40, [], .br false .no⟩, ⟨44, [.flags [false, true] true], .no⟩, ⟨47, [], .as (rhsOf e1')⟩, ⟨49, [.flags [false, true] false], .no⟩, ⟨50, [.flags [false, true] true], .no⟩, ⟨54, [.flags [false, true] true], .as (rhsOf e4')⟩, ⟨55, [.hp 5 (rhsOf e5')], .no⟩, ⟨57, [], .as (rhsOf e6')⟩] [.sel [0, 2, 4, 5], .keep [0, 5] [false, true]] (And.intro (show decide ((↑i : Int) < (↑l.length : Int)) = true from (by rw [decide_eq_true_iff]; omega)) (And.intro (show (0 : Int) ≤ (↑i : Int) ∧ (↑i : Int) < (↑l.length : Int) from (by omega)) (And.intro e1' (And.intro (show 1 ≤ (AV.str x.fst :: AV.str x.snd :: flatA encT (List.drop (i + 1) l)).length from (by exact Nat.le_of_ble_eq_true (by kernel_rfl))) (And.intro e2' (And.intro (show (0 : Int) ≤ (↑i : Int) ∧ (↑i : Int) < (↑l.length : Int) from (by omega)) (And.intro e1' (And.intro (show 1 ≤ (AV.str x.snd :: flatA encT (List.drop (i + 1) l)).length from (by exact Nat.le_of_ble_eq_true (by kernel_rfl))) (And.intro (show decide ((↑x.snd.size : Int) > (4096 : Int)) = false from (by rw [decide_eq_false_iff_not]; omega)) (And.intro e3' (And.intro (show (decide ((↑o.length : Int) < (↑o.length : Int)) == true) = false from (by simp_all; done)) (And.intro (show (decide ((↑o.length : Int) < (↑o.length : Int)) == true) = false from (by simp_all; done)) (And.intro (show (decide ((↑o.length : Int) < (↑o.length : Int)) == true) = false from (by simp_all; done)) (And.intro (show (decide ((↑o.length : Int) < (↑o.length : Int)) == true) = false from (by simp_all; done)) (And.intro (show (decide ((↑o.length : Int) < (↑o.length : Int)) == true) = false from (by simp_all; done)) (And.intro (show (decide ((↑o.length : Int) < (↑o.length : Int)) == true) = false from (by simp_all; done)) (And.intro (show (decide ((↑o.length : Int) < (↑o.length : Int)) == true) = false from (by simp_all; done)) (And.intro (show (decide ((↑o.length : Int) < (↑o.length : Int)) == true) = false from (by simp_all; done)) (And.intro (show (decide ((↑o.length : Int) < (↑o.length : Int)) == true) = false from (by simp_all; done)) (And.intro (show (decide ((↑o.length : Int) < (↑o.length : Int)) == true) = false from (by simp_all; done)) (And.intro (show (decide ((↑o.length : Int) < (↑o.length : Int)) == true) = false from (by simp_all; done)) (And.intro (show decide ((↑o.length : Int) < (↑o.length : Int)) = true → false = true from (by (simp; done))) (And.intro (show (bif decide ((↑o.length : Int) < (↑o.length : Int)) then false else false) = false from (by simp_all; done)) (And.intro (show (0 : Int) ≤ (0 : Int) ∧ (0 : Int) ≤ (↑o.length : Int) ∧ (↑o.length : Int) ≤ (↑o.length : Int) from (by omega)) (And.intro (show 0 + ((↑o.length : Int).toNat - 0) * 2 ≤ (flatA encT o).length from (by omega)) (And.intro (show (0 + ((↑o.length : Int).toNat - 0)) * 32 ≤ 140737488355328 from (by omega)) (And.intro (show 0 + ((↑o.length : Int).toNat - 0) ≤ maxLen from (by (unfold maxLen; omega))) (And.intro (show (0 : Int) ≤ (↑i : Int) ∧ (↑i : Int) < (↑l.length : Int) from (by omega)) (And.intro e1' (And.intro (show (0 : Int) ≤ (↑o.length : Int) ∧ (↑o.length : Int) ≤ (↑o.length : Int) ∧ (↑o.length : Int) ≤ (↑o.length : Int) from (by omega)) (And.intro (show (0 : Int) ≤ (↑i : Int) ∧ (↑i : Int) < (↑l.length : Int) from (by omega)) (And.intro e1' (And.intro (show 0 + ((↑o.length : Int).toNat - 0) * 2 ≤ (flatA encT o).length from (by omega)) (And.intro (show (0 + ((↑o.length : Int).toNat - 0)) * 32 ≤ 140737488355328 from (by omega)) (And.intro (show 0 + ((↑o.length : Int).toNat - 0) ≤ maxLen from (by (unfold maxLen; omega))) (And.intro (show 2 ≤ (AV.str x.fst :: AV.str x.snd :: flatA encT (List.drop (i + 1) l)).length from (by exact Nat.le_of_ble_eq_true (by kernel_rfl))) (And.intro (show (0 : Int) ≤ (↑o.length : Int) ∧ (↑o.length : Int) ≤ (↑o.length : Int) ∧ (↑o.length : Int) ≤ (↑o.length : Int) from (by omega)) (And.intro (show 0 + ((↑o.length : Int).toNat - 0) * 2 ≤ (flatA encT o).length from (by omega)) (And.intro (show (0 + ((↑o.length : Int).toNat - 0)) * 32 ≤ 140737488355328 from (by omega)) (And.intro (show 0 + ((↑o.length : Int).toNat - 0) ≤ maxLen from (by (unfold maxLen; omega))) (And.intro (show (0 : Int) ≤ (↑i : Int) ∧ (↑i : Int) < (↑l.length : Int) from (by omega)) (And.intro e1' (And.intro (show 2 ≤ (AV.str x.fst :: AV.str x.snd :: flatA encT (List.drop (i + 1) l)).length from (by exact Nat.le_of_ble_eq_true (by kernel_rfl))) (And.intro (show 0 + ((↑o.length : Int).toNat - 0) * 2 ≤ (flatA encT o).length from (by omega)) (And.intro (show (0 + ((↑o.length : Int).toNat - 0)) * 32 ≤ 140737488355328 from (by omega)) (And.intro (show 0 + ((↑o.length : Int).toNat - 0) ≤ maxLen from (by (unfold maxLen; omega))) (And.intro (show (0 : Int) ≤ (↑o.length : Int) ∧ (↑o.length : Int) ≤ (↑o.length : Int) ∧ (↑o.length : Int) ≤ (↑o.length : Int) from (by omega)) (And.intro (show 0 + ((↑o.length : Int).toNat - 0) * 2 ≤ (flatA encT o).length from (by omega)) (And.intro (show (0 + ((↑o.length : Int).toNat - 0)) * 32 ≤ 140737488355328 from (by omega)) (And.intro (show 0 + ((↑o.length : Int).toNat - 0) ≤ maxLen from (by (unfold maxLen; omega))) (And.intro (show 2 ≤ (AV.str x.fst :: AV.str x.snd :: flatA encT (List.drop (i + 1) l)).length from (by exact Nat.le_of_ble_eq_true (by kernel_rfl))) (And.intro (show (0 : Int) ≤ (↑i : Int) ∧ (↑i : Int) < (↑l.length : Int) from (by omega)) (And.intro e1' (And.intro (show (0 : Int) ≤ (↑o.length : Int) ∧ (↑o.length : Int) ≤ (↑o.length : Int) ∧ (↑o.length : Int) ≤ (↑o.length : Int) from (by omega)) (And.intro (show 0 + ((↑o.length : Int).toNat - 0) * 2 ≤ (flatA encT o).length from (by omega)) (And.intro (show (0 + ((↑o.length : Int).toNat - 0)) * 32 ≤ 140737488355328 from (by omega)) (And.intro (show 0 + ((↑o.length : Int).toNat - 0) ≤ maxLen from (by (unfold maxLen; omega))) (And.intro (show ∀ (x : AV), x ∈ flatA encT o → noid0 x = true from encT_noid o) (And.intro (show ∀ (x : AV), x ∈ [] ++ List.take (((↑o.length : Int).toNat - 0) * 2) (List.drop 0 (flatA encT o)) → noid0 x = true from n1) (And.intro (show (0 : Int) ≤ (↑o.length : Int) ∧ (↑o.length : Int) ≤ (↑o.length : Int) ∧ (↑o.length : Int) ≤ (↑o.length : Int) from (by omega)) (And.intro (show 0 + ((↑o.length : Int).toNat - 0) * 2 ≤ (flatA encT o).length from (by omega)) (And.intro (show (0 + ((↑o.length : Int).toNat - 0)) * 32 ≤ 140737488355328 from (by omega)) (And.intro (show 0 + ((↑o.length : Int).toNat - 0) ≤ maxLen from (by (unfold maxLen; omega))) (And.intro (show 2 ≤ (AV.str x.fst :: AV.str x.snd :: flatA encT (List.drop (i + 1) l)).length from (by exact Nat.le_of_ble_eq_true (by kernel_rfl))) (And.intro (show (0 + ((↑o.length : Int).toNat - 0)) * 2 ≤ ([] ++ List.take (((↑o.length : Int).toNat - 0) * 2) (List.drop 0 (flatA encT o))).length from (by (simp; omega))) (And.intro (show 2 ≤ 2 from (by omega)) (And.intro (show (0 + ((↑o.length : Int).toNat - 0) + 1) * 32 ≤ 140737488355328 from (by omega)) (And.intro (show 0 + ((↑o.length : Int).toNat - 0) + 1 ≤ maxLen from (by (unfold maxLen; omega))) (And.intro (show (0 : Int) ≤ (↑o.length : Int) ∧ (↑o.length : Int) ≤ (↑o.length : Int) ∧ (↑o.length : Int) ≤ (↑o.length : Int) from (by omega)) (And.intro (show 0 + ((↑o.length : Int).toNat - 0) * 2 ≤ (flatA encT o).length from (by omega)) (And.intro (show (0 + ((↑o.length : Int).toNat - 0)) * 32 ≤ 140737488355328 from (by omega)) (And.intro (show 0 + ((↑o.length : Int).toNat - 0) ≤ maxLen from (by (unfold maxLen; omega))) (And.intro (show ∀ (x : AV), x ∈ flatA encT o → noid0 x = true from encT_noid o) (And.intro (show ∀ (x : AV), x ∈ [] ++ List.take (((↑o.length : Int).toNat - 0) * 2) (List.drop 0 (flatA encT o)) → noid0 x = true from n1) (And.intro (show (0 : Int) ≤ (↑o.length : Int) ∧ (↑o.length : Int) ≤ (↑o.length : Int) ∧ (↑o.length : Int) ≤ (↑o.length : Int) from (by omega)) (And.intro (show (0 + ((↑o.length : Int).toNat - 0)) * 2 ≤ ([] ++ List.take (((↑o.length : Int).toNat - 0) * 2) (List.drop 0 (flatA encT o))).length from (by (simp; omega))) (And.intro (show 2 ≤ 2 from (by omega)) (And.intro (show (0 + ((↑o.length : Int).toNat - 0) + 1) * 32 ≤ 140737488355328 from (by omega)) (And.intro (show 0 + ((↑o.length : Int).toNat - 0) + 1 ≤ maxLen from (by (unfold maxLen; omega))) (And.intro (show (0 + ((↑o.length : Int).toNat - 0) + 1) * 2 ≤ (List.take ((0 + ((↑o.length : Int).toNat - 0)) * 2) ([] ++ List.take (((↑o.length : Int).toNat - 0) * 2) (List.drop 0 (flatA encT o))) ++ [AV.str x.fst, AV.str x.snd]).length from (by (simp; omega))) (And.intro (show 0 + (↑o.length : Int).toNat * 2 + ((↑o.length : Int).toNat - (↑o.length : Int).toNat) * 2 ≤ (flatA encT o).length from (by omega)) (And.intro (show (0 + ((↑o.length : Int).toNat - 0) + 1 + ((↑o.length : Int).toNat - (↑o.length : Int).toNat)) * 32 ≤ 140737488355328 from (by omega)) (And.intro (show 0 + ((↑o.length : Int).toNat - 0) + 1 + ((↑o.length : Int).toNat - (↑o.length : Int).toNat) ≤ maxLen from (by (unfold maxLen; omega))) (And.intro e4' (And.intro (congrArg some e5') (And.intro e6' (show ∀ (x_1 : AV), x_1 ∈ flatA encT (List.take o.length o ++ x :: List.drop o.length o) → noid0 x_1 = true from n2)))))))))))))))))))))))))))))))))))))))))))))))))))))))))))))))))))))))))))))))))))))))
    · rw [if_pos rfl, if_neg h4] at h; simp at h
end Go.Proofs.YthcaeofgegfncaaDoor
namespace Go.Proofs.YthcaeofgegfncaaDoor
open Go Go.RowKit V
set_option linter.unusedSimpArgs false
set_option linter.unusedVariables false
set_option maxHeartbeats 20000000
theorem b_round_ne (l o : List TE) (i : Nat) (hi : i < l.length) (hl : l.length ≤ 1000) (ho : o.length ≤ 1000) (hok : ∀ x ∈ l, OkT x) (h : bsE o (l.getD i tD) ≠ 0) : GoV Tryd.prog 0 (loopB Tryd.f29 0) (isX .ret (bRet (bsE o (l.getD i tD)))) (b0S l o i) := by
  have at1 : (flatA encT l).drop ((i : Int).toNat * 2) = AV.str (l.getD i tD).1 :: AV.str (l.getD i tD).2 :: flatA encT (l.drop (i + 1)) := encT_at l i hi
  have vr := (valid_v (l.getD i tD).1 (hok _ (getD_mem' hi tD)).1).2
  have bl := bkL l o i hi hl ho
  have hle := kF_le o (l.getD i tD)
  unfold bsE cfF twF at h ⊢
  cases hv : vaF (l.getD i tD).1 with
  | false =>
    rw [hv] at vr
    rw [if_neg (show ¬ (false = true) by decide), if_neg (show ¬ ((8 : Int) = 0) by decide)]
    unfold b0S bRet
    generalize l.getD i tD = x at *
    clear h bl
    have e1' := (congrArg (fun z => AV.fptr z) at1)
    have e2' := vr
    exact g_x [⟨4, [], .br true .no⟩, ⟨7, [], .as (rhsOf e1')⟩, ⟨10, [], .call (avOf e2') (blOf e2') []⟩] [.sel [2, 3], .keep [0] [false]] (And.intro (show decide ((↑i : Int) < (↑l.length : Int)) = true from (by rw [decide_eq_true_iff]; omega)) (And.intro (show (0 : Int) ≤ (↑i : Int) ∧ (↑i : Int) < (↑l.length : Int) from (by omega)) (And.intro e1' (And.intro (show 1 ≤ (AV.str x.fst :: AV.str x.snd :: flatA encT (List.drop (i + 1) l)).length from (by exact Nat.le_of_ble_eq_true (by kernel_rfl))) (And.intro e2' (show 1 ≤ 1 from (by omega)))))))
  | true =>
    rw [hv] at vr h
    by_cases h4 : (l.getD i tD).2.size ≤ 4096
    · rw [if_pos rfl, if_pos h4, if_pos rfl] at h ⊢
      unfold bkS at bl
      unfold b0S bRet
      rcases Nat.lt_or_ge (kF o (l.getD i tD)) o.length with hk2 | hk2
      · rw [decide_eq_true hk2, Bool.true_and] at h ⊢
        have hgk := encT_gk o (kF o (l.getD i tD)) hk2
        generalize kF o (l.getD i tD) = k at *
        have at2 : (flatA encT o).drop (0 + (k : Int).toNat * 2) = AV.str (o.getD k tD).1 :: AV.str (o.getD k tD).2 :: flatA encT (o.drop (k + 1)) := encT_at0 o k hk2
        generalize l.getD i tD = x at *
        generalize o.getD k tD = y at *
        cases hh : (y.1.toList == x.1.toList) with
        | false => rw [hh] at h; simp at h
        | true =>
          rw [if_pos rfl]
          clear h
          have e1' := (congrArg (fun z => AV.fptr z) at1)
          have e2' := vr
          have e3' := bl
          have e4' := (drop_hd (o := 0) (v := AV.str y.fst) at2 rfl)
          exact g_x [⟨4, [], .br true .no⟩, ⟨7, [], .as (rhsOf e1')⟩, ⟨10, [], .call (avOf e2') (blOf e2') []⟩, ⟨15, [], .as (rhsOf e1')⟩, ⟨20, [], .br false .no⟩, ⟨22, [.sel [0, 2, 4, 5, 6]], .loop (exOf e3') (endOf e3')⟩, ⟨28, [], .br true .no⟩, ⟨29, [], .br true .no⟩, ⟨30, [], .br true .no⟩, ⟨31, [], .br true .no⟩, ⟨32, [], .br true (.as (rhsOf e4'))⟩, ⟨33, [], .br true .no⟩, ⟨34, [], .br true .no⟩, ⟨35, [], .br true (.as (rhsOf e1'))⟩, ⟨36, [], .br true .no⟩, ⟨37, [], .br true .no⟩, ⟨38, [], .br true .no⟩, ⟨40, [], .br true .no⟩] [.sel [2, 3], .keep [0] [false]] (And.intro (show decide ((↑i : Int) < (↑l.length : Int)) = true from (by rw [decide_eq_true_iff]; omega)) (And.intro (show (0 : Int) ≤ (↑i : Int) ∧ (↑i : Int) < (↑l.length : Int) from (by omega)) (And.intro e1' (And.intro (show 1 ≤ (AV.str x.fst :: AV.str x.snd :: flatA encT (List.drop (i + 1) l)).length from (by exact Nat.le_of_ble_eq_true (by kernel_rfl))) (And.intro e2' (And.intro (show (0 : Int) ≤ (↑i : Int) ∧ (↑i : Int) < (↑l.length : Int) from (by omega)) (And.intro e1' (And.intro (show 1 ≤ (AV.str x.snd :: flatA encT (List.drop (i + 1) l)).length from (by exact Nat.le_of_ble_eq_true (by kernel_rfl))) (And.intro (show decide ((↑x.snd.size : Int) > (4096 : Int)) = false from (by rw [decide_eq_false_iff_not]; omega)) (And.intro e3' (And.intro (show (decide ((↑k : Int) < (↑o.length : Int)) == true) = true from (by simp_all; done)) (And.intro (show (decide ((↑k : Int) < (↑o.length : Int)) == true) = true from (by simp_all; done)) (And.intro (show (decide ((↑k : Int) < (↑o.length : Int)) == true) = true from (by simp_all; done)) (And.intro (show (0 : Int) ≤ (↑k : Int) ∧ (↑k : Int) < (↑o.length : Int) from (by omega)) (And.intro (show (decide ((↑k : Int) < (↑o.length : Int)) == true) = true from (by simp_all; done)) (And.intro (show (decide ((↑k : Int) < (↑o.length : Int)) == true) = true from (by simp_all; done)) (And.intro (show 1 ≤ (List.drop (0 + (↑k : Int).toNat * 2 + 0) (flatA encT o)).length from (drop_le (o := 0) (n := 1) at2 (by simp))) (And.intro e4' (And.intro (show (decide ((↑k : Int) < (↑o.length : Int)) == true) = true from (by simp_all; done)) (And.intro (show (decide ((↑k : Int) < (↑o.length : Int)) == true) = true from (by simp_all; done)) (And.intro (show (decide ((↑k : Int) < (↑o.length : Int)) == true) = true from (by simp_all; done)) (And.intro (show (0 : Int) ≤ (↑i : Int) ∧ (↑i : Int) < (↑l.length : Int) from (by omega)) (And.intro e1' (And.intro (show (decide ((↑k : Int) < (↑o.length : Int)) == true) = true from (by simp_all; done)) (And.intro (show (decide ((↑k : Int) < (↑o.length : Int)) == true) = true from (by simp_all; done)) (And.intro (show 1 ≤ (AV.str x.fst :: AV.str x.snd :: flatA encT (List.drop (i + 1) l)).length from (by exact Nat.le_of_ble_eq_true (by kernel_rfl))) (And.intro (show (decide ((↑k : Int) < (↑o.length : Int)) == true) = true from (by simp_all; done)) (And.intro (show (bif decide ((↑k : Int) < (↑o.length : Int)) then y.fst.toList == x.fst.toList else false) = true from (by simp_all; done)) (show 1 ≤ 1 from (by omega))))))))))))))))))))))))))))))
      · rw [decide_eq_false (by omega), Bool.false_and] at h
        simp at h
    · rw [if_pos rfl, if_neg h4, if_neg (by decide)]
      unfold b0S bRet
      generalize l.getD i tD = x at *
      clear h bl
      have e1' := (congrArg (fun z => AV.fptr z) at1)
      have e2' := vr
      exact g_x [⟨4, [], .br true .no⟩, ⟨7, [], .as (rhsOf e1')⟩, ⟨10, [], .call (avOf e2') (blOf e2') []⟩, ⟨15, [], .as (rhsOf e1')⟩, ⟨20, [], .br true .no⟩] [.sel [2, 3], .keep [0] [false]] (And.intro (show decide ((↑i : Int) < (↑l.length : Int)) = true from (by rw [decide_eq_true_iff]; omega)) (And.intro (show (0 : Int) ≤ (↑i : Int) ∧ (↑i : Int) < (↑l.length : Int) from (by omega)) (And.intro e1' (And.intro (show 1 ≤ (AV.str x.fst :: AV.str x.snd :: flatA encT (List.drop (i + 1) l)).length from (by exact Nat.le_of_ble_eq_true (by kernel_rfl))) (And.intro e2' (And.intro (show (0 : Int) ≤ (↑i : Int) ∧ (↑i : Int) < (↑l.length : Int) from (by omega)) (And.intro e1' (And.intro (show 1 ≤ (AV.str x.snd :: flatA encT (List.drop (i + 1) l)).length from (by exact Nat.le_of_ble_eq_true (by kernel_rfl))) (And.intro (show decide ((↑x.snd.size : Int) > (4096 : Int)) = true from (by rw [decide_eq_true_iff]; omega)) (show 1 ≤ 1 from (by omega)))))))))))
theorem sortR_take (l : List TE) (i : Nat) (h : i < l.length) : sortR (l.take (i + 1)) = insR (l.getD i tD) (sortR (l.take i)) := by
  unfold sortR
  rw [List.take_succ_eq_append_getElem h, List.foldl_append, List.getD_eq_getElem?_getD, List.getElem?_eq_getElem h]
  rfl
theorem sortR_len (l : List TE) : (sortR l).length = l.length := (sortR_perm l).length_eq
def bdE (l : List TE) (i : Nat) : Int := bsE (sortR (l.take i)) (l.getD i tD)
def bdM (l : List TE) : Nat := fstN (fun i => bdE l i == 0) l.length
/-- Build's error, and the files -/
def bdF (l : List TE) : Int := if 64 < l.length then 2 else if bdM l < l.length then bdE l (bdM l) else bif clF (sortR l) then 0 else 10
theorem sortR_ok {l : List TE} (h : ∀ x ∈ l, OkT x) : ∀ x ∈ sortR l, OkT x := fun x hx => h x ((sortR_perm l).mem_iff.1 hx)
theorem buildR (l : List TE) (hl : l.length ≤ 1000) (hok : ∀ x ∈ l, OkT x) : CallsV Tryd.prog 29 [filesV l] [] (fun av H' => (bdF l = 0 ∧ av = .tuple [.agg [.sl 0 0 (sortR l).length 2], .int .i64 0] ∧ H' = [.row 46 (flatA encT (sortR l))]) ∨ (bdF l ≠ 0 ∧ av = .tuple [.agg [.nilsl], .int .i64 (bdF l)] ∧ H' = [])) := by
  refine callsG_at Tryd.func29 (by kernel_rfl) ?_
  unfold bdF
  by_cases h64 : 64 < l.length
  · rw [if_pos h64]
    refine g_q [⟨5, [], .br true .no⟩] [.sel [2, 3]] Exit.ret (stOf 89 [(2, AV.ptr 0 0), (3, AV.int .i64 (2 : Int))] [Blk.row 24 [AV.nilsl]]) (And.intro (show decide ((↑l.length : Int) > (64 : Int)) = true from (by rw [decide_eq_true_iff]; omega)) (show 1 ≤ 1 from (by omega))) ?_
    refine g_f [] [] (AV.tuple [AV.agg [AV.nilsl], AV.int .i64 (2 : Int)]) ([]) (show 1 ≤ 1 from (by omega)) ?_
    exact .inr ⟨by decide, rfl, rfl⟩
  · rw [if_neg h64]
    have step : ∀ i, i < l.length → bdE l i = 0 → GoV Tryd.prog 0 (loopB Tryd.f29 0) (isX .normal (b0S l (sortR (l.take (i + 1))) (i + 1))) (b0S l (sortR (l.take i)) i) := fun i hi h => by
      rw [sortR_take l i hi]
      exact b_round_ok l _ i hi hl (by rw [sortR_len, List.length_take]; omega) hok h
    rcases fstN_or (fun i => bdE l i == 0) l.length with ⟨h1, h2⟩ | ⟨h1, h2, h3⟩
    · have hL : LoopG Tryd.prog 0 Tryd.f29 0 (.exit 0) (stOf 89 [(2, .ptr 0 0), (4, .sl 1 0 (sortR l).length 2)] [.row 24 [.nilsl], .row 46 (flatA encT (sortR l))]) (b0S l [] 0) := by
        refine loopG_of l.length (fun i => b0S l (sortR (l.take i)) i) (by kernel_rfl) (by simp [sortR]) ?_ ?_
        · intro i hi
          exact step i hi (eq_of_beq (h2 i hi))
        · rw [List.take_length]
          generalize sortR l = o
          unfold b0S
          exact g_x [⟨4, [], .br false .no⟩] [.sel [2, 4]] (show decide ((↑l.length : Int) < (↑l.length : Int)) = false from (by rw [decide_eq_false_iff_not]; omega))
      have cl := clashR (sortR l) (by rw [sortR_len]; exact hl) (sortR_ok hok)
      have hn : (sortR l).length ≤ 1000 := by rw [sortR_len]; exact hl
      have hge := encT_ge (sortR l)
      have tk := flatA_all_take encT_l (sortR l)
      unfold bdM
      rw [h1, if_neg (by omega)]
      generalize sortR l = o at *
      unfold b0S at hL
      cases hc : clF o with
      | true =>
        rw [hc] at cl
        have e1' := hL
        have e2' := (show Reads [Blk.row 24 [AV.nilsl], Blk.row 46 (flatA encT o)] [AV.sl 1 0 o.length 2] [AV.slv o.length 2 (flatA encT o)] from (Reads.cons (Reads1.sl (t := 46) (xs := flatA encT o) (by kernel_rfl) (show ∀ (x : AV), x ∈ flatA encT o → noid0 x = true ∧ x ≠ AV.junk from encT_lend o) (show 0 + o.length * 2 ≤ (flatA encT o).length from (by omega)) tk) Reads.nil))
        have e3' := cl
        refine g_q [⟨5, [], .br false .no⟩, ⟨8, [.sel [0, 2, 4, 5], .own 4 46 2], .loop (exOf e1') (endOf e1')⟩, ⟨10, [], .lend (rdOf e2') (avOf e3') (blOf e3') []⟩] [.sel [2, 3]] Exit.ret (stOf 89 [(2, AV.ptr 0 0), (3, AV.int .i64 (0 : Int))] [Blk.row 24 [AV.sl 1 0 o.length 2], Blk.row 46 (flatA encT o)]) (And.intro (show decide ((↑l.length : Int) > (64 : Int)) = false from (by rw [decide_eq_false_iff_not]; omega)) (And.intro e1' (And.intro e2' (And.intro (show (novR (AV.bool false) && [].all novB) = true from (by kernel_rfl)) (And.intro e3' (show 1 ≤ 1 from (by omega))))))) ?_
        refine g_f [1] [true] (AV.tuple [AV.agg [AV.sl 0 0 o.length 2], AV.int .i64 (0 : Int)]) ([Blk.row 46 (flatA encT o)]) (And.intro (show 1 ≤ 1 from (by omega)) (show ∀ (x : AV), x ∈ flatA encT o → noid0 x = true from encT_noid o)) ?_
        exact .inl ⟨rfl, rfl, rfl⟩
      | false =>
        rw [hc] at cl
        have e1' := hL
        have e2' := (show Reads [Blk.row 24 [AV.nilsl], Blk.row 46 (flatA encT o)] [AV.sl 1 0 o.length 2] [AV.slv o.length 2 (flatA encT o)] from (Reads.cons (Reads1.sl (t := 46) (xs := flatA encT o) (by kernel_rfl) (show ∀ (x : AV), x ∈ flatA encT o → noid0 x = true ∧ x ≠ AV.junk from encT_lend o) (show 0 + o.length * 2 ≤ (flatA encT o).length from (by omega)) tk) Reads.nil))
        have e3' := cl
        refine g_q [⟨5, [], .br false .no⟩, ⟨8, [.sel [0, 2, 4, 5], .own 4 46 2], .loop (exOf e1') (endOf e1')⟩, ⟨10, [], .lend (rdOf e2') (avOf e3') (blOf e3') []⟩] [.sel [2, 3]] Exit.ret (stOf 89 [(2, AV.ptr 0 0), (3, AV.int .i64 (10 : Int))] [Blk.row 24 [AV.nilsl], Blk.row 46 (flatA encT o)]) (And.intro (show decide ((↑l.length : Int) > (64 : Int)) = false from (by rw [decide_eq_false_iff_not]; omega)) (And.intro e1' (And.intro e2' (And.intro (show (novR (AV.bool true) && [].all novB) = true from (by kernel_rfl)) (And.intro e3' (show 1 ≤ 1 from (by omega))))))) ?_
        refine g_f [] [] (AV.tuple [AV.agg [AV.nilsl], AV.int .i64 (10 : Int)]) ([]) (show 1 ≤ 1 from (by omega)) ?_
        exact .inr ⟨by decide, rfl, rfl⟩
    · have hne : bdE l (bdM l) ≠ 0 := fun h => by
        unfold bdM at h
        rw [h] at h3; cases h3
      have hL : LoopG Tryd.prog 0 Tryd.f29 0 .ret (bRet (bdE l (bdM l))) (b0S l [] 0) := by
        refine loopG_of (bdM l) (fun i => b0S l (sortR (l.take i)) i) (by kernel_rfl) (by simp [sortR]) ?_ ?_
        · intro i hi
          have : bdM l < l.length := h1
          exact step i (by omega) (eq_of_beq (h2 i hi))
        · exact b_round_ne l _ _ h1 hl (by rw [sortR_len, List.length_take]; omega) hok hne
      rw [if_pos (show bdM l < l.length from h1)]
      generalize bdE l (bdM l) = e at *
      unfold b0S bRet at hL
      have e1' := hL
      refine g_q [⟨5, [], .br false .no⟩, ⟨8, [.sel [0, 2, 4, 5], .own 4 46 2], .loop (exOf e1') (endOf e1')⟩] [] Exit.ret (stOf 89 [(2, AV.ptr 0 0), (3, AV.int .i64 e)] [Blk.row 24 [AV.nilsl]]) (And.intro (show decide ((↑l.length : Int) > (64 : Int)) = false from (by rw [decide_eq_false_iff_not]; omega)) e1') ?_
      refine g_f [] [] (AV.tuple [AV.agg [AV.nilsl], AV.int .i64 e]) ([]) (show 1 ≤ 1 from (by omega)) ?_
      exact .inr ⟨hne, rfl, rfl⟩
end Go.Proofs.YthcaeofgegfncaaDoor
namespace Go.Proofs.YthcaeofgegfncaaDoor
open Go Go.RowKit V
set_option linter.unusedSimpArgs false
set_option linter.unusedVariables false
set_option maxHeartbeats 20000000
theorem buildR_ok (l : List TE) (hl : l.length ≤ 1000) (hok : ∀ x ∈ l, OkT x) (h : bdF l = 0) : CallsV Tryd.prog 29 [filesV l] [] (fun av H' => av = .tuple [.agg [.sl 0 0 (sortR l).length 2], .int .i64 0] ∧ H' = [.row 46 (flatA encT (sortR l))]) := (buildR l hl hok).mono fun av H' q => by
  rcases q with ⟨_, q⟩ | ⟨q, _⟩
  · exact q
  · exact absurd h q
theorem buildR_ne (l : List TE) (hl : l.length ≤ 1000) (hok : ∀ x ∈ l, OkT x) (h : bdF l ≠ 0) : CallsV Tryd.prog 29 [filesV l] [] (fun av H' => av = .tuple [.agg [.nilsl], .int .i64 (bdF l)] ∧ H' = []) := (buildR l hl hok).mono fun av H' q => by
  rcases q with ⟨q, _⟩ | ⟨_, q⟩
  · exact absurd q h
  · exact q
theorem encT_nov (v : List TE) (t : TypeId) (r : AV) (hr : novR r = true) : (novR r && [Blk.row t (flatA encT v)].all novB) = true := by
  rw [hr, Bool.true_and, List.all_cons, List.all_nil, Bool.and_true]
  show (flatA encT v).all nov0 = true
  rw [List.all_eq_true]
  exact flatA_all (p := fun x => nov0 x = true) (fun a x hx => by
    simp only [encT, List.mem_cons, List.not_mem_nil, or_false] at hx
    rcases hx with rfl | rfl <;> rfl) v
def ptL (l : List TE) (x : TE) : List TE := insR x (woK l x.1 l.length)
def ptF (l : List TE) (x : TE) : Int := if ckF l = 0 then bdF (ptL l x) else ckF l
def ptS (x : TE) (o : List TE) (k : Nat) : St := stOf 52 [(1, .str x.1), (2, .str x.2), (6, .ptr 0 0), (9, .sl 1 0 o.length 2), (10, .int .i64 (k : Int))] [.row 24 [.nilsl], .row 46 (flatA encT o)]
theorem ptk (o : List TE) (x : TE) (ho : o.length ≤ 1000) : LoopG Tryd.prog 0 Tryd.f20 0 (.exit 0) (ptS x o (kF o x)) (ptS x o 0) := by
  have hle := kF_le o x
  refine loopG_of (kF o x) (fun k => ptS x o k) (by kernel_rfl) (by simp) ?_ ?_
  · intro k hk
    have h := kF_lt o _ k hk
    have hk2 : k < o.length := by omega
    have at2 : (flatA encT o).drop (0 + (k : Int).toNat * 2) = AV.str (o.getD k tD).1 :: AV.str (o.getD k tD).2 :: flatA encT (o.drop (k + 1)) := encT_at0 o k hk2
    have hgk := encT_gk o k hk2
    unfold ptS
    generalize o.getD k tD = y at *
    have h' : Op.bytesLess y.1.toList x.1.toList = true := h
    have e1' := (drop_hd (o := 0) (v := AV.str y.fst) at2 rfl)
    have e2' := (congrArg (fun z => AV.int .i64 z) (wrap_i64 (e := (↑k : Int) + (1 : Int)) (by omega) (by omega)))
    exact g_x [⟨5, [.tm 24 (.bool true)], .no⟩, ⟨9, [], .as (rhsOf e1')⟩, ⟨13, [], .br true .no⟩, ⟨15, [], .as (rhsOf e2')⟩] [.sel [1, 2, 6, 9, 10]] (And.intro (congrArg AV.bool (show decide ((↑k : Int) < (↑o.length : Int)) = true from (by rw [decide_eq_true_iff]; omega))) (And.intro (show (0 : Int) ≤ (↑k : Int) ∧ (↑k : Int) < (↑o.length : Int) from (by omega)) (And.intro (show 1 ≤ (List.drop (0 + (↑k : Int).toNat * 2 + 0) (flatA encT o)).length from (drop_le (o := 0) (n := 1) at2 (by simp))) (And.intro e1' (And.intro (congrArg (fun z => bif true then z else false) h') e2')))))
  · rcases Nat.lt_or_ge (kF o x) o.length with hk2 | hk2
    · have h := kF_at o _ hk2
      generalize kF o x = k at *
      have at2 : (flatA encT o).drop (0 + (k : Int).toNat * 2) = AV.str (o.getD k tD).1 :: AV.str (o.getD k tD).2 :: flatA encT (o.drop (k + 1)) := encT_at0 o k hk2
      have hgk := encT_gk o k hk2
      unfold ptS
      generalize o.getD k tD = y at *
      have h' : Op.bytesLess y.1.toList x.1.toList = false := h
      have e1' := (drop_hd (o := 0) (v := AV.str y.fst) at2 rfl)
      exact g_x [⟨5, [.tm 24 (.bool true)], .no⟩, ⟨9, [], .as (rhsOf e1')⟩, ⟨13, [], .br false .no⟩] [.sel [1, 2, 6, 9, 10]] (And.intro (congrArg AV.bool (show decide ((↑k : Int) < (↑o.length : Int)) = true from (by rw [decide_eq_true_iff]; omega))) (And.intro (show (0 : Int) ≤ (↑k : Int) ∧ (↑k : Int) < (↑o.length : Int) from (by omega)) (And.intro (show 1 ≤ (List.drop (0 + (↑k : Int).toNat * 2 + 0) (flatA encT o)).length from (drop_le (o := 0) (n := 1) at2 (by simp))) (And.intro e1' (congrArg (fun z => bif true then z else false) h')))))
    · generalize kF o x = k at *
      obtain rfl : k = o.length := by omega
      unfold ptS
      exact g_x [⟨5, [.tm 24 (.bool false)], .no⟩] [.sel [1, 2, 6, 9, 10]] (And.intro (congrArg AV.bool (show decide ((↑o.length : Int) < (↑o.length : Int)) = false from (by rw [decide_eq_false_iff_not]; omega))) (show false = true → false = true from (fun h => h)))
theorem putR (l : List TE) (x : TE) (hl : l.length ≤ 900) (hok : ∀ x ∈ l, OkT x) (hx : OkT x) : CallsV Tryd.prog 20 [treeV l, .str x.1, .str x.2] [] (fun av H' => (ptF l x = 0 ∧ av = .tuple [.agg [.sl 0 0 (sortR (ptL l x)).length 2], .int .i64 0] ∧ H' = [.row 46 (flatA encT (sortR (ptL l x)))]) ∨ (ptF l x ≠ 0 ∧ av = .tuple [.agg [.nilsl], .int .i64 (ptF l x)] ∧ H' = [])) := by
  refine callsG_at Tryd.func20 (by kernel_rfl) ?_
  have ck := checkR l (by omega) hok
  unfold ptF
  by_cases hc : ckF l = 0
  · rw [hc] at ck
    rw [if_pos hc]
    have wo := withoutR l x.1 (by omega)
    have hwl := woK_len l x.1 l.length
    have hok2 : ∀ y ∈ insR x (woK l x.1 l.length), OkT y := fun y hy => by
      rcases insR_mem.1 hy with rfl | h
      · exact hx
      · exact hok y (List.mem_of_mem_take (List.mem_filter.1 h |>.1))
    unfold ptL
    generalize woK l x.1 l.length = o at *
    have pk := ptk o x (by omega)
    have hn : (insR x o).length ≤ 1000 := by rw [(insR_perm x o).length_eq, List.length_cons]; omega
    have hle := kF_le o x
    have hge := encT_ge o
    rw [insR_split] at *
    unfold ptS at pk
    generalize kF o x = k at *
    have r1 := insRow o x k hle
    have r2 := insLen o x k hle
    have n1 := insNo o k
    have n2 := encT_noid (o.take k ++ x :: o.drop k)
    have n4 := encT_lend (o.take k ++ x :: o.drop k)
    have n5 := encT_plain (o.take k ++ x :: o.drop k)
    have hge2 := encT_ge (o.take k ++ x :: o.drop k)
    have tk := flatA_all_take encT_l (o.take k ++ x :: o.drop k)
    have n3 := n2
    rw [← r1] at n3
    generalize o.take k ++ x :: o.drop k = w at *
    by_cases hb : bdF w = 0
    · have bd := buildR_ok w hn hok2 hb
      rw [hb]
      generalize sortR w = v at *
      have hnv := encT_nov v 46 (AV.tuple [AV.agg [AV.sl 0 0 v.length 2], AV.int .i64 (0 : Int)]) rfl
      have e1' := ck
      have e2' := wo
      have e3' := pk
      have e4' := (congrArg (fun z => AV.sl 5 0 z 2) r2)
      have e5' := (congrArg (fun z => Blk.row 46 z) r1)
      have e6' := (show Reads [Blk.row 24 [AV.nilsl], Blk.row 46 (flatA encT o), Blk.dead, Blk.row 46 [AV.str x.fst, AV.str x.snd], Blk.dead, Blk.row 46 (flatA encT w)] [AV.sl 5 0 w.length 2] [AV.slv w.length 2 (flatA encT w)] from (Reads.cons (Reads1.sl (t := 46) (xs := flatA encT w) (by kernel_rfl) (show ∀ (x : AV), x ∈ flatA encT w → noid0 x = true ∧ x ≠ AV.junk from n4) (show 0 + w.length * 2 ≤ (flatA encT w).length from (by omega)) tk) Reads.nil))
      have e7' := bd
      refine g_qB [⟨4, [], .call (avOf e1') (blOf e1') []⟩, ⟨11, [], .call (avOf e2') (blOf e2') [true]⟩, ⟨14, [.sel [1, 2, 6, 9, 10], .keep [1, 2] [false, true]], .loop (exOf e3') (endOf e3')⟩, ⟨18, [.flags [false, true] true], .no⟩, ⟨22, [.flags [false, true] false], .no⟩, ⟨23, [.flags [false, true] true], .no⟩, ⟨27, [.flags [false, true] true], .as (rhsOf e4')⟩, ⟨28, [.hp 5 (rhsOf e5')], .no⟩, ⟨30, [], .lend (rdOf e6') (avOf e7') (blOf e7') [true]⟩] [.sel [6, 7]] Exit.ret (stOf 52 [(6, AV.ptr 0 0), (7, AV.int .i64 (0 : Int))] [Blk.row 24 [AV.sl 6 0 v.length 2], Blk.row 46 (flatA encT o), Blk.dead, Blk.row 46 [AV.str x.fst, AV.str x.snd], Blk.dead, Blk.row 46 (flatA encT w), Blk.row 46 (flatA encT v)]) (And.intro (show 1 ≤ 1 from (by omega)) (And.intro e1' (And.intro (show 1 ≤ 1 from (by omega)) (And.intro (show ∀ (x : AV), x ∈ flatA encT o → plain0 x = true from encT_plain o) (And.intro e2' (And.intro (show ∀ (x : AV), x ∈ flatA encT o → noid0 x = true from encT_noid o) (And.intro e3' (And.intro (show (0 : Int) ≤ (0 : Int) ∧ (0 : Int) ≤ (↑k : Int) ∧ (↑k : Int) ≤ (↑o.length : Int) from (by omega)) (And.intro (show 0 + ((↑k : Int).toNat - 0) * 2 ≤ (flatA encT o).length from (by omega)) (And.intro (show (0 + ((↑k : Int).toNat - 0)) * 32 ≤ 140737488355328 from (by omega)) (And.intro (show 0 + ((↑k : Int).toNat - 0) ≤ maxLen from (by (unfold maxLen; omega))) (And.intro (show (0 : Int) ≤ (↑k : Int) ∧ (↑k : Int) ≤ (↑o.length : Int) ∧ (↑o.length : Int) ≤ (↑o.length : Int) from (by omega)) (And.intro (show 0 + ((↑k : Int).toNat - 0) * 2 ≤ (flatA encT o).length from (by omega)) (And.intro (show (0 + ((↑k : Int).toNat - 0)) * 32 ≤ 140737488355328 from (by omega)) (And.intro (show 0 + ((↑k : Int).toNat - 0) ≤ maxLen from (by (unfold maxLen; omega))) (And.intro (show (0 : Int) ≤ (↑k : Int) ∧ (↑k : Int) ≤ (↑o.length : Int) ∧ (↑o.length : Int) ≤ (↑o.length : Int) from (by omega)) (And.intro (show 0 + ((↑k : Int).toNat - 0) * 2 ≤ (flatA encT o).length from (by omega)) (And.intro (show (0 + ((↑k : Int).toNat - 0)) * 32 ≤ 140737488355328 from (by omega)) (And.intro (show 0 + ((↑k : Int).toNat - 0) ≤ maxLen from (by (unfold maxLen; omega))) (And.intro (show (0 : Int) ≤ (↑k : Int) ∧ (↑k : Int) ≤ (↑o.length : Int) ∧ (↑o.length : Int) ≤ (↑o.length : Int) from (by omega)) (And.intro (show 0 + ((↑k : Int).toNat - 0) * 2 ≤ (flatA encT o).length from (by omega)) (And.intro (show (0 + ((↑k : Int).toNat - 0)) * 32 ≤ 140737488355328 from (by omega)) (And.intro (show 0 + ((↑k : Int).toNat - 0) ≤ maxLen from (by (unfold maxLen; omega))) (And.intro (show ∀ (x : AV), x ∈ flatA encT o → noid0 x = true from encT_noid o) (And.intro (show ∀ (x : AV), x ∈ [] ++ List.take (((↑k : Int).toNat - 0) * 2) (List.drop 0 (flatA encT o)) → noid0 x = true from n1) (And.intro (show (0 : Int) ≤ (↑k : Int) ∧ (↑k : Int) ≤ (↑o.length : Int) ∧ (↑o.length : Int) ≤ (↑o.length : Int) from (by omega)) (And.intro (show 0 + ((↑k : Int).toNat - 0) * 2 ≤ (flatA encT o).length from (by omega)) (And.intro (show (0 + ((↑k : Int).toNat - 0)) * 32 ≤ 140737488355328 from (by omega)) (And.intro (show 0 + ((↑k : Int).toNat - 0) ≤ maxLen from (by (unfold maxLen; omega))) (And.intro (show (0 + ((↑k : Int).toNat - 0)) * 2 ≤ ([] ++ List.take (((↑k : Int).toNat - 0) * 2) (List.drop 0 (flatA encT o))).length from (by (simp; omega))) (And.intro (show 2 ≤ 2 from (by omega)) (And.intro (show (0 + ((↑k : Int).toNat - 0) + 1) * 32 ≤ 140737488355328 from (by omega)) (And.intro (show 0 + ((↑k : Int).toNat - 0) + 1 ≤ maxLen from (by (unfold maxLen; omega))) (And.intro (show (0 : Int) ≤ (↑k : Int) ∧ (↑k : Int) ≤ (↑o.length : Int) ∧ (↑o.length : Int) ≤ (↑o.length : Int) from (by omega)) (And.intro (show 0 + ((↑k : Int).toNat - 0) * 2 ≤ (flatA encT o).length from (by omega)) (And.intro (show (0 + ((↑k : Int).toNat - 0)) * 32 ≤ 140737488355328 from (by omega)) (And.intro (show 0 + ((↑k : Int).toNat - 0) ≤ maxLen from (by (unfold maxLen; omega))) (And.intro (show ∀ (x : AV), x ∈ flatA encT o → noid0 x = true from encT_noid o) (And.intro (show ∀ (x : AV), x ∈ [] ++ List.take (((↑k : Int).toNat - 0) * 2) (List.drop 0 (flatA encT o)) → noid0 x = true from n1) (And.intro (show (0 : Int) ≤ (↑k : Int) ∧ (↑k : Int) ≤ (↑o.length : Int) ∧ (↑o.length : Int) ≤ (↑o.length : Int) from (by omega)) (And.intro (show (0 + ((↑k : Int).toNat - 0)) * 2 ≤ ([] ++ List.take (((↑k : Int).toNat - 0) * 2) (List.drop 0 (flatA encT o))).length from (by (simp; omega))) (And.intro (show 2 ≤ 2 from (by omega)) (And.intro (show (0 + ((↑k : Int).toNat - 0) + 1) * 32 ≤ 140737488355328 from (by omega)) (And.intro (show 0 + ((↑k : Int).toNat - 0) + 1 ≤ maxLen from (by (unfold maxLen; omega))) (And.intro (show (0 + ((↑k : Int).toNat - 0) + 1) * 2 ≤ (List.take ((0 + ((↑k : Int).toNat - 0)) * 2) ([] ++ List.take (((↑k : Int).toNat - 0) * 2) (List.drop 0 (flatA encT o))) ++ [AV.str x.fst, AV.str x.snd]).length from (by (simp; omega))) (And.intro (show 0 + (↑k : Int).toNat * 2 + ((↑o.length : Int).toNat - (↑k : Int).toNat) * 2 ≤ (flatA encT o).length from (by omega)) (And.intro (show (0 + ((↑k : Int).toNat - 0) + 1 + ((↑o.length : Int).toNat - (↑k : Int).toNat)) * 32 ≤ 140737488355328 from (by omega)) (And.intro (show 0 + ((↑k : Int).toNat - 0) + 1 + ((↑o.length : Int).toNat - (↑k : Int).toNat) ≤ maxLen from (by (unfold maxLen; omega))) (And.intro e4' (And.intro (congrArg some e5') (And.intro (show ∀ (x : AV), x ∈ flatA encT v → plain0 x = true from encT_plain v) (And.intro e6' (And.intro (show (novR (AV.tuple [AV.agg [AV.sl 0 0 v.length 2], AV.int .i64 (0 : Int)]) && [Blk.row 46 (flatA encT v)].all novB) = true from (by omega)) (And.intro e7' (show 1 ≤ 1 from (by omega)))))))))))))))))))))))))))))))))))))))))))))))))))))))) ?_
      refine g_f [6] [true] (AV.tuple [AV.agg [AV.sl 0 0 v.length 2], AV.int .i64 (0 : Int)]) ([Blk.row 46 (flatA encT v)]) (And.intro (show 1 ≤ 1 from (by omega)) (show ∀ (x : AV), x ∈ flatA encT v → noid0 x = true from encT_noid v)) ?_
      exact .inl ⟨rfl, rfl, rfl⟩
    · have bd := buildR_ne w hn hok2 hb
      generalize bdF w = e at *
      have e1' := ck
      have e2' := wo
      have e3' := pk
      have e4' := (congrArg (fun z => AV.sl 5 0 z 2) r2)
      have e5' := (congrArg (fun z => Blk.row 46 z) r1)
      have e6' := (show Reads [Blk.row 24 [AV.nilsl], Blk.row 46 (flatA encT o), Blk.dead, Blk.row 46 [AV.str x.fst, AV.str x.snd], Blk.dead, Blk.row 46 (flatA encT w)] [AV.sl 5 0 w.length 2] [AV.slv w.length 2 (flatA encT w)] from (Reads.cons (Reads1.sl (t := 46) (xs := flatA encT w) (by kernel_rfl) (show ∀ (x : AV), x ∈ flatA encT w → noid0 x = true ∧ x ≠ AV.junk from n4) (show 0 + w.length * 2 ≤ (flatA encT w).length from (by omega)) tk) Reads.nil))
      have e7' := bd
      refine g_qB [⟨4, [], .call (avOf e1') (blOf e1') []⟩, ⟨11, [], .call (avOf e2') (blOf e2') [true]⟩, ⟨14, [.sel [1, 2, 6, 9, 10], .keep [1, 2] [false, true]], .loop (exOf e3') (endOf e3')⟩, ⟨18, [.flags [false, true] true], .no⟩, ⟨22, [.flags [false, true] false], .no⟩, ⟨23, [.flags [false, true] true], .no⟩, ⟨27, [.flags [false, true] true], .as (rhsOf e4')⟩, ⟨28, [.hp 5 (rhsOf e5')], .no⟩, ⟨30, [], .lend (rdOf e6') (avOf e7') (blOf e7') []⟩] [.sel [6, 7]] Exit.ret (stOf 52 [(6, AV.ptr 0 0), (7, AV.int .i64 e)] [Blk.row 24 [AV.nilsl], Blk.row 46 (flatA encT o), Blk.dead, Blk.row 46 [AV.str x.fst, AV.str x.snd], Blk.dead, Blk.row 46 (flatA encT w)]) (And.intro (show 1 ≤ 1 from (by omega)) (And.intro e1' (And.intro (show 1 ≤ 1 from (by omega)) (And.intro (show ∀ (x : AV), x ∈ flatA encT o → plain0 x = true from encT_plain o) (And.intro e2' (And.intro (show ∀ (x : AV), x ∈ flatA encT o → noid0 x = true from encT_noid o) (And.intro e3' (And.intro (show (0 : Int) ≤ (0 : Int) ∧ (0 : Int) ≤ (↑k : Int) ∧ (↑k : Int) ≤ (↑o.length : Int) from (by omega)) (And.intro (show 0 + ((↑k : Int).toNat - 0) * 2 ≤ (flatA encT o).length from (by omega)) (And.intro (show (0 + ((↑k : Int).toNat - 0)) * 32 ≤ 140737488355328 from (by omega)) (And.intro (show 0 + ((↑k : Int).toNat - 0) ≤ maxLen from (by (unfold maxLen; omega))) (And.intro (show (0 : Int) ≤ (↑k : Int) ∧ (↑k : Int) ≤ (↑o.length : Int) ∧ (↑o.length : Int) ≤ (↑o.length : Int) from (by omega)) (And.intro (show 0 + ((↑k : Int).toNat - 0) * 2 ≤ (flatA encT o).length from (by omega)) (And.intro (show (0 + ((↑k : Int).toNat - 0)) * 32 ≤ 140737488355328 from (by omega)) (And.intro (show 0 + ((↑k : Int).toNat - 0) ≤ maxLen from (by (unfold maxLen; omega))) (And.intro (show (0 : Int) ≤ (↑k : Int) ∧ (↑k : Int) ≤ (↑o.length : Int) ∧ (↑o.length : Int) ≤ (↑o.length : Int) from (by omega)) (And.intro (show 0 + ((↑k : Int).toNat - 0) * 2 ≤ (flatA encT o).length from (by omega)) (And.intro (show (0 + ((↑k : Int).toNat - 0)) * 32 ≤ 140737488355328 from (by omega)) (And.intro (show 0 + ((↑k : Int).toNat - 0) ≤ maxLen from (by (unfold maxLen; omega))) (And.intro (show (0 : Int) ≤ (↑k : Int) ∧ (↑k : Int) ≤ (↑o.length : Int) ∧ (↑o.length : Int) ≤ (↑o.length : Int) from (by omega)) (And.intro (show 0 + ((↑k : Int).toNat - 0) * 2 ≤ (flatA encT o).length from (by omega)) (And.intro (show (0 + ((↑k : Int).toNat - 0)) * 32 ≤ 140737488355328 from (by omega)) (And.intro (show 0 + ((↑k : Int).toNat - 0) ≤ maxLen from (by (unfold maxLen; omega))) (And.intro (show ∀ (x : AV), x ∈ flatA encT o → noid0 x = true from encT_noid o) (And.intro (show ∀ (x : AV), x ∈ [] ++ List.take (((↑k : Int).toNat - 0) * 2) (List.drop 0 (flatA encT o)) → noid0 x = true from n1) (And.intro (show (0 : Int) ≤ (↑k : Int) ∧ (↑k : Int) ≤ (↑o.length : Int) ∧ (↑o.length : Int) ≤ (↑o.length : Int) from (by omega)) (And.intro (show 0 + ((↑k : Int).toNat - 0) * 2 ≤ (flatA encT o).length from (by omega)) (And.intro (show (0 + ((↑k : Int).toNat - 0)) * 32 ≤ 140737488355328 from (by omega)) (And.intro (show 0 + ((↑k : Int).toNat - 0) ≤ maxLen from (by (unfold maxLen; omega))) (And.intro (show (0 + ((↑k : Int).toNat - 0)) * 2 ≤ ([] ++ List.take (((↑k : Int).toNat - 0) * 2) (List.drop 0 (flatA encT o))).length from (by (simp; omega))) (And.intro (show 2 ≤ 2 from (by omega)) (And.intro (show (0 + ((↑k : Int).toNat - 0) + 1) * 32 ≤ 140737488355328 from (by omega)) (And.intro (show 0 + ((↑k : Int).toNat - 0) + 1 ≤ maxLen from (by (unfold maxLen; omega))) (And.intro (show (0 : Int) ≤ (↑k : Int) ∧ (↑k : Int) ≤ (↑o.length : Int) ∧ (↑o.length : Int) ≤ (↑o.length : Int) from (by omega)) (And.intro (show 0 + ((↑k : Int).toNat - 0) * 2 ≤ (flatA encT o).length from (by omega)) (And.intro (show (0 + ((↑k : Int).toNat - 0)) * 32 ≤ 140737488355328 from (by omega)) (And.intro (show 0 + ((↑k : Int).toNat - 0) ≤ maxLen from (by (unfold maxLen; omega))) (And.intro (show ∀ (x : AV), x ∈ flatA encT o → noid0 x = true from encT_noid o) (And.intro (show ∀ (x : AV), x ∈ [] ++ List.take (((↑k : Int).toNat - 0) * 2) (List.drop 0 (flatA encT o)) → noid0 x = true from n1) (And.intro (show (0 : Int) ≤ (↑k : Int) ∧ (↑k : Int) ≤ (↑o.length : Int) ∧ (↑o.length : Int) ≤ (↑o.length : Int) from (by omega)) (And.intro (show (0 + ((↑k : Int).toNat - 0)) * 2 ≤ ([] ++ List.take (((↑k : Int).toNat - 0) * 2) (List.drop 0 (flatA encT o))).length from (by (simp; omega))) (And.intro (show 2 ≤ 2 from (by omega)) (And.intro (show (0 + ((↑k : Int).toNat - 0) + 1) * 32 ≤ 140737488355328 from (by omega)) (And.intro (show 0 + ((↑k : Int).toNat - 0) + 1 ≤ maxLen from (by (unfold maxLen; omega))) (And.intro (show (0 + ((↑k : Int).toNat - 0) + 1) * 2 ≤ (List.take ((0 + ((↑k : Int).toNat - 0)) * 2) ([] ++ List.take (((↑k : Int).toNat - 0) * 2) (List.drop 0 (flatA encT o))) ++ [AV.str x.fst, AV.str x.snd]).length from (by (simp; omega))) (And.intro (show 0 + (↑k : Int).toNat * 2 + ((↑o.length : Int).toNat - (↑k : Int).toNat) * 2 ≤ (flatA encT o).length from (by omega)) (And.intro (show (0 + ((↑k : Int).toNat - 0) + 1 + ((↑o.length : Int).toNat - (↑k : Int).toNat)) * 32 ≤ 140737488355328 from (by omega)) (And.intro (show 0 + ((↑k : Int).toNat - 0) + 1 + ((↑o.length : Int).toNat - (↑k : Int).toNat) ≤ maxLen from (by (unfold maxLen; omega))) (And.intro e4' (And.intro (congrArg some e5') (And.intro e6' (And.intro (show (novR (AV.tuple [AV.agg [AV.nilsl], AV.int .i64 e]) && [].all novB) = true from (by kernel_rfl)) (And.intro e7' (show 1 ≤ 1 from (by omega))))))))))))))))))))))))))))))))))))))))))))))))))))))) ?_
      refine g_f [] [] (AV.tuple [AV.agg [AV.nilsl], AV.int .i64 e]) ([]) (show 1 ≤ 1 from (by omega)) ?_
      exact .inr ⟨hb, rfl, rfl⟩
  · rw [if_neg hc]
    have hq : (ckF l == 0) = false := beq_eq_false_iff_ne.2 hc
    generalize ckF l = e at *
    have e1' := ck
    refine g_q [⟨4, [], .call (avOf e1') (blOf e1') []⟩, ⟨8, [], .br true .no⟩] [.sel [6, 7]] Exit.ret (stOf 52 [(6, AV.ptr 1 0), (7, AV.int .i64 e)] [Blk.row 24 [AV.slv l.length 2 (flatA encT l)], Blk.row 24 [AV.nilsl]]) (And.intro (show 1 ≤ 1 from (by omega)) (And.intro e1' (And.intro (show (e != (0 : Int)) = true from (by simp_all; done)) (show 1 ≤ 1 from (by omega))))) ?_
    refine g_f [] [] (AV.tuple [AV.agg [AV.nilsl], AV.int .i64 e]) ([]) (show 1 ≤ 1 from (by omega)) ?_
    exact .inr ⟨hc, rfl, rfl⟩
end Go.Proofs.YthcaeofgegfncaaDoor
namespace Go.Proofs.YthcaeofgegfncaaDoor
open Go Go.RowKit V
set_option linter.unusedSimpArgs false
set_option linter.unusedVariables false
set_option maxHeartbeats 20000000
def smS (l : List TE) (i : Nat) : St := stOf 31 [(2, .ptr 0 0), (3, .ptr 1 0), (5, .int .i64 (i : Int))] [.row 24 [filesV l], .row 24 [filesV l]]
theorem sameR (l : List TE) (hl : l.length ≤ 1000) : CallsV Tryd.prog 15 [treeV l, treeV l] [] (fun av H' => av = .bool true ∧ H' = []) := by
  refine callsG_at Tryd.func15 (by kernel_rfl) ?_
  have hL : LoopG Tryd.prog 0 Tryd.f15 0 (.exit 0) (stOf 31 [] []) (smS l 0) := by
    refine loopG_of l.length (fun i => smS l i) (by kernel_rfl) (by simp) ?_ ?_
    · intro k hk
      have at1 : (flatA encT l).drop ((k : Int).toNat * 2) = AV.str (l.getD k tD).1 :: AV.str (l.getD k tD).2 :: flatA encT (l.drop (k + 1)) := encT_at l k hk
      generalize l.getD k tD = x at *
      have b1 : (x.1.toList == x.1.toList) = true := beq_self_eq_true _
      have b2 : (x.2.toList == x.2.toList) = true := beq_self_eq_true _
      unfold smS
      have e1' := (congrArg (fun z => AV.fptr z) at1)
      have e2' := (congrArg (fun z => AV.int .i64 z) (wrap_i64 (e := (↑k : Int) + (1 : Int)) (by omega) (by omega)))
      exact g_x [⟨5, [], .br true .no⟩, ⟨9, [], .as (rhsOf e1')⟩, ⟨14, [], .as (rhsOf e1')⟩, ⟨17, [], .br false .no⟩, ⟨19, [], .as (rhsOf e2')⟩] [.sel [2, 3, 5]] (And.intro (show 1 ≤ 1 from (by omega)) (And.intro (show decide ((↑k : Int) < (↑l.length : Int)) = true from (by rw [decide_eq_true_iff]; omega)) (And.intro (show 1 ≤ 1 from (by omega)) (And.intro (show (0 : Int) ≤ (↑k : Int) ∧ (↑k : Int) < (↑l.length : Int) from (by omega)) (And.intro e1' (And.intro (show 2 ≤ (AV.str x.fst :: AV.str x.snd :: flatA encT (List.drop (k + 1) l)).length from (by exact Nat.le_of_ble_eq_true (by kernel_rfl))) (And.intro (show 1 ≤ 1 from (by omega)) (And.intro (show (0 : Int) ≤ (↑k : Int) ∧ (↑k : Int) < (↑l.length : Int) from (by omega)) (And.intro e1' (And.intro (show 2 ≤ (AV.str x.fst :: AV.str x.snd :: flatA encT (List.drop (k + 1) l)).length from (by exact Nat.le_of_ble_eq_true (by kernel_rfl))) (And.intro (Eq.trans (congrArg (fun z => !(z && (x.snd.toList == x.snd.toList && true))) b1) (congrArg (fun z => !(true && (z && true))) b2)) e2')))))))))))
    · unfold smS
      exact g_x [⟨5, [], .br false .no⟩] [.sel [], .keep [] []] (And.intro (show 1 ≤ 1 from (by omega)) (show decide ((↑l.length : Int) < (↑l.length : Int)) = false from (by rw [decide_eq_false_iff_not]; omega)))
  unfold smS at hL
  have e1' := hL
  refine g_q [⟨10, [], .br false .no⟩, ⟨12, [.sel [2, 3, 5]], .loop (exOf e1') (endOf e1')⟩] [] Exit.ret (stOf 31 [(4, AV.bool true)] []) (And.intro (show 1 ≤ 1 from (by omega)) (And.intro (show 1 ≤ 1 from (by omega)) (And.intro (show ((↑l.length : Int) != (↑l.length : Int)) = false from (by simp_all; done)) e1'))) ?_
  refine g_f [] [] (AV.bool true) ([]) trivial ?_
  exact ⟨rfl, rfl⟩
def gtI (l : List TE) (p : ByteArray) : Nat := fstN (fun k => !((l.getD k tD).1.toList == p.toList)) l.length
end Go.Proofs.YthcaeofgegfncaaDoor
namespace Go.Proofs.YthcaeofgegfncaaDoor
open Go Go.RowKit V
set_option linter.unusedSimpArgs false
set_option linter.unusedVariables false
set_option maxHeartbeats 20000000
end Go.Proofs.YthcaeofgegfncaaDoor
namespace Go.Proofs.YthcaeofgegfncaaDoor
open Go Go.RowKit V
set_option linter.unusedSimpArgs false
set_option linter.unusedVariables false
set_option maxHeartbeats 20000000
end Go.Proofs.YthcaeofgegfncaaDoor
namespace Go.Proofs.YthcaeofgegfncaaDoor
open Go Go.RowKit V
set_option linter.unusedSimpArgs false
set_option linter.unusedVariables false
set_option maxHeartbeats 20000000
theorem pick_eq (k n : Nat) (hn : 0 < n) (hn2 : n ≤ 1000) : (IntKind.i64.wrap (((k : Int).tmod (n : Int)) + (n : Int))).tmod (n : Int) = ((k % n : Nat) : Int) := by
  have h1 : (k : Int).tmod (n : Int) = ((k % n : Nat) : Int) := (Int.ofNat_tmod k n).symm
  have h2 : k % n < n := Nat.mod_lt _ hn
  have h3 : ((k % n : Nat) : Int) + (n : Int) = ((k % n + n : Nat) : Int) := (Int.natCast_add _ _).symm
  rw [h1, h3, wrap_i64 (by omega) (by omega), ← Int.ofNat_tmod, Nat.add_mod_right, Nat.mod_mod]
theorem pick_v (k n : Nat) (hk : k ≤ 255) (hn : 0 < n) (hn2 : n ≤ 1000) : CallsV Tryd.prog 16 [.int .i64 (k : Int), .int .i64 (n : Int)] [] (fun av H' => av = .int .i64 ((k % n : Nat) : Int) ∧ H' = []) := by
  refine callsG_at Tryd.func16 (by kernel_rfl) ?_
  refine g_q [⟨3, [], .br false .no⟩] [.sel [4]] Exit.ret (stOf 14 [(4, AV.int .i64 ((IntKind.i64.wrap ((↑k : Int).tmod (↑n : Int) + (↑n : Int))).tmod (↑n : Int)))] []) (And.intro (show decide ((↑n : Int) ≤ (0 : Int)) = false from (by rw [decide_eq_false_iff_not]; omega)) (And.intro (show (↑n : Int) ≠ (0 : Int) from (by omega)) (show (↑n : Int) ≠ (0 : Int) from (by omega)))) ?_
  refine g_f [] [] (AV.int .i64 ((IntKind.i64.wrap ((↑k : Int).tmod (↑n : Int) + (↑n : Int))).tmod (↑n : Int))) ([]) trivial ?_
  exact ⟨congrArg (AV.int .i64) (pick_eq k n hn hn2), rfl⟩
end Go.Proofs.YthcaeofgegfncaaDoor
namespace Go.Proofs.YthcaeofgegfncaaDoor
open Go Go.RowKit V
set_option linter.unusedSimpArgs false
set_option linter.unusedVariables false
set_option maxHeartbeats 20000000
def ptT : List ByteArray := [.mk #[97], .mk #[98], .mk #[97, 47, 120], .mk #[108, 105, 98, 47, 97, 46, 109], .mk #[108, 105, 98, 47, 98, 46, 109], .mk #[119, 111, 114, 107, 47, 97, 46, 109], .mk #[119, 111, 114, 107, 47, 98, 46, 109], .mk #[119, 111, 114, 107, 47, 99], .mk #[116, 101, 115, 116, 115, 47, 97, 46, 109], .mk #[100, 111, 99, 47, 114, 101, 97, 100, 109, 101], .mk #[108, 105, 98, 47, 120, 47, 99, 46, 109], .mk #[122, 46, 109]]
theorem ptT_lit : ([AV.str (.mk #[97]), .str (.mk #[98]), .str (.mk #[97, 47, 120]), .str (.mk #[108, 105, 98, 47, 97, 46, 109]), .str (.mk #[108, 105, 98, 47, 98, 46, 109]), .str (.mk #[119, 111, 114, 107, 47, 97, 46, 109]), .str (.mk #[119, 111, 114, 107, 47, 98, 46, 109]), .str (.mk #[119, 111, 114, 107, 47, 99]), .str (.mk #[116, 101, 115, 116, 115, 47, 97, 46, 109]), .str (.mk #[100, 111, 99, 47, 114, 101, 97, 100, 109, 101]), .str (.mk #[108, 105, 98, 47, 120, 47, 99, 46, 109]), .str (.mk #[122, 46, 109])] : List AV) = flatA encS ptT := rfl
theorem path_v (k : Nat) (hk : k ≤ 255) : CallsV Tryd.prog 26 [.int .i64 (k : Int)] [] (fun av H' => av = .str (ptT.getD (k % 12) bE) ∧ H' = []) := by
  refine callsG_at Tryd.func26 (by kernel_rfl) ?_
  have pv := pick_v k 12 hk (by omega) (by omega)
  have hlt : k % 12 < 12 := Nat.mod_lt _ (by omega)
  generalize k % 12 = j at *
  have at2 := encS_at0 ptT j hlt
  have hgk := encS_gk ptT j hlt
  have lit := ptT_lit
  have ns := encS_noid ptT
  generalize ptT = Q at *
  have e1' := (congrArg (fun z => Blk.row 9 z) lit)
  have e2' := pv
  have e3' := (drop_hd0 (v := AV.str (Q.getD j ByteArray.empty)) at2 rfl)
  refine g_q [⟨2, [.hp 0 (rhsOf e1')], .no⟩, ⟨7, [], .call (avOf e2') (blOf e2') []⟩, ⟨9, [], .as (rhsOf e3')⟩] [.sel [2]] Exit.ret (stOf 12 [(2, AV.str (Q.getD j ByteArray.empty))] [Blk.row 9 (flatA encS Q)]) (And.intro (congrArg some e1') (And.intro e2' (And.intro (show (0 : Int) ≤ (↑j : Int) ∧ (↑j : Int) < (↑12 : Int) from (by omega)) (And.intro (show 1 ≤ (List.drop (0 + (↑j : Int).toNat * 1) (flatA encS Q)).length from (drop_le0 (n := 1) at2 (by simp))) e3')))) ?_
  refine g_f [] [] (AV.str (Q.getD j ByteArray.empty)) ([]) trivial ?_
  exact ⟨rfl, rfl⟩
def txT : List ByteArray := [.mk #[], .mk #[120], .mk #[120, 121], .mk #[102, 117, 110, 99, 32, 102, 40, 41, 32, 105, 110, 116, 32, 123, 32, 114, 101, 116, 117, 114, 110, 32, 49, 59, 32, 125], .mk #[121, 120], .mk #[105, 109, 112, 111, 114, 116, 32, 34, 108, 105, 98, 34, 59], .mk #[108, 111, 110, 103, 32, 108, 111, 110, 103, 32, 116, 101, 120, 116], .mk #[120, 10]]
theorem txT_lit : ([AV.str (.mk #[]), .str (.mk #[120]), .str (.mk #[120, 121]), .str (.mk #[102, 117, 110, 99, 32, 102, 40, 41, 32, 105, 110, 116, 32, 123, 32, 114, 101, 116, 117, 114, 110, 32, 49, 59, 32, 125]), .str (.mk #[121, 120]), .str (.mk #[105, 109, 112, 111, 114, 116, 32, 34, 108, 105, 98, 34, 59]), .str (.mk #[108, 111, 110, 103, 32, 108, 111, 110, 103, 32, 116, 101, 120, 116]), .str (.mk #[120, 10])] : List AV) = flatA encS txT := rfl
theorem text_v (k : Nat) (hk : k ≤ 255) : CallsV Tryd.prog 27 [.int .i64 (k : Int)] [] (fun av H' => av = .str (txT.getD (k % 8) bE) ∧ H' = []) := by
  refine callsG_at Tryd.func27 (by kernel_rfl) ?_
  have pv := pick_v k 8 hk (by omega) (by omega)
  have hlt : k % 8 < 8 := Nat.mod_lt _ (by omega)
  generalize k % 8 = j at *
  have at2 := encS_at0 txT j hlt
  have hgk := encS_gk txT j hlt
  have lit := txT_lit
  have ns := encS_noid txT
  generalize txT = Q at *
  have e1' := (congrArg (fun z => Blk.row 9 z) lit)
  have e2' := pv
  have e3' := (drop_hd0 (v := AV.str (Q.getD j ByteArray.empty)) at2 rfl)
  refine g_q [⟨2, [.hp 0 (rhsOf e1')], .no⟩, ⟨7, [], .call (avOf e2') (blOf e2') []⟩, ⟨9, [], .as (rhsOf e3')⟩] [.sel [2]] Exit.ret (stOf 12 [(2, AV.str (Q.getD j ByteArray.empty))] [Blk.row 9 (flatA encS Q)]) (And.intro (congrArg some e1') (And.intro e2' (And.intro (show (0 : Int) ≤ (↑j : Int) ∧ (↑j : Int) < (↑8 : Int) from (by omega)) (And.intro (show 1 ≤ (List.drop (0 + (↑j : Int).toNat * 1) (flatA encS Q)).length from (drop_le0 (n := 1) at2 (by simp))) e3')))) ?_
  refine g_f [] [] (AV.str (Q.getD j ByteArray.empty)) ([]) trivial ?_
  exact ⟨rfl, rfl⟩
end Go.Proofs.YthcaeofgegfncaaDoor
namespace Go.Proofs.YthcaeofgegfncaaDoor
open Go Go.RowKit V
set_option linter.unusedSimpArgs false
set_option linter.unusedVariables false
set_option maxHeartbeats 20000000
def encB (x : (Int × Int)) : List AV := [AV.int .u8 x.1, AV.int .u8 x.2]
theorem encB_l (x : (Int × Int)) : (encB x).length = 2 := rfl
theorem encB_at (l : List (Int × Int)) (k : Nat) (hk : k < l.length) : (flatA encB l).drop ((k : Int).toNat * 2) = AV.int .u8 (l.getD k (0, 0)).1 :: AV.int .u8 (l.getD k (0, 0)).2 :: flatA encB (l.drop (k + 1)) := flatA_at encB_l l (0, 0) k hk
def enE (x : Int × Int) : TE := (ptT.getD (x.1.toNat % 12) bE, txT.getD (x.2.toNat % 8) bE)
def enK (l : List (Int × Int)) (k : Nat) : List TE := (l.take k).map enE
def enN (l : List (Int × Int)) : Nat := min l.length 20
theorem enK_next (l : List (Int × Int)) (k : Nat) (hk : k < l.length) : enK l (k + 1) = enK l k ++ [enE (l.getD k (0, 0))] := by
  unfold enK
  rw [List.take_succ_eq_append_getElem hk, List.map_append, List.getD_eq_getElem?_getD, List.getElem?_eq_getElem hk]
  rfl
theorem enK_len (l : List (Int × Int)) (k : Nat) (hk : k ≤ l.length) : (enK l k).length = k := by
  unfold enK
  rw [List.length_map, List.length_take]; omega
def enS (l : List (Int × Int)) (k : Nat) (o : List TE) : St := stOf 34 [(0, .slv l.length 2 (flatA encB l)), (3, .sl 0 0 o.length 2), (4, .int .i64 (k : Int))] [.row 46 (flatA encT o)]
theorem entries_v (l : List (Int × Int)) (hl : l.length ≤ 9223372036854775807) (hz : ∀ x ∈ l, (0 ≤ x.1 ∧ x.1 ≤ 255) ∧ 0 ≤ x.2 ∧ x.2 ≤ 255) : CallsV Tryd.prog 19 [.slv l.length 2 (flatA encB l)] [] (fun av H' => av = .sl 0 0 (enK l (enN l)).length 2 ∧ H' = [.row 46 (flatA encT (enK l (enN l)))]) := by
  refine callsG_at Tryd.func19 (by kernel_rfl) ?_
  have hL : LoopG Tryd.prog 0 Tryd.f19 0 (.exit 0) (stOf 34 [(3, .sl 0 0 (enK l (enN l)).length 2)] [.row 46 (flatA encT (enK l (enN l)))]) (enS l 0 []) := by
    refine loopG_of (enN l) (fun k => enS l k (enK l k)) (by kernel_rfl) (by simp) ?_ ?_
    · intro k hk
      have hk1 : k < l.length := by unfold enN at hk; omega
      have hk2 : k < 20 := by unfold enN at hk; omega
      have at1 : (flatA encB l).drop ((k : Int).toNat * 2) = AV.int .u8 (l.getD k (0, 0)).1 :: AV.int .u8 (l.getD k (0, 0)).2 :: flatA encB (l.drop (k + 1)) := encB_at l k hk1
      obtain ⟨⟨a0, a1⟩, b0, b1⟩ := hz _ (getD_mem' hk1 (0, 0))
      have pt := path_v (l.getD k (0, 0)).1.toNat (by omega)
      have tx := text_v (l.getD k (0, 0)).2.toNat (by omega)
      have hn := enK_len l k (by omega)
      rw [enK_next l k hk1]
      unfold enE
      rw [Int.toNat_of_nonneg a0] at pt
      rw [Int.toNat_of_nonneg b0] at tx
      generalize enK l k = o at *
      generalize l.getD k (0, 0) = z at *
      generalize ptT.getD (z.1.toNat % 12) bE = u at *
      generalize txT.getD (z.2.toNat % 8) bE = v at *
      have hsn := encT_snoc o (u, v)
      have hge := encT_ge o
      unfold enS
      rw [List.length_append, List.length_singleton]
      have e1' := (congrArg (fun z => AV.fptr z) at1)
      have e2' := (congrArg (fun z => AV.int .i64 z) (wrap_i64 (e := z.fst) (by omega) (by omega)))
      have e3' := (congrArg (fun z => AV.int .i64 z) (wrap_i64 (e := z.snd) (by omega) (by omega)))
      have e4' := pt
      have e5' := tx
      have e6' := (congrArg (fun z => Blk.row 46 z) hsn)
      have e7' := (congrArg (fun z => AV.int .i64 z) (wrap_i64 (e := (↑k : Int) + (1 : Int)) (by omega) (by omega)))
      exact g_x [⟨5, [.tm 9 (.bool true)], .no⟩, ⟨8, [], .br true .no⟩, ⟨12, [], .as (rhsOf e1')⟩, ⟨15, [], .as (rhsOf e2')⟩, ⟨19, [], .as (rhsOf e1')⟩, ⟨22, [], .as (rhsOf e3')⟩, ⟨16, [], .call (avOf e4') (blOf e4') []⟩, ⟨23, [], .call (avOf e5') (blOf e5') []⟩, ⟨27, [.hp 2 (rhsOf e6')], .no⟩, ⟨29, [], .as (rhsOf e7')⟩] [.sel [0, 3, 4], .keep [2] [true]] (And.intro (congrArg AV.bool (show decide ((↑k : Int) < (↑l.length : Int)) = true from (by rw [decide_eq_true_iff]; omega))) (And.intro (show (bif true then decide ((↑k : Int) < (20 : Int)) else false) = true from (by simp_all; omega)) (And.intro (show (0 : Int) ≤ (↑k : Int) ∧ (↑k : Int) < (↑l.length : Int) from (by omega)) (And.intro e1' (And.intro (show (0 : Int) ≤ (0 : Int) ∧ (0 : Int) < (↑2 : Int) from (by omega)) (And.intro (show 1 ≤ (AV.int .u8 z.fst :: AV.int .u8 z.snd :: flatA encB (List.drop (k + 1) l)).length from (by exact Nat.le_of_ble_eq_true (by kernel_rfl))) (And.intro e2' (And.intro (show (0 : Int) ≤ (↑k : Int) ∧ (↑k : Int) < (↑l.length : Int) from (by omega)) (And.intro e1' (And.intro (show (0 : Int) ≤ (1 : Int) ∧ (1 : Int) < (↑2 : Int) from (by omega)) (And.intro (show 1 ≤ (AV.int .u8 z.snd :: flatA encB (List.drop (k + 1) l)).length from (by exact Nat.le_of_ble_eq_true (by kernel_rfl))) (And.intro e3' (And.intro e4' (And.intro e5' (And.intro (show o.length * 2 ≤ (flatA encT o).length from (by omega)) (And.intro (show 2 ≤ 2 from (by omega)) (And.intro (show (o.length + 1) * 32 ≤ 140737488355328 from (by omega)) (And.intro (show o.length + 1 ≤ maxLen from (by (unfold maxLen; omega))) (And.intro (congrArg some e6') (And.intro e7' (show ∀ (x : AV), x ∈ flatA encT (o ++ [(u, v)]) → noid0 x = true from encT_noid (o ++ [(u, v)]))))))))))))))))))))))
    · have hx : (decide ((enN l : Int) < (l.length : Int)) && decide ((enN l : Int) < 20)) = false := by
        unfold enN
        rcases Nat.lt_or_ge l.length 20 with h | h
        · rw [Nat.min_eq_left (by omega)]; simp
        · rw [Nat.min_eq_right (by omega)]; simp
      generalize enK l (enN l) = o at *
      generalize enN l = n at *
      unfold enS
      exact g_x [⟨5, [], .gd⟩, ⟨6, [], .gd⟩, ⟨8, [], .br false .no⟩] [.sel [3]] (And.intro (show (decide ((↑n : Int) < (↑l.length : Int)) == true) = true → (decide ((↑n : Int) < (↑l.length : Int)) == true) = true from (fun h => h)) (And.intro (show decide ((↑n : Int) < (↑l.length : Int)) = true → (decide ((↑n : Int) < (↑l.length : Int)) == true) = true from (by (simp; done))) (show (bif decide ((↑n : Int) < (↑l.length : Int)) then decide ((↑n : Int) < (20 : Int)) else false) = false from (by simp_all; done))))
  generalize enK l (enN l) = o at *
  unfold enS at hL
  have e1' := hL
  refine g_q [⟨3, [.sel [0, 3, 4], .own 3 46 2], .loop (exOf e1') (endOf e1')⟩] [.sel [2]] Exit.ret (stOf 34 [(2, AV.sl 0 0 o.length 2)] [Blk.row 46 (flatA encT o)]) e1' ?_
  refine g_f [0] [true] (AV.sl 0 0 o.length 2) ([Blk.row 46 (flatA encT o)]) (show ∀ (x : AV), x ∈ flatA encT o → noid0 x = true from encT_noid o) ?_
  exact ⟨rfl, rfl⟩
end Go.Proofs.YthcaeofgegfncaaDoor
namespace Go.Proofs.YthcaeofgegfncaaDoor
open Go Go.RowKit V
set_option linter.unusedSimpArgs false
set_option linter.unusedVariables false
set_option maxHeartbeats 20000000
/-- the sum of the lengths, as the machine reckons it -/
def fwK (l : List TE) : Nat → Int
  | 0 => 0
  | k + 1 => IntKind.i64.wrap (fwK l k + IntKind.i64.wrap (((l.getD k tD).1.size : Int) + ((l.getD k tD).2.size : Int)))
end Go.Proofs.YthcaeofgegfncaaDoor
namespace Go.Proofs.YthcaeofgegfncaaDoor
open Go Go.RowKit V
set_option linter.unusedSimpArgs false
set_option linter.unusedVariables false
set_option maxHeartbeats 20000000
/-- two elements exchanged -/
def swp (d : List TE) (i j : Nat) : List TE := (d.set i (d.getD j tD)).set j (d.getD i tD)
theorem at_split (X : List TE) (k : Nat) (h : k < X.length) : ∃ X1 x X2, X = X1 ++ x :: X2 ∧ X1.length = k ∧ X.take k = X1 ∧ X.drop k = x :: X2 ∧ X.take (k + 1) = X1 ++ [x] ∧ X.drop (k + 1) = X2 ∧ X.getD k tD = x := by
  have hd := List.drop_eq_getElem_cons h
  refine ⟨X.take k, X[k], X.drop (k + 1), ?_, by rw [List.length_take]; omega, rfl, hd, List.take_succ_eq_append_getElem h, rfl, by rw [List.getD_eq_getElem?_getD, List.getElem?_eq_getElem h]; rfl⟩
  rw [← hd, List.take_append_drop]
/-- where halving ends -/
def bsF (p : Nat → Bool) (i j : Nat) : Nat := if h : i < j then (bif p ((i + j) / 2) then bsF p ((i + j) / 2 + 1) j else bsF p i ((i + j) / 2)) else i
termination_by j - i
decreasing_by all_goals omega
theorem srt_get {l : List TE} (h : Srt l) {i j : Nat} (hij : i < j) (hj : j < l.length) : ltE (l.getD i tD) (l.getD j tD) = true := by
  have := (List.pairwise_iff_getElem.1 h) i j (by omega) hj hij
  rw [List.getD_eq_getElem?_getD, List.getD_eq_getElem?_getD, List.getElem?_eq_getElem hj, List.getElem?_eq_getElem (by omega)]
  exact this
theorem mem_getD {l : List TE} {x : TE} (h : x ∈ l) : ∃ i, i < l.length ∧ l.getD i tD = x := by
  obtain ⟨i, hi, e⟩ := List.getElem_of_mem h
  exact ⟨i, hi, by rw [List.getD_eq_getElem?_getD, List.getElem?_eq_getElem hi]; exact e⟩
theorem srt_last {l : List TE} (h : Srt l) {x y : TE} (hx : x ∈ l) (hy : ltE (l.getD (l.length - 1) tD) y = true) : ltE x y = true := by
  obtain ⟨i, hi, rfl⟩ := mem_getD hx
  rcases Nat.lt_or_ge i (l.length - 1) with h1 | h1
  · exact ltE_trans (srt_get h h1 (by omega)) hy
  · obtain rfl : i = l.length - 1 := by omega
    exact hy
theorem srt_head {l : List TE} (h : Srt l) {x y : TE} (hx : x ∈ l) (hy : ltE y (l.getD 0 tD) = true) : ltE y x = true := by
  obtain ⟨i, hi, rfl⟩ := mem_getD hx
  rcases Nat.eq_zero_or_pos i with h1 | h1
  · subst h1; exact hy
  · exact ltE_trans hy (srt_get h h1 hi)
/-- four parts: those of the first two lie before those of the last two -/
theorem four_eq {X1 X2 Y1 Y2 : List TE} (hX : Srt (X1 ++ X2)) (hY : Srt (Y1 ++ Y2)) (hd : Dst ((X1 ++ X2) ++ (Y1 ++ Y2))) (h1 : Y1 ≠ [] → X2 ≠ [] → ltE (Y1.getD (Y1.length - 1) tD) (X2.getD 0 tD) = true) (h2 : X1 ≠ [] → Y2 ≠ [] → ltE (X1.getD (X1.length - 1) tD) (Y2.getD 0 tD) = true) :
    sortR (X1 ++ Y1) ++ sortR (X2 ++ Y2) = sortR ((X1 ++ X2) ++ (Y1 ++ Y2)) := by
  obtain ⟨a1, a2, a3⟩ := List.pairwise_append.1 hX
  obtain ⟨b1, b2, b3⟩ := List.pairwise_append.1 hY
  have hp : (X1 ++ Y1 ++ (X2 ++ Y2)).Perm ((X1 ++ X2) ++ (Y1 ++ Y2)) := by
    simp only [List.append_assoc]
    refine List.Perm.append_left _ ?_
    rw [← List.append_assoc, ← List.append_assoc]
    exact List.Perm.append_right _ List.perm_append_comm
  have hd2 := dst_perm hd hp.symm
  obtain ⟨d1, d2, _⟩ := List.pairwise_append.1 hd2
  refine sort_eq hd ?_ (((sortR_perm _).append (sortR_perm _)).trans hp)
  refine List.pairwise_append.2 ⟨sortR_srt d1, sortR_srt d2, fun x hx y hy => ?_⟩
  have hx := (sortR_perm _).mem_iff.1 hx
  have hy := (sortR_perm _).mem_iff.1 hy
  rcases List.mem_append.1 hx with hx | hx <;> rcases List.mem_append.1 hy with hy | hy
  · exact a3 x hx y hy
  · exact srt_last a1 hx (srt_head b2 hy (h2 (List.ne_nil_of_mem hx) (List.ne_nil_of_mem hy)))
  · exact srt_last b1 hx (srt_head a2 hy (h1 (List.ne_nil_of_mem hx) (List.ne_nil_of_mem hy)))
  · exact b3 x hx y hy
/-- one element, and those behind it -/
theorem one_left {x : TE} {Y : List TE} (hY : Srt Y) (hd : Dst (x :: Y)) (t : Nat) (ht : t ≤ Y.length) (h1 : 0 < t → ltE (Y.getD (t - 1) tD) x = true) (h2 : t < Y.length → ltE (Y.getD t tD) x = false) : Y.take t ++ x :: Y.drop t = sortR (x :: Y) := by
  have hY' : Srt (Y.take t ++ Y.drop t) := by rw [List.take_append_drop]; exact hY
  obtain ⟨b1, b2, b3⟩ := List.pairwise_append.1 hY'
  have hp : (Y.take t ++ x :: Y.drop t).Perm (x :: Y) := by
    refine List.perm_middle.trans ?_
    rw [List.take_append_drop]
  have hx : ∀ z ∈ Y.drop t, ltE x z = true := fun z hz => by
    have hl : t < Y.length := by
      rcases Nat.lt_or_ge t Y.length with h | h
      · exact h
      · rw [List.drop_of_length_le h] at hz; cases hz
    refine srt_head b2 hz ?_
    rw [List.getD_eq_getElem?_getD, List.getElem?_drop, Nat.add_zero, ← List.getD_eq_getElem?_getD]
    refine ltE_tri (h2 hl) fun e => ?_
    have hm : Y.getD t tD ∈ Y := by rw [List.getD_eq_getElem?_getD, List.getElem?_eq_getElem hl]; exact List.getElem_mem hl
    exact (List.pairwise_cons.1 hd).1 _ hm e.symm
  have hy : ∀ z ∈ Y.take t, ltE z x = true := fun z hz => by
    rcases Nat.eq_zero_or_pos t with h | h
    · subst h; simp at hz
    · have e : (Y.take t).getD ((Y.take t).length - 1) tD = Y.getD (t - 1) tD := by
        rw [List.length_take, Nat.min_eq_left ht, List.getD_eq_getElem?_getD, List.getElem?_take_of_lt (by omega), ← List.getD_eq_getElem?_getD]
      exact srt_last b1 hz (by rw [e]; exact h1 h)
  refine sort_eq hd ?_ hp
  exact List.pairwise_append.2 ⟨b1, List.pairwise_cons.2 ⟨hx, b2⟩, fun a ha b hb => by
    rcases List.mem_cons.1 hb with rfl | hb
    · exact hy a ha
    · exact b3 a ha b hb⟩
end Go.Proofs.YthcaeofgegfncaaDoor
namespace Go.Proofs.YthcaeofgegfncaaDoor
open Go Go.RowKit V
set_option linter.unusedSimpArgs false
set_option linter.unusedVariables false
set_option maxHeartbeats 20000000
theorem beqL_iff (a b : ByteArray) : (a.toList == b.toList) = true ↔ a = b := ⟨fun h => toList_inj (eq_of_beq h), fun h => by rw [h]; exact beq_self_eq_true _⟩
theorem getD_mem {l : List TE} {k : Nat} (hk : k < l.length) : l.getD k tD ∈ l := by
  rw [List.getD_eq_getElem?_getD, List.getElem?_eq_getElem hk]; exact List.getElem_mem hk
theorem getD_get {l : List TE} {k : Nat} (hk : k < l.length) : l.getD k tD = l[k] := by
  rw [List.getD_eq_getElem?_getD, List.getElem?_eq_getElem hk]; rfl
theorem allN_iff (f : Nat → Bool) (n : Nat) : allN f n = true ↔ ∀ k, k < n → f k = true := by
  rcases allN_or f n with ⟨h1, h2⟩ | ⟨h1, m, h2, _, h3⟩
  · exact ⟨fun _ => h2, fun _ => h1⟩
  · exact ⟨fun h => (by rw [h1] at h; cases h), fun h => (by rw [h m h2] at h3; cases h3)⟩
theorem fstN_iff (f : Nat → Bool) (n : Nat) : fstN f n < n ↔ ∃ k, k < n ∧ f k = false := by
  rcases fstN_or f n with ⟨h1, h2⟩ | ⟨h1, h2, h3⟩
  · exact ⟨fun h => by omega, fun ⟨k, hk, hf⟩ => by rw [h2 k hk] at hf; cases hf⟩
  · exact ⟨fun _ => ⟨_, h1, h3⟩, fun _ => h1⟩
def NoU (x y : TE) : Prop := unF x.1 y.1 = false ∧ unF y.1 x.1 = false
theorem clF_iff (l : List TE) : clF l = true ↔ l.Pairwise NoU := by
  unfold clF
  rw [allN_iff, List.pairwise_iff_getElem]
  constructor
  · intro h i j hi hj hij
    have h1 := h i hi
    have h2 := h j hj
    unfold clR at h1 h2
    rw [allN_iff] at h1 h2
    have a1 := h1 j hj
    have a2 := h2 i hi
    unfold clP at a1 a2
    rw [getD_get hi, getD_get hj] at a1
    rw [getD_get hi, getD_get hj] at a2
    have e1 : ((i : Int) == (j : Int)) = false := beq_eq_false_iff_ne.2 (by omega)
    have e2 : ((j : Int) == (i : Int)) = false := beq_eq_false_iff_ne.2 (by omega)
    rw [e1] at a1
    rw [e2] at a2
    exact ⟨by simpa using a1, by simpa using a2⟩
  · intro h i hi
    unfold clR
    rw [allN_iff]
    intro k hk
    unfold clP
    rw [getD_get hi, getD_get hk]
    rcases Nat.lt_trichotomy i k with q | q | q
    · have := (h i k hi hk q).1
      rw [this]; simp
    · subst q; simp
    · have := (h k i hk hi q).2
      rw [this]; simp
theorem clF_perm {l m : List TE} (h : l.Perm m) : clF l = clF m := by
  have e : clF l = true ↔ clF m = true := by
    rw [clF_iff, clF_iff]
    exact h.pairwise_iff fun {x y} hxy => ⟨hxy.2, hxy.1⟩
  cases h1 : clF l <;> cases h2 : clF m <;> simp_all
theorem gt_iff (l : List TE) (p : ByteArray) : gtI l p < l.length ↔ ∃ y ∈ l, y.1 = p := by
  unfold gtI
  rw [fstN_iff]
  constructor
  · rintro ⟨k, hk, h⟩
    rw [Bool.not_eq_false', beqL_iff] at h
    exact ⟨_, getD_mem hk, h⟩
  · rintro ⟨y, hy, rfl⟩
    obtain ⟨i, hi, rfl⟩ := mem_getD hy
    exact ⟨i, hi, by rw [Bool.not_eq_false', beqL_iff]⟩
theorem gt_at {l : List TE} {p : ByteArray} (h : gtI l p < l.length) : (l.getD (gtI l p) tD).1 = p := by
  unfold gtI at h ⊢
  rcases fstN_or (fun k => !((l.getD k tD).1.toList == p.toList)) l.length with ⟨h1, _⟩ | ⟨_, _, h3⟩
  · omega
  · rw [Bool.not_eq_false', beqL_iff] at h3
    exact h3
theorem ltE_self {x y : TE} (h : x.1 = y.1) : ltE x y = false := by
  have : Op.bytesLess x.1.toList y.1.toList = false := by rw [h]; exact bl_irrefl _
  exact this
theorem tw_iff {o : List TE} (ho : Srt o) (x : TE) : twF o x = true ↔ ∃ y ∈ o, y.1 = x.1 := by
  unfold twF
  rw [Bool.and_eq_true, decide_eq_true_eq, beqL_iff]
  constructor
  · rintro ⟨h1, h2⟩
    exact ⟨_, getD_mem h1, h2⟩
  · rintro ⟨y, hy, e⟩
    obtain ⟨j, hj, rfl⟩ := mem_getD hy
    have hk : kF o x = j := by
      rcases Nat.lt_trichotomy (kF o x) j with q | q | q
      · have h1 := kF_at o x (by omega)
        have h2 := srt_get ho q hj
        have h3 : ltE (o.getD (kF o x) tD) x = true := by
          have : Op.bytesLess (o.getD (kF o x) tD).1.toList (o.getD j tD).1.toList = true := h2
          rw [e] at this
          exact this
        rw [h3] at h1; cases h1
      · exact q
      · have h1 := kF_lt o x j q
        rw [ltE_self e] at h1; cases h1
    rw [hk]
    exact ⟨hj, e⟩
/-- a file and those before it -/
def bvE (l : List TE) (i : Nat) : Int := if cfF (l.getD i tD) = 0 then (if gtI (l.take i) (l.getD i tD).1 < (l.take i).length then 9 else 0) else cfF (l.getD i tD)
theorem bd_iff {l : List TE} {i : Nat} (hd : Dst (l.take i)) : bvE l i = bdE l i := by
  unfold bvE bdE bsE
  have h : gtI (l.take i) (l.getD i tD).1 < (l.take i).length ↔ twF (sortR (l.take i)) (l.getD i tD) = true := by
    rw [gt_iff, tw_iff (sortR_srt hd) (l.getD i tD)]
    exact ⟨fun ⟨y, a, b⟩ => ⟨y, (sortR_perm _).mem_iff.2 a, b⟩, fun ⟨y, a, b⟩ => ⟨y, (sortR_perm _).mem_iff.1 a, b⟩⟩
  by_cases hg : gtI (l.take i) (l.getD i tD).1 < (l.take i).length
  · rw [if_pos hg, if_pos (h.1 hg)]
  · rw [if_neg hg, if_neg (fun q => hg (h.2 q))]
theorem take_snoc {l : List TE} {m : Nat} (h : m < l.length) : l.take (m + 1) = l.take m ++ [l.getD m tD] := by
  rw [List.take_succ_eq_append_getElem h, getD_get h]
theorem dst_snoc {l : List TE} {x : TE} : Dst (l ++ [x]) ↔ Dst l ∧ ∀ y ∈ l, y.1 ≠ x.1 := by
  unfold Dst
  rw [List.pairwise_append]
  simp
theorem bv_step {l : List TE} {i : Nat} (h : bvE l i = 0) : cfF (l.getD i tD) = 0 ∧ ∀ y ∈ l.take i, y.1 ≠ (l.getD i tD).1 := by
  unfold bvE at h
  by_cases h1 : cfF (l.getD i tD) = 0
  · rw [if_pos h1] at h
    refine ⟨h1, fun y hy e => ?_⟩
    rw [if_pos ((gt_iff _ _).2 ⟨y, hy, e⟩)] at h
    cases h
  · rw [if_neg h1] at h
    exact absurd h h1
theorem bd_dst {l : List TE} : ∀ (m : Nat), m ≤ l.length → (∀ i, i < m → bdE l i = 0) → Dst (l.take m) ∧ ∀ i, i < m → cfF (l.getD i tD) = 0
  | 0, _, _ => ⟨by rw [List.take_zero]; exact List.Pairwise.nil, fun i h => by omega⟩
  | m + 1, hm, h => by
    obtain ⟨h1, h2⟩ := bd_dst m (by omega) fun i hi => h i (by omega)
    obtain ⟨k1, k2⟩ := bv_step ((bd_iff h1).trans (h m (by omega)))
    refine ⟨?_, fun i hi => ?_⟩
    · rw [take_snoc (by omega)]
      exact dst_snoc.2 ⟨h1, k2⟩
    · rcases Nat.lt_succ_iff_lt_or_eq.1 hi with q | rfl
      · exact h2 i q
      · exact k1
theorem bdM_or (l : List TE) : (bdM l = l.length ∧ ∀ i, i < l.length → bdE l i = 0) ∨ (bdM l < l.length ∧ (∀ i, i < bdM l → bdE l i = 0) ∧ bdE l (bdM l) ≠ 0) := by
  unfold bdM
  rcases fstN_or (fun i => bdE l i == 0) l.length with ⟨h1, h2⟩ | ⟨h1, h2, h3⟩
  · exact .inl ⟨h1, fun i hi => eq_of_beq (h2 i hi)⟩
  · exact .inr ⟨h1, fun i hi => eq_of_beq (h2 i hi), fun e => by rw [e] at h3; cases h3⟩
/-- files that are valid for themselves, and no path twice -/
structure Fine (l : List TE) : Prop where
  len : l.length ≤ 64
  each : ∀ x ∈ l, cfF x = 0
  dst : Dst l
theorem bd_fine {l : List TE} (h : bdF l = 0) : Fine l ∧ clF l = true := by
  unfold bdF at h
  by_cases h64 : 64 < l.length
  · rw [if_pos h64] at h; cases h
  · rw [if_neg h64] at h
    rcases bdM_or l with ⟨h1, h2⟩ | ⟨h1, _, h3⟩
    · rw [if_neg (by omega), clF_perm (sortR_perm l)] at h
      obtain ⟨k1, k2⟩ := bd_dst l.length (Nat.le_refl _) h2
      rw [List.take_length] at k1
      refine ⟨⟨by omega, fun x hx => ?_, k1⟩, ?_⟩
      · obtain ⟨i, hi, rfl⟩ := mem_getD hx
        exact k2 i hi
      · cases hc : clF l with
        | true => rfl
        | false => rw [hc] at h; cases h
    · rw [if_pos h1] at h
      exact absurd h h3
theorem Fine.perm {l m : List TE} (h : Fine l) (p : l.Perm m) : Fine m := ⟨by rw [← p.length_eq]; exact h.len, fun x hx => h.each x (p.mem_iff.2 hx), dst_perm h.dst p⟩
theorem leS_not {a b : ByteArray} (h : leS a b = false) : lt b a = true := by
  unfold leS at h
  rw [Bool.or_eq_false_iff] at h
  exact bl_tri _ _ h.1 h.2
theorem ck_fine {l : List TE} (h : ckF l = 0) : Fine l ∧ Srt l ∧ clF l = true := by
  unfold ckF at h
  by_cases h64 : 64 < l.length
  · rw [if_pos h64] at h; cases h
  · rw [if_neg h64] at h
    rcases fstN_or (okE l) l.length with ⟨h1, h2⟩ | ⟨h1, _, h3⟩
    · rw [if_neg (by omega)] at h
      have hst : ∀ i, i < l.length → cfF (l.getD i tD) = 0 ∧ (0 < i → ltE (l.getD (i - 1) tD) (l.getD i tD) = true) := fun i hi => by
        have := h2 i hi
        unfold okE stE at this
        have this := eq_of_beq this
        by_cases hc : cfF (l.getD i tD) = 0
        · rw [if_pos hc] at this
          refine ⟨hc, fun h0 => ?_⟩
          rw [decide_eq_true (show (i : Int) > 0 by omega), Bool.true_and] at this
          cases hl : leS (l.getD i tD).1 (l.getD (i - 1) tD).1 with
          | true => rw [hl] at this; simp at this
          | false => exact leS_not hl
        · rw [if_neg hc] at this; exact absurd this hc
      have hs : ∀ (j i : Nat), i < j → j < l.length → ltE (l.getD i tD) (l.getD j tD) = true := fun j => by
        induction j with
        | zero => intro i h; omega
        | succ j ih =>
          intro i hij hj
          have h1 := (hst (j + 1) hj).2 (by omega)
          rw [Nat.add_sub_cancel] at h1
          rcases Nat.lt_succ_iff_lt_or_eq.1 hij with q | rfl
          · exact ltE_trans (ih i q (by omega)) h1
          · exact h1
      have hS : Srt l := List.pairwise_iff_getElem.2 fun i j hi hj hij => by
        have := hs j i hij hj
        rw [getD_get hi, getD_get hj] at this
        exact this
      refine ⟨⟨by omega, fun x hx => ?_, hS.dst⟩, hS, ?_⟩
      · obtain ⟨i, hi, rfl⟩ := mem_getD hx
        exact (hst i hi).1
      · cases hc : clF l with
        | true => rfl
        | false => rw [hc] at h; cases h
    · rw [if_pos h1] at h
      have h3 : (stE l (fstN (okE l) l.length) == 0) = false := h3
      rw [h] at h3; cases h3
theorem fine_ck {l : List TE} (h : Fine l) (hs : Srt l) (hc : clF l = true) : ckF l = 0 := by
  unfold ckF
  rw [if_neg (by have := h.len; omega)]
  have hz : ∀ i, i < l.length → stE l i = 0 := fun i hi => by
    unfold stE
    rw [if_pos (h.each _ (getD_mem hi))]
    rw [if_neg]
    rw [Bool.and_eq_true, decide_eq_true_eq]
    rintro ⟨h0, h1⟩
    have h2 := srt_get hs (i := i - 1) (j := i) (by omega) hi
    have h3 : Op.bytesLess (l.getD (i - 1) tD).1.toList (l.getD i tD).1.toList = true := h2
    unfold leS at h1
    rw [Bool.or_eq_true, beqL_iff] at h1
    rcases h1 with h1 | h1
    · rw [(bl_asymm _ _ h3).1] at h1; cases h1
    · rw [h1, bl_irrefl] at h3; cases h3
  rcases fstN_or (okE l) l.length with ⟨h1, h2⟩ | ⟨h1, _, h3⟩
  · rw [if_neg (by omega), hc]; rfl
  · have h3 : (stE l (fstN (okE l) l.length) == 0) = false := h3
    rw [hz _ h1] at h3; cases h3
def putL (l : List TE) (x : TE) : List TE := if gtI l x.1 < l.length then l.set (gtI l x.1) x else l ++ [x]
theorem wo_mem {l : List TE} {p : ByteArray} {y : TE} : y ∈ woK l p l.length ↔ y ∈ l ∧ y.1 ≠ p := by
  unfold woK
  rw [List.take_length, List.mem_filter, Bool.not_eq_true', ← Bool.not_eq_true, beqL_iff]
theorem set_split (l : List TE) (x : TE) (k : Nat) (hk : k < l.length) : ∃ A y B, l = A ++ y :: B ∧ A.length = k ∧ l.set k x = A ++ x :: B ∧ l.getD k tD = y := by
  obtain ⟨A, y, B, h1, h2, _, _, _, _, h3⟩ := at_split l k hk
  refine ⟨A, y, B, h1, h2, ?_, h3⟩
  rw [h1, ← h2, List.set_append_right _ _ (Nat.le_refl _), Nat.sub_self, List.set_cons_zero]
theorem wo_hit {A B : List TE} {y : TE} (hd : Dst (A ++ y :: B)) : woK (A ++ y :: B) y.1 (A ++ y :: B).length = A ++ B := by
  unfold woK
  rw [List.take_length, List.filter_append, List.filter_cons]
  have hd' := dst_perm hd (List.perm_middle (a := y) (l₁ := A) (l₂ := B))
  obtain ⟨h1, _⟩ := List.pairwise_cons.1 hd'
  have hf : ∀ z ∈ A ++ B, (!(z.1.toList == y.1.toList)) = true := fun z hz => by
    rw [Bool.not_eq_true', ← Bool.not_eq_true, beqL_iff]
    exact fun e => h1 z hz e.symm
  rw [show (!(y.1.toList == y.1.toList)) = false by simp, if_neg (by simp)]
  rw [List.filter_eq_self.2 fun z hz => hf z (List.mem_append_left _ hz), List.filter_eq_self.2 fun z hz => hf z (List.mem_append_right _ hz)]
theorem wo_miss {l : List TE} {p : ByteArray} (h : ¬ gtI l p < l.length) : woK l p l.length = l := by
  unfold woK
  rw [List.take_length]
  refine List.filter_eq_self.2 fun z hz => ?_
  rw [Bool.not_eq_true', ← Bool.not_eq_true, beqL_iff]
  exact fun e => h ((gt_iff _ _).2 ⟨z, hz, e⟩)
theorem put_perm {l : List TE} (x : TE) (hd : Dst l) : (putL l x).Perm (x :: woK l x.1 l.length) ∧ Dst (putL l x) := by
  unfold putL
  by_cases h : gtI l x.1 < l.length
  · rw [if_pos h]
    have hx := gt_at h
    obtain ⟨A, y, B, h1, h2, h3, h4⟩ := set_split l x (gtI l x.1) h
    rw [h4] at hx
    rw [h3]
    subst h1
    rw [← hx, wo_hit hd]
    have hp : (A ++ x :: B).Perm (x :: (A ++ B)) := List.perm_middle
    refine ⟨hp, dst_perm ?_ hp.symm⟩
    have := dst_perm hd (List.perm_middle (a := y) (l₁ := A) (l₂ := B))
    obtain ⟨g1, g2⟩ := List.pairwise_cons.1 this
    exact List.pairwise_cons.2 ⟨fun z hz => by rw [← hx]; exact g1 z hz, g2⟩
  · rw [if_neg h, wo_miss h]
    refine ⟨List.perm_append_singleton _ _, dst_snoc.2 ⟨hd, fun y hy e => h ((gt_iff _ _).2 ⟨y, hy, e⟩)⟩⟩
theorem wo_srt {l : List TE} (p : ByteArray) (h : Srt l) : Srt (woK l p l.length) := by
  unfold woK
  rw [List.take_length]
  exact List.Pairwise.sublist List.filter_sublist h
/-- both put the same list -/
theorem put_eq {l : List TE} (x : TE) (h : Srt l) : sortR (putL l x) = ptL l x := by
  obtain ⟨h1, h2⟩ := put_perm x h.dst
  refine (sort_eq h2 (insR_srt x _ (wo_srt x.1 h) fun y hy => (wo_mem.1 hy).2) ?_).symm
  exact (insR_perm _ _).trans h1.symm
end Go.Proofs.YthcaeofgegfncaaDoor
