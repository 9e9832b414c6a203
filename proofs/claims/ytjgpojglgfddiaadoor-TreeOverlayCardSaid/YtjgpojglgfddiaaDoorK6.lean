/-
  What the law leans on.
-/
import Derived.Test.YtjgpojglgfddiaaDoorK5
namespace Go.Proofs.YtjgpojglgfddiaaDoor
open Go Go.RowKit V
set_option linter.unusedSimpArgs false
set_option linter.unusedVariables false
set_option maxHeartbeats 20000000
theorem dst_sub {l m : List TE} (h : Dst m) (s : l.Sublist m) : Dst l := List.Pairwise.sublist s h
theorem sortR_len' (l : List TE) : (sortR l).length = l.length := (sortR_perm l).length_eq
theorem take_last (l : List TE) (n : Nat) (h : 0 < n) : (l.take n).getD (n - 1) tD = l.getD (n - 1) tD := by
  rw [List.getD_eq_getElem?_getD, List.getElem?_take_of_lt (by omega), ← List.getD_eq_getElem?_getD]
theorem drop_head (l : List TE) (n : Nat) : (l.drop n).getD 0 tD = l.getD n tD := by
  rw [List.getD_eq_getElem?_getD, List.getElem?_drop, Nat.add_zero, ← List.getD_eq_getElem?_getD]
theorem sym_v : ∀ (s : Nat) (A X Y B : List TE) (a m b N : Nat), X.length + Y.length ≤ s → 0 < X.length → 0 < Y.length → a = A.length → m = a + X.length → b = m + Y.length → N = b + B.length → N ≤ 1000 → Srt X → Srt Y → Dst (X ++ Y) → CallsV Tryd.prog 67 [.sl 0 0 N 2, .int .i64 (a : Int), .int .i64 (m : Int), .int .i64 (b : Int), soV] [.row 31 (flatA encT (A ++ (X ++ (Y ++ B))))] (fun av H' => av = .tuple [] ∧ H' = [.row 31 (flatA encT (A ++ (sortR (X ++ Y) ++ B)))])
  | 0, A, X, Y, B, a, m, b, N, hs, h1, h2, _, _, _, _, _, _, _, _ => by omega
  | s + 1, A, X, Y, B, a, m, b, N, hs, hx, hy, ha, hm, hb, hN, hd, sX, sY, hD => by
    by_cases h1 : X.length = 1
    · obtain ⟨x, rfl⟩ := List.length_eq_one_iff.1 h1
      exact sym_1 A x Y B a m b N ha hm hb hN hd hy sY hD
    · by_cases h2 : Y.length = 1
      · obtain ⟨y, rfl⟩ := List.length_eq_one_iff.1 h2
        exact sym_2 A X y B a m b N ha hm hb hN hd (by omega) sX hD
      · have hlen : (A ++ (X ++ (Y ++ B))).length = N := by simp; omega
        have main : ∀ (c n p t e lo hi : Nat), (a + b) / 2 = c → c + m = n → n = p + 1 → n = t + e → a ≤ t → t ≤ m → m ≤ e → e ≤ b →
            (lo < t → hcP (A ++ (X ++ (Y ++ B))) a m b c n p (t - 1) = true) → (t < hi → hcP (A ++ (X ++ (Y ++ B))) a m b c n p t = false) → (t ≤ lo → a = t ∨ e = b) → (hi ≤ t → t = m ∨ e = m) →
            ∃ d1 d2, ((t < m ∧ m < e ∧ CallsV Tryd.prog 75 [.sl 0 0 N 2, .int .i64 (t : Int), .int .i64 (m : Int), .int .i64 (e : Int), soV] [.row 31 (flatA encT (A ++ (X ++ (Y ++ B))))] (fun av H' => av = .tuple [] ∧ H' = [.row 31 (flatA encT d1)])) ∨ ((m ≤ t ∨ e ≤ m) ∧ (A ++ (X ++ (Y ++ B))) = d1)) ∧
              ((a < t ∧ t < c ∧ CallsV Tryd.prog 67 [.sl 0 0 N 2, .int .i64 (a : Int), .int .i64 (t : Int), .int .i64 (c : Int), soV] [.row 31 (flatA encT d1)] (fun av H' => av = .tuple [] ∧ H' = [.row 31 (flatA encT d2)])) ∨ ((t ≤ a ∨ c ≤ t) ∧ d1 = d2)) ∧
              ((c < e ∧ e < b ∧ CallsV Tryd.prog 67 [.sl 0 0 N 2, .int .i64 (c : Int), .int .i64 (e : Int), .int .i64 (b : Int), soV] [.row 31 (flatA encT d2)] (fun av H' => av = .tuple [] ∧ H' = [.row 31 (flatA encT (A ++ (sortR (X ++ Y) ++ B)))])) ∨ ((e ≤ c ∨ b ≤ e) ∧ d2 = A ++ (sortR (X ++ Y) ++ B))) := by
          intro c n p t e lo hi hc hn hp he t1 t2 e1 e2 s3 s4 s5 s6
          have eX : X.take (t - a) ++ X.drop (t - a) = X := List.take_append_drop _ _
          have eY : Y.take (e - m) ++ Y.drop (e - m) = Y := List.take_append_drop _ _
          have lX1 : (X.take (t - a)).length = t - a := by rw [List.length_take]; omega
          have lX2 : (X.drop (t - a)).length = m - t := by rw [List.length_drop]; omega
          have lY1 : (Y.take (e - m)).length = e - m := by rw [List.length_take]; omega
          have lY2 : (Y.drop (e - m)).length = b - e := by rw [List.length_drop]; omega
          have gX : ∀ i, i < X.length → (A ++ (X ++ (Y ++ B))).getD (a + i) tD = X.getD i tD := fun i hi => by rw [ha]; exact getD_mid A X _ i hi
          have gY : ∀ i, i < Y.length → (A ++ (X ++ (Y ++ B))).getD (m + i) tD = Y.getD i tD := fun i hi => by
            rw [← List.append_assoc, show m = (A ++ X).length by rw [List.length_append]; omega]
            exact getD_mid _ Y B i hi
          -- the two conditions
          have c1 : Y.take (e - m) ≠ [] → X.drop (t - a) ≠ [] → ltE ((Y.take (e - m)).getD ((Y.take (e - m)).length - 1) tD) ((X.drop (t - a)).getD 0 tD) = true := fun n1 n2 => by
            have n1 := List.length_pos_iff.2 n1
            have n2 := List.length_pos_iff.2 n2
            rw [lY1] at n1 ⊢
            rw [lX2] at n2
            have hlt : t < hi := by
              rcases Nat.lt_or_ge t hi with q | q
              · exact q
              · have := s6 q; omega
            have := s4 hlt
            unfold hcP at this
            rw [Bool.not_eq_false', show p - t = m + (e - m - 1) by omega, gY _ (by omega)] at this
            have g2 := gX (t - a) (by omega)
            rw [show a + (t - a) = t by omega] at g2
            rw [g2] at this
            rw [take_last _ _ n1, drop_head]
            exact this
          have c2 : X.take (t - a) ≠ [] → Y.drop (e - m) ≠ [] → ltE ((X.take (t - a)).getD ((X.take (t - a)).length - 1) tD) ((Y.drop (e - m)).getD 0 tD) = true := fun n1 n2 => by
            have n1 := List.length_pos_iff.2 n1
            have n2 := List.length_pos_iff.2 n2
            rw [lX1] at n1 ⊢
            rw [lY2] at n2
            have hlt : lo < t := by
              rcases Nat.lt_or_ge lo t with q | q
              · exact q
              · have := s5 q; omega
            have := s3 hlt
            unfold hcP at this
            have g1 := gX (t - 1 - a) (by omega)
            rw [show a + (t - 1 - a) = t - 1 by omega] at g1
            rw [Bool.not_eq_true', show p - (t - 1) = m + (e - m) by omega, gY _ (by omega), g1] at this
            rw [take_last _ _ n1, drop_head, show t - a - 1 = t - 1 - a by omega]
            refine ltE_tri this fun he2 => ?_
            have m1 : X.getD (t - 1 - a) tD ∈ X := by rw [List.getD_eq_getElem?_getD, List.getElem?_eq_getElem (by omega)]; exact List.getElem_mem _
            have m2 : Y.getD (e - m) tD ∈ Y := by rw [List.getD_eq_getElem?_getD, List.getElem?_eq_getElem (by omega)]; exact List.getElem_mem _
            exact (List.pairwise_append.1 hD).2.2 _ m1 _ m2 he2.symm
          have four := four_eq (X1 := X.take (t - a)) (X2 := X.drop (t - a)) (Y1 := Y.take (e - m)) (Y2 := Y.drop (e - m)) (by rw [eX]; exact sX) (by rw [eY]; exact sY) (by rw [eX, eY]; exact hD) c1 c2
          rw [eX, eY] at four
          have sX1 : Srt (X.take (t - a)) := List.Pairwise.sublist (List.take_sublist _ _) sX
          have sX2 : Srt (X.drop (t - a)) := List.Pairwise.sublist (List.drop_sublist _ _) sX
          have sY1 : Srt (Y.take (e - m)) := List.Pairwise.sublist (List.take_sublist _ _) sY
          have sY2 : Srt (Y.drop (e - m)) := List.Pairwise.sublist (List.drop_sublist _ _) sY
          have D1 : Dst (X.take (t - a) ++ Y.take (e - m)) := dst_sub hD (List.Sublist.append (List.take_sublist _ _) (List.take_sublist _ _))
          have D2 : Dst (X.drop (t - a) ++ Y.drop (e - m)) := dst_sub hD (List.Sublist.append (List.drop_sublist _ _) (List.drop_sublist _ _))
          rw [← four]
          rw [show A ++ (X ++ (Y ++ B)) = A ++ ((X.take (t - a) ++ X.drop (t - a)) ++ ((Y.take (e - m) ++ Y.drop (e - m)) ++ B)) by rw [eX, eY]]
          clear four c1 c2 gX gY s3 s4 s5 s6 hlen eX eY
          generalize X.take (t - a) = X1 at *
          generalize X.drop (t - a) = X2 at *
          generalize Y.take (e - m) = Y1 at *
          generalize Y.drop (e - m) = Y2 at *
          refine ⟨A ++ (X1 ++ (Y1 ++ (X2 ++ (Y2 ++ B)))), A ++ (sortR (X1 ++ Y1) ++ (X2 ++ (Y2 ++ B))), ?_, ?_, ?_⟩
          · by_cases h : t < m ∧ m < e
            · refine .inl ⟨h.1, h.2, ?_⟩
              have := rot_v (A ++ X1) X2 Y1 (Y2 ++ B) t m e N (by simp; omega) (by simp; omega) (by simp; omega) (by simp; omega) hd (by omega) (by omega)
              simp only [List.append_assoc] at this ⊢
              exact this
            · refine .inr ⟨by omega, ?_⟩
              rcases Nat.lt_or_ge t m with q | q
              · have : Y1 = [] := List.length_eq_zero_iff.1 (by omega)
                subst this; simp
              · have : X2 = [] := List.length_eq_zero_iff.1 (by omega)
                subst this; simp
          · by_cases h : a < t ∧ t < c
            · refine .inl ⟨h.1, h.2, ?_⟩
              exact sym_v s A X1 Y1 (X2 ++ (Y2 ++ B)) a t c N (by omega) (by omega) (by omega) ha (by omega) (by omega) (by simp; omega) hd sX1 sY1 D1
            · refine .inr ⟨by omega, ?_⟩
              have : sortR (X1 ++ Y1) = X1 ++ Y1 := by
                rcases Nat.lt_or_ge a t with q | q
                · have : Y1 = [] := List.length_eq_zero_iff.1 (by omega)
                  subst this; rw [List.append_nil]; exact srt_sortR sX1
                · have : X1 = [] := List.length_eq_zero_iff.1 (by omega)
                  subst this; rw [List.nil_append]; exact srt_sortR sY1
              rw [this]; simp
          · have l1 : (sortR (X1 ++ Y1)).length = t - a + (e - m) := by rw [sortR_len']; simp; omega
            by_cases h : c < e ∧ e < b
            · refine .inl ⟨h.1, h.2, ?_⟩
              have := sym_v s (A ++ sortR (X1 ++ Y1)) X2 Y2 B c e b N (by omega) (by omega) (by omega) (by simp; omega) (by omega) (by omega) hN hd sX2 sY2 D2
              simp only [List.append_assoc] at this ⊢
              exact this
            · refine .inr ⟨by omega, ?_⟩
              have : sortR (X2 ++ Y2) = X2 ++ Y2 := by
                rcases Nat.lt_or_ge e b with q | q
                · have : X2 = [] := List.length_eq_zero_iff.1 (by omega)
                  subst this; rw [List.nil_append]; exact srt_sortR sY2
                · have : Y2 = [] := List.length_eq_zero_iff.1 (by omega)
                  subst this; rw [List.append_nil]; exact srt_sortR sX2
              rw [this]; simp
        rcases Nat.lt_or_ge ((a + b) / 2) m with hcm | hcm
        · have lo := hc_loop N (A ++ (X ++ (Y ++ B))) a m b ((a + b) / 2) ((a + b) / 2 + m) ((a + b) / 2 + m - 1) ((a + b) / 2 + m - b) ((a + b) / 2) ((a + b) / 2 + m - b) ((a + b) / 2) hlen hd (Nat.le_refl _) (by omega) (Nat.le_refl _) (by omega) (by omega) (by omega) (by omega)
          obtain ⟨s1, s2, s3, s4⟩ := bsF_spec (hcP (A ++ (X ++ (Y ++ B))) a m b ((a + b) / 2) ((a + b) / 2 + m) ((a + b) / 2 + m - 1)) ((a + b) / 2 + m - b) ((a + b) / 2) _ ((a + b) / 2 + m - b) ((a + b) / 2) (Nat.le_refl _) (Nat.le_refl _) (by omega) (Nat.le_refl _) (by omega) (by omega)
          generalize bsF (hcP (A ++ (X ++ (Y ++ B))) a m b ((a + b) / 2) ((a + b) / 2 + m) ((a + b) / 2 + m - 1)) ((a + b) / 2 + m - b) ((a + b) / 2) = t at *
          obtain ⟨d1, d2, q1, q2, q3⟩ := main _ _ _ t ((a + b) / 2 + m - t) _ _ rfl rfl (by omega) (by omega) (by omega) (by omega) (by omega) (by omega) s3 s4 (by omega) (by omega)
          exact sym_goA (A ++ (X ++ (Y ++ B))) d1 d2 _ a m b ((a + b) / 2) ((a + b) / 2 + m) ((a + b) / 2 + m - 1) ((a + b) / 2 + m - b) t ((a + b) / 2 + m - t) N (by omega) (by omega) rfl rfl (by omega) (by omega) (by omega) (by omega) hd hcm (by omega) (by omega) (by omega) (by omega) lo q1 q2 q3
        · have lo := hc_loop N (A ++ (X ++ (Y ++ B))) a m b ((a + b) / 2) ((a + b) / 2 + m) ((a + b) / 2 + m - 1) a m a m hlen hd (Nat.le_refl _) (by omega) (Nat.le_refl _) (by omega) (by omega) (by omega) (by omega)
          obtain ⟨s1, s2, s3, s4⟩ := bsF_spec (hcP (A ++ (X ++ (Y ++ B))) a m b ((a + b) / 2) ((a + b) / 2 + m) ((a + b) / 2 + m - 1)) a m _ a m (Nat.le_refl _) (Nat.le_refl _) (by omega) (Nat.le_refl _) (by omega) (by omega)
          generalize bsF (hcP (A ++ (X ++ (Y ++ B))) a m b ((a + b) / 2) ((a + b) / 2 + m) ((a + b) / 2 + m - 1)) a m = t at *
          obtain ⟨d1, d2, q1, q2, q3⟩ := main _ _ _ t ((a + b) / 2 + m - t) _ _ rfl rfl (by omega) (by omega) (by omega) (by omega) (by omega) (by omega) s3 s4 (by omega) (by omega)
          exact sym_goB (A ++ (X ++ (Y ++ B))) d1 d2 _ a m b ((a + b) / 2) ((a + b) / 2 + m) ((a + b) / 2 + m - 1) 0 t ((a + b) / 2 + m - t) N (by omega) (by omega) rfl rfl (by omega) (by omega) (by omega) hd hcm (by omega) (by omega) (by omega) (by omega) lo q1 q2 q3
end Go.Proofs.YtjgpojglgfddiaaDoor
namespace Go.Proofs.YtjgpojglgfddiaaDoor
open Go Go.RowKit V
set_option linter.unusedSimpArgs false
set_option linter.unusedVariables false
set_option maxHeartbeats 20000000
/-- the first j blocks, each sorted -/
def pre (k : Nat) : Nat → List TE → List TE
  | 0, _ => []
  | j + 1, d => pre k j d ++ sortR ((d.drop (j * k)).take k)
/-- all blocks, each sorted -/
def fin (k : Nat) (d : List TE) : List TE := pre k (d.length / k) d ++ sortR (d.drop (d.length / k * k))
theorem pre_len (k : Nat) (d : List TE) : ∀ j, j * k ≤ d.length → (pre k j d).length = j * k
  | 0, _ => by simp [pre]
  | j + 1, h => by
    have e : (j + 1) * k = j * k + k := Nat.succ_mul j k
    have ih := pre_len k d j (by omega)
    show (pre k j d ++ sortR ((d.drop (j * k)).take k)).length = _
    rw [List.length_append, ih, sortR_len', List.length_take, List.length_drop]; omega
theorem pre_shift (k : Nat) (d : List TE) : ∀ j, pre k (j + 1) d = sortR (d.take k) ++ pre k j (d.drop k)
  | 0 => by simp [pre]
  | j + 1 => by
    show pre k (j + 1) d ++ sortR ((d.drop ((j + 1) * k)).take k) = _ ++ (pre k j (d.drop k) ++ sortR (((d.drop k).drop (j * k)).take k))
    rw [pre_shift k d j, List.drop_drop, show (j + 1) * k = k + j * k by rw [Nat.succ_mul]; omega, List.append_assoc]
theorem fin_one (k : Nat) (d : List TE) (hk : 0 < k) (h : k ≤ d.length) : fin k d = sortR (d.take k) ++ fin k (d.drop k) := by
  unfold fin
  have e : d.length / k = (d.length - k) / k + 1 := by
    rw [← Nat.add_div_right _ hk, Nat.sub_add_cancel h]
  rw [List.length_drop, e, pre_shift, List.drop_drop, Nat.succ_mul, Nat.add_comm _ k, List.append_assoc]
theorem fin_lt (k : Nat) (d : List TE) (h : d.length < k) : fin k d = sortR d := by
  unfold fin
  rw [Nat.div_eq_of_lt h]
  simp [pre]
theorem fin_le (k : Nat) (d : List TE) (hk : 0 < k) (h : d.length ≤ k) : fin k d = sortR d := by
  rcases Nat.lt_or_ge d.length k with q | q
  · exact fin_lt k d q
  · rw [fin_one k d hk q, List.take_of_length_le h, List.drop_of_length_le h, fin_lt k [] (by simpa using hk)]
    show sortR d ++ [] = _
    rw [List.append_nil]
theorem fin_two (k : Nat) (d : List TE) (hk : 0 < k) (h : k + k ≤ d.length) : fin k d = sortR (d.take k) ++ (sortR ((d.drop k).take k) ++ fin k (d.drop (k + k))) := by
  rw [fin_one k d hk (by omega), fin_one k (d.drop k) hk (by rw [List.length_drop]; omega), List.drop_drop]
theorem fin_tail (k : Nat) (d : List TE) (hk : 0 < k) (h : k < d.length) (h2 : d.length < k + k) : fin k d = sortR (d.take k) ++ sortR (d.drop k) := by
  rw [fin_one k d hk (by omega), fin_lt k (d.drop k) (by rw [List.length_drop]; omega)]
theorem fin_len (k : Nat) (d : List TE) (hk : 0 < k) : (fin k d).length = d.length := by
  unfold fin
  have h : d.length / k * k ≤ d.length := Nat.div_mul_le_self _ _
  rw [List.length_append, pre_len k d _ h, sortR_len', List.length_drop]; omega
theorem sort_two {X Y : List TE} (hd : Dst (X ++ Y)) : sortR (sortR X ++ sortR Y) = sortR (X ++ Y) := by
  have hp : (sortR X ++ sortR Y).Perm (X ++ Y) := (sortR_perm _).append (sortR_perm _)
  exact sort_eq hd (sortR_srt (dst_perm hd hp.symm)) ((sortR_perm _).trans hp)
theorem sort_ins {L : List TE} (hd : Dst L) : insN L (L.length - 1) = sortR L := by
  rcases Nat.eq_zero_or_pos L.length with h | h
  · have := List.length_eq_zero_iff.1 h
    subst this; rfl
  · exact insN_end hd h
def t0S (n : Nat) (x : List TE) (a b : Nat) : St := stOf 63 [(0, .sl 0 0 n 2), (1, .int .i64 (n : Int)), (2, soV), (6, .int .i64 20), (7, .int .i64 (a : Int)), (8, .int .i64 (b : Int))] [.row 31 (flatA encT x)]
def t0X (n : Nat) (x : List TE) (a : Nat) : St := stOf 63 [(0, .sl 0 0 n 2), (1, .int .i64 (n : Int)), (2, soV), (6, .int .i64 20), (7, .int .i64 (a : Int))] [.row 31 (flatA encT x)]
theorem t0_step (n : Nat) (x y : List TE) (a b c : Nat) (hn : n ≤ 1000) (h : b ≤ n) (hc : c = b + 20) (ins : CallsV Tryd.prog 66 [.sl 0 0 n 2, .int .i64 (a : Int), .int .i64 (b : Int), soV] [.row 31 (flatA encT x)] (fun av H' => av = .tuple [] ∧ H' = [.row 31 (flatA encT y)])) : GoV Tryd.prog 1 (loopB Tryd.f59 0) (isX .normal (t0S n y b c)) (t0S n x a b) := by
  subst hc
  unfold t0S
  have e1' := ins
  have e2' := (congrArg (fun z => AV.int .i64 z) (wrap_i64 (e := (↑b : Int) + (20 : Int)) (by omega) (by omega)))
  exact g_x [⟨3, [], .br true .no⟩, ⟨8, [], .callS [0] [true] (avOf e1') (blOf e1') [true]⟩, ⟨13, [], .as (rhsOf e2')⟩] [.sel [0, 1, 2, 6, 7, 8]] (And.intro (show decide ((↑b : Int) ≤ (↑n : Int)) = true from (by rw [decide_eq_true_iff]; omega)) (And.intro (show ∀ (x_1 : AV), x_1 ∈ flatA encT x → noid0 x_1 = true from encT_noid x) (And.intro (show ∀ (x : AV), x ∈ flatA encT y → noid0 x = true from encT_noid y) (And.intro e1' e2'))))
theorem t0_end (n : Nat) (x : List TE) (a b : Nat) (h : n < b) : GoV Tryd.prog 1 (loopB Tryd.f59 0) (isX (.exit 0) (t0X n x a)) (t0S n x a b) := by
  unfold t0S t0X
  exact g_x [⟨3, [], .br false .no⟩] [.sel [0, 1, 2, 6, 7]] (show decide ((↑b : Int) ≤ (↑n : Int)) = false from (by rw [decide_eq_false_iff_not]; omega))
theorem t0_loop (d : List TE) (n : Nat) (hn : d.length = n) (hd : n ≤ 1000) (hD : Dst d) : LoopG Tryd.prog 1 Tryd.f59 0 (.exit 0) (t0X n (pre 20 (n / 20) d ++ d.drop (n / 20 * 20)) (n / 20 * 20)) (t0S n d 0 20) := by
  refine loopG_of (n / 20) (fun j => t0S n (pre 20 j d ++ d.drop (j * 20)) (j * 20) (j * 20 + 20)) (by simp [pre]) (by simp) ?_ ?_
  · intro j hj
    have hl := pre_len 20 d j (by omega)
    have e : pre 20 j d ++ d.drop (j * 20) = pre 20 j d ++ ((d.drop (j * 20)).take 20 ++ d.drop (j * 20 + 20)) := by
      rw [← List.drop_drop, List.take_append_drop]
    have l2 : ((d.drop (j * 20)).take 20).length = 20 := by rw [List.length_take, List.length_drop]; omega
    have hD2 : Dst ((d.drop (j * 20)).take 20) := dst_sub hD ((List.take_sublist _ _).trans (List.drop_sublist _ _))
    have ins := ins_v (pre 20 j d) ((d.drop (j * 20)).take 20) (d.drop (j * 20 + 20)) (j * 20) (j * 20 + 20) n (by omega) (by omega) (by rw [← e, List.length_append, hl, List.length_drop]; omega) hd
    rw [sort_ins hD2, ← e] at ins
    have e2 : pre 20 (j + 1) d ++ d.drop ((j + 1) * 20) = pre 20 j d ++ (sortR ((d.drop (j * 20)).take 20) ++ d.drop (j * 20 + 20)) := by
      show (pre 20 j d ++ sortR ((d.drop (j * 20)).take 20)) ++ d.drop ((j + 1) * 20) = _
      rw [show (j + 1) * 20 = j * 20 + 20 by omega, List.append_assoc]
    rw [e2, show (j + 1) * 20 = j * 20 + 20 by omega]
    exact t0_step n _ _ _ _ _ hd (by omega) rfl ins
  · exact t0_end n _ _ _ (by omega)
def t1S (n : Nat) (x : List TE) (k : Nat) : St := stOf 63 [(0, .sl 0 0 n 2), (1, .int .i64 (n : Int)), (2, soV), (6, .int .i64 (k : Int))] [.row 31 (flatA encT x)]
def t2S (n : Nat) (x : List TE) (k a b : Nat) : St := stOf 63 [(0, .sl 0 0 n 2), (1, .int .i64 (n : Int)), (2, soV), (6, .int .i64 (k : Int)), (7, .int .i64 (a : Int)), (8, .int .i64 (b : Int))] [.row 31 (flatA encT x)]
def t2X (n : Nat) (x : List TE) (k a : Nat) : St := stOf 63 [(0, .sl 0 0 n 2), (1, .int .i64 (n : Int)), (2, soV), (6, .int .i64 (k : Int)), (7, .int .i64 (a : Int))] [.row 31 (flatA encT x)]
theorem t2_step (n : Nat) (x y : List TE) (k a m b c : Nat) (hn : n ≤ 1000) (hk : k ≤ 1000) (h : b ≤ n) (hm : m = a + k) (hmb : m ≤ b) (hc : c = b + (k + k)) (sy : CallsV Tryd.prog 67 [.sl 0 0 n 2, .int .i64 (a : Int), .int .i64 (m : Int), .int .i64 (b : Int), soV] [.row 31 (flatA encT x)] (fun av H' => av = .tuple [] ∧ H' = [.row 31 (flatA encT y)])) : GoV Tryd.prog 1 (loopB Tryd.f59 2) (isX .normal (t2S n y k b c)) (t2S n x k a b) := by
  have e1 : (a : Int) + (k : Int) = (m : Int) := by omega
  have e2 : 2 * (k : Int) = ((k + k : Nat) : Int) := by omega
  have e3 : (b : Int) + ((k + k : Nat) : Int) = (c : Int) := by omega
  have b1 : c ≤ 3000 := by omega
  have b2 : ((k + k : Nat) : Int) ≤ 2000 := by omega
  unfold t2S
  generalize k + k = q at *
  clear hc hm
  have e1' := (Eq.trans (congrArg (fun z => AV.int .i64 (IntKind.i64.wrap z)) e1) (congrArg (fun z => AV.int .i64 z) (wrap_i64 (e := (↑m : Int)) (by omega) (by omega))))
  have e2' := sy
  have e3' := (Eq.trans (congrArg (fun z => AV.int .i64 (IntKind.i64.wrap z)) e2) (congrArg (fun z => AV.int .i64 z) (wrap_i64 (e := (↑q : Int)) (by omega) (by omega))))
  have e4' := (Eq.trans (congrArg (fun z => AV.int .i64 (IntKind.i64.wrap z)) e3) (congrArg (fun z => AV.int .i64 z) (wrap_i64 (e := (↑c : Int)) (by omega) (by omega))))
  exact g_x [⟨3, [], .br true .no⟩, ⟨8, [], .as (rhsOf e1')⟩, ⟨11, [], .callS [0] [true] (avOf e2') (blOf e2') [true]⟩, ⟨16, [], .as (rhsOf e3')⟩, ⟨17, [], .as (rhsOf e4')⟩] [.sel [0, 1, 2, 6, 7, 8]] (And.intro (show decide ((↑b : Int) ≤ (↑n : Int)) = true from (by rw [decide_eq_true_iff]; omega)) (And.intro e1' (And.intro (show ∀ (x_1 : AV), x_1 ∈ flatA encT x → noid0 x_1 = true from encT_noid x) (And.intro (show ∀ (x : AV), x ∈ flatA encT y → noid0 x = true from encT_noid y) (And.intro e2' (And.intro e3' e4'))))))
theorem t2_end (n : Nat) (x : List TE) (k a b : Nat) (h : n < b) : GoV Tryd.prog 1 (loopB Tryd.f59 2) (isX (.exit 4) (t2X n x k a)) (t2S n x k a b) := by
  unfold t2S t2X
  exact g_x [⟨3, [], .br false .no⟩] [.sel [0, 1, 2, 6, 7]] (show decide ((↑b : Int) ≤ (↑n : Int)) = false from (by rw [decide_eq_false_iff_not]; omega))
theorem t2_loop (d : List TE) (n k : Nat) (hn : d.length = n) (hd : n ≤ 1000) (hk : k ≤ 1000) (h0 : 0 < k) (hD : Dst d) : LoopG Tryd.prog 1 Tryd.f59 2 (.exit 4) (t2X n (pre (k + k) (n / (k + k)) d ++ fin k (d.drop (n / (k + k) * (k + k)))) k (n / (k + k) * (k + k))) (t2S n (fin k d) k 0 (k + k)) := by
  refine loopG_of (n / (k + k)) (fun j => t2S n (pre (k + k) j d ++ fin k (d.drop (j * (k + k)))) k (j * (k + k)) (j * (k + k) + (k + k))) (by simp [pre]) (by simp) ?_ ?_
  · intro j hj
    have hjn : (j + 1) * (k + k) ≤ n := by
      have h1 : n / (k + k) * (k + k) ≤ n := Nat.div_mul_le_self _ _
      have h2 : (j + 1) * (k + k) ≤ n / (k + k) * (k + k) := Nat.mul_le_mul_right _ hj
      omega
    rw [Nat.succ_mul] at hjn
    have hl := pre_len (k + k) d j (by omega)
    have ld : (d.drop (j * (k + k))).length = n - j * (k + k) := by rw [List.length_drop]; omega
    have two := fin_two k (d.drop (j * (k + k))) h0 (by omega)
    have hD1 : Dst (d.drop (j * (k + k))) := dst_sub hD (List.drop_sublist _ _)
    have tk : (d.drop (j * (k + k))).take k ++ ((d.drop (j * (k + k))).drop k).take k = (d.drop (j * (k + k))).take (k + k) := by
      rw [List.take_add]
    have hD2 : Dst ((d.drop (j * (k + k))).take k ++ ((d.drop (j * (k + k))).drop k).take k) := by
      rw [tk]; exact dst_sub hD1 (List.take_sublist _ _)
    have l1 : ((d.drop (j * (k + k))).take k).length = k := by rw [List.length_take]; omega
    have l2 : (((d.drop (j * (k + k))).drop k).take k).length = k := by rw [List.length_take, List.length_drop]; omega
    have st := sort_two hD2
    have hp : (sortR ((d.drop (j * (k + k))).take k) ++ sortR (((d.drop (j * (k + k))).drop k).take k)).Perm ((d.drop (j * (k + k))).take k ++ ((d.drop (j * (k + k))).drop k).take k) := (sortR_perm _).append (sortR_perm _)
    have sy := sym_v _ (pre (k + k) j d) (sortR ((d.drop (j * (k + k))).take k)) (sortR (((d.drop (j * (k + k))).drop k).take k)) (fin k ((d.drop (j * (k + k))).drop (k + k))) (j * (k + k)) (j * (k + k) + k) (j * (k + k) + (k + k)) n (Nat.le_refl _) (by rw [sortR_len']; omega) (by rw [sortR_len']; omega) hl.symm (by rw [sortR_len', l1]) (by rw [sortR_len', l2]; omega) (by rw [fin_len k _ h0, List.length_drop]; omega) hd (sortR_srt (List.pairwise_append.1 hD2).1) (sortR_srt (List.pairwise_append.1 hD2).2.1) (dst_perm hD2 hp.symm)
    rw [st, tk, ← two, List.drop_drop] at sy
    have e2 : pre (k + k) (j + 1) d ++ fin k (d.drop ((j + 1) * (k + k))) = pre (k + k) j d ++ (sortR ((d.drop (j * (k + k))).take (k + k)) ++ fin k (d.drop (j * (k + k) + (k + k)))) := by
      show (pre (k + k) j d ++ sortR ((d.drop (j * (k + k))).take (k + k))) ++ _ = _
      rw [Nat.succ_mul, List.append_assoc]
    rw [e2, Nat.succ_mul]
    exact t2_step n _ _ k _ _ _ _ hd hk (by omega) rfl (by omega) rfl sy
  · refine t2_end n _ _ _ _ ?_
    have := Nat.lt_div_mul_add (a := n) (b := k + k) (by omega)
    exact this
theorem t1_go (n k q : Nat) (x y z : List TE) (hn : n ≤ 1000) (hk : k < n) (hq : q ≤ n)
    (lo : LoopG Tryd.prog 1 Tryd.f59 2 (.exit 4) (t2X n y k q) (t2S n x k 0 (k + k)))
    (h : (q + k < n ∧ CallsV Tryd.prog 67 [.sl 0 0 n 2, .int .i64 (q : Int), .int .i64 ((q + k : Nat) : Int), .int .i64 (n : Int), soV] [.row 31 (flatA encT y)] (fun av H' => av = .tuple [] ∧ H' = [.row 31 (flatA encT z)])) ∨ (n ≤ q + k ∧ y = z)) : GoV Tryd.prog 1 (loopB Tryd.f59 1) (isX .normal (t1S n z (k + k))) (t1S n x k) := by
  have e1 : (q : Int) + (k : Int) = ((q + k : Nat) : Int) := by omega
  have e2 : 2 * (k : Int) = ((k + k : Nat) : Int) := by omega
  have e3 : (k : Int) * 2 = ((k + k : Nat) : Int) := by omega
  have b1 : ((q + k : Nat) : Int) ≤ 2000 := by omega
  have b2 : ((k + k : Nat) : Int) ≤ 2000 := by omega
  unfold t2X t2S at lo
  unfold t1S
  generalize hkk : k + k = kk at *
  generalize hqk : q + k = m at *
  rcases h with ⟨h1, h⟩ | ⟨h1, rfl⟩
  · skip
    have e1' := (Eq.trans (congrArg (fun z => AV.int .i64 (IntKind.i64.wrap z)) e2) (congrArg (fun z => AV.int .i64 z) (wrap_i64 (e := (↑kk : Int)) (by omega) (by omega))))
    have e2' := lo
    have e3' := (Eq.trans (congrArg (fun z => AV.int .i64 (IntKind.i64.wrap z)) e1) (congrArg (fun z => AV.int .i64 z) (wrap_i64 (e := (↑m : Int)) (by omega) (by omega))))
    have e4' := h
    have e5' := (Eq.trans (congrArg (fun z => AV.int .i64 (IntKind.i64.wrap z)) e3) (congrArg (fun z => AV.int .i64 z) (wrap_i64 (e := (↑kk : Int)) (by omega) (by omega))))
    exact g_x [⟨3, [], .br true .no⟩, ⟨5, [], .as (rhsOf e1')⟩, ⟨8, [.sel [0, 1, 2, 6, 7, 8]], .loop (exOf e2') (endOf e2')⟩, ⟨11, [], .as (rhsOf e3')⟩, ⟨16, [], .br true .no⟩, ⟨22, [], .callS [0] [true] (avOf e4') (blOf e4') [true]⟩, ⟨24, [], .as (rhsOf e5')⟩] [.sel [0, 1, 2, 6]] (And.intro (show decide ((↑k : Int) < (↑n : Int)) = true from (by rw [decide_eq_true_iff]; omega)) (And.intro e1' (And.intro e2' (And.intro e3' (And.intro (show decide ((↑m : Int) < (↑n : Int)) = true from (by rw [decide_eq_true_iff]; omega)) (And.intro (show ∀ (x : AV), x ∈ flatA encT y → noid0 x = true from encT_noid y) (And.intro (show ∀ (x : AV), x ∈ flatA encT z → noid0 x = true from encT_noid z) (And.intro e4' e5'))))))))
  · skip
    have e1' := (Eq.trans (congrArg (fun z => AV.int .i64 (IntKind.i64.wrap z)) e2) (congrArg (fun z => AV.int .i64 z) (wrap_i64 (e := (↑kk : Int)) (by omega) (by omega))))
    have e2' := lo
    have e3' := (Eq.trans (congrArg (fun z => AV.int .i64 (IntKind.i64.wrap z)) e1) (congrArg (fun z => AV.int .i64 z) (wrap_i64 (e := (↑m : Int)) (by omega) (by omega))))
    have e4' := (Eq.trans (congrArg (fun z => AV.int .i64 (IntKind.i64.wrap z)) e3) (congrArg (fun z => AV.int .i64 z) (wrap_i64 (e := (↑kk : Int)) (by omega) (by omega))))
    exact g_x [⟨3, [], .br true .no⟩, ⟨5, [], .as (rhsOf e1')⟩, ⟨8, [.sel [0, 1, 2, 6, 7, 8]], .loop (exOf e2') (endOf e2')⟩, ⟨11, [], .as (rhsOf e3')⟩, ⟨16, [], .br false .no⟩, ⟨18, [], .as (rhsOf e4')⟩] [.sel [0, 1, 2, 6]] (And.intro (show decide ((↑k : Int) < (↑n : Int)) = true from (by rw [decide_eq_true_iff]; omega)) (And.intro e1' (And.intro e2' (And.intro e3' (And.intro (show decide ((↑m : Int) < (↑n : Int)) = false from (by rw [decide_eq_false_iff_not]; omega)) e4')))))
theorem t1_step (d : List TE) (n k : Nat) (hn : d.length = n) (hd : n ≤ 1000) (hk : k < n) (h0 : 0 < k) (hD : Dst d) : GoV Tryd.prog 1 (loopB Tryd.f59 1) (isX .normal (t1S n (fin (k + k) d) (k + k))) (t1S n (fin k d) k) := by
  have h1 : n / (k + k) * (k + k) ≤ n := Nat.div_mul_le_self _ _
  have h2 : n < n / (k + k) * (k + k) + (k + k) := Nat.lt_div_mul_add (a := n) (b := k + k) (by omega)
  have lo := t2_loop d n k hn hd (by omega) h0 hD
  have e : fin (k + k) d = pre (k + k) (n / (k + k)) d ++ sortR (d.drop (n / (k + k) * (k + k))) := by unfold fin; rw [hn]
  have hl := pre_len (k + k) d (n / (k + k)) (by omega)
  have hD1 : Dst (d.drop (n / (k + k) * (k + k))) := dst_sub hD (List.drop_sublist _ _)
  have ld : (d.drop (n / (k + k) * (k + k))).length = n - n / (k + k) * (k + k) := by rw [List.length_drop]; omega
  refine t1_go n k _ _ _ _ hd hk h1 lo ?_
  rw [e]
  generalize pre (k + k) (n / (k + k)) d = P at *
  generalize d.drop (n / (k + k) * (k + k)) = R at *
  generalize n / (k + k) * (k + k) = q at *
  rcases Nat.lt_or_ge (q + k) n with h | h
  · refine .inl ⟨h, ?_⟩
    rw [fin_tail k R h0 (by omega) (by omega)]
    have hD2 : Dst (R.take k ++ R.drop k) := by rw [List.take_append_drop]; exact hD1
    have l1 : (R.take k).length = k := by rw [List.length_take]; omega
    have hp : (sortR (R.take k) ++ sortR (R.drop k)).Perm (R.take k ++ R.drop k) := (sortR_perm _).append (sortR_perm _)
    have sy := sym_v _ P (sortR (R.take k)) (sortR (R.drop k)) [] q (q + k) n n (Nat.le_refl _) (by rw [sortR_len']; omega) (by rw [sortR_len', List.length_drop]; omega) hl.symm (by rw [sortR_len', l1]) (by rw [sortR_len', List.length_drop]; omega) (by simp) hd (sortR_srt (List.pairwise_append.1 hD2).1) (sortR_srt (List.pairwise_append.1 hD2).2.1) (dst_perm hD2 hp.symm)
    rw [sort_two hD2, List.take_append_drop, List.append_nil, List.append_nil] at sy
    exact sy
  · exact .inr ⟨h, by rw [fin_le k R h0 (by omega)]⟩
theorem t1_end (n : Nat) (x : List TE) (k : Nat) (h : n ≤ k) : GoV Tryd.prog 1 (loopB Tryd.f59 1) (isX (.exit 2) (stOf 63 [] [.row 31 (flatA encT x)])) (t1S n x k) := by
  unfold t1S
  exact g_x [⟨3, [], .br false .no⟩] [.sel []] (show decide ((↑k : Int) < (↑n : Int)) = false from (by rw [decide_eq_false_iff_not]; omega))
theorem t1_loop (d : List TE) (n : Nat) (hn : d.length = n) (hd : n ≤ 1000) (hD : Dst d) : LoopG Tryd.prog 1 Tryd.f59 1 (.exit 2) (stOf 63 [] [.row 31 (flatA encT (sortR d))]) (t1S n (fin 20 d) 20) := by
  refine loopG_inv n (fun m s => ∃ k, 0 < k ∧ n ≤ m + k ∧ s = t1S n (fin k d) k) ⟨20, by omega, by omega, rfl⟩ (by simp) ?_
  rintro m _ ⟨k, h0, h1, rfl⟩
  rcases Nat.lt_or_ge k n with q | q
  · refine (t1_step d n k hn hd q h0 hD).mono ?_
    rintro _ _ ⟨rfl, rfl⟩
    exact .inl ⟨rfl, m - k, by omega, k + k, by omega, by omega, rfl⟩
  · rw [fin_le k d h0 (by omega)]
    refine (t1_end n _ k q).mono ?_
    rintro _ _ ⟨rfl, rfl⟩
    exact .inr ⟨rfl, rfl⟩
theorem stable_v (d : List TE) (n : Nat) (hn : d.length = n) (hd : n ≤ 1000) (hD : Dst d) : CallsV Tryd.prog 59 [.sl 0 0 n 2, .int .i64 (n : Int), soV] [.row 31 (flatA encT d)] (fun av H' => av = .tuple [] ∧ H' = [.row 31 (flatA encT (sortR d))]) := by
  refine callsG_at Tryd.func59 (by kernel_rfl) ?_
  have lo := t0_loop d n hn hd hD
  have ins : CallsV Tryd.prog 66 [.sl 0 0 n 2, .int .i64 ((n / 20 * 20 : Nat) : Int), .int .i64 (n : Int), soV] [.row 31 (flatA encT (pre 20 (n / 20) d ++ d.drop (n / 20 * 20)))] (fun av H' => av = .tuple [] ∧ H' = [.row 31 (flatA encT (fin 20 d))]) := by
    have hl := pre_len 20 d (n / 20) (by omega)
    have := ins_v (pre 20 (n / 20) d) (d.drop (n / 20 * 20)) [] (n / 20 * 20) n n (by omega) (by rw [List.length_drop]; omega) (by simp; omega) hd
    rw [sort_ins (dst_sub hD (List.drop_sublist _ _)), List.append_nil, List.append_nil] at this
    unfold fin
    rw [hn]
    exact this
  have lo1 := t1_loop d n hn hd hD
  unfold t1S at lo1
  unfold t0S t0X at lo
  have hq : n / 20 * 20 ≤ n := by omega
  generalize n / 20 * 20 = q at *
  generalize pre 20 (n / 20) d ++ d.drop q = x at *
  have e1' := lo
  have e2' := ins
  have e3' := lo1
  refine g_q [⟨4, [.sel [0, 1, 2, 6, 7, 8]], .loop (exOf e1') (endOf e1')⟩, ⟨9, [], .callS [0] [true] (avOf e2') (blOf e2') [true]⟩, ⟨10, [.sel [0, 1, 2, 6]], .loop (exOf e3') (endOf e3')⟩] [] Exit.normal (stOf 63 [] [Blk.row 31 (flatA encT (sortR d))]) (And.intro e1' (And.intro (show ∀ (x_1 : AV), x_1 ∈ flatA encT x → noid0 x_1 = true from encT_noid x) (And.intro (show ∀ (x : AV), x ∈ flatA encT (fin 20 d) → noid0 x = true from encT_noid (fin 20 d)) (And.intro e2' e3')))) ?_
  refine g_finn ?_
  refine g_f [0] [true] (AV.tuple []) ([Blk.row 31 (flatA encT (sortR d))]) (show ∀ (x : AV), x ∈ flatA encT (sortR d) → noid0 x = true from encT_noid (sortR d)) ?_
  exact ⟨rfl, rfl⟩
theorem sortS_v (d : List TE) (hd : d.length ≤ 1000) (hD : Dst d) : CallsV Tryd.prog 51 [.sl 0 0 d.length 2, soV] [.row 31 (flatA encT d)] (fun av H' => av = .tuple [] ∧ H' = [.row 31 (flatA encT (sortR d))]) := by
  refine callsG_at Tryd.func51 (by kernel_rfl) ?_
  have st := stable_v d d.length rfl hd hD
  have e1' := st
  refine g_q [⟨4, [], .callS [0] [true] (avOf e1') (blOf e1') [true]⟩] [.sel []] Exit.normal (stOf 9 [] [Blk.row 31 (flatA encT (sortR d))]) (And.intro (show ∀ (x : AV), x ∈ flatA encT d → noid0 x = true from encT_noid d) (And.intro (show ∀ (x : AV), x ∈ flatA encT (sortR d) → noid0 x = true from encT_noid (sortR d)) e1')) ?_
  refine g_finn ?_
  refine g_f [0] [true] (AV.tuple []) ([Blk.row 31 (flatA encT (sortR d))]) (show ∀ (x : AV), x ∈ flatA encT (sortR d) → noid0 x = true from encT_noid (sortR d)) ?_
  exact ⟨rfl, rfl⟩
end Go.Proofs.YtjgpojglgfddiaaDoor
namespace Go.Proofs.YtjgpojglgfddiaaDoor
open Go Go.RowKit V
set_option linter.unusedSimpArgs false
set_option linter.unusedVariables false
set_option maxHeartbeats 20000000
theorem callsV_ownNil {P : Program} {f : FuncId} {args : List AV} {t : TypeId} {sz : Nat} (h : CallsV P f args [] fun a b => (a = .nilsl ∧ b = []) ∨ (a = .sl 0 0 0 sz ∧ b = [.row t []])) (hsz : 0 < sz) : CallsV P f args [] fun a b => a = .sl 0 0 0 sz ∧ b = [.row t []] := fun p w vals hH hv =>
  (h p w vals hH hv).mono fun e w' ⟨v, av, H', p', h1, h2, h3, h4, h5⟩ => by
    rcases h2 with ⟨rfl, rfl⟩ | ⟨rfl, rfl⟩
    · obtain ⟨p2, k1, k2, k3, k4⟩ := own_nil h3 t
      have k3 : p2.n = 1 := k3
      refine ⟨v, _, _, p2, h1, ⟨rfl, rfl⟩, k1, ?_, h5.trans k2⟩
      rw [rep_nilsl h4]
      exact ⟨by omega, fun q hq => by rw [k4 q hq]; exact ⟨none, 0, rfl, Nat.le_refl _, Nat.zero_le _, hsz, fun _ => rfl, Or.inl rfl⟩⟩
    · exact ⟨v, _, _, p', h1, ⟨rfl, rfl⟩, h3, h4, h5⟩
theorem clone0_v : CallsV Tryd.prog 41 [.slv 0 2 []] [] (fun av H' => (av = .nilsl ∧ H' = []) ∨ (av = .sl 0 0 0 2 ∧ H' = [.row 31 []])) := by
  refine callsV_at Tryd.func41 (by kernel_rfl) ?_
  refine q_seq (by kernel_rfl) ?_
  refine q_run True [0, 2, 4] (stOf 8 [(0, AV.slv (nat_lit 0) (nat_lit 2) []), (2, AV.nilsl)] []) (by kernel_rfl) (by kernel_rfl) (by kernel_rfl) (by kernel_rfl) trivial ?_
  refine k_then ?_
  refine q_seq (by kernel_rfl) ?_
  refine q_seq (by kernel_rfl) ?_
  refine q_reg (by kernel_rfl) ?_
  refine n_run 1 (True) [1] (stOf 8 [(0, AV.slv (nat_lit 0) (nat_lit 2) []), (2, AV.nilsl), (3, AV.slv (nat_lit 0) (nat_lit 2) [])] []) (by kernel_rfl) (by kernel_rfl) trivial ?_
  refine n_nilq 22 (Operand.tmp (3 : Nat)) (Operand.const (Value.slice none (0 : Nat) (0 : Nat))) true (nat_lit 0) (nat_lit 2) ([]) (by kernel_rfl) (by kernel_rfl) (by kernel_rfl) (by kernel_rfl) (by kernel_rfl) (fun b1_1 hb1_1 => ?_)
  refine n_sel [0, 2, 4] (stOf 8 [(0, AV.slv (nat_lit 0) (nat_lit 2) []), (2, AV.nilsl), (4, AV.bool b1_1)] []) (by kernel_rfl) (n_done ?_)
  refine k_then ?_
  refine q_cond (by kernel_rfl) (b1_1) (by kernel_rfl) (fun h1 => ?_) (fun h1 => ?_)
  · refine q_seq (by kernel_rfl) ?_
    refine q_run True [0, 2, 4] (stOf 8 [(0, AV.slv (nat_lit 0) (nat_lit 2) []), (2, AV.nilsl), (4, AV.bool b1_1)] []) (by kernel_rfl) (by kernel_rfl) (by kernel_rfl) (by kernel_rfl) trivial ?_
    refine k_then ?_
    refine q_ret (by kernel_rfl) ?_
    refine k_thenr ?_
    refine k_fin (True) (AV.nilsl) [] [] (AV.nilsl) (by kernel_rfl) (by kernel_rfl) (by kernel_rfl) trivial (keep_nil _) ?_
    exact .inl ⟨rfl, rfl⟩
  · refine q_skip (by kernel_rfl) ?_
    refine k_then ?_
    refine q_seq (by kernel_rfl) ?_
    refine q_ev (noX_ok _) 400 [0, 2, 4] Exit.normal (stOf 8 [(0, AV.slv (nat_lit 0) (nat_lit 2) []), (2, AV.sl (1 : Nat) (nat_lit 0) (nat_lit 0) (nat_lit 2)), (4, AV.bool b1_1)] [Blk.dead, Blk.row (nat_lit 31) []]) (by kernel_rfl) ?_
    refine k_then ?_
    refine q_ret (by kernel_rfl) ?_
    exact k_fin True (.sl 1 0 0 2) [1] [.row 31 []] (.sl 0 0 0 2) (by kernel_rfl) (by kernel_rfl) (by kernel_rfl) trivial (keep_row 1 31 _ rfl (by simp)) (.inr ⟨rfl, rfl⟩)
theorem clone_a (l : List TE) (hl : l.length ≤ 1000) : CallsV Tryd.prog 41 [filesV l] [] (fun av H' => av = .sl 0 0 l.length 2 ∧ H' = [.row 31 (flatA encT l)]) := by
  cases l with
  | nil => exact callsV_ownNil clone0_v (by omega)
  | cons x xs => exact clone_v x xs (by simp at hl; omega)
theorem sorted_v (l : List TE) (hl : l.length ≤ 1000) (hD : Dst l) : CallsV Tryd.prog 40 [filesV l] [] (fun av H' => av = .sl 0 0 (sortR l).length 2 ∧ H' = [.row 31 (flatA encT (sortR l))]) := by
  refine callsG_at Tryd.func40 (by kernel_rfl) ?_
  have cl := clone_a l hl
  have so := sortS_v l hl hD
  have h1 := encT_noid l
  have h2 := encT_noid (sortR l)
  have h3 := encT_plain l
  have h4 := encT_lend l
  rw [sortR_len' l]
  generalize sortR l = m at *
  have e1' := cl
  have e2' := so
  refine g_q [⟨2, [], .call (avOf e1') (blOf e1') [true]⟩, ⟨5, [], .callS [0] [true] (avOf e2') (blOf e2') [true]⟩] [.sel [2]] Exit.ret (stOf 9 [(2, AV.sl 0 0 l.length 2)] [Blk.row 31 (flatA encT m)]) (And.intro (show ∀ (x : AV), x ∈ flatA encT l → plain0 x = true from h3) (And.intro e1' (And.intro (show ∀ (x : AV), x ∈ flatA encT l → noid0 x = true from h1) (And.intro (show ∀ (x : AV), x ∈ flatA encT m → noid0 x = true from h2) e2')))) ?_
  refine g_f [0] [true] (AV.sl 0 0 l.length 2) ([Blk.row 31 (flatA encT m)]) (show ∀ (x : AV), x ∈ flatA encT m → noid0 x = true from h2) ?_
  exact ⟨rfl, rfl⟩
end Go.Proofs.YtjgpojglgfddiaaDoor
namespace Go.Proofs.YtjgpojglgfddiaaDoor
open Go Go.RowKit V
set_option linter.unusedSimpArgs false
set_option linter.unusedVariables false
set_option maxHeartbeats 20000000
def bvS (l : List TE) (i : Nat) : St := stOf 43 [(0, filesV l), (2, .ptr 0 0), (12, filesV l), (13, .int .i64 (l.length : Int)), (14, .int .i64 (i : Int))] [.row 24 [.nilsl]]
def bvR (e : Int) : St := stOf 43 [(2, .ptr 0 0), (3, .int .i64 e)] [.row 24 [.nilsl]]
theorem bv_find (l : List TE) (p : ByteArray) (i : Nat) (hl : l.length ≤ 1000) (hi : i < l.length) : CallsV Tryd.prog 39 [.slv i 2 ((flatA encT l).take (i * 2)), .str p] [] (fun av H' => av = .int .i64 (if gtI (l.take i) p < (l.take i).length then (gtI (l.take i) p : Int) else -1) ∧ H' = []) := by
  have h := find_v (l.take i) p (by rw [List.length_take]; omega)
  have e : (l.take i).length = i := by rw [List.length_take]; omega
  unfold filesV at h
  rw [← flatA_take encT_l] at h
  rw [e] at h ⊢
  exact h
theorem bv_round (l : List TE) (hl : l.length ≤ 1000) (hok : ∀ x ∈ l, OkT x) (i : Nat) (hi : i < l.length) : (bvE l i = 0 → GoV Tryd.prog 0 (loopB Tryd.f18 0) (isX .normal (bvS l (i + 1))) (bvS l i)) ∧ (bvE l i ≠ 0 → GoV Tryd.prog 0 (loopB Tryd.f18 0) (isX .ret (bvR (bvE l i))) (bvS l i)) := by
  have at1 : (flatA encT l).drop ((i : Int).toNat * 2) = AV.str (l.getD i tD).1 :: AV.str (l.getD i tD).2 :: flatA encT (l.drop (i + 1)) := encT_at l i hi
  have cf := checkFile_v (l.getD i tD) (hok _ (getD_mem' hi tD))
  have fd := bv_find l (l.getD i tD).1 i hl hi
  unfold bvE
  generalize l.getD i tD = x at *
  by_cases hc : cfF x = 0
  · rw [if_pos hc]
    rw [hc] at cf
    by_cases hg : gtI (l.take i) x.1 < (l.take i).length
    · rw [if_pos hg]
      rw [if_pos hg] at fd
      refine ⟨fun h => absurd h (by decide), fun _ => ?_⟩
      generalize gtI (l.take i) x.1 = g at *
      unfold bvS bvR
      unfold encT at cf
      have e1' := (congrArg (fun z => AV.fptr z) at1)
      have e2' := cf
      have e3' := fd
      exact g_x [⟨1, [], .br true .no⟩, ⟨3, [], .as (rhsOf e1')⟩, ⟨9, [], .call (avOf e2') (blOf e2') []⟩, ⟨19, [], .call (avOf e3') (blOf e3') []⟩] [.sel [2, 3], .keep [0] [false]] (And.intro (show decide ((↑i : Int) < (↑l.length : Int)) = true from (by rw [decide_eq_true_iff]; omega)) (And.intro (show (0 : Int) ≤ (↑i : Int) ∧ (↑i : Int) < (↑l.length : Int) from (by omega)) (And.intro e1' (And.intro (show 2 ≤ (AV.str x.fst :: AV.str x.snd :: flatA encT (List.drop (i + 1) l)).length from (by exact Nat.le_of_ble_eq_true (by kernel_rfl))) (And.intro (show 2 ≤ 2 from (by omega)) (And.intro (show 2 ≤ 2 from (by omega)) (And.intro e2' (And.intro (show (0 : Int) ≤ (0 : Int) ∧ (0 : Int) ≤ (↑i : Int) ∧ (↑i : Int) ≤ (↑l.length : Int) from (by omega)) (And.intro (show 1 ≤ 2 from (by omega)) (And.intro e3' (show 1 ≤ 1 from (by omega))))))))))))
    · rw [if_neg hg]
      rw [if_neg hg] at fd
      refine ⟨fun _ => ?_, fun h => absurd rfl h⟩
      unfold bvS
      unfold encT at cf
      have e1' := (congrArg (fun z => AV.fptr z) at1)
      have e2' := cf
      have e3' := fd
      have e4' := (congrArg (fun z => AV.int .i64 z) (wrap_i64 (e := (↑i : Int) + (1 : Int)) (by omega) (by omega)))
      exact g_x [⟨1, [], .br true .no⟩, ⟨3, [], .as (rhsOf e1')⟩, ⟨9, [], .call (avOf e2') (blOf e2') []⟩, ⟨19, [], .call (avOf e3') (blOf e3') []⟩, ⟨22, [], .as (rhsOf e4')⟩] [.sel [0, 2, 12, 13, 14], .keep [0] [false]] (And.intro (show decide ((↑i : Int) < (↑l.length : Int)) = true from (by rw [decide_eq_true_iff]; omega)) (And.intro (show (0 : Int) ≤ (↑i : Int) ∧ (↑i : Int) < (↑l.length : Int) from (by omega)) (And.intro e1' (And.intro (show 2 ≤ (AV.str x.fst :: AV.str x.snd :: flatA encT (List.drop (i + 1) l)).length from (by exact Nat.le_of_ble_eq_true (by kernel_rfl))) (And.intro (show 2 ≤ 2 from (by omega)) (And.intro (show 2 ≤ 2 from (by omega)) (And.intro e2' (And.intro (show (0 : Int) ≤ (0 : Int) ∧ (0 : Int) ≤ (↑i : Int) ∧ (↑i : Int) ≤ (↑l.length : Int) from (by omega)) (And.intro (show 1 ≤ 2 from (by omega)) (And.intro e3' e4'))))))))))
  · rw [if_neg hc]
    refine ⟨fun h => absurd h hc, fun _ => ?_⟩
    have hq : (cfF x == 0) = false := beq_eq_false_iff_ne.2 hc
    generalize cfF x = e at *
    unfold bvS bvR
    unfold encT at cf
    have e1' := (congrArg (fun z => AV.fptr z) at1)
    have e2' := cf
    exact g_x [⟨1, [], .br true .no⟩, ⟨3, [], .as (rhsOf e1')⟩, ⟨9, [], .call (avOf e2') (blOf e2') []⟩, ⟨13, [], .br true .no⟩] [.sel [2, 3], .keep [0] [false]] (And.intro (show decide ((↑i : Int) < (↑l.length : Int)) = true from (by rw [decide_eq_true_iff]; omega)) (And.intro (show (0 : Int) ≤ (↑i : Int) ∧ (↑i : Int) < (↑l.length : Int) from (by omega)) (And.intro e1' (And.intro (show 2 ≤ (AV.str x.fst :: AV.str x.snd :: flatA encT (List.drop (i + 1) l)).length from (by exact Nat.le_of_ble_eq_true (by kernel_rfl))) (And.intro (show 2 ≤ 2 from (by omega)) (And.intro (show 2 ≤ 2 from (by omega)) (And.intro e2' (And.intro (show (e != (0 : Int)) = true from (by simp_all; done)) (show 1 ≤ 1 from (by omega))))))))))
theorem build_v (l : List TE) (hl : l.length ≤ 1000) (hok : ∀ x ∈ l, OkT x) : CallsV Tryd.prog 18 [filesV l] [] (fun av H' => (bdF l = 0 ∧ av = .tuple [.agg [.sl 0 0 (sortR l).length 2], .int .i64 0] ∧ H' = [.row 31 (flatA encT (sortR l))]) ∨ (bdF l ≠ 0 ∧ av = .tuple [.agg [.nilsl], .int .i64 (bdF l)] ∧ H' = [])) := by
  refine callsG_at Tryd.func18 (by kernel_rfl) ?_
  by_cases h64 : 64 < l.length
  · unfold bdF
    rw [if_pos h64]
    refine g_q [⟨5, [], .br true .no⟩] [.sel [2, 3]] Exit.ret (stOf 43 [(2, AV.ptr 0 0), (3, AV.int .i64 (2 : Int))] [Blk.row 24 [AV.nilsl]]) (And.intro (show decide ((↑l.length : Int) > (64 : Int)) = true from (by rw [decide_eq_true_iff]; omega)) (show 1 ≤ 1 from (by omega))) ?_
    refine g_f [] [] (AV.tuple [AV.agg [AV.nilsl], AV.int .i64 (2 : Int)]) ([]) (show 1 ≤ 1 from (by omega)) ?_
    exact .inr ⟨by decide, rfl, rfl⟩
  · have eq : ∀ i, i ≤ bdM l → i ≤ l.length → Dst (l.take i) := fun i h1 h2 => by
      rcases bdM_or l with ⟨_, k2⟩ | ⟨_, k2, _⟩
      · exact (bd_dst i h2 fun j hj => k2 j (by omega)).1
      · exact (bd_dst i h2 fun j hj => k2 j (by omega)).1
    rcases bdM_or l with ⟨h1, h2⟩ | ⟨h1, h2, h3⟩
    · have hL : LoopG Tryd.prog 0 Tryd.f18 0 (.exit 0) (stOf 43 [(0, filesV l), (2, .ptr 0 0)] [.row 24 [.nilsl]]) (bvS l 0) := by
        refine loopG_of l.length (fun i => bvS l i) rfl (by simp) (fun i hi => (bv_round l hl hok i hi).1 (by rw [bd_iff (eq i (by omega) (by omega))]; exact h2 i hi)) ?_
        unfold bvS
        exact g_x [⟨1, [], .br false .no⟩] [.sel [0, 2]] (show decide ((↑l.length : Int) < (↑l.length : Int)) = false from (by rw [decide_eq_false_iff_not]; omega))
      have cl := clash_v l hl hok
      have so := sorted_v l hl (by have := eq l.length (by omega) (Nat.le_refl _); rwa [List.take_length] at this)
      have hb : bdF l = bif clF l then 0 else 10 := by
        unfold bdF
        rw [if_neg h64, if_neg (by omega), clF_perm (sortR_perm l)]
      rw [hb]
      unfold bvS at hL
      generalize sortR l = o at *
      cases hc : clF l with
      | true =>
        rw [hc] at cl
        have e1' := hL
        have e2' := cl
        have e3' := so
        refine g_q [⟨5, [], .br false .no⟩, ⟨9, [.sel [0, 2, 12, 13, 14]], .loop (exOf e1') (endOf e1')⟩, ⟨11, [], .call (avOf e2') (blOf e2') []⟩, ⟨17, [], .call (avOf e3') (blOf e3') [true]⟩] [.sel [2, 3]] Exit.ret (stOf 43 [(2, AV.ptr 0 0), (3, AV.int .i64 (0 : Int))] [Blk.row 24 [AV.sl 1 0 o.length 2], Blk.row 31 (flatA encT o)]) (And.intro (show decide ((↑l.length : Int) > (64 : Int)) = false from (by rw [decide_eq_false_iff_not]; omega)) (And.intro e1' (And.intro e2' (And.intro (show ∀ (x : AV), x ∈ flatA encT o → plain0 x = true from encT_plain o) (And.intro e3' (show 1 ≤ 1 from (by omega))))))) ?_
        refine g_f [1] [true] (AV.tuple [AV.agg [AV.sl 0 0 o.length 2], AV.int .i64 (0 : Int)]) ([Blk.row 31 (flatA encT o)]) (And.intro (show 1 ≤ 1 from (by omega)) (show ∀ (x : AV), x ∈ flatA encT o → noid0 x = true from encT_noid o)) ?_
        exact .inl ⟨rfl, rfl, rfl⟩
      | false =>
        rw [hc] at cl
        have e1' := hL
        have e2' := cl
        refine g_q [⟨5, [], .br false .no⟩, ⟨9, [.sel [0, 2, 12, 13, 14]], .loop (exOf e1') (endOf e1')⟩, ⟨11, [], .call (avOf e2') (blOf e2') []⟩] [.sel [2, 3]] Exit.ret (stOf 43 [(2, AV.ptr 0 0), (3, AV.int .i64 (10 : Int))] [Blk.row 24 [AV.nilsl]]) (And.intro (show decide ((↑l.length : Int) > (64 : Int)) = false from (by rw [decide_eq_false_iff_not]; omega)) (And.intro e1' (And.intro e2' (show 1 ≤ 1 from (by omega))))) ?_
        refine g_f [] [] (AV.tuple [AV.agg [AV.nilsl], AV.int .i64 (10 : Int)]) ([]) (show 1 ≤ 1 from (by omega)) ?_
        exact .inr ⟨by decide, rfl, rfl⟩
    · have hL : LoopG Tryd.prog 0 Tryd.f18 0 .ret (bvR (bdE l (bdM l))) (bvS l 0) := by
        refine loopG_of (bdM l) (fun i => bvS l i) rfl (by simp) (fun i hi => (bv_round l hl hok i (by omega)).1 (by rw [bd_iff (eq i (by omega) (by omega))]; exact h2 i hi)) ?_
        have := (bv_round l hl hok (bdM l) h1).2 (by rw [bd_iff (eq _ (Nat.le_refl _) (by omega))]; exact h3)
        rw [bd_iff (eq _ (Nat.le_refl _) (by omega))] at this
        exact this
      have hb : bdF l = bdE l (bdM l) := by
        unfold bdF
        rw [if_neg h64, if_pos h1]
      rw [hb]
      generalize bdE l (bdM l) = e at *
      unfold bvS bvR at hL
      have e1' := hL
      refine g_q [⟨5, [], .br false .no⟩, ⟨9, [.sel [0, 2, 12, 13, 14]], .loop (exOf e1') (endOf e1')⟩] [] Exit.ret (stOf 43 [(2, AV.ptr 0 0), (3, AV.int .i64 e)] [Blk.row 24 [AV.nilsl]]) (And.intro (show decide ((↑l.length : Int) > (64 : Int)) = false from (by rw [decide_eq_false_iff_not]; omega)) e1') ?_
      refine g_f [] [] (AV.tuple [AV.agg [AV.nilsl], AV.int .i64 e]) ([]) (show 1 ≤ 1 from (by omega)) ?_
      exact .inr ⟨h3, rfl, rfl⟩
theorem build_ok (l : List TE) (hl : l.length ≤ 1000) (hok : ∀ x ∈ l, OkT x) (h : bdF l = 0) : CallsV Tryd.prog 18 [filesV l] [] (fun av H' => av = .tuple [.agg [.sl 0 0 (sortR l).length 2], .int .i64 0] ∧ H' = [.row 31 (flatA encT (sortR l))]) := (build_v l hl hok).mono fun av H' q => by
  rcases q with ⟨_, q⟩ | ⟨q, _⟩
  · exact q
  · exact absurd h q
theorem build_ne (l : List TE) (hl : l.length ≤ 1000) (hok : ∀ x ∈ l, OkT x) (h : bdF l ≠ 0) : CallsV Tryd.prog 18 [filesV l] [] (fun av H' => av = .tuple [.agg [.nilsl], .int .i64 (bdF l)] ∧ H' = []) := (build_v l hl hok).mono fun av H' q => by
  rcases q with ⟨q, _⟩ | ⟨_, q⟩
  · exact absurd q h
  · exact q
end Go.Proofs.YtjgpojglgfddiaaDoor
namespace Go.Proofs.YtjgpojglgfddiaaDoor
open Go Go.RowKit V
set_option linter.unusedSimpArgs false
set_option linter.unusedVariables false
set_option maxHeartbeats 20000000
end Go.Proofs.YtjgpojglgfddiaaDoor
namespace Go.Proofs.YtjgpojglgfddiaaDoor
open Go Go.RowKit V
set_option linter.unusedSimpArgs false
set_option linter.unusedVariables false
set_option maxHeartbeats 20000000
def pvS (a b : List TE) (k : Nat) (o : List TE) : St := stOf 48 [(3, .ptr 0 0), (4, .ptr 1 0), (8, .sl 2 0 o.length 2), (27, filesV a), (28, .int .i64 (a.length : Int)), (29, .int .i64 (k : Int))] [.row 24 [filesV b], .row 24 [.nilsl], .row 31 (flatA encT o)]
theorem over_v (a b : List TE) (ha : a.length ≤ 400) (hb : b.length ≤ 400) (hoa : ∀ x ∈ a, OkT x) (hob : ∀ x ∈ b, OkT x) : CallsV Tryd.prog 30 [treeV a, treeV b] [] (fun av H' => (ovF a b = 0 ∧ av = .tuple [.agg [.sl 0 0 (sortR (ovK a b a.length)).length 2], .int .i64 0] ∧ H' = [.row 31 (flatA encT (sortR (ovK a b a.length)))]) ∨ (ovF a b ≠ 0 ∧ av = .tuple [.agg [.nilsl], .int .i64 (ovF a b)] ∧ H' = [])) := by
  refine callsG_at Tryd.func30 (by kernel_rfl) ?_
  have c1 := check_v a (by omega) hoa
  have c2 := check_v b (by omega) hob
  unfold ovF
  by_cases h1 : ckF a = 0
  · rw [h1] at c1
    rw [if_pos h1]
    by_cases h2 : ckF b = 0
    · rw [h2] at c2
      rw [if_pos h2]
      have cl := clone_a b (by omega)
      have hL : LoopG Tryd.prog 0 Tryd.f30 0 (.exit 0) (stOf 48 [(4, .ptr 0 0), (8, .sl 1 0 (ovK a b a.length).length 2)] [.row 24 [.nilsl], .row 31 (flatA encT (ovK a b a.length))]) (pvS a b 0 b) := by
        refine loopG_of a.length (fun k => pvS a b k (ovK a b k)) (show pvS a b 0 (ovK a b 0) = pvS a b 0 b by rw [show ovK a b 0 = b by simp [ovK]]) (by simp) ?_ ?_
        · intro k hk
          have at1 : (flatA encT a).drop ((k : Int).toNat * 2) = AV.str (a.getD k tD).1 :: AV.str (a.getD k tD).2 :: flatA encT (a.drop (k + 1)) := encT_at a k hk
          have fd := find_v b (a.getD k tD).1 (by omega)
          rw [ovK_next a b k hk]
          have hn := ovK_len a b k
          unfold gtF
          generalize ovK a b k = o at *
          generalize a.getD k tD = x at *
          have hsn := encT_snoc o x
          have hge := encT_ge o
          by_cases hm : gtI b x.1 < b.length
          · rw [if_pos hm] at fd ⊢
            rw [if_pos rfl]
            generalize gtI b x.1 = m at *
            unfold pvS
            have e1' := (congrArg (fun z => AV.fptr z) at1)
            have e2' := fd
            have e3' := (congrArg (fun z => AV.int .i64 z) (wrap_i64 (e := (↑k : Int) + (1 : Int)) (by omega) (by omega)))
            exact g_x [⟨1, [], .br true .no⟩, ⟨2, [], .as (rhsOf e1')⟩, ⟨10, [], .call (avOf e2') (blOf e2') []⟩, ⟨13, [], .as (rhsOf e3')⟩] [.sel [3, 4, 8, 27, 28, 29], .keep [0, 1, 2] [false, false, true]] (And.intro (show decide ((↑k : Int) < (↑a.length : Int)) = true from (by rw [decide_eq_true_iff]; omega)) (And.intro (show (0 : Int) ≤ (↑k : Int) ∧ (↑k : Int) < (↑a.length : Int) from (by omega)) (And.intro e1' (And.intro (show 2 ≤ (AV.str x.fst :: AV.str x.snd :: flatA encT (List.drop (k + 1) a)).length from (by exact Nat.le_of_ble_eq_true (by kernel_rfl))) (And.intro (show 2 ≤ 2 from (by omega)) (And.intro (show 1 ≤ 1 from (by omega)) (And.intro (show 1 ≤ 2 from (by omega)) (And.intro e2' (And.intro e3' (show ∀ (x : AV), x ∈ flatA encT o → noid0 x = true from encT_noid o))))))))))
          · rw [if_neg hm] at fd ⊢
            rw [if_neg (by decide)]
            unfold pvS
            rw [List.length_append, List.length_singleton]
            have e1' := (congrArg (fun z => AV.fptr z) at1)
            have e2' := fd
            have e3' := (congrArg (fun z => Blk.row 31 z) hsn)
            have e4' := (congrArg (fun z => AV.int .i64 z) (wrap_i64 (e := (↑k : Int) + (1 : Int)) (by omega) (by omega)))
            exact g_x [⟨1, [], .br true .no⟩, ⟨2, [], .as (rhsOf e1')⟩, ⟨10, [], .call (avOf e2') (blOf e2') []⟩, ⟨17, [.hp 5 (rhsOf e3')], .no⟩, ⟨18, [], .as (rhsOf e4')⟩] [.sel [3, 4, 8, 27, 28, 29], .keep [0, 1, 5] [false, false, true]] (And.intro (show decide ((↑k : Int) < (↑a.length : Int)) = true from (by rw [decide_eq_true_iff]; omega)) (And.intro (show (0 : Int) ≤ (↑k : Int) ∧ (↑k : Int) < (↑a.length : Int) from (by omega)) (And.intro e1' (And.intro (show 2 ≤ (AV.str x.fst :: AV.str x.snd :: flatA encT (List.drop (k + 1) a)).length from (by exact Nat.le_of_ble_eq_true (by kernel_rfl))) (And.intro (show 2 ≤ 2 from (by omega)) (And.intro (show 1 ≤ 1 from (by omega)) (And.intro (show 1 ≤ 2 from (by omega)) (And.intro e2' (And.intro (show 2 ≤ 2 from (by omega)) (And.intro (show o.length * 2 ≤ (flatA encT o).length from (by omega)) (And.intro (show 2 ≤ 2 from (by omega)) (And.intro (show (o.length + 1) * 32 ≤ 140737488355328 from (by omega)) (And.intro (show o.length + 1 ≤ maxLen from (by (unfold maxLen; omega))) (And.intro (congrArg some e3') (And.intro e4' (show ∀ (x_1 : AV), x_1 ∈ flatA encT (o ++ [x]) → noid0 x_1 = true from encT_noid (o ++ [x])))))))))))))))))
        · generalize ovK a b a.length = o
          unfold pvS
          exact g_x [⟨1, [], .br false .no⟩] [.sel [4, 8], .keep [1, 2] [false, true]] (And.intro (show decide ((↑a.length : Int) < (↑a.length : Int)) = false from (by rw [decide_eq_false_iff_not]; omega)) (show ∀ (x : AV), x ∈ flatA encT o → noid0 x = true from encT_noid o))
      have hwl := ovK_len a b a.length
      have hok := ovK_ok (k := a.length) hoa hob
      generalize ovK a b a.length = w at *
      have n2 := encT_noid w
      have n4 := encT_lend w
      have n5 := encT_plain w
      have hge2 := encT_ge w
      have tk := flatA_all_take encT_l w
      unfold pvS at hL
      have hz : 0 + b.length = b.length := Nat.zero_add _
      by_cases hb0 : bdF w = 0
      · have bd := build_ok w (by omega) hok hb0
        rw [hb0]
        generalize sortR w = v at *
        have hnv := encT_nov v 31 (AV.tuple [AV.agg [AV.sl 0 0 v.length 2], AV.int .i64 (0 : Int)]) rfl
        have e1' := c1
        have e2' := c2
        have e3' := cl
        have e4' := hL
        have e5' := (show Reads [Blk.row 24 [AV.nilsl], Blk.row 31 (flatA encT w)] [AV.sl 1 0 w.length 2] [AV.slv w.length 2 (flatA encT w)] from (Reads.cons (Reads1.sl (t := 31) (xs := flatA encT w) (by kernel_rfl) (show ∀ (x : AV), x ∈ flatA encT w → noid0 x = true ∧ x ≠ AV.junk from n4) (show 0 + w.length * 2 ≤ (flatA encT w).length from (by omega)) tk) Reads.nil))
        have e6' := bd
        refine g_q [⟨5, [], .call (avOf e1') (blOf e1') []⟩, ⟨11, [], .call (avOf e2') (blOf e2') []⟩, ⟨18, [], .call (avOf e3') (blOf e3') [true]⟩, ⟨24, [.sel [3, 4, 8, 27, 28, 29], .keep [1, 2, 3] [false, false, true]], .loop (exOf e4') (endOf e4')⟩, ⟨26, [], .lend (rdOf e5') (avOf e6') (blOf e6') [true]⟩] [.sel [4, 5]] Exit.ret (stOf 48 [(4, AV.ptr 0 0), (5, AV.int .i64 (0 : Int))] [Blk.row 24 [AV.sl 2 0 v.length 2], Blk.row 31 (flatA encT w), Blk.row 31 (flatA encT v)]) (And.intro (show 1 ≤ 1 from (by omega)) (And.intro e1' (And.intro (show 1 ≤ 1 from (by omega)) (And.intro e2' (And.intro (show 1 ≤ 1 from (by omega)) (And.intro (show ∀ (x : AV), x ∈ flatA encT b → plain0 x = true from encT_plain b) (And.intro e3' (And.intro (show 1 ≤ 1 from (by omega)) (And.intro (show ∀ (x : AV), x ∈ flatA encT b → noid0 x = true from encT_noid b) (And.intro e4' (And.intro (show ∀ (x : AV), x ∈ flatA encT v → plain0 x = true from encT_plain v) (And.intro e5' (And.intro (show (novR (AV.tuple [AV.agg [AV.sl 0 0 v.length 2], AV.int .i64 (0 : Int)]) && [Blk.row 31 (flatA encT v)].all novB) = true from (by omega)) (And.intro e6' (show 1 ≤ 1 from (by omega)))))))))))))))) ?_
        refine g_f [2] [true] (AV.tuple [AV.agg [AV.sl 0 0 v.length 2], AV.int .i64 (0 : Int)]) ([Blk.row 31 (flatA encT v)]) (And.intro (show 1 ≤ 1 from (by omega)) (show ∀ (x : AV), x ∈ flatA encT v → noid0 x = true from encT_noid v)) ?_
        exact .inl ⟨rfl, rfl, rfl⟩
      · have bd := build_ne w (by omega) hok hb0
        generalize bdF w = e at *
        have e1' := c1
        have e2' := c2
        have e3' := cl
        have e4' := hL
        have e5' := (show Reads [Blk.row 24 [AV.nilsl], Blk.row 31 (flatA encT w)] [AV.sl 1 0 w.length 2] [AV.slv w.length 2 (flatA encT w)] from (Reads.cons (Reads1.sl (t := 31) (xs := flatA encT w) (by kernel_rfl) (show ∀ (x : AV), x ∈ flatA encT w → noid0 x = true ∧ x ≠ AV.junk from n4) (show 0 + w.length * 2 ≤ (flatA encT w).length from (by omega)) tk) Reads.nil))
        have e6' := bd
        refine g_q [⟨5, [], .call (avOf e1') (blOf e1') []⟩, ⟨11, [], .call (avOf e2') (blOf e2') []⟩, ⟨18, [], .call (avOf e3') (blOf e3') [true]⟩, ⟨24, [.sel [3, 4, 8, 27, 28, 29], .keep [1, 2, 3] [false, false, true]], .loop (exOf e4') (endOf e4')⟩, ⟨26, [], .lend (rdOf e5') (avOf e6') (blOf e6') []⟩] [.sel [4, 5]] Exit.ret (stOf 48 [(4, AV.ptr 0 0), (5, AV.int .i64 e)] [Blk.row 24 [AV.nilsl], Blk.row 31 (flatA encT w)]) (And.intro (show 1 ≤ 1 from (by omega)) (And.intro e1' (And.intro (show 1 ≤ 1 from (by omega)) (And.intro e2' (And.intro (show 1 ≤ 1 from (by omega)) (And.intro (show ∀ (x : AV), x ∈ flatA encT b → plain0 x = true from encT_plain b) (And.intro e3' (And.intro (show 1 ≤ 1 from (by omega)) (And.intro (show ∀ (x : AV), x ∈ flatA encT b → noid0 x = true from encT_noid b) (And.intro e4' (And.intro e5' (And.intro (show (novR (AV.tuple [AV.agg [AV.nilsl], AV.int .i64 e]) && [].all novB) = true from (by kernel_rfl)) (And.intro e6' (show 1 ≤ 1 from (by omega))))))))))))))) ?_
        refine g_f [] [] (AV.tuple [AV.agg [AV.nilsl], AV.int .i64 e]) ([]) (show 1 ≤ 1 from (by omega)) ?_
        exact .inr ⟨hb0, rfl, rfl⟩
    · rw [if_neg h2]
      have hq : (ckF b == 0) = false := beq_eq_false_iff_ne.2 h2
      generalize ckF b = e at *
      have e1' := c1
      have e2' := c2
      refine g_q [⟨5, [], .call (avOf e1') (blOf e1') []⟩, ⟨11, [], .call (avOf e2') (blOf e2') []⟩, ⟨15, [], .br true .no⟩] [.sel [4, 5]] Exit.ret (stOf 48 [(4, AV.ptr 2 0), (5, AV.int .i64 e)] [Blk.row 24 [AV.slv a.length 2 (flatA encT a)], Blk.row 24 [AV.slv b.length 2 (flatA encT b)], Blk.row 24 [AV.nilsl]]) (And.intro (show 1 ≤ 1 from (by omega)) (And.intro e1' (And.intro (show 1 ≤ 1 from (by omega)) (And.intro e2' (And.intro (show (e != (0 : Int)) = true from (by simp_all; done)) (show 1 ≤ 1 from (by omega))))))) ?_
      refine g_f [] [] (AV.tuple [AV.agg [AV.nilsl], AV.int .i64 e]) ([]) (show 1 ≤ 1 from (by omega)) ?_
      exact .inr ⟨h2, rfl, rfl⟩
  · rw [if_neg h1]
    have hq : (ckF a == 0) = false := beq_eq_false_iff_ne.2 h1
    generalize ckF a = e at *
    have e1' := c1
    refine g_q [⟨5, [], .call (avOf e1') (blOf e1') []⟩, ⟨9, [], .br true .no⟩] [.sel [4, 5]] Exit.ret (stOf 48 [(4, AV.ptr 2 0), (5, AV.int .i64 e)] [Blk.row 24 [AV.slv a.length 2 (flatA encT a)], Blk.row 24 [AV.slv b.length 2 (flatA encT b)], Blk.row 24 [AV.nilsl]]) (And.intro (show 1 ≤ 1 from (by omega)) (And.intro e1' (And.intro (show (e != (0 : Int)) = true from (by simp_all; done)) (show 1 ≤ 1 from (by omega))))) ?_
    refine g_f [] [] (AV.tuple [AV.agg [AV.nilsl], AV.int .i64 e]) ([]) (show 1 ≤ 1 from (by omega)) ?_
    exact .inr ⟨h1, rfl, rfl⟩
end Go.Proofs.YtjgpojglgfddiaaDoor
namespace Go.Proofs.YtjgpojglgfddiaaDoor
open Go Go.RowKit V
set_option linter.unusedSimpArgs false
set_option linter.unusedVariables false
set_option maxHeartbeats 20000000
end Go.Proofs.YtjgpojglgfddiaaDoor
namespace Go.Proofs.YtjgpojglgfddiaaDoor
open Go Go.RowKit V
set_option linter.unusedSimpArgs false
set_option linter.unusedVariables false
set_option maxHeartbeats 20000000
/-- what stands for an own row as a value -/
def RdV (H : List Blk) (x y : AV) : Prop := ∀ (p p1 : Pl) (w : World) (v : Value), RH p H w → Lends (fun _ => true) p p1 → Rep p w v x → Rep p1 w v y
theorem callsV_val {P : Program} {f : FuncId} {args : List AV} {x y : AV} {H : List Blk} (h : CallsV P f args [] fun a b => a = x ∧ b = H) (hr : RdV H x y) : CallsV P f args [] fun a b => a = y ∧ b = [] := fun p w vals hH hv =>
  (h p w vals hH hv).mono fun e w' ⟨v, av, H', p', h1, ⟨h2, h2'⟩, h3, h4, h5⟩ => by
    subst h2 h2'
    have hn : p.n = 0 := hH.n
    obtain ⟨k1, k2, _⟩ := keep_ok (keep := []) (H' := []) h5 h3 (by rw [hn]; exact keep_nil _)
    exact ⟨v, _, [], p'.keep [], h1, ⟨rfl, rfl⟩, k1, hr _ _ _ _ h3 (lends0 h3 (fun _ => true)) h4, k2⟩
theorem rd_sl {t : TypeId} {xs : List AV} {len sz : Nat} (hn : ∀ x ∈ xs, noid0 x = true ∧ x ≠ .junk) (hl : len * sz = xs.length) : RdV [.row t xs] (.sl 0 0 len sz) (.slv len sz xs) := fun p p1 w v hH hL h => by
  have := reads_sl (st := 0) (p1 := p1) rfl hn (by omega) hH hL h
  rwa [List.drop_zero, hl, List.take_length] at this
theorem rd_agg {t : TypeId} {xs : List AV} {len sz : Nat} (hn : ∀ x ∈ xs, noid0 x = true ∧ x ≠ .junk) (hl : len * sz = xs.length) : RdV [.row t xs] (.agg [.sl 0 0 len sz]) (.agg [.slv len sz xs]) := fun p p1 w v hH hL h => by
  obtain ⟨vs, e1, e2, e3⟩ := h
  refine ⟨vs, e1, e2, fun i i1 i2 => ?_⟩
  simp only [List.length_cons, List.length_nil] at i2
  obtain rfl : i = 0 := by omega
  have h0 := e3 0 i1 (by simp)
  exact ⟨h0.1, (rd_sl (t := t) hn hl p p1 w _ hH hL h0.2 : Rep p1 w _ (.slv len sz xs))⟩
theorem rd_tup {H : List Blk} {cs ds : List AV} {y : AV} (hy : (∃ n, y = .int .i64 n) ∨ ∃ b, y = .bool b) (h : RdV H (.agg cs) (.agg ds)) : RdV H (.tuple [.agg cs, y]) (.tuple [.agg ds, y]) := fun p p1 w v hH hL hv => by
  obtain ⟨vs, e1, e2, e3⟩ := hv
  refine ⟨vs, e1, e2, fun i i1 i2 => ?_⟩
  simp only [List.length_cons, List.length_nil] at i2
  rcases i with _ | _ | i
  · have h0 : Rep p w vs.toList[0] (.agg cs) := e3 0 i1 (by simp)
    exact h p p1 w _ hH hL h0
  · rcases hy with ⟨n, rfl⟩ | ⟨b, rfl⟩
    · have h0 : RepF p.M w vs.toList[1] (.int .i64 n) := e3 1 i1 (by simp)
      have h2 : ∃ z, vs.toList[1] = z ∧ RepF p.M w z (.int .i64 n) := ⟨_, rfl, h0⟩
      obtain ⟨z, hz, hz2⟩ := h2
      show Rep1 p1 w vs.toList[1] (.int .i64 n)
      rw [hz]
      cases hz2
      exact RepF.int _ _
    · have h0 : RepF p.M w vs.toList[1] (.bool b) := e3 1 i1 (by simp)
      have h2 : ∃ z, vs.toList[1] = z ∧ RepF p.M w z (.bool b) := ⟨_, rfl, h0⟩
      obtain ⟨z, hz, hz2⟩ := h2
      show Rep1 p1 w vs.toList[1] (.bool b)
      rw [hz]
      cases hz2
      exact RepF.bool b
  · omega
theorem rd_nil : RdV [] (.agg [.nilsl]) (treeV []) := fun p p1 w v hH hL h => by
  obtain ⟨vs, e1, e2, e3⟩ := h
  refine ⟨vs, e1, e2, fun i i1 i2 => ?_⟩
  simp only [List.length_cons, List.length_nil] at i2
  obtain rfl : i = 0 := by omega
  have h0 := e3 0 i1 (by simp)
  refine ⟨h0.1, ?_⟩
  have h1 : RepF p.M w vs.toList[0] .nilsl := h0.2
  have h2 : ∃ z, vs.toList[0] = z ∧ RepF p.M w z .nilsl := ⟨_, rfl, h1⟩
  obtain ⟨z, hz, hz2⟩ := h2
  show Rep0 p1 w vs.toList[0] (.slv 0 2 [])
  rw [hz]
  cases hz2
  exact nil_slv0 2 (by omega) p1 w _ (RepF.nilsl)
theorem rd_tree (l : List TE) : RdV [.row 31 (flatA encT l)] (.agg [.sl 0 0 l.length 2]) (treeV l) := rd_agg (encT_lend l) (encT_len l).symm
/-- a tree and an error -/
theorem val_err {f : FuncId} {args : List AV} {e : Int} {l : List TE} (h : CallsV Tryd.prog f args [] (fun av H' => (e = 0 ∧ av = .tuple [.agg [.sl 0 0 l.length 2], .int .i64 0] ∧ H' = [.row 31 (flatA encT l)]) ∨ (e ≠ 0 ∧ av = .tuple [.agg [.nilsl], .int .i64 e] ∧ H' = []))) : CallsV Tryd.prog f args [] (fun av H' => av = .tuple [treeV (if e = 0 then l else []), .int .i64 e] ∧ H' = []) := by
  by_cases he : e = 0
  · rw [if_pos he]
    subst he
    exact callsV_val (h.mono fun av H' q => by
      rcases q with ⟨_, q⟩ | ⟨q, _⟩
      · exact q
      · exact absurd rfl q) (rd_tup (.inl ⟨_, rfl⟩) (rd_tree l))
  · rw [if_neg he]
    exact callsV_val (h.mono fun av H' q => by
      rcases q with ⟨q, _⟩ | ⟨_, q⟩
      · exact absurd q he
      · exact q) (rd_tup (.inl ⟨_, rfl⟩) rd_nil)
def ptO (l : List TE) (x : TE) : List TE := if ptF l x = 0 then sortR (ptL l x) else []
def ovO (a b : List TE) : List TE := if ovF a b = 0 then sortR (ovK a b a.length) else []
theorem putR_w (l : List TE) (x : TE) (hl : l.length ≤ 900) (hok : ∀ x ∈ l, OkT x) (hx : OkT x) : CallsV Tryd.prog 25 [treeV l, .str x.1, .str x.2] [] (fun av H' => av = .tuple [treeV (ptO l x), .int .i64 (ptF l x)] ∧ H' = []) := val_err (putR l x hl hok hx)
theorem overR_w (a b : List TE) (ha : a.length ≤ 400) (hb : b.length ≤ 400) (hoa : ∀ x ∈ a, OkT x) (hob : ∀ x ∈ b, OkT x) : CallsV Tryd.prog 31 [treeV a, treeV b] [] (fun av H' => av = .tuple [treeV (ovO a b), .int .i64 (ovF a b)] ∧ H' = []) := val_err (overR a b ha hb hoa hob)
theorem over_w (a b : List TE) (ha : a.length ≤ 400) (hb : b.length ≤ 400) (hoa : ∀ x ∈ a, OkT x) (hob : ∀ x ∈ b, OkT x) : CallsV Tryd.prog 30 [treeV a, treeV b] [] (fun av H' => av = .tuple [treeV (ovO a b), .int .i64 (ovF a b)] ∧ H' = []) := val_err (over_v a b ha hb hoa hob)
theorem entries_w (l : List (Int × Int)) (hl : l.length ≤ 9223372036854775807) (hz : ∀ x ∈ l, (0 ≤ x.1 ∧ x.1 ≤ 255) ∧ 0 ≤ x.2 ∧ x.2 ≤ 255) : CallsV Tryd.prog 20 [.slv l.length 2 (flatA encB l)] [] (fun av H' => av = filesV (enK l (enN l)) ∧ H' = []) := callsV_val (entries_v l hl hz) (rd_sl (encT_lend _) (encT_len _).symm)
end Go.Proofs.YtjgpojglgfddiaaDoor
namespace Go.Proofs.YtjgpojglgfddiaaDoor
open Go Go.RowKit V
set_option linter.unusedSimpArgs false
set_option linter.unusedVariables false
set_option maxHeartbeats 20000000
theorem nil_arg (p : Pl) (w : World) (v : Value) (h : Rep p w v (.agg [.nilsl])) : Rep p w v (treeV []) :=
  agg_weak (cs := [.nilsl]) (cs' := [.slv 0 2 []]) rfl (fun i h1 h2 p w v hv => by
    simp only [List.length_cons, List.length_nil] at h1
    obtain rfl : i = 0 := by omega
    exact nil_slv0 2 (by omega) p w v hv) p w v h
theorem callsV_nil {P : Program} {f : FuncId} {as' : List AV} {H : List Blk} {R : AV → List Blk → Prop} (h : CallsV P f (treeV [] :: as') H R) : CallsV P f (.agg [.nilsl] :: as') H R := fun p w vals hH hv => h p w vals hH ⟨hv.1, fun i i1 i2 => by
  have := hv.2 i i1 i2
  cases i with
  | zero => exact nil_arg _ _ _ this
  | succ i => exact this⟩
def trN (T : List TE) (x : TE) : List TE := if ptF T x = 0 then sortR (ptL T x) else T
def trK (X : List TE) : Nat → List TE
  | 0 => []
  | k + 1 => trN (trK X k) (X.getD k tD)
def tr0 (X : List TE) (k : Nat) : St := stOf 36 [(2, .ptr 0 0), (3, .ptr 1 0), (4, filesV X), (5, .int .i64 (k : Int))] [.row 24 [.nilsl], .row 24 [.nilsl]]
def tr1 (X : List TE) (k : Nat) (T : List TE) : St := stOf 36 [(2, .ptr 0 0), (3, .ptr 1 0), (4, filesV X), (5, .int .i64 (k : Int))] [.row 24 [.nilsl], .row 24 [filesV T]]
def trS (X : List TE) (k : Nat) (T : List TE) : St := if T = [] then tr0 X k else tr1 X k T
theorem ptL_ne (T : List TE) (x : TE) : sortR (ptL T x) ≠ [] := fun h => by
  have := congrArg List.length h
  rw [sortR_len'] at this
  unfold ptL at this
  rw [(insR_perm _ _).length_eq] at this
  simp at this
theorem trStep (X T : List TE) (hl : X.length ≤ 900) (ht : T.length ≤ 900) (hX : ∀ x ∈ X, OkT x) (hT : ∀ x ∈ T, OkT x) (k : Nat) (hk : k < X.length) : GoV Tryd.prog 0 (loopB Tryd.f13 0) (isX .normal (trS X (k + 1) (trN T (X.getD k tD)))) (trS X k T) := by
  have at1 : (flatA encT X).drop ((k : Int).toNat * 2) = AV.str (X.getD k tD).1 :: AV.str (X.getD k tD).2 :: flatA encT (X.drop (k + 1)) := encT_at X k hk
  have hx := hX _ (getD_mem' hk tD)
  have pu := putR_w T (X.getD k tD) ht hT hx
  have hne := ptL_ne T (X.getD k tD)
  unfold trN
  unfold ptO at pu
  by_cases hp : ptF T (X.getD k tD) = 0
  · rw [if_pos hp]
    rw [if_pos hp, hp] at pu
    generalize sortR (ptL T (X.getD k tD)) = U at *
    generalize X.getD k tD = x at *
    unfold trS
    rw [if_neg hne]
    by_cases h0 : T = []
    · subst h0
      have pu := callsV_nil pu
      rw [if_pos rfl]
      unfold tr0 tr1
      have e1' := (congrArg (fun z => AV.fptr z) at1)
      have e2' := pu
      have e3' := (congrArg (fun z => AV.int .i64 z) (wrap_i64 (e := (↑k : Int) + (1 : Int)) (by omega) (by omega)))
      exact g_xB [⟨4, [], .br true .no⟩, ⟨8, [], .as (rhsOf e1')⟩, ⟨13, [], .as (rhsOf e1')⟩, ⟨16, [], .call (avOf e2') (blOf e2') []⟩, ⟨29, [], .as (rhsOf e3')⟩] [.sel [2, 3, 4, 5], .keep [0, 1] [false, false]] (And.intro (show decide ((↑k : Int) < (↑X.length : Int)) = true from (by rw [decide_eq_true_iff]; omega)) (And.intro (show 1 ≤ 1 from (by omega)) (And.intro (show (0 : Int) ≤ (↑k : Int) ∧ (↑k : Int) < (↑X.length : Int) from (by omega)) (And.intro e1' (And.intro (show 1 ≤ (AV.str x.fst :: AV.str x.snd :: flatA encT (List.drop (k + 1) X)).length from (by exact Nat.le_of_ble_eq_true (by kernel_rfl))) (And.intro (show (0 : Int) ≤ (↑k : Int) ∧ (↑k : Int) < (↑X.length : Int) from (by omega)) (And.intro e1' (And.intro (show 1 ≤ (AV.str x.snd :: flatA encT (List.drop (k + 1) X)).length from (by exact Nat.le_of_ble_eq_true (by kernel_rfl))) (And.intro e2' (And.intro e2' (And.intro (show 1 ≤ 1 from (by omega)) (And.intro (show 1 ≤ 1 from (by omega)) (And.intro (show 1 ≤ 1 from (by omega)) e3')))))))))))))
    · rw [if_neg h0]
      unfold tr1
      have e1' := (congrArg (fun z => AV.fptr z) at1)
      have e2' := pu
      have e3' := (congrArg (fun z => AV.int .i64 z) (wrap_i64 (e := (↑k : Int) + (1 : Int)) (by omega) (by omega)))
      exact g_xB [⟨4, [], .br true .no⟩, ⟨8, [], .as (rhsOf e1')⟩, ⟨13, [], .as (rhsOf e1')⟩, ⟨16, [], .call (avOf e2') (blOf e2') []⟩, ⟨29, [], .as (rhsOf e3')⟩] [.sel [2, 3, 4, 5], .keep [0, 1] [false, false]] (And.intro (show decide ((↑k : Int) < (↑X.length : Int)) = true from (by rw [decide_eq_true_iff]; omega)) (And.intro (show 1 ≤ 1 from (by omega)) (And.intro (show (0 : Int) ≤ (↑k : Int) ∧ (↑k : Int) < (↑X.length : Int) from (by omega)) (And.intro e1' (And.intro (show 1 ≤ (AV.str x.fst :: AV.str x.snd :: flatA encT (List.drop (k + 1) X)).length from (by exact Nat.le_of_ble_eq_true (by kernel_rfl))) (And.intro (show (0 : Int) ≤ (↑k : Int) ∧ (↑k : Int) < (↑X.length : Int) from (by omega)) (And.intro e1' (And.intro (show 1 ≤ (AV.str x.snd :: flatA encT (List.drop (k + 1) X)).length from (by exact Nat.le_of_ble_eq_true (by kernel_rfl))) (And.intro e2' (And.intro e2' (And.intro (show 1 ≤ 1 from (by omega)) (And.intro (show 1 ≤ 1 from (by omega)) (And.intro (show 1 ≤ 1 from (by omega)) e3')))))))))))))
  · rw [if_neg hp]
    rw [if_neg hp] at pu
    generalize ptF T (X.getD k tD) = e at *
    generalize X.getD k tD = x at *
    have hq : (e == 0) = false := beq_eq_false_iff_ne.2 hp
    unfold trS
    by_cases h0 : T = []
    · subst h0
      have pu := callsV_nil pu
      rw [if_pos rfl, if_pos rfl]
      unfold tr0
      have e1' := (congrArg (fun z => AV.fptr z) at1)
      have e2' := pu
      have e3' := (congrArg (fun z => AV.int .i64 z) (wrap_i64 (e := (↑k : Int) + (1 : Int)) (by omega) (by omega)))
      exact g_xB [⟨4, [], .br true .no⟩, ⟨8, [], .as (rhsOf e1')⟩, ⟨13, [], .as (rhsOf e1')⟩, ⟨16, [], .call (avOf e2') (blOf e2') []⟩, ⟨25, [], .br false .no⟩, ⟨27, [], .as (rhsOf e3')⟩] [.sel [2, 3, 4, 5], .keep [0, 1] [false, false]] (And.intro (show decide ((↑k : Int) < (↑X.length : Int)) = true from (by rw [decide_eq_true_iff]; omega)) (And.intro (show 1 ≤ 1 from (by omega)) (And.intro (show (0 : Int) ≤ (↑k : Int) ∧ (↑k : Int) < (↑X.length : Int) from (by omega)) (And.intro e1' (And.intro (show 1 ≤ (AV.str x.fst :: AV.str x.snd :: flatA encT (List.drop (k + 1) X)).length from (by exact Nat.le_of_ble_eq_true (by kernel_rfl))) (And.intro (show (0 : Int) ≤ (↑k : Int) ∧ (↑k : Int) < (↑X.length : Int) from (by omega)) (And.intro e1' (And.intro (show 1 ≤ (AV.str x.snd :: flatA encT (List.drop (k + 1) X)).length from (by exact Nat.le_of_ble_eq_true (by kernel_rfl))) (And.intro e2' (And.intro e2' (And.intro (show 1 ≤ 1 from (by omega)) (And.intro (show (e == (0 : Int)) = false from (by assumption)) e3'))))))))))))
    · rw [if_neg h0, if_neg h0]
      unfold tr1
      have e1' := (congrArg (fun z => AV.fptr z) at1)
      have e2' := pu
      have e3' := (congrArg (fun z => AV.int .i64 z) (wrap_i64 (e := (↑k : Int) + (1 : Int)) (by omega) (by omega)))
      exact g_xB [⟨4, [], .br true .no⟩, ⟨8, [], .as (rhsOf e1')⟩, ⟨13, [], .as (rhsOf e1')⟩, ⟨16, [], .call (avOf e2') (blOf e2') []⟩, ⟨25, [], .br false .no⟩, ⟨27, [], .as (rhsOf e3')⟩] [.sel [2, 3, 4, 5], .keep [0, 1] [false, false]] (And.intro (show decide ((↑k : Int) < (↑X.length : Int)) = true from (by rw [decide_eq_true_iff]; omega)) (And.intro (show 1 ≤ 1 from (by omega)) (And.intro (show (0 : Int) ≤ (↑k : Int) ∧ (↑k : Int) < (↑X.length : Int) from (by omega)) (And.intro e1' (And.intro (show 1 ≤ (AV.str x.fst :: AV.str x.snd :: flatA encT (List.drop (k + 1) X)).length from (by exact Nat.le_of_ble_eq_true (by kernel_rfl))) (And.intro (show (0 : Int) ≤ (↑k : Int) ∧ (↑k : Int) < (↑X.length : Int) from (by omega)) (And.intro e1' (And.intro (show 1 ≤ (AV.str x.snd :: flatA encT (List.drop (k + 1) X)).length from (by exact Nat.le_of_ble_eq_true (by kernel_rfl))) (And.intro e2' (And.intro e2' (And.intro (show 1 ≤ 1 from (by omega)) (And.intro (show (e == (0 : Int)) = false from (by assumption)) e3'))))))))))))
/-- valid for itself: as a file that the laws use -/
theorem trK_fine (X : List TE) : ∀ k, ckF (trK X k) = 0
  | 0 => by rfl
  | k + 1 => by
    have ih := trK_fine X k
    show ckF (trN (trK X k) (X.getD k tD)) = 0
    unfold trN
    split
    · rename_i h
      unfold ptF at h
      rw [if_pos ih] at h
      obtain ⟨h1, h2⟩ := bd_fine h
      exact fine_ck (h1.perm (sortR_perm _).symm) (sortR_srt h1.dst) (by rw [clF_perm (sortR_perm _)]; exact h2)
    · exact ih
theorem trK_ok (X : List TE) (hX : ∀ x ∈ X, OkT x) : ∀ k, k ≤ X.length → ∀ x ∈ trK X k, OkT x
  | 0, _, x, hx => by cases hx
  | k + 1, h, x, hx => by
    have ih := trK_ok X hX k (by omega)
    have hx : x ∈ trN (trK X k) (X.getD k tD) := hx
    unfold trN at hx
    split at hx
    · have hx := (sortR_perm _).mem_iff.1 hx
      unfold ptL at hx
      rcases insR_mem.1 hx with rfl | h2
      · exact hX _ (getD_mem (by omega))
      · exact ih x (wo_mem.1 h2).1
    · exact ih x hx
theorem trK_len (X : List TE) (k : Nat) : (trK X k).length ≤ 64 := (ck_fine (trK_fine X k)).1.len
def trF (l : List (Int × Int)) : List TE := trK (enK l (enN l)) (enK l (enN l)).length
theorem enE_ok (x : Int × Int) : OkT (enE x) := by
  have h1 : ∀ b ∈ ptT, b.size ≤ 30000 := by decide
  have h2 : ∀ b ∈ txT, b.size ≤ 9223372036854775807 := by decide
  unfold enE
  refine ⟨h1 _ ?_, h2 _ ?_⟩
  · have hl : x.1.toNat % 12 < ptT.length := Nat.mod_lt _ (by omega)
    show ptT.getD (x.1.toNat % 12) bE ∈ ptT
    rw [List.getD_eq_getElem?_getD, List.getElem?_eq_getElem hl]; exact List.getElem_mem hl
  · have hl : x.2.toNat % 8 < txT.length := Nat.mod_lt _ (by omega)
    show txT.getD (x.2.toNat % 8) bE ∈ txT
    rw [List.getD_eq_getElem?_getD, List.getElem?_eq_getElem hl]; exact List.getElem_mem hl
theorem enK_ok (l : List (Int × Int)) (k : Nat) : ∀ x ∈ enK l k, OkT x := fun x hx => by
  unfold enK at hx
  obtain ⟨y, _, rfl⟩ := List.mem_map.1 hx
  exact enE_ok y
theorem enX_len (l : List (Int × Int)) : (enK l (enN l)).length ≤ 20 := by
  unfold enK enN
  rw [List.length_map, List.length_take]; omega
theorem trF_ok (l : List (Int × Int)) : ∀ x ∈ trF l, OkT x := trK_ok _ (enK_ok l _) _ (Nat.le_refl _)
theorem trF_len (l : List (Int × Int)) : (trF l).length ≤ 64 := trK_len _ _
theorem tree_v (l : List (Int × Int)) (hl : l.length ≤ 9223372036854775807) (hz : ∀ x ∈ l, (0 ≤ x.1 ∧ x.1 ≤ 255) ∧ 0 ≤ x.2 ∧ x.2 ≤ 255) : CallsV Tryd.prog 13 [.slv l.length 2 (flatA encB l)] [] (fun av H' => (trF l = [] ∧ av = .agg [.nilsl] ∧ H' = []) ∨ (trF l ≠ [] ∧ av = treeV (trF l) ∧ H' = [])) := by
  refine callsG_at Tryd.func13 (by kernel_rfl) ?_
  have en := entries_w l hl hz
  have hX := enK_ok l (enN l)
  have hXl := enX_len l
  unfold trF
  generalize enK l (enN l) = X at *
  have lo : ∀ s', GoV Tryd.prog 0 (loopB Tryd.f13 0) (isX (.exit 0) s') (trS X X.length (trK X X.length)) → LoopG Tryd.prog 0 Tryd.f13 0 (.exit 0) s' (tr0 X 0) := fun s' hx =>
    loopG_of X.length (fun k => trS X k (trK X k)) rfl (by simp) (fun k hk => trStep X (trK X k) (by omega) (by have := trK_len X k; omega) hX (trK_ok X hX k (by omega)) k hk) hx
  generalize trK X X.length = T at *
  by_cases h0 : T = []
  · have hL : LoopG Tryd.prog 0 Tryd.f13 0 (.exit 0) (stOf 36 [(2, .ptr 0 0), (3, .ptr 1 0)] [.row 24 [.nilsl], .row 24 [.nilsl]]) (tr0 X 0) := by
      refine lo _ ?_
      unfold trS
      rw [if_pos h0]
      unfold tr0
      clear lo
      exact g_x [⟨4, [], .br false .no⟩] [.sel [2, 3]] (show decide ((↑X.length : Int) < (↑X.length : Int)) = false from (by rw [decide_eq_false_iff_not]; omega))
    unfold tr0 at hL
    clear lo
    have e1' := en
    have e2' := hL
    refine g_q [⟨5, [], .call (avOf e1') (blOf e1') []⟩, ⟨8, [.sel [2, 3, 4, 5]], .loop (exOf e2') (endOf e2')⟩] [.sel [2]] Exit.ret (stOf 36 [(2, AV.ptr 0 0)] [Blk.row 24 [AV.nilsl], Blk.row 24 [AV.nilsl]]) (And.intro (show 1 ≤ 1 from (by omega)) (And.intro e1' (And.intro e2' (And.intro (show 1 ≤ 1 from (by omega)) (show 1 ≤ 1 from (by omega)))))) ?_
    refine g_f [] [] (AV.agg [AV.nilsl]) ([]) (show 1 ≤ 1 from (by omega)) ?_
    exact .inl ⟨h0, rfl, rfl⟩
  · have hL : LoopG Tryd.prog 0 Tryd.f13 0 (.exit 0) (stOf 36 [(2, .ptr 0 0), (3, .ptr 1 0)] [.row 24 [.nilsl], .row 24 [filesV T]]) (tr0 X 0) := by
      refine lo _ ?_
      unfold trS
      rw [if_neg h0]
      unfold tr1
      clear lo
      exact g_x [⟨4, [], .br false .no⟩] [.sel [2, 3]] (show decide ((↑X.length : Int) < (↑X.length : Int)) = false from (by rw [decide_eq_false_iff_not]; omega))
    unfold tr0 at hL
    clear lo
    have e1' := en
    have e2' := hL
    refine g_q [⟨5, [], .call (avOf e1') (blOf e1') []⟩, ⟨8, [.sel [2, 3, 4, 5]], .loop (exOf e2') (endOf e2')⟩] [.sel [2]] Exit.ret (stOf 36 [(2, AV.ptr 0 0)] [Blk.row 24 [AV.slv T.length 2 (flatA encT T)], Blk.row 24 [AV.slv T.length 2 (flatA encT T)]]) (And.intro (show 1 ≤ 1 from (by omega)) (And.intro e1' (And.intro e2' (And.intro (show 1 ≤ 1 from (by omega)) (show 1 ≤ 1 from (by omega)))))) ?_
    refine g_f [] [] (AV.agg [AV.slv T.length 2 (flatA encT T)]) ([]) (show 1 ≤ 1 from (by omega)) ?_
    exact .inr ⟨h0, rfl, rfl⟩
theorem tree_w (l : List (Int × Int)) (hl : l.length ≤ 9223372036854775807) (hz : ∀ x ∈ l, (0 ≤ x.1 ∧ x.1 ≤ 255) ∧ 0 ≤ x.2 ∧ x.2 ≤ 255) : CallsV Tryd.prog 13 [.slv l.length 2 (flatA encB l)] [] (fun av H' => av = treeV (trF l) ∧ H' = []) := by
  have h := tree_v l hl hz
  by_cases h0 : trF l = []
  · rw [h0]
    exact callsV_val (h.mono fun av H' q => by
      rcases q with ⟨_, q⟩ | ⟨q, _⟩
      · exact q
      · exact absurd h0 q) rd_nil
  · exact h.mono fun av H' q => by
      rcases q with ⟨q, _⟩ | ⟨_, q⟩
      · exact absurd q h0
      · exact q
end Go.Proofs.YtjgpojglgfddiaaDoor
namespace Go.Proofs.YtjgpojglgfddiaaDoor
open Go Go.RowKit V
set_option linter.unusedSimpArgs false
set_option linter.unusedVariables false
set_option maxHeartbeats 20000000
def awA : List TE := [(.mk #[97, 47, 120], .mk #[]), (.mk #[98], .mk #[49])]
def awB : List TE := [(.mk #[98], .mk #[50]), (.mk #[99, 47, 121], .mk #[])]
def awC : List TE := [(.mk #[97], .mk #[]), (.mk #[97, 47, 98], .mk #[])]
def awO : List TE := [(.mk #[97, 47, 120], .mk #[]), (.mk #[98], .mk #[50]), (.mk #[99, 47, 121], .mk #[])]
theorem aw1 : ovF awA awB = 0 := by kernel_rfl
theorem aw3 : bdF awC = 10 := by kernel_rfl
theorem awok : (∀ x ∈ awA, OkT x) ∧ (∀ x ∈ awB, OkT x) ∧ ∀ x ∈ awC, OkT x := by
  refine ⟨?_, ?_, ?_⟩ <;> intro x hx <;> simp [awA, awB, awC] at hx <;> rcases hx with rfl | rfl <;> exact ⟨by decide, by decide⟩
theorem awake_v : CallsV Tryd.prog 12 [] [] (fun av H' => av = .bool true ∧ H' = []) := by
  refine callsG_at Tryd.func12 (by kernel_rfl) ?_
  have o1 : CallsV Tryd.prog 30 [.agg [.slv 2 2 [.str (.mk #[97, 47, 120]), .str (.mk #[]), .str (.mk #[98]), .str (.mk #[49])]], .agg [.slv 2 2 [.str (.mk #[98]), .str (.mk #[50]), .str (.mk #[99, 47, 121]), .str (.mk #[])]]] [] (fun av H' => av = .tuple [.agg [.sl 0 0 3 2], .int .i64 0] ∧ H' = [.row 31 [.str (.mk #[97, 47, 120]), .str (.mk #[]), .str (.mk #[98]), .str (.mk #[50]), .str (.mk #[99, 47, 121]), .str (.mk #[])]]) := by
    refine (over_v awA awB (by decide) (by decide) awok.1 awok.2.1).mono fun av H' q => ?_
    rcases q with ⟨_, q1, q2⟩ | ⟨q, _⟩
    · have e : sortR (ovK awA awB awA.length) = awO := by kernel_rfl
      rw [e] at q1 q2
      exact ⟨q1, q2⟩
    · exact absurd aw1 q
  have b1 : CallsV Tryd.prog 18 [.slv 2 2 [.str (.mk #[97]), .str (.mk #[]), .str (.mk #[97, 47, 98]), .str (.mk #[])]] [] (fun av H' => av = .tuple [.agg [.nilsl], .int .i64 10] ∧ H' = []) := by
    have h := build_ne awC (by decide) awok.2.2 (by rw [aw3]; decide)
    rw [aw3] at h
    exact h
  have e1' := (show Reads [Blk.row 31 [AV.str (ByteArray.mk #[(97 : UInt8), (47 : UInt8), (120 : UInt8)]), AV.str (ByteArray.mk #[]), AV.str (ByteArray.mk #[(98 : UInt8)]), AV.str (ByteArray.mk #[(49 : UInt8)])], Blk.row 24 [AV.sl 0 0 2 2], Blk.row 31 [AV.str (ByteArray.mk #[(98 : UInt8)]), AV.str (ByteArray.mk #[(50 : UInt8)]), AV.str (ByteArray.mk #[(99 : UInt8), (47 : UInt8), (121 : UInt8)]), AV.str (ByteArray.mk #[])], Blk.row 24 [AV.sl 2 0 2 2]] [AV.agg [AV.sl 0 0 2 2], AV.agg [AV.sl 2 0 2 2]] [AV.agg [AV.slv 2 2 [AV.str (ByteArray.mk #[(97 : UInt8), (47 : UInt8), (120 : UInt8)]), AV.str (ByteArray.mk #[]), AV.str (ByteArray.mk #[(98 : UInt8)]), AV.str (ByteArray.mk #[(49 : UInt8)])]], AV.agg [AV.slv 2 2 [AV.str (ByteArray.mk #[(98 : UInt8)]), AV.str (ByteArray.mk #[(50 : UInt8)]), AV.str (ByteArray.mk #[(99 : UInt8), (47 : UInt8), (121 : UInt8)]), AV.str (ByteArray.mk #[])]]] from (Reads.cons (Reads1.val (by kernel_rfl)) (Reads.cons (Reads1.val (by kernel_rfl)) Reads.nil)))
  have e2' := o1
  have e3' := (show Reads [Blk.row 31 [AV.str (ByteArray.mk #[(97 : UInt8), (47 : UInt8), (120 : UInt8)]), AV.str (ByteArray.mk #[]), AV.str (ByteArray.mk #[(98 : UInt8)]), AV.str (ByteArray.mk #[(49 : UInt8)])], Blk.row 24 [AV.sl 0 0 2 2], Blk.row 31 [AV.str (ByteArray.mk #[(98 : UInt8)]), AV.str (ByteArray.mk #[(50 : UInt8)]), AV.str (ByteArray.mk #[(99 : UInt8), (47 : UInt8), (121 : UInt8)]), AV.str (ByteArray.mk #[])], Blk.row 24 [AV.sl 2 0 2 2], Blk.row 31 [AV.str (ByteArray.mk #[(97 : UInt8), (47 : UInt8), (120 : UInt8)]), AV.str (ByteArray.mk #[]), AV.str (ByteArray.mk #[(98 : UInt8)]), AV.str (ByteArray.mk #[(50 : UInt8)]), AV.str (ByteArray.mk #[(99 : UInt8), (47 : UInt8), (121 : UInt8)]), AV.str (ByteArray.mk #[])], Blk.row 24 [AV.sl 4 0 3 2], Blk.row 31 [AV.str (ByteArray.mk #[(97 : UInt8)]), AV.str (ByteArray.mk #[]), AV.str (ByteArray.mk #[(97 : UInt8), (47 : UInt8), (98 : UInt8)]), AV.str (ByteArray.mk #[])]] [AV.sl 6 0 2 2] [AV.slv 2 2 [AV.str (ByteArray.mk #[(97 : UInt8)]), AV.str (ByteArray.mk #[]), AV.str (ByteArray.mk #[(97 : UInt8), (47 : UInt8), (98 : UInt8)]), AV.str (ByteArray.mk #[])]] from (Reads.cons (Reads1.val (by kernel_rfl)) Reads.nil))
  have e4' := b1
  refine g_q [⟨15, [], .lend (rdOf e1') (avOf e2') (blOf e2') [false]⟩, ⟨25, [], .lend (rdOf e3') (avOf e4') (blOf e4') []⟩] [.sel [0]] Exit.ret (stOf 48 [(0, AV.bool true)] [Blk.row 31 [AV.str (ByteArray.mk #[(97 : UInt8), (47 : UInt8), (120 : UInt8)]), AV.str (ByteArray.mk #[]), AV.str (ByteArray.mk #[(98 : UInt8)]), AV.str (ByteArray.mk #[(49 : UInt8)])], Blk.row 24 [AV.sl 0 0 2 2], Blk.row 31 [AV.str (ByteArray.mk #[(98 : UInt8)]), AV.str (ByteArray.mk #[(50 : UInt8)]), AV.str (ByteArray.mk #[(99 : UInt8), (47 : UInt8), (121 : UInt8)]), AV.str (ByteArray.mk #[])], Blk.row 24 [AV.sl 2 0 2 2], Blk.row 31 [AV.str (ByteArray.mk #[(97 : UInt8), (47 : UInt8), (120 : UInt8)]), AV.str (ByteArray.mk #[]), AV.str (ByteArray.mk #[(98 : UInt8)]), AV.str (ByteArray.mk #[(50 : UInt8)]), AV.str (ByteArray.mk #[(99 : UInt8), (47 : UInt8), (121 : UInt8)]), AV.str (ByteArray.mk #[])], Blk.row 24 [AV.sl 4 0 3 2], Blk.row 31 [AV.str (ByteArray.mk #[(97 : UInt8)]), AV.str (ByteArray.mk #[]), AV.str (ByteArray.mk #[(97 : UInt8), (47 : UInt8), (98 : UInt8)]), AV.str (ByteArray.mk #[])], Blk.row 24 [AV.nilsl]]) (And.intro (show 1 ≤ 1 from (by omega)) (And.intro (show 1 ≤ 1 from (by omega)) (And.intro (show 1 ≤ 1 from (by omega)) (And.intro (show 1 ≤ 1 from (by omega)) (And.intro e1' (And.intro (show (novR (AV.tuple [AV.agg [AV.sl 0 0 3 2], AV.int .i64 (0 : Int)]) && [Blk.row 31 [AV.str (ByteArray.mk #[(97 : UInt8), (47 : UInt8), (120 : UInt8)]), AV.str (ByteArray.mk #[]), AV.str (ByteArray.mk #[(98 : UInt8)]), AV.str (ByteArray.mk #[(50 : UInt8)]), AV.str (ByteArray.mk #[(99 : UInt8), (47 : UInt8), (121 : UInt8)]), AV.str (ByteArray.mk #[])]].all novB) = true from (by kernel_rfl)) (And.intro e2' (And.intro (show 1 ≤ 1 from (by omega)) (And.intro e3' (And.intro (show (novR (AV.tuple [AV.agg [AV.nilsl], AV.int .i64 (10 : Int)]) && [].all novB) = true from (by kernel_rfl)) (And.intro e4' (And.intro (show 1 ≤ 1 from (by omega)) (And.intro (show 1 ≤ 1 from (by omega)) (And.intro (show 1 ≤ 1 from (by omega)) (And.intro (show (0 : Int) ≤ (1 : Int) ∧ (1 : Int) < (↑3 : Int) from (by omega)) (show 1 ≤ 3 from (by omega))))))))))))))))) ?_
  refine g_f [] [] (AV.bool true) ([]) trivial ?_
  exact ⟨rfl, rfl⟩
end Go.Proofs.YtjgpojglgfddiaaDoor
namespace Go.Proofs.YtjgpojglgfddiaaDoor
open Go Go.RowKit V
set_option linter.unusedSimpArgs false
set_option linter.unusedVariables false
set_option maxHeartbeats 20000000
structure Stp (l : List (Int × Int)) : Prop where
  len : l.length ≤ 9223372036854775807
  each : ∀ x ∈ l, (0 ≤ x.1 ∧ x.1 ≤ 255) ∧ 0 ≤ x.2 ∧ x.2 ≤ 255
abbrev stpV (l : List (Int × Int)) : AV := .slv l.length 2 (flatA encB l)
end Go.Proofs.YtjgpojglgfddiaaDoor
namespace Go.Proofs.YtjgpojglgfddiaaDoor
open Go Go.RowKit V
set_option linter.unusedSimpArgs false
set_option linter.unusedVariables false
set_option maxHeartbeats 20000000
def encBV (z : Int × Int) : List Value := [.int .u8 z.1, .int .u8 z.2]
theorem pairB : PairE encBV encB := fun _ => rfl
theorem encBV_ok : Enc encBV 2 := ⟨fun _ => rfl, fun x u hu => by simp [encBV] at hu; rcases hu with rfl | rfl <;> rfl, by omega⟩
set_option maxRecDepth 20000 in
theorem arg_steps {w : World} {v : Value} (h : Arg Tryd.prog w 25 v) : ∃ l : List (Int × Int), Rep pl0 w v (stpV l) ∧ Stp l := by
  obtain ⟨a, len, cap, rfl, h1, h2, h3, vs, h4, h5, h6⟩ := Arg.slice Tryd.underlying25 (ts := [5, 5]) (by kernel_rfl) (by kernel_rfl) (by decide) h
  have h4' : vs.length = len * 2 := h4
  obtain ⟨l, g1, rfl, g3⟩ := rows_of (enc := encBV) (size := 2) (fun z => (0 ≤ z.1 ∧ z.1 ≤ 255) ∧ (0 ≤ z.2 ∧ z.2 ≤ 255)) len vs h4' (fun i hi => by
    have a0 := h6 i hi 0 (by simp) (by simp only [List.length_cons, List.length_nil]; omega)
    have a1 := h6 i hi 1 (by simp) (by simp only [List.length_cons, List.length_nil]; omega)
    unfold Good at a0 a1
    simp only [List.getElem_cons_zero, List.getElem_cons_succ, Tryd.underlying5] at a0 a1
    obtain ⟨y, e0, hy⟩ := a0
    obtain ⟨z, e1, hz⟩ := a1
    refine ⟨(y, z), ?_, wf_u8 hy, wf_u8 hz⟩
    simp only [List.length_cons, List.length_nil, Nat.zero_add] at e0 e1
    rw [List.drop_eq_getElem_cons (by omega), List.drop_eq_getElem_cons (by omega), List.take_succ_cons, List.take_succ_cons, List.take_zero]
    exact congr (congrArg _ e0) (congrArg (fun x => [x]) e1))
  refine ⟨l, ?_, by unfold maxLen at h2; omega, g3⟩
  have := rep_of_rowV (p := pl0) pairB encBV_ok g1 h1 h3 h5 h2 (fun x _ => pl0_M _)
  rw [← g1] at this ⊢
  exact this
end Go.Proofs.YtjgpojglgfddiaaDoor
namespace Go.Proofs.YtjgpojglgfddiaaDoor
open Go Go.RowKit V
set_option linter.unusedSimpArgs false
set_option linter.unusedVariables false
set_option maxHeartbeats 20000000
theorem gtF_iff (l : List TE) (p : ByteArray) : (gtF l p).2 = true ↔ ∃ y ∈ l, y.1 = p := by
  rw [← gt_iff]
  unfold gtF
  split
  · rename_i h; exact ⟨fun _ => h, fun _ => rfl⟩
  · rename_i h; exact ⟨fun q => (by cases q), fun q => absurd q h⟩
theorem ovK_end (a b : List TE) : ovK a b a.length = b ++ a.filter fun x => !(gtF b x.1).2 := by
  unfold ovK; rw [List.take_length]
theorem bd_perm {l m : List TE} (hp : l.Perm m) (hd : Dst l) (hc : ∀ x ∈ l, cfF x = 0) : bdF l = bdF m ∧ sortR l = sortR m := by
  have hs : sortR l = sortR m := sort_eq (dst_perm hd hp) (sortR_srt hd) ((sortR_perm l).trans hp)
  refine ⟨?_, hs⟩
  by_cases h64 : 64 < l.length
  · unfold bdF
    rw [if_pos h64, if_pos (by rw [← hp.length_eq]; exact h64)]
  · have hf : Fine l := ⟨by omega, hc, hd⟩
    rw [fine_bd hf, fine_bd (hf.perm hp), clF_perm hp]
theorem ovK_dst {a b : List TE} (ha : Dst a) (hb : Dst b) : Dst (ovK a b a.length) := by
  rw [ovK_end]
  refine List.pairwise_append.2 ⟨hb, List.Pairwise.sublist List.filter_sublist ha, fun x hx y hy e => ?_⟩
  obtain ⟨_, h2⟩ := List.mem_filter.1 hy
  rw [Bool.not_eq_true', ← Bool.not_eq_true, gtF_iff] at h2
  exact h2 ⟨x, hx, e⟩
theorem ovK_each {a b : List TE} (ha : ∀ x ∈ a, cfF x = 0) (hb : ∀ x ∈ b, cfF x = 0) : ∀ x ∈ ovK a b a.length, cfF x = 0 := fun x hx => by
  rw [ovK_end] at hx
  rcases List.mem_append.1 hx with h | h
  · exact hb x h
  · exact ha x (List.mem_filter.1 h).1
theorem ov_ok {a b : List TE} (ha : ckF a = 0) (hb : ckF b = 0) (h : ovF a b = 0) : ovO a b = sortR (ovK a b a.length) ∧ ckF (ovO a b) = 0 := by
  have e : ovO a b = sortR (ovK a b a.length) := by unfold ovO; rw [if_pos h]
  refine ⟨e, ?_⟩
  rw [e]
  unfold ovF at h
  rw [if_pos ha, if_pos hb] at h
  obtain ⟨h1, h2⟩ := bd_fine h
  exact fine_ck (h1.perm (sortR_perm _).symm) (sortR_srt h1.dst) (by rw [clF_perm (sortR_perm _)]; exact h2)
/-- one over the other, over the third -/
theorem ov_assoc {a b c : List TE} (ha : ckF a = 0) (hb : ckF b = 0) (hc : ckF c = 0) (h1 : ovF a b = 0) (h2 : ovF b c = 0) : ovF (ovO a b) c = ovF a (ovO b c) ∧ ovO (ovO a b) c = ovO a (ovO b c) := by
  obtain ⟨e1, k1⟩ := ov_ok ha hb h1
  obtain ⟨e2, k2⟩ := ov_ok hb hc h2
  have fa := ck_fine ha
  have fb := ck_fine hb
  have fc := ck_fine hc
  have f1 := ck_fine k1
  have f2 := ck_fine k2
  have p1 : (ovO a b).Perm (b ++ a.filter fun x => !(gtF b x.1).2) := by rw [e1, ovK_end]; exact sortR_perm _
  have p2 : (ovO b c).Perm (c ++ b.filter fun x => !(gtF c x.1).2) := by rw [e2, ovK_end]; exact sortR_perm _
  have hbc : ∀ x : TE, (!(gtF (ovO b c) x.1).2) = ((!(gtF b x.1).2) && (!(gtF c x.1).2)) := fun x => by
    have hi : (gtF (ovO b c) x.1).2 = true ↔ ((gtF b x.1).2 = true ∨ (gtF c x.1).2 = true) := by
      rw [gtF_iff, gtF_iff, gtF_iff]
      constructor
      · rintro ⟨y, hy, e⟩
        rcases List.mem_append.1 (p2.mem_iff.1 hy) with h | h
        · exact .inr ⟨y, h, e⟩
        · exact .inl ⟨y, (List.mem_filter.1 h).1, e⟩
      · rintro (⟨y, hy, e⟩ | ⟨y, hy, e⟩)
        · by_cases hq : (gtF c y.1).2 = true
          · obtain ⟨z, hz, ez⟩ := (gtF_iff _ _).1 hq
            exact ⟨z, p2.mem_iff.2 (List.mem_append_left _ hz), ez.trans e⟩
          · exact ⟨y, p2.mem_iff.2 (List.mem_append_right _ (List.mem_filter.2 ⟨hy, by rw [Bool.not_eq_true', ← Bool.not_eq_true]; exact hq⟩)), e⟩
        · exact ⟨y, p2.mem_iff.2 (List.mem_append_left _ hy), e⟩
    cases g0 : (gtF (ovO b c) x.1).2 <;> cases g1 : (gtF b x.1).2 <;> cases g2 : (gtF c x.1).2 <;> rw [g0, g1, g2] at hi <;> simp at hi ⊢
  have hp : (ovK (ovO a b) c (ovO a b).length).Perm (ovK a (ovO b c) a.length) := by
    rw [ovK_end, ovK_end]
    refine (List.Perm.append_left c (p1.filter _)).trans ?_
    rw [List.filter_append, List.filter_filter]
    refine List.Perm.trans ?_ (List.Perm.append_right _ p2.symm)
    rw [List.append_assoc]
    refine List.Perm.append_left c (List.Perm.append_left _ ?_)
    rw [List.filter_congr (q := fun x => !(gtF (ovO b c) x.1).2) fun x _ => by rw [hbc x, Bool.and_comm]]
  have hd := ovK_dst f1.1.dst fc.1.dst
  have he := ovK_each f1.1.each fc.1.each
  obtain ⟨b1, b2⟩ := bd_perm hp hd he
  have eF : ovF (ovO a b) c = ovF a (ovO b c) := by
    unfold ovF
    rw [if_pos k1, if_pos hc, if_pos ha, if_pos k2, b1]
  refine ⟨eF, ?_⟩
  unfold ovO at b2 ⊢
  unfold ovO at eF
  rw [eF, b2]
theorem ovO_len (a b : List TE) : (ovO a b).length ≤ 64 := by
  unfold ovO
  split
  · rename_i h
    rw [sortR_len']
    unfold ovF at h
    split at h
    · split at h
      · exact bd_len h
      · rename_i q; exact absurd h q
    · rename_i q; exact absurd h q
  · exact Nat.zero_le _
end Go.Proofs.YtjgpojglgfddiaaDoor
namespace Go.Proofs.YtjgpojglgfddiaaDoor
open Go Go.RowKit V
set_option linter.unusedSimpArgs false
set_option linter.unusedVariables false
set_option maxHeartbeats 20000000
structure Raw (l : List TE) : Prop where
  len : l.length ≤ 9223372036854775807
  each : ∀ x ∈ l, x.1.size ≤ reachBytes ∧ x.2.size ≤ reachBytes
set_option maxRecDepth 20000 in
theorem raw_files {n : Nat} {x : AV} (h : ShB Tryd.prog reachBytes (n + 2) 22 x) : ∃ l : List TE, x = filesV l ∧ Raw l := by
  obtain ⟨l, h1, h2, _, h3⟩ := shB_slice (n := n + 1) (ts := [9, 9]) encT (fun x => x.1.size ≤ reachBytes ∧ x.2.size ≤ reachBytes) Tryd.underlying22 (by kernel_rfl) (fun c hc hs => by
    match c, hc with
    | [c0, c1], _ =>
      obtain ⟨s, f0, g0⟩ := shB_str Tryd.underlying9 (hs 0 (by simp))
      obtain ⟨t, f1, g1⟩ := shB_str Tryd.underlying9 (hs 1 (by simp))
      simp only [List.getD_cons_zero, List.getD_cons_succ] at f0 f1
      exact ⟨(s, t), by rw [f0, f1]; rfl, g0, g1⟩) h
  exact ⟨l, h1, h2, h3⟩
set_option maxRecDepth 20000 in
theorem arg_tree {w : World} {v : Value} (h : ArgB Tryd.prog reachBytes w 24 v) : ∃ l : List TE, Rep pl0 w v (treeV l) ∧ Raw l := by
  obtain ⟨xs, h1, h2, h3⟩ := argB_agg h (by kernel_rfl) (ts := [22]) (by kernel_rfl) (by kernel_rfl)
  match xs, h2 with
  | [x0], _ =>
    obtain ⟨l, e0, g⟩ := raw_files (n := 6) (h3 0 (by decide))
    simp only [List.getD_cons_zero] at e0
    rw [e0] at h1
    exact ⟨l, h1, g⟩
theorem fw_sum (l : List TE) (hr : ∀ x ∈ l, x.1.size ≤ reachBytes ∧ x.2.size ≤ reachBytes) : ∀ k, k ≤ l.length → k ≤ 12 → ∃ n : Nat, fwK l k = (n : Int) ∧ n ≤ k * 281474976710656 ∧ ∀ i, i < k → (l.getD i tD).1.size ≤ n ∧ (l.getD i tD).2.size ≤ n
  | 0, _, _ => ⟨0, rfl, Nat.zero_le _, fun i h => absurd h (Nat.not_lt_zero i)⟩
  | k + 1, h, h12 => by
    obtain ⟨n, e, h1, h2⟩ := fw_sum l hr k (by omega) (by omega)
    obtain ⟨r1, r2⟩ := hr _ (getD_mem (show k < l.length by omega))
    have hb : reachBytes = 140737488351232 := rfl
    rw [hb] at r1 r2
    refine ⟨n + ((l.getD k tD).1.size + (l.getD k tD).2.size), ?_, by omega, fun i hi => ?_⟩
    · show IntKind.i64.wrap (fwK l k + IntKind.i64.wrap (((l.getD k tD).1.size : Int) + ((l.getD k tD).2.size : Int))) = _
      rw [wrap_i64 (e := ((l.getD k tD).1.size : Int) + ((l.getD k tD).2.size : Int)) (by omega) (by omega), e, wrap_i64 (by omega) (by omega)]
      omega
    · rcases Nat.lt_succ_iff_lt_or_eq.1 hi with q | rfl
      · have := h2 i q; omega
      · omega
def fewB (l : List TE) : Bool := decide ((l.length : Int) ≤ 12) && decide (fwK l l.length ≤ 3000)
theorem few_ok {l : List TE} (hr : Raw l) (h : fewB l = true) : l.length ≤ 12 ∧ ∀ x ∈ l, OkT x := by
  unfold fewB at h
  rw [Bool.and_eq_true, decide_eq_true_eq, decide_eq_true_eq] at h
  have h12 : l.length ≤ 12 := by omega
  obtain ⟨n, e, h1, h2⟩ := fw_sum l hr.each l.length (Nat.le_refl _) h12
  refine ⟨h12, fun x hx => ?_⟩
  obtain ⟨i, hi, rfl⟩ := mem_getD hx
  have := h2 i hi
  have h3 := h.2
  rw [e] at h3
  unfold OkT
  omega
end Go.Proofs.YtjgpojglgfddiaaDoor
namespace Go.Proofs.YtjgpojglgfddiaaDoor
open Go Go.RowKit V
set_option linter.unusedSimpArgs false
set_option linter.unusedVariables false
set_option maxHeartbeats 20000000
theorem few_w (l : List TE) (h : Raw l) : CallsV Tryd.prog 11 [treeV l] [] (fun av H' => av = .bool (fewB l) ∧ H' = []) := few_v l h.1
end Go.Proofs.YtjgpojglgfddiaaDoor
namespace Go.Proofs.YtjgpojglgfddiaaDoor
open Go Go.RowKit V
set_option linter.unusedSimpArgs false
set_option linter.unusedVariables false
set_option maxHeartbeats 20000000
theorem overLaw (r s : List TE) (l m : List (Int × Int)) (hr : Raw r) (hs : Raw s) (hl : Stp l) (hm : Stp m) : CallsV Tryd.prog 7 [treeV r, treeV s, stpV l, stpV m] [] (fun av H' => av = .bool true ∧ H' = []) := by
  refine callsG_at Tryd.func7 (by kernel_rfl) ?_
  have aw := awake_v
  have fw := few_w r hr
  have fv := few_w s hs
  cases hf : fewB r with
  | false =>
    rw [hf] at fw
    have e1' := fw
    have e2' := aw
    refine g_q [⟨4, [], .call (avOf e1') (blOf e1') []⟩, ⟨12, [], .call (avOf e2') (blOf e2') []⟩] [.sel [8]] Exit.ret (stOf 75 [(8, AV.bool true)] [Blk.row 24 [AV.slv r.length 2 (flatA encT r)], Blk.row 24 [AV.slv s.length 2 (flatA encT s)]]) (And.intro (show 1 ≤ 1 from (by omega)) (And.intro e1' (And.intro (show true = false → false = true from (by decide)) e2'))) ?_
    refine g_f [] [] (AV.bool true) ([]) trivial ?_
    exact ⟨rfl, rfl⟩
  | true =>
    rw [hf] at fw
    obtain ⟨r12, rok⟩ := few_ok hr hf
    cases hg : fewB s with
    | false =>
      rw [hg] at fv
      have e1' := fw
      have e2' := fv
      have e3' := aw
      refine g_q [⟨4, [], .call (avOf e1') (blOf e1') []⟩, ⟨8, [], .call (avOf e2') (blOf e2') []⟩, ⟨12, [], .call (avOf e3') (blOf e3') []⟩] [.sel [8]] Exit.ret (stOf 75 [(8, AV.bool true)] [Blk.row 24 [AV.slv r.length 2 (flatA encT r)], Blk.row 24 [AV.slv s.length 2 (flatA encT s)]]) (And.intro (show 1 ≤ 1 from (by omega)) (And.intro e1' (And.intro (show 1 ≤ 1 from (by omega)) (And.intro e2' e3')))) ?_
      refine g_f [] [] (AV.bool true) ([]) trivial ?_
      exact ⟨rfl, rfl⟩
    | true =>
      rw [hg] at fv
      obtain ⟨s12, sok⟩ := few_ok hs hg
      have k1 := over_w r s (by omega) (by omega) rok sok
      have k2 := overR_w r s (by omega) (by omega) rok sok
      have t1 := tree_w l hl.1 hl.2
      have t2 := tree_w m hm.1 hm.2
      have n1 := trF_len l
      have n2 := trF_len m
      have o1 := trF_ok l
      have o2 := trF_ok m
      generalize trF l = a at *
      generalize trF m = b at *
      have k3 := over_w a b (by omega) (by omega) o1 o2
      have k4 := overR_w a b (by omega) (by omega) o1 o2
      have q1 := sameR (ovO r s) (by have := ovO_len r s; omega)
      have q2 := sameR (ovO a b) (by have := ovO_len a b; omega)
      generalize ovO r s = u at *
      generalize ovF r s = e at *
      generalize ovO a b = v at *
      generalize ovF a b = f at *
      clear rok sok o1 o2 hf hg
      have e1' := fw
      have e2' := fv
      have e3' := k1
      have e4' := k2
      have e5' := t1
      have e6' := t2
      have e7' := k3
      have e8' := k4
      have e9' := aw
      have e10' := q1
      have e11' := q2
      refine g_q [⟨4, [], .call (avOf e1') (blOf e1') []⟩, ⟨8, [], .call (avOf e2') (blOf e2') []⟩, ⟨14, [], .call (avOf e3') (blOf e3') []⟩, ⟨23, [], .call (avOf e4') (blOf e4') []⟩, ⟨31, [], .call (avOf e5') (blOf e5') []⟩, ⟨33, [], .call (avOf e6') (blOf e6') []⟩, ⟨34, [], .call (avOf e7') (blOf e7') []⟩, ⟨42, [], .call (avOf e5') (blOf e5') []⟩, ⟨44, [], .call (avOf e6') (blOf e6') []⟩, ⟨45, [], .call (avOf e8') (blOf e8') []⟩, ⟨52, [], .call (avOf e9') (blOf e9') []⟩, ⟨56, [], .call (avOf e10') (blOf e10') []⟩, ⟨64, [.tm 65 (.bool true)], .no⟩, ⟨66, [], .call (avOf e11') (blOf e11') []⟩] [.sel [8]] Exit.ret (stOf 75 [(8, AV.bool (bif true then f == f else false))] [Blk.row 24 [AV.slv r.length 2 (flatA encT r)], Blk.row 24 [AV.slv s.length 2 (flatA encT s)], Blk.row 24 [AV.slv u.length 2 (flatA encT u)], Blk.row 24 [AV.slv u.length 2 (flatA encT u)], Blk.row 24 [AV.slv v.length 2 (flatA encT v)], Blk.row 24 [AV.slv v.length 2 (flatA encT v)]]) (And.intro (show 1 ≤ 1 from (by omega)) (And.intro e1' (And.intro (show 1 ≤ 1 from (by omega)) (And.intro e2' (And.intro (show 1 ≤ 1 from (by omega)) (And.intro (show 1 ≤ 1 from (by omega)) (And.intro e3' (And.intro (show 1 ≤ 1 from (by omega)) (And.intro (show 1 ≤ 1 from (by omega)) (And.intro (show 1 ≤ 1 from (by omega)) (And.intro e4' (And.intro (show 1 ≤ 1 from (by omega)) (And.intro e5' (And.intro e6' (And.intro e7' (And.intro (show 1 ≤ 1 from (by omega)) (And.intro e5' (And.intro e6' (And.intro e8' (And.intro (show 1 ≤ 1 from (by omega)) (And.intro e9' (And.intro (show 1 ≤ 1 from (by omega)) (And.intro (show 1 ≤ 1 from (by omega)) (And.intro e10' (And.intro (congrArg AV.bool (show (bif true then e == e else false) = true from (by simp_all; done))) (And.intro (show 1 ≤ 1 from (by omega)) (And.intro (show 1 ≤ 1 from (by omega)) e11'))))))))))))))))))))))))))) ?_
      refine g_f [] [] (AV.bool (bif true then f == f else false)) ([]) trivial ?_
      exact ⟨by simp, rfl⟩
end Go.Proofs.YtjgpojglgfddiaaDoor
