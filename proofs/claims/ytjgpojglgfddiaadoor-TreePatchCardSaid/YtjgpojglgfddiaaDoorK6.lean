/-
  What the law leans on.
-/
import Derived.Test.YtjgpojglgfddiaaDoorK5
namespace Go.Proofs.YtjgpojglgfddiaaDoor
open Go Go.RowKit V
set_option linter.unusedSimpArgs false
set_option linter.unusedVariables false
set_option maxHeartbeats 20000000
theorem dst_sub {l m : List TE} (h : Dst m) (s : l.Sublist m) : Dst l := List.Pairwise.sublist s h
theorem sortR_len' (l : List TE) : (sortR l).length = l.length := (sortR_perm l).length_eq
theorem take_last (l : List TE) (n : Nat) (h : 0 < n) : (l.take n).getD (n - 1) tD = l.getD (n - 1) tD := by
  rw [List.getD_eq_getElem?_getD, List.getElem?_take_of_lt (by omega), ← List.getD_eq_getElem?_getD]
theorem drop_head (l : List TE) (n : Nat) : (l.drop n).getD 0 tD = l.getD n tD := by
  rw [List.getD_eq_getElem?_getD, List.getElem?_drop, Nat.add_zero, ← List.getD_eq_getElem?_getD]
theorem sym_v : ∀ (s : Nat) (A X Y B : List TE) (a m b N : Nat), X.length + Y.length ≤ s → 0 < X.length → 0 < Y.length → a = A.length → m = a + X.length → b = m + Y.length → N = b + B.length → N ≤ 1000 → Srt X → Srt Y → Dst (X ++ Y) → CallsV Tryd.prog 67 [.sl 0 0 N 2, .int .i64 (a : Int), .int .i64 (m : Int), .int .i64 (b : Int), soV] [.row 31 (flatA encT (A ++ (X ++ (Y ++ B))))] (fun av H' => av = .tuple [] ∧ H' = [.row 31 (flatA encT (A ++ (sortR (X ++ Y) ++ B)))])
  | 0, A, X, Y, B, a, m, b, N, hs, h1, h2, _, _, _, _, _, _, _, _ => by omega
  | s + 1, A, X, Y, B, a, m, b, N, hs, hx, hy, ha, hm, hb, hN, hd, sX, sY, hD => by
    by_cases h1 : X.length = 1
    · obtain ⟨x, rfl⟩ := List.length_eq_one_iff.1 h1
      exact sym_1 A x Y B a m b N ha hm hb hN hd hy sY hD
    · by_cases h2 : Y.length = 1
      · obtain ⟨y, rfl⟩ := List.length_eq_one_iff.1 h2
        exact sym_2 A X y B a m b N ha hm hb hN hd (by omega) sX hD
      · have hlen : (A ++ (X ++ (Y ++ B))).length = N := by simp; omega
        have main : ∀ (c n p t e lo hi : Nat), (a + b) / 2 = c → c + m = n → n = p + 1 → n = t + e → a ≤ t → t ≤ m → m ≤ e → e ≤ b →
            (lo < t → hcP (A ++ (X ++ (Y ++ B))) a m b c n p (t - 1) = true) → (t < hi → hcP (A ++ (X ++ (Y ++ B))) a m b c n p t = false) → (t ≤ lo → a = t ∨ e = b) → (hi ≤ t → t = m ∨ e = m) →
            ∃ d1 d2, ((t < m ∧ m < e ∧ CallsV Tryd.prog 75 [.sl 0 0 N 2, .int .i64 (t : Int), .int .i64 (m : Int), .int .i64 (e : Int), soV] [.row 31 (flatA encT (A ++ (X ++ (Y ++ B))))] (fun av H' => av = .tuple [] ∧ H' = [.row 31 (flatA encT d1)])) ∨ ((m ≤ t ∨ e ≤ m) ∧ (A ++ (X ++ (Y ++ B))) = d1)) ∧
              ((a < t ∧ t < c ∧ CallsV Tryd.prog 67 [.sl 0 0 N 2, .int .i64 (a : Int), .int .i64 (t : Int), .int .i64 (c : Int), soV] [.row 31 (flatA encT d1)] (fun av H' => av = .tuple [] ∧ H' = [.row 31 (flatA encT d2)])) ∨ ((t ≤ a ∨ c ≤ t) ∧ d1 = d2)) ∧
              ((c < e ∧ e < b ∧ CallsV Tryd.prog 67 [.sl 0 0 N 2, .int .i64 (c : Int), .int .i64 (e : Int), .int .i64 (b : Int), soV] [.row 31 (flatA encT d2)] (fun av H' => av = .tuple [] ∧ H' = [.row 31 (flatA encT (A ++ (sortR (X ++ Y) ++ B)))])) ∨ ((e ≤ c ∨ b ≤ e) ∧ d2 = A ++ (sortR (X ++ Y) ++ B))) := by
          intro c n p t e lo hi hc hn hp he t1 t2 e1 e2 s3 s4 s5 s6
          have eX : X.take (t - a) ++ X.drop (t - a) = X := List.take_append_drop _ _
          have eY : Y.take (e - m) ++ Y.drop (e - m) = Y := List.take_append_drop _ _
          have lX1 : (X.take (t - a)).length = t - a := by rw [List.length_take]; omega
          have lX2 : (X.drop (t - a)).length = m - t := by rw [List.length_drop]; omega
          have lY1 : (Y.take (e - m)).length = e - m := by rw [List.length_take]; omega
          have lY2 : (Y.drop (e - m)).length = b - e := by rw [List.length_drop]; omega
          have gX : ∀ i, i < X.length → (A ++ (X ++ (Y ++ B))).getD (a + i) tD = X.getD i tD := fun i hi => by rw [ha]; exact getD_mid A X _ i hi
          have gY : ∀ i, i < Y.length → (A ++ (X ++ (Y ++ B))).getD (m + i) tD = Y.getD i tD := fun i hi => by
            rw [← List.append_assoc, show m = (A ++ X).length by rw [List.length_append]; omega]
            exact getD_mid _ Y B i hi
          -- the two conditions
          have c1 : Y.take (e - m) ≠ [] → X.drop (t - a) ≠ [] → ltE ((Y.take (e - m)).getD ((Y.take (e - m)).length - 1) tD) ((X.drop (t - a)).getD 0 tD) = true := fun n1 n2 => by
            have n1 := List.length_pos_iff.2 n1
            have n2 := List.length_pos_iff.2 n2
            rw [lY1] at n1 ⊢
            rw [lX2] at n2
            have hlt : t < hi := by
              rcases Nat.lt_or_ge t hi with q | q
              · exact q
              · have := s6 q; omega
            have := s4 hlt
            unfold hcP at this
            rw [Bool.not_eq_false', show p - t = m + (e - m - 1) by omega, gY _ (by omega)] at this
            have g2 := gX (t - a) (by omega)
            rw [show a + (t - a) = t by omega] at g2
            rw [g2] at this
            rw [take_last _ _ n1, drop_head]
            exact this
          have c2 : X.take (t - a) ≠ [] → Y.drop (e - m) ≠ [] → ltE ((X.take (t - a)).getD ((X.take (t - a)).length - 1) tD) ((Y.drop (e - m)).getD 0 tD) = true := fun n1 n2 => by
            have n1 := List.length_pos_iff.2 n1
            have n2 := List.length_pos_iff.2 n2
            rw [lX1] at n1 ⊢
            rw [lY2] at n2
            have hlt : lo < t := by
              rcases Nat.lt_or_ge lo t with q | q
              · exact q
              · have := s5 q; omega
            have := s3 hlt
            unfold hcP at this
            have g1 := gX (t - 1 - a) (by omega)
            rw [show a + (t - 1 - a) = t - 1 by omega] at g1
            rw [Bool.not_eq_true', show p - (t - 1) = m + (e - m) by omega, gY _ (by omega), g1] at this
            rw [take_last _ _ n1, drop_head, show t - a - 1 = t - 1 - a by omega]
            refine ltE_tri this fun he2 => ?_
            have m1 : X.getD (t - 1 - a) tD ∈ X := by rw [List.getD_eq_getElem?_getD, List.getElem?_eq_getElem (by omega)]; exact List.getElem_mem _
            have m2 : Y.getD (e - m) tD ∈ Y := by rw [List.getD_eq_getElem?_getD, List.getElem?_eq_getElem (by omega)]; exact List.getElem_mem _
            exact (List.pairwise_append.1 hD).2.2 _ m1 _ m2 he2.symm
          have four := four_eq (X1 := X.take (t - a)) (X2 := X.drop (t - a)) (Y1 := Y.take (e - m)) (Y2 := Y.drop (e - m)) (by rw [eX]; exact sX) (by rw [eY]; exact sY) (by rw [eX, eY]; exact hD) c1 c2
          rw [eX, eY] at four
          have sX1 : Srt (X.take (t - a)) := List.Pairwise.sublist (List.take_sublist _ _) sX
          have sX2 : Srt (X.drop (t - a)) := List.Pairwise.sublist (List.drop_sublist _ _) sX
          have sY1 : Srt (Y.take (e - m)) := List.Pairwise.sublist (List.take_sublist _ _) sY
          have sY2 : Srt (Y.drop (e - m)) := List.Pairwise.sublist (List.drop_sublist _ _) sY
          have D1 : Dst (X.take (t - a) ++ Y.take (e - m)) := dst_sub hD (List.Sublist.append (List.take_sublist _ _) (List.take_sublist _ _))
          have D2 : Dst (X.drop (t - a) ++ Y.drop (e - m)) := dst_sub hD (List.Sublist.append (List.drop_sublist _ _) (List.drop_sublist _ _))
          rw [← four]
          rw [show A ++ (X ++ (Y ++ B)) = A ++ ((X.take (t - a) ++ X.drop (t - a)) ++ ((Y.take (e - m) ++ Y.drop (e - m)) ++ B)) by rw [eX, eY]]
          clear four c1 c2 gX gY s3 s4 s5 s6 hlen eX eY
          generalize X.take (t - a) = X1 at *
          generalize X.drop (t - a) = X2 at *
          generalize Y.take (e - m) = Y1 at *
          generalize Y.drop (e - m) = Y2 at *
          refine ⟨A ++ (X1 ++ (Y1 ++ (X2 ++ (Y2 ++ B)))), A ++ (sortR (X1 ++ Y1) ++ (X2 ++ (Y2 ++ B))), ?_, ?_, ?_⟩
          · by_cases h : t < m ∧ m < e
            · refine .inl ⟨h.1, h.2, ?_⟩
              have := rot_v (A ++ X1) X2 Y1 (Y2 ++ B) t m e N (by simp; omega) (by simp; omega) (by simp; omega) (by simp; omega) hd (by omega) (by omega)
              simp only [List.append_assoc] at this ⊢
              exact this
            · refine .inr ⟨by omega, ?_⟩
              rcases Nat.lt_or_ge t m with q | q
              · have : Y1 = [] := List.length_eq_zero_iff.1 (by omega)
                subst this; simp
              · have : X2 = [] := List.length_eq_zero_iff.1 (by omega)
                subst this; simp
          · by_cases h : a < t ∧ t < c
            · refine .inl ⟨h.1, h.2, ?_⟩
              exact sym_v s A X1 Y1 (X2 ++ (Y2 ++ B)) a t c N (by omega) (by omega) (by omega) ha (by omega) (by omega) (by simp; omega) hd sX1 sY1 D1
            · refine .inr ⟨by omega, ?_⟩
              have : sortR (X1 ++ Y1) = X1 ++ Y1 := by
                rcases Nat.lt_or_ge a t with q | q
                · have : Y1 = [] := List.length_eq_zero_iff.1 (by omega)
                  subst this; rw [List.append_nil]; exact srt_sortR sX1
                · have : X1 = [] := List.length_eq_zero_iff.1 (by omega)
                  subst this; rw [List.nil_append]; exact srt_sortR sY1
              rw [this]; simp
          · have l1 : (sortR (X1 ++ Y1)).length = t - a + (e - m) := by rw [sortR_len']; simp; omega
            by_cases h : c < e ∧ e < b
            · refine .inl ⟨h.1, h.2, ?_⟩
              have := sym_v s (A ++ sortR (X1 ++ Y1)) X2 Y2 B c e b N (by omega) (by omega) (by omega) (by simp; omega) (by omega) (by omega) hN hd sX2 sY2 D2
              simp only [List.append_assoc] at this ⊢
              exact this
            · refine .inr ⟨by omega, ?_⟩
              have : sortR (X2 ++ Y2) = X2 ++ Y2 := by
                rcases Nat.lt_or_ge e b with q | q
                · have : X2 = [] := List.length_eq_zero_iff.1 (by omega)
                  subst this; rw [List.nil_append]; exact srt_sortR sY2
                · have : Y2 = [] := List.length_eq_zero_iff.1 (by omega)
                  subst this; rw [List.append_nil]; exact srt_sortR sX2
              rw [this]; simp
        rcases Nat.lt_or_ge ((a + b) / 2) m with hcm | hcm
        · have lo := hc_loop N (A ++ (X ++ (Y ++ B))) a m b ((a + b) / 2) ((a + b) / 2 + m) ((a + b) / 2 + m - 1) ((a + b) / 2 + m - b) ((a + b) / 2) ((a + b) / 2 + m - b) ((a + b) / 2) hlen hd (Nat.le_refl _) (by omega) (Nat.le_refl _) (by omega) (by omega) (by omega) (by omega)
          obtain ⟨s1, s2, s3, s4⟩ := bsF_spec (hcP (A ++ (X ++ (Y ++ B))) a m b ((a + b) / 2) ((a + b) / 2 + m) ((a + b) / 2 + m - 1)) ((a + b) / 2 + m - b) ((a + b) / 2) _ ((a + b) / 2 + m - b) ((a + b) / 2) (Nat.le_refl _) (Nat.le_refl _) (by omega) (Nat.le_refl _) (by omega) (by omega)
          generalize bsF (hcP (A ++ (X ++ (Y ++ B))) a m b ((a + b) / 2) ((a + b) / 2 + m) ((a + b) / 2 + m - 1)) ((a + b) / 2 + m - b) ((a + b) / 2) = t at *
          obtain ⟨d1, d2, q1, q2, q3⟩ := main _ _ _ t ((a + b) / 2 + m - t) _ _ rfl rfl (by omega) (by omega) (by omega) (by omega) (by omega) (by omega) s3 s4 (by omega) (by omega)
          exact sym_goA (A ++ (X ++ (Y ++ B))) d1 d2 _ a m b ((a + b) / 2) ((a + b) / 2 + m) ((a + b) / 2 + m - 1) ((a + b) / 2 + m - b) t ((a + b) / 2 + m - t) N (by omega) (by omega) rfl rfl (by omega) (by omega) (by omega) (by omega) hd hcm (by omega) (by omega) (by omega) (by omega) lo q1 q2 q3
        · have lo := hc_loop N (A ++ (X ++ (Y ++ B))) a m b ((a + b) / 2) ((a + b) / 2 + m) ((a + b) / 2 + m - 1) a m a m hlen hd (Nat.le_refl _) (by omega) (Nat.le_refl _) (by omega) (by omega) (by omega) (by omega)
          obtain ⟨s1, s2, s3, s4⟩ := bsF_spec (hcP (A ++ (X ++ (Y ++ B))) a m b ((a + b) / 2) ((a + b) / 2 + m) ((a + b) / 2 + m - 1)) a m _ a m (Nat.le_refl _) (Nat.le_refl _) (by omega) (Nat.le_refl _) (by omega) (by omega)
          generalize bsF (hcP (A ++ (X ++ (Y ++ B))) a m b ((a + b) / 2) ((a + b) / 2 + m) ((a + b) / 2 + m - 1)) a m = t at *
          obtain ⟨d1, d2, q1, q2, q3⟩ := main _ _ _ t ((a + b) / 2 + m - t) _ _ rfl rfl (by omega) (by omega) (by omega) (by omega) (by omega) (by omega) s3 s4 (by omega) (by omega)
          exact sym_goB (A ++ (X ++ (Y ++ B))) d1 d2 _ a m b ((a + b) / 2) ((a + b) / 2 + m) ((a + b) / 2 + m - 1) 0 t ((a + b) / 2 + m - t) N (by omega) (by omega) rfl rfl (by omega) (by omega) (by omega) hd hcm (by omega) (by omega) (by omega) (by omega) lo q1 q2 q3
end Go.Proofs.YtjgpojglgfddiaaDoor
namespace Go.Proofs.YtjgpojglgfddiaaDoor
open Go Go.RowKit V
set_option linter.unusedSimpArgs false
set_option linter.unusedVariables false
set_option maxHeartbeats 20000000
/-- the first j blocks, each sorted -/
def pre (k : Nat) : Nat → List TE → List TE
  | 0, _ => []
  | j + 1, d => pre k j d ++ sortR ((d.drop (j * k)).take k)
/-- all blocks, each sorted -/
def fin (k : Nat) (d : List TE) : List TE := pre k (d.length / k) d ++ sortR (d.drop (d.length / k * k))
theorem pre_len (k : Nat) (d : List TE) : ∀ j, j * k ≤ d.length → (pre k j d).length = j * k
  | 0, _ => by simp [pre]
  | j + 1, h => by
    have e : (j + 1) * k = j * k + k := Nat.succ_mul j k
    have ih := pre_len k d j (by omega)
    show (pre k j d ++ sortR ((d.drop (j * k)).take k)).length = _
    rw [List.length_append, ih, sortR_len', List.length_take, List.length_drop]; omega
theorem pre_shift (k : Nat) (d : List TE) : ∀ j, pre k (j + 1) d = sortR (d.take k) ++ pre k j (d.drop k)
  | 0 => by simp [pre]
  | j + 1 => by
    show pre k (j + 1) d ++ sortR ((d.drop ((j + 1) * k)).take k) = _ ++ (pre k j (d.drop k) ++ sortR (((d.drop k).drop (j * k)).take k))
    rw [pre_shift k d j, List.drop_drop, show (j + 1) * k = k + j * k by rw [Nat.succ_mul]; omega, List.append_assoc]
theorem fin_one (k : Nat) (d : List TE) (hk : 0 < k) (h : k ≤ d.length) : fin k d = sortR (d.take k) ++ fin k (d.drop k) := by
  unfold fin
  have e : d.length / k = (d.length - k) / k + 1 := by
    rw [← Nat.add_div_right _ hk, Nat.sub_add_cancel h]
  rw [List.length_drop, e, pre_shift, List.drop_drop, Nat.succ_mul, Nat.add_comm _ k, List.append_assoc]
theorem fin_lt (k : Nat) (d : List TE) (h : d.length < k) : fin k d = sortR d := by
  unfold fin
  rw [Nat.div_eq_of_lt h]
  simp [pre]
theorem fin_le (k : Nat) (d : List TE) (hk : 0 < k) (h : d.length ≤ k) : fin k d = sortR d := by
  rcases Nat.lt_or_ge d.length k with q | q
  · exact fin_lt k d q
  · rw [fin_one k d hk q, List.take_of_length_le h, List.drop_of_length_le h, fin_lt k [] (by simpa using hk)]
    show sortR d ++ [] = _
    rw [List.append_nil]
theorem fin_two (k : Nat) (d : List TE) (hk : 0 < k) (h : k + k ≤ d.length) : fin k d = sortR (d.take k) ++ (sortR ((d.drop k).take k) ++ fin k (d.drop (k + k))) := by
  rw [fin_one k d hk (by omega), fin_one k (d.drop k) hk (by rw [List.length_drop]; omega), List.drop_drop]
theorem fin_tail (k : Nat) (d : List TE) (hk : 0 < k) (h : k < d.length) (h2 : d.length < k + k) : fin k d = sortR (d.take k) ++ sortR (d.drop k) := by
  rw [fin_one k d hk (by omega), fin_lt k (d.drop k) (by rw [List.length_drop]; omega)]
theorem fin_len (k : Nat) (d : List TE) (hk : 0 < k) : (fin k d).length = d.length := by
  unfold fin
  have h : d.length / k * k ≤ d.length := Nat.div_mul_le_self _ _
  rw [List.length_append, pre_len k d _ h, sortR_len', List.length_drop]; omega
theorem sort_two {X Y : List TE} (hd : Dst (X ++ Y)) : sortR (sortR X ++ sortR Y) = sortR (X ++ Y) := by
  have hp : (sortR X ++ sortR Y).Perm (X ++ Y) := (sortR_perm _).append (sortR_perm _)
  exact sort_eq hd (sortR_srt (dst_perm hd hp.symm)) ((sortR_perm _).trans hp)
theorem sort_ins {L : List TE} (hd : Dst L) : insN L (L.length - 1) = sortR L := by
  rcases Nat.eq_zero_or_pos L.length with h | h
  · have := List.length_eq_zero_iff.1 h
    subst this; rfl
  · exact insN_end hd h
def t0S (n : Nat) (x : List TE) (a b : Nat) : St := stOf 63 [(0, .sl 0 0 n 2), (1, .int .i64 (n : Int)), (2, soV), (6, .int .i64 20), (7, .int .i64 (a : Int)), (8, .int .i64 (b : Int))] [.row 31 (flatA encT x)]
def t0X (n : Nat) (x : List TE) (a : Nat) : St := stOf 63 [(0, .sl 0 0 n 2), (1, .int .i64 (n : Int)), (2, soV), (6, .int .i64 20), (7, .int .i64 (a : Int))] [.row 31 (flatA encT x)]
theorem t0_step (n : Nat) (x y : List TE) (a b c : Nat) (hn : n ≤ 1000) (h : b ≤ n) (hc : c = b + 20) (ins : CallsV Tryd.prog 66 [.sl 0 0 n 2, .int .i64 (a : Int), .int .i64 (b : Int), soV] [.row 31 (flatA encT x)] (fun av H' => av = .tuple [] ∧ H' = [.row 31 (flatA encT y)])) : GoV Tryd.prog 1 (loopB Tryd.f59 0) (isX .normal (t0S n y b c)) (t0S n x a b) := by
  subst hc
  unfold t0S
  have e1' := ins
  have e2' := (congrArg (fun z => AV.int .i64 z) (wrap_i64 (e := (↑b : Int) + (20 : Int)) (by omega) (by omega)))
  exact g_x [⟨3, [], .br true .no⟩, ⟨8, [], .callS [0] [true] (avOf e1') (blOf e1') [true]⟩, ⟨13, [], .as (rhsOf e2')⟩] [.sel [0, 1, 2, 6, 7, 8]] (And.intro (show decide ((↑b : Int) ≤ (↑n : Int)) = true from (by rw [decide_eq_true_iff]; omega)) (And.intro (show ∀ (x_1 : AV), x_1 ∈ flatA encT x → noid0 x_1 = true from encT_noid x) (And.intro (show ∀ (x : AV), x ∈ flatA encT y → noid0 x = true from encT_noid y) (And.intro e1' e2'))))
theorem t0_end (n : Nat) (x : List TE) (a b : Nat) (h : n < b) : GoV Tryd.prog 1 (loopB Tryd.f59 0) (isX (.exit 0) (t0X n x a)) (t0S n x a b) := by
  unfold t0S t0X
  exact g_x [⟨3, [], .br false .no⟩] [.sel [0, 1, 2, 6, 7]] (show decide ((↑b : Int) ≤ (↑n : Int)) = false from (by rw [decide_eq_false_iff_not]; omega))
theorem t0_loop (d : List TE) (n : Nat) (hn : d.length = n) (hd : n ≤ 1000) (hD : Dst d) : LoopG Tryd.prog 1 Tryd.f59 0 (.exit 0) (t0X n (pre 20 (n / 20) d ++ d.drop (n / 20 * 20)) (n / 20 * 20)) (t0S n d 0 20) := by
  refine loopG_of (n / 20) (fun j => t0S n (pre 20 j d ++ d.drop (j * 20)) (j * 20) (j * 20 + 20)) (by simp [pre]) (by simp) ?_ ?_
  · intro j hj
    have hl := pre_len 20 d j (by omega)
    have e : pre 20 j d ++ d.drop (j * 20) = pre 20 j d ++ ((d.drop (j * 20)).take 20 ++ d.drop (j * 20 + 20)) := by
      rw [← List.drop_drop, List.take_append_drop]
    have l2 : ((d.drop (j * 20)).take 20).length = 20 := by rw [List.length_take, List.length_drop]; omega
    have hD2 : Dst ((d.drop (j * 20)).take 20) := dst_sub hD ((List.take_sublist _ _).trans (List.drop_sublist _ _))
    have ins := ins_v (pre 20 j d) ((d.drop (j * 20)).take 20) (d.drop (j * 20 + 20)) (j * 20) (j * 20 + 20) n (by omega) (by omega) (by rw [← e, List.length_append, hl, List.length_drop]; omega) hd
    rw [sort_ins hD2, ← e] at ins
    have e2 : pre 20 (j + 1) d ++ d.drop ((j + 1) * 20) = pre 20 j d ++ (sortR ((d.drop (j * 20)).take 20) ++ d.drop (j * 20 + 20)) := by
      show (pre 20 j d ++ sortR ((d.drop (j * 20)).take 20)) ++ d.drop ((j + 1) * 20) = _
      rw [show (j + 1) * 20 = j * 20 + 20 by omega, List.append_assoc]
    rw [e2, show (j + 1) * 20 = j * 20 + 20 by omega]
    exact t0_step n _ _ _ _ _ hd (by omega) rfl ins
  · exact t0_end n _ _ _ (by omega)
def t1S (n : Nat) (x : List TE) (k : Nat) : St := stOf 63 [(0, .sl 0 0 n 2), (1, .int .i64 (n : Int)), (2, soV), (6, .int .i64 (k : Int))] [.row 31 (flatA encT x)]
def t2S (n : Nat) (x : List TE) (k a b : Nat) : St := stOf 63 [(0, .sl 0 0 n 2), (1, .int .i64 (n : Int)), (2, soV), (6, .int .i64 (k : Int)), (7, .int .i64 (a : Int)), (8, .int .i64 (b : Int))] [.row 31 (flatA encT x)]
def t2X (n : Nat) (x : List TE) (k a : Nat) : St := stOf 63 [(0, .sl 0 0 n 2), (1, .int .i64 (n : Int)), (2, soV), (6, .int .i64 (k : Int)), (7, .int .i64 (a : Int))] [.row 31 (flatA encT x)]
theorem t2_step (n : Nat) (x y : List TE) (k a m b c : Nat) (hn : n ≤ 1000) (hk : k ≤ 1000) (h : b ≤ n) (hm : m = a + k) (hmb : m ≤ b) (hc : c = b + (k + k)) (sy : CallsV Tryd.prog 67 [.sl 0 0 n 2, .int .i64 (a : Int), .int .i64 (m : Int), .int .i64 (b : Int), soV] [.row 31 (flatA encT x)] (fun av H' => av = .tuple [] ∧ H' = [.row 31 (flatA encT y)])) : GoV Tryd.prog 1 (loopB Tryd.f59 2) (isX .normal (t2S n y k b c)) (t2S n x k a b) := by
  have e1 : (a : Int) + (k : Int) = (m : Int) := by omega
  have e2 : 2 * (k : Int) = ((k + k : Nat) : Int) := by omega
  have e3 : (b : Int) + ((k + k : Nat) : Int) = (c : Int) := by omega
  have b1 : c ≤ 3000 := by omega
  have b2 : ((k + k : Nat) : Int) ≤ 2000 := by omega
  unfold t2S
  generalize k + k = q at *
  clear hc hm
  have e1' := (Eq.trans (congrArg (fun z => AV.int .i64 (IntKind.i64.wrap z)) e1) (congrArg (fun z => AV.int .i64 z) (wrap_i64 (e := (↑m : Int)) (by omega) (by omega))))
  have e2' := sy
  have e3' := (Eq.trans (congrArg (fun z => AV.int .i64 (IntKind.i64.wrap z)) e2) (congrArg (fun z => AV.int .i64 z) (wrap_i64 (e := (↑q : Int)) (by omega) (by omega))))
  have e4' := (Eq.trans (congrArg (fun z => AV.int .i64 (IntKind.i64.wrap z)) e3) (congrArg (fun z => AV.int .i64 z) (wrap_i64 (e := (↑c : Int)) (by omega) (by omega))))
  exact g_x [⟨3, [], .br true .no⟩, ⟨8, [], .as (rhsOf e1')⟩, ⟨11, [], .callS [0] [true] (avOf e2') (blOf e2') [true]⟩, ⟨16, [], .as (rhsOf e3')⟩, ⟨17, [], .as (rhsOf e4')⟩] [.sel [0, 1, 2, 6, 7, 8]] (And.intro (show decide ((↑b : Int) ≤ (↑n : Int)) = true from (by rw [decide_eq_true_iff]; omega)) (And.intro e1' (And.intro (show ∀ (x_1 : AV), x_1 ∈ flatA encT x → noid0 x_1 = true from encT_noid x) (And.intro (show ∀ (x : AV), x ∈ flatA encT y → noid0 x = true from encT_noid y) (And.intro e2' (And.intro e3' e4'))))))
theorem t2_end (n : Nat) (x : List TE) (k a b : Nat) (h : n < b) : GoV Tryd.prog 1 (loopB Tryd.f59 2) (isX (.exit 4) (t2X n x k a)) (t2S n x k a b) := by
  unfold t2S t2X
  exact g_x [⟨3, [], .br false .no⟩] [.sel [0, 1, 2, 6, 7]] (show decide ((↑b : Int) ≤ (↑n : Int)) = false from (by rw [decide_eq_false_iff_not]; omega))
theorem t2_loop (d : List TE) (n k : Nat) (hn : d.length = n) (hd : n ≤ 1000) (hk : k ≤ 1000) (h0 : 0 < k) (hD : Dst d) : LoopG Tryd.prog 1 Tryd.f59 2 (.exit 4) (t2X n (pre (k + k) (n / (k + k)) d ++ fin k (d.drop (n / (k + k) * (k + k)))) k (n / (k + k) * (k + k))) (t2S n (fin k d) k 0 (k + k)) := by
  refine loopG_of (n / (k + k)) (fun j => t2S n (pre (k + k) j d ++ fin k (d.drop (j * (k + k)))) k (j * (k + k)) (j * (k + k) + (k + k))) (by simp [pre]) (by simp) ?_ ?_
  · intro j hj
    have hjn : (j + 1) * (k + k) ≤ n := by
      have h1 : n / (k + k) * (k + k) ≤ n := Nat.div_mul_le_self _ _
      have h2 : (j + 1) * (k + k) ≤ n / (k + k) * (k + k) := Nat.mul_le_mul_right _ hj
      omega
    rw [Nat.succ_mul] at hjn
    have hl := pre_len (k + k) d j (by omega)
    have ld : (d.drop (j * (k + k))).length = n - j * (k + k) := by rw [List.length_drop]; omega
    have two := fin_two k (d.drop (j * (k + k))) h0 (by omega)
    have hD1 : Dst (d.drop (j * (k + k))) := dst_sub hD (List.drop_sublist _ _)
    have tk : (d.drop (j * (k + k))).take k ++ ((d.drop (j * (k + k))).drop k).take k = (d.drop (j * (k + k))).take (k + k) := by
      rw [List.take_add]
    have hD2 : Dst ((d.drop (j * (k + k))).take k ++ ((d.drop (j * (k + k))).drop k).take k) := by
      rw [tk]; exact dst_sub hD1 (List.take_sublist _ _)
    have l1 : ((d.drop (j * (k + k))).take k).length = k := by rw [List.length_take]; omega
    have l2 : (((d.drop (j * (k + k))).drop k).take k).length = k := by rw [List.length_take, List.length_drop]; omega
    have st := sort_two hD2
    have hp : (sortR ((d.drop (j * (k + k))).take k) ++ sortR (((d.drop (j * (k + k))).drop k).take k)).Perm ((d.drop (j * (k + k))).take k ++ ((d.drop (j * (k + k))).drop k).take k) := (sortR_perm _).append (sortR_perm _)
    have sy := sym_v _ (pre (k + k) j d) (sortR ((d.drop (j * (k + k))).take k)) (sortR (((d.drop (j * (k + k))).drop k).take k)) (fin k ((d.drop (j * (k + k))).drop (k + k))) (j * (k + k)) (j * (k + k) + k) (j * (k + k) + (k + k)) n (Nat.le_refl _) (by rw [sortR_len']; omega) (by rw [sortR_len']; omega) hl.symm (by rw [sortR_len', l1]) (by rw [sortR_len', l2]; omega) (by rw [fin_len k _ h0, List.length_drop]; omega) hd (sortR_srt (List.pairwise_append.1 hD2).1) (sortR_srt (List.pairwise_append.1 hD2).2.1) (dst_perm hD2 hp.symm)
    rw [st, tk, ← two, List.drop_drop] at sy
    have e2 : pre (k + k) (j + 1) d ++ fin k (d.drop ((j + 1) * (k + k))) = pre (k + k) j d ++ (sortR ((d.drop (j * (k + k))).take (k + k)) ++ fin k (d.drop (j * (k + k) + (k + k)))) := by
      show (pre (k + k) j d ++ sortR ((d.drop (j * (k + k))).take (k + k))) ++ _ = _
      rw [Nat.succ_mul, List.append_assoc]
    rw [e2, Nat.succ_mul]
    exact t2_step n _ _ k _ _ _ _ hd hk (by omega) rfl (by omega) rfl sy
  · refine t2_end n _ _ _ _ ?_
    have := Nat.lt_div_mul_add (a := n) (b := k + k) (by omega)
    exact this
theorem t1_go (n k q : Nat) (x y z : List TE) (hn : n ≤ 1000) (hk : k < n) (hq : q ≤ n)
    (lo : LoopG Tryd.prog 1 Tryd.f59 2 (.exit 4) (t2X n y k q) (t2S n x k 0 (k + k)))
    (h : (q + k < n ∧ CallsV Tryd.prog 67 [.sl 0 0 n 2, .int .i64 (q : Int), .int .i64 ((q + k : Nat) : Int), .int .i64 (n : Int), soV] [.row 31 (flatA encT y)] (fun av H' => av = .tuple [] ∧ H' = [.row 31 (flatA encT z)])) ∨ (n ≤ q + k ∧ y = z)) : GoV Tryd.prog 1 (loopB Tryd.f59 1) (isX .normal (t1S n z (k + k))) (t1S n x k) := by
  have e1 : (q : Int) + (k : Int) = ((q + k : Nat) : Int) := by omega
  have e2 : 2 * (k : Int) = ((k + k : Nat) : Int) := by omega
  have e3 : (k : Int) * 2 = ((k + k : Nat) : Int) := by omega
  have b1 : ((q + k : Nat) : Int) ≤ 2000 := by omega
  have b2 : ((k + k : Nat) : Int) ≤ 2000 := by omega
  unfold t2X t2S at lo
  unfold t1S
  generalize hkk : k + k = kk at *
  generalize hqk : q + k = m at *
  rcases h with ⟨h1, h⟩ | ⟨h1, rfl⟩
  · skip
    have e1' := (Eq.trans (congrArg (fun z => AV.int .i64 (IntKind.i64.wrap z)) e2) (congrArg (fun z => AV.int .i64 z) (wrap_i64 (e := (↑kk : Int)) (by omega) (by omega))))
    have e2' := lo
    have e3' := (Eq.trans (congrArg (fun z => AV.int .i64 (IntKind.i64.wrap z)) e1) (congrArg (fun z => AV.int .i64 z) (wrap_i64 (e := (↑m : Int)) (by omega) (by omega))))
    have e4' := h
    have e5' := (Eq.trans (congrArg (fun z => AV.int .i64 (IntKind.i64.wrap z)) e3) (congrArg (fun z => AV.int .i64 z) (wrap_i64 (e := (↑kk : Int)) (by omega) (by omega))))
    exact g_x [⟨3, [], .br true .no⟩, ⟨5, [], .as (rhsOf e1')⟩, ⟨8, [.sel [0, 1, 2, 6, 7, 8]], .loop (exOf e2') (endOf e2')⟩, ⟨11, [], .as (rhsOf e3')⟩, ⟨16, [], .br true .no⟩, ⟨22, [], .callS [0] [true] (avOf e4') (blOf e4') [true]⟩, ⟨24, [], .as (rhsOf e5')⟩] [.sel [0, 1, 2, 6]] (And.intro (show decide ((↑k : Int) < (↑n : Int)) = true from (by rw [decide_eq_true_iff]; omega)) (And.intro e1' (And.intro e2' (And.intro e3' (And.intro (show decide ((↑m : Int) < (↑n : Int)) = true from (by rw [decide_eq_true_iff]; omega)) (And.intro (show ∀ (x : AV), x ∈ flatA encT y → noid0 x = true from encT_noid y) (And.intro (show ∀ (x : AV), x ∈ flatA encT z → noid0 x = true from encT_noid z) (And.intro e4' e5'))))))))
  · skip
    have e1' := (Eq.trans (congrArg (fun z => AV.int .i64 (IntKind.i64.wrap z)) e2) (congrArg (fun z => AV.int .i64 z) (wrap_i64 (e := (↑kk : Int)) (by omega) (by omega))))
    have e2' := lo
    have e3' := (Eq.trans (congrArg (fun z => AV.int .i64 (IntKind.i64.wrap z)) e1) (congrArg (fun z => AV.int .i64 z) (wrap_i64 (e := (↑m : Int)) (by omega) (by omega))))
    have e4' := (Eq.trans (congrArg (fun z => AV.int .i64 (IntKind.i64.wrap z)) e3) (congrArg (fun z => AV.int .i64 z) (wrap_i64 (e := (↑kk : Int)) (by omega) (by omega))))
    exact g_x [⟨3, [], .br true .no⟩, ⟨5, [], .as (rhsOf e1')⟩, ⟨8, [.sel [0, 1, 2, 6, 7, 8]], .loop (exOf e2') (endOf e2')⟩, ⟨11, [], .as (rhsOf e3')⟩, ⟨16, [], .br false .no⟩, ⟨18, [], .as (rhsOf e4')⟩] [.sel [0, 1, 2, 6]] (And.intro (show decide ((↑k : Int) < (↑n : Int)) = true from (by rw [decide_eq_true_iff]; omega)) (And.intro e1' (And.intro e2' (And.intro e3' (And.intro (show decide ((↑m : Int) < (↑n : Int)) = false from (by rw [decide_eq_false_iff_not]; omega)) e4')))))
theorem t1_step (d : List TE) (n k : Nat) (hn : d.length = n) (hd : n ≤ 1000) (hk : k < n) (h0 : 0 < k) (hD : Dst d) : GoV Tryd.prog 1 (loopB Tryd.f59 1) (isX .normal (t1S n (fin (k + k) d) (k + k))) (t1S n (fin k d) k) := by
  have h1 : n / (k + k) * (k + k) ≤ n := Nat.div_mul_le_self _ _
  have h2 : n < n / (k + k) * (k + k) + (k + k) := Nat.lt_div_mul_add (a := n) (b := k + k) (by omega)
  have lo := t2_loop d n k hn hd (by omega) h0 hD
  have e : fin (k + k) d = pre (k + k) (n / (k + k)) d ++ sortR (d.drop (n / (k + k) * (k + k))) := by unfold fin; rw [hn]
  have hl := pre_len (k + k) d (n / (k + k)) (by omega)
  have hD1 : Dst (d.drop (n / (k + k) * (k + k))) := dst_sub hD (List.drop_sublist _ _)
  have ld : (d.drop (n / (k + k) * (k + k))).length = n - n / (k + k) * (k + k) := by rw [List.length_drop]; omega
  refine t1_go n k _ _ _ _ hd hk h1 lo ?_
  rw [e]
  generalize pre (k + k) (n / (k + k)) d = P at *
  generalize d.drop (n / (k + k) * (k + k)) = R at *
  generalize n / (k + k) * (k + k) = q at *
  rcases Nat.lt_or_ge (q + k) n with h | h
  · refine .inl ⟨h, ?_⟩
    rw [fin_tail k R h0 (by omega) (by omega)]
    have hD2 : Dst (R.take k ++ R.drop k) := by rw [List.take_append_drop]; exact hD1
    have l1 : (R.take k).length = k := by rw [List.length_take]; omega
    have hp : (sortR (R.take k) ++ sortR (R.drop k)).Perm (R.take k ++ R.drop k) := (sortR_perm _).append (sortR_perm _)
    have sy := sym_v _ P (sortR (R.take k)) (sortR (R.drop k)) [] q (q + k) n n (Nat.le_refl _) (by rw [sortR_len']; omega) (by rw [sortR_len', List.length_drop]; omega) hl.symm (by rw [sortR_len', l1]) (by rw [sortR_len', List.length_drop]; omega) (by simp) hd (sortR_srt (List.pairwise_append.1 hD2).1) (sortR_srt (List.pairwise_append.1 hD2).2.1) (dst_perm hD2 hp.symm)
    rw [sort_two hD2, List.take_append_drop, List.append_nil, List.append_nil] at sy
    exact sy
  · exact .inr ⟨h, by rw [fin_le k R h0 (by omega)]⟩
theorem t1_end (n : Nat) (x : List TE) (k : Nat) (h : n ≤ k) : GoV Tryd.prog 1 (loopB Tryd.f59 1) (isX (.exit 2) (stOf 63 [] [.row 31 (flatA encT x)])) (t1S n x k) := by
  unfold t1S
  exact g_x [⟨3, [], .br false .no⟩] [.sel []] (show decide ((↑k : Int) < (↑n : Int)) = false from (by rw [decide_eq_false_iff_not]; omega))
theorem t1_loop (d : List TE) (n : Nat) (hn : d.length = n) (hd : n ≤ 1000) (hD : Dst d) : LoopG Tryd.prog 1 Tryd.f59 1 (.exit 2) (stOf 63 [] [.row 31 (flatA encT (sortR d))]) (t1S n (fin 20 d) 20) := by
  refine loopG_inv n (fun m s => ∃ k, 0 < k ∧ n ≤ m + k ∧ s = t1S n (fin k d) k) ⟨20, by omega, by omega, rfl⟩ (by simp) ?_
  rintro m _ ⟨k, h0, h1, rfl⟩
  rcases Nat.lt_or_ge k n with q | q
  · refine (t1_step d n k hn hd q h0 hD).mono ?_
    rintro _ _ ⟨rfl, rfl⟩
    exact .inl ⟨rfl, m - k, by omega, k + k, by omega, by omega, rfl⟩
  · rw [fin_le k d h0 (by omega)]
    refine (t1_end n _ k q).mono ?_
    rintro _ _ ⟨rfl, rfl⟩
    exact .inr ⟨rfl, rfl⟩
theorem stable_v (d : List TE) (n : Nat) (hn : d.length = n) (hd : n ≤ 1000) (hD : Dst d) : CallsV Tryd.prog 59 [.sl 0 0 n 2, .int .i64 (n : Int), soV] [.row 31 (flatA encT d)] (fun av H' => av = .tuple [] ∧ H' = [.row 31 (flatA encT (sortR d))]) := by
  refine callsG_at Tryd.func59 (by kernel_rfl) ?_
  have lo := t0_loop d n hn hd hD
  have ins : CallsV Tryd.prog 66 [.sl 0 0 n 2, .int .i64 ((n / 20 * 20 : Nat) : Int), .int .i64 (n : Int), soV] [.row 31 (flatA encT (pre 20 (n / 20) d ++ d.drop (n / 20 * 20)))] (fun av H' => av = .tuple [] ∧ H' = [.row 31 (flatA encT (fin 20 d))]) := by
    have hl := pre_len 20 d (n / 20) (by omega)
    have := ins_v (pre 20 (n / 20) d) (d.drop (n / 20 * 20)) [] (n / 20 * 20) n n (by omega) (by rw [List.length_drop]; omega) (by simp; omega) hd
    rw [sort_ins (dst_sub hD (List.drop_sublist _ _)), List.append_nil, List.append_nil] at this
    unfold fin
    rw [hn]
    exact this
  have lo1 := t1_loop d n hn hd hD
  unfold t1S at lo1
  unfold t0S t0X at lo
  have hq : n / 20 * 20 ≤ n := by omega
  generalize n / 20 * 20 = q at *
  generalize pre 20 (n / 20) d ++ d.drop q = x at *
  have e1' := lo
  have e2' := ins
  have e3' := lo1
  refine g_q [⟨4, [.sel [0, 1, 2, 6, 7, 8]], .loop (exOf e1') (endOf e1')⟩, ⟨9, [], .callS [0] [true] (avOf e2') (blOf e2') [true]⟩, ⟨10, [.sel [0, 1, 2, 6]], .loop (exOf e3') (endOf e3')⟩] [] Exit.normal (stOf 63 [] [Blk.row 31 (flatA encT (sortR d))]) (And.intro e1' (And.intro (show ∀ (x_1 : AV), x_1 ∈ flatA encT x → noid0 x_1 = true from encT_noid x) (And.intro (show ∀ (x : AV), x ∈ flatA encT (fin 20 d) → noid0 x = true from encT_noid (fin 20 d)) (And.intro e2' e3')))) ?_
  refine g_finn ?_
  refine g_f [0] [true] (AV.tuple []) ([Blk.row 31 (flatA encT (sortR d))]) (show ∀ (x : AV), x ∈ flatA encT (sortR d) → noid0 x = true from encT_noid (sortR d)) ?_
  exact ⟨rfl, rfl⟩
theorem sortS_v (d : List TE) (hd : d.length ≤ 1000) (hD : Dst d) : CallsV Tryd.prog 51 [.sl 0 0 d.length 2, soV] [.row 31 (flatA encT d)] (fun av H' => av = .tuple [] ∧ H' = [.row 31 (flatA encT (sortR d))]) := by
  refine callsG_at Tryd.func51 (by kernel_rfl) ?_
  have st := stable_v d d.length rfl hd hD
  have e1' := st
  refine g_q [⟨4, [], .callS [0] [true] (avOf e1') (blOf e1') [true]⟩] [.sel []] Exit.normal (stOf 9 [] [Blk.row 31 (flatA encT (sortR d))]) (And.intro (show ∀ (x : AV), x ∈ flatA encT d → noid0 x = true from encT_noid d) (And.intro (show ∀ (x : AV), x ∈ flatA encT (sortR d) → noid0 x = true from encT_noid (sortR d)) e1')) ?_
  refine g_finn ?_
  refine g_f [0] [true] (AV.tuple []) ([Blk.row 31 (flatA encT (sortR d))]) (show ∀ (x : AV), x ∈ flatA encT (sortR d) → noid0 x = true from encT_noid (sortR d)) ?_
  exact ⟨rfl, rfl⟩
end Go.Proofs.YtjgpojglgfddiaaDoor
namespace Go.Proofs.YtjgpojglgfddiaaDoor
open Go Go.RowKit V
set_option linter.unusedSimpArgs false
set_option linter.unusedVariables false
set_option maxHeartbeats 20000000
theorem callsV_ownNil {P : Program} {f : FuncId} {args : List AV} {t : TypeId} {sz : Nat} (h : CallsV P f args [] fun a b => (a = .nilsl ∧ b = []) ∨ (a = .sl 0 0 0 sz ∧ b = [.row t []])) (hsz : 0 < sz) : CallsV P f args [] fun a b => a = .sl 0 0 0 sz ∧ b = [.row t []] := fun p w vals hH hv =>
  (h p w vals hH hv).mono fun e w' ⟨v, av, H', p', h1, h2, h3, h4, h5⟩ => by
    rcases h2 with ⟨rfl, rfl⟩ | ⟨rfl, rfl⟩
    · obtain ⟨p2, k1, k2, k3, k4⟩ := own_nil h3 t
      have k3 : p2.n = 1 := k3
      refine ⟨v, _, _, p2, h1, ⟨rfl, rfl⟩, k1, ?_, h5.trans k2⟩
      rw [rep_nilsl h4]
      exact ⟨by omega, fun q hq => by rw [k4 q hq]; exact ⟨none, 0, rfl, Nat.le_refl _, Nat.zero_le _, hsz, fun _ => rfl, Or.inl rfl⟩⟩
    · exact ⟨v, _, _, p', h1, ⟨rfl, rfl⟩, h3, h4, h5⟩
theorem clone0_v : CallsV Tryd.prog 41 [.slv 0 2 []] [] (fun av H' => (av = .nilsl ∧ H' = []) ∨ (av = .sl 0 0 0 2 ∧ H' = [.row 31 []])) := by
  refine callsV_at Tryd.func41 (by kernel_rfl) ?_
  refine q_seq (by kernel_rfl) ?_
  refine q_run True [0, 2, 4] (stOf 8 [(0, AV.slv (nat_lit 0) (nat_lit 2) []), (2, AV.nilsl)] []) (by kernel_rfl) (by kernel_rfl) (by kernel_rfl) (by kernel_rfl) trivial ?_
  refine k_then ?_
  refine q_seq (by kernel_rfl) ?_
  refine q_seq (by kernel_rfl) ?_
  refine q_reg (by kernel_rfl) ?_
  refine n_run 1 (True) [1] (stOf 8 [(0, AV.slv (nat_lit 0) (nat_lit 2) []), (2, AV.nilsl), (3, AV.slv (nat_lit 0) (nat_lit 2) [])] []) (by kernel_rfl) (by kernel_rfl) trivial ?_
  refine n_nilq 22 (Operand.tmp (3 : Nat)) (Operand.const (Value.slice none (0 : Nat) (0 : Nat))) true (nat_lit 0) (nat_lit 2) ([]) (by kernel_rfl) (by kernel_rfl) (by kernel_rfl) (by kernel_rfl) (by kernel_rfl) (fun b1_1 hb1_1 => ?_)
  refine n_sel [0, 2, 4] (stOf 8 [(0, AV.slv (nat_lit 0) (nat_lit 2) []), (2, AV.nilsl), (4, AV.bool b1_1)] []) (by kernel_rfl) (n_done ?_)
  refine k_then ?_
  refine q_cond (by kernel_rfl) (b1_1) (by kernel_rfl) (fun h1 => ?_) (fun h1 => ?_)
  · refine q_seq (by kernel_rfl) ?_
    refine q_run True [0, 2, 4] (stOf 8 [(0, AV.slv (nat_lit 0) (nat_lit 2) []), (2, AV.nilsl), (4, AV.bool b1_1)] []) (by kernel_rfl) (by kernel_rfl) (by kernel_rfl) (by kernel_rfl) trivial ?_
    refine k_then ?_
    refine q_ret (by kernel_rfl) ?_
    refine k_thenr ?_
    refine k_fin (True) (AV.nilsl) [] [] (AV.nilsl) (by kernel_rfl) (by kernel_rfl) (by kernel_rfl) trivial (keep_nil _) ?_
    exact .inl ⟨rfl, rfl⟩
  · refine q_skip (by kernel_rfl) ?_
    refine k_then ?_
    refine q_seq (by kernel_rfl) ?_
    refine q_ev (noX_ok _) 400 [0, 2, 4] Exit.normal (stOf 8 [(0, AV.slv (nat_lit 0) (nat_lit 2) []), (2, AV.sl (1 : Nat) (nat_lit 0) (nat_lit 0) (nat_lit 2)), (4, AV.bool b1_1)] [Blk.dead, Blk.row (nat_lit 31) []]) (by kernel_rfl) ?_
    refine k_then ?_
    refine q_ret (by kernel_rfl) ?_
    exact k_fin True (.sl 1 0 0 2) [1] [.row 31 []] (.sl 0 0 0 2) (by kernel_rfl) (by kernel_rfl) (by kernel_rfl) trivial (keep_row 1 31 _ rfl (by simp)) (.inr ⟨rfl, rfl⟩)
theorem clone_a (l : List TE) (hl : l.length ≤ 1000) : CallsV Tryd.prog 41 [filesV l] [] (fun av H' => av = .sl 0 0 l.length 2 ∧ H' = [.row 31 (flatA encT l)]) := by
  cases l with
  | nil => exact callsV_ownNil clone0_v (by omega)
  | cons x xs => exact clone_v x xs (by simp at hl; omega)
theorem sorted_v (l : List TE) (hl : l.length ≤ 1000) (hD : Dst l) : CallsV Tryd.prog 40 [filesV l] [] (fun av H' => av = .sl 0 0 (sortR l).length 2 ∧ H' = [.row 31 (flatA encT (sortR l))]) := by
  refine callsG_at Tryd.func40 (by kernel_rfl) ?_
  have cl := clone_a l hl
  have so := sortS_v l hl hD
  have h1 := encT_noid l
  have h2 := encT_noid (sortR l)
  have h3 := encT_plain l
  have h4 := encT_lend l
  rw [sortR_len' l]
  generalize sortR l = m at *
  have e1' := cl
  have e2' := so
  refine g_q [⟨2, [], .call (avOf e1') (blOf e1') [true]⟩, ⟨5, [], .callS [0] [true] (avOf e2') (blOf e2') [true]⟩] [.sel [2]] Exit.ret (stOf 9 [(2, AV.sl 0 0 l.length 2)] [Blk.row 31 (flatA encT m)]) (And.intro (show ∀ (x : AV), x ∈ flatA encT l → plain0 x = true from h3) (And.intro e1' (And.intro (show ∀ (x : AV), x ∈ flatA encT l → noid0 x = true from h1) (And.intro (show ∀ (x : AV), x ∈ flatA encT m → noid0 x = true from h2) e2')))) ?_
  refine g_f [0] [true] (AV.sl 0 0 l.length 2) ([Blk.row 31 (flatA encT m)]) (show ∀ (x : AV), x ∈ flatA encT m → noid0 x = true from h2) ?_
  exact ⟨rfl, rfl⟩
end Go.Proofs.YtjgpojglgfddiaaDoor
namespace Go.Proofs.YtjgpojglgfddiaaDoor
open Go Go.RowKit V
set_option linter.unusedSimpArgs false
set_option linter.unusedVariables false
set_option maxHeartbeats 20000000
def bvS (l : List TE) (i : Nat) : St := stOf 43 [(0, filesV l), (2, .ptr 0 0), (12, filesV l), (13, .int .i64 (l.length : Int)), (14, .int .i64 (i : Int))] [.row 24 [.nilsl]]
def bvR (e : Int) : St := stOf 43 [(2, .ptr 0 0), (3, .int .i64 e)] [.row 24 [.nilsl]]
theorem bv_find (l : List TE) (p : ByteArray) (i : Nat) (hl : l.length ≤ 1000) (hi : i < l.length) : CallsV Tryd.prog 39 [.slv i 2 ((flatA encT l).take (i * 2)), .str p] [] (fun av H' => av = .int .i64 (if gtI (l.take i) p < (l.take i).length then (gtI (l.take i) p : Int) else -1) ∧ H' = []) := by
  have h := find_v (l.take i) p (by rw [List.length_take]; omega)
  have e : (l.take i).length = i := by rw [List.length_take]; omega
  unfold filesV at h
  rw [← flatA_take encT_l] at h
  rw [e] at h ⊢
  exact h
theorem bv_round (l : List TE) (hl : l.length ≤ 1000) (hok : ∀ x ∈ l, OkT x) (i : Nat) (hi : i < l.length) : (bvE l i = 0 → GoV Tryd.prog 0 (loopB Tryd.f18 0) (isX .normal (bvS l (i + 1))) (bvS l i)) ∧ (bvE l i ≠ 0 → GoV Tryd.prog 0 (loopB Tryd.f18 0) (isX .ret (bvR (bvE l i))) (bvS l i)) := by
  have at1 : (flatA encT l).drop ((i : Int).toNat * 2) = AV.str (l.getD i tD).1 :: AV.str (l.getD i tD).2 :: flatA encT (l.drop (i + 1)) := encT_at l i hi
  have cf := checkFile_v (l.getD i tD) (hok _ (getD_mem' hi tD))
  have fd := bv_find l (l.getD i tD).1 i hl hi
  unfold bvE
  generalize l.getD i tD = x at *
  by_cases hc : cfF x = 0
  · rw [if_pos hc]
    rw [hc] at cf
    by_cases hg : gtI (l.take i) x.1 < (l.take i).length
    · rw [if_pos hg]
      rw [if_pos hg] at fd
      refine ⟨fun h => absurd h (by decide), fun _ => ?_⟩
      generalize gtI (l.take i) x.1 = g at *
      unfold bvS bvR
      unfold encT at cf
      have e1' := (congrArg (fun z => AV.fptr z) at1)
      have e2' := cf
      have e3' := fd
      exact g_x [⟨1, [], .br true .no⟩, ⟨3, [], .as (rhsOf e1')⟩, ⟨9, [], .call (avOf e2') (blOf e2') []⟩, ⟨19, [], .call (avOf e3') (blOf e3') []⟩] [.sel [2, 3], .keep [0] [false]] (And.intro (show decide ((↑i : Int) < (↑l.length : Int)) = true from (by rw [decide_eq_true_iff]; omega)) (And.intro (show (0 : Int) ≤ (↑i : Int) ∧ (↑i : Int) < (↑l.length : Int) from (by omega)) (And.intro e1' (And.intro (show 2 ≤ (AV.str x.fst :: AV.str x.snd :: flatA encT (List.drop (i + 1) l)).length from (by exact Nat.le_of_ble_eq_true (by kernel_rfl))) (And.intro (show 2 ≤ 2 from (by omega)) (And.intro (show 2 ≤ 2 from (by omega)) (And.intro e2' (And.intro (show (0 : Int) ≤ (0 : Int) ∧ (0 : Int) ≤ (↑i : Int) ∧ (↑i : Int) ≤ (↑l.length : Int) from (by omega)) (And.intro (show 1 ≤ 2 from (by omega)) (And.intro e3' (show 1 ≤ 1 from (by omega))))))))))))
    · rw [if_neg hg]
      rw [if_neg hg] at fd
      refine ⟨fun _ => ?_, fun h => absurd rfl h⟩
      unfold bvS
      unfold encT at cf
      have e1' := (congrArg (fun z => AV.fptr z) at1)
      have e2' := cf
      have e3' := fd
      have e4' := (congrArg (fun z => AV.int .i64 z) (wrap_i64 (e := (↑i : Int) + (1 : Int)) (by omega) (by omega)))
      exact g_x [⟨1, [], .br true .no⟩, ⟨3, [], .as (rhsOf e1')⟩, ⟨9, [], .call (avOf e2') (blOf e2') []⟩, ⟨19, [], .call (avOf e3') (blOf e3') []⟩, ⟨22, [], .as (rhsOf e4')⟩] [.sel [0, 2, 12, 13, 14], .keep [0] [false]] (And.intro (show decide ((↑i : Int) < (↑l.length : Int)) = true from (by rw [decide_eq_true_iff]; omega)) (And.intro (show (0 : Int) ≤ (↑i : Int) ∧ (↑i : Int) < (↑l.length : Int) from (by omega)) (And.intro e1' (And.intro (show 2 ≤ (AV.str x.fst :: AV.str x.snd :: flatA encT (List.drop (i + 1) l)).length from (by exact Nat.le_of_ble_eq_true (by kernel_rfl))) (And.intro (show 2 ≤ 2 from (by omega)) (And.intro (show 2 ≤ 2 from (by omega)) (And.intro e2' (And.intro (show (0 : Int) ≤ (0 : Int) ∧ (0 : Int) ≤ (↑i : Int) ∧ (↑i : Int) ≤ (↑l.length : Int) from (by omega)) (And.intro (show 1 ≤ 2 from (by omega)) (And.intro e3' e4'))))))))))
  · rw [if_neg hc]
    refine ⟨fun h => absurd h hc, fun _ => ?_⟩
    have hq : (cfF x == 0) = false := beq_eq_false_iff_ne.2 hc
    generalize cfF x = e at *
    unfold bvS bvR
    unfold encT at cf
    have e1' := (congrArg (fun z => AV.fptr z) at1)
    have e2' := cf
    exact g_x [⟨1, [], .br true .no⟩, ⟨3, [], .as (rhsOf e1')⟩, ⟨9, [], .call (avOf e2') (blOf e2') []⟩, ⟨13, [], .br true .no⟩] [.sel [2, 3], .keep [0] [false]] (And.intro (show decide ((↑i : Int) < (↑l.length : Int)) = true from (by rw [decide_eq_true_iff]; omega)) (And.intro (show (0 : Int) ≤ (↑i : Int) ∧ (↑i : Int) < (↑l.length : Int) from (by omega)) (And.intro e1' (And.intro (show 2 ≤ (AV.str x.fst :: AV.str x.snd :: flatA encT (List.drop (i + 1) l)).length from (by exact Nat.le_of_ble_eq_true (by kernel_rfl))) (And.intro (show 2 ≤ 2 from (by omega)) (And.intro (show 2 ≤ 2 from (by omega)) (And.intro e2' (And.intro (show (e != (0 : Int)) = true from (by simp_all; done)) (show 1 ≤ 1 from (by omega))))))))))
theorem build_v (l : List TE) (hl : l.length ≤ 1000) (hok : ∀ x ∈ l, OkT x) : CallsV Tryd.prog 18 [filesV l] [] (fun av H' => (bdF l = 0 ∧ av = .tuple [.agg [.sl 0 0 (sortR l).length 2], .int .i64 0] ∧ H' = [.row 31 (flatA encT (sortR l))]) ∨ (bdF l ≠ 0 ∧ av = .tuple [.agg [.nilsl], .int .i64 (bdF l)] ∧ H' = [])) := by
  refine callsG_at Tryd.func18 (by kernel_rfl) ?_
  by_cases h64 : 64 < l.length
  · unfold bdF
    rw [if_pos h64]
    refine g_q [⟨5, [], .br true .no⟩] [.sel [2, 3]] Exit.ret (stOf 43 [(2, AV.ptr 0 0), (3, AV.int .i64 (2 : Int))] [Blk.row 24 [AV.nilsl]]) (And.intro (show decide ((↑l.length : Int) > (64 : Int)) = true from (by rw [decide_eq_true_iff]; omega)) (show 1 ≤ 1 from (by omega))) ?_
    refine g_f [] [] (AV.tuple [AV.agg [AV.nilsl], AV.int .i64 (2 : Int)]) ([]) (show 1 ≤ 1 from (by omega)) ?_
    exact .inr ⟨by decide, rfl, rfl⟩
  · have eq : ∀ i, i ≤ bdM l → i ≤ l.length → Dst (l.take i) := fun i h1 h2 => by
      rcases bdM_or l with ⟨_, k2⟩ | ⟨_, k2, _⟩
      · exact (bd_dst i h2 fun j hj => k2 j (by omega)).1
      · exact (bd_dst i h2 fun j hj => k2 j (by omega)).1
    rcases bdM_or l with ⟨h1, h2⟩ | ⟨h1, h2, h3⟩
    · have hL : LoopG Tryd.prog 0 Tryd.f18 0 (.exit 0) (stOf 43 [(0, filesV l), (2, .ptr 0 0)] [.row 24 [.nilsl]]) (bvS l 0) := by
        refine loopG_of l.length (fun i => bvS l i) rfl (by simp) (fun i hi => (bv_round l hl hok i hi).1 (by rw [bd_iff (eq i (by omega) (by omega))]; exact h2 i hi)) ?_
        unfold bvS
        exact g_x [⟨1, [], .br false .no⟩] [.sel [0, 2]] (show decide ((↑l.length : Int) < (↑l.length : Int)) = false from (by rw [decide_eq_false_iff_not]; omega))
      have cl := clash_v l hl hok
      have so := sorted_v l hl (by have := eq l.length (by omega) (Nat.le_refl _); rwa [List.take_length] at this)
      have hb : bdF l = bif clF l then 0 else 10 := by
        unfold bdF
        rw [if_neg h64, if_neg (by omega), clF_perm (sortR_perm l)]
      rw [hb]
      unfold bvS at hL
      generalize sortR l = o at *
      cases hc : clF l with
      | true =>
        rw [hc] at cl
        have e1' := hL
        have e2' := cl
        have e3' := so
        refine g_q [⟨5, [], .br false .no⟩, ⟨9, [.sel [0, 2, 12, 13, 14]], .loop (exOf e1') (endOf e1')⟩, ⟨11, [], .call (avOf e2') (blOf e2') []⟩, ⟨17, [], .call (avOf e3') (blOf e3') [true]⟩] [.sel [2, 3]] Exit.ret (stOf 43 [(2, AV.ptr 0 0), (3, AV.int .i64 (0 : Int))] [Blk.row 24 [AV.sl 1 0 o.length 2], Blk.row 31 (flatA encT o)]) (And.intro (show decide ((↑l.length : Int) > (64 : Int)) = false from (by rw [decide_eq_false_iff_not]; omega)) (And.intro e1' (And.intro e2' (And.intro (show ∀ (x : AV), x ∈ flatA encT o → plain0 x = true from encT_plain o) (And.intro e3' (show 1 ≤ 1 from (by omega))))))) ?_
        refine g_f [1] [true] (AV.tuple [AV.agg [AV.sl 0 0 o.length 2], AV.int .i64 (0 : Int)]) ([Blk.row 31 (flatA encT o)]) (And.intro (show 1 ≤ 1 from (by omega)) (show ∀ (x : AV), x ∈ flatA encT o → noid0 x = true from encT_noid o)) ?_
        exact .inl ⟨rfl, rfl, rfl⟩
      | false =>
        rw [hc] at cl
        have e1' := hL
        have e2' := cl
        refine g_q [⟨5, [], .br false .no⟩, ⟨9, [.sel [0, 2, 12, 13, 14]], .loop (exOf e1') (endOf e1')⟩, ⟨11, [], .call (avOf e2') (blOf e2') []⟩] [.sel [2, 3]] Exit.ret (stOf 43 [(2, AV.ptr 0 0), (3, AV.int .i64 (10 : Int))] [Blk.row 24 [AV.nilsl]]) (And.intro (show decide ((↑l.length : Int) > (64 : Int)) = false from (by rw [decide_eq_false_iff_not]; omega)) (And.intro e1' (And.intro e2' (show 1 ≤ 1 from (by omega))))) ?_
        refine g_f [] [] (AV.tuple [AV.agg [AV.nilsl], AV.int .i64 (10 : Int)]) ([]) (show 1 ≤ 1 from (by omega)) ?_
        exact .inr ⟨by decide, rfl, rfl⟩
    · have hL : LoopG Tryd.prog 0 Tryd.f18 0 .ret (bvR (bdE l (bdM l))) (bvS l 0) := by
        refine loopG_of (bdM l) (fun i => bvS l i) rfl (by simp) (fun i hi => (bv_round l hl hok i (by omega)).1 (by rw [bd_iff (eq i (by omega) (by omega))]; exact h2 i hi)) ?_
        have := (bv_round l hl hok (bdM l) h1).2 (by rw [bd_iff (eq _ (Nat.le_refl _) (by omega))]; exact h3)
        rw [bd_iff (eq _ (Nat.le_refl _) (by omega))] at this
        exact this
      have hb : bdF l = bdE l (bdM l) := by
        unfold bdF
        rw [if_neg h64, if_pos h1]
      rw [hb]
      generalize bdE l (bdM l) = e at *
      unfold bvS bvR at hL
      have e1' := hL
      refine g_q [⟨5, [], .br false .no⟩, ⟨9, [.sel [0, 2, 12, 13, 14]], .loop (exOf e1') (endOf e1')⟩] [] Exit.ret (stOf 43 [(2, AV.ptr 0 0), (3, AV.int .i64 e)] [Blk.row 24 [AV.nilsl]]) (And.intro (show decide ((↑l.length : Int) > (64 : Int)) = false from (by rw [decide_eq_false_iff_not]; omega)) e1') ?_
      refine g_f [] [] (AV.tuple [AV.agg [AV.nilsl], AV.int .i64 e]) ([]) (show 1 ≤ 1 from (by omega)) ?_
      exact .inr ⟨h3, rfl, rfl⟩
theorem build_ok (l : List TE) (hl : l.length ≤ 1000) (hok : ∀ x ∈ l, OkT x) (h : bdF l = 0) : CallsV Tryd.prog 18 [filesV l] [] (fun av H' => av = .tuple [.agg [.sl 0 0 (sortR l).length 2], .int .i64 0] ∧ H' = [.row 31 (flatA encT (sortR l))]) := (build_v l hl hok).mono fun av H' q => by
  rcases q with ⟨_, q⟩ | ⟨q, _⟩
  · exact q
  · exact absurd h q
theorem build_ne (l : List TE) (hl : l.length ≤ 1000) (hok : ∀ x ∈ l, OkT x) (h : bdF l ≠ 0) : CallsV Tryd.prog 18 [filesV l] [] (fun av H' => av = .tuple [.agg [.nilsl], .int .i64 (bdF l)] ∧ H' = []) := (build_v l hl hok).mono fun av H' q => by
  rcases q with ⟨q, _⟩ | ⟨_, q⟩
  · exact absurd q h
  · exact q
end Go.Proofs.YtjgpojglgfddiaaDoor
namespace Go.Proofs.YtjgpojglgfddiaaDoor
open Go Go.RowKit V
set_option linter.unusedSimpArgs false
set_option linter.unusedVariables false
set_option maxHeartbeats 20000000
theorem fld_set (l : List TE) (k : Nat) (hk : k < l.length) (c : ByteArray) : (flatA encT l).take (0 + (k : Int).toNat * 2 + 1) ++ [AV.str c] ++ (flatA encT l).drop (0 + (k : Int).toNat * 2 + 1 + 1) = flatA encT (l.set k ((l.getD k tD).1, c)) := by
  rw [← encT_set l k hk ((l.getD k tD).1, c)]
  have h := encT_at0 l k hk
  generalize 0 + (k : Int).toNat * 2 = q at *
  have h1 : (flatA encT l).take (q + 1) = (flatA encT l).take q ++ [AV.str (l.getD k tD).1] := by
    rw [List.take_add, h]; rfl
  rw [h1]
  simp
theorem fofs : (#[Field.mk "Path" 9 0 false "" "" 0, Field.mk "Content" 9 1 false "" "" 16][1]).offset = 1 := rfl
theorem put_v (l : List TE) (x : TE) (hl : l.length ≤ 900) (hok : ∀ x ∈ l, OkT x) (hx : OkT x) : CallsV Tryd.prog 24 [treeV l, .str x.1, .str x.2] [] (fun av H' => (ptF l x = 0 ∧ av = .tuple [.agg [.sl 0 0 (sortR (ptL l x)).length 2], .int .i64 0] ∧ H' = [.row 31 (flatA encT (sortR (ptL l x)))]) ∨ (ptF l x ≠ 0 ∧ av = .tuple [.agg [.nilsl], .int .i64 (ptF l x)] ∧ H' = [])) := by
  refine callsG_at Tryd.func24 (by kernel_rfl) ?_
  have ck := check_v l (by omega) hok
  unfold ptF
  by_cases hc : ckF l = 0
  · rw [hc] at ck
    rw [if_pos hc]
    have hS := (ck_fine hc).2.1
    have cl := clone_a l (by omega)
    have fd := find_v l x.1 (by omega)
    have n1 := encT_noid l
    have n2 := encT_plain l
    have n3 := encT_lend l
    have hge := encT_ge l
    have tk := flatA_all_take encT_l l
    obtain ⟨pp, pD⟩ := put_perm x hS.dst
    have pl := put_len l x
    have so := sorted_v (putL l x) (by omega) pD
    have m1 := encT_noid (putL l x)
    have m2 := encT_plain (putL l x)
    have m3 := encT_lend (putL l x)
    have mge := encT_ge (putL l x)
    have mtk := flatA_all_take encT_l (putL l x)
    rw [put_eq x hS] at so
    have wl : (ptL l x).length ≤ 1000 := by
      rw [← put_eq x hS, sortR_len']; omega
    have wok : ∀ y ∈ ptL l x, OkT y := fun y hy => by
      unfold ptL at hy
      rcases insR_mem.1 hy with rfl | h
      · exact hx
      · exact hok y (wo_mem.1 h).1
    have bok := fun h => build_ok (ptL l x) wl wok h
    have bne := fun h => build_ne (ptL l x) wl wok h
    have w1 := encT_noid (ptL l x)
    have w2 := encT_plain (ptL l x)
    have w3 := encT_lend (ptL l x)
    have wge := encT_ge (ptL l x)
    have wtk := flatA_all_take encT_l (ptL l x)
    have fo := fofs
    have hnw := encT_nov (ptL l x) 31 (AV.sl 0 0 (ptL l x).length 2) rfl
    unfold filesV at so
    unfold putL at *
    by_cases hm : gtI l x.1 < l.length
    · rw [if_pos hm] at *
      have fs := fld_set l (gtI l x.1) hm x.2
      rw [gt_at hm] at fs
      have hll : (l.set (gtI l x.1) x).length = l.length := List.length_set
      rw [hll] at so mge mtk
      clear pp pD hll
      generalize l.set (gtI l x.1) x = u at *
      generalize gtI l x.1 = m at *
      generalize ptL l x = w at *
      by_cases hb : bdF w = 0
      · have bd := bok hb
        clear bok bne
        rw [hb]
        generalize sortR w = v at *
        have hnv := encT_nov v 31 (AV.tuple [AV.agg [AV.sl 0 0 v.length 2], AV.int .i64 (0 : Int)]) rfl
        have e1' := ck
        have e2' := cl
        have e3' := (show Reads [Blk.row 24 [AV.slv l.length 2 (flatA encT l)], Blk.row 24 [AV.nilsl], Blk.row 31 (flatA encT l)] [AV.sl 2 0 l.length 2, AV.str x.fst] [AV.slv l.length 2 (flatA encT l), AV.str x.fst] from (Reads.cons (Reads1.sl (t := 31) (xs := flatA encT l) (by kernel_rfl) (show ∀ (x : AV), x ∈ flatA encT l → noid0 x = true ∧ x ≠ AV.junk from n3) (show 0 + l.length * 2 ≤ (flatA encT l).length from (by omega)) tk) (Reads.cons (Reads1.val (by kernel_rfl)) Reads.nil)))
        have e4' := fd
        have e5' := (congrArg (fun z => AV.ptr 2 (0 + (↑m : Int).toNat * 2 + z)) fo)
        have e6' := (congrArg (fun z => Blk.row 31 z) fs)
        have e7' := (show Reads [Blk.row 24 [AV.slv l.length 2 (flatA encT l)], Blk.row 24 [AV.nilsl], Blk.row 31 (flatA encT u)] [AV.sl 2 0 l.length 2] [AV.slv l.length 2 (flatA encT u)] from (Reads.cons (Reads1.sl (t := 31) (xs := flatA encT u) (by kernel_rfl) (show ∀ (x : AV), x ∈ flatA encT u → noid0 x = true ∧ x ≠ AV.junk from m3) (show 0 + l.length * 2 ≤ (flatA encT u).length from (by omega)) mtk) Reads.nil))
        have e8' := so
        have e9' := (show Reads [Blk.row 24 [AV.slv l.length 2 (flatA encT l)], Blk.row 24 [AV.nilsl], Blk.row 31 (flatA encT u), Blk.row 31 (flatA encT w)] [AV.sl 3 0 w.length 2] [AV.slv w.length 2 (flatA encT w)] from (Reads.cons (Reads1.sl (t := 31) (xs := flatA encT w) (by kernel_rfl) (show ∀ (x : AV), x ∈ flatA encT w → noid0 x = true ∧ x ≠ AV.junk from w3) (show 0 + w.length * 2 ≤ (flatA encT w).length from (by omega)) wtk) Reads.nil))
        have e10' := bd
        refine g_q [⟨4, [], .call (avOf e1') (blOf e1') []⟩, ⟨11, [], .call (avOf e2') (blOf e2') [true]⟩, ⟨15, [], .lend (rdOf e3') (avOf e4') (blOf e4') []⟩, ⟨24, [], .as (rhsOf e5')⟩, ⟨26, [.hp 2 (rhsOf e6')], .no⟩, ⟨27, [], .lend (rdOf e7') (avOf e8') (blOf e8') [true]⟩, ⟨28, [], .lend (rdOf e9') (avOf e10') (blOf e10') [true]⟩] [.sel [6, 7]] Exit.ret (stOf 41 [(6, AV.ptr 1 0), (7, AV.int .i64 (0 : Int))] [Blk.row 24 [AV.slv l.length 2 (flatA encT l)], Blk.row 24 [AV.sl 4 0 v.length 2], Blk.row 31 (flatA encT u), Blk.row 31 (flatA encT w), Blk.row 31 (flatA encT v)]) (And.intro (show 1 ≤ 1 from (by omega)) (And.intro e1' (And.intro (show 1 ≤ 1 from (by omega)) (And.intro (show ∀ (x : AV), x ∈ flatA encT l → plain0 x = true from n2) (And.intro e2' (And.intro e3' (And.intro (show (novR (AV.int .i64 (↑m : Int)) && [].all novB) = true from (by kernel_rfl)) (And.intro e4' (And.intro (show (0 : Int) ≤ (↑m : Int) ∧ (↑m : Int) < (↑l.length : Int) from (by omega)) (And.intro e5' (And.intro (show 0 + (↑m : Int).toNat * 2 + 1 + 1 ≤ (flatA encT l).length from (by omega)) (And.intro (congrArg some e6') (And.intro (show ∀ (x : AV), x ∈ flatA encT w → plain0 x = true from w2) (And.intro e7' (And.intro (show (novR (AV.sl 0 0 w.length 2) && [Blk.row 31 (flatA encT w)].all novB) = true from (by omega)) (And.intro e8' (And.intro (show ∀ (x : AV), x ∈ flatA encT v → plain0 x = true from encT_plain v) (And.intro e9' (And.intro (show (novR (AV.tuple [AV.agg [AV.sl 0 0 v.length 2], AV.int .i64 (0 : Int)]) && [Blk.row 31 (flatA encT v)].all novB) = true from (by omega)) (And.intro e10' (show 1 ≤ 1 from (by omega)))))))))))))))))))))) ?_
        refine g_f [4] [true] (AV.tuple [AV.agg [AV.sl 0 0 v.length 2], AV.int .i64 (0 : Int)]) ([Blk.row 31 (flatA encT v)]) (And.intro (show 1 ≤ 1 from (by omega)) (show ∀ (x : AV), x ∈ flatA encT v → noid0 x = true from encT_noid v)) ?_
        exact .inl ⟨rfl, rfl, rfl⟩
      · have bd := bne hb
        clear bok bne
        generalize bdF w = e at *
        have e1' := ck
        have e2' := cl
        have e3' := (show Reads [Blk.row 24 [AV.slv l.length 2 (flatA encT l)], Blk.row 24 [AV.nilsl], Blk.row 31 (flatA encT l)] [AV.sl 2 0 l.length 2, AV.str x.fst] [AV.slv l.length 2 (flatA encT l), AV.str x.fst] from (Reads.cons (Reads1.sl (t := 31) (xs := flatA encT l) (by kernel_rfl) (show ∀ (x : AV), x ∈ flatA encT l → noid0 x = true ∧ x ≠ AV.junk from n3) (show 0 + l.length * 2 ≤ (flatA encT l).length from (by omega)) tk) (Reads.cons (Reads1.val (by kernel_rfl)) Reads.nil)))
        have e4' := fd
        have e5' := (congrArg (fun z => AV.ptr 2 (0 + (↑m : Int).toNat * 2 + z)) fo)
        have e6' := (congrArg (fun z => Blk.row 31 z) fs)
        have e7' := (show Reads [Blk.row 24 [AV.slv l.length 2 (flatA encT l)], Blk.row 24 [AV.nilsl], Blk.row 31 (flatA encT u)] [AV.sl 2 0 l.length 2] [AV.slv l.length 2 (flatA encT u)] from (Reads.cons (Reads1.sl (t := 31) (xs := flatA encT u) (by kernel_rfl) (show ∀ (x : AV), x ∈ flatA encT u → noid0 x = true ∧ x ≠ AV.junk from m3) (show 0 + l.length * 2 ≤ (flatA encT u).length from (by omega)) mtk) Reads.nil))
        have e8' := so
        have e9' := (show Reads [Blk.row 24 [AV.slv l.length 2 (flatA encT l)], Blk.row 24 [AV.nilsl], Blk.row 31 (flatA encT u), Blk.row 31 (flatA encT w)] [AV.sl 3 0 w.length 2] [AV.slv w.length 2 (flatA encT w)] from (Reads.cons (Reads1.sl (t := 31) (xs := flatA encT w) (by kernel_rfl) (show ∀ (x : AV), x ∈ flatA encT w → noid0 x = true ∧ x ≠ AV.junk from w3) (show 0 + w.length * 2 ≤ (flatA encT w).length from (by omega)) wtk) Reads.nil))
        have e10' := bd
        refine g_q [⟨4, [], .call (avOf e1') (blOf e1') []⟩, ⟨11, [], .call (avOf e2') (blOf e2') [true]⟩, ⟨15, [], .lend (rdOf e3') (avOf e4') (blOf e4') []⟩, ⟨24, [], .as (rhsOf e5')⟩, ⟨26, [.hp 2 (rhsOf e6')], .no⟩, ⟨27, [], .lend (rdOf e7') (avOf e8') (blOf e8') [true]⟩, ⟨28, [], .lend (rdOf e9') (avOf e10') (blOf e10') []⟩] [.sel [6, 7]] Exit.ret (stOf 41 [(6, AV.ptr 1 0), (7, AV.int .i64 e)] [Blk.row 24 [AV.slv l.length 2 (flatA encT l)], Blk.row 24 [AV.nilsl], Blk.row 31 (flatA encT u), Blk.row 31 (flatA encT w)]) (And.intro (show 1 ≤ 1 from (by omega)) (And.intro e1' (And.intro (show 1 ≤ 1 from (by omega)) (And.intro (show ∀ (x : AV), x ∈ flatA encT l → plain0 x = true from n2) (And.intro e2' (And.intro e3' (And.intro (show (novR (AV.int .i64 (↑m : Int)) && [].all novB) = true from (by kernel_rfl)) (And.intro e4' (And.intro (show (0 : Int) ≤ (↑m : Int) ∧ (↑m : Int) < (↑l.length : Int) from (by omega)) (And.intro e5' (And.intro (show 0 + (↑m : Int).toNat * 2 + 1 + 1 ≤ (flatA encT l).length from (by omega)) (And.intro (congrArg some e6') (And.intro (show ∀ (x : AV), x ∈ flatA encT w → plain0 x = true from w2) (And.intro e7' (And.intro (show (novR (AV.sl 0 0 w.length 2) && [Blk.row 31 (flatA encT w)].all novB) = true from (by omega)) (And.intro e8' (And.intro e9' (And.intro (show (novR (AV.tuple [AV.agg [AV.nilsl], AV.int .i64 e]) && [].all novB) = true from (by kernel_rfl)) (And.intro e10' (show 1 ≤ 1 from (by omega))))))))))))))))))))) ?_
        refine g_f [] [] (AV.tuple [AV.agg [AV.nilsl], AV.int .i64 e]) ([]) (show 1 ≤ 1 from (by omega)) ?_
        exact .inr ⟨hb, rfl, rfl⟩
    · rw [if_neg hm] at *
      have hsn := encT_snoc l x
      rw [show List.take (l.length * 2) (flatA encT l) = flatA encT l from List.take_of_length_le (Nat.le_of_eq (encT_len l))] at hsn
      rw [List.length_append, List.length_singleton] at so mge mtk
      clear pp pD
      generalize l ++ [x] = u at *
      generalize gtI l x.1 = m at *
      generalize ptL l x = w at *
      by_cases hb : bdF w = 0
      · have bd := bok hb
        clear bok bne
        rw [hb]
        generalize sortR w = v at *
        have hnv := encT_nov v 31 (AV.tuple [AV.agg [AV.sl 0 0 v.length 2], AV.int .i64 (0 : Int)]) rfl
        have e1' := ck
        have e2' := cl
        have e3' := (show Reads [Blk.row 24 [AV.slv l.length 2 (flatA encT l)], Blk.row 24 [AV.nilsl], Blk.row 31 (flatA encT l)] [AV.sl 2 0 l.length 2, AV.str x.fst] [AV.slv l.length 2 (flatA encT l), AV.str x.fst] from (Reads.cons (Reads1.sl (t := 31) (xs := flatA encT l) (by kernel_rfl) (show ∀ (x : AV), x ∈ flatA encT l → noid0 x = true ∧ x ≠ AV.junk from n3) (show 0 + l.length * 2 ≤ (flatA encT l).length from (by omega)) tk) (Reads.cons (Reads1.val (by kernel_rfl)) Reads.nil)))
        have e4' := fd
        have e5' := (Eq.trans (congrArg (fun z => Blk.row 31 (z ++ [AV.str x.fst, AV.str x.snd])) tk) (congrArg (fun z => Blk.row 31 z) hsn))
        have e6' := (show Reads [Blk.row 24 [AV.slv l.length 2 (flatA encT l)], Blk.row 24 [AV.nilsl], Blk.dead, Blk.row 31 [AV.str x.fst, AV.str x.snd], Blk.row 31 (flatA encT u)] [AV.sl 4 0 (l.length + 1) 2] [AV.slv (l.length + 1) 2 (flatA encT u)] from (Reads.cons (Reads1.sl (t := 31) (xs := flatA encT u) (by kernel_rfl) (show ∀ (x : AV), x ∈ flatA encT u → noid0 x = true ∧ x ≠ AV.junk from m3) (show 0 + (l.length + 1) * 2 ≤ (flatA encT u).length from (by omega)) mtk) Reads.nil))
        have e7' := so
        have e8' := (show Reads [Blk.row 24 [AV.slv l.length 2 (flatA encT l)], Blk.row 24 [AV.nilsl], Blk.dead, Blk.row 31 [AV.str x.fst, AV.str x.snd], Blk.row 31 (flatA encT u), Blk.row 31 (flatA encT w)] [AV.sl 5 0 w.length 2] [AV.slv w.length 2 (flatA encT w)] from (Reads.cons (Reads1.sl (t := 31) (xs := flatA encT w) (by kernel_rfl) (show ∀ (x : AV), x ∈ flatA encT w → noid0 x = true ∧ x ≠ AV.junk from w3) (show 0 + w.length * 2 ≤ (flatA encT w).length from (by omega)) wtk) Reads.nil))
        have e9' := bd
        refine g_q [⟨4, [], .call (avOf e1') (blOf e1') []⟩, ⟨11, [], .call (avOf e2') (blOf e2') [true]⟩, ⟨15, [], .lend (rdOf e3') (avOf e4') (blOf e4') []⟩, ⟨26, [.hp 4 (rhsOf e5')], .no⟩, ⟨28, [], .lend (rdOf e6') (avOf e7') (blOf e7') [true]⟩, ⟨29, [], .lend (rdOf e8') (avOf e9') (blOf e9') [true]⟩] [.sel [6, 7]] Exit.ret (stOf 41 [(6, AV.ptr 1 0), (7, AV.int .i64 (0 : Int))] [Blk.row 24 [AV.slv l.length 2 (flatA encT l)], Blk.row 24 [AV.sl 6 0 v.length 2], Blk.dead, Blk.row 31 [AV.str x.fst, AV.str x.snd], Blk.row 31 (flatA encT u), Blk.row 31 (flatA encT w), Blk.row 31 (flatA encT v)]) (And.intro (show 1 ≤ 1 from (by omega)) (And.intro e1' (And.intro (show 1 ≤ 1 from (by omega)) (And.intro (show ∀ (x : AV), x ∈ flatA encT l → plain0 x = true from n2) (And.intro e2' (And.intro e3' (And.intro (show (novR (AV.int .i64 (-1 : Int)) && [].all novB) = true from (by kernel_rfl)) (And.intro e4' (And.intro (show l.length * 2 ≤ (flatA encT l).length from (by omega)) (And.intro (show 2 ≤ 2 from (by omega)) (And.intro (show (l.length + 1) * 32 ≤ 140737488355328 from (by omega)) (And.intro (show l.length + 1 ≤ maxLen from (by (unfold maxLen; omega))) (And.intro (congrArg some e5') (And.intro (show ∀ (x : AV), x ∈ flatA encT w → plain0 x = true from w2) (And.intro e6' (And.intro (show (novR (AV.sl 0 0 w.length 2) && [Blk.row 31 (flatA encT w)].all novB) = true from (by omega)) (And.intro e7' (And.intro (show ∀ (x : AV), x ∈ flatA encT v → plain0 x = true from encT_plain v) (And.intro e8' (And.intro (show (novR (AV.tuple [AV.agg [AV.sl 0 0 v.length 2], AV.int .i64 (0 : Int)]) && [Blk.row 31 (flatA encT v)].all novB) = true from (by omega)) (And.intro e9' (show 1 ≤ 1 from (by omega))))))))))))))))))))))) ?_
        refine g_f [6] [true] (AV.tuple [AV.agg [AV.sl 0 0 v.length 2], AV.int .i64 (0 : Int)]) ([Blk.row 31 (flatA encT v)]) (And.intro (show 1 ≤ 1 from (by omega)) (show ∀ (x : AV), x ∈ flatA encT v → noid0 x = true from encT_noid v)) ?_
        exact .inl ⟨rfl, rfl, rfl⟩
      · have bd := bne hb
        clear bok bne
        generalize bdF w = e at *
        have e1' := ck
        have e2' := cl
        have e3' := (show Reads [Blk.row 24 [AV.slv l.length 2 (flatA encT l)], Blk.row 24 [AV.nilsl], Blk.row 31 (flatA encT l)] [AV.sl 2 0 l.length 2, AV.str x.fst] [AV.slv l.length 2 (flatA encT l), AV.str x.fst] from (Reads.cons (Reads1.sl (t := 31) (xs := flatA encT l) (by kernel_rfl) (show ∀ (x : AV), x ∈ flatA encT l → noid0 x = true ∧ x ≠ AV.junk from n3) (show 0 + l.length * 2 ≤ (flatA encT l).length from (by omega)) tk) (Reads.cons (Reads1.val (by kernel_rfl)) Reads.nil)))
        have e4' := fd
        have e5' := (Eq.trans (congrArg (fun z => Blk.row 31 (z ++ [AV.str x.fst, AV.str x.snd])) tk) (congrArg (fun z => Blk.row 31 z) hsn))
        have e6' := (show Reads [Blk.row 24 [AV.slv l.length 2 (flatA encT l)], Blk.row 24 [AV.nilsl], Blk.dead, Blk.row 31 [AV.str x.fst, AV.str x.snd], Blk.row 31 (flatA encT u)] [AV.sl 4 0 (l.length + 1) 2] [AV.slv (l.length + 1) 2 (flatA encT u)] from (Reads.cons (Reads1.sl (t := 31) (xs := flatA encT u) (by kernel_rfl) (show ∀ (x : AV), x ∈ flatA encT u → noid0 x = true ∧ x ≠ AV.junk from m3) (show 0 + (l.length + 1) * 2 ≤ (flatA encT u).length from (by omega)) mtk) Reads.nil))
        have e7' := so
        have e8' := (show Reads [Blk.row 24 [AV.slv l.length 2 (flatA encT l)], Blk.row 24 [AV.nilsl], Blk.dead, Blk.row 31 [AV.str x.fst, AV.str x.snd], Blk.row 31 (flatA encT u), Blk.row 31 (flatA encT w)] [AV.sl 5 0 w.length 2] [AV.slv w.length 2 (flatA encT w)] from (Reads.cons (Reads1.sl (t := 31) (xs := flatA encT w) (by kernel_rfl) (show ∀ (x : AV), x ∈ flatA encT w → noid0 x = true ∧ x ≠ AV.junk from w3) (show 0 + w.length * 2 ≤ (flatA encT w).length from (by omega)) wtk) Reads.nil))
        have e9' := bd
        refine g_q [⟨4, [], .call (avOf e1') (blOf e1') []⟩, ⟨11, [], .call (avOf e2') (blOf e2') [true]⟩, ⟨15, [], .lend (rdOf e3') (avOf e4') (blOf e4') []⟩, ⟨26, [.hp 4 (rhsOf e5')], .no⟩, ⟨28, [], .lend (rdOf e6') (avOf e7') (blOf e7') [true]⟩, ⟨29, [], .lend (rdOf e8') (avOf e9') (blOf e9') []⟩] [.sel [6, 7]] Exit.ret (stOf 41 [(6, AV.ptr 1 0), (7, AV.int .i64 e)] [Blk.row 24 [AV.slv l.length 2 (flatA encT l)], Blk.row 24 [AV.nilsl], Blk.dead, Blk.row 31 [AV.str x.fst, AV.str x.snd], Blk.row 31 (flatA encT u), Blk.row 31 (flatA encT w)]) (And.intro (show 1 ≤ 1 from (by omega)) (And.intro e1' (And.intro (show 1 ≤ 1 from (by omega)) (And.intro (show ∀ (x : AV), x ∈ flatA encT l → plain0 x = true from n2) (And.intro e2' (And.intro e3' (And.intro (show (novR (AV.int .i64 (-1 : Int)) && [].all novB) = true from (by kernel_rfl)) (And.intro e4' (And.intro (show l.length * 2 ≤ (flatA encT l).length from (by omega)) (And.intro (show 2 ≤ 2 from (by omega)) (And.intro (show (l.length + 1) * 32 ≤ 140737488355328 from (by omega)) (And.intro (show l.length + 1 ≤ maxLen from (by (unfold maxLen; omega))) (And.intro (congrArg some e5') (And.intro (show ∀ (x : AV), x ∈ flatA encT w → plain0 x = true from w2) (And.intro e6' (And.intro (show (novR (AV.sl 0 0 w.length 2) && [Blk.row 31 (flatA encT w)].all novB) = true from (by omega)) (And.intro e7' (And.intro e8' (And.intro (show (novR (AV.tuple [AV.agg [AV.nilsl], AV.int .i64 e]) && [].all novB) = true from (by kernel_rfl)) (And.intro e9' (show 1 ≤ 1 from (by omega)))))))))))))))))))))) ?_
        refine g_f [] [] (AV.tuple [AV.agg [AV.nilsl], AV.int .i64 e]) ([]) (show 1 ≤ 1 from (by omega)) ?_
        exact .inr ⟨hb, rfl, rfl⟩
  · rw [if_neg hc]
    have hq : (ckF l == 0) = false := beq_eq_false_iff_ne.2 hc
    generalize ckF l = e at *
    have e1' := ck
    refine g_q [⟨4, [], .call (avOf e1') (blOf e1') []⟩, ⟨8, [], .br true .no⟩] [.sel [6, 7]] Exit.ret (stOf 41 [(6, AV.ptr 1 0), (7, AV.int .i64 e)] [Blk.row 24 [AV.slv l.length 2 (flatA encT l)], Blk.row 24 [AV.nilsl]]) (And.intro (show 1 ≤ 1 from (by omega)) (And.intro e1' (And.intro (show (e != (0 : Int)) = true from (by simp_all; done)) (show 1 ≤ 1 from (by omega))))) ?_
    refine g_f [] [] (AV.tuple [AV.agg [AV.nilsl], AV.int .i64 e]) ([]) (show 1 ≤ 1 from (by omega)) ?_
    exact .inr ⟨hc, rfl, rfl⟩
end Go.Proofs.YtjgpojglgfddiaaDoor
namespace Go.Proofs.YtjgpojglgfddiaaDoor
open Go Go.RowKit V
set_option linter.unusedSimpArgs false
set_option linter.unusedVariables false
set_option maxHeartbeats 20000000
def pvS (a b : List TE) (k : Nat) (o : List TE) : St := stOf 48 [(3, .ptr 0 0), (4, .ptr 1 0), (8, .sl 2 0 o.length 2), (27, filesV a), (28, .int .i64 (a.length : Int)), (29, .int .i64 (k : Int))] [.row 24 [filesV b], .row 24 [.nilsl], .row 31 (flatA encT o)]
theorem over_v (a b : List TE) (ha : a.length ≤ 400) (hb : b.length ≤ 400) (hoa : ∀ x ∈ a, OkT x) (hob : ∀ x ∈ b, OkT x) : CallsV Tryd.prog 30 [treeV a, treeV b] [] (fun av H' => (ovF a b = 0 ∧ av = .tuple [.agg [.sl 0 0 (sortR (ovK a b a.length)).length 2], .int .i64 0] ∧ H' = [.row 31 (flatA encT (sortR (ovK a b a.length)))]) ∨ (ovF a b ≠ 0 ∧ av = .tuple [.agg [.nilsl], .int .i64 (ovF a b)] ∧ H' = [])) := by
  refine callsG_at Tryd.func30 (by kernel_rfl) ?_
  have c1 := check_v a (by omega) hoa
  have c2 := check_v b (by omega) hob
  unfold ovF
  by_cases h1 : ckF a = 0
  · rw [h1] at c1
    rw [if_pos h1]
    by_cases h2 : ckF b = 0
    · rw [h2] at c2
      rw [if_pos h2]
      have cl := clone_a b (by omega)
      have hL : LoopG Tryd.prog 0 Tryd.f30 0 (.exit 0) (stOf 48 [(4, .ptr 0 0), (8, .sl 1 0 (ovK a b a.length).length 2)] [.row 24 [.nilsl], .row 31 (flatA encT (ovK a b a.length))]) (pvS a b 0 b) := by
        refine loopG_of a.length (fun k => pvS a b k (ovK a b k)) (show pvS a b 0 (ovK a b 0) = pvS a b 0 b by rw [show ovK a b 0 = b by simp [ovK]]) (by simp) ?_ ?_
        · intro k hk
          have at1 : (flatA encT a).drop ((k : Int).toNat * 2) = AV.str (a.getD k tD).1 :: AV.str (a.getD k tD).2 :: flatA encT (a.drop (k + 1)) := encT_at a k hk
          have fd := find_v b (a.getD k tD).1 (by omega)
          rw [ovK_next a b k hk]
          have hn := ovK_len a b k
          unfold gtF
          generalize ovK a b k = o at *
          generalize a.getD k tD = x at *
          have hsn := encT_snoc o x
          have hge := encT_ge o
          by_cases hm : gtI b x.1 < b.length
          · rw [if_pos hm] at fd ⊢
            rw [if_pos rfl]
            generalize gtI b x.1 = m at *
            unfold pvS
            have e1' := (congrArg (fun z => AV.fptr z) at1)
            have e2' := fd
            have e3' := (congrArg (fun z => AV.int .i64 z) (wrap_i64 (e := (↑k : Int) + (1 : Int)) (by omega) (by omega)))
            exact g_x [⟨1, [], .br true .no⟩, ⟨2, [], .as (rhsOf e1')⟩, ⟨10, [], .call (avOf e2') (blOf e2') []⟩, ⟨13, [], .as (rhsOf e3')⟩] [.sel [3, 4, 8, 27, 28, 29], .keep [0, 1, 2] [false, false, true]] (And.intro (show decide ((↑k : Int) < (↑a.length : Int)) = true from (by rw [decide_eq_true_iff]; omega)) (And.intro (show (0 : Int) ≤ (↑k : Int) ∧ (↑k : Int) < (↑a.length : Int) from (by omega)) (And.intro e1' (And.intro (show 2 ≤ (AV.str x.fst :: AV.str x.snd :: flatA encT (List.drop (k + 1) a)).length from (by exact Nat.le_of_ble_eq_true (by kernel_rfl))) (And.intro (show 2 ≤ 2 from (by omega)) (And.intro (show 1 ≤ 1 from (by omega)) (And.intro (show 1 ≤ 2 from (by omega)) (And.intro e2' (And.intro e3' (show ∀ (x : AV), x ∈ flatA encT o → noid0 x = true from encT_noid o))))))))))
          · rw [if_neg hm] at fd ⊢
            rw [if_neg (by decide)]
            unfold pvS
            rw [List.length_append, List.length_singleton]
            have e1' := (congrArg (fun z => AV.fptr z) at1)
            have e2' := fd
            have e3' := (congrArg (fun z => Blk.row 31 z) hsn)
            have e4' := (congrArg (fun z => AV.int .i64 z) (wrap_i64 (e := (↑k : Int) + (1 : Int)) (by omega) (by omega)))
            exact g_x [⟨1, [], .br true .no⟩, ⟨2, [], .as (rhsOf e1')⟩, ⟨10, [], .call (avOf e2') (blOf e2') []⟩, ⟨17, [.hp 5 (rhsOf e3')], .no⟩, ⟨18, [], .as (rhsOf e4')⟩] [.sel [3, 4, 8, 27, 28, 29], .keep [0, 1, 5] [false, false, true]] (And.intro (show decide ((↑k : Int) < (↑a.length : Int)) = true from (by rw [decide_eq_true_iff]; omega)) (And.intro (show (0 : Int) ≤ (↑k : Int) ∧ (↑k : Int) < (↑a.length : Int) from (by omega)) (And.intro e1' (And.intro (show 2 ≤ (AV.str x.fst :: AV.str x.snd :: flatA encT (List.drop (k + 1) a)).length from (by exact Nat.le_of_ble_eq_true (by kernel_rfl))) (And.intro (show 2 ≤ 2 from (by omega)) (And.intro (show 1 ≤ 1 from (by omega)) (And.intro (show 1 ≤ 2 from (by omega)) (And.intro e2' (And.intro (show 2 ≤ 2 from (by omega)) (And.intro (show o.length * 2 ≤ (flatA encT o).length from (by omega)) (And.intro (show 2 ≤ 2 from (by omega)) (And.intro (show (o.length + 1) * 32 ≤ 140737488355328 from (by omega)) (And.intro (show o.length + 1 ≤ maxLen from (by (unfold maxLen; omega))) (And.intro (congrArg some e3') (And.intro e4' (show ∀ (x_1 : AV), x_1 ∈ flatA encT (o ++ [x]) → noid0 x_1 = true from encT_noid (o ++ [x])))))))))))))))))
        · generalize ovK a b a.length = o
          unfold pvS
          exact g_x [⟨1, [], .br false .no⟩] [.sel [4, 8], .keep [1, 2] [false, true]] (And.intro (show decide ((↑a.length : Int) < (↑a.length : Int)) = false from (by rw [decide_eq_false_iff_not]; omega)) (show ∀ (x : AV), x ∈ flatA encT o → noid0 x = true from encT_noid o))
      have hwl := ovK_len a b a.length
      have hok := ovK_ok (k := a.length) hoa hob
      generalize ovK a b a.length = w at *
      have n2 := encT_noid w
      have n4 := encT_lend w
      have n5 := encT_plain w
      have hge2 := encT_ge w
      have tk := flatA_all_take encT_l w
      unfold pvS at hL
      have hz : 0 + b.length = b.length := Nat.zero_add _
      by_cases hb0 : bdF w = 0
      · have bd := build_ok w (by omega) hok hb0
        rw [hb0]
        generalize sortR w = v at *
        have hnv := encT_nov v 31 (AV.tuple [AV.agg [AV.sl 0 0 v.length 2], AV.int .i64 (0 : Int)]) rfl
        have e1' := c1
        have e2' := c2
        have e3' := cl
        have e4' := hL
        have e5' := (show Reads [Blk.row 24 [AV.nilsl], Blk.row 31 (flatA encT w)] [AV.sl 1 0 w.length 2] [AV.slv w.length 2 (flatA encT w)] from (Reads.cons (Reads1.sl (t := 31) (xs := flatA encT w) (by kernel_rfl) (show ∀ (x : AV), x ∈ flatA encT w → noid0 x = true ∧ x ≠ AV.junk from n4) (show 0 + w.length * 2 ≤ (flatA encT w).length from (by omega)) tk) Reads.nil))
        have e6' := bd
        refine g_q [⟨5, [], .call (avOf e1') (blOf e1') []⟩, ⟨11, [], .call (avOf e2') (blOf e2') []⟩, ⟨18, [], .call (avOf e3') (blOf e3') [true]⟩, ⟨24, [.sel [3, 4, 8, 27, 28, 29], .keep [1, 2, 3] [false, false, true]], .loop (exOf e4') (endOf e4')⟩, ⟨26, [], .lend (rdOf e5') (avOf e6') (blOf e6') [true]⟩] [.sel [4, 5]] Exit.ret (stOf 48 [(4, AV.ptr 0 0), (5, AV.int .i64 (0 : Int))] [Blk.row 24 [AV.sl 2 0 v.length 2], Blk.row 31 (flatA encT w), Blk.row 31 (flatA encT v)]) (And.intro (show 1 ≤ 1 from (by omega)) (And.intro e1' (And.intro (show 1 ≤ 1 from (by omega)) (And.intro e2' (And.intro (show 1 ≤ 1 from (by omega)) (And.intro (show ∀ (x : AV), x ∈ flatA encT b → plain0 x = true from encT_plain b) (And.intro e3' (And.intro (show 1 ≤ 1 from (by omega)) (And.intro (show ∀ (x : AV), x ∈ flatA encT b → noid0 x = true from encT_noid b) (And.intro e4' (And.intro (show ∀ (x : AV), x ∈ flatA encT v → plain0 x = true from encT_plain v) (And.intro e5' (And.intro (show (novR (AV.tuple [AV.agg [AV.sl 0 0 v.length 2], AV.int .i64 (0 : Int)]) && [Blk.row 31 (flatA encT v)].all novB) = true from (by omega)) (And.intro e6' (show 1 ≤ 1 from (by omega)))))))))))))))) ?_
        refine g_f [2] [true] (AV.tuple [AV.agg [AV.sl 0 0 v.length 2], AV.int .i64 (0 : Int)]) ([Blk.row 31 (flatA encT v)]) (And.intro (show 1 ≤ 1 from (by omega)) (show ∀ (x : AV), x ∈ flatA encT v → noid0 x = true from encT_noid v)) ?_
        exact .inl ⟨rfl, rfl, rfl⟩
      · have bd := build_ne w (by omega) hok hb0
        generalize bdF w = e at *
        have e1' := c1
        have e2' := c2
        have e3' := cl
        have e4' := hL
        have e5' := (show Reads [Blk.row 24 [AV.nilsl], Blk.row 31 (flatA encT w)] [AV.sl 1 0 w.length 2] [AV.slv w.length 2 (flatA encT w)] from (Reads.cons (Reads1.sl (t := 31) (xs := flatA encT w) (by kernel_rfl) (show ∀ (x : AV), x ∈ flatA encT w → noid0 x = true ∧ x ≠ AV.junk from n4) (show 0 + w.length * 2 ≤ (flatA encT w).length from (by omega)) tk) Reads.nil))
        have e6' := bd
        refine g_q [⟨5, [], .call (avOf e1') (blOf e1') []⟩, ⟨11, [], .call (avOf e2') (blOf e2') []⟩, ⟨18, [], .call (avOf e3') (blOf e3') [true]⟩, ⟨24, [.sel [3, 4, 8, 27, 28, 29], .keep [1, 2, 3] [false, false, true]], .loop (exOf e4') (endOf e4')⟩, ⟨26, [], .lend (rdOf e5') (avOf e6') (blOf e6') []⟩] [.sel [4, 5]] Exit.ret (stOf 48 [(4, AV.ptr 0 0), (5, AV.int .i64 e)] [Blk.row 24 [AV.nilsl], Blk.row 31 (flatA encT w)]) (And.intro (show 1 ≤ 1 from (by omega)) (And.intro e1' (And.intro (show 1 ≤ 1 from (by omega)) (And.intro e2' (And.intro (show 1 ≤ 1 from (by omega)) (And.intro (show ∀ (x : AV), x ∈ flatA encT b → plain0 x = true from encT_plain b) (And.intro e3' (And.intro (show 1 ≤ 1 from (by omega)) (And.intro (show ∀ (x : AV), x ∈ flatA encT b → noid0 x = true from encT_noid b) (And.intro e4' (And.intro e5' (And.intro (show (novR (AV.tuple [AV.agg [AV.nilsl], AV.int .i64 e]) && [].all novB) = true from (by kernel_rfl)) (And.intro e6' (show 1 ≤ 1 from (by omega))))))))))))))) ?_
        refine g_f [] [] (AV.tuple [AV.agg [AV.nilsl], AV.int .i64 e]) ([]) (show 1 ≤ 1 from (by omega)) ?_
        exact .inr ⟨hb0, rfl, rfl⟩
    · rw [if_neg h2]
      have hq : (ckF b == 0) = false := beq_eq_false_iff_ne.2 h2
      generalize ckF b = e at *
      have e1' := c1
      have e2' := c2
      refine g_q [⟨5, [], .call (avOf e1') (blOf e1') []⟩, ⟨11, [], .call (avOf e2') (blOf e2') []⟩, ⟨15, [], .br true .no⟩] [.sel [4, 5]] Exit.ret (stOf 48 [(4, AV.ptr 2 0), (5, AV.int .i64 e)] [Blk.row 24 [AV.slv a.length 2 (flatA encT a)], Blk.row 24 [AV.slv b.length 2 (flatA encT b)], Blk.row 24 [AV.nilsl]]) (And.intro (show 1 ≤ 1 from (by omega)) (And.intro e1' (And.intro (show 1 ≤ 1 from (by omega)) (And.intro e2' (And.intro (show (e != (0 : Int)) = true from (by simp_all; done)) (show 1 ≤ 1 from (by omega))))))) ?_
      refine g_f [] [] (AV.tuple [AV.agg [AV.nilsl], AV.int .i64 e]) ([]) (show 1 ≤ 1 from (by omega)) ?_
      exact .inr ⟨h2, rfl, rfl⟩
  · rw [if_neg h1]
    have hq : (ckF a == 0) = false := beq_eq_false_iff_ne.2 h1
    generalize ckF a = e at *
    have e1' := c1
    refine g_q [⟨5, [], .call (avOf e1') (blOf e1') []⟩, ⟨9, [], .br true .no⟩] [.sel [4, 5]] Exit.ret (stOf 48 [(4, AV.ptr 2 0), (5, AV.int .i64 e)] [Blk.row 24 [AV.slv a.length 2 (flatA encT a)], Blk.row 24 [AV.slv b.length 2 (flatA encT b)], Blk.row 24 [AV.nilsl]]) (And.intro (show 1 ≤ 1 from (by omega)) (And.intro e1' (And.intro (show (e != (0 : Int)) = true from (by simp_all; done)) (show 1 ≤ 1 from (by omega))))) ?_
    refine g_f [] [] (AV.tuple [AV.agg [AV.nilsl], AV.int .i64 e]) ([]) (show 1 ≤ 1 from (by omega)) ?_
    exact .inr ⟨h1, rfl, rfl⟩
end Go.Proofs.YtjgpojglgfddiaaDoor
namespace Go.Proofs.YtjgpojglgfddiaaDoor
open Go Go.RowKit V
set_option linter.unusedSimpArgs false
set_option linter.unusedVariables false
set_option maxHeartbeats 20000000
abbrev rmV : AV := .fn (.func 44) [] [.ptr 1 0]
abbrev rmH (l : List TE) (p : ByteArray) : List Blk := [.row 31 (flatA encT l), .row 9 [.str p]]
theorem rm1_v (x : TE) (p : ByteArray) : CallsV Tryd.prog 44 [.agg (encT x), .ptr 0 0] [.row 9 [.str p]] (fun av H' => av = .bool (x.1.toList == p.toList) ∧ H' = [.row 9 [.str p]]) := by
  refine callsG_at Tryd.func44 (by kernel_rfl) ?_
  unfold encT
  refine g_q [] [.sel [3]] Exit.ret (stOf 8 [(3, AV.bool (x.fst.toList == p.toList))] [Blk.row 9 [AV.str p], Blk.row 31 [AV.str x.fst, AV.str x.snd]]) (And.intro (show 1 ≤ 2 from (by omega)) (show 1 ≤ 1 from (by omega))) ?_
  refine g_f [0] [false] (AV.bool (x.fst.toList == p.toList)) ([Blk.row 9 [AV.str p]]) trivial ?_
  exact ⟨rfl, rfl⟩
def ixS (l : List TE) (p : ByteArray) (k : Nat) : St := stOf 19 [(0, .sl 0 0 l.length 2), (1, rmV), (7, .int .i64 (l.length : Int)), (8, .int .i64 (k : Int))] (rmH l p)
theorem ixRStep (l : List TE) (p : ByteArray) (hl : l.length ≤ 1000) (k : Nat) (hk : k < l.length) (h : (!((l.getD k tD).1.toList == p.toList)) = true) : GoV Tryd.prog 2 (loopB Tryd.f49 0) (isX .normal (ixS l p (k + 1))) (ixS l p k) := by
  have at1 : (flatA encT l).drop (0 + (k : Int).toNat * 2) = AV.str (l.getD k tD).1 :: AV.str (l.getD k tD).2 :: flatA encT (l.drop (k + 1)) := encT_at0 l k hk
  have g1 := encT_gk l k hk
  have hc := rm1_v (l.getD k tD) p
  generalize l.getD k tD = x at *
  rw [Bool.not_eq_true'] at h
  rw [h] at hc
  unfold encT at hc
  unfold ixS
  have e1' := (drop_ag0 (n := 2) (v := AV.agg [AV.str x.fst, AV.str x.snd]) at1 rfl)
  have e2' := hc
  have e3' := (congrArg (fun z => AV.int .i64 z) (wrap_i64 (e := (↑k : Int) + (1 : Int)) (by omega) (by omega)))
  exact g_x [⟨1, [], .br true .no⟩, ⟨8, [], .as (rhsOf e1')⟩, ⟨9, [], .callS [1] [false] (avOf e2') (blOf e2') [false]⟩, ⟨11, [], .as (rhsOf e3')⟩] [.sel [0, 1, 7, 8]] (And.intro (show decide ((↑k : Int) < (↑l.length : Int)) = true from (by rw [decide_eq_true_iff]; omega)) (And.intro (show (0 : Int) ≤ (↑k : Int) ∧ (↑k : Int) < (↑l.length : Int) from (by omega)) (And.intro (show 2 ≤ (List.drop (0 + (↑k : Int).toNat * 2) (flatA encT l)).length from (drop_le0 (n := 2) at1 (by simp))) (And.intro e1' (And.intro e2' e3')))))
theorem ixr_v (l : List TE) (p : ByteArray) (hl : l.length ≤ 1000) : CallsV Tryd.prog 49 [.sl 0 0 l.length 2, rmV] (rmH l p) (fun av H' => av = .int .i64 (if gtI l p < l.length then (gtI l p : Int) else -1) ∧ H' = rmH l p) := by
  refine callsG_at Tryd.func49 (by kernel_rfl) ?_
  unfold gtI
  rcases fstN_or (fun k => !((l.getD k tD).1.toList == p.toList)) l.length with ⟨h1, h2⟩ | ⟨h1, h2, h3⟩
  · have hL : LoopG Tryd.prog 2 Tryd.f49 0 (.exit 0) (stOf 19 [] (rmH l p)) (ixS l p 0) := by
      refine loopG_of l.length (fun i => ixS l p i) (by kernel_rfl) (by simp) (fun i hi => ixRStep l p hl i hi (h2 i hi)) ?_
      unfold ixS
      exact g_x [⟨1, [], .br false .no⟩] [.sel []] (show decide ((↑l.length : Int) < (↑l.length : Int)) = false from (by rw [decide_eq_false_iff_not]; omega))
    rw [h1, if_neg (by omega)]
    unfold ixS at hL
    have e1' := hL
    refine g_q [⟨4, [.sel [0, 1, 7, 8]], .loop (exOf e1') (endOf e1')⟩] [] Exit.ret (stOf 19 [(4, AV.int .i64 (-1 : Int))] [Blk.row 31 (flatA encT l), Blk.row 9 [AV.str p]]) e1' ?_
    refine g_f [0, 1] [true, false] (AV.int .i64 (-1 : Int)) ([Blk.row 31 (flatA encT l), Blk.row 9 [AV.str p]]) (show ∀ (x : AV), x ∈ flatA encT l → noid0 x = true from encT_noid l) ?_
    exact ⟨rfl, rfl⟩
  · generalize fstN (fun k => !((l.getD k tD).1.toList == p.toList)) l.length = m at *
    have hL : LoopG Tryd.prog 2 Tryd.f49 0 .ret (stOf 19 [(4, .int .i64 (m : Int))] (rmH l p)) (ixS l p 0) := by
      refine loopG_of m (fun i => ixS l p i) (by kernel_rfl) (by simp) (fun i hi => ixRStep l p hl i (by omega) (h2 i hi)) ?_
      have at1 : (flatA encT l).drop (0 + (m : Int).toNat * 2) = AV.str (l.getD m tD).1 :: AV.str (l.getD m tD).2 :: flatA encT (l.drop (m + 1)) := encT_at0 l m h1
      have g1 := encT_gk l m h1
      have hc := rm1_v (l.getD m tD) p
      generalize l.getD m tD = x at *
      rw [Bool.not_eq_false'] at h3
      rw [h3] at hc
      unfold encT at hc
      unfold ixS
      have e1' := (drop_ag0 (n := 2) (v := AV.agg [AV.str x.fst, AV.str x.snd]) at1 rfl)
      have e2' := hc
      exact g_x [⟨1, [], .br true .no⟩, ⟨8, [], .as (rhsOf e1')⟩, ⟨9, [], .callS [1] [false] (avOf e2') (blOf e2') [false]⟩] [.sel [4]] (And.intro (show decide ((↑m : Int) < (↑l.length : Int)) = true from (by rw [decide_eq_true_iff]; omega)) (And.intro (show (0 : Int) ≤ (↑m : Int) ∧ (↑m : Int) < (↑l.length : Int) from (by omega)) (And.intro (show 2 ≤ (List.drop (0 + (↑m : Int).toNat * 2) (flatA encT l)).length from (drop_le0 (n := 2) at1 (by simp))) (And.intro e1' e2'))))
    rw [if_pos h1]
    unfold ixS at hL
    have e1' := hL
    refine g_q [⟨4, [.sel [0, 1, 7, 8]], .loop (exOf e1') (endOf e1')⟩] [] Exit.ret (stOf 19 [(4, AV.int .i64 (↑m : Int))] [Blk.row 31 (flatA encT l), Blk.row 9 [AV.str p]]) e1' ?_
    refine g_f [0, 1] [true, false] (AV.int .i64 (↑m : Int)) ([Blk.row 31 (flatA encT l), Blk.row 9 [AV.str p]]) (show ∀ (x : AV), x ∈ flatA encT l → noid0 x = true from encT_noid l) ?_
    exact ⟨rfl, rfl⟩
def gaF (l : List TE) (p : ByteArray) : Nat → List TE
  | 0 => []
  | j + 1 => if (l.getD j tD).1.toList == p.toList then gaF l p j ++ [l.getD j tD] else if gaF l p j = [] then [] else (gaF l p j).tail ++ [l.getD j tD]
theorem gaF_len (l : List TE) (p : ByteArray) : ∀ j, j ≤ l.length → (woK l p j).length + (gaF l p j).length = j
  | 0, _ => by simp [woK, gaF]
  | j + 1, h => by
    have ih := gaF_len l p j (by omega)
    rw [woK_next l p j (by omega)]
    unfold gaF
    split
    · rw [List.length_append, List.length_singleton]; omega
    · rw [List.length_append, List.length_singleton]
      split
      · rename_i h0; rw [h0] at ih; simp at ih ⊢; omega
      · rename_i h0
        have := List.length_pos_iff.2 h0
        rw [List.length_append, List.length_singleton, List.length_tail]; omega
def dlL (l : List TE) (p : ByteArray) (j : Nat) : List TE := woK l p j ++ (gaF l p j ++ l.drop j)
theorem dlL_len (l : List TE) (p : ByteArray) (j : Nat) (h : j ≤ l.length) : (dlL l p j).length = l.length := by
  have := gaF_len l p j h
  unfold dlL
  rw [List.length_append, List.length_append, List.length_drop]; omega
theorem dlL_at (l : List TE) (p : ByteArray) (j : Nat) (h : j < l.length) : (dlL l p j).getD j tD = l.getD j tD := by
  have hl := gaF_len l p j (by omega)
  unfold dlL
  rw [← List.append_assoc, List.drop_eq_getElem_cons h, getD_get h]
  have := getD_app_mid (woK l p j ++ gaF l p j) l[j] (l.drop (j + 1)) tD
  rwa [List.length_append, hl] at this
theorem dlL_hit (l : List TE) (p : ByteArray) (j : Nat) (h : j < l.length) (hq : ((l.getD j tD).1.toList == p.toList) = true) : dlL l p (j + 1) = dlL l p j ∧ (woK l p (j + 1)).length = (woK l p j).length := by
  unfold dlL
  have e : gaF l p (j + 1) = gaF l p j ++ [l.getD j tD] := by rw [gaF, if_pos hq]
  rw [woK_next l p j h, if_pos hq, e, List.drop_eq_getElem_cons h, getD_get h]
  exact ⟨by simp, rfl⟩
theorem dlL_miss (l : List TE) (p : ByteArray) (j : Nat) (h : j < l.length) (hq : ((l.getD j tD).1.toList == p.toList) = false) (hg : gaF l p j ≠ []) : dlL l p (j + 1) = (dlL l p j).set (woK l p j).length (l.getD j tD) ∧ (woK l p (j + 1)).length = (woK l p j).length + 1 := by
  unfold dlL
  rw [woK_next l p j h, hq, if_neg (by decide)]
  have e : gaF l p (j + 1) = (gaF l p j).tail ++ [l.getD j tD] := by
    rw [gaF, hq, if_neg (by decide), if_neg hg]
  rw [e, List.drop_eq_getElem_cons h, getD_get h]
  obtain ⟨g, T, hT⟩ := List.exists_cons_of_ne_nil hg
  rw [hT]
  refine ⟨?_, by simp⟩
  rw [List.set_append_right _ _ (Nat.le_refl _), Nat.sub_self]
  simp
theorem woK_before (l : List TE) (p : ByteArray) : ∀ j, j ≤ l.length → j ≤ gtI l p → woK l p j = l.take j ∧ gaF l p j = []
  | 0, _, _ => by simp [woK, gaF]
  | j + 1, h, hj => by
    obtain ⟨h1, h2⟩ := woK_before l p j (by omega) (by omega)
    have hq : ((l.getD j tD).1.toList == p.toList) = false := by
      unfold gtI at hj
      rcases fstN_or (fun k => !((l.getD k tD).1.toList == p.toList)) l.length with ⟨k1, k2⟩ | ⟨k1, k2, k3⟩
      · have := k2 j (by omega); simpa using this
      · have := k2 j (by omega); simpa using this
    rw [woK_next l p j (by omega), hq, if_neg (by decide), h1]
    refine ⟨(take_snoc (by omega)).symm, ?_⟩
    rw [gaF, hq, if_neg (by decide), if_pos h2]
theorem ga_after (l : List TE) (p : ByteArray) (hm : gtI l p < l.length) : ∀ j, gtI l p < j → gaF l p j ≠ []
  | 0, h => by omega
  | j + 1, h => by
    unfold gaF
    split
    · simp
    · rename_i hq
      rcases Nat.lt_or_ge (gtI l p) j with q | q
      · rw [if_neg (ga_after l p hm j q)]; simp
      · obtain rfl : j = gtI l p := by omega
        exact absurd ((beqL_iff _ _).2 (gt_at hm)) hq
def dlS (N : Nat) (d : List TE) (p : ByteArray) (i j : Nat) : St := stOf 42 [(0, .sl 0 0 N 2), (1, rmV), (5, .int .i64 (i : Int)), (6, .int .i64 (j : Int))] (rmH d p)
theorem dl_hit (N : Nat) (d : List TE) (p : ByteArray) (i j : Nat) (hN : d.length = N) (hd : N ≤ 1000) (hj : j < N) (hi : i ≤ 1000) (h : ((d.getD j tD).1.toList == p.toList) = true) : GoV Tryd.prog 2 (loopB Tryd.f43 0) (isX .normal (dlS N d p i (j + 1))) (dlS N d p i j) := by
  subst hN
  have at1 : (flatA encT d).drop (0 + (j : Int).toNat * 2) = AV.str (d.getD j tD).1 :: AV.str (d.getD j tD).2 :: flatA encT (d.drop (j + 1)) := encT_at0 d j hj
  have g1 := encT_gk d j hj
  have hc := rm1_v (d.getD j tD) p
  rw [h] at hc
  generalize d.getD j tD = x at *
  unfold encT at hc
  unfold dlS
  have e1' := (drop_ag0 (n := 2) (v := AV.agg [AV.str x.fst, AV.str x.snd]) at1 rfl)
  have e2' := hc
  have e3' := (congrArg (fun z => AV.int .i64 z) (wrap_i64 (e := (↑j : Int) + (1 : Int)) (by omega) (by omega)))
  exact g_x [⟨4, [], .br true .no⟩, ⟨8, [], .as (rhsOf e1')⟩, ⟨13, [], .callS [1] [false] (avOf e2') (blOf e2') [false]⟩, ⟨17, [], .as (rhsOf e3')⟩] [.sel [0, 1, 5, 6], .keep [0, 1] [true, false]] (And.intro (show decide ((↑j : Int) < (↑d.length : Int)) = true from (by rw [decide_eq_true_iff]; omega)) (And.intro (show (0 : Int) ≤ (↑j : Int) ∧ (↑j : Int) < (↑d.length : Int) from (by omega)) (And.intro (show 2 ≤ (List.drop (0 + (↑j : Int).toNat * 2) (flatA encT d)).length from (drop_le0 (n := 2) at1 (by simp))) (And.intro e1' (And.intro (show 2 ≤ 2 from (by omega)) (And.intro (show 2 ≤ 2 from (by omega)) (And.intro e2' (And.intro e3' (show ∀ (x : AV), x ∈ flatA encT d → noid0 x = true from encT_noid d)))))))))
theorem dl_miss (N : Nat) (d : List TE) (p : ByteArray) (i j : Nat) (hN : d.length = N) (hd : N ≤ 1000) (hj : j < N) (hi : i < N) (h : ((d.getD j tD).1.toList == p.toList) = false) : GoV Tryd.prog 2 (loopB Tryd.f43 0) (isX .normal (dlS N (d.set i (d.getD j tD)) p (i + 1) (j + 1))) (dlS N d p i j) := by
  subst hN
  have at1 : (flatA encT d).drop (0 + (j : Int).toNat * 2) = AV.str (d.getD j tD).1 :: AV.str (d.getD j tD).2 :: flatA encT (d.drop (j + 1)) := encT_at0 d j hj
  have g1 := encT_gk d j hj
  have g2 := encT_gk d i hi
  have hc := rm1_v (d.getD j tD) p
  rw [h] at hc
  generalize d.getD j tD = x at *
  have s1 := encT_set d i hi x
  unfold encT at hc
  unfold dlS
  have e1' := (drop_ag0 (n := 2) (v := AV.agg [AV.str x.fst, AV.str x.snd]) at1 rfl)
  have e2' := hc
  have e3' := (congrArg (fun z => Blk.row 31 z) s1)
  have e4' := (congrArg (fun z => AV.int .i64 z) (wrap_i64 (e := (↑i : Int) + (1 : Int)) (by omega) (by omega)))
  have e5' := (congrArg (fun z => AV.int .i64 z) (wrap_i64 (e := (↑j : Int) + (1 : Int)) (by omega) (by omega)))
  exact g_x [⟨4, [], .br true .no⟩, ⟨8, [], .as (rhsOf e1')⟩, ⟨13, [], .callS [1] [false] (avOf e2') (blOf e2') [false]⟩, ⟨21, [.hp 0 (rhsOf e3')], .no⟩, ⟨22, [], .as (rhsOf e4')⟩, ⟨25, [], .as (rhsOf e5')⟩] [.sel [0, 1, 5, 6], .keep [0, 1] [true, false]] (And.intro (show decide ((↑j : Int) < (↑d.length : Int)) = true from (by rw [decide_eq_true_iff]; omega)) (And.intro (show (0 : Int) ≤ (↑j : Int) ∧ (↑j : Int) < (↑d.length : Int) from (by omega)) (And.intro (show 2 ≤ (List.drop (0 + (↑j : Int).toNat * 2) (flatA encT d)).length from (drop_le0 (n := 2) at1 (by simp))) (And.intro e1' (And.intro (show 2 ≤ 2 from (by omega)) (And.intro (show 2 ≤ 2 from (by omega)) (And.intro e2' (And.intro (show 2 ≤ 2 from (by omega)) (And.intro (show (0 : Int) ≤ (↑i : Int) ∧ (↑i : Int) < (↑d.length : Int) from (by omega)) (And.intro (show 0 + (↑i : Int).toNat * 2 + 2 ≤ (flatA encT d).length from (by ((try intro h); simp_all; omega))) (And.intro (congrArg some e3') (And.intro e4' (And.intro e5' (show ∀ (x_1 : AV), x_1 ∈ flatA encT (d.set i x) → noid0 x_1 = true from encT_noid (d.set i x)))))))))))))))
theorem dl_end (N : Nat) (d : List TE) (p : ByteArray) (i : Nat) : GoV Tryd.prog 2 (loopB Tryd.f43 0) (isX (.exit 0) (stOf 42 [(0, .sl 0 0 N 2), (5, .int .i64 (i : Int))] (rmH d p))) (dlS N d p i N) := by
  unfold dlS
  exact g_x [⟨4, [], .br false .no⟩] [.sel [0, 5]] (show decide ((↑N : Int) < (↑N : Int)) = false from (by rw [decide_eq_false_iff_not]; omega))
theorem dl_loop (l : List TE) (p : ByteArray) (hl : l.length ≤ 1000) (hm : gtI l p < l.length) : LoopG Tryd.prog 2 Tryd.f43 0 (.exit 0) (stOf 42 [(0, .sl 0 0 l.length 2), (5, .int .i64 ((woK l p l.length).length : Int))] (rmH (dlL l p l.length) p)) (dlS l.length l p (gtI l p) (gtI l p + 1)) := by
  have hit : ((l.getD (gtI l p) tD).1.toList == p.toList) = true := (beqL_iff _ _).2 (gt_at hm)
  obtain ⟨b1, b2⟩ := woK_before l p (gtI l p) (by omega) (Nat.le_refl _)
  refine loopG_of (l.length - (gtI l p + 1)) (fun k => dlS l.length (dlL l p (gtI l p + 1 + k)) p (woK l p (gtI l p + 1 + k)).length (gtI l p + 1 + k)) ?_ (by simp) ?_ ?_
  · rw [Nat.add_zero, (dlL_hit l p _ hm hit).1, (dlL_hit l p _ hm hit).2]
    unfold dlL
    rw [b1, b2, List.nil_append, List.take_append_drop, List.length_take, Nat.min_eq_left (by omega)]
  · intro k hk
    have hg := ga_after l p hm (gtI l p + 1 + k) (by omega)
    have hlen := dlL_len l p (gtI l p + 1 + k) (by omega)
    have hat := dlL_at l p (gtI l p + 1 + k) (by omega)
    have hw := woK_len l p (gtI l p + 1 + k)
    have hga := gaF_len l p (gtI l p + 1 + k) (by omega)
    have hgp := List.length_pos_iff.2 hg
    rw [show gtI l p + 1 + (k + 1) = (gtI l p + 1 + k) + 1 by omega]
    have hjl : gtI l p + 1 + k < l.length := by omega
    generalize gtI l p + 1 + k = j at *
    cases hq : ((l.getD j tD).1.toList == p.toList) with
    | true =>
      rw [(dlL_hit l p j (by omega) hq).1, (dlL_hit l p j (by omega) hq).2]
      exact dl_hit _ _ p _ j hlen hl (by omega) (by omega) (by rw [hat]; exact hq)
    | false =>
      rw [(dlL_miss l p j (by omega) hq hg).1, (dlL_miss l p j (by omega) hq hg).2, ← hat]
      exact dl_miss _ _ p _ j hlen hl (by omega) (by omega) (by rw [hat]; exact hq)
  · rw [show gtI l p + 1 + (l.length - (gtI l p + 1)) = l.length by omega]
    exact dl_end _ _ _ _
def blZ (n : Nat) : List TE := List.replicate n tD
theorem zeros_two (a b : AV) : ∀ n : Nat, zerosL [a, b] (n * 2) = flatA (fun _ : TE => [a, b]) (blZ n)
  | 0 => rfl
  | n + 1 => by
    have ih := zeros_two a b n
    unfold zerosL at ih ⊢
    have e : blZ (n + 1) = blZ n ++ [tD] := by unfold blZ; rw [List.replicate_succ']
    rw [e, flatA_append, ← ih, show (n + 1) * 2 = n * 2 + 1 + 1 by omega, List.range_succ, List.range_succ, List.map_append, List.map_append, List.append_assoc]
    congr 1
    simp only [List.map_cons, List.map_nil, List.length_cons, List.length_nil, Nat.zero_add, List.cons_append, List.nil_append]
    rw [show n * 2 % 2 = 0 by omega, show (n * 2 + 1) % 2 = 1 by omega]
    rfl
theorem zeros_T (n : Nat) : zerosL [AV.str (ByteArray.mk #[]), AV.str (ByteArray.mk #[])] (n * 2) = flatA encT (blZ n) := by
  rw [zeros_two]
  unfold blZ
  induction n with
  | zero => rfl
  | succ n ih =>
    rw [List.replicate_succ]
    show [AV.str (ByteArray.mk #[]), AV.str (ByteArray.mk #[])] ++ flatA _ (List.replicate n tD) = encT tD ++ flatA encT (List.replicate n tD)
    rw [ih]
    rfl
theorem cl_row (w d : List TE) (N : Nat) (hd : d.length = N) (hw : w.length ≤ N) (e : ∃ G, d = w ++ G) : List.take (0 + (w.length : Int).toNat * 2) (flatA encT d) ++ zerosL [AV.str (ByteArray.mk #[]), AV.str (ByteArray.mk #[])] (((N : Int).toNat - (w.length : Int).toNat) * 2) ++ List.drop (0 + (w.length : Int).toNat * 2 + ((N : Int).toNat - (w.length : Int).toNat) * 2) (flatA encT d) = flatA encT (w ++ blZ (N - w.length)) := by
  obtain ⟨G, rfl⟩ := e
  rw [Int.toNat_natCast, Int.toNat_natCast, Nat.zero_add, zeros_T, flatA_append, flatA_append]
  rw [List.take_left' (encT_len w)]
  rw [List.drop_of_length_le (by rw [List.length_append, encT_len, encT_len]; rw [List.length_append] at hd; omega), List.append_nil]
theorem del_v (l : List TE) (p : ByteArray) (hl : l.length ≤ 1000) (hm : gtI l p < l.length) : CallsV Tryd.prog 43 [.sl 0 0 l.length 2, rmV] (rmH l p) (fun av H' => av = .sl 0 0 (woK l p l.length).length 2 ∧ H' = rmH (woK l p l.length ++ blZ (l.length - (woK l p l.length).length)) p) := by
  refine callsG_at Tryd.func43 (by kernel_rfl) ?_
  have ix := ixr_v l p hl
  rw [if_pos hm] at ix
  have lo := dl_loop l p hl hm
  have hd := dlL_len l p l.length (Nat.le_refl _)
  have hge := encT_ge (dlL l p l.length)
  have hw := woK_len l p l.length
  have cr := cl_row (woK l p l.length) (dlL l p l.length) l.length hd hw ⟨_, rfl⟩
  rw [hd] at hge
  have n1 := encT_noid l
  have n2 := encT_noid (dlL l p l.length)
  have n4 := encT_noid (woK l p l.length ++ blZ (l.length - (woK l p l.length).length))
  rw [← cr] at n4
  unfold dlS at lo
  generalize dlL l p l.length = d at *
  generalize woK l p l.length = w at *
  generalize gtI l p = m at *
  have e1' := ix
  have e2' := (congrArg (fun z => AV.int .i64 z) (wrap_i64 (e := (↑m : Int) + (1 : Int)) (by omega) (by omega)))
  have e3' := lo
  refine g_q [⟨3, [], .callS [0, 1] [true, false] (avOf e1') (blOf e1') [true, false]⟩, ⟨9, [], .as (rhsOf e2')⟩, ⟨11, [.sel [0, 1, 5, 6]], .loop (exOf e3') (endOf e3')⟩] [.sel [4]] Exit.ret (stOf 42 [(4, AV.sl 0 0 ((↑w.length : Int).toNat - Int.toNat (0 : Int)) 2)] [Blk.row 31 (List.take (0 + (↑w.length : Int).toNat * 2) (flatA encT d) ++ zerosL [AV.str (ByteArray.mk #[]), AV.str (ByteArray.mk #[])] (((↑l.length : Int).toNat - (↑w.length : Int).toNat) * 2) ++ List.drop (0 + (↑w.length : Int).toNat * 2 + ((↑l.length : Int).toNat - (↑w.length : Int).toNat) * 2) (flatA encT d)), Blk.row 9 [AV.str p]]) (And.intro (show ∀ (x : AV), x ∈ flatA encT l → noid0 x = true from n1) (And.intro (show ∀ (x : AV), x ∈ flatA encT l → noid0 x = true from n1) (And.intro e1' (And.intro e2' (And.intro e3' (And.intro (show (0 : Int) ≤ (↑w.length : Int) ∧ (↑w.length : Int) ≤ (↑l.length : Int) ∧ (↑l.length : Int) ≤ (↑l.length : Int) from (by omega)) (And.intro (show 0 + (↑w.length : Int).toNat * 2 + ((↑l.length : Int).toNat - (↑w.length : Int).toNat) * 2 ≤ (flatA encT d).length from (by omega)) (show (0 : Int) ≤ (0 : Int) ∧ (0 : Int) ≤ (↑w.length : Int) ∧ (↑w.length : Int) ≤ (↑l.length : Int) from (by omega))))))))) ?_
  refine g_f [0, 1] [true, false] (AV.sl 0 0 ((↑w.length : Int).toNat - Int.toNat (0 : Int)) 2) ([Blk.row 31 (List.take (0 + (↑w.length : Int).toNat * 2) (flatA encT d) ++ zerosL [AV.str (ByteArray.mk #[]), AV.str (ByteArray.mk #[])] (((↑l.length : Int).toNat - (↑w.length : Int).toNat) * 2) ++ List.drop (0 + (↑w.length : Int).toNat * 2 + ((↑l.length : Int).toNat - (↑w.length : Int).toNat) * 2) (flatA encT d)), Blk.row 9 [AV.str p]]) (show ∀ (x : AV), x ∈ List.take (0 + (↑w.length : Int).toNat * 2) (flatA encT d) ++ zerosL [AV.str (ByteArray.mk #[]), AV.str (ByteArray.mk #[])] (((↑l.length : Int).toNat - (↑w.length : Int).toNat) * 2) ++ List.drop (0 + (↑w.length : Int).toNat * 2 + ((↑l.length : Int).toNat - (↑w.length : Int).toNat) * 2) (flatA encT d) → noid0 x = true from n4) ?_
  exact ⟨by rw [Int.toNat_natCast]; rfl, by rw [cr]⟩
theorem del_0 (l : List TE) (p : ByteArray) (hl : l.length ≤ 1000) (hm : ¬ gtI l p < l.length) : CallsV Tryd.prog 43 [.sl 0 0 l.length 2, rmV] (rmH l p) (fun av H' => av = .sl 0 0 l.length 2 ∧ H' = rmH l p) := by
  refine callsG_at Tryd.func43 (by kernel_rfl) ?_
  have ix := ixr_v l p hl
  rw [if_neg hm] at ix
  have n1 := encT_noid l
  have e1' := ix
  refine g_q [⟨3, [], .callS [0, 1] [true, false] (avOf e1') (blOf e1') [true, false]⟩] [.sel [4]] Exit.ret (stOf 42 [(4, AV.sl 0 0 l.length 2)] [Blk.row 31 (flatA encT l), Blk.row 9 [AV.str p]]) (And.intro (show ∀ (x : AV), x ∈ flatA encT l → noid0 x = true from n1) (And.intro (show ∀ (x : AV), x ∈ flatA encT l → noid0 x = true from n1) e1')) ?_
  refine g_f [0, 1] [true, false] (AV.sl 0 0 l.length 2) ([Blk.row 31 (flatA encT l), Blk.row 9 [AV.str p]]) (show ∀ (x : AV), x ∈ flatA encT l → noid0 x = true from n1) ?_
  exact ⟨rfl, rfl⟩
theorem callsV_cut {P : Program} {f : FuncId} {args : List AV} {x : AV} {t : TypeId} {xs : List AV} (n : Nat) (h : CallsV P f args [] fun a b => a = x ∧ b = [.row t xs]) : CallsV P f args [] fun a b => a = x ∧ b = [.row t (xs.take n)] := fun p w vals hH hv =>
  (h p w vals hH hv).mono fun e w' ⟨v, av, H', p', h1, ⟨h2, h2'⟩, h3, h4, h5⟩ => by
    subst h2'
    exact ⟨v, av, _, p', h1, ⟨h2, rfl⟩, cut_ok h3 (id := 0) rfl n, h4, h5⟩
theorem remove_v (l : List TE) (p : ByteArray) (hl : l.length ≤ 1000) : CallsV Tryd.prog 26 [treeV l, .str p] [] (fun av H' => av = .tuple [.agg [.sl 0 0 (woK l p l.length).length 2], .bool (gtF l p).2] ∧ H' = [.row 31 (flatA encT (woK l p l.length))]) := by
  have main : ∃ Z, CallsV Tryd.prog 26 [treeV l, .str p] [] (fun av H' => av = .tuple [.agg [.sl 0 0 (woK l p l.length).length 2], .bool (gtF l p).2] ∧ H' = [.row 31 (flatA encT (woK l p l.length ++ Z))]) := by
    have cl := clone_a l (by omega)
    have n1 := encT_noid l
    have n2 := encT_plain l
    have n3 := encT_lend l
    rw [← wo_short]
    by_cases hm : gtI l p < l.length
    · refine ⟨blZ (l.length - (woK l p l.length).length), ?_⟩
      refine callsG_at Tryd.func26 (by kernel_rfl) ?_
      have dl := del_v l p hl hm
      have hw := woK_len l p l.length
      have m1 := encT_noid (woK l p l.length ++ blZ (l.length - (woK l p l.length).length))
      have m2 := encT_plain (woK l p l.length ++ blZ (l.length - (woK l p l.length).length))
      generalize woK l p l.length ++ blZ (l.length - (woK l p l.length).length) = d at *
      generalize woK l p l.length = w at *
      clear cl
      have cl := clone_a l (by omega)
      unfold rmH at dl
      have e1' := cl
      have e2' := dl
      refine g_qB [⟨6, [], .call (avOf e1') (blOf e1') [true]⟩, ⟨10, [], .callS [3, 1] [true, false] (avOf e2') (blOf e2') [true, false]⟩] [.sel [4, 5]] Exit.ret (stOf 21 [(4, AV.ptr 2 0), (5, AV.bool (decide ((↑w.length : Int) < (↑l.length : Int))))] [Blk.row 24 [AV.slv l.length 2 (flatA encT l)], Blk.row 9 [AV.str p], Blk.row 24 [AV.sl 3 0 w.length 2], Blk.row 31 (flatA encT d)]) (And.intro (show 1 ≤ 1 from (by omega)) (And.intro (show ∀ (x : AV), x ∈ flatA encT l → plain0 x = true from n2) (And.intro e1' (And.intro (show ∀ (x : AV), x ∈ flatA encT l → noid0 x = true from n1) (And.intro (show ∀ (x : AV), x ∈ flatA encT d → noid0 x = true from m1) (And.intro e2' (And.intro (show 1 ≤ 1 from (by omega)) (And.intro (show 1 ≤ 1 from (by omega)) (And.intro (show 1 ≤ 1 from (by omega)) (And.intro (show 1 ≤ 1 from (by omega)) (And.intro (show 1 ≤ 1 from (by omega)) (And.intro (show 1 ≤ 1 from (by omega)) (And.intro (show 1 ≤ 1 from (by omega)) (And.intro (show 1 ≤ 1 from (by omega)) (And.intro (show 1 ≤ 1 from (by omega)) (And.intro (show 1 ≤ 1 from (by omega)) (show 1 ≤ 1 from (by omega)))))))))))))))))) ?_
      refine g_f [3] [true] (AV.tuple [AV.agg [AV.sl 0 0 w.length 2], AV.bool (decide ((↑w.length : Int) < (↑l.length : Int)))]) ([Blk.row 31 (flatA encT d)]) (And.intro (show 1 ≤ 1 from (by omega)) (show ∀ (x : AV), x ∈ flatA encT d → noid0 x = true from m1)) ?_
      exact ⟨rfl, rfl⟩
    · refine ⟨[], ?_⟩
      rw [wo_miss hm, List.append_nil]
      refine callsG_at Tryd.func26 (by kernel_rfl) ?_
      have dl := del_0 l p hl hm
      unfold rmH at dl
      have e1' := cl
      have e2' := dl
      refine g_qB [⟨6, [], .call (avOf e1') (blOf e1') [true]⟩, ⟨10, [], .callS [3, 1] [true, false] (avOf e2') (blOf e2') [true, false]⟩] [.sel [4, 5]] Exit.ret (stOf 21 [(4, AV.ptr 2 0), (5, AV.bool (decide ((↑l.length : Int) < (↑l.length : Int))))] [Blk.row 24 [AV.slv l.length 2 (flatA encT l)], Blk.row 9 [AV.str p], Blk.row 24 [AV.sl 3 0 l.length 2], Blk.row 31 (flatA encT l)]) (And.intro (show 1 ≤ 1 from (by omega)) (And.intro (show ∀ (x : AV), x ∈ flatA encT l → plain0 x = true from n2) (And.intro e1' (And.intro (show ∀ (x : AV), x ∈ flatA encT l → noid0 x = true from n1) (And.intro (show ∀ (x : AV), x ∈ flatA encT l → noid0 x = true from n1) (And.intro e2' (And.intro (show 1 ≤ 1 from (by omega)) (And.intro (show 1 ≤ 1 from (by omega)) (And.intro (show 1 ≤ 1 from (by omega)) (And.intro (show 1 ≤ 1 from (by omega)) (And.intro (show 1 ≤ 1 from (by omega)) (And.intro (show 1 ≤ 1 from (by omega)) (And.intro (show 1 ≤ 1 from (by omega)) (And.intro (show 1 ≤ 1 from (by omega)) (And.intro (show 1 ≤ 1 from (by omega)) (And.intro (show 1 ≤ 1 from (by omega)) (show 1 ≤ 1 from (by omega)))))))))))))))))) ?_
      refine g_f [3] [true] (AV.tuple [AV.agg [AV.sl 0 0 l.length 2], AV.bool (decide ((↑l.length : Int) < (↑l.length : Int)))]) ([Blk.row 31 (flatA encT l)]) (And.intro (show 1 ≤ 1 from (by omega)) (show ∀ (x : AV), x ∈ flatA encT l → noid0 x = true from n1)) ?_
      exact ⟨rfl, rfl⟩
  obtain ⟨Z, h⟩ := main
  have := callsV_cut ((woK l p l.length).length * 2) h
  rw [flatA_append, List.take_left' (encT_len _)] at this
  exact this
end Go.Proofs.YtjgpojglgfddiaaDoor
namespace Go.Proofs.YtjgpojglgfddiaaDoor
open Go Go.RowKit V
set_option linter.unusedSimpArgs false
set_option linter.unusedVariables false
set_option maxHeartbeats 20000000
/-- what stands for an own row as a value -/
def RdV (H : List Blk) (x y : AV) : Prop := ∀ (p p1 : Pl) (w : World) (v : Value), RH p H w → Lends (fun _ => true) p p1 → Rep p w v x → Rep p1 w v y
theorem callsV_val {P : Program} {f : FuncId} {args : List AV} {x y : AV} {H : List Blk} (h : CallsV P f args [] fun a b => a = x ∧ b = H) (hr : RdV H x y) : CallsV P f args [] fun a b => a = y ∧ b = [] := fun p w vals hH hv =>
  (h p w vals hH hv).mono fun e w' ⟨v, av, H', p', h1, ⟨h2, h2'⟩, h3, h4, h5⟩ => by
    subst h2 h2'
    have hn : p.n = 0 := hH.n
    obtain ⟨k1, k2, _⟩ := keep_ok (keep := []) (H' := []) h5 h3 (by rw [hn]; exact keep_nil _)
    exact ⟨v, _, [], p'.keep [], h1, ⟨rfl, rfl⟩, k1, hr _ _ _ _ h3 (lends0 h3 (fun _ => true)) h4, k2⟩
theorem rd_sl {t : TypeId} {xs : List AV} {len sz : Nat} (hn : ∀ x ∈ xs, noid0 x = true ∧ x ≠ .junk) (hl : len * sz = xs.length) : RdV [.row t xs] (.sl 0 0 len sz) (.slv len sz xs) := fun p p1 w v hH hL h => by
  have := reads_sl (st := 0) (p1 := p1) rfl hn (by omega) hH hL h
  rwa [List.drop_zero, hl, List.take_length] at this
theorem rd_agg {t : TypeId} {xs : List AV} {len sz : Nat} (hn : ∀ x ∈ xs, noid0 x = true ∧ x ≠ .junk) (hl : len * sz = xs.length) : RdV [.row t xs] (.agg [.sl 0 0 len sz]) (.agg [.slv len sz xs]) := fun p p1 w v hH hL h => by
  obtain ⟨vs, e1, e2, e3⟩ := h
  refine ⟨vs, e1, e2, fun i i1 i2 => ?_⟩
  simp only [List.length_cons, List.length_nil] at i2
  obtain rfl : i = 0 := by omega
  have h0 := e3 0 i1 (by simp)
  exact ⟨h0.1, (rd_sl (t := t) hn hl p p1 w _ hH hL h0.2 : Rep p1 w _ (.slv len sz xs))⟩
theorem rd_tup {H : List Blk} {cs ds : List AV} {y : AV} (hy : (∃ n, y = .int .i64 n) ∨ ∃ b, y = .bool b) (h : RdV H (.agg cs) (.agg ds)) : RdV H (.tuple [.agg cs, y]) (.tuple [.agg ds, y]) := fun p p1 w v hH hL hv => by
  obtain ⟨vs, e1, e2, e3⟩ := hv
  refine ⟨vs, e1, e2, fun i i1 i2 => ?_⟩
  simp only [List.length_cons, List.length_nil] at i2
  rcases i with _ | _ | i
  · have h0 : Rep p w vs.toList[0] (.agg cs) := e3 0 i1 (by simp)
    exact h p p1 w _ hH hL h0
  · rcases hy with ⟨n, rfl⟩ | ⟨b, rfl⟩
    · have h0 : RepF p.M w vs.toList[1] (.int .i64 n) := e3 1 i1 (by simp)
      have h2 : ∃ z, vs.toList[1] = z ∧ RepF p.M w z (.int .i64 n) := ⟨_, rfl, h0⟩
      obtain ⟨z, hz, hz2⟩ := h2
      show Rep1 p1 w vs.toList[1] (.int .i64 n)
      rw [hz]
      cases hz2
      exact RepF.int _ _
    · have h0 : RepF p.M w vs.toList[1] (.bool b) := e3 1 i1 (by simp)
      have h2 : ∃ z, vs.toList[1] = z ∧ RepF p.M w z (.bool b) := ⟨_, rfl, h0⟩
      obtain ⟨z, hz, hz2⟩ := h2
      show Rep1 p1 w vs.toList[1] (.bool b)
      rw [hz]
      cases hz2
      exact RepF.bool b
  · omega
theorem rd_nil : RdV [] (.agg [.nilsl]) (treeV []) := fun p p1 w v hH hL h => by
  obtain ⟨vs, e1, e2, e3⟩ := h
  refine ⟨vs, e1, e2, fun i i1 i2 => ?_⟩
  simp only [List.length_cons, List.length_nil] at i2
  obtain rfl : i = 0 := by omega
  have h0 := e3 0 i1 (by simp)
  refine ⟨h0.1, ?_⟩
  have h1 : RepF p.M w vs.toList[0] .nilsl := h0.2
  have h2 : ∃ z, vs.toList[0] = z ∧ RepF p.M w z .nilsl := ⟨_, rfl, h1⟩
  obtain ⟨z, hz, hz2⟩ := h2
  show Rep0 p1 w vs.toList[0] (.slv 0 2 [])
  rw [hz]
  cases hz2
  exact nil_slv0 2 (by omega) p1 w _ (RepF.nilsl)
theorem rd_tree (l : List TE) : RdV [.row 31 (flatA encT l)] (.agg [.sl 0 0 l.length 2]) (treeV l) := rd_agg (encT_lend l) (encT_len l).symm
/-- a tree and an error -/
theorem val_err {f : FuncId} {args : List AV} {e : Int} {l : List TE} (h : CallsV Tryd.prog f args [] (fun av H' => (e = 0 ∧ av = .tuple [.agg [.sl 0 0 l.length 2], .int .i64 0] ∧ H' = [.row 31 (flatA encT l)]) ∨ (e ≠ 0 ∧ av = .tuple [.agg [.nilsl], .int .i64 e] ∧ H' = []))) : CallsV Tryd.prog f args [] (fun av H' => av = .tuple [treeV (if e = 0 then l else []), .int .i64 e] ∧ H' = []) := by
  by_cases he : e = 0
  · rw [if_pos he]
    subst he
    exact callsV_val (h.mono fun av H' q => by
      rcases q with ⟨_, q⟩ | ⟨q, _⟩
      · exact q
      · exact absurd rfl q) (rd_tup (.inl ⟨_, rfl⟩) (rd_tree l))
  · rw [if_neg he]
    exact callsV_val (h.mono fun av H' q => by
      rcases q with ⟨q, _⟩ | ⟨_, q⟩
      · exact absurd q he
      · exact q) (rd_tup (.inl ⟨_, rfl⟩) rd_nil)
def ptO (l : List TE) (x : TE) : List TE := if ptF l x = 0 then sortR (ptL l x) else []
def ovO (a b : List TE) : List TE := if ovF a b = 0 then sortR (ovK a b a.length) else []
theorem putR_w (l : List TE) (x : TE) (hl : l.length ≤ 900) (hok : ∀ x ∈ l, OkT x) (hx : OkT x) : CallsV Tryd.prog 25 [treeV l, .str x.1, .str x.2] [] (fun av H' => av = .tuple [treeV (ptO l x), .int .i64 (ptF l x)] ∧ H' = []) := val_err (putR l x hl hok hx)
theorem put_w (l : List TE) (x : TE) (hl : l.length ≤ 900) (hok : ∀ x ∈ l, OkT x) (hx : OkT x) : CallsV Tryd.prog 24 [treeV l, .str x.1, .str x.2] [] (fun av H' => av = .tuple [treeV (ptO l x), .int .i64 (ptF l x)] ∧ H' = []) := val_err (put_v l x hl hok hx)
theorem remove_w (l : List TE) (p : ByteArray) (hl : l.length ≤ 1000) : CallsV Tryd.prog 26 [treeV l, .str p] [] (fun av H' => av = .tuple [treeV (woK l p l.length), .bool (gtF l p).2] ∧ H' = []) := callsV_val (remove_v l p hl) (rd_tup (.inr ⟨_, rfl⟩) (rd_tree _))
theorem diff_w (a b : List TE) (ha : a.length ≤ 1000) (hb : b.length ≤ 1000) : CallsV Tryd.prog 32 [treeV a, treeV b] [] (fun av H' => av = .slv (dfD a b).length 2 (flatA encC (dfD a b)) ∧ H' = []) := callsV_val (diff_v a b ha hb) (rd_sl (encC_lend _) (encC_len _).symm)
theorem entries_w (l : List (Int × Int)) (hl : l.length ≤ 9223372036854775807) (hz : ∀ x ∈ l, (0 ≤ x.1 ∧ x.1 ≤ 255) ∧ 0 ≤ x.2 ∧ x.2 ≤ 255) : CallsV Tryd.prog 20 [.slv l.length 2 (flatA encB l)] [] (fun av H' => av = filesV (enK l (enN l)) ∧ H' = []) := callsV_val (entries_v l hl hz) (rd_sl (encT_lend _) (encT_len _).symm)
end Go.Proofs.YtjgpojglgfddiaaDoor
namespace Go.Proofs.YtjgpojglgfddiaaDoor
open Go Go.RowKit V
set_option linter.unusedSimpArgs false
set_option linter.unusedVariables false
set_option maxHeartbeats 20000000
theorem nil_arg (p : Pl) (w : World) (v : Value) (h : Rep p w v (.agg [.nilsl])) : Rep p w v (treeV []) :=
  agg_weak (cs := [.nilsl]) (cs' := [.slv 0 2 []]) rfl (fun i h1 h2 p w v hv => by
    simp only [List.length_cons, List.length_nil] at h1
    obtain rfl : i = 0 := by omega
    exact nil_slv0 2 (by omega) p w v hv) p w v h
theorem callsV_nil {P : Program} {f : FuncId} {as' : List AV} {H : List Blk} {R : AV → List Blk → Prop} (h : CallsV P f (treeV [] :: as') H R) : CallsV P f (.agg [.nilsl] :: as') H R := fun p w vals hH hv => h p w vals hH ⟨hv.1, fun i i1 i2 => by
  have := hv.2 i i1 i2
  cases i with
  | zero => exact nil_arg _ _ _ this
  | succ i => exact this⟩
def trN (T : List TE) (x : TE) : List TE := if ptF T x = 0 then sortR (ptL T x) else T
def trK (X : List TE) : Nat → List TE
  | 0 => []
  | k + 1 => trN (trK X k) (X.getD k tD)
def tr0 (X : List TE) (k : Nat) : St := stOf 36 [(2, .ptr 0 0), (3, .ptr 1 0), (4, filesV X), (5, .int .i64 (k : Int))] [.row 24 [.nilsl], .row 24 [.nilsl]]
def tr1 (X : List TE) (k : Nat) (T : List TE) : St := stOf 36 [(2, .ptr 0 0), (3, .ptr 1 0), (4, filesV X), (5, .int .i64 (k : Int))] [.row 24 [.nilsl], .row 24 [filesV T]]
def trS (X : List TE) (k : Nat) (T : List TE) : St := if T = [] then tr0 X k else tr1 X k T
theorem ptL_ne (T : List TE) (x : TE) : sortR (ptL T x) ≠ [] := fun h => by
  have := congrArg List.length h
  rw [sortR_len'] at this
  unfold ptL at this
  rw [(insR_perm _ _).length_eq] at this
  simp at this
theorem trStep (X T : List TE) (hl : X.length ≤ 900) (ht : T.length ≤ 900) (hX : ∀ x ∈ X, OkT x) (hT : ∀ x ∈ T, OkT x) (k : Nat) (hk : k < X.length) : GoV Tryd.prog 0 (loopB Tryd.f13 0) (isX .normal (trS X (k + 1) (trN T (X.getD k tD)))) (trS X k T) := by
  have at1 : (flatA encT X).drop ((k : Int).toNat * 2) = AV.str (X.getD k tD).1 :: AV.str (X.getD k tD).2 :: flatA encT (X.drop (k + 1)) := encT_at X k hk
  have hx := hX _ (getD_mem' hk tD)
  have pu := putR_w T (X.getD k tD) ht hT hx
  have hne := ptL_ne T (X.getD k tD)
  unfold trN
  unfold ptO at pu
  by_cases hp : ptF T (X.getD k tD) = 0
  · rw [if_pos hp]
    rw [if_pos hp, hp] at pu
    generalize sortR (ptL T (X.getD k tD)) = U at *
    generalize X.getD k tD = x at *
    unfold trS
    rw [if_neg hne]
    by_cases h0 : T = []
    · subst h0
      have pu := callsV_nil pu
      rw [if_pos rfl]
      unfold tr0 tr1
      have e1' := (congrArg (fun z => AV.fptr z) at1)
      have e2' := pu
      have e3' := (congrArg (fun z => AV.int .i64 z) (wrap_i64 (e := (↑k : Int) + (1 : Int)) (by omega) (by omega)))
      exact g_xB [⟨4, [], .br true .no⟩, ⟨8, [], .as (rhsOf e1')⟩, ⟨13, [], .as (rhsOf e1')⟩, ⟨16, [], .call (avOf e2') (blOf e2') []⟩, ⟨29, [], .as (rhsOf e3')⟩] [.sel [2, 3, 4, 5], .keep [0, 1] [false, false]] (And.intro (show decide ((↑k : Int) < (↑X.length : Int)) = true from (by rw [decide_eq_true_iff]; omega)) (And.intro (show 1 ≤ 1 from (by omega)) (And.intro (show (0 : Int) ≤ (↑k : Int) ∧ (↑k : Int) < (↑X.length : Int) from (by omega)) (And.intro e1' (And.intro (show 1 ≤ (AV.str x.fst :: AV.str x.snd :: flatA encT (List.drop (k + 1) X)).length from (by exact Nat.le_of_ble_eq_true (by kernel_rfl))) (And.intro (show (0 : Int) ≤ (↑k : Int) ∧ (↑k : Int) < (↑X.length : Int) from (by omega)) (And.intro e1' (And.intro (show 1 ≤ (AV.str x.snd :: flatA encT (List.drop (k + 1) X)).length from (by exact Nat.le_of_ble_eq_true (by kernel_rfl))) (And.intro e2' (And.intro e2' (And.intro (show 1 ≤ 1 from (by omega)) (And.intro (show 1 ≤ 1 from (by omega)) (And.intro (show 1 ≤ 1 from (by omega)) e3')))))))))))))
    · rw [if_neg h0]
      unfold tr1
      have e1' := (congrArg (fun z => AV.fptr z) at1)
      have e2' := pu
      have e3' := (congrArg (fun z => AV.int .i64 z) (wrap_i64 (e := (↑k : Int) + (1 : Int)) (by omega) (by omega)))
      exact g_xB [⟨4, [], .br true .no⟩, ⟨8, [], .as (rhsOf e1')⟩, ⟨13, [], .as (rhsOf e1')⟩, ⟨16, [], .call (avOf e2') (blOf e2') []⟩, ⟨29, [], .as (rhsOf e3')⟩] [.sel [2, 3, 4, 5], .keep [0, 1] [false, false]] (And.intro (show decide ((↑k : Int) < (↑X.length : Int)) = true from (by rw [decide_eq_true_iff]; omega)) (And.intro (show 1 ≤ 1 from (by omega)) (And.intro (show (0 : Int) ≤ (↑k : Int) ∧ (↑k : Int) < (↑X.length : Int) from (by omega)) (And.intro e1' (And.intro (show 1 ≤ (AV.str x.fst :: AV.str x.snd :: flatA encT (List.drop (k + 1) X)).length from (by exact Nat.le_of_ble_eq_true (by kernel_rfl))) (And.intro (show (0 : Int) ≤ (↑k : Int) ∧ (↑k : Int) < (↑X.length : Int) from (by omega)) (And.intro e1' (And.intro (show 1 ≤ (AV.str x.snd :: flatA encT (List.drop (k + 1) X)).length from (by exact Nat.le_of_ble_eq_true (by kernel_rfl))) (And.intro e2' (And.intro e2' (And.intro (show 1 ≤ 1 from (by omega)) (And.intro (show 1 ≤ 1 from (by omega)) (And.intro (show 1 ≤ 1 from (by omega)) e3')))))))))))))
  · rw [if_neg hp]
    rw [if_neg hp] at pu
    generalize ptF T (X.getD k tD) = e at *
    generalize X.getD k tD = x at *
    have hq : (e == 0) = false := beq_eq_false_iff_ne.2 hp
    unfold trS
    by_cases h0 : T = []
    · subst h0
      have pu := callsV_nil pu
      rw [if_pos rfl, if_pos rfl]
      unfold tr0
      have e1' := (congrArg (fun z => AV.fptr z) at1)
      have e2' := pu
      have e3' := (congrArg (fun z => AV.int .i64 z) (wrap_i64 (e := (↑k : Int) + (1 : Int)) (by omega) (by omega)))
      exact g_xB [⟨4, [], .br true .no⟩, ⟨8, [], .as (rhsOf e1')⟩, ⟨13, [], .as (rhsOf e1')⟩, ⟨16, [], .call (avOf e2') (blOf e2') []⟩, ⟨25, [], .br false .no⟩, ⟨27, [], .as (rhsOf e3')⟩] [.sel [2, 3, 4, 5], .keep [0, 1] [false, false]] (And.intro (show decide ((↑k : Int) < (↑X.length : Int)) = true from (by rw [decide_eq_true_iff]; omega)) (And.intro (show 1 ≤ 1 from (by omega)) (And.intro (show (0 : Int) ≤ (↑k : Int) ∧ (↑k : Int) < (↑X.length : Int) from (by omega)) (And.intro e1' (And.intro (show 1 ≤ (AV.str x.fst :: AV.str x.snd :: flatA encT (List.drop (k + 1) X)).length from (by exact Nat.le_of_ble_eq_true (by kernel_rfl))) (And.intro (show (0 : Int) ≤ (↑k : Int) ∧ (↑k : Int) < (↑X.length : Int) from (by omega)) (And.intro e1' (And.intro (show 1 ≤ (AV.str x.snd :: flatA encT (List.drop (k + 1) X)).length from (by exact Nat.le_of_ble_eq_true (by kernel_rfl))) (And.intro e2' (And.intro e2' (And.intro (show 1 ≤ 1 from (by omega)) (And.intro (show (e == (0 : Int)) = false from (by assumption)) e3'))))))))))))
    · rw [if_neg h0, if_neg h0]
      unfold tr1
      have e1' := (congrArg (fun z => AV.fptr z) at1)
      have e2' := pu
      have e3' := (congrArg (fun z => AV.int .i64 z) (wrap_i64 (e := (↑k : Int) + (1 : Int)) (by omega) (by omega)))
      exact g_xB [⟨4, [], .br true .no⟩, ⟨8, [], .as (rhsOf e1')⟩, ⟨13, [], .as (rhsOf e1')⟩, ⟨16, [], .call (avOf e2') (blOf e2') []⟩, ⟨25, [], .br false .no⟩, ⟨27, [], .as (rhsOf e3')⟩] [.sel [2, 3, 4, 5], .keep [0, 1] [false, false]] (And.intro (show decide ((↑k : Int) < (↑X.length : Int)) = true from (by rw [decide_eq_true_iff]; omega)) (And.intro (show 1 ≤ 1 from (by omega)) (And.intro (show (0 : Int) ≤ (↑k : Int) ∧ (↑k : Int) < (↑X.length : Int) from (by omega)) (And.intro e1' (And.intro (show 1 ≤ (AV.str x.fst :: AV.str x.snd :: flatA encT (List.drop (k + 1) X)).length from (by exact Nat.le_of_ble_eq_true (by kernel_rfl))) (And.intro (show (0 : Int) ≤ (↑k : Int) ∧ (↑k : Int) < (↑X.length : Int) from (by omega)) (And.intro e1' (And.intro (show 1 ≤ (AV.str x.snd :: flatA encT (List.drop (k + 1) X)).length from (by exact Nat.le_of_ble_eq_true (by kernel_rfl))) (And.intro e2' (And.intro e2' (And.intro (show 1 ≤ 1 from (by omega)) (And.intro (show (e == (0 : Int)) = false from (by assumption)) e3'))))))))))))
/-- valid for itself: as a file that the laws use -/
theorem trK_fine (X : List TE) : ∀ k, ckF (trK X k) = 0
  | 0 => by rfl
  | k + 1 => by
    have ih := trK_fine X k
    show ckF (trN (trK X k) (X.getD k tD)) = 0
    unfold trN
    split
    · rename_i h
      unfold ptF at h
      rw [if_pos ih] at h
      obtain ⟨h1, h2⟩ := bd_fine h
      exact fine_ck (h1.perm (sortR_perm _).symm) (sortR_srt h1.dst) (by rw [clF_perm (sortR_perm _)]; exact h2)
    · exact ih
theorem trK_ok (X : List TE) (hX : ∀ x ∈ X, OkT x) : ∀ k, k ≤ X.length → ∀ x ∈ trK X k, OkT x
  | 0, _, x, hx => by cases hx
  | k + 1, h, x, hx => by
    have ih := trK_ok X hX k (by omega)
    have hx : x ∈ trN (trK X k) (X.getD k tD) := hx
    unfold trN at hx
    split at hx
    · have hx := (sortR_perm _).mem_iff.1 hx
      unfold ptL at hx
      rcases insR_mem.1 hx with rfl | h2
      · exact hX _ (getD_mem (by omega))
      · exact ih x (wo_mem.1 h2).1
    · exact ih x hx
theorem trK_len (X : List TE) (k : Nat) : (trK X k).length ≤ 64 := (ck_fine (trK_fine X k)).1.len
def trF (l : List (Int × Int)) : List TE := trK (enK l (enN l)) (enK l (enN l)).length
theorem enE_ok (x : Int × Int) : OkT (enE x) := by
  have h1 : ∀ b ∈ ptT, b.size ≤ 30000 := by decide
  have h2 : ∀ b ∈ txT, b.size ≤ 9223372036854775807 := by decide
  unfold enE
  refine ⟨h1 _ ?_, h2 _ ?_⟩
  · have hl : x.1.toNat % 12 < ptT.length := Nat.mod_lt _ (by omega)
    show ptT.getD (x.1.toNat % 12) bE ∈ ptT
    rw [List.getD_eq_getElem?_getD, List.getElem?_eq_getElem hl]; exact List.getElem_mem hl
  · have hl : x.2.toNat % 8 < txT.length := Nat.mod_lt _ (by omega)
    show txT.getD (x.2.toNat % 8) bE ∈ txT
    rw [List.getD_eq_getElem?_getD, List.getElem?_eq_getElem hl]; exact List.getElem_mem hl
theorem enK_ok (l : List (Int × Int)) (k : Nat) : ∀ x ∈ enK l k, OkT x := fun x hx => by
  unfold enK at hx
  obtain ⟨y, _, rfl⟩ := List.mem_map.1 hx
  exact enE_ok y
theorem enX_len (l : List (Int × Int)) : (enK l (enN l)).length ≤ 20 := by
  unfold enK enN
  rw [List.length_map, List.length_take]; omega
theorem trF_ok (l : List (Int × Int)) : ∀ x ∈ trF l, OkT x := trK_ok _ (enK_ok l _) _ (Nat.le_refl _)
theorem trF_len (l : List (Int × Int)) : (trF l).length ≤ 64 := trK_len _ _
theorem trF_fine (l : List (Int × Int)) : ckF (trF l) = 0 := trK_fine _ _
theorem tree_v (l : List (Int × Int)) (hl : l.length ≤ 9223372036854775807) (hz : ∀ x ∈ l, (0 ≤ x.1 ∧ x.1 ≤ 255) ∧ 0 ≤ x.2 ∧ x.2 ≤ 255) : CallsV Tryd.prog 13 [.slv l.length 2 (flatA encB l)] [] (fun av H' => (trF l = [] ∧ av = .agg [.nilsl] ∧ H' = []) ∨ (trF l ≠ [] ∧ av = treeV (trF l) ∧ H' = [])) := by
  refine callsG_at Tryd.func13 (by kernel_rfl) ?_
  have en := entries_w l hl hz
  have hX := enK_ok l (enN l)
  have hXl := enX_len l
  unfold trF
  generalize enK l (enN l) = X at *
  have lo : ∀ s', GoV Tryd.prog 0 (loopB Tryd.f13 0) (isX (.exit 0) s') (trS X X.length (trK X X.length)) → LoopG Tryd.prog 0 Tryd.f13 0 (.exit 0) s' (tr0 X 0) := fun s' hx =>
    loopG_of X.length (fun k => trS X k (trK X k)) rfl (by simp) (fun k hk => trStep X (trK X k) (by omega) (by have := trK_len X k; omega) hX (trK_ok X hX k (by omega)) k hk) hx
  generalize trK X X.length = T at *
  by_cases h0 : T = []
  · have hL : LoopG Tryd.prog 0 Tryd.f13 0 (.exit 0) (stOf 36 [(2, .ptr 0 0), (3, .ptr 1 0)] [.row 24 [.nilsl], .row 24 [.nilsl]]) (tr0 X 0) := by
      refine lo _ ?_
      unfold trS
      rw [if_pos h0]
      unfold tr0
      clear lo
      exact g_x [⟨4, [], .br false .no⟩] [.sel [2, 3]] (show decide ((↑X.length : Int) < (↑X.length : Int)) = false from (by rw [decide_eq_false_iff_not]; omega))
    unfold tr0 at hL
    clear lo
    have e1' := en
    have e2' := hL
    refine g_q [⟨5, [], .call (avOf e1') (blOf e1') []⟩, ⟨8, [.sel [2, 3, 4, 5]], .loop (exOf e2') (endOf e2')⟩] [.sel [2]] Exit.ret (stOf 36 [(2, AV.ptr 0 0)] [Blk.row 24 [AV.nilsl], Blk.row 24 [AV.nilsl]]) (And.intro (show 1 ≤ 1 from (by omega)) (And.intro e1' (And.intro e2' (And.intro (show 1 ≤ 1 from (by omega)) (show 1 ≤ 1 from (by omega)))))) ?_
    refine g_f [] [] (AV.agg [AV.nilsl]) ([]) (show 1 ≤ 1 from (by omega)) ?_
    exact .inl ⟨h0, rfl, rfl⟩
  · have hL : LoopG Tryd.prog 0 Tryd.f13 0 (.exit 0) (stOf 36 [(2, .ptr 0 0), (3, .ptr 1 0)] [.row 24 [.nilsl], .row 24 [filesV T]]) (tr0 X 0) := by
      refine lo _ ?_
      unfold trS
      rw [if_neg h0]
      unfold tr1
      clear lo
      exact g_x [⟨4, [], .br false .no⟩] [.sel [2, 3]] (show decide ((↑X.length : Int) < (↑X.length : Int)) = false from (by rw [decide_eq_false_iff_not]; omega))
    unfold tr0 at hL
    clear lo
    have e1' := en
    have e2' := hL
    refine g_q [⟨5, [], .call (avOf e1') (blOf e1') []⟩, ⟨8, [.sel [2, 3, 4, 5]], .loop (exOf e2') (endOf e2')⟩] [.sel [2]] Exit.ret (stOf 36 [(2, AV.ptr 0 0)] [Blk.row 24 [AV.slv T.length 2 (flatA encT T)], Blk.row 24 [AV.slv T.length 2 (flatA encT T)]]) (And.intro (show 1 ≤ 1 from (by omega)) (And.intro e1' (And.intro e2' (And.intro (show 1 ≤ 1 from (by omega)) (show 1 ≤ 1 from (by omega)))))) ?_
    refine g_f [] [] (AV.agg [AV.slv T.length 2 (flatA encT T)]) ([]) (show 1 ≤ 1 from (by omega)) ?_
    exact .inr ⟨h0, rfl, rfl⟩
theorem tree_w (l : List (Int × Int)) (hl : l.length ≤ 9223372036854775807) (hz : ∀ x ∈ l, (0 ≤ x.1 ∧ x.1 ≤ 255) ∧ 0 ≤ x.2 ∧ x.2 ≤ 255) : CallsV Tryd.prog 13 [.slv l.length 2 (flatA encB l)] [] (fun av H' => av = treeV (trF l) ∧ H' = []) := by
  have h := tree_v l hl hz
  by_cases h0 : trF l = []
  · rw [h0]
    exact callsV_val (h.mono fun av H' q => by
      rcases q with ⟨_, q⟩ | ⟨q, _⟩
      · exact q
      · exact absurd h0 q) rd_nil
  · exact h.mono fun av H' q => by
      rcases q with ⟨q, _⟩ | ⟨_, q⟩
      · exact absurd q h0
      · exact q
end Go.Proofs.YtjgpojglgfddiaaDoor
namespace Go.Proofs.YtjgpojglgfddiaaDoor
open Go Go.RowKit V
set_option linter.unusedSimpArgs false
set_option linter.unusedVariables false
set_option maxHeartbeats 20000000
def awA : List TE := [(.mk #[97, 47, 120], .mk #[]), (.mk #[98], .mk #[49])]
def awB : List TE := [(.mk #[98], .mk #[50]), (.mk #[99, 47, 121], .mk #[])]
def awC : List TE := [(.mk #[97], .mk #[]), (.mk #[97, 47, 98], .mk #[])]
def awO : List TE := [(.mk #[97, 47, 120], .mk #[]), (.mk #[98], .mk #[50]), (.mk #[99, 47, 121], .mk #[])]
theorem aw1 : ovF awA awB = 0 := by kernel_rfl
theorem aw3 : bdF awC = 10 := by kernel_rfl
theorem awok : (∀ x ∈ awA, OkT x) ∧ (∀ x ∈ awB, OkT x) ∧ ∀ x ∈ awC, OkT x := by
  refine ⟨?_, ?_, ?_⟩ <;> intro x hx <;> simp [awA, awB, awC] at hx <;> rcases hx with rfl | rfl <;> exact ⟨by decide, by decide⟩
theorem awake_v : CallsV Tryd.prog 12 [] [] (fun av H' => av = .bool true ∧ H' = []) := by
  refine callsG_at Tryd.func12 (by kernel_rfl) ?_
  have o1 : CallsV Tryd.prog 30 [.agg [.slv 2 2 [.str (.mk #[97, 47, 120]), .str (.mk #[]), .str (.mk #[98]), .str (.mk #[49])]], .agg [.slv 2 2 [.str (.mk #[98]), .str (.mk #[50]), .str (.mk #[99, 47, 121]), .str (.mk #[])]]] [] (fun av H' => av = .tuple [.agg [.sl 0 0 3 2], .int .i64 0] ∧ H' = [.row 31 [.str (.mk #[97, 47, 120]), .str (.mk #[]), .str (.mk #[98]), .str (.mk #[50]), .str (.mk #[99, 47, 121]), .str (.mk #[])]]) := by
    refine (over_v awA awB (by decide) (by decide) awok.1 awok.2.1).mono fun av H' q => ?_
    rcases q with ⟨_, q1, q2⟩ | ⟨q, _⟩
    · have e : sortR (ovK awA awB awA.length) = awO := by kernel_rfl
      rw [e] at q1 q2
      exact ⟨q1, q2⟩
    · exact absurd aw1 q
  have b1 : CallsV Tryd.prog 18 [.slv 2 2 [.str (.mk #[97]), .str (.mk #[]), .str (.mk #[97, 47, 98]), .str (.mk #[])]] [] (fun av H' => av = .tuple [.agg [.nilsl], .int .i64 10] ∧ H' = []) := by
    have h := build_ne awC (by decide) awok.2.2 (by rw [aw3]; decide)
    rw [aw3] at h
    exact h
  have e1' := (show Reads [Blk.row 31 [AV.str (ByteArray.mk #[(97 : UInt8), (47 : UInt8), (120 : UInt8)]), AV.str (ByteArray.mk #[]), AV.str (ByteArray.mk #[(98 : UInt8)]), AV.str (ByteArray.mk #[(49 : UInt8)])], Blk.row 24 [AV.sl 0 0 2 2], Blk.row 31 [AV.str (ByteArray.mk #[(98 : UInt8)]), AV.str (ByteArray.mk #[(50 : UInt8)]), AV.str (ByteArray.mk #[(99 : UInt8), (47 : UInt8), (121 : UInt8)]), AV.str (ByteArray.mk #[])], Blk.row 24 [AV.sl 2 0 2 2]] [AV.agg [AV.sl 0 0 2 2], AV.agg [AV.sl 2 0 2 2]] [AV.agg [AV.slv 2 2 [AV.str (ByteArray.mk #[(97 : UInt8), (47 : UInt8), (120 : UInt8)]), AV.str (ByteArray.mk #[]), AV.str (ByteArray.mk #[(98 : UInt8)]), AV.str (ByteArray.mk #[(49 : UInt8)])]], AV.agg [AV.slv 2 2 [AV.str (ByteArray.mk #[(98 : UInt8)]), AV.str (ByteArray.mk #[(50 : UInt8)]), AV.str (ByteArray.mk #[(99 : UInt8), (47 : UInt8), (121 : UInt8)]), AV.str (ByteArray.mk #[])]]] from (Reads.cons (Reads1.val (by kernel_rfl)) (Reads.cons (Reads1.val (by kernel_rfl)) Reads.nil)))
  have e2' := o1
  have e3' := (show Reads [Blk.row 31 [AV.str (ByteArray.mk #[(97 : UInt8), (47 : UInt8), (120 : UInt8)]), AV.str (ByteArray.mk #[]), AV.str (ByteArray.mk #[(98 : UInt8)]), AV.str (ByteArray.mk #[(49 : UInt8)])], Blk.row 24 [AV.sl 0 0 2 2], Blk.row 31 [AV.str (ByteArray.mk #[(98 : UInt8)]), AV.str (ByteArray.mk #[(50 : UInt8)]), AV.str (ByteArray.mk #[(99 : UInt8), (47 : UInt8), (121 : UInt8)]), AV.str (ByteArray.mk #[])], Blk.row 24 [AV.sl 2 0 2 2], Blk.row 31 [AV.str (ByteArray.mk #[(97 : UInt8), (47 : UInt8), (120 : UInt8)]), AV.str (ByteArray.mk #[]), AV.str (ByteArray.mk #[(98 : UInt8)]), AV.str (ByteArray.mk #[(50 : UInt8)]), AV.str (ByteArray.mk #[(99 : UInt8), (47 : UInt8), (121 : UInt8)]), AV.str (ByteArray.mk #[])], Blk.row 24 [AV.sl 4 0 3 2], Blk.row 31 [AV.str (ByteArray.mk #[(97 : UInt8)]), AV.str (ByteArray.mk #[]), AV.str (ByteArray.mk #[(97 : UInt8), (47 : UInt8), (98 : UInt8)]), AV.str (ByteArray.mk #[])]] [AV.sl 6 0 2 2] [AV.slv 2 2 [AV.str (ByteArray.mk #[(97 : UInt8)]), AV.str (ByteArray.mk #[]), AV.str (ByteArray.mk #[(97 : UInt8), (47 : UInt8), (98 : UInt8)]), AV.str (ByteArray.mk #[])]] from (Reads.cons (Reads1.val (by kernel_rfl)) Reads.nil))
  have e4' := b1
  refine g_q [⟨15, [], .lend (rdOf e1') (avOf e2') (blOf e2') [false]⟩, ⟨25, [], .lend (rdOf e3') (avOf e4') (blOf e4') []⟩] [.sel [0]] Exit.ret (stOf 48 [(0, AV.bool true)] [Blk.row 31 [AV.str (ByteArray.mk #[(97 : UInt8), (47 : UInt8), (120 : UInt8)]), AV.str (ByteArray.mk #[]), AV.str (ByteArray.mk #[(98 : UInt8)]), AV.str (ByteArray.mk #[(49 : UInt8)])], Blk.row 24 [AV.sl 0 0 2 2], Blk.row 31 [AV.str (ByteArray.mk #[(98 : UInt8)]), AV.str (ByteArray.mk #[(50 : UInt8)]), AV.str (ByteArray.mk #[(99 : UInt8), (47 : UInt8), (121 : UInt8)]), AV.str (ByteArray.mk #[])], Blk.row 24 [AV.sl 2 0 2 2], Blk.row 31 [AV.str (ByteArray.mk #[(97 : UInt8), (47 : UInt8), (120 : UInt8)]), AV.str (ByteArray.mk #[]), AV.str (ByteArray.mk #[(98 : UInt8)]), AV.str (ByteArray.mk #[(50 : UInt8)]), AV.str (ByteArray.mk #[(99 : UInt8), (47 : UInt8), (121 : UInt8)]), AV.str (ByteArray.mk #[])], Blk.row 24 [AV.sl 4 0 3 2], Blk.row 31 [AV.str (ByteArray.mk #[(97 : UInt8)]), AV.str (ByteArray.mk #[]), AV.str (ByteArray.mk #[(97 : UInt8), (47 : UInt8), (98 : UInt8)]), AV.str (ByteArray.mk #[])], Blk.row 24 [AV.nilsl]]) (And.intro (show 1 ≤ 1 from (by omega)) (And.intro (show 1 ≤ 1 from (by omega)) (And.intro (show 1 ≤ 1 from (by omega)) (And.intro (show 1 ≤ 1 from (by omega)) (And.intro e1' (And.intro (show (novR (AV.tuple [AV.agg [AV.sl 0 0 3 2], AV.int .i64 (0 : Int)]) && [Blk.row 31 [AV.str (ByteArray.mk #[(97 : UInt8), (47 : UInt8), (120 : UInt8)]), AV.str (ByteArray.mk #[]), AV.str (ByteArray.mk #[(98 : UInt8)]), AV.str (ByteArray.mk #[(50 : UInt8)]), AV.str (ByteArray.mk #[(99 : UInt8), (47 : UInt8), (121 : UInt8)]), AV.str (ByteArray.mk #[])]].all novB) = true from (by kernel_rfl)) (And.intro e2' (And.intro (show 1 ≤ 1 from (by omega)) (And.intro e3' (And.intro (show (novR (AV.tuple [AV.agg [AV.nilsl], AV.int .i64 (10 : Int)]) && [].all novB) = true from (by kernel_rfl)) (And.intro e4' (And.intro (show 1 ≤ 1 from (by omega)) (And.intro (show 1 ≤ 1 from (by omega)) (And.intro (show 1 ≤ 1 from (by omega)) (And.intro (show (0 : Int) ≤ (1 : Int) ∧ (1 : Int) < (↑3 : Int) from (by omega)) (show 1 ≤ 3 from (by omega))))))))))))))))) ?_
  refine g_f [] [] (AV.bool true) ([]) trivial ?_
  exact ⟨rfl, rfl⟩
end Go.Proofs.YtjgpojglgfddiaaDoor
namespace Go.Proofs.YtjgpojglgfddiaaDoor
open Go Go.RowKit V
set_option linter.unusedSimpArgs false
set_option linter.unusedVariables false
set_option maxHeartbeats 20000000
structure Stp (l : List (Int × Int)) : Prop where
  len : l.length ≤ 9223372036854775807
  each : ∀ x ∈ l, (0 ≤ x.1 ∧ x.1 ≤ 255) ∧ 0 ≤ x.2 ∧ x.2 ≤ 255
abbrev stpV (l : List (Int × Int)) : AV := .slv l.length 2 (flatA encB l)
theorem dfR_len (a b : List TE) : ∀ (n i k : Nat), (dfR a b n i k).length ≤ n
  | 0, _, _ => Nat.le_refl _
  | n + 1, i, k => by
    unfold dfR
    have h1 := dfR_len a b n (i + 1) k
    have h2 := dfR_len a b n i (k + 1)
    have h3 := dfR_len a b n (i + 1) (k + 1)
    split
    · exact Nat.zero_le _
    · split
      · rw [List.length_cons]; omega
      · split
        · rw [List.length_cons]; omega
        · split
          · omega
          · rw [List.length_cons]; omega
theorem dfD_len (a b : List TE) : (dfD a b).length ≤ a.length + b.length := dfR_len a b _ 0 0
end Go.Proofs.YtjgpojglgfddiaaDoor
namespace Go.Proofs.YtjgpojglgfddiaaDoor
open Go Go.RowKit V
set_option linter.unusedSimpArgs false
set_option linter.unusedVariables false
set_option maxHeartbeats 20000000
def encBV (z : Int × Int) : List Value := [.int .u8 z.1, .int .u8 z.2]
theorem pairB : PairE encBV encB := fun _ => rfl
theorem encBV_ok : Enc encBV 2 := ⟨fun _ => rfl, fun x u hu => by simp [encBV] at hu; rcases hu with rfl | rfl <;> rfl, by omega⟩
set_option maxRecDepth 20000 in
theorem arg_steps {w : World} {v : Value} (h : Arg Tryd.prog w 25 v) : ∃ l : List (Int × Int), Rep pl0 w v (stpV l) ∧ Stp l := by
  obtain ⟨a, len, cap, rfl, h1, h2, h3, vs, h4, h5, h6⟩ := Arg.slice Tryd.underlying25 (ts := [5, 5]) (by kernel_rfl) (by kernel_rfl) (by decide) h
  have h4' : vs.length = len * 2 := h4
  obtain ⟨l, g1, rfl, g3⟩ := rows_of (enc := encBV) (size := 2) (fun z => (0 ≤ z.1 ∧ z.1 ≤ 255) ∧ (0 ≤ z.2 ∧ z.2 ≤ 255)) len vs h4' (fun i hi => by
    have a0 := h6 i hi 0 (by simp) (by simp only [List.length_cons, List.length_nil]; omega)
    have a1 := h6 i hi 1 (by simp) (by simp only [List.length_cons, List.length_nil]; omega)
    unfold Good at a0 a1
    simp only [List.getElem_cons_zero, List.getElem_cons_succ, Tryd.underlying5] at a0 a1
    obtain ⟨y, e0, hy⟩ := a0
    obtain ⟨z, e1, hz⟩ := a1
    refine ⟨(y, z), ?_, wf_u8 hy, wf_u8 hz⟩
    simp only [List.length_cons, List.length_nil, Nat.zero_add] at e0 e1
    rw [List.drop_eq_getElem_cons (by omega), List.drop_eq_getElem_cons (by omega), List.take_succ_cons, List.take_succ_cons, List.take_zero]
    exact congr (congrArg _ e0) (congrArg (fun x => [x]) e1))
  refine ⟨l, ?_, by unfold maxLen at h2; omega, g3⟩
  have := rep_of_rowV (p := pl0) pairB encBV_ok g1 h1 h3 h5 h2 (fun x _ => pl0_M _)
  rw [← g1] at this ⊢
  exact this
end Go.Proofs.YtjgpojglgfddiaaDoor
namespace Go.Proofs.YtjgpojglgfddiaaDoor
open Go Go.RowKit V
set_option linter.unusedSimpArgs false
set_option linter.unusedVariables false
set_option maxHeartbeats 20000000
theorem gtF_iff (l : List TE) (p : ByteArray) : (gtF l p).2 = true ↔ ∃ y ∈ l, y.1 = p := by
  rw [← gt_iff]
  unfold gtF
  split
  · rename_i h; exact ⟨fun _ => h, fun _ => rfl⟩
  · rename_i h; exact ⟨fun q => (by cases q), fun q => absurd q h⟩
theorem ovK_end (a b : List TE) : ovK a b a.length = b ++ a.filter fun x => !(gtF b x.1).2 := by
  unfold ovK; rw [List.take_length]
theorem bd_perm {l m : List TE} (hp : l.Perm m) (hd : Dst l) (hc : ∀ x ∈ l, cfF x = 0) : bdF l = bdF m ∧ sortR l = sortR m := by
  have hs : sortR l = sortR m := sort_eq (dst_perm hd hp) (sortR_srt hd) ((sortR_perm l).trans hp)
  refine ⟨?_, hs⟩
  by_cases h64 : 64 < l.length
  · unfold bdF
    rw [if_pos h64, if_pos (by rw [← hp.length_eq]; exact h64)]
  · have hf : Fine l := ⟨by omega, hc, hd⟩
    rw [fine_bd hf, fine_bd (hf.perm hp), clF_perm hp]
theorem ovK_dst {a b : List TE} (ha : Dst a) (hb : Dst b) : Dst (ovK a b a.length) := by
  rw [ovK_end]
  refine List.pairwise_append.2 ⟨hb, List.Pairwise.sublist List.filter_sublist ha, fun x hx y hy e => ?_⟩
  obtain ⟨_, h2⟩ := List.mem_filter.1 hy
  rw [Bool.not_eq_true', ← Bool.not_eq_true, gtF_iff] at h2
  exact h2 ⟨x, hx, e⟩
theorem ovK_each {a b : List TE} (ha : ∀ x ∈ a, cfF x = 0) (hb : ∀ x ∈ b, cfF x = 0) : ∀ x ∈ ovK a b a.length, cfF x = 0 := fun x hx => by
  rw [ovK_end] at hx
  rcases List.mem_append.1 hx with h | h
  · exact hb x h
  · exact ha x (List.mem_filter.1 h).1
theorem ov_ok {a b : List TE} (ha : ckF a = 0) (hb : ckF b = 0) (h : ovF a b = 0) : ovO a b = sortR (ovK a b a.length) ∧ ckF (ovO a b) = 0 := by
  have e : ovO a b = sortR (ovK a b a.length) := by unfold ovO; rw [if_pos h]
  refine ⟨e, ?_⟩
  rw [e]
  unfold ovF at h
  rw [if_pos ha, if_pos hb] at h
  obtain ⟨h1, h2⟩ := bd_fine h
  exact fine_ck (h1.perm (sortR_perm _).symm) (sortR_srt h1.dst) (by rw [clF_perm (sortR_perm _)]; exact h2)
/-- one over the other, over the third -/
theorem ov_assoc {a b c : List TE} (ha : ckF a = 0) (hb : ckF b = 0) (hc : ckF c = 0) (h1 : ovF a b = 0) (h2 : ovF b c = 0) : ovF (ovO a b) c = ovF a (ovO b c) ∧ ovO (ovO a b) c = ovO a (ovO b c) := by
  obtain ⟨e1, k1⟩ := ov_ok ha hb h1
  obtain ⟨e2, k2⟩ := ov_ok hb hc h2
  have fa := ck_fine ha
  have fb := ck_fine hb
  have fc := ck_fine hc
  have f1 := ck_fine k1
  have f2 := ck_fine k2
  have p1 : (ovO a b).Perm (b ++ a.filter fun x => !(gtF b x.1).2) := by rw [e1, ovK_end]; exact sortR_perm _
  have p2 : (ovO b c).Perm (c ++ b.filter fun x => !(gtF c x.1).2) := by rw [e2, ovK_end]; exact sortR_perm _
  have hbc : ∀ x : TE, (!(gtF (ovO b c) x.1).2) = ((!(gtF b x.1).2) && (!(gtF c x.1).2)) := fun x => by
    have hi : (gtF (ovO b c) x.1).2 = true ↔ ((gtF b x.1).2 = true ∨ (gtF c x.1).2 = true) := by
      rw [gtF_iff, gtF_iff, gtF_iff]
      constructor
      · rintro ⟨y, hy, e⟩
        rcases List.mem_append.1 (p2.mem_iff.1 hy) with h | h
        · exact .inr ⟨y, h, e⟩
        · exact .inl ⟨y, (List.mem_filter.1 h).1, e⟩
      · rintro (⟨y, hy, e⟩ | ⟨y, hy, e⟩)
        · by_cases hq : (gtF c y.1).2 = true
          · obtain ⟨z, hz, ez⟩ := (gtF_iff _ _).1 hq
            exact ⟨z, p2.mem_iff.2 (List.mem_append_left _ hz), ez.trans e⟩
          · exact ⟨y, p2.mem_iff.2 (List.mem_append_right _ (List.mem_filter.2 ⟨hy, by rw [Bool.not_eq_true', ← Bool.not_eq_true]; exact hq⟩)), e⟩
        · exact ⟨y, p2.mem_iff.2 (List.mem_append_left _ hy), e⟩
    cases g0 : (gtF (ovO b c) x.1).2 <;> cases g1 : (gtF b x.1).2 <;> cases g2 : (gtF c x.1).2 <;> rw [g0, g1, g2] at hi <;> simp at hi ⊢
  have hp : (ovK (ovO a b) c (ovO a b).length).Perm (ovK a (ovO b c) a.length) := by
    rw [ovK_end, ovK_end]
    refine (List.Perm.append_left c (p1.filter _)).trans ?_
    rw [List.filter_append, List.filter_filter]
    refine List.Perm.trans ?_ (List.Perm.append_right _ p2.symm)
    rw [List.append_assoc]
    refine List.Perm.append_left c (List.Perm.append_left _ ?_)
    rw [List.filter_congr (q := fun x => !(gtF (ovO b c) x.1).2) fun x _ => by rw [hbc x, Bool.and_comm]]
  have hd := ovK_dst f1.1.dst fc.1.dst
  have he := ovK_each f1.1.each fc.1.each
  obtain ⟨b1, b2⟩ := bd_perm hp hd he
  have eF : ovF (ovO a b) c = ovF a (ovO b c) := by
    unfold ovF
    rw [if_pos k1, if_pos hc, if_pos ha, if_pos k2, b1]
  refine ⟨eF, ?_⟩
  unfold ovO at b2 ⊢
  unfold ovO at eF
  rw [eF, b2]
end Go.Proofs.YtjgpojglgfddiaaDoor
namespace Go.Proofs.YtjgpojglgfddiaaDoor
open Go Go.RowKit V
set_option linter.unusedSimpArgs false
set_option linter.unusedVariables false
set_option maxHeartbeats 20000000
structure Raw (l : List TE) : Prop where
  len : l.length ≤ 9223372036854775807
  each : ∀ x ∈ l, x.1.size ≤ reachBytes ∧ x.2.size ≤ reachBytes
end Go.Proofs.YtjgpojglgfddiaaDoor
namespace Go.Proofs.YtjgpojglgfddiaaDoor
open Go Go.RowKit V
set_option linter.unusedSimpArgs false
set_option linter.unusedVariables false
set_option maxHeartbeats 20000000
end Go.Proofs.YtjgpojglgfddiaaDoor
namespace Go.Proofs.YtjgpojglgfddiaaDoor
open Go Go.RowKit V
set_option linter.unusedSimpArgs false
set_option linter.unusedVariables false
set_option maxHeartbeats 20000000
end Go.Proofs.YtjgpojglgfddiaaDoor
namespace Go.Proofs.YtjgpojglgfddiaaDoor
open Go Go.RowKit V
set_option linter.unusedSimpArgs false
set_option linter.unusedVariables false
set_option maxHeartbeats 20000000
end Go.Proofs.YtjgpojglgfddiaaDoor
namespace Go.Proofs.YtjgpojglgfddiaaDoor
open Go Go.RowKit V
set_option linter.unusedSimpArgs false
set_option linter.unusedVariables false
set_option maxHeartbeats 20000000
end Go.Proofs.YtjgpojglgfddiaaDoor
namespace Go.Proofs.YtjgpojglgfddiaaDoor
open Go Go.RowKit V
set_option linter.unusedSimpArgs false
set_option linter.unusedVariables false
set_option maxHeartbeats 20000000
end Go.Proofs.YtjgpojglgfddiaaDoor
namespace Go.Proofs.YtjgpojglgfddiaaDoor
open Go Go.RowKit V
set_option linter.unusedSimpArgs false
set_option linter.unusedVariables false
set_option maxHeartbeats 20000000
def Has (l : List TE) (p : ByteArray) : Prop := ∃ y ∈ l, y.1 = p
theorem has_nil (p : ByteArray) : ¬ Has [] p := fun ⟨y, hy, _⟩ => by cases hy
theorem has_cons {x : TE} {l : List TE} {p : ByteArray} : Has (x :: l) p ↔ x.1 = p ∨ Has l p := by
  constructor
  · rintro ⟨y, hy, e⟩
    rcases List.mem_cons.1 hy with rfl | hy
    · exact .inl e
    · exact .inr ⟨y, hy, e⟩
  · rintro (e | ⟨y, hy, e⟩)
    · exact ⟨x, by simp, e⟩
    · exact ⟨y, List.mem_cons_of_mem _ hy, e⟩
theorem lt_ne {x y : TE} (h : ltE x y = true) : x.1 ≠ y.1 := fun e => by rw [ltE_self e] at h; cases h
/-- what lies before the head is not in the list -/
theorem not_has {x y : TE} {Y : List TE} (hs : Srt (y :: Y)) (h : ltE x y = true) : ¬ Has (y :: Y) x.1 := fun hh => by
  rcases has_cons.1 hh with e | ⟨z, hz, e⟩
  · exact lt_ne h e.symm
  · exact lt_ne (ltE_trans h ((List.pairwise_cons.1 hs).1 z hz)) e.symm
theorem not_tail {x : TE} {X : List TE} (hs : Srt (x :: X)) : ¬ Has X x.1 := fun ⟨z, hz, e⟩ => lt_ne ((List.pairwise_cons.1 hs).1 z hz) e.symm
def dfL : Nat → List TE → List TE → List CE
  | 0, _, _ => []
  | n + 1, [], [] => []
  | n + 1, x :: X, [] => (x.1, 2) :: dfL n X []
  | n + 1, [], y :: Y => (y.1, 1) :: dfL n [] Y
  | n + 1, x :: X, y :: Y => if ltE x y = true then (x.1, 2) :: dfL n X (y :: Y) else if ltE y x = true then (y.1, 1) :: dfL n (x :: X) Y else if (x.2.toList == y.2.toList) = true then dfL n X Y else (x.1, 3) :: dfL n X Y
theorem dfR_eq (a b : List TE) : ∀ (n i k : Nat), i ≤ a.length → k ≤ b.length → dfR a b n i k = dfL n (a.drop i) (b.drop k)
  | 0, i, k, _, _ => by simp [dfR, dfL]
  | n + 1, i, k, hi, hk => by
    unfold dfR
    rcases Nat.lt_or_ge i a.length with h1 | h1
    · rcases Nat.lt_or_ge k b.length with h2 | h2
      · rw [drop_cons a i h1, drop_cons b k h2, if_neg (by omega)]
        unfold dfL
        rw [dfR_eq a b n (i + 1) k (by omega) hk, dfR_eq a b n i (k + 1) hi (by omega), dfR_eq a b n (i + 1) (k + 1) (by omega) (by omega), drop_cons a i h1, drop_cons b k h2]
        by_cases q : ltE (a.getD i tD) (b.getD k tD) = true
        · rw [if_pos (.inr ⟨h1, q⟩), if_pos q]
        · rw [if_neg (by rintro (h | ⟨_, h⟩); omega; exact q h), if_neg q]
          by_cases q2 : ltE (b.getD k tD) (a.getD i tD) = true
          · rw [if_pos (.inr q2), if_pos q2]
          · rw [if_neg (by rintro (h | h); omega; exact q2 h), if_neg q2]
      · obtain rfl : k = b.length := by omega
        rw [drop_cons a i h1, List.drop_length, if_neg (by omega), if_pos (.inl rfl)]
        unfold dfL
        rw [dfR_eq a b n (i + 1) b.length (by omega) hk, List.drop_length]
    · obtain rfl : i = a.length := by omega
      rcases Nat.lt_or_ge k b.length with h2 | h2
      · rw [List.drop_length, drop_cons b k h2, if_neg (by omega), if_neg (by omega), if_pos (.inl rfl)]
        unfold dfL
        rw [dfR_eq a b n a.length (k + 1) hi (by omega), List.drop_length]
      · obtain rfl : k = b.length := by omega
        rw [List.drop_length, List.drop_length, if_pos ⟨rfl, rfl⟩]
        rfl
structure DfP (X Y : List TE) (D : List CE) : Prop where
  rem : ∀ p, (p, (2 : Int)) ∈ D ↔ Has X p ∧ ¬ Has Y p
  put : ∀ p, (∃ κ : Int, κ ≠ 2 ∧ (p, κ) ∈ D) ↔ Has Y p ∧ ¬ ∃ z ∈ X, z ∈ Y ∧ z.1 = p
  dst : D.Pairwise fun c d => c.1 ≠ d.1
theorem DfP.has {X Y : List TE} {D : List CE} (h : DfP X Y D) {c : CE} (hc : c ∈ D) : Has X c.1 ∨ Has Y c.1 := by
  obtain ⟨p, κ⟩ := c
  by_cases h2 : κ = 2
  · subst h2; exact .inl ((h.rem p).1 hc).1
  · exact .inr ((h.put p).1 ⟨κ, h2, hc⟩).1
theorem mem_head {p q : ByteArray} {κ ι : Int} {D : List CE} : (p, κ) ∈ ((q, ι) :: D) ↔ (p = q ∧ κ = ι) ∨ (p, κ) ∈ D := by
  rw [List.mem_cons, Prod.mk.injEq]
theorem dfL_prop : ∀ (n : Nat) (X Y : List TE), X.length + Y.length ≤ n → Srt X → Srt Y → DfP X Y (dfL n X Y)
  | 0, X, Y, h, _, _ => by
    have hx : X = [] := List.length_eq_zero_iff.1 (by omega)
    have hy : Y = [] := List.length_eq_zero_iff.1 (by omega)
    subst hx hy
    exact ⟨fun p => ⟨fun h => (by cases h), fun h => absurd h.1 (has_nil p)⟩, fun p => ⟨fun ⟨_, _, h⟩ => (by cases h), fun h => absurd h.1 (has_nil p)⟩, List.Pairwise.nil⟩
  | n + 1, [], [], h, _, _ => ⟨fun p => ⟨fun h => (by cases h), fun h => absurd h.1 (has_nil p)⟩, fun p => ⟨fun ⟨_, _, h⟩ => (by cases h), fun h => absurd h.1 (has_nil p)⟩, List.Pairwise.nil⟩
  | n + 1, x :: X, [], h, hX, hY => by
    have ih := dfL_prop n X [] (by simp only [List.length_cons] at h; omega) (List.pairwise_cons.1 hX).2 hY
    unfold dfL
    refine ⟨fun p => ?_, fun p => ?_, List.pairwise_cons.2 ⟨fun c hc e => ?_, ih.dst⟩⟩
    · rw [mem_head, ih.rem, has_cons]
      constructor
      · rintro (⟨rfl, _⟩ | ⟨h1, h2⟩)
        · exact ⟨.inl rfl, has_nil _⟩
        · exact ⟨.inr h1, h2⟩
      · rintro ⟨rfl | h1, h2⟩
        · exact .inl ⟨rfl, rfl⟩
        · exact .inr ⟨h1, h2⟩
    · constructor
      · rintro ⟨κ, h1, h2⟩
        rcases mem_head.1 h2 with ⟨_, rfl⟩ | h2
        · exact absurd rfl h1
        · exact absurd ((ih.put p).1 ⟨κ, h1, h2⟩).1 (has_nil p)
      · rintro ⟨h1, _⟩; exact absurd h1 (has_nil p)
    · rcases ih.has hc with q | q
      · exact not_tail hX (by rw [e]; exact q)
      · exact has_nil _ q
  | n + 1, [], y :: Y, h, hX, hY => by
    have ih := dfL_prop n [] Y (by simp only [List.length_cons] at h; omega) hX (List.pairwise_cons.1 hY).2
    unfold dfL
    refine ⟨fun p => ?_, fun p => ?_, List.pairwise_cons.2 ⟨fun c hc e => ?_, ih.dst⟩⟩
    · rw [mem_head, ih.rem]
      constructor
      · rintro (⟨_, h⟩ | ⟨h1, _⟩)
        · exact absurd h (by decide)
        · exact absurd h1 (has_nil p)
      · rintro ⟨h1, _⟩; exact absurd h1 (has_nil p)
    · constructor
      · rintro ⟨κ, h1, h2⟩
        refine ⟨?_, fun ⟨z, hz, _⟩ => by cases hz⟩
        rcases mem_head.1 h2 with ⟨rfl, _⟩ | h2
        · exact has_cons.2 (.inl rfl)
        · exact has_cons.2 (.inr ((ih.put p).1 ⟨κ, h1, h2⟩).1)
      · rintro ⟨h1, _⟩
        rcases has_cons.1 h1 with rfl | h1
        · exact ⟨1, by decide, by simp⟩
        · obtain ⟨κ, k1, k2⟩ := (ih.put p).2 ⟨h1, fun ⟨z, hz, _⟩ => by cases hz⟩
          exact ⟨κ, k1, List.mem_cons_of_mem _ k2⟩
    · rcases ih.has hc with q | q
      · exact has_nil _ q
      · exact not_tail hY (by rw [e]; exact q)
  | n + 1, x :: X, y :: Y, h, hX, hY => by
    have sX := (List.pairwise_cons.1 hX).2
    have sY := (List.pairwise_cons.1 hY).2
    simp only [List.length_cons] at h
    unfold dfL
    by_cases q1 : ltE x y = true
    · rw [if_pos q1]
      have ih := dfL_prop n X (y :: Y) (by simp only [List.length_cons]; omega) sX hY
      have nh := not_has hY q1
      refine ⟨fun p => ?_, fun p => ?_, List.pairwise_cons.2 ⟨fun c hc e => ?_, ih.dst⟩⟩
      · rw [mem_head, ih.rem, has_cons (x := x) (l := X)]
        constructor
        · rintro (⟨rfl, _⟩ | ⟨h1, h2⟩)
          · exact ⟨.inl rfl, nh⟩
          · exact ⟨.inr h1, h2⟩
        · rintro ⟨rfl | h1, h2⟩
          · exact .inl ⟨rfl, rfl⟩
          · exact .inr ⟨h1, h2⟩
      · have e : (∃ κ : Int, κ ≠ 2 ∧ (p, κ) ∈ (x.1, (2 : Int)) :: dfL n X (y :: Y)) ↔ ∃ κ : Int, κ ≠ 2 ∧ (p, κ) ∈ dfL n X (y :: Y) := by
          constructor
          · rintro ⟨κ, h1, h2⟩
            rcases mem_head.1 h2 with ⟨_, rfl⟩ | h2
            · exact absurd rfl h1
            · exact ⟨κ, h1, h2⟩
          · rintro ⟨κ, h1, h2⟩; exact ⟨κ, h1, List.mem_cons_of_mem _ h2⟩
        rw [e, ih.put]
        constructor
        · rintro ⟨h1, h2⟩
          refine ⟨h1, fun ⟨z, hz, hz2, hz3⟩ => ?_⟩
          rcases List.mem_cons.1 hz with rfl | hz
          · exact nh ⟨z, hz2, rfl⟩
          · exact h2 ⟨z, hz, hz2, hz3⟩
        · rintro ⟨h1, h2⟩
          exact ⟨h1, fun ⟨z, hz, hz2, hz3⟩ => h2 ⟨z, List.mem_cons_of_mem _ hz, hz2, hz3⟩⟩
      · rcases ih.has hc with q | q
        · exact not_tail hX (by rw [e]; exact q)
        · exact nh (by rw [e]; exact q)
    · rw [if_neg q1]
      by_cases q2 : ltE y x = true
      · rw [if_pos q2]
        have ih := dfL_prop n (x :: X) Y (by simp only [List.length_cons]; omega) hX sY
        have nh := not_has hX q2
        refine ⟨fun p => ?_, fun p => ?_, List.pairwise_cons.2 ⟨fun c hc e => ?_, ih.dst⟩⟩
        · rw [mem_head, ih.rem]
          constructor
          · rintro (⟨_, h⟩ | ⟨h1, h2⟩)
            · exact absurd h (by decide)
            · refine ⟨h1, fun h3 => ?_⟩
              rcases has_cons.1 h3 with rfl | h3
              · exact nh h1
              · exact h2 h3
          · rintro ⟨h1, h2⟩
            exact .inr ⟨h1, fun h3 => h2 (has_cons.2 (.inr h3))⟩
        · constructor
          · rintro ⟨κ, h1, h2⟩
            rcases mem_head.1 h2 with ⟨rfl, _⟩ | h2
            · refine ⟨has_cons.2 (.inl rfl), fun ⟨z, hz, _, hz3⟩ => nh ⟨z, hz, hz3⟩⟩
            · obtain ⟨k1, k2⟩ := (ih.put p).1 ⟨κ, h1, h2⟩
              refine ⟨has_cons.2 (.inr k1), fun ⟨z, hz, hz2, hz3⟩ => ?_⟩
              rcases List.mem_cons.1 hz2 with rfl | hz2
              · exact nh ⟨z, hz, rfl⟩
              · exact k2 ⟨z, hz, hz2, hz3⟩
          · rintro ⟨h1, h2⟩
            rcases has_cons.1 h1 with rfl | h1
            · exact ⟨1, by decide, by simp⟩
            · obtain ⟨κ, k1, k2⟩ := (ih.put p).2 ⟨h1, fun ⟨z, hz, hz2, hz3⟩ => h2 ⟨z, hz, List.mem_cons_of_mem _ hz2, hz3⟩⟩
              exact ⟨κ, k1, List.mem_cons_of_mem _ k2⟩
        · rcases ih.has hc with q | q
          · exact nh (by rw [e]; exact q)
          · exact not_tail hY (by rw [e]; exact q)
      · rw [if_neg q2]
        have exy : x.1 = y.1 := by
          rcases Classical.em (x.1 = y.1) with e | e
          · exact e
          · exact absurd (ltE_tri (by simpa using q1) e) q2
        have ih := dfL_prop n X Y (by omega) sX sY
        have nX := not_tail hX
        have nY := not_tail hY
        have hrem : ∀ p, Has (x :: X) p ∧ ¬ Has (y :: Y) p ↔ Has X p ∧ ¬ Has Y p := fun p => by
          rw [has_cons, has_cons]
          constructor
          · rintro ⟨h1 | h1, h2⟩
            · exact absurd (.inl (exy ▸ h1)) h2
            · exact ⟨h1, fun h3 => h2 (.inr h3)⟩
          · rintro ⟨h1, h2⟩
            refine ⟨.inr h1, ?_⟩
            rintro (h3 | h3)
            · exact nX (by rw [exy, h3]; exact h1)
            · exact h2 h3
        by_cases q3 : (x.2.toList == y.2.toList) = true
        · rw [if_pos q3]
          have exx : x = y := Prod.ext exy ((beqL_iff _ _).1 q3)
          refine ⟨fun p => by rw [ih.rem, hrem], fun p => ?_, ih.dst⟩
          rw [ih.put]
          constructor
          · rintro ⟨h1, h2⟩
            refine ⟨has_cons.2 (.inr h1), fun ⟨z, hz, hz2, hz3⟩ => ?_⟩
            rcases List.mem_cons.1 hz with rfl | hz
            · exact nY (by rw [← exy, hz3]; exact h1)
            · rcases List.mem_cons.1 hz2 with rfl | hz2
              · exact nX (by rw [exy]; exact ⟨z, hz, rfl⟩)
              · exact h2 ⟨z, hz, hz2, hz3⟩
          · rintro ⟨h1, h2⟩
            rcases has_cons.1 h1 with h1 | h1
            · exact absurd ⟨x, by simp, by rw [exx]; simp, exy.trans h1⟩ h2
            · exact ⟨h1, fun ⟨z, hz, hz2, hz3⟩ => h2 ⟨z, List.mem_cons_of_mem _ hz, List.mem_cons_of_mem _ hz2, hz3⟩⟩
        · rw [if_neg q3]
          have nxx : x.2 ≠ y.2 := fun e => q3 ((beqL_iff _ _).2 e)
          refine ⟨fun p => ?_, fun p => ?_, List.pairwise_cons.2 ⟨fun c hc e => ?_, ih.dst⟩⟩
          · rw [mem_head, hrem, ih.rem]
            constructor
            · rintro (⟨_, h⟩ | h)
              · exact absurd h (by decide)
              · exact h
            · exact .inr
          · constructor
            · rintro ⟨κ, h1, h2⟩
              rcases mem_head.1 h2 with ⟨rfl, _⟩ | h2
              · refine ⟨has_cons.2 (.inl exy.symm), fun ⟨z, hz, hz2, hz3⟩ => ?_⟩
                rcases List.mem_cons.1 hz with rfl | hz
                · rcases List.mem_cons.1 hz2 with e | hz2
                  · exact nxx (by rw [e])
                  · exact nY (by rw [← exy]; exact ⟨z, hz2, rfl⟩)
                · exact nX ⟨z, hz, hz3⟩
              · obtain ⟨k1, k2⟩ := (ih.put p).1 ⟨κ, h1, h2⟩
                refine ⟨has_cons.2 (.inr k1), fun ⟨z, hz, hz2, hz3⟩ => ?_⟩
                rcases List.mem_cons.1 hz with rfl | hz
                · exact nY (by rw [← exy, hz3]; exact k1)
                · rcases List.mem_cons.1 hz2 with rfl | hz2
                  · exact nX (by rw [exy]; exact ⟨z, hz, rfl⟩)
                  · exact k2 ⟨z, hz, hz2, hz3⟩
            · rintro ⟨h1, h2⟩
              rcases has_cons.1 h1 with h1 | h1
              · exact ⟨3, by decide, by rw [exy, h1]; simp⟩
              · obtain ⟨κ, k1, k2⟩ := (ih.put p).2 ⟨h1, fun ⟨z, hz, hz2, hz3⟩ => h2 ⟨z, List.mem_cons_of_mem _ hz, List.mem_cons_of_mem _ hz2, hz3⟩⟩
                exact ⟨κ, k1, List.mem_cons_of_mem _ k2⟩
          · rcases ih.has hc with q | q
            · exact nX (by rw [e]; exact q)
            · exact nY (by rw [← exy, e]; exact q)
theorem dfD_prop {a b : List TE} (ha : Srt a) (hb : Srt b) : DfP a b (dfD a b) := by
  unfold dfD
  rw [dfR_eq a b _ 0 0 (Nat.zero_le _) (Nat.zero_le _)]
  exact dfL_prop _ a b (Nat.le_refl _) ha hb
theorem srt_ext : ∀ {l m : List TE}, Srt l → Srt m → (∀ z, z ∈ l ↔ z ∈ m) → l = m
  | [], [], _, _, _ => rfl
  | [], y :: m, _, _, h => absurd ((h y).2 (by simp)) (by simp)
  | x :: l, [], _, _, h => absurd ((h x).1 (by simp)) (by simp)
  | x :: l, y :: m, hl, hm, h => by
    obtain ⟨l1, l2⟩ := List.pairwise_cons.1 hl
    obtain ⟨m1, m2⟩ := List.pairwise_cons.1 hm
    have hxy : x = y := by
      rcases List.mem_cons.1 ((h x).1 (by simp)) with e | hx
      · exact e
      · rcases List.mem_cons.1 ((h y).2 (by simp)) with e | hy
        · exact e.symm
        · have := ltE_asymm (m1 x hx)
          rw [l1 y hy] at this; cases this
    subst hxy
    rw [srt_ext l2 m2 fun z => ?_]
    constructor
    · intro hz
      rcases List.mem_cons.1 ((h z).1 (List.mem_cons_of_mem _ hz)) with rfl | q
      · exact absurd (l1 z hz) (by rw [ltE_self rfl]; simp)
      · exact q
    · intro hz
      rcases List.mem_cons.1 ((h z).2 (List.mem_cons_of_mem _ hz)) with rfl | q
      · exact absurd (m1 z hz) (by rw [ltE_self rfl]; simp)
      · exact q
end Go.Proofs.YtjgpojglgfddiaaDoor
namespace Go.Proofs.YtjgpojglgfddiaaDoor
open Go Go.RowKit V
set_option linter.unusedSimpArgs false
set_option linter.unusedVariables false
set_option maxHeartbeats 20000000
abbrev cD : CE := (ByteArray.empty, 0)
theorem takeC {D : List CE} {k : Nat} (h : k < D.length) : D.take (k + 1) = D.take k ++ [D.getD k cD] := by
  rw [List.take_succ_eq_append_getElem h, List.getD_eq_getElem?_getD, List.getElem?_eq_getElem h]; rfl
theorem memC {D : List CE} {k : Nat} (h : k < D.length) : D.getD k cD ∈ D := by
  rw [List.getD_eq_getElem?_getD, List.getElem?_eq_getElem h]; exact List.getElem_mem h
def rmK (a : List TE) (D : List CE) : Nat → List TE
  | 0 => a
  | k + 1 => if (D.getD k cD).2 = 2 then woK (rmK a D k) (D.getD k cD).1 (rmK a D k).length else rmK a D k
theorem rm_mem (a : List TE) (D : List CE) : ∀ k, k ≤ D.length → ∀ z, z ∈ rmK a D k ↔ z ∈ a ∧ (z.1, (2 : Int)) ∉ D.take k
  | 0, _, z => by simp [rmK]
  | k + 1, h, z => by
    have ih := rm_mem a D k (by omega) z
    rw [takeC (by omega), List.mem_append, List.mem_singleton]
    unfold rmK
    by_cases h2 : (D.getD k cD).2 = 2
    · rw [if_pos h2, wo_mem, ih]
      constructor
      · rintro ⟨⟨h1, h3⟩, h4⟩
        refine ⟨h1, ?_⟩
        rintro (h5 | h5)
        · exact h3 h5
        · exact h4 (by rw [← h5])
      · rintro ⟨h1, h3⟩
        exact ⟨⟨h1, fun h => h3 (.inl h)⟩, fun e => h3 (.inr (Prod.ext e h2.symm))⟩
    · rw [if_neg h2, ih]
      constructor
      · rintro ⟨h1, h3⟩
        refine ⟨h1, ?_⟩
        rintro (h5 | h5)
        · exact h3 h5
        · exact h2 (by rw [← h5])
      · rintro ⟨h1, h3⟩
        exact ⟨h1, fun h => h3 (.inl h)⟩
theorem rm_srt {a : List TE} (ha : Srt a) (D : List CE) : ∀ k, Srt (rmK a D k)
  | 0 => ha
  | k + 1 => by
    have ih := rm_srt ha D k
    unfold rmK
    split
    · exact wo_srt _ ih
    · exact ih
theorem rm_len (a : List TE) (D : List CE) : ∀ k, (rmK a D k).length ≤ a.length
  | 0 => Nat.le_refl _
  | k + 1 => by
    have ih := rm_len a D k
    unfold rmK
    split
    · exact Nat.le_trans (woK_len _ _ _) ih
    · exact ih
theorem dst_at {D : List CE} (hd : D.Pairwise fun c d => c.1 ≠ d.1) {k : Nat} (h : k < D.length) {c : CE} (hc : c ∈ D.take k) : c.1 ≠ (D.getD k cD).1 := by
  have e : D = D.take k ++ D.drop k := (List.take_append_drop _ _).symm
  rw [e] at hd
  refine (List.pairwise_append.1 hd).2.2 c hc _ ?_
  rw [List.drop_eq_getElem_cons h, List.getD_eq_getElem?_getD, List.getElem?_eq_getElem h]
  exact List.mem_cons_self ..
theorem rm_hit {a b : List TE} {D : List CE} (hD : DfP a b D) {k : Nat} (h : k < D.length) (h2 : (D.getD k cD).2 = 2) : (gtF (rmK a D k) (D.getD k cD).1).2 = true := by
  have hm := memC h
  have e : D.getD k cD = ((D.getD k cD).1, (2 : Int)) := Prod.ext rfl h2
  rw [e] at hm
  obtain ⟨y, hy, ey⟩ := ((hD.rem _).1 hm).1
  rw [gtF_iff]
  refine ⟨y, (rm_mem a D k (by omega) y).2 ⟨hy, fun q => ?_⟩, ey⟩
  exact dst_at hD.dst h q ey
/-- the paths that were put -/
def Put (D : List CE) (k : Nat) (p : ByteArray) : Prop := ∃ κ : Int, κ ≠ 2 ∧ (p, κ) ∈ D.take k
structure Inv (a b : List TE) (D : List CE) (k : Nat) (y : List TE) : Prop where
  srt : Srt y
  mem : ∀ z, z ∈ y ↔ (z ∈ a ∧ Has b z.1 ∧ ¬ Put D k z.1) ∨ (z ∈ b ∧ Put D k z.1)
theorem uniq {l : List TE} (h : Dst l) {x y : TE} (hx : x ∈ l) (hy : y ∈ l) (e : x.1 = y.1) : x = y := by
  obtain ⟨i, hi, rfl⟩ := mem_getD hx
  obtain ⟨j, hj, rfl⟩ := mem_getD hy
  rcases Nat.lt_trichotomy i j with q | q | q
  · have := (List.pairwise_iff_getElem.1 h) i j hi hj q
    rw [getD_get hi, getD_get hj] at e
    exact absurd e this
  · rw [q]
  · have := (List.pairwise_iff_getElem.1 h) j i hj hi q
    rw [getD_get hi, getD_get hj] at e
    exact absurd e.symm this
theorem gt_val {l : List TE} (h : Dst l) {z : TE} (hz : z ∈ l) : gtF l z.1 = (z.2, true) := by
  have hg : gtI l z.1 < l.length := (gt_iff _ _).2 ⟨z, hz, rfl⟩
  unfold gtF
  rw [if_pos hg, uniq h (getD_mem hg) hz (gt_at hg)]
theorem inv0 {a b : List TE} {D : List CE} (hD : DfP a b D) (ha : Srt a) : Inv a b D 0 (rmK a D D.length) := by
  refine ⟨rm_srt ha D _, fun z => ?_⟩
  have hp : ¬ Put D 0 z.1 := fun ⟨_, _, h⟩ => by simp at h
  rw [rm_mem a D _ (Nat.le_refl _), List.take_length, hD.rem]
  constructor
  · rintro ⟨h1, h2⟩
    refine .inl ⟨h1, ?_, hp⟩
    exact Classical.byContradiction fun h3 => h2 ⟨⟨z, h1, rfl⟩, h3⟩
  · rintro (⟨h1, h2, _⟩ | ⟨_, h⟩)
    · exact ⟨h1, fun h3 => h3.2 h2⟩
    · exact absurd h hp
theorem Inv.has {a b : List TE} {D : List CE} {k : Nat} {y : List TE} (h : Inv a b D k y) {z : TE} (hz : z ∈ y) : Has b z.1 := by
  rcases (h.mem z).1 hz with ⟨_, q, _⟩ | ⟨q, _⟩
  · exact q
  · exact ⟨z, q, rfl⟩
theorem inv_fine {a b : List TE} {D : List CE} {k : Nat} {y : List TE} (fa : Fine a) (fb : Fine b) (hb : Srt b) (cb : clF b = true) (h : Inv a b D k y) : Fine y ∧ clF y = true := by
  have e : (b.filter fun w => (gtF y w.1).2).map (fun w => (w.1, (gtF y w.1).1)) = y := by
    refine srt_ext ?_ h.srt fun z => ?_
    · refine List.pairwise_map.2 (List.Pairwise.imp (fun {u v} huv => ?_) (List.Pairwise.sublist List.filter_sublist hb))
      exact huv
    · rw [List.mem_map]
      constructor
      · rintro ⟨w, hw, rfl⟩
        obtain ⟨_, h2⟩ := List.mem_filter.1 hw
        obtain ⟨e, he, e1⟩ := (gtF_iff _ _).1 h2
        have := gt_val h.srt.dst he
        rw [e1] at this
        rw [this]
        have e2 : ((w.1, e.2) : TE) = e := Prod.ext e1.symm rfl
        rw [show (w.1, ((e.2, true) : ByteArray × Bool).1) = e from e2]
        exact he
      · intro hz
        obtain ⟨w, hw, ew⟩ := h.has hz
        have g := gt_val h.srt.dst hz
        refine ⟨w, List.mem_filter.2 ⟨hw, by rw [ew, g]⟩, ?_⟩
        rw [ew, g]
  have hl : y.length ≤ b.length := by
    rw [← e, List.length_map]
    exact List.length_filter_le _ _
  refine ⟨⟨by have := fb.len; omega, fun z hz => ?_, h.srt.dst⟩, ?_⟩
  · rcases (h.mem z).1 hz with ⟨q, _, _⟩ | ⟨q, _⟩
    · exact fa.each z q
    · exact fb.each z q
  · rw [clF_iff, ← e]
    refine List.pairwise_map.2 (List.Pairwise.imp (fun {u v} huv => ?_) (List.Pairwise.sublist List.filter_sublist ((clF_iff b).1 cb)))
    exact huv
theorem inv_skip {a b : List TE} {D : List CE} {k : Nat} {y : List TE} (h : Inv a b D k y) (hk : k < D.length) (h2 : (D.getD k cD).2 = 2) : Inv a b D (k + 1) y := by
  have hp : ∀ p, Put D (k + 1) p ↔ Put D k p := fun p => by
    unfold Put
    rw [takeC hk]
    constructor
    · rintro ⟨κ, h1, h3⟩
      rcases List.mem_append.1 h3 with h3 | h3
      · exact ⟨κ, h1, h3⟩
      · exact absurd (by rw [List.mem_singleton] at h3; rw [← h3] at h2; exact h2) h1
    · rintro ⟨κ, h1, h3⟩; exact ⟨κ, h1, List.mem_append_left _ h3⟩
  exact ⟨h.srt, fun z => by rw [h.mem z, hp]⟩
theorem put_has {a b : List TE} {D : List CE} (hD : DfP a b D) {k : Nat} (hk : k < D.length) (h2 : (D.getD k cD).2 ≠ 2) : (gtF b (D.getD k cD).1).2 = true := by
  rw [gtF_iff]
  exact ((hD.put _).1 ⟨_, h2, memC hk⟩).1
theorem inv_put {a b : List TE} {D : List CE} (hD : DfP a b D) (hb : Srt b) {k : Nat} {y : List TE} (h : Inv a b D k y) (hk : k < D.length) (h2 : (D.getD k cD).2 ≠ 2) : Inv a b D (k + 1) (ptL y ((D.getD k cD).1, (gtF b (D.getD k cD).1).1)) := by
  obtain ⟨w, hw, ew⟩ := (gtF_iff _ _).1 (put_has hD hk h2)
  have gw := gt_val hb.dst hw
  rw [ew] at gw
  rw [gw]
  have ew2 : ((D.getD k cD).1, ((w.2, true) : ByteArray × Bool).1) = w := Prod.ext ew.symm rfl
  rw [ew2]
  have hp : ∀ p, Put D (k + 1) p ↔ Put D k p ∨ p = w.1 := fun p => by
    unfold Put
    rw [takeC hk]
    constructor
    · rintro ⟨κ, h1, h3⟩
      rcases List.mem_append.1 h3 with h3 | h3
      · exact .inl ⟨κ, h1, h3⟩
      · rw [List.mem_singleton] at h3
        exact .inr (by rw [ew, ← h3])
    · rintro (⟨κ, h1, h3⟩ | rfl)
      · exact ⟨κ, h1, List.mem_append_left _ h3⟩
      · exact ⟨(D.getD k cD).2, h2, List.mem_append_right _ (by rw [List.mem_singleton, ew])⟩
  unfold ptL
  refine ⟨insR_srt w _ (wo_srt _ h.srt) fun u hu => (wo_mem.1 hu).2, fun z => ?_⟩
  rw [insR_mem, wo_mem, hp]
  constructor
  · rintro (rfl | ⟨h1, h3⟩)
    · exact .inr ⟨hw, .inr rfl⟩
    · rcases (h.mem z).1 h1 with ⟨q1, q2, q3⟩ | ⟨q1, q2⟩
      · exact .inl ⟨q1, q2, by rintro (q | q); exact q3 q; exact h3 q⟩
      · exact .inr ⟨q1, .inl q2⟩
  · rintro (⟨q1, q2, q3⟩ | ⟨q1, q2⟩)
    · exact .inr ⟨(h.mem z).2 (.inl ⟨q1, q2, fun q => q3 (.inl q)⟩), fun q => q3 (.inr q)⟩
    · by_cases ez : z.1 = w.1
      · exact .inl (uniq hb.dst q1 hw ez)
      · exact .inr ⟨(h.mem z).2 (.inr ⟨q1, q2.resolve_right ez⟩), ez⟩
theorem inv_end {a b : List TE} {D : List CE} (hD : DfP a b D) (ha : Srt a) (hb : Srt b) {y : List TE} (h : Inv a b D D.length y) : y = b := by
  refine srt_ext h.srt hb fun z => ?_
  have hp : Put D D.length z.1 ↔ Has b z.1 ∧ ¬ ∃ u ∈ a, u ∈ b ∧ u.1 = z.1 := by
    unfold Put
    rw [List.take_length, hD.put]
  rw [h.mem z, hp]
  constructor
  · rintro (⟨h1, h2, h3⟩ | ⟨h1, _⟩)
    · obtain ⟨u, hu, hu2, eu⟩ := Classical.byContradiction fun q => h3 ⟨h2, q⟩
      rw [← uniq ha.dst hu h1 eu]; exact hu2
    · exact h1
  · intro hz
    by_cases hq : ∃ u ∈ a, u ∈ b ∧ u.1 = z.1
    · obtain ⟨u, hu, hu2, eu⟩ := hq
      have := uniq hb.dst hu2 hz eu
      subst this
      exact .inl ⟨hu, ⟨u, hz, rfl⟩, fun q => q.2 ⟨u, hu, hz, rfl⟩⟩
    · exact .inr ⟨hz, ⟨z, hz, rfl⟩, hq⟩
/-- puts -/
def pkK (b : List TE) (D : List CE) (x : List TE) : Nat → List TE
  | 0 => x
  | k + 1 => if (D.getD k cD).2 = 2 then pkK b D x k else ptL (pkK b D x k) ((D.getD k cD).1, (gtF b (D.getD k cD).1).1)
theorem pk_inv {a b : List TE} {D : List CE} (hD : DfP a b D) (ha : Srt a) (hb : Srt b) : ∀ k, k ≤ D.length → Inv a b D k (pkK b D (rmK a D D.length) k)
  | 0, _ => inv0 hD ha
  | k + 1, h => by
    have ih := pk_inv hD ha hb k (by omega)
    unfold pkK
    by_cases h2 : (D.getD k cD).2 = 2
    · rw [if_pos h2]; exact inv_skip ih (by omega) h2
    · rw [if_neg h2]; exact inv_put hD hb ih (by omega) h2
/-- every put succeeds -/
theorem pk_put {a b : List TE} {D : List CE} (hD : DfP a b D) (fa : Fine a) (ha : Srt a) (fb : Fine b) (hb : Srt b) (cb : clF b = true) {k : Nat} (hk : k < D.length) (h2 : (D.getD k cD).2 ≠ 2) : ptF (pkK b D (rmK a D D.length) k) ((D.getD k cD).1, (gtF b (D.getD k cD).1).1) = 0 ∧ ptO (pkK b D (rmK a D D.length) k) ((D.getD k cD).1, (gtF b (D.getD k cD).1).1) = pkK b D (rmK a D D.length) (k + 1) := by
  have i1 := pk_inv hD ha hb k (by omega)
  have i2 := pk_inv hD ha hb (k + 1) (by omega)
  obtain ⟨f1, c1⟩ := inv_fine fa fb hb cb i1
  obtain ⟨f2, c2⟩ := inv_fine fa fb hb cb i2
  have e : pkK b D (rmK a D D.length) (k + 1) = ptL (pkK b D (rmK a D D.length) k) ((D.getD k cD).1, (gtF b (D.getD k cD).1).1) := by
    show (if (D.getD k cD).2 = 2 then _ else _) = _
    rw [if_neg h2]
  rw [e] at f2 c2 i2 ⊢
  have h0 : ptF (pkK b D (rmK a D D.length) k) ((D.getD k cD).1, (gtF b (D.getD k cD).1).1) = 0 := by
    unfold ptF
    rw [if_pos (fine_ck f1 i1.srt c1), fine_bd f2, c2]
    rfl
  refine ⟨h0, ?_⟩
  unfold ptO
  rw [if_pos h0, srt_sortR i2.srt]
theorem df_nil {a b : List TE} {D : List CE} (hD : DfP a b D) (ha : Srt a) (hb : Srt b) : D = [] ↔ a = b := by
  constructor
  · intro h
    have := inv_end hD ha hb (pk_inv hD ha hb D.length (Nat.le_refl _))
    subst h
    exact this
  · intro h
    subst h
    cases D with
    | nil => rfl
    | cons c D =>
      exfalso
      obtain ⟨p, κ⟩ := c
      by_cases h2 : κ = 2
      · subst h2
        have := (hD.rem p).1 (by simp)
        exact this.2 this.1
      · obtain ⟨⟨z, hz, e⟩, h3⟩ := (hD.put p).1 ⟨κ, h2, by simp⟩
        exact h3 ⟨z, hz, hz, e⟩
end Go.Proofs.YtjgpojglgfddiaaDoor
namespace Go.Proofs.YtjgpojglgfddiaaDoor
open Go Go.RowKit V
set_option linter.unusedSimpArgs false
set_option linter.unusedVariables false
set_option maxHeartbeats 20000000
def p0S (D : List CE) (a b : List TE) (k : Nat) (x : List TE) : St := stOf 94 [(5, .ptr 0 0), (6, .ptr 1 0), (7, .slv D.length 2 (flatA encC D)), (8, .ptr 2 0), (27, .slv D.length 2 (flatA encC D)), (28, .int .i64 (D.length : Int)), (29, .int .i64 (k : Int))] [.row 24 [filesV a], .row 24 [filesV b], .row 24 [filesV x]]
def p0X (D : List CE) (a b x : List TE) : St := stOf 94 [(5, .ptr 0 0), (6, .ptr 1 0), (7, .slv D.length 2 (flatA encC D)), (8, .ptr 2 0)] [.row 24 [filesV a], .row 24 [filesV b], .row 24 [filesV x]]
theorem p0_step (D : List CE) (a b : List TE) (hD : DfP a b D) (k : Nat) (hk : k < D.length) (hl : D.length ≤ 1000) (ha : a.length ≤ 64) : GoV Tryd.prog 0 (loopB Tryd.f9 0) (isX .normal (p0S D a b (k + 1) (rmK a D (k + 1)))) (p0S D a b k (rmK a D k)) := by
  have at1 := encC_at D k hk
  have hx := rm_len a D k
  show GoV Tryd.prog 0 (loopB Tryd.f9 0) (isX .normal (p0S D a b (k + 1) (if (D.getD k cD).2 = 2 then woK (rmK a D k) (D.getD k cD).1 (rmK a D k).length else rmK a D k))) _
  by_cases h2 : (D.getD k cD).2 = 2
  · have hit := rm_hit hD hk h2
    rw [if_pos h2]
    have rm := remove_w (rmK a D k) (D.getD k cD).1 (by omega)
    rw [hit] at rm
    generalize rmK a D k = x at *
    generalize woK x (D.getD k cD).1 x.length = y at *
    change (flatA encC D).drop _ = AV.str (D.getD k cD).1 :: AV.int .i64 (D.getD k cD).2 :: _ at at1
    rw [h2] at at1
    generalize (D.getD k cD).1 = p at *
    clear hit hD
    unfold p0S
    have e1' := (congrArg (fun z => AV.fptr z) at1)
    have e2' := rm
    have e3' := (congrArg (fun z => AV.int .i64 z) (wrap_i64 (e := (↑k : Int) + (1 : Int)) (by omega) (by omega)))
    exact g_x [⟨1, [], .br true .no⟩, ⟨2, [], .as (rhsOf e1')⟩, ⟨13, [], .call (avOf e2') (blOf e2') []⟩, ⟨25, [], .as (rhsOf e3')⟩] [.sel [5, 6, 7, 8, 27, 28, 29], .keep [0, 1, 2] [false, false, false]] (And.intro (show decide ((↑k : Int) < (↑D.length : Int)) = true from (by rw [decide_eq_true_iff]; omega)) (And.intro (show (0 : Int) ≤ (↑k : Int) ∧ (↑k : Int) < (↑D.length : Int) from (by omega)) (And.intro e1' (And.intro (show 2 ≤ (AV.str p :: AV.int .i64 (2 : Int) :: flatA encC (List.drop (k + 1) D)).length from (by exact Nat.le_of_ble_eq_true (by kernel_rfl))) (And.intro (show 2 ≤ 2 from (by omega)) (And.intro (show 1 ≤ 1 from (by omega)) (And.intro (show 1 ≤ 1 from (by omega)) (And.intro (show 1 ≤ 2 from (by omega)) (And.intro e2' (And.intro (show 1 ≤ 1 from (by omega)) (And.intro (show 1 ≤ 1 from (by omega)) (And.intro (show 1 ≤ 1 from (by omega)) e3'))))))))))))
  · rw [if_neg h2]
    generalize rmK a D k = x at *
    change (flatA encC D).drop _ = AV.str (D.getD k cD).1 :: AV.int .i64 (D.getD k cD).2 :: _ at at1
    have hq : ((D.getD k cD).2 == 2) = false := beq_eq_false_iff_ne.2 h2
    generalize (D.getD k cD).1 = p at *
    generalize (D.getD k cD).2 = κ at *
    clear hD
    unfold p0S
    have e1' := (congrArg (fun z => AV.fptr z) at1)
    have e2' := (congrArg (fun z => AV.int .i64 z) (wrap_i64 (e := (↑k : Int) + (1 : Int)) (by omega) (by omega)))
    exact g_x [⟨1, [], .br true .no⟩, ⟨2, [], .as (rhsOf e1')⟩, ⟨9, [], .br false .no⟩, ⟨10, [], .as (rhsOf e2')⟩] [.sel [5, 6, 7, 8, 27, 28, 29], .keep [0, 1, 2] [false, false, false]] (And.intro (show decide ((↑k : Int) < (↑D.length : Int)) = true from (by rw [decide_eq_true_iff]; omega)) (And.intro (show (0 : Int) ≤ (↑k : Int) ∧ (↑k : Int) < (↑D.length : Int) from (by omega)) (And.intro e1' (And.intro (show 2 ≤ (AV.str p :: AV.int .i64 κ :: flatA encC (List.drop (k + 1) D)).length from (by exact Nat.le_of_ble_eq_true (by kernel_rfl))) (And.intro (show 2 ≤ 2 from (by omega)) (And.intro (show 1 ≤ 1 from (by omega)) (And.intro (show (κ == (2 : Int)) = false from (by assumption)) e2')))))))
theorem p0_loop (D : List CE) (a b : List TE) (hD : DfP a b D) (hl : D.length ≤ 1000) (ha : a.length ≤ 64) : LoopG Tryd.prog 0 Tryd.f9 0 (.exit 0) (p0X D a b (rmK a D D.length)) (p0S D a b 0 a) := by
  refine loopG_of D.length (fun k => p0S D a b k (rmK a D k)) rfl (by simp) (fun k hk => p0_step D a b hD k hk hl ha) ?_
  generalize rmK a D D.length = x at *
  unfold p0S p0X
  exact g_x [⟨1, [], .br false .no⟩] [.sel [5, 6, 7, 8]] (show decide ((↑D.length : Int) < (↑D.length : Int)) = false from (by rw [decide_eq_false_iff_not]; omega))
def p1S (D : List CE) (a b : List TE) (k : Nat) (x : List TE) : St := stOf 94 [(5, .ptr 0 0), (6, .ptr 1 0), (7, .slv D.length 2 (flatA encC D)), (8, .ptr 2 0), (47, .slv D.length 2 (flatA encC D)), (48, .int .i64 (D.length : Int)), (49, .int .i64 (k : Int))] [.row 24 [filesV a], .row 24 [filesV b], .row 24 [filesV x]]
theorem pk_ok {a b : List TE} {D : List CE} (hoa : ∀ x ∈ a, OkT x) (hob : ∀ x ∈ b, OkT x) {k : Nat} {y : List TE} (h : Inv a b D k y) : ∀ z ∈ y, OkT z := fun z hz => by
  rcases (h.mem z).1 hz with ⟨q, _, _⟩ | ⟨q, _⟩
  · exact hoa z q
  · exact hob z q
theorem p1_step (D : List CE) (a b : List TE) (hD : DfP a b D) (fa : Fine a) (sa : Srt a) (fb : Fine b) (sb : Srt b) (cb : clF b = true) (hoa : ∀ x ∈ a, OkT x) (hob : ∀ x ∈ b, OkT x) (k : Nat) (hk : k < D.length) (hl : D.length ≤ 1000) : GoV Tryd.prog 0 (loopB Tryd.f9 1) (isX .normal (p1S D a b (k + 1) (pkK b D (rmK a D D.length) (k + 1)))) (p1S D a b k (pkK b D (rmK a D D.length) k)) := by
  have at1 := encC_at D k hk
  have iv := pk_inv hD sa sb k (by omega)
  have xl := (inv_fine fa fb sb cb iv).1.len
  have xok := pk_ok hoa hob iv
  have bl := fb.len
  by_cases h2 : (D.getD k cD).2 = 2
  · have e : pkK b D (rmK a D D.length) (k + 1) = pkK b D (rmK a D D.length) k := by
      show (if (D.getD k cD).2 = 2 then _ else _) = _
      rw [if_pos h2]
    rw [e]
    generalize pkK b D (rmK a D D.length) k = x at *
    change (flatA encC D).drop _ = AV.str (D.getD k cD).1 :: AV.int .i64 (D.getD k cD).2 :: _ at at1
    rw [h2] at at1
    generalize (D.getD k cD).1 = p at *
    clear hD iv e xok
    unfold p1S
    have e1' := (congrArg (fun z => AV.fptr z) at1)
    have e2' := (congrArg (fun z => AV.int .i64 z) (wrap_i64 (e := (↑k : Int) + (1 : Int)) (by omega) (by omega)))
    exact g_x [⟨1, [], .br true .no⟩, ⟨2, [], .as (rhsOf e1')⟩, ⟨10, [], .as (rhsOf e2')⟩] [.sel [5, 6, 7, 8, 47, 48, 49], .keep [0, 1, 2] [false, false, false]] (And.intro (show decide ((↑k : Int) < (↑D.length : Int)) = true from (by rw [decide_eq_true_iff]; omega)) (And.intro (show (0 : Int) ≤ (↑k : Int) ∧ (↑k : Int) < (↑D.length : Int) from (by omega)) (And.intro e1' (And.intro (show 2 ≤ (AV.str p :: AV.int .i64 (2 : Int) :: flatA encC (List.drop (k + 1) D)).length from (by exact Nat.le_of_ble_eq_true (by kernel_rfl))) (And.intro (show 2 ≤ 2 from (by omega)) (And.intro (show 1 ≤ 1 from (by omega)) e2'))))))
  · obtain ⟨h3, h4⟩ := pk_put hD fa sa fb sb cb hk h2
    have hs := put_has hD hk h2
    have gt := get_v b (D.getD k cD).1 (by omega)
    rw [hs] at gt
    have hg : ∃ y ∈ b, y.1 = (D.getD k cD).1 := (gtF_iff _ _).1 hs
    have hox : OkT ((D.getD k cD).1, (gtF b (D.getD k cD).1).1) := by
      obtain ⟨y, hy, ey⟩ := hg
      have := gt_val sb.dst hy
      rw [ey] at this
      rw [this]
      have o := hob y hy
      exact ⟨by rw [← ey]; exact o.1, o.2⟩
    have pu := put_w (pkK b D (rmK a D D.length) k) ((D.getD k cD).1, (gtF b (D.getD k cD).1).1) (by omega) xok hox
    rw [h3, h4] at pu
    generalize pkK b D (rmK a D D.length) (k + 1) = y at *
    generalize pkK b D (rmK a D D.length) k = x at *
    change (flatA encC D).drop _ = AV.str (D.getD k cD).1 :: AV.int .i64 (D.getD k cD).2 :: _ at at1
    have hq : ((D.getD k cD).2 == 2) = false := beq_eq_false_iff_ne.2 h2
    clear hs hg h3 h4 iv xok hox hD h2
    generalize (gtF b (D.getD k cD).1).1 = c at *
    generalize (D.getD k cD).1 = p at *
    generalize (D.getD k cD).2 = κ at *
    unfold p1S
    have e1' := (congrArg (fun z => AV.fptr z) at1)
    have e2' := gt
    have e3' := pu
    have e4' := (congrArg (fun z => AV.int .i64 z) (wrap_i64 (e := (↑k : Int) + (1 : Int)) (by omega) (by omega)))
    exact g_x [⟨1, [], .br true .no⟩, ⟨2, [], .as (rhsOf e1')⟩, ⟨9, [], .br true .no⟩, ⟨13, [], .call (avOf e2') (blOf e2') []⟩, ⟨23, [], .call (avOf e3') (blOf e3') []⟩, ⟨39, [], .as (rhsOf e4')⟩] [.sel [5, 6, 7, 8, 47, 48, 49], .keep [0, 1, 2] [false, false, false]] (And.intro (show decide ((↑k : Int) < (↑D.length : Int)) = true from (by rw [decide_eq_true_iff]; omega)) (And.intro (show (0 : Int) ≤ (↑k : Int) ∧ (↑k : Int) < (↑D.length : Int) from (by omega)) (And.intro e1' (And.intro (show 2 ≤ (AV.str p :: AV.int .i64 κ :: flatA encC (List.drop (k + 1) D)).length from (by exact Nat.le_of_ble_eq_true (by kernel_rfl))) (And.intro (show 2 ≤ 2 from (by omega)) (And.intro (show 1 ≤ 1 from (by omega)) (And.intro (show (κ != (2 : Int)) = true from (by simp_all; done)) (And.intro (show 1 ≤ 1 from (by omega)) (And.intro (show 1 ≤ 2 from (by omega)) (And.intro e2' (And.intro (show 1 ≤ 1 from (by omega)) (And.intro (show 1 ≤ 2 from (by omega)) (And.intro e3' (And.intro (show 1 ≤ 1 from (by omega)) (And.intro (show 1 ≤ 1 from (by omega)) (And.intro (show 1 ≤ 1 from (by omega)) e4'))))))))))))))))
theorem p1_loop (D : List CE) (a b : List TE) (hD : DfP a b D) (fa : Fine a) (sa : Srt a) (fb : Fine b) (sb : Srt b) (cb : clF b = true) (hoa : ∀ x ∈ a, OkT x) (hob : ∀ x ∈ b, OkT x) (hl : D.length ≤ 1000) : LoopG Tryd.prog 0 Tryd.f9 1 (.exit 2) (p0X D a b b) (p1S D a b 0 (rmK a D D.length)) := by
  refine loopG_of D.length (fun k => p1S D a b k (pkK b D (rmK a D D.length) k)) rfl (by simp) (fun k hk => p1_step D a b hD fa sa fb sb cb hoa hob k hk hl) ?_
  rw [inv_end hD sa sb (pk_inv hD sa sb D.length (Nat.le_refl _))]
  unfold p1S p0X
  exact g_x [⟨1, [], .br false .no⟩] [.sel [5, 6, 7, 8]] (show decide ((↑D.length : Int) < (↑D.length : Int)) = false from (by rw [decide_eq_false_iff_not]; omega))
def sgS (a b : List TE) (i : Nat) : St := stOf 31 [(2, .ptr 0 0), (3, .ptr 1 0), (5, .int .i64 (i : Int))] [.row 24 [filesV a], .row 24 [filesV b]]
theorem sameG (a b : List TE) (ha : a.length ≤ 1000) : CallsV Tryd.prog 21 [treeV a, treeV b] [] (fun av H' => av = .bool (decide (a = b)) ∧ H' = []) := by
  by_cases hab : a = b
  · subst hab
    rw [decide_eq_true rfl]
    exact sameR a ha
  · rw [decide_eq_false hab]
    refine callsG_at Tryd.func21 (by kernel_rfl) ?_
    by_cases hlen : a.length = b.length
    · have hf : ∃ m, m < a.length ∧ (∀ k, k < m → a.getD k tD = b.getD k tD) ∧ a.getD m tD ≠ b.getD m tD := by
        rcases fstN_or (fun k => decide (a.getD k tD = b.getD k tD)) a.length with ⟨_, h2⟩ | ⟨h1, h2, h3⟩
        · exfalso
          refine hab (List.ext_getElem hlen fun i h1 h2' => ?_)
          have := of_decide_eq_true (h2 i h1)
          rwa [getD_get h1, getD_get h2'] at this
        · exact ⟨_, h1, fun k hk => of_decide_eq_true (h2 k hk), of_decide_eq_false h3⟩
      obtain ⟨m, h1, h2, h3⟩ := hf
      have hL : LoopG Tryd.prog 0 Tryd.f21 0 .ret (stOf 31 [(4, .bool false)] []) (sgS a b 0) := by
        refine loopG_of m (fun k => sgS a b k) rfl (by simp) ?_ ?_
        · intro k hk
          have at1 := encT_at a k (by omega)
          have at2 := encT_at b k (by omega)
          rw [← h2 k hk] at at2
          generalize a.getD k tD = x at at1 at2
          have e1 : (x.1.toList == x.1.toList) = true := beq_self_eq_true _
          have e2 : (x.2.toList == x.2.toList) = true := beq_self_eq_true _
          clear h2 h3 hab
          unfold sgS
          have e1' := (congrArg (fun z => AV.fptr z) at1)
          have e2' := (congrArg (fun z => AV.fptr z) at2)
          have e3' := (congrArg (fun z => AV.int .i64 z) (wrap_i64 (e := (↑k : Int) + (1 : Int)) (by omega) (by omega)))
          exact g_x [⟨5, [], .br true .no⟩, ⟨9, [], .as (rhsOf e1')⟩, ⟨14, [], .as (rhsOf e2')⟩, ⟨17, [], .br false .no⟩, ⟨19, [], .as (rhsOf e3')⟩] [.sel [2, 3, 5]] (And.intro (show 1 ≤ 1 from (by omega)) (And.intro (show decide ((↑k : Int) < (↑a.length : Int)) = true from (by rw [decide_eq_true_iff]; omega)) (And.intro (show 1 ≤ 1 from (by omega)) (And.intro (show (0 : Int) ≤ (↑k : Int) ∧ (↑k : Int) < (↑a.length : Int) from (by omega)) (And.intro e1' (And.intro (show 2 ≤ (AV.str x.fst :: AV.str x.snd :: flatA encT (List.drop (k + 1) a)).length from (by exact Nat.le_of_ble_eq_true (by kernel_rfl))) (And.intro (show 1 ≤ 1 from (by omega)) (And.intro (show (0 : Int) ≤ (↑k : Int) ∧ (↑k : Int) < (↑b.length : Int) from (by omega)) (And.intro e2' (And.intro (show 2 ≤ (AV.str x.fst :: AV.str x.snd :: flatA encT (List.drop (k + 1) b)).length from (by exact Nat.le_of_ble_eq_true (by kernel_rfl))) (And.intro (Eq.trans (congrArg (fun z => !(z && (x.snd.toList == x.snd.toList && true))) e1) (congrArg (fun z => !(true && (z && true))) e2)) e3')))))))))))
        · have at1 := encT_at a m (by omega)
          have at2 := encT_at b m (by omega)
          have hne : ((a.getD m tD).1.toList == (b.getD m tD).1.toList && ((a.getD m tD).2.toList == (b.getD m tD).2.toList && true)) = false := by
            rw [Bool.and_true, Bool.and_eq_false_iff]
            by_cases q : (a.getD m tD).1 = (b.getD m tD).1
            · right
              rw [← Bool.not_eq_true, beqL_iff]
              exact fun q2 => h3 (Prod.ext q q2)
            · left
              rw [← Bool.not_eq_true, beqL_iff]
              exact q
          generalize a.getD m tD = x at *
          generalize b.getD m tD = y at *
          have h1' : decide ((m : Int) < (a.length : Int)) = true := decide_eq_true (by omega)
          clear h2 h3 hab
          unfold sgS
          have e1' := (congrArg (fun z => AV.bool z) h1')
          have e2' := (congrArg (fun z => AV.fptr z) at1)
          have e3' := (congrArg (fun z => AV.fptr z) at2)
          have e4' := (congrArg (fun z => AV.bool !z) hne)
          exact g_x [⟨4, [], .as (rhsOf e1')⟩, ⟨9, [], .as (rhsOf e2')⟩, ⟨14, [], .as (rhsOf e3')⟩, ⟨16, [], .as (rhsOf e4')⟩] [.sel [4], .keep [] []] (And.intro (show 1 ≤ 1 from (by omega)) (And.intro e1' (And.intro (show 1 ≤ 1 from (by omega)) (And.intro (show (0 : Int) ≤ (↑m : Int) ∧ (↑m : Int) < (↑a.length : Int) from (by omega)) (And.intro e2' (And.intro (show 2 ≤ (AV.str x.fst :: AV.str x.snd :: flatA encT (List.drop (m + 1) a)).length from (by exact Nat.le_of_ble_eq_true (by kernel_rfl))) (And.intro (show 1 ≤ 1 from (by omega)) (And.intro (show (0 : Int) ≤ (↑m : Int) ∧ (↑m : Int) < (↑b.length : Int) from (by omega)) (And.intro e3' (And.intro (show 2 ≤ (AV.str y.fst :: AV.str y.snd :: flatA encT (List.drop (m + 1) b)).length from (by exact Nat.le_of_ble_eq_true (by kernel_rfl))) e4'))))))))))
      unfold sgS at hL
      have e1' := hL
      refine g_q [⟨10, [], .br false .no⟩, ⟨12, [.sel [2, 3, 5]], .loop (exOf e1') (endOf e1')⟩] [] Exit.ret (stOf 31 [(4, AV.bool false)] []) (And.intro (show 1 ≤ 1 from (by omega)) (And.intro (show 1 ≤ 1 from (by omega)) (And.intro (show ((↑a.length : Int) != (↑b.length : Int)) = false from (by simp_all; done)) e1'))) ?_
      refine g_f [] [] (AV.bool false) ([]) trivial ?_
      exact ⟨rfl, rfl⟩
    · refine g_q [⟨10, [], .br true .no⟩] [.sel [4]] Exit.ret (stOf 31 [(4, AV.bool false)] [Blk.row 24 [AV.slv a.length 2 (flatA encT a)], Blk.row 24 [AV.slv b.length 2 (flatA encT b)]]) (And.intro (show 1 ≤ 1 from (by omega)) (And.intro (show 1 ≤ 1 from (by omega)) (show ((↑a.length : Int) != (↑b.length : Int)) = true from (by simp_all; omega)))) ?_
      refine g_f [] [] (AV.bool false) ([]) trivial ?_
      exact ⟨rfl, rfl⟩
theorem patchLaw (l m : List (Int × Int)) (hl : Stp l) (hm : Stp m) : CallsV Tryd.prog 9 [stpV l, stpV m] [] (fun av H' => av = .bool true ∧ H' = []) := by
  refine callsG_at Tryd.func9 (by kernel_rfl) ?_
  have t1 := tree_w l hl.1 hl.2
  have t2 := tree_w m hm.1 hm.2
  have k1 := trF_len l
  have k2 := trF_len m
  have o1 := trF_ok l
  have o2 := trF_ok m
  have dv := diff_w (trF l) (trF m) (by omega) (by omega)
  have dl := dfD_len (trF l) (trF m)
  have c1 := ck_fine (trF_fine l)
  have c2 := ck_fine (trF_fine m)
  have dp := dfD_prop c1.2.1 c2.2.1
  have aw := awake_v
  generalize dfD (trF l) (trF m) = D at *
  generalize trF l = a at *
  generalize trF m = b at *
  have lo := p0_loop D a b dp (by omega) k1
  have lp := p1_loop D a b dp c1.1 c1.2.1 c2.1 c2.2.1 c2.2.2 o1 o2 (by omega)
  have s1 := sameR b (by omega)
  have s2 := sameG a b (by omega)
  have hn := df_nil dp c1.2.1 c2.2.1
  have hd : decide ((D.length : Int) = 0) = decide (a = b) := by
    by_cases h : a = b
    · rw [decide_eq_true h, decide_eq_true]
      rw [hn.2 h]; rfl
    · rw [decide_eq_false h, decide_eq_false]
      intro q
      exact h (hn.1 (List.length_eq_zero_iff.1 (by omega)))
  have hd2 : ((D.length : Int) == 0) = decide (a = b) := by rw [← hd]; rfl
  generalize rmK a D D.length = x at *
  unfold p0S p0X at lo
  unfold p1S p0X at lp
  clear dp c1 c2 hn hd o1 o2
  generalize decide (a = b) = t at *
  cases t with
  | false =>
    have e1' := t1
    have e2' := t2
    have e3' := dv
    have e4' := lo
    have e5' := lp
    have e6' := aw
    have e7' := s1
    have e8' := (congrArg (fun z => AV.bool z) hd2)
    have e9' := s2
    refine g_q [⟨2, [], .call (avOf e1') (blOf e1') []⟩, ⟨4, [], .call (avOf e2') (blOf e2') []⟩, ⟨11, [], .call (avOf e3') (blOf e3') []⟩, ⟨19, [.sel [5, 6, 7, 8, 27, 28, 29]], .loop (exOf e4') (endOf e4')⟩, ⟨23, [], .loop (exOf e5') (endOf e5')⟩, ⟨24, [], .call (avOf e6') (blOf e6') []⟩, ⟨28, [], .call (avOf e7') (blOf e7') []⟩, ⟨33, [], .as (rhsOf e8')⟩, ⟨36, [], .call (avOf e9') (blOf e9') []⟩] [.sel [4]] Exit.ret (stOf 94 [(4, AV.bool true)] [Blk.row 24 [AV.slv a.length 2 (flatA encT a)], Blk.row 24 [AV.slv b.length 2 (flatA encT b)], Blk.row 24 [AV.slv b.length 2 (flatA encT b)]]) (And.intro e1' (And.intro e2' (And.intro (show 1 ≤ 1 from (by omega)) (And.intro (show 1 ≤ 1 from (by omega)) (And.intro (show 1 ≤ 1 from (by omega)) (And.intro (show 1 ≤ 1 from (by omega)) (And.intro e3' (And.intro (show 1 ≤ 1 from (by omega)) (And.intro (show 1 ≤ 1 from (by omega)) (And.intro e4' (And.intro e5' (And.intro e6' (And.intro (show 1 ≤ 1 from (by omega)) (And.intro (show 1 ≤ 1 from (by omega)) (And.intro e7' (And.intro e8' (And.intro (show 1 ≤ 1 from (by omega)) (And.intro (show 1 ≤ 1 from (by omega)) e9')))))))))))))))))) ?_
    refine g_f [] [] (AV.bool true) ([]) trivial ?_
    exact ⟨by first | rfl | simp, rfl⟩
  | true =>
    have e1' := t1
    have e2' := t2
    have e3' := dv
    have e4' := lo
    have e5' := lp
    have e6' := aw
    have e7' := s1
    have e8' := (congrArg (fun z => AV.bool z) hd2)
    have e9' := s2
    refine g_q [⟨2, [], .call (avOf e1') (blOf e1') []⟩, ⟨4, [], .call (avOf e2') (blOf e2') []⟩, ⟨11, [], .call (avOf e3') (blOf e3') []⟩, ⟨19, [.sel [5, 6, 7, 8, 27, 28, 29]], .loop (exOf e4') (endOf e4')⟩, ⟨23, [], .loop (exOf e5') (endOf e5')⟩, ⟨24, [], .call (avOf e6') (blOf e6') []⟩, ⟨28, [], .call (avOf e7') (blOf e7') []⟩, ⟨33, [], .as (rhsOf e8')⟩, ⟨36, [], .call (avOf e9') (blOf e9') []⟩] [.sel [4]] Exit.ret (stOf 94 [(4, AV.bool true)] [Blk.row 24 [AV.slv a.length 2 (flatA encT a)], Blk.row 24 [AV.slv b.length 2 (flatA encT b)], Blk.row 24 [AV.slv b.length 2 (flatA encT b)]]) (And.intro e1' (And.intro e2' (And.intro (show 1 ≤ 1 from (by omega)) (And.intro (show 1 ≤ 1 from (by omega)) (And.intro (show 1 ≤ 1 from (by omega)) (And.intro (show 1 ≤ 1 from (by omega)) (And.intro e3' (And.intro (show 1 ≤ 1 from (by omega)) (And.intro (show 1 ≤ 1 from (by omega)) (And.intro e4' (And.intro e5' (And.intro e6' (And.intro (show 1 ≤ 1 from (by omega)) (And.intro (show 1 ≤ 1 from (by omega)) (And.intro e7' (And.intro e8' (And.intro (show 1 ≤ 1 from (by omega)) (And.intro (show 1 ≤ 1 from (by omega)) e9')))))))))))))))))) ?_
    refine g_f [] [] (AV.bool true) ([]) trivial ?_
    exact ⟨by first | rfl | simp, rfl⟩
end Go.Proofs.YtjgpojglgfddiaaDoor
