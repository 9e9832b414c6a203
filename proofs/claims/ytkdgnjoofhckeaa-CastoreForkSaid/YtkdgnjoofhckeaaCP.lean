/-
  Stores: a step of the law without keys.
-/
import Derived.Test.YtkdgnjoofhckeaaCO
namespace Go.Proofs.Ytkdgnjoofhckeaa
open Go Go.RowKit V
set_option linter.unusedSimpArgs false
set_option linter.unusedVariables false
set_option maxHeartbeats 20000000
theorem four_rep {p : Pl} {w : World} {vals : Array Value} {x0 x1 x2 x3 : AV} (h : RepL (Rep p w) vals.toList [x0, x1, x2, x3]) : ∃ u0 u1 u2 u3, vals = #[u0, u1, u2, u3] ∧ Rep p w u0 x0 ∧ Rep p w u1 x1 ∧ Rep p w u2 x2 ∧ Rep p w u3 x3 := by
  obtain ⟨l⟩ := vals
  match l, h with
  | [u0, u1, u2, u3], h => exact ⟨u0, u1, u2, u3, rfl, h.2 0 (by simp) (by simp), h.2 1 (by simp) (by simp), h.2 2 (by simp) (by simp), h.2 3 (by simp) (by simp)⟩
  | [], h => exact absurd h.1 (by simp)
  | [_], h => exact absurd h.1 (by simp)
  | [_, _], h => exact absurd h.1 (by simp)
  | [_, _, _], h => exact absurd h.1 (by simp)
  | _ :: _ :: _ :: _ :: _ :: _, h => exact absurd h.1 (by simp)
def bothN (n r : Int) (l : List It) (A : List Int) : List Blk := [.row 48 [.int .i64 n, .int .i64 r, .sl 2 0 l.length 3, .map 3], .row 38 [.int .i64 n, .int .i64 r, .sl 4 0 l.length 3, .sl 5 0 A.length 1], .row 65 (flatA (encP n) l), .map (mapC A), .row 74 (flatA (encR n) l), .row 42 (flatA encA A)]
def bothM (n r : Int) (l : List It) (A : List Int) (ks : List (Int × Int)) : List Blk := [.row 48 [.int .i64 n, .int .i64 r, .sl 8 0 l.length 3, .map 3], .row 38 [.int .i64 n, .int .i64 r, .sl 9 0 l.length 3, .sl 10 0 A.length 1], .dead, .map (mapC A), .dead, .dead, .dead, .row 44 (flatA encK ks), .row 65 (flatA (encP n) l), .row 74 (flatA (encR n) l), .row 42 (flatA encA A)]
theorem play_n (n : Int) (hn : 1 ≤ n ∧ n ≤ 32) (R : Nat) (hR : 0 < R ∧ R ≤ 32) (k : Nat) (hk : k ≤ 100) (l : List It) (A : List Int) (h : Inv R k ⟨l, A, []⟩) (a b : Int) (ha0 : 0 ≤ a) (hb0 : 0 ≤ b) (hb1 : b < 256) : CallsV Try.prog 10 [.ptr 0 0, .ptr 1 0, .agg [.int .u8 a, .int .u8 b], .nilsl] (bothN n (R : Int) l A) (fun av H' => av = .tuple [.sl 7 0 (stepC n R ⟨l, A, []⟩ a b).ks.length 2, .bool true] ∧ H' = bothM n (R : Int) (stepC n R ⟨l, A, []⟩ a b).l (stepC n R ⟨l, A, []⟩ a b).A (stepC n R ⟨l, A, []⟩ a b).ks) := fun p w vals hH hv => by
  have hc := play_v n hn R hR k hk ⟨l, A, []⟩ h a b ha0 hb0 hb1
  generalize stepC n R ⟨l, A, []⟩ a b = q at hc ⊢
  obtain ⟨l', A', ks'⟩ := q
  simp only at hc ⊢
  obtain ⟨r1, s1⟩ := mv_ok hH none none 44 [] rfl rfl rfl (Nat.le_refl _) (fun _ _ _ => rfl) (fun g hg => by cases hg) (Or.inl ⟨rfl, rfl⟩)
  have hn6 : p.n = 6 := hH.n
  obtain ⟨u0, u1, u2, u3, rfl, g0, g1, g2, g3⟩ := four_rep hv
  have g3' : Rep (p.mv none none) w u3 (.sl 6 0 0 2) := by
    cases rep_nilsl g3
    exact ⟨by simp [Pl.mv, hn6], fun q hq => ⟨none, 0, rfl, Nat.le_refl _, Nat.zero_le _, by decide, fun _ => rfl, Or.inl rfl⟩⟩
  have hv1 : RepL (Rep (p.mv none none) w) (#[u0, u1, u2, u3] : Array Value).toList [.ptr 0 0, .ptr 1 0, .agg [.int .u8 a, .int .u8 b], .sl 6 0 0 2] :=
    RepL.cons (g0.step s1) (RepL.cons (g1.step s1) (RepL.cons (g2.step s1) (RepL.cons g3' RepL.nil)))
  have hc' : CallsV Try.prog 10 ([AV.ptr 0 0, AV.ptr 1 0, AV.agg [.int .u8 a, .int .u8 b], AV.sl 6 0 0 2].map (ren (V.idxK [0, 1, 6, 2, 3, 4, 5]))) (keepF [0, 1, 6, 2, 3, 4, 5] (bothN n (R : Int) l A ++ [Blk.row 44 ([] : List AV)]) [0, 1, 6, 2, 3, 4, 5] [false, false, false, true, true, true, true]) (fun av H' => av = .tuple [.sl 7 0 ks'.length 2, .bool true] ∧ H' = playD n (R : Int) l' A' ks') := hc
  have hs := CallsV.sub (P := Try.prog) (f := 10) (ks := [0, 1, 6, 2, 3, 4, 5]) (fl := [false, false, false, true, true, true, true]) (fl2 := [false, false, false, false, true, false, false, true, true, true, true]) (args := [.ptr 0 0, .ptr 1 0, .agg [.int .u8 a, .int .u8 b], .sl 6 0 0 2]) (av := .tuple [.sl 7 0 ks'.length 2, .bool true]) (H1 := playD n (R : Int) l' A' ks') (H := bothN n (R : Int) l A ++ [Blk.row 44 ([] : List AV)]) hc' (by rfl)
    (show (∀ x ∈ _, _) ∧ (∀ q ∈ _, _) ∧ (∀ x ∈ _, _) ∧ (∀ x ∈ _, _) from ⟨its_noid n l, map_plainC A, rts_noid n l, encA_noid A⟩)
    (show (∀ q ∈ _, _) ∧ (∀ x ∈ _, _) ∧ (∀ x ∈ _, _) ∧ (∀ x ∈ _, _) ∧ (∀ x ∈ _, _) from ⟨map_plainC A', encK_noid ks', its_noid n l', rts_noid n l', encA_noid A'⟩) (by unfold playD; simp) r1 hv1
  refine hs.mono ?_
  rintro e w' ⟨v, p', rfl, k1, k2, k3⟩
  exact ⟨v, .tuple [.sl 7 0 ks'.length 2, .bool true], bothM n (R : Int) l' A' ks', p', rfl, ⟨rfl, rfl⟩, k1, k2, s1.trans k3⟩
end Go.Proofs.Ytkdgnjoofhckeaa
