/-
  The contracts of the functions that the laws of layer 27 call, continued: PushAll and its reference.
-/
import Derived.Test.YtajcfogddgekpaaWalks2
import Derived.Test.YtajcfogddgekpaaOpen
namespace Go.Proofs.Ytajcfogddgekpaa
open Go.ChangeShapes Go.WideShapes Go.ChangeAt Go.RowKit

/-- Push of all elements; none: there is no room -/
def pushAll (room : Int) : List P2 → List P2 → Option (List P2)
  | ps, [] => some ps
  | ps, p :: r => if hasP ps p then pushAll room ps r else if room ≤ ps.length then none else pushAll room (ps ++ [p]) r
def pushAllL (ps : List P2) (room : Int) (l : List P2) : List P2 := (pushAll room ps l).getD []
def pushAllE (ps : List P2) (room : Int) (l : List P2) : Int := if (pushAll room ps l).isSome then 0 else 4
theorem pushAll_len (room : Int) : ∀ (l ps r : List P2), pushAll room ps l = some r → r.length ≤ ps.length + l.length := by
  intro l
  induction l with
  | nil => intro ps r h; simp [pushAll] at h; subst h; simp
  | cons p t ih =>
    intro ps r h
    simp only [pushAll] at h
    split at h
    · have := ih _ _ h; simp; omega
    · split at h
      · cases h
      · have := ih _ _ h; simp at this ⊢; omega

def SetIs (kv : List (P2 × Value)) (cur : List P2) : Prop := ∀ p, (getK eqPP kv p).getD (.bool false) = .bool (hasP cur p)
theorem SetIs.nil : SetIs [] [] := fun _ => rfl
theorem hasP_snoc (cur : List P2) (x p : P2) : hasP (cur ++ [x]) p = (hasP cur p || eqPP x p) := by simp [hasP, eqPP]
theorem eqPP_comm (x y : P2) : eqPP x y = eqPP y x := eqP_comm _ _ _ _
theorem SetIs.put {kv : List (P2 × Value)} {cur : List P2} (h : SetIs kv cur) (x : P2) : SetIs (putK eqPP kv x (.bool true)) (cur ++ [x]) := by
  intro p
  rw [getK_putK keyPair.eq, hasP_snoc, eqPP_comm x p]
  cases hq : eqPP p x
  · simpa using h p
  · simp
theorem own_ne_map {w : World} {base : Nat} {v : Value} {ps : List P2} {mb : Nat} {kv : List (P2 × Value)} (h : OwnP w base v ps) (hm : MapIs pv w mb kv) : v.ownBlock ≠ some mb := by
  obtain ⟨es, clock, h1, _⟩ := hm
  rcases h.2 with ⟨rfl, _⟩ | ⟨g, cap, cur, rfl, _, h2, _⟩
  · simp [Value.ownBlock]
  · intro e
    simp only [Value.ownBlock, Option.some.injEq] at e
    subst e
    rw [h1] at h2; cases h2

theorem zero_bool (w : World) : (zeroValue 4).run Try.prog w = .ok (.bool false) w := by kernel_rfl

set_option maxHeartbeats 2000000 in
theorem pushAll_any (a : Option Addr) (len cap : Nat) (ps : List P2) (room : Int) (a2 : Option Addr) (len2 cap2 : Nat) (l : List P2) (w : World) (hR : RowP w a len cap ps) (hR2 : RowP w a2 len2 cap2 l)
    (hb : -9223372036854775808 ≤ room ∧ room ≤ 9223372036854775807) (hsm : len + len2 ≤ 500000000) :
    Calls Try.prog 10 #[.slice a len cap, .int .i64 room, .slice a2 len2 cap2] w fun e w' => ∃ v, e = .returned (.tuple #[v, .int .i64 (pushAllE ps room l)]) ∧ OwnP w' w.heap.size v (pushAllL ps room l) ∧ Below w.heap.size w w' := by
  have hpl := Lib.hid hR.len_eq
  have hmm := @run_makeMap Try.prog
  have hmt : Try.prog.underlying 46 = some (.map 24 4) := Try.underlying46
  go_enter Try.func10, Try.ntmps10
  go_wp2_with fail
  refine (clone_any _ _ _ _ _ hR).mono ?_
  rintro e w1 ⟨v0, rfl, hown, hb1⟩
  have hm0 := MapIs.made (toV := pv) w1
  have hB0 : Below w.heap.size w (w1.alloc (.map #[] 0)) := hb1.alloc hb1.size _
  have ho0 : OwnP (w1.alloc (.map #[] 0)) w.heap.size v0 ps := World.ownsRow.alloc hown _
  have hmbw : w.heap.size ≤ w1.heap.size := hb1.size
  have hl1 : len ≤ 1000000000 := hR.small
  have hl2 : len2 ≤ 1000000000 := hR2.small
  clear hown hb1
  go_wp2_with fail
  generalize hmb : w1.heap.size = mb at *
  have Hmb := Lib.hid hmb
  clear hmb
  go_loopw [11, 19] (fun _ i wr => ∃ k : Nat, k ≤ len ∧ i = .int .i64 k ∧ Below w.heap.size w wr ∧ OwnP wr w.heap.size v0 ps ∧ ∃ kv, MapIs pv wr mb kv ∧ SetIs kv (ps.take k)) (fun _ i _ => len - (intOf i).toNat)
  case atStart => exact ⟨0, Nat.zero_le _, rfl, hB0, ho0, [], hm0, SetIs.nil⟩
  case round =>
    obtain ⟨k, hk, rfl, hB, ho, kv, hM, hS⟩ := hrel
    by_cases hlt : k < len
    · obtain ⟨b, off, rfl, hbb, hc1, hc2⟩ := hR.at k hlt
      rw [← hB.cell (p := ⟨b, _, none⟩) hbb] at hc1 hc2
      have hbs := hB.size
      have hts := List.take_succ_eq_append_getElem (l := ps) (i := k) (by rw [hR.len_eq]; exact hlt)
      have Hts := Lib.hid hts
      clear hts
      obtain ⟨w2, hr, hM2, hg⟩ := run_update_is keyPair hmt (hM.below (below_alloc wr (.cells #[.string (ps[k]'(by rw [hR.len_eq]; exact hlt)).1, .string (ps[k]'(by rw [hR.len_eq]; exact hlt)).2] 24))) (ps[k]'(by rw [hR.len_eq]; exact hlt)) (.bool true)
      have hB2 : Below w.heap.size w w2 := (hB.alloc hbs _).grown hg (by simp; omega) (by intro j hj; cases hj; exact hmbw)
      have ho2 : OwnP w2 w.heap.size v0 ps := (World.ownsRow.alloc ho _).kept hg (Or.inr (own_ne_map ho hM))
      have Hho := Lib.hid ho
      have Hho2 := Lib.hid ho2
      clear ho ho2 hM hg
      go_wp2_with (refine wpList_mapUpdate_by hr rfl _ _ _ rfl rfl ?_)
      go_roundw
      case rel => exact ⟨k + 1, by omega, by go_num, hB2, Hho2.out, _, hM2, by rw [Hts.out]; exact hS.put _⟩
      case measure => simp [intOf]; omega
    · obtain rfl : k = len := by omega
      have hS' : SetIs kv ps := by have e := List.take_of_length_le (l := ps) (i := k) (by rw [hR.len_eq]; omega); rwa [e] at hS
      clear hm0 hB0 ho0
      have hpk : ps.length ≤ k := by rw [hpl.out]; exact Nat.le_refl _
      go_wp2_with fail
      rename World => wq
      go_loopw [8, 13, 28] (fun va _ i wr => ∃ j : Nat, j ≤ len2 ∧ i = .int .i64 j ∧ Below w.heap.size w wr ∧ ∃ cur kv, OwnP wr w.heap.size va cur ∧ MapIs pv wr mb kv ∧ SetIs kv cur ∧ cur.length ≤ k + j ∧ Hid (pushAll room ps l = pushAll room cur (l.drop j))) (fun _ _ i _ => len2 - (intOf i).toNat)
      case atStart => exact ⟨0, Nat.zero_le _, rfl, hB, ps, kv, ho, hM, hS', hpk, rfl⟩
      case round =>
        obtain ⟨j, hj, rfl, hB, cur, kv, ho, hM, hS, hcl, hP⟩ := hrel
        obtain ⟨av, cv, rfl, hrow⟩ := ho.rowP (by omega)
        by_cases hlt2 : j < len2
        · obtain ⟨b, off, rfl, hbb, hc1, hc2⟩ := hR2.at j hlt2
          rw [← hB.cell (p := ⟨b, _, none⟩) hbb] at hc1 hc2
          have hbs := hB.size
          have hdr : l.drop j = l[j]'(by rw [hR2.len_eq]; exact hlt2) :: l.drop (j + 1) := List.drop_eq_getElem_cons _
          generalize l[j]'(by rw [hR2.len_eq]; exact hlt2) = p at *
          obtain ⟨p1, p2⟩ := p
          have Hdr := Lib.hid hdr
          clear hdr
          have hlk := run_lookup_is keyPair hmt (hM.below (below_alloc wr (.cells #[.string p1, .string p2] 24))) (p1, p2) (.bool false) (zero_bool _)
          rw [hS (p1, p2)] at hlk
          simp only [pv] at hlk
          cases hh : hasP cur (p1, p2)
          · rw [hh] at hlk
            by_cases hroom : room ≤ cur.length
            · have HN : Hid (pushAll room ps l = none) := (hP.out.trans (by rw [Hdr.out]; simp [pushAll, hh, hroom]) : pushAll room ps l = none)
              clear hh
              go_wp2_with fail
              go_ret2
              exact ⟨.slice none 0 0, by unfold pushAllE; rw [HN.out]; rfl, by unfold pushAllL; rw [HN.out]; exact World.ownsRow_nil _ _ _ _, hB.alloc hbs _⟩
            · have HP : Hid (pushAll room ps l = pushAll room (cur ++ [(p1, p2)]) (l.drop (j + 1))) := (hP.out.trans (by rw [Hdr.out]; simp [pushAll, hh, hroom]) : pushAll room ps l = _)
              obtain ⟨w2, hr, hM2, hg⟩ := run_update_is keyPair hmt (hM.below (below_alloc wr (.cells #[.string p1, .string p2] 24))) (p1, p2) (.bool true)
              have hB2 : Below w.heap.size w w2 := (hB.alloc hbs _).grown hg (by simp; omega) (by intro i hi; cases hi; exact hmbw)
              have ho2 : OwnP w2 w.heap.size _ cur := (World.ownsRow.alloc ho _).kept hg (Or.inr (own_ne_map ho hM))
              have hbs2 := hB2.size
              have hx : w2.cell? ⟨wr.heap.size, 0, none⟩ = some (.string p1) := hg.cell (by simp) (by have := hM.lt; simp; omega)
              have hy : w2.cell? ⟨wr.heap.size, 1, none⟩ = some (.string p2) := hg.cell (by simp) (by have := hM.lt; simp; omega)
              have ho3 := World.ownsRow.alloc ho2 (.cells #[.string p1, .string p2] 24)
              obtain ⟨v', w4, hr4, ho4, hg4⟩ := append_row elemPair (w2.alloc (.cells #[.string p1, .string p2] 24)) w.heap.size 22 _ cur.length _ ho3 _ 1 1 _ (fun h => by cases h) (RowV.new w2 #[.string p1, .string p2] 24) rfl (flat_oneCell [(p1, p2)]) (by unfold maxLen; omega) (by omega) (by simp; omega)
              have hB4 : Below w.heap.size w w4 := (hB2.alloc hbs2 _).trans (below_grown ho3 (by simp; omega) hg4)
              have hM4 : MapIs pv w4 mb _ := (hM2.below (below_alloc w2 (.cells #[.string p1, .string p2] 24))).of_block (hg4.block mb (by have := hM2.lt; simp; omega) (fun e => own_ne_map ho2 hM2 e.symm))
              have Ho4 := Lib.hid (OwnP.snoc ho4 (Nat.le_refl _))
              have HM4 := Lib.hid hM4
              clear hh ho ho2 ho3 ho4 hg hg4 hM hM2 hM4
              go_wp2_with (first | (refine wpList_mapUpdate_by hr rfl _ _ _ rfl rfl ?_) | (at_builtin; refine wpList_append_by hr4 rfl _ _ rfl rfl rfl ?_))
              go_roundw
              case rel => exact ⟨j + 1, by omega, by go_num, hB4, _, _, Ho4.out, HM4.out, hS.put _, by simp; omega, HP⟩
              case measure => simp [intOf]; omega
          · rw [hh] at hlk
            have HP : Hid (pushAll room ps l = pushAll room cur (l.drop (j + 1))) := hP.out.trans (by rw [Hdr.out]; simp [pushAll, hh] : _ = pushAll room cur (l.drop (j + 1)))
            have Hho := Lib.hid (World.ownsRow.alloc ho (.cells #[.string p1, .string p2] 24))
            clear ho hh
            go_wp2_with fail
            go_roundw
            case rel => exact ⟨j + 1, by omega, by go_num, hB.alloc hbs _, _, kv, Hho.out, hM.below (below_alloc _ _), hS, by omega, HP⟩
            case measure => simp [intOf]; omega
        · obtain rfl : j = len2 := by omega
          have HP : Hid (pushAll room ps l = some cur) := (hP.out.trans (by rw [List.drop_of_length_le (by rw [hR2.len_eq]; omega)]; rfl) : pushAll room ps l = some cur)
          have Hho := Lib.hid ho
          clear ho
          go_wp2_with fail
          go_ret2
          exact ⟨_, by unfold pushAllE; rw [HP.out]; rfl, by unfold pushAllL; rw [HP.out]; exact Hho.out, hB⟩

theorem pushAll_ok (room : Int) (cur : List P2) (p : P2) (r : List P2) (h : pushE cur room p = 0) : pushAll room cur (p :: r) = pushAll room (pushL cur room p) r := by
  unfold pushE at h
  unfold pushL
  simp only [pushAll]
  split
  · rfl
  · rename_i hh
    rw [if_neg hh] at h
    split
    · rename_i hr; rw [if_pos hr] at h; cases h
    · rfl
theorem pushAll_no (room : Int) (cur : List P2) (p : P2) (r : List P2) (h : pushE cur room p ≠ 0) : pushE cur room p = 4 ∧ pushAll room cur (p :: r) = none := by
  unfold pushE at h ⊢
  simp only [pushAll]
  split
  · rename_i hh; rw [if_pos hh] at h; exact absurd rfl h
  · rename_i hh
    rw [if_neg hh] at h
    split
    · exact ⟨rfl, rfl⟩
    · rename_i hr; rw [if_neg hr] at h; exact absurd rfl h
theorem pushL_len (cur : List P2) (room : Int) (p : P2) : (pushL cur room p).length ≤ cur.length + 1 := by
  unfold pushL
  split
  · omega
  · split
    · simp
    · simp

set_option maxHeartbeats 2000000 in
theorem refPushAll_any (a : Option Addr) (len cap : Nat) (ps : List P2) (room : Int) (a2 : Option Addr) (len2 cap2 : Nat) (l : List P2) (w : World) (hR : RowP w a len cap ps) (hR2 : RowP w a2 len2 cap2 l)
    (hb : -9223372036854775808 ≤ room ∧ room ≤ 9223372036854775807) (hsm : len + len2 ≤ 500000000) :
    Calls Try.prog 11 #[.slice a len cap, .int .i64 room, .slice a2 len2 cap2] w fun e w' => ∃ v, e = .returned (.tuple #[v, .int .i64 (pushAllE ps room l)]) ∧ OwnP w' w.heap.size v (pushAllL ps room l) ∧ Below w.heap.size w w' := by
  have hl1 : len ≤ 1000000000 := hR.small
  have hl2 : len2 ≤ 1000000000 := hR2.small
  have hpl : ps.length ≤ len := by rw [hR.len_eq]; exact Nat.le_refl _
  obtain ⟨v1, w1, hr1, hown1, hg1⟩ := append_row elemPair w w.heap.size 22 _ 0 [] (World.ownsRow_nil _ _ _ _) a len cap (flat ps) (fun h => hR.nilcap h) hR.row (by rw [flat_length, hR.len_eq]) (flat_oneCell ps) (by unfold maxLen; omega) (by omega) (Nat.le_refl _)
  have hb1 : Below w.heap.size w w1 := below_grown (World.ownsRow_nil _ _ 24 2) (Nat.le_refl _) hg1
  rw [Nat.zero_add, List.nil_append, ← hR.len_eq] at hown1
  have Hown := Lib.hid hown1
  clear hown1 hg1
  go_enter Try.func11, Try.ntmps11
  go_wp2_with (at_builtin; refine wpList_append_by hr1 rfl _ _ rfl rfl rfl ?_)
  go_loopw [8, 9, 10, 11] (fun va i _ _ wr => ∃ j : Nat, j ≤ len2 ∧ i = .int .i64 j ∧ Below w.heap.size w wr ∧ ∃ cur, OwnP wr w.heap.size va cur ∧ cur.length ≤ len + j ∧ Hid (pushAll room ps l = pushAll room cur (l.drop j))) (fun _ i _ _ _ => len2 - (intOf i).toNat)
  case atStart => exact ⟨0, Nat.zero_le _, rfl, hb1, ps, Hown.out, hpl, rfl⟩
  case round =>
    obtain ⟨j, hj, rfl, hB, cur, ho, hcl, hP⟩ := hrel
    obtain ⟨av, cv, rfl, hrow⟩ := ho.rowP (by omega)
    by_cases hlt2 : j < len2
    · obtain ⟨b, off, rfl, hbb, hc1, hc2⟩ := hR2.at j hlt2
      rw [← hB.cell (p := ⟨b, _, none⟩) hbb] at hc1 hc2
      have hbs := hB.size
      have hdr : l.drop j = l[j]'(by rw [hR2.len_eq]; exact hlt2) :: l.drop (j + 1) := List.drop_eq_getElem_cons _
      generalize l[j]'(by rw [hR2.len_eq]; exact hlt2) = p at *
      obtain ⟨p1, p2⟩ := p
      have Hdr := Lib.hid hdr
      have Ho := Lib.hid ho
      clear hdr ho
      have hpl2 := pushL_len cur room (p1, p2)
      by_cases he : pushE cur room (p1, p2) = 0
      · have HP : Hid (pushAll room ps l = pushAll room (pushL cur room (p1, p2)) (l.drop (j + 1))) := (hP.out.trans (by rw [Hdr.out]; exact pushAll_ok _ _ _ _ he) : pushAll room ps l = _)
        have HE := Lib.hid he
        clear he
        go_wp2_with fail
        refine (refPush_any _ _ _ _ _ (p1, p2) _ hrow hb).mono ?_
        rintro e w2 ⟨v, rfl, ho2, hb2⟩
        have hB2 := hB.trans (hb2.mono hbs)
        have Ho2 := Lib.hid (ho2.base hbs)
        clear ho2 hb2
        rw [HE.out]
        go_wp2_with fail
        go_roundw
        case rel => exact ⟨j + 1, by omega, by go_num, hB2, _, Ho2.out, by omega, HP⟩
        case measure => simp [intOf]; omega
      · obtain ⟨he4, hn⟩ := pushAll_no room cur (p1, p2) (l.drop (j + 1)) he
        have HN : Hid (pushAll room ps l = none) := (hP.out.trans (by rw [Hdr.out]; exact hn) : pushAll room ps l = none)
        have HE := Lib.hid he4
        clear he he4 hn
        go_wp2_with fail
        refine (refPush_any _ _ _ _ _ (p1, p2) _ hrow hb).mono ?_
        rintro e w2 ⟨v, rfl, ho2, hb2⟩
        have hB2 := hB.trans (hb2.mono hbs)
        clear ho2 hb2
        rw [HE.out]
        go_wp2_with fail
        go_ret2
        exact ⟨.slice none 0 0, by unfold pushAllE; rw [HN.out]; rfl, by unfold pushAllL; rw [HN.out]; exact World.ownsRow_nil _ _ _ _, hB2⟩
    · obtain rfl : j = len2 := by omega
      have HP : Hid (pushAll room ps l = some cur) := (hP.out.trans (by rw [List.drop_of_length_le (by rw [hR2.len_eq]; omega)]; rfl) : pushAll room ps l = some cur)
      have Hho := Lib.hid ho
      clear ho
      go_wp2_with fail
      go_ret2
      exact ⟨_, by unfold pushAllE; rw [HP.out]; rfl, by unfold pushAllL; rw [HP.out]; exact Hho.out, hB⟩

theorem eqP_self (p : P2) : eqP p.1 p.2 p.1 p.2 = true := by unfold eqP; simp
theorem awake_push : pushAll 2 [] [pairOf 0, pairOf 1, pairOf 0] = some [pairOf 0, pairOf 1] := by decide +kernel
set_option maxHeartbeats 2000000 in
theorem awake_any (w : World) : Calls Try.prog 7 #[] w fun e w' => e = .returned (.bool true) ∧ Below w.heap.size w w' := by
  have heq := eql_pair
  have e0 := eqP_self (pairOf 0)
  have e1 := eqP_self (pairOf 1)
  have HP := Lib.hid awake_push
  go_enter Try.func7, Try.ntmps7
  go_wp2_with fail
  refine (pair_any _ _ (by omega)).mono ?_
  rintro e w1 ⟨rfl, hb1⟩
  go_wp2_with fail
  refine (pair_any _ _ (by omega)).mono ?_
  rintro e w2 ⟨rfl, hb2⟩
  go_wp2_with fail
  refine (pair_any _ _ (by omega)).mono ?_
  rintro e w3 ⟨rfl, hb3⟩
  have hB3 := belowT (belowT hb1 hb2) hb3
  clear hb1 hb2 hb3
  go_wp2_with fail
  have hn0 : RowP (w3.alloc (.cells #[.string (pairOf 0).1, .string (pairOf 0).2, .string (pairOf 1).1, .string (pairOf 1).2, .string (pairOf 0).1, .string (pairOf 0).2] 24)) none 0 0 [] := ⟨rfl, by omega, fun _ => rfl, RowV.nil _ _⟩
  have hn1 : RowP (w3.alloc (.cells #[.string (pairOf 0).1, .string (pairOf 0).2, .string (pairOf 1).1, .string (pairOf 1).2, .string (pairOf 0).1, .string (pairOf 0).2] 24)) (some ⟨w3.heap.size, 0, none⟩) 3 3 [pairOf 0, pairOf 1, pairOf 0] := ⟨rfl, by omega, (fun h => by cases h), RowV.new _ _ _⟩
  refine (pushAll_any _ _ _ _ _ _ _ _ _ _ hn0 hn1 (by omega) (by omega)).mono ?_
  rintro e w4 ⟨v, rfl, ho, hb4⟩
  have hE : pushAllE [] 2 [pairOf 0, pairOf 1, pairOf 0] = 0 := by unfold pushAllE; rw [HP.out]; rfl
  have hL : pushAllL [] 2 [pairOf 0, pairOf 1, pairOf 0] = [pairOf 0, pairOf 1] := by unfold pushAllL; rw [HP.out]; rfl
  rw [hL] at ho
  obtain ⟨av, cv, rfl, hrow⟩ := ho.rowP (by simp)
  obtain ⟨b, off, rfl, hbb, c0, c1⟩ := hrow.at 0 (by simp)
  obtain ⟨b', off', h2, _, c2, c3⟩ := hrow.at 1 (by simp)
  cases h2
  simp only [Nat.zero_mul, Nat.add_zero, List.getElem_cons_zero, Nat.one_mul, List.getElem_cons_succ] at c0 c1 c2 c3
  have hB4 : Below w.heap.size w w4 := (hB3.alloc hB3.size _).trans (hb4.mono (by have := hB3.size; simp; omega))
  clear hL hn0 hn1 ho hrow
  rw [hE]
  clear hE
  have hB5 := Below.refl w4.heap.size w4
  go_wp2_with fail
  go_region_held3 (fun w' => w'.cell? ⟨b, off, none⟩ = some (.string (pairOf 0).1) ∧ w'.cell? ⟨b, off + 1, none⟩ = some (.string (pairOf 0).2) ∧ w'.cell? ⟨b, off + 2, none⟩ = some (.string (pairOf 1).1) ∧ w'.cell? ⟨b, off + 2 + 1, none⟩ = some (.string (pairOf 1).2) ∧ Below w4.heap.size w4 w') (exact keep4 c0 c1 c2 c3 (by go_split_ands; (repeat' (first | (with_reducible exact Below.refl _ _) | (with_reducible assumption) | (with_reducible refine Below.drew ?_) | (with_reducible refine Below.setCell ?_ ?_ _) | (with_reducible refine Below.alloc ?_ ?_ _) | (exact belowT (by assumption) (by assumption)) | (exact belowT (by first | assumption | exact Below.refl _ _ | exact below_alloc _ _ | exact Below.drew (by first | assumption | exact Below.refl _ _)) (by assumption)) | (exact Below.size (by assumption)) | (simp; done) | (simp; omega) | omega)))) (first | (go_at_call 16; refine (pair_any _ _ (by omega)).mono ?_; rintro e wx ⟨rfl, hbx⟩))
  obtain ⟨_, _, _, _, hBx⟩ := ‹_ ∧ _ ∧ _ ∧ _ ∧ Below w4.heap.size w4 wx›
  go_wp2_with fail
  go_ret
  exact ⟨rfl, hB4.trans (hBx.mono hB4.size)⟩

theorem pairs_of : ∀ (vs : List Value) (n : Nat), vs.length = n * 2 → (∀ i (h : i < vs.length), ∃ s : ByteArray, vs[i] = .string s ∧ s.size ≤ maxLen) → ∃ ps : List P2, ps.length = n ∧ vs = flat ps
  | [], n, h, _ => ⟨[], by simp at h; simp; omega, rfl⟩
  | [_], n, h, _ => by simp at h; omega
  | u :: v :: r, n, h, hx => by
    obtain ⟨s, hs, _⟩ := hx 0 (by simp)
    obtain ⟨t, ht, _⟩ := hx 1 (by simp)
    obtain ⟨ps, h1, h2⟩ := pairs_of r (n - 1) (by simp at h; omega) (fun i hi => by
      have := hx (i + 2) (by simp only [List.length_cons]; omega)
      simpa using this)
    simp at hs ht
    subst hs ht
    exact ⟨(s, t) :: ps, by simp at h; simp [h1]; omega, by rw [h2]; rfl⟩
theorem arg_pairs {w : World} {v : Value} (h : Arg Try.prog w 22 v) : ∃ a len cap ps, v = .slice a len cap ∧ len ≤ cap ∧ cap ≤ maxLen ∧ (len ≤ 1000000000 → RowP w a len cap ps) := by
  obtain ⟨a, len, cap, rfl, h1, h2, h3, vs, h4, h5, h6⟩ := Arg.slice Try.underlying22 (ts := [9, 9]) (by kernel_rfl) (by kernel_rfl) (by decide) h
  have h4' : vs.length = len * 2 := h4
  obtain ⟨ps, hp1, rfl⟩ := pairs_of vs len h4' (fun i hi => by
    have hd : i / 2 < len := by omega
    have hm : i % 2 < 2 := Nat.mod_lt _ (by decide)
    have e : i / 2 * 2 + i % 2 = i := Nat.div_add_mod' i 2
    have := h6 (i / 2) hd (i % 2) hm (by simp only [List.length_cons, List.length_nil]; omega)
    simp only [List.length_cons, List.length_nil, Nat.zero_add, e] at this
    have ht : [9, 9][i % 2]'hm = 9 := by
      rcases Nat.mod_two_eq_zero_or_one i with h | h <;> simp [h]
    rw [ht] at this
    unfold Good at this
    rw [Try.underlying9] at this
    exact this)
  exact ⟨a, len, cap, ps, rfl, h1, h2, fun hs => ⟨hp1, hs, h3, h5⟩⟩
theorem arg_pair {w : World} {v : Value} (h : Arg Try.prog w 24 v) : ∃ p : P2, v = .agg #[.string p.1, .string p.2] := by
  obtain ⟨f, g, ht, _⟩ := pair_fields
  unfold Arg at h
  rw [ht] at h
  obtain ⟨cs, rfl, h1⟩ := h
  obtain ⟨h2, h3⟩ := h1 [9, 9] (by kernel_rfl)
  match cs, h2 with
  | [c0, c1], _ =>
    have a0 := h3 0 (by simp) (by simp)
    have a1 := h3 1 (by simp) (by simp)
    unfold Good at a0 a1
    simp only [List.getElem_cons_zero, List.getElem_cons_succ, Try.underlying9] at a0 a1
    obtain ⟨s, rfl, _⟩ := a0
    obtain ⟨t, rfl, _⟩ := a1
    exact ⟨(s, t), rfl⟩
end Go.Proofs.Ytajcfogddgekpaa
