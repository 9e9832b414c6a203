/-
  QueueAll: for every input the law returns true and changes nothing that was there; no conditions.
-/
import Derived.Test.YtajcfogddgekpaaWalks3
import Derived.Test.YtajcfogddgekpaaOpen
namespace Go.Proofs.Ytajcfogddgekpaa.queueAll
open Go.ChangeShapes Go.WideShapes Go.ChangeAt Go.RowKit
set_option linter.unusedVariables false

theorem own : ownKnob Try.prog.godebug = none := by kernel_rfl
theorem laidOut : laidOutB Try.prog = true := by kernel_rfl
set_option maxHeartbeats 4000000 in
theorem walk (v0 v1 v2 : Value) (w : World) (g0 : Arg Try.prog w 42 v0) (g1 : Arg Try.prog w 42 v1) (g2 : Arg Try.prog w 5 v2) :
    Calls Try.prog 5 #[v0, v1, v2] w fun e w' => e = .returned (.bool true) ∧ Below w.heap.size w w' := by
  obtain ⟨a, len, cap, rfl, hlc, hcm, hnil, zs, hzl, hrow, hwf⟩ := Arg.ints (n := 1) (el := 5) Try.underlying42 (by kernel_rfl) Try.underlying5 (by kernel_rfl) (by decide) g0
  obtain ⟨a2, len2, cap2, rfl, hlc2, hcm2, hnil2, zs2, hzl2, hrow2, hwf2⟩ := Arg.ints (n := 1) (el := 5) Try.underlying42 (by kernel_rfl) Try.underlying5 (by kernel_rfl) (by decide) g1
  obtain ⟨room, rfl, hk0⟩ := Arg.int Try.underlying5 g2
  have hrm := wf_u8 hk0
  clear g0 g1 g2 hk0
  rw [Nat.mul_one] at hzl hzl2
  unfold maxLen at hcm hcm2
  have hR : RowI .u8 w a len zs := hzl ▸ hrow.rowI (by omega)
  have hR2 : RowI .u8 w a2 len2 zs2 := hzl2 ▸ hrow2.rowI (by omega)
  have hby : ∀ z ∈ zs, 0 ≤ z ∧ z ≤ 255 := fun z hz => wf_u8 (hwf z hz)
  have hby2 : ∀ z ∈ zs2, 0 ≤ z ∧ z ≤ 255 := fun z hz => wf_u8 (hwf2 z hz)
  have hB0 := Below.refl w.heap.size w
  clear hrow hrow2 hwf hwf2 hnil hnil2 hlc hlc2
  have Hzl := Lib.hid hzl
  have Hzl2 := Lib.hid hzl2
  clear hzl hzl2
  go_enter Try.func5, Try.ntmps5
  go_upto_block 0 with (fail)
  go_cut [7, 9] (fun v7 _ wc => ∃ qs, Below w.heap.size w wc ∧ OwnP wc w.heap.size v7 qs ∧ qs.length ≤ 6)
  case first =>
    go_wp2_with fail
    go_loopw [7, 9] (fun va i wr => ∃ j : Nat, j ≤ len ∧ j ≤ 6 ∧ i = .int .i64 j ∧ Below w.heap.size w wr ∧ ∃ qs, OwnP wr w.heap.size va qs ∧ qs.length ≤ j) (fun _ i _ => 6 - (intOf i).toNat)
    case atStart => exact ⟨0, Nat.zero_le _, by omega, rfl, hB0, [], World.ownsRow_nil _ _ _ _, by simp⟩
    case round =>
      obtain ⟨j, hj, hj6, rfl, hB, qs, ho, hql⟩ := hrel
      have hbs := hB.size
      by_cases hlt : j < len ∧ j < 6
      · obtain ⟨hlt1, hlt2⟩ := hlt
        obtain ⟨b, off, rfl, hc⟩ := hR.addr (by omega)
        have hcell := hc j hlt1
        have hzj : 0 ≤ zs[j]?.getD 0 ∧ zs[j]?.getD 0 ≤ 255 := by
          have := Hzl.out
          rw [List.getElem?_eq_getElem (by omega)]; exact hby _ (List.getElem_mem _)
        rw [← hB.cell (p := ⟨b, _, none⟩) (cell_lt hcell)] at hcell
        generalize zs[j]?.getD 0 = z at hcell hzj
        obtain ⟨av, cv, rfl, hRq⟩ := ho.rowP (by omega)
        have hpl := pushL_len qs 20 (pairOf z)
        clear hc ho hby hby2
        go_wp2_with fail
        with_reducible refine (pair_any _ _ hzj).mono ?_
        rintro e w2 ⟨rfl, hb2⟩
        have hRq2 := hRq.below hb2
        have hB2 := hB.trans (hb2.mono hbs)
        go_wp2_with fail
        with_reducible refine (refPush_any _ _ _ _ _ (pairOf z) _ hRq2 (by omega)).mono ?_
        rintro e w3 ⟨v', rfl, ho3, hb3⟩
        have hB3 := hB2.trans (hb3.mono hB2.size)
        have Ho3 := Lib.hid (ho3.base hB2.size)
        clear ho3
        go_wp2_with fail
        go_roundw
        case rel => exact ⟨j + 1, by omega, by omega, by go_num, hB3, _, Ho3.out, by omega⟩
        case measure => simp [intOf]; omega
      · have hexit : (j < len ∧ 6 ≤ j) ∨ len ≤ j := by omega
        have Ho := Lib.hid ho
        clear hlt ho
        rcases hexit with ⟨h1, h2⟩ | h1
        all_goals
          go_wp2_with fail
          go_meet
          case rel => exact ⟨qs, hB, Ho.out, by omega⟩
  case rest =>
    obtain ⟨qs, hB, ho, hql⟩ := hcut
    have hBcs := hB.size
    have Ho := Lib.hid ho
    clear ho
    go_upto_block 2 with (fail)
    go_cut [8, 10] (fun v8 _ wx => ∃ l, Below w.heap.size w wx ∧ OwnP wx w.heap.size u7 qs ∧ OwnP wx w.heap.size v8 l ∧ l.length ≤ 10)
    case first =>
      go_wp2_with fail
      go_loopw [8, 10] (fun va i wr => ∃ j : Nat, j ≤ len2 ∧ j ≤ 10 ∧ i = .int .i64 j ∧ Below w.heap.size w wr ∧ Below wc.heap.size wc wr ∧ ∃ l, OwnP wr wc.heap.size va l ∧ l.length = j) (fun _ i _ => 10 - (intOf i).toNat)
      case atStart => exact ⟨0, Nat.zero_le _, by omega, rfl, hB, Below.refl _ _, [], World.ownsRow_nil _ _ _ _, by simp⟩
      case round =>
        obtain ⟨j, hj, hj10, rfl, hB, hC, l, ho, hll⟩ := hrel
        have hbs := hB.size
        have hcs := hC.size
        by_cases hlt : j < len2 ∧ j < 10
        · obtain ⟨hlt1, hlt2⟩ := hlt
          obtain ⟨b, off, rfl, hc⟩ := hR2.addr (by omega)
          have hcell := hc j hlt1
          have hzj : 0 ≤ zs2[j]?.getD 0 ∧ zs2[j]?.getD 0 ≤ 255 := by
            have := Hzl2.out
            rw [List.getElem?_eq_getElem (by omega)]; exact hby2 _ (List.getElem_mem _)
          rw [← hB.cell (p := ⟨b, _, none⟩) (cell_lt hcell)] at hcell
          generalize zs2[j]?.getD 0 = z at hcell hzj
          have Hll := Lib.hid hll
          have Hol := Lib.hid ho
          clear hc ho hby hby2 hll
          go_wp2_with fail
          with_reducible refine (pair_any _ _ hzj).mono ?_
          rintro e w2 ⟨rfl, hb2⟩
          have hB2 := hB.trans (hb2.mono hbs)
          have hC2 := hC.trans (hb2.mono hcs)
          have hbs2 := hB2.size
          have hcs2 := hC2.size
          have ho2 := OwnP.below Hol.out hb2
          unfold OwnP at ho2
          rw [Hll.out] at ho2
          have ho3 := World.ownsRow.alloc ho2 (.cells #[.string (pairOf z).1, .string (pairOf z).2] 24)
          obtain ⟨v', w4, hr4, ho4, hg4⟩ := append_row elemPair (w2.alloc (.cells #[.string (pairOf z).1, .string (pairOf z).2] 24)) wc.heap.size 22 _ j _ ho3 _ 1 1 _ (fun h => by cases h) (RowV.new w2 _ 24) rfl (flat_oneCell [pairOf z]) (by unfold maxLen; omega) (by omega) (by simp; omega)
          have hG := below_grown ho3 (by simp; omega) hg4
          have hB4 : Below w.heap.size w w4 := (hB2.alloc hbs2 _).trans (hG.mono hBcs)
          have hC4 : Below wc.heap.size wc w4 := (hC2.alloc hcs2 _).trans hG
          have Ho4 := Lib.hid (OwnP.snocN Hll.out ho4 (Nat.le_refl _))
          clear ho2 ho3 ho4 hg4 hG
          go_wp2_with (at_builtin; refine wpList_append_by hr4 rfl _ _ rfl rfl rfl ?_)
          go_roundw
          case rel => exact ⟨j + 1, by omega, by omega, by go_num, hB4, hC4, _, Ho4.out, by simp [Hll.out]⟩
          case measure => simp [intOf]; omega
        · have hexit : (j < len2 ∧ 10 ≤ j) ∨ len2 ≤ j := by omega
          have Hol := Lib.hid ho
          clear hlt ho
          rcases hexit with ⟨h1, h2⟩ | h1
          all_goals
            go_wp2_with fail
            go_meet
            case rel => exact ⟨l, hB, OwnP.below Ho.out hC, Hol.out.base hBcs, by omega⟩
    case rest =>
      obtain ⟨l, hB2, ho2, hol, hll⟩ := hcut
      obtain ⟨av, cv, rfl, hRq⟩ := ho2.rowP (by omega)
      obtain ⟨al, cl, rfl, hRl⟩ := hol.rowP (by omega)
      have Ho2 := Lib.hid ho2
      clear hol hBcs hB Ho hby hby2 ho2
      go_wp2_with fail
      with_reducible refine (pushAll_any _ _ _ _ _ _ _ _ _ _ hRq hRl (by omega) (by omega)).mono ?_
      rintro e w3 ⟨va, rfl, hoa, hb3⟩
      have hB3 := hB2.trans (hb3.mono hB2.size)
      have hRq3 := hRq.below hb3
      have hRl3 := hRl.below hb3
      have ho3 := OwnP.below Ho2.out hb3
      have hla : (pushAllL qs (room % 10) l).length ≤ 16 := by
        unfold pushAllL
        cases hp : pushAll (room % 10) qs l with
        | none => simp
        | some r => have := pushAll_len _ _ _ _ hp; simp; omega
      obtain ⟨aa, ca, rfl, hRa⟩ := hoa.rowP (by omega)
      have Ho3 := Lib.hid ho3
      clear hoa hRl hRq Ho2 ho3
      have hR0 : 0 ≤ room % 10 ∧ room % 10 ≤ 9 := by omega
      go_wp2_with fail
      go_loopw [13, 15, 16, 17, 68] (fun vb _ _ _ i wr => ∃ j : Nat, j ≤ l.length ∧ i = .int .i64 j ∧ Below w.heap.size w wr ∧ Below w3.heap.size w3 wr ∧ ∃ cur, OwnP wr w.heap.size vb cur ∧ cur.length ≤ 6 + j ∧ Hid (pushAll (room % 10) qs l = pushAll (room % 10) cur (l.drop j))) (fun _ _ _ _ i _ => l.length - (intOf i).toNat)
      case atStart => exact ⟨0, Nat.zero_le _, rfl, hB3, Below.refl _ _, qs, Ho3.out, by omega, rfl⟩
      case round =>
        obtain ⟨j, hj, rfl, hB, hC, cur, hoc, hcl, hP⟩ := hrel
        have hbs := hB.size
        obtain ⟨ac, cc, rfl, hRc⟩ := hoc.rowP (by omega)
        by_cases hlt : j < l.length
        · obtain ⟨b, off, rfl, hbb, c0, c1⟩ := hRl3.at j hlt
          rw [← hC.cell (p := ⟨b, _, none⟩) hbb] at c0 c1
          have hdr : l.drop j = l[j] :: l.drop (j + 1) := List.drop_eq_getElem_cons _
          generalize l[j] = p at c0 c1 hdr
          obtain ⟨p1, p2⟩ := p
          have Hdr := Lib.hid hdr
          have hpl := pushL_len cur (room % 10) (p1, p2)
          have hRc2 := hRc.below (below_alloc wr (.cells #[.string p1, .string p2] 24))
          clear hdr hoc hRc
          by_cases he : pushE cur (room % 10) (p1, p2) = 0
          · have HP : Hid (pushAll (room % 10) qs l = pushAll (room % 10) (pushL cur (room % 10) (p1, p2)) (l.drop (j + 1))) := (hP.out.trans (by rw [Hdr.out]; exact pushAll_ok _ _ _ _ he) : pushAll (room % 10) qs l = _)
            have HE := Lib.hid he
            clear he
            go_wp2_with fail
            with_reducible refine (push_any _ _ _ _ _ (p1, p2) _ hRc2 (by omega)).mono ?_
            rintro e w4 ⟨v', rfl, ho4, hb4⟩
            have hB4 : Below w.heap.size w w4 := (hB.alloc hbs _).trans (hb4.mono (by simp; omega))
            have hC4 : Below w3.heap.size w3 w4 := (hC.alloc hC.size _).trans (hb4.mono (by have := hC.size; simp; omega))
            have Ho4 := Lib.hid (ho4.base (base' := w.heap.size) (by simp; omega))
            clear ho4
            rw [HE.out]
            go_wp2_with fail
            go_roundw
            case rel => exact ⟨j + 1, by omega, by go_num, hB4, hC4, _, Ho4.out, by omega, HP⟩
            case measure => simp [intOf]; omega
          · obtain ⟨he4, hn⟩ := pushAll_no (room % 10) cur (p1, p2) (l.drop (j + 1)) he
            have HN : pushAll (room % 10) qs l = none := hP.out.trans (by rw [Hdr.out]; exact hn)
            have hE : pushAllE qs (room % 10) l = 4 := by unfold pushAllE; rw [HN]; rfl
            have hL : (pushAllL qs (room % 10) l).length = 0 := by unfold pushAllL; rw [HN]; rfl
            have HE4 := Lib.hid he4
            clear he he4 hn HN hRa
            go_wp2_with fail
            with_reducible refine (push_any _ _ _ _ _ (p1, p2) _ hRc2 (by omega)).mono ?_
            rintro e w4 ⟨v', rfl, ho4, hb4⟩
            have hB4 : Below w.heap.size w w4 := (hB.alloc hbs _).trans (hb4.mono (by simp; omega))
            clear ho4
            rw [HE4.out]
            go_wp2_with fail
            with_reducible refine (awake_any _).mono ?_
            rintro e w5 ⟨rfl, hb5⟩
            go_wp2_with fail
            go_ret
            exact ⟨rfl, hB4.trans (hb5.mono hB4.size)⟩
        · obtain rfl : j = l.length := by omega
          have HS : pushAll (room % 10) qs l = some cur := hP.out.trans (by rw [List.drop_of_length_le (Nat.le_refl _)]; rfl)
          have hE : pushAllE qs (room % 10) l = 0 := by unfold pushAllE; rw [HS]; rfl
          have hL : pushAllL qs (room % 10) l = cur := by unfold pushAllL; rw [HS]; rfl
          have hRac := hRa.below hC
          clear hoc HS hRa
          rw [hL] at hRac
          go_wp2_with fail
          with_reducible refine (awake_any _).mono ?_
          rintro e w5 ⟨rfl, hb5⟩
          go_wp2_with fail
          with_reducible refine (same_any _ _ _ _ _ _ cur cur _ (hRac.below hb5) (hRc.below hb5)).mono ?_
          rintro e w6 ⟨rfl, hb6⟩
          rw [show decide (cur = cur) = true from by simp]
          go_wp2_with fail
          go_ret
          exact ⟨rfl, hB.trans ((hb5.mono hbs).trans (hb6.mono (Nat.le_trans hbs hb5.size)))⟩

set_option maxRecDepth 100000 in
theorem lifted (os : Os) (started : os.Started) (H : Type) (enc : TypeId × Value → H) :
    ReturnsInHanded {} Try.checked os 5 .any (Rows.queueAllSpec.pre6 enc Try.prog Try.f5 Rows.queueAllRow.domain false) (Rows.queueAllSpec.post enc Try.prog Try.f5 false true false false) := by
  refine returnsInHanded_of_change (C := Try.checked) own started (by kernel_rfl) Try.func5
    (ChangeSpec.witness6 (enc := enc) (C := Try.checked) false ⟨#[], #[.slice none 0 0, .slice none 0 0, .int .u8 0], []⟩ 8 (by kernel_rfl) (by kernel_rfl) (by kernel_rfl) (by kernel_rfl)) ?_
  intro W base args ds gs before hval0 hW hcnd _
  have hval : ∀ (j : Nat) t v, Try.f5.params[j]? = some t → args[j]? = some v → Value.okWide Try.prog W .any base t v := hval0
  have hW' := hW
  obtain ⟨p, q, hA0, hV, rfl, hfz, hnd⟩ := hW
  have hA : DataW.TrodAll enc Try.prog W 0 (fun _ => true) true Try.f5.params.toList args.toList ds p := hA0
  rw [Try.params5] at hA hval
  obtain ⟨v0, vs0, d0, ds0, p0, q0, hargs, rfl, rfl, h0, r0⟩ := trodAll_cons hA
  obtain ⟨v1, vs1, d1, ds1, p1, q1, rfl, rfl, rfl, h1, r1⟩ := trodAll_cons r0
  obtain ⟨v2, vs2, d2, ds2, p2, q2, rfl, rfl, rfl, h2, r2⟩ := trodAll_cons r1
  obtain ⟨rfl, rfl, rfl⟩ := trodAll_nil r2
  obtain rfl : args = #[v0, v1, v2] := by cases args; simp_all
  obtain ⟨rfl, rfl⟩ := trodVars_none hV
  have k0 := h0
  have lt0 : ∀ x ∈ p0, x.block < W.heap.size := by obtain ⟨m, hm⟩ := k0; exact DataW.trod_lt m _ _ _ hm
  have g0 := arg_of (hval 0 42 v0 rfl rfl) h0
  have k1 := h1
  have lt1 : ∀ x ∈ p1, x.block < W.heap.size := by obtain ⟨m, hm⟩ := k1; exact DataW.trod_lt m _ _ _ hm
  have g1 := arg_of (hval 1 42 v1 rfl rfl) h1
  have k2 := h2
  have lt2 : ∀ x ∈ p2, x.block < W.heap.size := by obtain ⟨m, hm⟩ := k2; exact DataW.trod_lt m _ _ _ hm
  have g2 := arg_of (hval 2 5 v2 rfl rfl) h2
  clear hA0 hval0
  refine (walk v0 v1 v2 W g0 g1 g2).mono fun e W' ⟨he, bel⟩ => ?_
  subst he
  exact ⟨_, rfl, _, _, _, [], _, [], hW', trodAll_mk1 (shut_bool Try.underlying4 _), (trodAll_cons_mk (Below.trod laidOut (by kernel_rfl) (of_decide_eq_true (by kernel_rfl)) k0 bel lt0) (trodAll_cons_mk (Below.trod laidOut (by kernel_rfl) (of_decide_eq_true (by kernel_rfl)) k1 bel lt1) (trodAll_cons_mk (Below.trod laidOut (by kernel_rfl) (of_decide_eq_true (by kernel_rfl)) k2 bel lt2) trodAll_mk0))), rfl, bel.frame _, fun h => by cases h⟩

theorem over : Rows.queueAllRow.holds Try.pinned (OpenSpec.ofChange Rows.queueAllSpec) :=
  OpenClaim.holds_of_wide 5 Try.f5 rfl rfl rfl rfl rfl rfl rfl ⟨rfl, rfl, rfl, rfl, rfl⟩ rfl rfl rfl rfl rfl (by kernel_rfl) Try.func5 (by kernel_rfl)
    (of_decide_eq_true (by kernel_rfl)) (by unfold Func.isWrapper; first | (rw [if_pos (by decide +kernel)]; kernel_rfl) | (rw [if_neg (by decide +kernel)]; exact ⟨rfl, rfl⟩))
    (fun os started H enc _ => lifted os started H enc)

theorem proved : Rows.QueueAllSaid := over
end Go.Proofs.Ytajcfogddgekpaa.queueAll
