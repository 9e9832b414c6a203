/-
  DigestByte: for every input the law returns true and changes nothing; no conditions.
-/
import Derived.Test.YtbdedcefkgohhaaRows
import Derived.Test.YtbdedcefkgohhaaWalks
import Derived.WalkKit
import Derived.ProofKit
import Derived.OpenShut
import Derived.ShutString
import Derived.ChangeOld
import Derived.Below
namespace Go.Proofs.Ytbdedcefkgohhaa.digestByte
open Go.ChangeShapes Go.WideShapes Go.ChangeAt Go.RowKit
open Go.ChangeMaps (open_string shut_string)
set_option linter.unusedVariables false

theorem own : ownKnob Try.prog.godebug = none := by kernel_rfl
theorem laidOut : laidOutB Try.prog = true := by kernel_rfl

theorem walk (a0 : Option Addr) (len0 cap0 : Nat) (z0 : List Int) (a1 : Int) (a2 : Int) (w : World) (w0 : IsRow .u8 w a0 len0 cap0 z0) (w1 : (Lit.int .u8 a1).wf = true) (w2 : (Lit.int .u8 a2).wf = true) :
    Calls Try.prog 5 #[.slice a0 len0 cap0, .int .u8 a1, .int .u8 a2] w fun e w' => e = .returned (.bool true) ∧ Below w.heap.size w w' := by
  have hR := w0.rowI
  have hby : ∀ z ∈ List.take len0 z0, 0 ≤ z ∧ z ≤ 255 := fun z hz => w0.bytes z (List.mem_of_mem_take hz)
  have hbd1 := wf_u8 w1
  have hbd2 := wf_u8 w2
  by_cases hbig : (2000 : Int) < len0
  · go_enter Try.func5, Try.ntmps5
    go_wp2_with (go_at_call 7; refine (awake_any _).mono ?_; rintro e w' ⟨rfl, hb1⟩)
    go_ret
    exact ⟨rfl, hb1⟩
  by_cases heq : a1 = a2
  · subst heq
    go_enter Try.func5, Try.ntmps5
    go_wp2_with (go_at_call 7; refine (awake_any _).mono ?_; rintro e w' ⟨rfl, hb1⟩)
    go_ret
    exact ⟨rfl, hb1⟩
  have hne : (a1 == a2) = false := by simpa using heq
  have hsum := sumI_last (List.take len0 z0) a1 a2 hbd1 hbd2 heq
  clear heq
  have hml : len0 ≤ 2000 := by omega
  -- the four appends, one behind the other
  have hlen : ((List.take len0 z0).map (Value.int .u8)).length = len0 * 1 := by rw [List.length_map, hR.len_eq]; omega
  obtain ⟨v1, u1, hr1, hown1, hg1⟩ := append_row elemBytes w w.heap.size 22 _ 0 [] (World.ownsRow_nil w _ _ _) a0 len0 cap0 _ (fun h => by subst h; exact w0.nil) hR.rowV hlen (oneCell_ints _ _) (by unfold maxLen; omega) (by omega) (Nat.le_refl _)
  have hb1 : Below w.heap.size w u1 := below_grown (World.ownsRow_nil w _ 5 1) (Nat.le_refl _) hg1
  rw [Nat.zero_add, List.nil_append] at hown1
  obtain ⟨v2, u2, hr2, hown2, hg2⟩ := append_row elemBytes (u1.alloc (.cells #[.int .u8 a1] 5)) w.heap.size 22 _ len0 _ (hown1.alloc _) _ 1 1 _ (fun h => by cases h) (RowV.new u1 #[.int .u8 a1] 5) rfl (oneCell_ints .u8 [a1]) (by unfold maxLen; omega) (by omega) (by have := hb1.size; simp; omega)
  have hb2 : Below w.heap.size w u2 := (hb1.alloc hb1.size _).trans (below_grown (hown1.alloc _) (by have := hb1.size; simp; omega) hg2)
  obtain ⟨av, cv, hv2, hrow2⟩ := RowV.of_owns hown2
  have hx : ∀ (c : Int), (List.take len0 z0).map (Value.int .u8) ++ [Value.int .u8 c] = (List.take len0 z0 ++ [c]).map (Value.int .u8) := fun c => by simp
  obtain ⟨v3, u3, hr3, hown3, hg3⟩ := append_row elemBytes u2 u2.heap.size 22 _ 0 [] (World.ownsRow_nil u2 _ _ _) a0 len0 cap0 _ (fun h => by subst h; exact w0.nil) (hR.below hb2).rowV hlen (oneCell_ints _ _) (by unfold maxLen; omega) (by omega) (Nat.le_refl _)
  have hb3 : Below u2.heap.size u2 u3 := below_grown (World.ownsRow_nil u2 _ 5 1) (Nat.le_refl _) hg3
  rw [Nat.zero_add, List.nil_append] at hown3
  obtain ⟨v4, u4, hr4, hown4, hg4⟩ := append_row elemBytes (u3.alloc (.cells #[.int .u8 a2] 5)) u2.heap.size 22 _ len0 _ (hown3.alloc _) _ 1 1 _ (fun h => by cases h) (RowV.new u3 #[.int .u8 a2] 5) rfl (oneCell_ints .u8 [a2]) (by unfold maxLen; omega) (by omega) (by have := hb3.size; simp; omega)
  have hb4 : Below u2.heap.size u2 u4 := (hb3.alloc hb3.size _).trans (below_grown (hown3.alloc _) (by have := hb3.size; simp; omega) hg4)
  obtain ⟨av4, cv4, hv4, hrow4⟩ := RowV.of_owns hown4
  have hR2 := (hrow2.below hb4)
  rw [show (#[Value.int IntKind.u8 a1] : Array Value).toList = [Value.int .u8 a1] from rfl, hx] at hR2
  rw [show (#[Value.int IntKind.u8 a2] : Array Value).toList = [Value.int .u8 a2] from rfl, hx] at hrow4
  have hlen2 : ∀ c : Int, (List.take len0 z0 ++ [c]).length = len0 + 1 := fun c => by rw [List.length_append, hR.len_eq]; rfl
  have hq2 := hR2.rowI (by rw [hlen2]; omega)
  have hq4 := hrow4.rowI (by rw [hlen2]; omega)
  rw [hlen2] at hq2 hq4
  subst hv2 hv4
  have hd : (sumI (List.take len0 z0 ++ [a1]) 32 != sumI (List.take len0 z0 ++ [a2]) 32) = true := by simpa using hsum
  have Hb : Hid (Below w.heap.size w u4) := hb2.trans (hb4.mono hb2.size)
  clear hsum hown1 hown2 hown3 hown4 hg1 hg2 hg3 hg4 hb1 hb2 hb3 hb4 hx hlen2 hlen hrow2 hR2 hrow4 w0 hby
  go_enter Try.func5, Try.ntmps5
  go_wp2_with (first | (at_builtin; refine wpList_append_by hr1 rfl _ _ rfl rfl rfl ?_) | (at_builtin; refine wpList_append_by hr2 rfl _ _ rfl rfl rfl ?_) | (at_builtin; refine wpList_append_by hr3 rfl _ _ rfl rfl rfl ?_) | (at_builtin; refine wpList_append_by hr4 rfl _ _ rfl rfl rfl ?_))
  refine (awake_any _).mono ?_
  rintro e w1 ⟨rfl, hb1⟩
  have hB := Lib.hid (Hb.out.trans (hb1.mono Hb.out.size))
  have hq2' := hq2.below hb1
  have hq4' := hq4.below hb1
  clear hb1
  go_wp2_with fail
  refine (sum_any _ _ _ _ _ _ hq2' (by omega)).mono ?_
  rintro e w2 ⟨rfl, rfl⟩
  go_wp2_with fail
  refine (sum_any _ _ _ _ _ _ hq4' (by omega)).mono ?_
  rintro e w2 ⟨rfl, rfl⟩
  go_wp2_with fail
  go_ret
  exact ⟨rfl, hB.out⟩

set_option maxRecDepth 100000 in
theorem lifted (os : Os) (started : os.Started) (H : Type) (enc : TypeId × Value → H) :
    ReturnsInHanded {} Try.checked os 5 .any (Rows.digestByteSpec.pre6 enc Try.prog Try.f5 Rows.digestByteRow.domain false) (Rows.digestByteSpec.post enc Try.prog Try.f5 false true false false) := by
  refine returnsInHanded_of_change (C := Try.checked) own started (by kernel_rfl) Try.func5
    (ChangeSpec.witness6 (enc := enc) (C := Try.checked) false ⟨#[], #[.slice none 0 0, .int .u8 0, .int .u8 0], []⟩ 8 (by kernel_rfl) (by kernel_rfl) (by kernel_rfl) (by kernel_rfl)) ?_
  intro W base args ds gs before hval0 hW hcnd _
  have hval : ∀ (j : Nat) t v, Try.f5.params[j]? = some t → args[j]? = some v → Value.okWide Try.prog W .any base t v := hval0
  have hW' := hW
  obtain ⟨p, q, hA0, hV, rfl, hfz, hnd⟩ := hW
  have hA : DataW.TrodAll enc Try.prog W 0 (fun _ => true) true Try.f5.params.toList args.toList ds p := hA0
  rw [Try.params5] at hA hval
  obtain ⟨v0, vs0, d0, ds0, p0, q0, hargs, rfl, rfl, h0, r0⟩ := trodAll_cons hA
  obtain ⟨v1, vs1, d1, ds1, p1, q1, rfl, rfl, rfl, h1, r1⟩ := trodAll_cons r0
  obtain ⟨v2, vs2, d2, ds2, p2, q2, rfl, rfl, rfl, h2, r2⟩ := trodAll_cons r1
  obtain ⟨rfl, rfl, rfl⟩ := trodAll_nil r2
  obtain rfl : args = #[v0, v1, v2] := by cases args; simp_all
  obtain ⟨rfl, rfl⟩ := trodVars_none hV
  obtain ⟨a0, len0, cap0, rfl⟩ := okWide_slice Try.underlying22 (hval 0 22 v0 rfl rfl)
  have k0 := h0
  have lt0 : ∀ x ∈ p0, x.block < W.heap.size := by obtain ⟨m, hm⟩ := k0; exact DataW.trod_lt m _ _ _ hm
  obtain ⟨z0, w0⟩ : ∃ zs, IsRow .u8 W a0 len0 cap0 zs := by
    obtain ⟨fuel, hf⟩ := h0
    rcases open_ints Try.underlying22 Try.underlying5 (by kernel_rfl) hf with ⟨hcs, _⟩ | ⟨x, l, c, zs, hcs, _, hl, hm, hz, _, hcell, hwz⟩
    · simp [Value.cells] at hcs
      obtain ⟨rfl, rfl, rfl⟩ := hcs
      exact ⟨[], .inl ⟨rfl, rfl, rfl, rfl⟩⟩
    · simp [Value.cells] at hcs
      obtain ⟨rfl, rfl, rfl⟩ := hcs
      exact ⟨zs, .inr ⟨_, rfl, hl, hm, by simpa using hz, hcell, hwz⟩⟩
  obtain ⟨a1, rfl, rfl, rfl, w1⟩ := open_int Try.underlying5 (hval 1 5 v1 rfl rfl) h1
  obtain ⟨a2, rfl, rfl, rfl, w2⟩ := open_int Try.underlying5 (hval 2 5 v2 rfl rfl) h2
  clear hA0 hval0
  refine (walk a0 len0 cap0 z0 a1 a2 W w0 w1 w2).mono fun e W' ⟨he, bel⟩ => ?_
  subst he
  exact ⟨_, rfl, _, _, _, [], _, [], hW', trodAll_mk1 (shut_bool Try.underlying4 _), (trodAll_cons_mk (Below.trod laidOut (by kernel_rfl) (of_decide_eq_true (by kernel_rfl)) k0 bel lt0) (trodAll_cons_mk (shut_int Try.underlying5 w1) (trodAll_cons_mk (shut_int Try.underlying5 w2) trodAll_mk0))), rfl, bel.frame _, fun h => by cases h⟩

theorem over : Rows.digestByteRow.holds Try.pinned (OpenSpec.ofChange Rows.digestByteSpec) :=
  OpenClaim.holds_of_wide 5 Try.f5 rfl rfl rfl rfl rfl rfl rfl ⟨rfl, rfl, rfl, rfl, rfl⟩ rfl rfl rfl rfl rfl (by kernel_rfl) Try.func5 (by kernel_rfl)
    (of_decide_eq_true (by kernel_rfl)) (by unfold Func.isWrapper; first | (rw [if_pos (by decide +kernel)]; kernel_rfl) | (rw [if_neg (by decide +kernel)]; exact ⟨rfl, rfl⟩))
    (fun os started H enc _ => lifted os started H enc)

theorem proved : Rows.DigestByteSaid := over
end Go.Proofs.Ytbdedcefkgohhaa.digestByte
