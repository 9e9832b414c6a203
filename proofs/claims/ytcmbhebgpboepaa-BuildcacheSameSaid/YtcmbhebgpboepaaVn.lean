/-
  The logic of values: numbers within their bounds, regions that draw their order, results frozen. Over any program.
-/
import Derived.Test.YtcmbhebgpboepaaVm
import Derived.IntWalk
namespace Go.Proofs.Ytcmbhebgpboepaa.V
open Go Go.RowKit
set_option linter.unusedSimpArgs false
set_option linter.unusedVariables false

theorem wrap_i64 {e : Int} (h1 : -9223372036854775808 ≤ e) (h2 : e ≤ 9223372036854775807) : IntKind.i64.wrap e = e := by rw [IntKind.wrap_i64]; omega
theorem wrap_u8 {e : Int} (h1 : 0 ≤ e) (h2 : e ≤ 255) : IntKind.u8.wrap e = e := by
  simp only [IntKind.wrap, IntKind.signed, IntKind.bits, Bool.false_and, Bool.false_eq_true, if_false]; omega
theorem wrap_u16 {e : Int} (h1 : 0 ≤ e) (h2 : e ≤ 65535) : IntKind.u16.wrap e = e := by
  simp only [IntKind.wrap, IntKind.signed, IntKind.bits, Bool.false_and, Bool.false_eq_true, if_false]; omega
theorem wrap_u32 {e : Int} (h1 : 0 ≤ e) (h2 : e ≤ 4294967295) : IntKind.u32.wrap e = e := by
  simp only [IntKind.wrap, IntKind.signed, IntKind.bits, Bool.false_and, Bool.false_eq_true, if_false]; omega
theorem wrap_u64 {e : Int} (h1 : 0 ≤ e) (h2 : e ≤ 18446744073709551615) : IntKind.u64.wrap e = e := by
  simp only [IntKind.wrap, IntKind.signed, IntKind.bits, Bool.false_and, Bool.false_eq_true, if_false]; omega
theorem wrap_i32 {e : Int} (h1 : -2147483648 ≤ e) (h2 : e ≤ 2147483647) : IntKind.i32.wrap e = e := by
  simp only [IntKind.wrap, IntKind.signed, IntKind.bits]
  by_cases h : e % (2 ^ 32 : Int) ≥ 2 ^ (32 - 1)
  · simp only [h, decide_true, Bool.and_self, if_true]; omega
  · simp only [h, decide_false, Bool.and_false, Bool.false_eq_true, if_false]; omega
theorem wrap_i8 {e : Int} (h1 : -128 ≤ e) (h2 : e ≤ 127) : IntKind.i8.wrap e = e := by
  simp only [IntKind.wrap, IntKind.signed, IntKind.bits]
  by_cases h : e % (2 ^ 8 : Int) ≥ 2 ^ (8 - 1)
  · simp only [h, decide_true, Bool.and_self, if_true]; omega
  · simp only [h, decide_false, Bool.and_false, Bool.false_eq_true, if_false]; omega
section
variable {P : Program} {s s' : St} {Q : Exit → St → Prop} {c : Code} {ops : Array Oper} {l l' : List Nat}
/-- a slot's value, weakened -/
theorem q_weak (i : Nat) (x y : AV) (hx : s.t.getD i .junk = x) (h : ∀ (p : Pl) (w : World) (v : Value), Rep p w v x → Rep p w v y) (k : WpV P c Q ⟨s.t.set i y, s.H⟩) : WpV P c Q s := WpV.weaken k fun p _ w hR => ⟨p, hR.set i y (fun v hv => by rw [hx] at hv; exact h p w v hv), Step.refl _ _⟩
theorem n_weak (i : Nat) (x y : AV) (hx : s.t.getD i .junk = x) (h : ∀ (p : Pl) (w : World) (v : Value), Rep p w v x → Rep p w v y) (k : RunN P ops Q l ⟨s.t.set i y, s.H⟩) : RunN P ops Q l s := RunN.weaken k fun p _ w hR => ⟨p, hR.set i y (fun v hv => by rw [hx] at hv; exact h p w v hv), Step.refl _ _⟩
theorem nil_slv (sz : Nat) (h : 0 < sz) (p : Pl) (w : World) (v : Value) (hv : Rep p w v .nilsl) : Rep p w v (.slv 0 sz []) := by
  cases rep_nilsl hv
  exact RepF.rep (.slv none ⟨0, 0, none⟩ 0 0 sz [] (fun _ => undef) (Or.inr ⟨rfl, rfl⟩) (by simp) (Nat.le_refl _) (by simp [maxLen]) h (fun i hi => absurd hi (by simp)) (fun i hi => absurd hi (by simp)))
/-- a slice of a row that nobody writes any more is a value -/
theorem q_frz (i id st len sz : Nat) (t : TypeId) (xs : List AV) (hi : s.t[i]? = some (.sl id st len sz)) (hb : s.H[id]? = some (.row t xs)) (hn : ∀ x ∈ xs, noid0 x = true ∧ x ≠ .junk) (hl : st + len * sz ≤ xs.length)
    (k : WpV P c Q ⟨s.t.set i (.slv len sz ((xs.drop st).take (len * sz))), s.H.set id .dead⟩) : WpV P c Q s := WpV.weaken k fun p w _ hR => hR.freeze i id st len sz t xs hi hb hn hl
theorem n_frz (i id st len sz : Nat) (t : TypeId) (xs : List AV) (hi : s.t[i]? = some (.sl id st len sz)) (hb : s.H[id]? = some (.row t xs)) (hn : ∀ x ∈ xs, noid0 x = true ∧ x ≠ .junk) (hl : st + len * sz ≤ xs.length)
    (k : RunN P ops Q l ⟨s.t.set i (.slv len sz ((xs.drop st).take (len * sz))), s.H.set id .dead⟩) : RunN P ops Q l s := RunN.weaken k fun p w _ hR => hR.freeze i id st len sz t xs hi hb hn hl
/-- an append -/
theorem n_append (t e sz bytes len m : Nat) {k : Option Nat} (xs ys : List AV) {i : Nat} (x y : Operand) (s' : St) (ho : (decide (i < ops.size) && (match (opAt ops i).guard, (opAt ops i).op with | none, .call ⟨.builtin .append, ⟨[_, _]⟩, ⟨[t1, t2]⟩⟩ => t1 == t && t2 == t | _, _ => false)) = true)
    (hxy : callArgs (opAt ops i) = [x, y]) (hT : elT P t e sz bytes = true) (hd : IsDst s.H e sz (s.ev x) k len xs) (hs : IsSrc s.H sz (s.ev y) m ys) (hb : (len + m) * bytes ≤ 140737488355328) (hm : len + m ≤ maxLen)
    (he : St.put ⟨s.t, killB s.H k ++ [.row e (xs ++ ys)]⟩ (opAt ops i).dst (.sl s.H.length 0 (len + m) sz) = s') (h : RunN P ops Q l s') : RunN P ops Q (i :: l) s := by
  simp only [Bool.and_eq_true, decide_eq_true_eq] at ho
  obtain ⟨h1, h2⟩ := ho
  subst he
  split at h2
  · rename_i a b t1 t2 hg hop
    simp only [Bool.and_eq_true, beq_iff_eq] at h2
    obtain ⟨rfl, rfl⟩ := h2
    have hab : a = x ∧ b = y := by simpa [callArgs, hop] using hxy
    obtain ⟨rfl, rfl⟩ := hab
    exact runN_op (opAt_get h1) (wanted_none hg) (op_append (ty := 0) hop hT hd hs hb hm h)
  · cases h2
/-! ### regions that draw their order, step by step -/
theorem d_takes (is : List Nat) (C : Prop) (m : Nat) (listed' : Array Bool) (s' : St) {n : Nat} {listed : Array Bool} (hn : m + is.length = n) (h0 : (takeN P ops is listed s).2 = (listed', s')) (hC : allP (takeN P ops is listed s).1 = C) (hok : C) (h : RunD P ops Q m listed' s') : RunD P ops Q n listed s := by
  subst hn hC
  exact runD_takes is m listed s hok (by rw [h0]; exact h)
theorem d_done {n : Nat} {listed : Array Bool} (ks : List Nat) (s' : St) (hr : Region.ready .any ops listed = []) (hs : selS ks s = s') (h : Q .normal s') : RunD P ops Q n listed s := RunD.weaken (runD_done hr (hs ▸ h)) fun p _ _ hR => ⟨p, hR.sel ks, Step.refl _ _⟩
theorem d_callp (i f : Nat) (as' : List AV) (x : AV) (m : Nat) (listed' : Array Bool) (s' : St) {n : Nat} {listed : Array Bool} (hn : m + 1 = n) (hr : Region.ready .any ops listed = [i]) (hc : (decide (i < ops.size) && (callable P f && (match calls (opAt ops i) with | some g => g == f | none => false))) = true)
    (ha : (callArgs (opAt ops i)).map s.ev = as') (hpl : (as'.all noid1 && plain2 x) = true) (hl : listed.setIfInBounds i true = listed') (hs : s.put (opAt ops i).dst x = s') (h : CallsV P f as' [] fun av H' => av = x ∧ H' = []) (k : RunD P ops Q m listed' s') : RunD P ops Q n listed s := by
  subst hn ha hs hl
  simp only [Bool.and_eq_true, decide_eq_true_eq] at hc hpl
  obtain ⟨h1, h2, h3⟩ := hc
  have h4 : calls (opAt ops i) = some f := by
    split at h3
    · rename_i g hg; rw [hg]; simp only [beq_iff_eq] at h3; rw [h3]
    · cases h3
  obtain ⟨h5, ts, h6⟩ := calls_spec h4
  refine runD_one i (opAt_get h1) hr (wanted_none h5) (op_callB h6 h2 (by simpa using hpl.1) ?_)
  refine (show CallsV P f ((callArgs (opAt ops i)).toArray.toList.map s.ev) [] _ from by simpa using h).mono ?_
  rintro av H' ⟨rfl, rfl⟩
  rw [ren_plain hpl.2, List.map_nil, List.append_nil]
  exact k
/-- a new block among operations that draw their order -/
theorem d_new (i m : Nat) (listed' : Array Bool) (s' : St) {n : Nat} {listed : Array Bool} (hn : m + 1 = n) (hr : Region.ready .any ops listed = [i]) (C : Prop)
    (ho : (decide (i < ops.size) && (match (opAt ops i).guard, (opAt ops i).op with | none, .box _ _ => true | none, .alloc _ => true | none, .buildSlice _ _ _ => true | _, _ => false)) = true) (hC : allP (eff1 P ops s (opAt ops i)).1 = C) (hok : C)
    (hl : listed.setIfInBounds i true = listed') (hs : St.put ⟨s.t, (eff1 P ops s (opAt ops i)).2.2⟩ (opAt ops i).dst (eff1 P ops s (opAt ops i)).2.1 = s') (k : RunD P ops Q m listed' s') : RunD P ops Q n listed s := by
  subst hn hC hs hl
  simp only [Bool.and_eq_true, decide_eq_true_eq] at ho
  obtain ⟨h1, h2⟩ := ho
  unfold eff1 at hok k
  split at h2
  · rename_i t x hg hop
    simp only [hg, hop] at hok k
    split at hok
    · rename_i cs hc
      simp only [hc] at k
      exact runD_one i (opAt_get h1) hr (wanted_none hg) (op_box hop hc k)
    · exact hok.elim
  · rename_i t hg hop
    simp only [hg, hop] at hok k
    split at hok
    · rename_i cs hc
      simp only [hc] at k
      exact runD_one i (opAt_get h1) hr (wanted_none hg) (op_alloc hop hc k)
    · exact hok.elim
  · rename_i t len parts hg hop
    simp only [hg, hop] at hok k
    split at hok
    · rename_i ds hd
      simp only [hd] at k
      rw [allP_dec] at hok
      simp only [Bool.and_eq_true, beq_iff_eq] at hok
      exact runD_one i (opAt_get h1) hr (wanted_none hg) (op_sliceLit hop hok.1 hok.2.1 hd hok.2.2.1 hok.2.2.2 k)
    · exact hok.elim
  · cases h2
theorem d_set {n : Nat} {listed : Array Bool} (i : Nat) (x y : AV) (hx : s.t.getD i .junk = x) (h : x = y) (k : RunD P ops Q n listed ⟨s.t.set i y, s.H⟩) : RunD P ops Q n listed s := RunD.weaken k fun p w _ hR => ⟨p, hR.set i y (fun v hv => by rw [hx, h] at hv; exact hv), Step.refl _ _⟩
end
/-! ### lists of things that take several cells -/
def flatA {α : Type} (enc : α → List AV) (xs : List α) : List AV := xs.flatMap enc
section
variable {α : Type} {enc : α → List AV} {n : Nat}
theorem flatA_length (h : ∀ x, (enc x).length = n) (xs : List α) : (flatA enc xs).length = xs.length * n := by
  induction xs with
  | nil => simp [flatA]
  | cons x r ih => simp only [flatA, List.flatMap_cons, List.length_append, List.length_cons] at ih ⊢; rw [ih, h, Nat.succ_mul, Nat.add_comm]
theorem flatA_cons (x : α) (xs : List α) : flatA enc (x :: xs) = enc x ++ flatA enc xs := rfl
theorem flatA_append (xs ys : List α) : flatA enc (xs ++ ys) = flatA enc xs ++ flatA enc ys := by simp [flatA]
theorem flatA_drop (h : ∀ x, (enc x).length = n) (xs : List α) (k : Nat) : (flatA enc xs).drop (k * n) = flatA enc (xs.drop k) := by
  induction xs generalizing k with
  | nil => simp [flatA]
  | cons x r ih =>
    cases k with
    | zero => simp
    | succ k => rw [flatA_cons, List.drop_succ_cons, List.drop_append, h, Nat.succ_mul, Nat.add_sub_cancel, ih, List.drop_eq_nil_of_le (by rw [h]; omega), List.nil_append]
theorem flatA_take (h : ∀ x, (enc x).length = n) (xs : List α) (k : Nat) : (flatA enc xs).take (k * n) = flatA enc (xs.take k) := by
  induction xs generalizing k with
  | nil => simp [flatA]
  | cons x r ih =>
    cases k with
    | zero => simp [flatA]
    | succ k => rw [flatA_cons, List.take_succ_cons, flatA_cons, List.take_append, h, Nat.succ_mul, Nat.add_sub_cancel, ih, List.take_of_length_le (by rw [h]; omega)]
theorem flatA_at (h : ∀ x, (enc x).length = n) (xs : List α) (d : α) (k : Nat) (hk : k < xs.length) : (flatA enc xs).drop ((k : Int).toNat * n) = enc (xs.getD k d) ++ flatA enc (xs.drop (k + 1)) := by
  rw [Int.toNat_natCast, flatA_drop h, List.drop_eq_getElem_cons hk, flatA_cons]
  simp [List.getD_eq_getElem?_getD, hk]
theorem flatA_all {p : AV → Prop} (h : ∀ x, ∀ a ∈ enc x, p a) (xs : List α) : ∀ a ∈ flatA enc xs, p a := fun a ha => by
  simp only [flatA, List.mem_flatMap] at ha
  obtain ⟨x, _, hx⟩ := ha
  exact h x a hx
end
/-! ### loops whose rounds leave blocks behind -/
theorem renT_map (f : Nat → Option Nat) (xs : List AV) : renT f xs (xs.map (ren f)) := by
  induction xs with
  | nil => trivial
  | cons a r ih => exact ⟨Or.inr rfl, ih⟩
def dropI (n0 : Nat) (I : Nat → St → Prop) (m : Nat) (s : St) : Prop := ∃ keep s3, KeepOK n0 keep s.H s3.H ∧ renT (idxK keep) s.t s3.t ∧ I m s3
section
variable {P : Program} {Q : Exit → St → Prop} {s : St} {c : Code}
theorem wpV_loopd (I : Nat → St → Prop) (ks : List Nat) (n0 : Nat) (h0 : I n0 s) (h : ∀ n s1, I n s1 → WpV P c (loopV (dropI s.H.length I) ks n Q) s1) : WpV P (.loop c) Q s := fun p w a Qr hR hQ => by
  refine wp_loop_ghost (fun n a' w' => ∃ s' p', I n s' ∧ Rst p' s' a' w' ∧ Step p w p' w') n0 ⟨s, p, h0, hR, Step.refl _ _⟩ ?_
  rintro n a1 w1 ⟨s1, p1, hI, hR1, hS1⟩
  refine h n s1 hI p1 w1 a1 _ hR1 fun e s2 p2 a2 w2 hq hR2 hS2 => ?_
  cases e with
  | normal =>
    obtain ⟨m, hm, keep, s3, h1, h2, h3⟩ := hq
    have hR3 := hR2.sel ks
    rw [← hR.heap.n] at h1
    obtain ⟨k1, k2, k3⟩ := keep_ok (hS1.trans hS2) hR3.heap h1
    exact ⟨m, hm, s3, _, h3, ⟨hR3.defers, renT_rep k3 hR3.reps h2, k1⟩, k2⟩
  | _ => exact hQ _ _ _ _ _ hq hR2 (hS1.trans hS2)
theorem q_loopd (h : kd c = 6) (ks : List Nat) (n0 : Nat) (I : Nat → St → Prop) (h0 : I n0 (selS ks s)) (k : ∀ n s1, I n s1 → WpV P (cB c) (loopV (dropI (selS ks s).H.length I) ks n Q) s1) : WpV P c Q s := by
  refine WpV.weaken (s' := selS ks s) ?_ fun p _ _ hR => ⟨p, hR.sel ks, Step.refl _ _⟩
  cases c <;> first | exact wpV_loopd I ks n0 h0 k | (simp [kd] at h; done) | (rename_i d; cases d <;> simp [kd] at h)
/-- a round's end: every block that the round made is left behind -/
theorem k_loopd {I : Nat → St → Prop} {ks : List Nat} {n : Nat} (m : Nat) (h : m < n) (k : I m ⟨(selS ks s).t.map (ren (idxK [])), []⟩) : loopV (dropI 0 I) ks n Q .normal s :=
  ⟨m, h, [], _, keep_nil _, renT_map _ _, k⟩
/-- the same where one row of plain cells goes on -/
theorem k_loopd1 {I : Nat → St → Prop} {ks : List Nat} {n : Nat} (m : Nat) (h : m < n) (j : Nat) (t : TypeId) (xs : List AV) (hj : s.H[j]? = some (.row t xs)) (hn : ∀ x ∈ xs, noid0 x = true)
    (k : I m ⟨(selS ks s).t.map (ren (idxK [j])), [.row t xs]⟩) : loopV (dropI 0 I) ks n Q .normal s := by
  refine ⟨m, h, [j], ⟨_, [.row t xs]⟩, ⟨by simp, fun i hi => ?_, by simp, fun i hi => by omega, rfl, fun i h1 h2 h3 => ?_⟩, renT_map _ _, k⟩
  · obtain rfl : i = j := by simpa using hi
    exact (List.getElem?_eq_some_iff.1 hj).1
  · obtain rfl : i = 0 := by simp at h1; omega
    obtain ⟨q1, q2⟩ := List.getElem?_eq_some_iff.1 hj
    simp only [List.getElem_cons_zero] at h2 ⊢
    simp only [selS] at h2 ⊢
    rw [q2]
    exact ⟨rfl, Or.inl ⟨rfl, hn⟩⟩
end
end Go.Proofs.Ytcmbhebgpboepaa.V
