/-
  The logic of values: regions that draw their order, step by step, with stores and with several operations ready at once. Over any program.
-/
import Derived.Test.YtnidkamcpolmnaaVu
namespace Go.Proofs.Ytnidkamcpolmnaa.V
open Go Go.RowKit
set_option linter.unusedSimpArgs false
set_option linter.unusedVariables false

/-- what an operation asks, its value, the blocks behind it -/
def effP (P : Program) (s : St) (op : Op) : List Prop × AV × List Blk := match op with
  | .box t x => match cellsAV s.H (s.ev x) with
    | some cs => ([], .ptr s.H.length 0, s.H ++ [.row t cs])
    | none => ([False], .junk, s.H)
  | .alloc t => match zeroL P t with
    | some cs => ([], .ptr s.H.length 0, s.H ++ [.row t cs])
    | none => ([False], .junk, s.H)
  | .store t x y => match s.ev x, cellsAV s.H (s.ev y) with
    | .ptr id off, some cs => match s.H[id]? with
      | some (.row t' xs) => (dec (knownT P t && sizeT P t == cs.length) ++ [off + cs.length ≤ xs.length], .junk, s.H.set id (.row t' (xs.take off ++ cs ++ xs.drop (off + cs.length))))
      | _ => ([False], .junk, s.H)
    | _, _ => ([False], .junk, s.H)
  | .buildSlice t len parts => match sliceLitE P s.H s.ev (elemTy P t) len parts with
    | some ds => (dec (elT P t (elemTy P t) (sizeT P (elemTy P t)) (bytesT P (elemTy P t)) && (knownT P (elemTy P t) && (decide (len * sizeT P (elemTy P t) ≤ 16777216) && ds.length == len * sizeT P (elemTy P t)))), .sl s.H.length 0 len (sizeT P (elemTy P t)), s.H ++ [.row (elemTy P t) ds])
    | none => ([False], .junk, s.H)
  | .makeSlice t l c => match zeroL P (elemTy P t), s.ev l, s.ev c with
    | some zs, .int _ n, .int _ m => (dec (elT P t (elemTy P t) (sizeT P (elemTy P t)) (bytesT P (elemTy P t))) ++ [0 ≤ n ∧ n ≤ m, (bytesT P (elemTy P t) : Int) * m ≤ 281474976710656, m ≤ 9223372036854775807],
        .sl s.H.length 0 n.toNat (sizeT P (elemTy P t)), s.H ++ [.row (elemTy P t) (zerosL zs (m.toNat * sizeT P (elemTy P t)))])
    | _, _, _ => ([False], .junk, s.H)
  | .call ⟨.builtin .append, ⟨[x, y]⟩, ⟨[t, t']⟩⟩ => match dstB s.H (elemTy P t) (sizeT P (elemTy P t)) (s.ev x), srcB s.H (sizeT P (elemTy P t)) (s.ev y) with
    | some (k, len, xs), some (m, ys) => (dec (t' == t && elT P t (elemTy P t) (sizeT P (elemTy P t)) (bytesT P (elemTy P t))) ++ [(len + m) * bytesT P (elemTy P t) ≤ 140737488355328, len + m ≤ maxLen],
        .sl s.H.length 0 (len + m) (sizeT P (elemTy P t)), killB s.H k ++ [.row (elemTy P t) (xs ++ ys)])
    | _, _ => ([False], .junk, s.H)
  | op => match pureE P s.H s.ev op with | (c, x) => (c, x, s.H)
section
variable {P : Program} {s : St} {o : Oper}
def isNewOp : Op → Bool
  | .box _ _ | .alloc _ | .buildSlice _ _ _ | .makeSlice _ _ _ => true
  | _ => false
theorem effP_new {op : Op} (ho : o.op = op) (hk : isNewOp op = true) (hok : allP (effP P s op).1) : OpB P o s fun a b => a = (effP P s op).2.1 ∧ b = (effP P s op).2.2 := by
  unfold effP at hok ⊢
  split at hok
  · split at hok
    · rename_i cs hc; exact op_box ho hc ⟨rfl, rfl⟩
    · exact hok.elim
  · split at hok
    · rename_i cs hc; exact op_alloc ho hc ⟨rfl, rfl⟩
    · exact hok.elim
  · cases hk
  · split at hok
    · rename_i ds hd
      rw [allP_dec] at hok
      simp only [Bool.and_eq_true, beq_iff_eq] at hok
      exact op_sliceLit ho hok.1 hok.2.1 hd hok.2.2.1 hok.2.2.2 ⟨rfl, rfl⟩
    · exact hok.elim
  · split at hok
    · rename_i zs _ n _ m hz hl hc
      rw [allP_append, allP_dec] at hok
      obtain ⟨h1, h2⟩ := hok
      rw [allP_cons, allP_cons] at h2
      exact op_makeSlice ho h1 hz hl hc h2.1.1 h2.1.2 h2.2.1 h2.2.2 ⟨rfl, rfl⟩
    · exact hok.elim
  · cases hk
  · rename_i h1 h2 h3 h4 h5 h6
    exfalso
    cases op <;> first | (cases hk; done) | exact h1 _ _ rfl | exact h2 _ rfl | exact h4 _ _ _ rfl | exact h5 _ _ _ rfl
theorem effP_any {op : Op} (ho : o.op = op) (hok : allP (effP P s op).1) : OpV P o s fun a b => a = (effP P s op).2.1 ∧ b = (effP P s op).2.2 := by
  by_cases hk : isNewOp op = true
  · exact (effP_new ho hk hok).opV
  · unfold effP at hok ⊢
    split at hok
    · exact absurd rfl hk
    · exact absurd rfl hk
    · split at hok
      · rename_i id off cs hx hc
        split at hok
        · rename_i t' xs hb
          rw [allP_append, allP_dec] at hok
          simp only [Bool.and_eq_true, beq_iff_eq] at hok
          exact op_store ho hx hb hc hok.1 hok.2 ⟨rfl, rfl⟩
        · exact hok.elim
      · exact hok.elim
    · exact absurd rfl hk
    · exact absurd rfl hk
    · rename_i x y t t'
      split at hok
      · rename_i k len xs m ys h1 h2
        rw [allP_append, allP_dec] at hok
        obtain ⟨h3, h4, h5⟩ := hok
        simp only [Bool.and_eq_true, beq_iff_eq] at h3
        obtain ⟨rfl, h3⟩ := h3
        exact op_append (ty := t') ho h3 (dstB_ok h1) (srcB_ok h2) h4 h5 ⟨rfl, rfl⟩
      · exact hok.elim
    · exact (pureE_ok ho hok).opV ⟨rfl, rfl⟩
end
section
variable {P : Program} {Q : Exit → St → Prop} {s s' : St} {ops : Array Oper} {n0 n m : Nat} {listed listed' : Array Bool} {c : Code}
abbrev qt (ops : Array Oper) : Nat → Bool := quietB false ops
theorem q_drawT (h : kd c = 2) (hm : P.follows .mixedOrders = true) (n0 : Nat) (hn : s.H.length = n0) (k : RunT P (cO c) Q (qt (cO c)) n0 (cO c).size (Array.replicate (cO c).size false) s) : WpV P c Q s := by
  subst hn
  cases c <;> first | (simp [kd] at h; done) | skip
  rename_i i ops d
  cases d with
  | false => simp [kd] at h
  | true => exact wpV_drawT hm k
theorem RunT.sel (ks : List Nat) (h : RunT P ops Q (qt ops) n0 n listed (selS ks s)) : RunT P ops Q (qt ops) n0 n listed s := fun p0 w0 p w a K hn hsz hc hS hR hQ => h p0 w0 p w a K hn hsz hc hS (hR.sel ks) hQ
theorem t_done (ks : List Nat) (s' : St) (hr : Region.ready .any ops listed = []) (hs : selS ks s = s') (h : Q .normal s') : RunT P ops Q (qt ops) n0 n listed s := RunT.sel ks (runT_done hr (hs ▸ h))
theorem t_set (i : Nat) (x y : AV) (hx : s.t.getD i .junk = x) (h : x = y) (k : RunT P ops Q (qt ops) n0 n listed ⟨s.t.set i y, s.H⟩) : RunT P ops Q (qt ops) n0 n listed s := fun p0 w0 p w a K hn hsz hc hS hR hQ => k p0 w0 p w a K hn hsz hc hS (hR.set i y fun v hv => by rw [hx, h] at hv; exact hv) hQ
/-- a reading operation, taken first -/
theorem t_take (i : Nat) (C : Prop) (m : Nat) (listed' : Array Bool) (s' : St) (hn : m + 1 = n) (hc : (decide (i < ops.size) && (Region.noSelect ops && (Region.free .any ops listed i && (Region.ready .any ops listed).contains i))) = true) (hf : firstB ops (qt ops) listed i = true) (hw : wantG ops s (opAt ops i) = some true)
    (hC : allP (pureE P s.H s.ev (opAt ops i).op).1 = C) (hs : s.put (opAt ops i).dst (pureE P s.H s.ev (opAt ops i).op).2 = s') (hl : listed.setIfInBounds i true = listed') (hok : C) (k : RunT P ops Q (qt ops) n0 m listed' s') : RunT P ops Q (qt ops) n0 n listed s := by
  subst hn hC hs hl
  rw [Bool.and_eq_true, decide_eq_true_eq] at hc
  exact runT_take (opAt_get hc.1) hc.2 hf hw (pureE_ok rfl hok) k
/-- an operation whose value does not lie in memory, taken first -/
theorem t_still (i : Nat) (m : Nat) (listed' : Array Bool) (s' : St) (hn : m + 1 = n) (hc : (decide (i < ops.size) && (Region.noSelect ops && (Region.free .any ops listed i && (Region.ready .any ops listed).contains i))) = true) (hw : wantG ops s (opAt ops i) = some true) (hp : stillB P s.ev (opAt ops i).op = true)
    (hs : s.put (opAt ops i).dst (pureE P s.H s.ev (opAt ops i).op).2 = s') (hl : listed.setIfInBounds i true = listed') (k : RunT P ops Q (qt ops) n0 m listed' s') : RunT P ops Q (qt ops) n0 n listed s := by
  subst hn hs hl
  rw [Bool.and_eq_true, decide_eq_true_eq] at hc
  exact runT_still (opAt_get hc.1) hc.2 hw hp k
def GoT (P : Program) (Q : Exit → St → Prop) (ops : Array Oper) (n0 m : Nat) (listed : Array Bool) (s : St) (i : Nat) : Prop :=
  ∃ o, ops[i]? = some o ∧ ((wantG ops s o = some true ∧ ((qt ops i = false ∧ OpV P o s fun av H' => RunT P ops Q (qt ops) n0 m (listed.setIfInBounds i true) (St.put ⟨s.t, H'⟩ o.dst av)) ∨
        OpB P o s fun av H' => RunT P ops Q (qt ops) n0 m (listed.setIfInBounds i true) (St.put ⟨s.t, H'⟩ o.dst av))) ∨
      (wantG ops s o = some false ∧ RunT P ops Q (qt ops) n0 m (listed.setIfInBounds i true) (s.put o.dst skipped)))
theorem t_one (i : Nat) (m : Nat) (hn : m + 1 = n) (hr : Region.ready .any ops listed = [i]) (k : GoT P Q ops n0 m listed s i) : RunT P ops Q (qt ops) n0 n listed s := by
  subst hn
  exact runT_step hr (by simp) fun j hj => by obtain rfl : j = i := by simpa using hj
                                              exact k
theorem t_two (i j : Nat) (m : Nat) (hn : m + 1 = n) (hr : Region.ready .any ops listed = [i, j]) (k1 : GoT P Q ops n0 m listed s i) (k2 : GoT P Q ops n0 m listed s j) : RunT P ops Q (qt ops) n0 n listed s := by
  subst hn
  refine runT_step hr (by simp) fun j' hj => ?_
  rcases List.mem_cons.1 hj with rfl | hj
  · exact k1
  · obtain rfl : j' = j := by simpa using hj
    exact k2
theorem t_three (i j l : Nat) (m : Nat) (hn : m + 1 = n) (hr : Region.ready .any ops listed = [i, j, l]) (k1 : GoT P Q ops n0 m listed s i) (k2 : GoT P Q ops n0 m listed s j) (k3 : GoT P Q ops n0 m listed s l) : RunT P ops Q (qt ops) n0 n listed s := by
  subst hn
  refine runT_step hr (by simp) fun j' hj => ?_
  rcases List.mem_cons.1 hj with rfl | hj
  · exact k1
  · rcases List.mem_cons.1 hj with rfl | hj
    · exact k2
    · obtain rfl : j' = l := by simpa using hj
      exact k3
/-- an operation that makes a block -/
theorem g_new {i : Nat} (C : Prop) (listed' : Array Bool) (s' : St) (hb : (decide (i < ops.size) && isNewOp (opAt ops i).op) = true) (hw : wantG ops s (opAt ops i) = some true) (hC : allP (effP P s (opAt ops i).op).1 = C)
    (hs : St.put ⟨s.t, (effP P s (opAt ops i).op).2.2⟩ (opAt ops i).dst (effP P s (opAt ops i).op).2.1 = s') (hl : listed.setIfInBounds i true = listed') (hok : C) (k : RunT P ops Q (qt ops) n0 m listed' s') : GoT P Q ops n0 m listed s i := by
  subst hC hs hl
  rw [Bool.and_eq_true, decide_eq_true_eq] at hb
  refine ⟨_, opAt_get hb.1, Or.inl ⟨hw, Or.inr fun p w a K Q' hR hK => effP_new rfl hb.2 hok p w a K Q' hR fun v av H2 p' w' ⟨e1, e2⟩ => hK v av H2 p' w' (by subst e1 e2; exact k)⟩⟩
/-- a reading operation -/
theorem g_pure {i : Nat} (C : Prop) (listed' : Array Bool) (s' : St) (hb : (decide (i < ops.size)) = true) (hw : wantG ops s (opAt ops i) = some true) (hC : allP (pureE P s.H s.ev (opAt ops i).op).1 = C)
    (hs : s.put (opAt ops i).dst (pureE P s.H s.ev (opAt ops i).op).2 = s') (hl : listed.setIfInBounds i true = listed') (hok : C) (k : RunT P ops Q (qt ops) n0 m listed' s') : GoT P Q ops n0 m listed s i := by
  subst hC hs hl
  rw [decide_eq_true_eq] at hb
  exact ⟨_, opAt_get hb, Or.inl ⟨hw, Or.inr ((pureE_ok rfl hok).opB k)⟩⟩
/-- an operation that turns a block -/
theorem g_turn {i : Nat} (C : Prop) (listed' : Array Bool) (s' : St) (hb : (decide (i < ops.size) && !qt ops i) = true) (hw : wantG ops s (opAt ops i) = some true) (hC : allP (effP P s (opAt ops i).op).1 = C)
    (hs : St.put ⟨s.t, (effP P s (opAt ops i).op).2.2⟩ (opAt ops i).dst (effP P s (opAt ops i).op).2.1 = s') (hl : listed.setIfInBounds i true = listed') (hok : C) (k : RunT P ops Q (qt ops) n0 m listed' s') : GoT P Q ops n0 m listed s i := by
  subst hC hs hl
  rw [Bool.and_eq_true, decide_eq_true_eq] at hb
  refine ⟨_, opAt_get hb.1, Or.inl ⟨hw, Or.inl ⟨by simpa using hb.2, fun p w a K Q' hR hK => effP_any rfl hok p w a K Q' hR fun v av H2 p' w' ⟨e1, e2⟩ => hK v av H2 p' w' (by subst e1 e2; exact k)⟩⟩⟩
/-- an operation that is reckoned out -/
theorem g_ev {X : CF} (hX : CFok P X) (k0 : Nat) {i : Nat} (av : AV) (H' : List Blk) (listed' : Array Bool) (s' : St) (hb : (decide (i < ops.size)) = true) (hw : wantG ops s (opAt ops i) = some true) (h : effT P (evF P X k0) false s (opAt ops i).op = some (av, H'))
    (hs : St.put ⟨s.t, H'⟩ (opAt ops i).dst av = s') (hl : listed.setIfInBounds i true = listed') (k : RunT P ops Q (qt ops) n0 m listed' s') : GoT P Q ops n0 m listed s i := by
  subst hs hl
  rw [decide_eq_true_eq] at hb
  rcases effT_ok (evF_ok hX k0) (opAt_get hb) h with ⟨hq, hv⟩ | hv
  · exact ⟨_, opAt_get hb, Or.inl ⟨hw, Or.inl ⟨hq, fun p w a K Q' hR hK => hv p w a K Q' hR fun v av H2 p' w' ⟨e1, e2⟩ => hK v av H2 p' w' (by subst e1 e2; exact k)⟩⟩⟩
  · exact ⟨_, opAt_get hb, Or.inl ⟨hw, Or.inr fun p w a K Q' hR hK => hv p w a K Q' hR fun v av H2 p' w' ⟨e1, e2⟩ => hK v av H2 p' w' (by subst e1 e2; exact k)⟩⟩
/-- an append -/
theorem g_append (t e sz bytes len r : Nat) {kk : Option Nat} (xs ys : List AV) {i : Nat} (x y : Operand) (listed' : Array Bool) (s' : St) (ho : (decide (i < ops.size) && (match (opAt ops i).guard, (opAt ops i).op with | none, .call ⟨.builtin .append, ⟨[_, _]⟩, ⟨[t1, t2]⟩⟩ => t1 == t && t2 == t | _, _ => false)) = true) (hq : qt ops i = false)
    (hxy : callArgs (opAt ops i) = [x, y]) (hT : elT P t e sz bytes = true) (hd : IsDst s.H e sz (s.ev x) kk len xs) (hs : IsSrc s.H sz (s.ev y) r ys) (hb : (len + r) * bytes ≤ 140737488355328) (hm : len + r ≤ maxLen)
    (he : St.put ⟨s.t, killB s.H kk ++ [.row e (xs ++ ys)]⟩ (opAt ops i).dst (.sl s.H.length 0 (len + r) sz) = s') (hl : listed.setIfInBounds i true = listed') (h : RunT P ops Q (qt ops) n0 m listed' s') : GoT P Q ops n0 m listed s i := by
  simp only [Bool.and_eq_true, decide_eq_true_eq] at ho
  obtain ⟨h1, h2⟩ := ho
  subst he hl
  split at h2
  · rename_i a b t1 t2 hg hop
    simp only [Bool.and_eq_true, beq_iff_eq] at h2
    obtain ⟨rfl, rfl⟩ := h2
    have hab : a = x ∧ b = y := by simpa [callArgs, hop] using hxy
    obtain ⟨rfl, rfl⟩ := hab
    exact ⟨_, opAt_get h1, Or.inl ⟨by unfold wantG; rw [hg], Or.inl ⟨hq, op_append (ty := 0) hop hT hd hs hb hm h⟩⟩⟩
  · cases h2
/-- a round's end of a loop that began with n0 blocks -/
theorem k_loopK {I : Nat → St → Prop} {ks : List Nat} {Q : Exit → St → Prop} {n : Nat} {n0 : Nat} (mm : Nat) (h : mm < n) (keep : List Nat) (s3 : St) (hk : keepB n0 keep (selS ks s).H = true) (hs : (⟨(selS ks s).t.map (ren (idxK keep)), keepH keep (selS ks s).H⟩ : St) = s3) (k : I mm s3) : loopV (dropI n0 I) ks n Q .normal s := by
  subst hs
  exact ⟨mm, h, keep, _, keepB_ok hk, renT_map _ _, k⟩
end
end Go.Proofs.Ytnidkamcpolmnaa.V
