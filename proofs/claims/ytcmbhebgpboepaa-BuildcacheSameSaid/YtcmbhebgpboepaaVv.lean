/-
  The logic of values: regions that draw their order, step by step, with stores and with several operations ready at once. Over any program.
-/
import Derived.Test.YtcmbhebgpboepaaVu
namespace Go.Proofs.Ytcmbhebgpboepaa.V
open Go Go.RowKit
set_option linter.unusedSimpArgs false
set_option linter.unusedVariables false

/-- what an operation asks, its value, the blocks behind it -/
def effP (P : Program) (s : St) (op : Op) : List Prop × AV × List Blk := match op with
  | .box t x => match cellsAV s.H (s.ev x) with
    | some cs => ([], .ptr s.H.length 0, s.H ++ [.row t cs])
    | none => ([False], .junk, s.H)
  | .alloc t => match zeroL P t with
    | some cs => ([], .ptr s.H.length 0, s.H ++ [.row t cs])
    | none => ([False], .junk, s.H)
  | .store t x y => match s.ev x, cellsAV s.H (s.ev y) with
    | .ptr id off, some cs => match s.H[id]? with
      | some (.row t' xs) => (dec (knownT P t && sizeT P t == cs.length) ++ [off + cs.length ≤ xs.length], .junk, s.H.set id (.row t' (xs.take off ++ cs ++ xs.drop (off + cs.length))))
      | _ => ([False], .junk, s.H)
    | _, _ => ([False], .junk, s.H)
  | .buildSlice t len parts => match sliceLitE P s.H s.ev (elemTy P t) len parts with
    | some ds => (dec (elT P t (elemTy P t) (sizeT P (elemTy P t)) (bytesT P (elemTy P t)) && (knownT P (elemTy P t) && (decide (len * sizeT P (elemTy P t) ≤ 16777216) && ds.length == len * sizeT P (elemTy P t)))), .sl s.H.length 0 len (sizeT P (elemTy P t)), s.H ++ [.row (elemTy P t) ds])
    | none => ([False], .junk, s.H)
  | .makeSlice t l c => match zeroL P (elemTy P t), s.ev l, s.ev c with
    | some zs, .int _ n, .int _ m => (dec (elT P t (elemTy P t) (sizeT P (elemTy P t)) (bytesT P (elemTy P t))) ++ [0 ≤ n ∧ n ≤ m, (bytesT P (elemTy P t) : Int) * m ≤ 281474976710656, m ≤ 9223372036854775807],
        .sl s.H.length 0 n.toNat (sizeT P (elemTy P t)), s.H ++ [.row (elemTy P t) (zerosL zs (m.toNat * sizeT P (elemTy P t)))])
    | _, _, _ => ([False], .junk, s.H)
  | .call ⟨.builtin .append, ⟨[x, y]⟩, ⟨[t, t']⟩⟩ => match dstB s.H (elemTy P t) (sizeT P (elemTy P t)) (s.ev x), srcB s.H (sizeT P (elemTy P t)) (s.ev y) with
    | some (k, len, xs), some (m, ys) => (dec (t' == t && elT P t (elemTy P t) (sizeT P (elemTy P t)) (bytesT P (elemTy P t))) ++ [(len + m) * bytesT P (elemTy P t) ≤ 140737488355328, len + m ≤ maxLen],
        .sl s.H.length 0 (len + m) (sizeT P (elemTy P t)), killB s.H k ++ [.row (elemTy P t) (xs ++ ys)])
    | _, _ => ([False], .junk, s.H)
  | op => match pureE P s.H s.ev op with | (c, x) => (c, x, s.H)
section
variable {P : Program} {s : St} {o : Oper}
def isNewOp : Op → Bool
  | .box _ _ | .alloc _ | .buildSlice _ _ _ | .makeSlice _ _ _ => true
  | _ => false
theorem effP_new {op : Op} (ho : o.op = op) (hk : isNewOp op = true) (hok : allP (effP P s op).1) : OpB P o s fun a b => a = (effP P s op).2.1 ∧ b = (effP P s op).2.2 := by
  unfold effP at hok ⊢
  split at hok
  · split at hok
    · rename_i cs hc; exact op_box ho hc ⟨rfl, rfl⟩
    · exact hok.elim
  · split at hok
    · rename_i cs hc; exact op_alloc ho hc ⟨rfl, rfl⟩
    · exact hok.elim
  · cases hk
  · split at hok
    · rename_i ds hd
      rw [allP_dec] at hok
      simp only [Bool.and_eq_true, beq_iff_eq] at hok
      exact op_sliceLit ho hok.1 hok.2.1 hd hok.2.2.1 hok.2.2.2 ⟨rfl, rfl⟩
    · exact hok.elim
  · split at hok
    · rename_i zs _ n _ m hz hl hc
      rw [allP_append, allP_dec] at hok
      obtain ⟨h1, h2⟩ := hok
      rw [allP_cons, allP_cons] at h2
      exact op_makeSlice ho h1 hz hl hc h2.1.1 h2.1.2 h2.2.1 h2.2.2 ⟨rfl, rfl⟩
    · exact hok.elim
  · cases hk
  · rename_i h1 h2 h3 h4 h5 h6
    exfalso
    cases op <;> first | (cases hk; done) | exact h1 _ _ rfl | exact h2 _ rfl | exact h4 _ _ _ rfl | exact h5 _ _ _ rfl
theorem effP_any {op : Op} (ho : o.op = op) (hok : allP (effP P s op).1) : OpV P o s fun a b => a = (effP P s op).2.1 ∧ b = (effP P s op).2.2 := by
  by_cases hk : isNewOp op = true
  · exact (effP_new ho hk hok).opV
  · unfold effP at hok ⊢
    split at hok
    · exact absurd rfl hk
    · exact absurd rfl hk
    · split at hok
      · rename_i id off cs hx hc
        split at hok
        · rename_i t' xs hb
          rw [allP_append, allP_dec] at hok
          simp only [Bool.and_eq_true, beq_iff_eq] at hok
          exact op_store ho hx hb hc hok.1 hok.2 ⟨rfl, rfl⟩
        · exact hok.elim
      · exact hok.elim
    · exact absurd rfl hk
    · exact absurd rfl hk
    · rename_i x y t t'
      split at hok
      · rename_i k len xs m ys h1 h2
        rw [allP_append, allP_dec] at hok
        obtain ⟨h3, h4, h5⟩ := hok
        simp only [Bool.and_eq_true, beq_iff_eq] at h3
        obtain ⟨rfl, h3⟩ := h3
        exact op_append (ty := t') ho h3 (dstB_ok h1) (srcB_ok h2) h4 h5 ⟨rfl, rfl⟩
      · exact hok.elim
    · exact (pureE_ok ho hok).opV ⟨rfl, rfl⟩
end
section
variable {P : Program} {Q : Exit → St → Prop} {s s' : St} {ops : Array Oper} {n0 n m : Nat} {listed listed' : Array Bool} {c : Code}
variable {qc : Bool}
theorem q_drawT (qc : Bool) (h : kd c = 2) (hm : P.follows .mixedOrders = true) (n0 : Nat) (hn : s.H.length = n0) (k : RunT P (cO c) Q (quietB qc (cO c)) n0 (cO c).size (Array.replicate (cO c).size false) s) : WpV P c Q s := by
  subst hn
  cases c <;> first | (simp [kd] at h; done) | skip
  rename_i i ops d
  cases d with
  | false => simp [kd] at h
  | true => exact wpV_drawT hm k
theorem RunT.sel (ks : List Nat) (h : RunT P ops Q (quietB qc ops) n0 n listed (selS ks s)) : RunT P ops Q (quietB qc ops) n0 n listed s := fun p0 w0 p w a K hn hsz hc hS hR hQ => h p0 w0 p w a K hn hsz hc hS (hR.sel ks) hQ
theorem t_done (ks : List Nat) (s' : St) (hr : Region.ready .any ops listed = []) (hs : selS ks s = s') (h : Q .normal s') : RunT P ops Q (quietB qc ops) n0 n listed s := RunT.sel ks (runT_done hr (hs ▸ h))
theorem t_set (i : Nat) (x y : AV) (hx : s.t.getD i .junk = x) (h : x = y) (k : RunT P ops Q (quietB qc ops) n0 n listed ⟨s.t.set i y, s.H⟩) : RunT P ops Q (quietB qc ops) n0 n listed s := fun p0 w0 p w a K hn hsz hc hS hR hQ => k p0 w0 p w a K hn hsz hc hS (hR.set i y fun v hv => by rw [hx, h] at hv; exact hv) hQ
/-- a reading operation, taken first -/
theorem t_take (i : Nat) (C : Prop) (m : Nat) (listed' : Array Bool) (s' : St) (hn : m + 1 = n) (hc : (decide (i < ops.size) && (Region.noSelect ops && (Region.free .any ops listed i && (Region.ready .any ops listed).contains i))) = true) (hf : firstB ops (quietB qc ops) listed i = true) (hw : wantG ops s (opAt ops i) = some true)
    (hC : allP (pureE P s.H s.ev (opAt ops i).op).1 = C) (hs : s.put (opAt ops i).dst (pureE P s.H s.ev (opAt ops i).op).2 = s') (hl : listed.setIfInBounds i true = listed') (hok : C) (k : RunT P ops Q (quietB qc ops) n0 m listed' s') : RunT P ops Q (quietB qc ops) n0 n listed s := by
  subst hn hC hs hl
  rw [Bool.and_eq_true, decide_eq_true_eq] at hc
  exact runT_take (opAt_get hc.1) hc.2 hf hw (pureE_ok rfl hok) k
/-- an operation whose value does not lie in memory, taken first -/
theorem t_still (i : Nat) (m : Nat) (listed' : Array Bool) (s' : St) (hn : m + 1 = n) (hc : (decide (i < ops.size) && (Region.noSelect ops && (Region.free .any ops listed i && (Region.ready .any ops listed).contains i))) = true) (hw : wantG ops s (opAt ops i) = some true) (hp : stillB P s.ev (opAt ops i).op = true)
    (hs : s.put (opAt ops i).dst (pureE P s.H s.ev (opAt ops i).op).2 = s') (hl : listed.setIfInBounds i true = listed') (k : RunT P ops Q (quietB qc ops) n0 m listed' s') : RunT P ops Q (quietB qc ops) n0 n listed s := by
  subst hn hs hl
  rw [Bool.and_eq_true, decide_eq_true_eq] at hc
  exact runT_still (opAt_get hc.1) hc.2 hw hp k
def GoT (qc : Bool) (P : Program) (Q : Exit → St → Prop) (ops : Array Oper) (n0 m : Nat) (listed : Array Bool) (s : St) (i : Nat) : Prop :=
  ∃ o, ops[i]? = some o ∧ ((wantG ops s o = some true ∧ ((quietB qc ops i = false ∧ OpV P o s fun av H' => RunT P ops Q (quietB qc ops) n0 m (listed.setIfInBounds i true) (St.put ⟨s.t, H'⟩ o.dst av)) ∨
        OpB P o s fun av H' => RunT P ops Q (quietB qc ops) n0 m (listed.setIfInBounds i true) (St.put ⟨s.t, H'⟩ o.dst av))) ∨
      (wantG ops s o = some false ∧ RunT P ops Q (quietB qc ops) n0 m (listed.setIfInBounds i true) (s.put o.dst skipped)))
theorem t_one (i : Nat) (m : Nat) (hn : m + 1 = n) (hr : Region.ready .any ops listed = [i]) (k : GoT qc P Q ops n0 m listed s i) : RunT P ops Q (quietB qc ops) n0 n listed s := by
  subst hn
  exact runT_step hr (by simp) fun j hj => by obtain rfl : j = i := by simpa using hj
                                              exact k
theorem t_two (i j : Nat) (m : Nat) (hn : m + 1 = n) (hr : Region.ready .any ops listed = [i, j]) (k1 : GoT qc P Q ops n0 m listed s i) (k2 : GoT qc P Q ops n0 m listed s j) : RunT P ops Q (quietB qc ops) n0 n listed s := by
  subst hn
  refine runT_step hr (by simp) fun j' hj => ?_
  rcases List.mem_cons.1 hj with rfl | hj
  · exact k1
  · obtain rfl : j' = j := by simpa using hj
    exact k2
theorem t_three (i j l : Nat) (m : Nat) (hn : m + 1 = n) (hr : Region.ready .any ops listed = [i, j, l]) (k1 : GoT qc P Q ops n0 m listed s i) (k2 : GoT qc P Q ops n0 m listed s j) (k3 : GoT qc P Q ops n0 m listed s l) : RunT P ops Q (quietB qc ops) n0 n listed s := by
  subst hn
  refine runT_step hr (by simp) fun j' hj => ?_
  rcases List.mem_cons.1 hj with rfl | hj
  · exact k1
  · rcases List.mem_cons.1 hj with rfl | hj
    · exact k2
    · obtain rfl : j' = l := by simpa using hj
      exact k3
/-- an operation that makes a block -/
theorem g_new {i : Nat} (C : Prop) (listed' : Array Bool) (s' : St) (hb : (decide (i < ops.size) && isNewOp (opAt ops i).op) = true) (hw : wantG ops s (opAt ops i) = some true) (hC : allP (effP P s (opAt ops i).op).1 = C)
    (hs : St.put ⟨s.t, (effP P s (opAt ops i).op).2.2⟩ (opAt ops i).dst (effP P s (opAt ops i).op).2.1 = s') (hl : listed.setIfInBounds i true = listed') (hok : C) (k : RunT P ops Q (quietB qc ops) n0 m listed' s') : GoT qc P Q ops n0 m listed s i := by
  subst hC hs hl
  rw [Bool.and_eq_true, decide_eq_true_eq] at hb
  refine ⟨_, opAt_get hb.1, Or.inl ⟨hw, Or.inr fun p w a K Q' hR hK => effP_new rfl hb.2 hok p w a K Q' hR fun v av H2 p' w' ⟨e1, e2⟩ => hK v av H2 p' w' (by subst e1 e2; exact k)⟩⟩
/-- a reading operation -/
theorem g_pure {i : Nat} (C : Prop) (listed' : Array Bool) (s' : St) (hb : (decide (i < ops.size)) = true) (hw : wantG ops s (opAt ops i) = some true) (hC : allP (pureE P s.H s.ev (opAt ops i).op).1 = C)
    (hs : s.put (opAt ops i).dst (pureE P s.H s.ev (opAt ops i).op).2 = s') (hl : listed.setIfInBounds i true = listed') (hok : C) (k : RunT P ops Q (quietB qc ops) n0 m listed' s') : GoT qc P Q ops n0 m listed s i := by
  subst hC hs hl
  rw [decide_eq_true_eq] at hb
  exact ⟨_, opAt_get hb, Or.inl ⟨hw, Or.inr ((pureE_ok rfl hok).opB k)⟩⟩
/-- an operation that turns a block -/
theorem g_turn {i : Nat} (C : Prop) (listed' : Array Bool) (s' : St) (hb : (decide (i < ops.size) && !quietB qc ops i) = true) (hw : wantG ops s (opAt ops i) = some true) (hC : allP (effP P s (opAt ops i).op).1 = C)
    (hs : St.put ⟨s.t, (effP P s (opAt ops i).op).2.2⟩ (opAt ops i).dst (effP P s (opAt ops i).op).2.1 = s') (hl : listed.setIfInBounds i true = listed') (hok : C) (k : RunT P ops Q (quietB qc ops) n0 m listed' s') : GoT qc P Q ops n0 m listed s i := by
  subst hC hs hl
  rw [Bool.and_eq_true, decide_eq_true_eq] at hb
  refine ⟨_, opAt_get hb.1, Or.inl ⟨hw, Or.inl ⟨by simpa using hb.2, fun p w a K Q' hR hK => effP_any rfl hok p w a K Q' hR fun v av H2 p' w' ⟨e1, e2⟩ => hK v av H2 p' w' (by subst e1 e2; exact k)⟩⟩⟩
/-- an operation that is reckoned out -/
theorem g_ev {X : CF} (hX : CFok P X) (k0 : Nat) {i : Nat} (av : AV) (H' : List Blk) (listed' : Array Bool) (s' : St) (hb : (decide (i < ops.size)) = true) (hw : wantG ops s (opAt ops i) = some true) (h : effT P (evF P X k0) qc s (opAt ops i).op = some (av, H'))
    (hs : St.put ⟨s.t, H'⟩ (opAt ops i).dst av = s') (hl : listed.setIfInBounds i true = listed') (k : RunT P ops Q (quietB qc ops) n0 m listed' s') : GoT qc P Q ops n0 m listed s i := by
  subst hs hl
  rw [decide_eq_true_eq] at hb
  rcases effT_ok (evF_ok hX k0) (opAt_get hb) h with ⟨hq, hv⟩ | hv
  · exact ⟨_, opAt_get hb, Or.inl ⟨hw, Or.inl ⟨hq, fun p w a K Q' hR hK => hv p w a K Q' hR fun v av H2 p' w' ⟨e1, e2⟩ => hK v av H2 p' w' (by subst e1 e2; exact k)⟩⟩⟩
  · exact ⟨_, opAt_get hb, Or.inl ⟨hw, Or.inr fun p w a K Q' hR hK => hv p w a K Q' hR fun v av H2 p' w' ⟨e1, e2⟩ => hK v av H2 p' w' (by subst e1 e2; exact k)⟩⟩
/-- an append -/
theorem g_append (t e sz bytes len r : Nat) {kk : Option Nat} (xs ys : List AV) {i : Nat} (x y : Operand) (listed' : Array Bool) (s' : St) (ho : (decide (i < ops.size) && (match (opAt ops i).guard, (opAt ops i).op with | none, .call ⟨.builtin .append, ⟨[_, _]⟩, ⟨[t1, t2]⟩⟩ => t1 == t && t2 == t | _, _ => false)) = true) (hq : quietB qc ops i = false)
    (hxy : callArgs (opAt ops i) = [x, y]) (hT : elT P t e sz bytes = true) (hd : IsDst s.H e sz (s.ev x) kk len xs) (hs : IsSrc s.H sz (s.ev y) r ys) (hb : (len + r) * bytes ≤ 140737488355328) (hm : len + r ≤ maxLen)
    (he : St.put ⟨s.t, killB s.H kk ++ [.row e (xs ++ ys)]⟩ (opAt ops i).dst (.sl s.H.length 0 (len + r) sz) = s') (hl : listed.setIfInBounds i true = listed') (h : RunT P ops Q (quietB qc ops) n0 m listed' s') : GoT qc P Q ops n0 m listed s i := by
  simp only [Bool.and_eq_true, decide_eq_true_eq] at ho
  obtain ⟨h1, h2⟩ := ho
  subst he hl
  split at h2
  · rename_i a b t1 t2 hg hop
    simp only [Bool.and_eq_true, beq_iff_eq] at h2
    obtain ⟨rfl, rfl⟩ := h2
    have hab : a = x ∧ b = y := by simpa [callArgs, hop] using hxy
    obtain ⟨rfl, rfl⟩ := hab
    exact ⟨_, opAt_get h1, Or.inl ⟨by unfold wantG; rw [hg], Or.inl ⟨hq, op_append (ty := 0) hop hT hd hs hb hm h⟩⟩⟩
  · cases h2
/-- a round's end of a loop that began with n0 blocks -/
theorem k_loopK {I : Nat → St → Prop} {ks : List Nat} {Q : Exit → St → Prop} {n : Nat} {n0 : Nat} (mm : Nat) (h : mm < n) (keep : List Nat) (s3 : St) (hk : keepB n0 keep (selS ks s).H = true) (hs : (⟨(selS ks s).t.map (ren (idxK keep)), keepH keep (selS ks s).H⟩ : St) = s3) (k : I mm s3) : loopV (dropI n0 I) ks n Q .normal s := by
  subst hs
  exact ⟨mm, h, keep, _, keepB_ok hk, renT_map _ _, k⟩
/-- a call by its contract, its first argument being an own row of plain cells, that is lent -/
theorem n_lendo {l : List Nat} (f : FuncId) (id len sz : Nat) (t : TypeId) (xs rest : List AV) (as0 av : AV) (H1 : List Blk) {i : Nat} (s' : St) (hc : (decide (i < ops.size) && ((match (opAt ops i).guard with | none => true | _ => false) && callable P f)) = true)
    (ha : callOf s.ev (opAt ops i).op = some (f, .sl id 0 len sz :: rest)) (hb : s.H[id]? = some (.row t xs)) (hx : ∀ x ∈ xs, noid0 x = true ∧ x ≠ .junk) (hl : len * sz ≤ xs.length) (hr : rest.all noid1 = true)
    (has : as0 = .slv len sz (xs.take (len * sz))) (h : CallsV P f (as0 :: rest) [] fun a b => a = av ∧ b = H1) (hn : (novR av && H1.all novB) = true)
    (hs : St.put ⟨s.t, s.H ++ H1.map (shiftB s.H.length)⟩ (opAt ops i).dst (ren (shf s.H.length) av) = s') (k : RunN P ops Q l s') : RunN P ops Q (i :: l) s := by
  subst hs has
  simp only [Bool.and_eq_true, decide_eq_true_eq] at hc
  have hg : (opAt ops i).guard = none := by
    have h2 := hc.2.1
    split at h2
    · assumption
    · cases h2
  refine runN_op (opAt_get hc.1) (wanted_none hg) ?_
  refine OpB.opV (op_callw (callOf_run ha hc.2.2) fun p w vals hH hva => ?_)
  refine (CallsV.lendR (args := .sl id 0 len sz :: rest) h hn hH ?_).mono ?_
  · obtain ⟨vs, hvs⟩ : ∃ vs, vs = vals.toList := ⟨_, rfl⟩
    rw [← hvs] at hva ⊢
    cases vs with
    | nil => exact absurd hva.1 (by simp)
    | cons v vs =>
      have h0 := hva.2 0 (by simp) (by simp)
      have h1 := reads_sl (p1 := ⟨0, fun _ => none, p.x⟩) hb hx (by omega) hH (lends0 hH _) h0
      rw [List.drop_zero] at h1
      refine RepL.cons h1 ⟨by simpa using hva.1, fun j a b => ?_⟩
      have h2 := hva.2 (j + 1) (by simpa using a) (by simpa using b)
      simp only [List.getElem_cons_succ] at h2
      exact h2.noid (lends0 hH (fun _ => true)).M (List.all_eq_true.1 hr _ (List.getElem_mem b))
  · rintro e w' ⟨v, p', h1, h2, h3, h4, h5⟩
    exact ⟨v, _, _, p', h1, k, h2, h3, h4, h5⟩
/-- a call by its contract, that has no block of the run's own -/
theorem g_callb (f : FuncId) (as' : List AV) (x : AV) (Bs : List Blk) {i : Nat} (listed' : Array Bool) (s' : St) (hc : (decide (i < ops.size) && (callable P f && (match calls (opAt ops i) with | some g => g == f | none => false))) = true) (ha : (callArgs (opAt ops i)).map s.ev = as') (hn : as'.all noid1 = true)
    (hs : St.put ⟨s.t, s.H ++ Bs.map (shiftB s.H.length)⟩ (opAt ops i).dst (ren (shf s.H.length) x) = s') (hl : listed.setIfInBounds i true = listed') (h : CallsV P f as' [] fun a b => a = x ∧ b = Bs) (k : RunT P ops Q (quietB qc ops) n0 m listed' s') : GoT qc P Q ops n0 m listed s i := by
  subst ha hs hl
  simp only [Bool.and_eq_true, decide_eq_true_eq] at hc
  obtain ⟨h1, h2, h3⟩ := hc
  have h4 : calls (opAt ops i) = some f := by
    split at h3
    · rename_i g hg; rw [hg]; simp only [beq_iff_eq] at h3; rw [h3]
    · cases h3
  obtain ⟨h5, ts, h6⟩ := calls_spec h4
  refine ⟨_, opAt_get h1, Or.inl ⟨by unfold wantG; rw [h5], Or.inr (op_callB h6 h2 (by simpa using hn) ?_)⟩⟩
  refine (show CallsV P f ((callArgs (opAt ops i)).toArray.toList.map s.ev) [] _ from by simpa using h).mono ?_
  rintro a b ⟨rfl, rfl⟩
  exact k
/-- the same in a region where nothing is turned -/
theorem d_callb (i f : Nat) (as' : List AV) (x : AV) (Bs : List Blk) (m : Nat) (listed' : Array Bool) (s' : St) {n : Nat} {listed : Array Bool} (hn : m + 1 = n) (hr : Region.ready .any ops listed = [i]) (hc : (decide (i < ops.size) && (callable P f && (match calls (opAt ops i) with | some g => g == f | none => false))) = true) (ha : (callArgs (opAt ops i)).map s.ev = as') (hnid : as'.all noid1 = true)
    (hs : St.put ⟨s.t, s.H ++ Bs.map (shiftB s.H.length)⟩ (opAt ops i).dst (ren (shf s.H.length) x) = s') (hl : listed.setIfInBounds i true = listed') (h : CallsV P f as' [] fun a b => a = x ∧ b = Bs) (k : RunD P ops Q m listed' s') : RunD P ops Q n listed s := by
  subst hn ha hs hl
  simp only [Bool.and_eq_true, decide_eq_true_eq] at hc
  obtain ⟨h1, h2, h3⟩ := hc
  have h4 : calls (opAt ops i) = some f := by
    split at h3
    · rename_i g hg; rw [hg]; simp only [beq_iff_eq] at h3; rw [h3]
    · cases h3
  obtain ⟨h5, ts, h6⟩ := calls_spec h4
  refine runD_one i (opAt_get h1) hr (wanted_none h5) (op_callB h6 h2 (by simpa using hnid) ?_)
  refine (show CallsV P f ((callArgs (opAt ops i)).toArray.toList.map s.ev) [] _ from by simpa using h).mono ?_
  rintro a b ⟨rfl, rfl⟩
  exact k
theorem op_lendo {o : Oper} {f : FuncId} {id len sz : Nat} {t : TypeId} {xs rest : List AV} {av : AV} {H1 : List Blk} {R : AV → List Blk → Prop} (hcl : callable P f = true) (ha : callOf s.ev o.op = some (f, .sl id 0 len sz :: rest)) (hb : s.H[id]? = some (.row t xs)) (hx : ∀ x ∈ xs, noid0 x = true ∧ x ≠ .junk) (hl : len * sz ≤ xs.length) (hr : rest.all noid1 = true)
    (h : CallsV P f (.slv len sz (xs.take (len * sz)) :: rest) [] fun a b => a = av ∧ b = H1) (hn : (novR av && H1.all novB) = true) (k : R (ren (shf s.H.length) av) (s.H ++ H1.map (shiftB s.H.length))) : OpB P o s R := by
  refine op_callw (callOf_run ha hcl) fun p w vals hH hva => ?_
  refine (CallsV.lendR (args := .sl id 0 len sz :: rest) h hn hH ?_).mono ?_
  · obtain ⟨vs, hvs⟩ : ∃ vs, vs = vals.toList := ⟨_, rfl⟩
    rw [← hvs] at hva ⊢
    cases vs with
    | nil => exact absurd hva.1 (by simp)
    | cons v vs =>
      have h0 := hva.2 0 (by simp) (by simp)
      have h1 := reads_sl (p1 := ⟨0, fun _ => none, p.x⟩) hb hx (by omega) hH (lends0 hH _) h0
      rw [List.drop_zero] at h1
      refine RepL.cons h1 ⟨by simpa using hva.1, fun j a b => ?_⟩
      have h2 := hva.2 (j + 1) (by simpa using a) (by simpa using b)
      simp only [List.getElem_cons_succ] at h2
      exact h2.noid (lends0 hH (fun _ => true)).M (List.all_eq_true.1 hr _ (List.getElem_mem b))
  · rintro e w' ⟨v, p', h1, h2, h3, h4, h5⟩
    exact ⟨v, _, _, p', h1, k, h2, h3, h4, h5⟩
/-- a call by its contract, its first argument being an own row of plain cells, that is lent; in a region where nothing is turned -/
theorem d_lendo (i f : Nat) (id len sz : Nat) (t : TypeId) (xs rest : List AV) (as0 av : AV) (H1 : List Blk) (m : Nat) (listed' : Array Bool) (s' : St) {n : Nat} {listed : Array Bool} (hn : m + 1 = n) (hr : Region.ready .any ops listed = [i]) (hc : (decide (i < ops.size) && ((match (opAt ops i).guard with | none => true | _ => false) && callable P f)) = true)
    (ha : callOf s.ev (opAt ops i).op = some (f, .sl id 0 len sz :: rest)) (hb : s.H[id]? = some (.row t xs)) (hx : ∀ x ∈ xs, noid0 x = true ∧ x ≠ .junk) (hl : len * sz ≤ xs.length) (hrs : rest.all noid1 = true)
    (has : as0 = .slv len sz (xs.take (len * sz))) (h : CallsV P f (as0 :: rest) [] fun a b => a = av ∧ b = H1) (hnv : (novR av && H1.all novB) = true)
    (hs : St.put ⟨s.t, s.H ++ H1.map (shiftB s.H.length)⟩ (opAt ops i).dst (ren (shf s.H.length) av) = s') (hli : listed.setIfInBounds i true = listed') (k : RunD P ops Q m listed' s') : RunD P ops Q n listed s := by
  subst hn hs has hli
  simp only [Bool.and_eq_true, decide_eq_true_eq] at hc
  have hg : (opAt ops i).guard = none := by
    have h2 := hc.2.1
    split at h2
    · assumption
    · cases h2
  exact runD_one i (opAt_get hc.1) hr (wanted_none hg) (op_lendo hc.2.2 ha hb hx hl hrs h hnv k)
/-- a row that nobody writes any more; two slots lead to it -/
theorem rst_frz2 {p : Pl} {s : St} {a : Act} {w : World} (h : Rst p s a w) (i j id st len sz : Nat) (t : TypeId) (xs : List AV) (hi : s.t[i]? = some (.sl id st len sz)) (hj : s.t[j]? = some (.sl id st len sz)) (hb : s.H[id]? = some (.row t xs)) (hn : ∀ x ∈ xs, noid0 x = true ∧ x ≠ .junk) (hl : st + len * sz ≤ xs.length) :
    ∃ p', Rst p' ⟨(s.t.set i (.slv len sz ((xs.drop st).take (len * sz)))).set j (.slv len sz ((xs.drop st).take (len * sz))), s.H.set id .dead⟩ a w ∧ Step p w p' w := by
  obtain ⟨p1, hR1, hS1⟩ := h.freeze i id st len sz t xs hi hb hn hl
  refine ⟨p1, ⟨hR1.defers, ⟨?_, fun k h1 h2 => ?_⟩, hR1.heap⟩, hS1⟩
  · have := hR1.reps.1; simpa using this
  · rw [List.getElem_set]
    split
    · rename_i he
      subst he
      -- the same value lies in both slots
      obtain ⟨hil, hie⟩ := List.getElem?_eq_some_iff.1 hi
      obtain ⟨hjl, hje⟩ := List.getElem?_eq_some_iff.1 hj
      have hvj := h.reps.2 j h1 hjl
      rw [hje] at hvj
      -- by the same lemma at slot j
      obtain ⟨p2, hR2, _⟩ := h.freeze j id st len sz t xs hj hb hn hl
      have h3 := hR2.reps.2 j h1 (by simpa using hjl)
      simp only [List.getElem_set_self] at h3
      have hpl : ∀ g, p1.M g → p.M g := fun g hg => by
        rcases hg with ⟨q, hq⟩ | hx
        · rcases Nat.lt_or_ge g w.heap.size with hlt | hge
          · exact Or.inl (hS1.old g hlt ⟨q, hq⟩)
          · have := hR1.heap.lt g ⟨q, hq⟩; omega
        · exact Or.inr (hS1.x ▸ hx)
      have hdead : p1.at_ id = none := by
        have hlt : id < (s.H.set id Blk.dead).length := by simpa using (List.getElem?_eq_some_iff.1 hb).1
        have := hR1.heap.blk id hlt
        simp only [List.getElem_set_self] at this
        exact this
      -- directly
      obtain ⟨q, hq⟩ := h.heap.live hb
      obtain ⟨ad, cap, hve, hcap, hcm, hsz, hno, ha⟩ := hvj.2 q hq
      have hcl : ((xs.drop st).take (len * sz)).length = len * sz := by simp; omega
      rw [hve]
      refine RepF.rep ?_
      by_cases hc0 : cap = 0
      · have h0 : len = 0 := by omega
        subst h0
        have ho : ad = some (ad.getD ⟨0, 0, none⟩) ∨ (ad = none ∧ cap = 0) := by
          cases ad with
          | none => exact Or.inr ⟨rfl, hno rfl⟩
          | some ad => exact Or.inl rfl
        exact .slv ad _ 0 cap sz _ (fun _ => undef) ho hcl hcap hcm hsz (fun i hi => absurd hi (by simp)) (fun i hi => absurd hi (by simp))
      · rcases ha with ha | ⟨g', hg', rfl, hrs⟩
        · exact absurd ha hc0
        · rcases h.heap.row hb with ⟨h5, _⟩ | ⟨g, cur, h5, h6, h7, h8⟩
          · rw [hq] at h5; cases h5; cases hg'
          · rw [hq] at h5; cases h5; cases hg'
            have hgl : g' < w.heap.size := (Array.getElem?_eq_some_iff.1 h6).1
            have hnot : ¬ p1.M g' := fun hm => by
              rcases hm with ⟨q', hq'⟩ | hx
              · rcases Nat.lt_or_ge q' p.n with hlt | hge
                · have h9 := (hS1.keep q' _ hlt hq').1
                  have := h.heap.inj _ _ _ h9 hq
                  subst this
                  rw [hdead] at hq'; cases hq'
                · have hn1 : p1.n = p.n := by rw [hR1.heap.n, h.heap.n]; simp
                  rw [hR1.heap.out q' (by omega)] at hq'; cases hq'
              · exact (h.heap.xs g' (hS1.x ▸ hx)).2 ⟨id, hq⟩
            refine .slv _ ⟨g', st, none⟩ len cap sz _ (fun i => (cur[st + i]?).getD undef) (Or.inl rfl) hcl hcap hcm hsz (fun i hi => ?_) (fun i hi => ?_)
            · obtain ⟨u, hu1, hu2⟩ := h8 (st + i) (by omega)
              refine ⟨rfl, hgl, hnot, ?_, ?_⟩
              · rw [cell_of_row w g' _ cur t (0, 0) h6, hu1]; rfl
              · rw [hu1]; exact hu2.1
            · obtain ⟨u, hu1, hu2⟩ := h8 (st + i) (by omega)
              rw [hu1, getD_get _ _ hi]
              simp only [List.getElem_take, List.getElem_drop]
              obtain ⟨k1, k2⟩ := hn _ (List.getElem_mem (show st + i < xs.length by omega))
              exact repF_anti hpl (RepC.toF hu2.2 k1 k2)
    · rename_i he
      exact hR1.reps.2 k h1 (by simpa using h2)
theorem n_frz2 {l : List Nat} (i j id st len sz : Nat) (t : TypeId) (xs : List AV) (hi : s.t[i]? = some (.sl id st len sz)) (hj : s.t[j]? = some (.sl id st len sz)) (hb : s.H[id]? = some (.row t xs)) (hn : ∀ x ∈ xs, noid0 x = true ∧ x ≠ .junk) (hl : st + len * sz ≤ xs.length)
    (k : RunN P ops Q l ⟨(s.t.set i (.slv len sz ((xs.drop st).take (len * sz)))).set j (.slv len sz ((xs.drop st).take (len * sz))), s.H.set id .dead⟩) : RunN P ops Q l s := RunN.weaken k fun p a w hR => rst_frz2 hR i j id st len sz t xs hi hj hb hn hl
end
end Go.Proofs.Ytcmbhebgpboepaa.V
