/-
  The logic of values: whole regions, step by step, with the states written out. Over any program.
-/
import Derived.Test.YtcmbhebgpboepaaVl
namespace Go.Proofs.Ytcmbhebgpboepaa.V
open Go Go.RowKit
set_option linter.unusedSimpArgs false
set_option linter.unusedVariables false

/-- a state of n slots, those that matter written out -/
def lk (i : Nat) : List (Nat × AV) → AV
  | [] => .junk
  | (j, x) :: r => bif j == i then x else lk i r
def stOf (n : Nat) (l : List (Nat × AV)) (H : List Blk) : St := ⟨(List.range n).map fun i => lk i l, H⟩
section
variable {P : Program} {s s' : St} {Q : Exit → St → Prop} {c : Code} {ops : Array Oper} {l l' : List Nat}
theorem q_sel (ks : List Nat) (s' : St) (h : selS ks s = s') (k : WpV P c Q s') : WpV P c Q s := WpV.weaken (h ▸ k) fun p _ _ hR => ⟨p, hR.sel ks, Step.refl _ _⟩
theorem n_sel (ks : List Nat) (s' : St) (h : selS ks s = s') (k : RunN P ops Q l s') : RunN P ops Q l s := RunN.weaken (h ▸ k) fun p _ _ hR => ⟨p, hR.sel ks, Step.refl _ _⟩
/-- a slot's value, written otherwise -/
theorem q_set (i : Nat) (x y : AV) (hx : s.t.getD i .junk = x) (h : x = y) (k : WpV P c Q ⟨s.t.set i y, s.H⟩) : WpV P c Q s := WpV.weaken k fun p w _ hR => ⟨p, hR.set i y (fun v hv => by rw [hx, h] at hv; exact hv), Step.refl _ _⟩
theorem n_set (i : Nat) (x y : AV) (hx : s.t.getD i .junk = x) (h : x = y) (k : RunN P ops Q l ⟨s.t.set i y, s.H⟩) : RunN P ops Q l s := RunN.weaken k fun p w _ hR => ⟨p, hR.set i y (fun v hv => by rw [hx, h] at hv; exact hv), Step.refl _ _⟩

/-! ### what follows -/
theorem k_then {y : Code} (k : WpV P y Q s) : thenV P y Q .normal s := k
theorem k_thenx {y : Code} {i : Nat} (k : Q (.exit i) s) : thenV P y Q (.exit i) s := k
theorem k_thenr {y : Code} (k : Q .ret s) : thenV P y Q .ret s := k
theorem k_block {i : Nat} (k : Q .normal s) : blockV i Q .normal s := k
theorem k_blockx {i j : Nat} (h : j = i) (k : Q .normal s) : blockV i Q (.exit j) s := by subst h; simp [blockV, k]
theorem k_blocky {i j : Nat} (h : (j == i) = false) (k : Q (.exit j) s) : blockV i Q (.exit j) s := by
  have : j ≠ i := by simpa using h
  simp [blockV, this, k]
theorem k_blockr {i : Nat} (k : Q .ret s) : blockV i Q .ret s := k
theorem k_loop {I : Nat → St → Prop} {ks : List Nat} {n : Nat} (m : Nat) (h : m < n) (k : I m (selS ks s)) : loopV I ks n Q .normal s := ⟨m, h, k⟩
theorem k_loopx {I : Nat → St → Prop} {ks : List Nat} {n i : Nat} (k : Q (.exit i) s) : loopV I ks n Q (.exit i) s := k
theorem k_loopr {I : Nat → St → Prop} {ks : List Nat} {n : Nat} (k : Q .ret s) : loopV I ks n Q .ret s := k
theorem k_fin {rs : List ResultVar} {n0 : Nat} {R : AV → List Blk → Prop} (C : Prop) (av : AV) (keep : List Nat) (H' : List Blk) (av' : AV) (hC : allP (resL P s rs).1 = C) (hav : packE (resL P s rs).2 = av) (hren : ren (idxK keep) av = av') (hok : C) (hk : KeepOK n0 keep s.H H') (hr : R av' H') : bodyV P rs n0 R .ret s := by
  subst hC hav hren
  exact ⟨hok, keep, H', hk, hr⟩
theorem k_finn {rs : List ResultVar} {n0 : Nat} {R : AV → List Blk → Prop} (k : bodyV P rs n0 R .ret s) : bodyV P rs n0 R .normal s := k

/-! ### regions -/
def opAt (ops : Array Oper) (i : Nat) : Oper := (ops[i]?).getD default
def bytesT (P : Program) (e : TypeId) : Nat := match P.info? e with | some i => i.bytes | none => 0
/-- an operation that needs no call: what is asked, its value, the blocks behind it -/
def eff1 (P : Program) (ops : Array Oper) (s : St) (o : Oper) : List Prop × AV × List Blk :=
  match o.guard, o.op with
  | none, .box t x => match cellsAV s.H (s.ev x) with
    | some cs => ([], .ptr s.H.length 0, s.H ++ [.row t cs])
    | none => ([False], .junk, s.H)
  | none, .alloc t => match zeroL P t with
    | some cs => ([], .ptr s.H.length 0, s.H ++ [.row t cs])
    | none => ([False], .junk, s.H)
  | none, .store t x y => match s.ev x, cellsAV s.H (s.ev y) with
    | .ptr id off, some cs => match s.H[id]? with
      | some (.row t' xs) => (dec (knownT P t && sizeT P t == cs.length) ++ [off + cs.length ≤ xs.length], .junk, s.H.set id (.row t' (xs.take off ++ cs ++ xs.drop (off + cs.length))))
      | _ => ([False], .junk, s.H)
    | _, _ => ([False], .junk, s.H)
  | none, .buildSlice t len parts => match sliceLitE P s.H s.ev (elemTy P t) len parts with
    | some ds => (dec (elT P t (elemTy P t) (sizeT P (elemTy P t)) (bytesT P (elemTy P t)) && (knownT P (elemTy P t) && (decide (len * sizeT P (elemTy P t) ≤ 16777216) && ds.length == len * sizeT P (elemTy P t)))), .sl s.H.length 0 len (sizeT P (elemTy P t)), s.H ++ [.row (elemTy P t) ds])
    | none => ([False], .junk, s.H)
  | _, _ => match pure1 P ops s o with | (c, x) => (c, x, s.H)
theorem eff1_ok {o : Oper} (i : Nat) (ho : ops[i]? = some o) (hok : allP (eff1 P ops s o).1) (h : RunN P ops Q l (St.put ⟨s.t, (eff1 P ops s o).2.2⟩ o.dst (eff1 P ops s o).2.1)) : RunN P ops Q (i :: l) s := by
  unfold eff1 at hok h
  split at hok
  · rename_i t x hg hop
    simp only [hg, hop] at h
    split at hok
    · rename_i cs hc
      simp only [hc] at h
      exact runN_op ho (wanted_none hg) (op_box hop hc h).opV
    · exact hok.elim
  · rename_i t hg hop
    simp only [hg, hop] at h
    split at hok
    · rename_i cs hc
      simp only [hc] at h
      exact runN_op ho (wanted_none hg) (op_alloc hop hc h).opV
    · exact hok.elim
  · rename_i t x y hg hop
    simp only [hg, hop] at h
    split at hok
    · rename_i id off cs hx hy
      simp only [hx, hy] at h
      split at hok
      · rename_i t' xs hb
        simp only [hb] at h
        rw [allP_append, allP_dec] at hok
        simp only [Bool.and_eq_true, beq_iff_eq] at hok
        exact runN_op ho (wanted_none hg) (op_store hop hx hb hy hok.1 hok.2 h)
      · exact hok.elim
    · exact hok.elim
  · rename_i t len parts hg hop
    simp only [hg, hop] at h
    split at hok
    · rename_i ds hd
      simp only [hd] at h
      rw [allP_dec] at hok
      simp only [Bool.and_eq_true, beq_iff_eq] at hok
      exact runN_op ho (wanted_none hg) (op_sliceLit hop hok.1 hok.2.1 hd hok.2.2.1 hok.2.2.2 h).opV
    · exact hok.elim
  · rename_i hn1 hn2 hn3 hn4
    have h' : RunN P ops Q l (s.put o.dst (pure1 P ops s o).2) := by
      revert h
      split <;> intro h
      · rename_i t x hg hop; exact (hn1 _ _ hg hop).elim
      · rename_i t hg hop; exact (hn2 _ hg hop).elim
      · rename_i t x y hg hop; exact (hn3 _ _ _ hg hop).elim
      · rename_i t n ps hg hop; exact (hn4 _ _ _ hg hop).elim
      · exact h
    have hok' : allP (pure1 P ops s o).1 := hok
    unfold pure1 at hok' h'
    split at hok'
    · rename_i hg
      simp only [hg] at h'
      exact runN_op ho (wanted_none hg) ((pureE_ok rfl hok').opV h')
    · rename_i g hg
      simp only [hg] at h'
      split at hok'
      · rename_i b hb
        simp only [hb] at h'
        exact runN_guard ho hb hok' h'
      · exact hok'.elim
def effN (P : Program) (ops : Array Oper) : Nat → List Nat → St → List Prop × List Nat × St
  | 0, l, s => ([], l, s)
  | _ + 1, [], s => ([False], [], s)
  | n + 1, i :: l, s => match ops[i]? with
    | none => ([False], [], s)
    | some o => match eff1 P ops s o with
      | (c, x, H) => match effN P ops n l (St.put ⟨s.t, H⟩ o.dst x) with | (d, r) => (c ++ d, r)
theorem effN_ok : ∀ (n : Nat) (l : List Nat) (s : St), allP (effN P ops n l s).1 → RunN P ops Q (effN P ops n l s).2.1 (effN P ops n l s).2.2 → RunN P ops Q l s
  | 0, _, _, _, h => h
  | n + 1, [], s, hc, _ => hc.elim
  | n + 1, i :: l, s, hc, h => by
    unfold effN at hc h
    split at hc
    · exact hc.elim
    · rename_i o ho
      simp only [ho] at h
      obtain ⟨hc1, hc2⟩ := allP_append.1 hc
      exact eff1_ok i ho hc1 (effN_ok n l _ hc2 h)
/-- k operations without calls -/
theorem n_run (k : Nat) (C : Prop) (l' : List Nat) (s' : St) (h0 : (effN P ops k l s).2 = (l', s')) (hC : allP (effN P ops k l s).1 = C) (hok : C) (h : RunN P ops Q l' s') : RunN P ops Q l s := by
  subst hC
  exact effN_ok k l s hok (by rw [h0]; exact h)
theorem n_done (h : Q .normal s) : RunN P ops Q [] s := runN_done h
/-- a whole region without calls -/
theorem q_run (C : Prop) (ks : List Nat) (s' : St) (h : kd c = 1) (h0 : selS ks (effN P (cO c) (cO c).size (List.range (cO c).size) s).2.2 = s') (hl : (effN P (cO c) (cO c).size (List.range (cO c).size) s).2.1 = []) (hC : allP (effN P (cO c) (cO c).size (List.range (cO c).size) s).1 = C) (hok : C) (k : Q .normal s') : WpV P c Q s := by
  subst hC
  refine q_reg h (effN_ok _ _ _ hok ?_)
  rw [hl]
  refine n_sel ks s' h0 (n_done k)
/-- is the operation an unguarded call of f? -/
def isCall (o : Oper) (f : FuncId) (xs : List Operand) : Bool := match o.guard, o.op with
  | none, .call ⟨.value (.func g), ys, _⟩ => g == f && (ys.toList.length == xs.length && (ys.toList.zip xs).all fun q => match q with | (.tmp a, .tmp b) => a == b | _ => false)
  | _, _ => false
def callArgs (o : Oper) : List Operand := match o.op with | .call ⟨_, ys, _⟩ => ys.toList | _ => []
def calls (o : Oper) : Option FuncId := match o.guard, o.op with
  | none, .call ⟨.value (.func g), _, _⟩ => some g
  | _, _ => none
theorem calls_spec {o : Oper} {f : FuncId} (h : calls o = some f) : o.guard = none ∧ ∃ ts, o.op = .call ⟨.value (.func f), (callArgs o).toArray, ts⟩ := by
  unfold calls at h
  split at h
  · rename_i g ys ts hg hop
    cases h
    refine ⟨hg, ts, ?_⟩
    unfold callArgs
    rw [hop]
  · cases h
theorem opAt_get {i : Nat} (h : i < ops.size) : ops[i]? = some (opAt ops i) := by
  unfold opAt
  rw [Array.getElem?_eq_getElem h]
  rfl
/-- a call, by its contract -/
theorem n_call (f : FuncId) (as' : List AV) {R : AV → List Blk → Prop} {i : Nat} (hc : (decide (i < ops.size) && (callable P f && (match calls (opAt ops i) with | some g => g == f | none => false))) = true) (ha : (callArgs (opAt ops i)).map s.ev = as')
    (h : CallsV P f as' s.H R) (k : ∀ av H', R av H' → RunN P ops Q l (St.put ⟨s.t, H'⟩ (opAt ops i).dst av)) : RunN P ops Q (i :: l) s := by
  simp only [Bool.and_eq_true, decide_eq_true_eq] at hc
  obtain ⟨h1, h2, h3⟩ := hc
  have h4 : calls (opAt ops i) = some f := by
    split at h3
    · rename_i g hg; rw [hg]; simp only [beq_iff_eq] at h3; rw [h3]
    · cases h3
  obtain ⟨h5, ts, h6⟩ := calls_spec h4
  subst ha
  exact runN_op (opAt_get h1) (wanted_none h5) (op_call h6 h2 (by simpa using h.mono fun av H' hr => k av H' hr))
/-- a call that has no block of the run's own -/
theorem n_callq (f : FuncId) (as' : List AV) {R : AV → List Blk → Prop} {i : Nat} (hc : (decide (i < ops.size) && (callable P f && (match calls (opAt ops i) with | some g => g == f | none => false))) = true) (ha : (callArgs (opAt ops i)).map s.ev = as') (hn : as'.all noid1 = true)
    (h : CallsV P f as' [] R) (k : ∀ av H', R av H' → RunN P ops Q l (St.put ⟨s.t, s.H ++ H'.map (shiftB s.H.length)⟩ (opAt ops i).dst (ren (shf s.H.length) av))) : RunN P ops Q (i :: l) s := by
  simp only [Bool.and_eq_true, decide_eq_true_eq] at hc
  obtain ⟨h1, h2, h3⟩ := hc
  have h4 : calls (opAt ops i) = some f := by
    split at h3
    · rename_i g hg; rw [hg]; simp only [beq_iff_eq] at h3; rw [h3]
    · cases h3
  obtain ⟨h5, ts, h6⟩ := calls_spec h4
  subst ha
  exact runN_op (opAt_get h1) (wanted_none h5) (op_callB h6 h2 (by simpa using hn) (by simpa using h.mono fun av H' hr => k av H' hr)).opV
theorem ren0_noid {f : Nat → Option Nat} {x : AV} (h : noid0 x = true) (hf : ∀ a b c, x ≠ .fn a b c) : ren0 f x = x := by
  cases x <;> first | rfl | (simp [noid0] at h; done) | exact absurd rfl (hf _ _ _)
def plain0 : AV → Bool | .fn _ _ _ => false | x => noid0 x
def plain1 : AV → Bool | .agg cs => cs.all plain0 | .fn _ _ _ => false | .cnd _ _ => false | x => noid0 x
def plain2 : AV → Bool | .tuple vs => vs.all plain1 | x => plain1 x
theorem ren0_plain {f : Nat → Option Nat} {x : AV} (h : plain0 x = true) : ren0 f x = x := by
  cases x <;> first | rfl | (simp [plain0, noid0] at h; done)
theorem map_id_of {g : AV → AV} : ∀ (l : List AV), (∀ x ∈ l, g x = x) → l.map g = l
  | [], _ => rfl
  | a :: r, h => by rw [List.map_cons, h a (List.mem_cons_self), map_id_of r fun x hx => h x (List.mem_cons_of_mem _ hx)]
theorem ren1_plain {f : Nat → Option Nat} {x : AV} (h : plain1 x = true) : ren1 f x = x := by
  cases x
  case agg cs =>
    simp only [plain1, List.all_eq_true] at h
    simp only [ren1]
    rw [map_id_of cs fun x hx => ren0_plain (h x hx)]
  all_goals first | rfl | (simp [plain1, noid0] at h; done)
theorem ren_plain {f : Nat → Option Nat} {x : AV} (h : plain2 x = true) : ren f x = x := by
  cases x
  case tuple vs =>
    simp only [plain2, List.all_eq_true] at h
    simp only [ren, renP]
    rw [map_id_of vs fun x hx => ren1_plain (h x hx)]
  case agg cs => exact ren1_plain (x := .agg cs) h
  all_goals first | rfl | (simp [plain2, plain1, noid0] at h; done)
theorem noid1_plain2 {x : AV} (h : plain1 x = true) : notCnd x = true := by cases x <;> first | rfl | (simp [plain1] at h)
/-- is it a call of f, under a guard or not? -/
def callsG (o : Oper) : Option FuncId := match o.op with
  | .call ⟨.value (.func g), _, _⟩ => some g
  | _ => none
theorem callsG_spec {o : Oper} {f : FuncId} (h : callsG o = some f) : ∃ ts, o.op = .call ⟨.value (.func f), (callArgs o).toArray, ts⟩ := by
  unfold callsG at h
  split at h
  · rename_i g ys ts hop
    cases h
    refine ⟨ts, ?_⟩
    unfold callArgs
    rw [hop]
  · cases h
/-- a call with a plain result, that has no block of the run's own -/
theorem n_callp (f : FuncId) (as' : List AV) (x : AV) {i : Nat} (s' : St) (hc : (decide (i < ops.size) && (callable P f && (match calls (opAt ops i) with | some g => g == f | none => false))) = true) (ha : (callArgs (opAt ops i)).map s.ev = as') (hn : (as'.all noid1 && plain2 x) = true)
    (hs : s.put (opAt ops i).dst x = s') (h : CallsV P f as' [] fun av H' => av = x ∧ H' = []) (k : RunN P ops Q l s') : RunN P ops Q (i :: l) s := by
  simp only [Bool.and_eq_true] at hn
  refine n_callq f as' hc ha hn.1 h ?_
  rintro av H' ⟨rfl, rfl⟩
  rw [ren_plain hn.2, List.map_nil, List.append_nil]
  subst hs
  exact k
theorem n_callg (f : FuncId) (as' : List AV) (x : AV) (g : Bool) {i : Nat} (s' : St) (hc : (decide (i < ops.size) && (callable P f && (match callsG (opAt ops i) with | some g => g == f | none => false))) = true) (hg : guardE ops s (opAt ops i) = some g) (ha : (callArgs (opAt ops i)).map (evG s (callArgs (opAt ops i))) = as') (hn : (as'.all noid1 && plain1 x) = true)
    (hs : s.put (opAt ops i).dst (.cnd g x) = s') (C : Prop) (hC : allP (there s.ev (callArgs (opAt ops i))) = C) (ht : g = true → C) (h : g = true → CallsV P f as' [] fun av H' => av = x ∧ H' = []) (k : RunN P ops Q l s') : RunN P ops Q (i :: l) s := fun p w a Qr hR hQ => by
  subst hC ha hs
  simp only [Bool.and_eq_true, decide_eq_true_eq] at hc hn
  obtain ⟨h1, h2, h3⟩ := hc
  have h4 : callsG (opAt ops i) = some f := by
    split at h3
    · rename_i g' hg'; rw [hg']; simp only [beq_iff_eq] at h3; rw [h3]
    · cases h3
  obtain ⟨ts, h6⟩ := callsG_spec h4
  rw [wpOps_cons]
  unfold wpOp
  rw [opAt_get h1]
  simp only [guardE_wanted hg hR]
  cases g with
  | true =>
    simp only [if_true]
    refine Or.inl ?_
    have hrun : (execOp a.eval (opAt ops i)).run P w = .ok (.enter f ((callArgs (opAt ops i)).toArray.map a.eval)) w := by
      unfold execOp
      rw [h6]
      simp [resolve, invoke, Act.eval, Deferred.ofValue, run_callFunc h2]
    unfold Oper.wp
    rw [hrun, Oper.upon_enter]
    have hreps : RepL (Rep p w) ((callArgs (opAt ops i)).toArray.map a.eval).toList ((callArgs (opAt ops i)).map (evG s (callArgs (opAt ops i)))) :=
      ⟨by simp, fun j e1 e2 => by
        have := evG_rep (ht rfl) hR ((callArgs (opAt ops i))[j]'(by simpa using e2))
        simpa using this⟩
    refine ((h rfl).frame (fun y hy => List.all_eq_true.1 hn.1 y hy) hR.heap hreps).mono ?_
    rintro e w' ⟨v, av, H', p', rfl, ⟨rfl, rfl⟩, b1, b2, b3, b4⟩
    have hp2 : plain2 av = true := by cases av <;> first | exact hn.2 | (have := hn.2; simp [plain1, noid0] at this)
    rw [ren_plain hp2] at b2
    rw [List.map_nil, List.append_nil] at b1
    exact k p' w' _ Qr (Rst.put (hR.step b3 b1) _ ⟨fun _ => notCnd_repT b2 (noid1_plain2 hn.2), fun h => by cases h⟩) fun e s2 p2 a2 w2 q r kk => hQ e s2 p2 a2 w2 q r (b3.trans kk)
  | false =>
    simp only [Bool.false_eq_true, if_false]
    exact k p w _ Qr (hR.put _ ⟨fun h => (by cases h), fun _ => rfl⟩) hQ
end
end Go.Proofs.Ytcmbhebgpboepaa.V
