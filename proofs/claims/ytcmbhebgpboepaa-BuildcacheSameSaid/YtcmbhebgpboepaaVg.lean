/-
  The logic of values: the operations of a region, one by one. Over any program.
-/
import Derived.Test.YtcmbhebgpboepaaVf
namespace Go.Proofs.Ytcmbhebgpboepaa.V
open Go Go.RowKit
set_option linter.unusedSimpArgs false
set_option linter.unusedVariables false

/-! ### all reading operations in one function -/
def unw : AV → AV | .cnd _ x => x | x => x
/-- where 'c' is 't', the value is there -/
def side (c t : Bool) : AV → List Prop | .cnd g _ => [c = t → g = true] | _ => []
theorem unw_rep {p : Pl} {w : World} {v : Value} {x : AV} (h : Rep p w v x) (hg : ∀ g y, x = .cnd g y → g = true) : Rep p w v (unw x) := by
  cases x
  case cnd g y =>
    have h2 : RepT p w v y := h.1 (hg g y rfl)
    cases y
    case cnd => simp only [RepT, Rep1, Rep0] at h2; cases h2
    all_goals exact h2
  all_goals exact h
def pickE (t : Bool) : AV → AV → AV
  | .bool a, .bool b => .bool (bif t then a else b)
  | .str a, .str b => .str (bif t then a else b)
  | .int k a, .int l b => bif decide (k = l) then .int k (bif t then a else b) else (bif t then .int k a else .int l b)
  | x, y => bif t then x else y
theorem pickE_eq (t : Bool) (x y : AV) : pickE t x y = bif t then x else y := by
  unfold pickE
  split
  · cases t <;> rfl
  · cases t <;> rfl
  · rename_i k a l b
    by_cases h : k = l
    · subst h; cases t <;> simp
    · simp [h]
  · rfl
def pureE (P : Program) (H : List Blk) (ev : Operand → AV) : Op → List Prop × AV
  | .move x => ([], ev x)
  | .assign x => ([], ev x)
  | .pick c a b => match ev c with | .bool t => (side t true (ev a) ++ side t false (ev b), pickE t (unw (ev a)) (unw (ev b))) | _ => ([False], .junk)
  | .build t parts => match buildE P H ev t parts with | some ds => ([], .agg ds) | none => ([False], .junk)
  | .load t x => match cellsAt H (ev x) with
    | some cs => (dec (knownT P t) ++ [(bif isAggT P t then sizeT P t else 1) ≤ cs.length], loadE P t cs)
    | none => ([False], .junk)
  | .nilCheck x => (dec (liveAddr H (ev x)), ev x)
  | .binOp op t x y _ => binE P H op t (ev x) (ev y)
  | .unOp op _ x => unE op (ev x)
  | .convert a b x => convE P H a b (ev x)
  | .slice t x lo hi none => sliceE P H t (ev x) (lo.map ev) (hi.map ev)
  | .fieldAddr s x f => match fieldOf P s f with
    | some fd => (dec (liveAddr H (ev x) && (knownT P fd.type && sizeT P fd.type != 0)), addAV (ev x) fd.offset)
    | none => ([False], .junk)
  | .field s x f => match fieldOf P s f, ev x with
    | some fd, .agg cs => (dec (knownT P fd.type) ++ [fd.offset < cs.length], partE P fd.type cs fd.offset)
    | _, _ => ([False], .junk)
  | .indexAddr t x i => match ev i with | .int _ n => indexAddrE P H t (ev x) n | _ => ([False], .junk)
  | .index t x i => match P.underlying t, ev x, ev i with
    | some .string, .str s, .int _ n => ([0 ≤ n ∧ n < s.size], .int .u8 (byteAt s n))
    | some (.array len e), .agg cs, .int _ n => ((0 ≤ n ∧ n < len) :: dec (knownT P e) ++ [n.toNat * sizeT P e < cs.length], partE P e cs (n.toNat * sizeT P e))
    | _, _, _ => ([False], .junk)
  | .extract x i => match ev x with | .tuple xs => (dec (decide (i < xs.length)), xs.getD i .junk) | _ => ([False], .junk)
  | .call ⟨.builtin .len, ⟨[x]⟩, ⟨[t]⟩⟩ => lenE P H t (ev x)
  | .call ⟨.builtin .max, ⟨[x, y]⟩, _⟩ => match ev x, ev y with | .int k a, .int _ b => ([], .int k (if b > a then b else a)) | _, _ => ([False], .junk)
  | .call ⟨.builtin .min, ⟨[x, y]⟩, _⟩ => match ev x, ev y with | .int k a, .int _ b => ([], .int k (if b < a then b else a)) | _, _ => ([False], .junk)
  | _ => ([False], .junk)
theorem Rd.run {P : Program} {p : Pl} {w : World} {s : Sem Value} {x : AV} (h : Rd P p w s x) : ∃ v, Rep p w v x ∧ ∀ w', Below w.heap.size w w' → (do pure (Next.value (← s)) : Sem Next).run P w' = .ok (.value v) w' := by
  obtain ⟨v, h1, h2⟩ := h
  exact ⟨v, h1, fun w' hb => by rw [Sem.run_bind, h2 w' hb, Result.andThen_ok]; rfl⟩
theorem pureE_gen {P : Program} {o : Oper} {H : List Blk} {ev : Operand → AV} {op : Op} (ho : o.op = op) (hok : allP (pureE P H ev op).1) {p : Pl} {w : World} {a : Act} (hH : RH p H w) (hev : ∀ x, Rep p w (a.eval x) (ev x)) :
    ∃ v, Rep p w v (pureE P H ev op).2 ∧ ∀ w', Below w.heap.size w w' → (execOp a.eval o).run P w' = .ok (.value v) w' := by
  unfold execOp
  rw [ho]
  unfold pureE at hok ⊢
  split at hok
  · exact ⟨_, hev _, fun w' _ => by simp⟩
  · exact ⟨_, hev _, fun w' _ => by simp⟩
  · rename_i c x y
    split at hok
    · rename_i t ht
      have hc := rep_bool (ht ▸ hev c)
      refine ⟨if t then a.eval x else a.eval y, ?_, fun w' _ => by simp [hc, asBool]⟩
      rw [pickE_eq]
      cases t
      · exact unw_rep (hev y) fun g z hz => by have := (allP_append.1 hok).2; rw [hz] at this; exact this rfl
      · exact unw_rep (hev x) fun g z hz => by have := (allP_append.1 hok).1; rw [hz] at this; exact this rfl
    · exact hok.elim
  · split at hok
    · rename_i ds hd; exact (build_rd hH hev hd).run
    · exact hok.elim
  · split at hok
    · rename_i cs hc
      rw [allP_append, allP_dec] at hok
      exact (load_rd hH (hev _) hc hok.1 hok.2).run
    · exact hok.elim
  · rename_i x
    rw [allP_dec] at hok
    obtain ⟨h1, h2⟩ := liveAddr_spec hH hok
    obtain ⟨ad, hv, _⟩ := add_rep (hev x) h1 h2 0
    exact ⟨_, hev x, fun w' _ => by simp [hv]⟩
  · exact (binE_rd hH (hev _) (hev _) hok).run
  · exact (unE_rd (hev _) hok).run
  · exact (convE_rd hH (hev _) hok).run
  · rename_i t x lo hi
    have e1 : RepO p w (lo.map a.eval) (lo.map ev) := by cases lo <;> first | trivial | exact hev _
    have e2 : RepO p w (hi.map a.eval) (hi.map ev) := by cases hi <;> first | trivial | exact hev _
    exact (sliceE_rd hH (hev _) e1 e2 hok).run
  · split at hok
    · rename_i fd hf
      rw [allP_dec] at hok
      simp only [Bool.and_eq_true, bne_iff_ne] at hok
      exact (fieldAddr_rd hH (hev _) hok.1 hf hok.2.1 hok.2.2).run
    · exact hok.elim
  · rename_i t x f
    split at hok
    · rename_i fd cs hf hx
      rw [allP_append, allP_dec] at hok
      exact (field_rd (hx ▸ hev x) hf hok.1 hok.2).run
    · exact hok.elim
  · rename_i t x i
    split at hok
    · rename_i k n hi
      have e1 : a.eval i = .int k n := rep_int (hi ▸ hev i)
      have h1 := (indexAddr_rd (k := k) hH (hev x) hok).run
      rw [← e1] at h1
      exact h1
    · exact hok.elim
  · rename_i t x i
    split at hok
    · rename_i st k n hu hx hi
      have e1 : a.eval i = .int k n := rep_int (hi ▸ hev i)
      have h1 := (index_str_rd (k := k) (hx ▸ hev x) hu hok).run
      rw [← e1] at h1
      exact h1
    · rename_i len e cs k n hu hx hi
      rw [List.cons_append, allP_cons, allP_append, allP_dec] at hok
      have e1 : a.eval i = .int k n := rep_int (hi ▸ hev i)
      have h1 := (index_agg_rd (k := k) (hx ▸ hev x) hu hok.1 hok.2.1 hok.2.2).run
      rw [← e1] at h1
      exact h1
    · exact hok.elim
  · rename_i x i
    split at hok
    · rename_i xs hx; rw [allP_dec, decide_eq_true_eq] at hok; exact (extract_rd (hx ▸ hev x) hok).run
    · exact hok.elim
  · rename_i x t
    have := (lenE_rd (ty := o.type) hH (hev x) hok).run
    obtain ⟨v, h1, h2⟩ := this
    exact ⟨v, h1, fun w' hb => by have := h2 w' hb; simpa [resolve, invoke, builtin] using this⟩
  · rename_i x y _
    split at hok
    · rename_i k m k' n h1 h2
      have e1 := rep_int (h1 ▸ hev x)
      have e2 := rep_int (h2 ▸ hev y)
      exact ⟨_, mk_int _ _ _ _, fun w' _ => by simp [resolve, invoke, builtin, Builtin.max_, Builtin.max2, e1, e2]⟩
    · exact hok.elim
  · rename_i x y _
    split at hok
    · rename_i k m k' n h1 h2
      have e1 := rep_int (h1 ▸ hev x)
      have e2 := rep_int (h2 ▸ hev y)
      exact ⟨_, mk_int _ _ _ _, fun w' _ => by simp [resolve, invoke, builtin, Builtin.min_, Builtin.min2, e1, e2]⟩
    · exact hok.elim
  · exact hok.elim
theorem pureE_ok {P : Program} {o : Oper} {s : St} {op : Op} (ho : o.op = op) (hok : allP (pureE P s.H s.ev op).1) : PureV P o s (pureE P s.H s.ev op).2 := fun _ _ _ hR => pureE_gen ho hok hR.heap hR.ev
/-! #### operations under a guard -/
def guardE (ops : Array Oper) (s : St) (o : Oper) : Option Bool :=
  match o.guard with
  | none => none
  | some (j, want) => match (ops[j]?).bind (·.dst) with
    | some d => match s.t.getD d .junk with
      | .bool b => some (b == want)
      | .cnd g (.bool b) => some (g && (b == want))
      | _ => none
    | none => none
theorem yielded_of {ops : Array Oper} {a : Act} {j d : Nat} {b : Bool} (hd : (ops[j]?).bind (·.dst) = some d) (hv : a.eval (.tmp d) = .bool b) : yielded ops a.tmps j = some b := by
  have h2 : a.tmps[d]? = some (.bool b) := by
    have h3 : a.tmps.getD d undef = .bool b := hv
    rw [Array.getD_eq_getD_getElem?] at h3
    cases h4 : a.tmps[d]? with
    | none => rw [h4] at h3; cases h3
    | some x => rw [h4] at h3; simpa using h3
  simp only [yielded, hd, Option.bind_some, h2]
/-- the values that an operation looks at are there -/
def there (ev : Operand → AV) : List Operand → List Prop
  | [] => []
  | x :: l => (match ev x with | .cnd g _ => [g = true] | _ => []) ++ there ev l
theorem there_mem {ev : Operand → AV} : ∀ {l : List Operand}, allP (there ev l) → ∀ x ∈ l, ∀ g y, ev x = .cnd g y → g = true
  | [], _, x, hx => by cases hx
  | z :: l, h, x, hx => fun g y he => by
    rcases List.mem_cons.1 hx with rfl | hx
    · have := (allP_append.1 h).1; rw [he] at this; exact this
    · exact there_mem (allP_append.1 h).2 x hx g y he
def hasT (l : List Operand) (i : Nat) : Bool := l.any fun y => match y with | .tmp j => j == i | _ => false
def evG (s : St) (l : List Operand) (x : Operand) : AV := match x with
  | .tmp i => bif hasT l i then unw (s.ev (.tmp i)) else s.ev (.tmp i)
  | x => s.ev x
/-- what an operation looks at in any case -/
def needs : Op → List Operand
  | .pick c _ _ => [c]
  | op => op.operands.toList
theorem hasT_mem {l : List Operand} {i : Nat} (h : hasT l i = true) : .tmp i ∈ l := by
  obtain ⟨y, hy, he⟩ := List.any_eq_true.1 h
  cases y <;> simp at he
  subst he
  exact hy
theorem evG_rep {s : St} {l : List Operand} (ht : allP (there s.ev l)) {p : Pl} {w : World} {a : Act} (hR : Rst p s a w) (x : Operand) : Rep p w (a.eval x) (evG s l x) := by
  cases x with
  | tmp i =>
    simp only [evG]
    cases h : hasT l i with
    | false => exact hR.ev _
    | true => exact unw_rep (hR.ev _) (there_mem ht _ (hasT_mem h))
  | const v => exact hR.ev _
  | func f => exact hR.ev _
  | global g => trivial
theorem guardE_wanted {ops : Array Oper} {s : St} {o : Oper} {g : Bool} (hg : guardE ops s o = some g) {p : Pl} {w : World} {a : Act} (hR : Rst p s a w) : Region.wanted o (yielded ops a.tmps) = g := by
  unfold guardE at hg
  unfold Region.wanted
  split at hg
  · cases hg
  · rename_i j want hgd
    rw [hgd]
    split at hg
    · rename_i d hd
      split at hg
      · rename_i b hb
        cases hg
        have hv0 : Rep p w (a.eval (.tmp d)) (s.t.getD d .junk) := hR.ev (.tmp d)
        rw [hb] at hv0
        have hv := rep_bool hv0
        simp only [yielded_of hd hv]
        cases b <;> cases want <;> rfl
      · rename_i g0 b hb
        cases hg
        have hv : Rep p w (a.eval (.tmp d)) (s.t.getD d .junk) := hR.ev (.tmp d)
        rw [hb] at hv
        cases g0 with
        | true =>
          have h1 : RepT p w (a.eval (.tmp d)) (.bool b) := hv.1 rfl
          have h2 := rep_bool (p := p) (w := w) h1
          simp only [yielded_of hd h2]
          cases b <;> cases want <;> rfl
        | false =>
          have h1 : a.tmps.getD d undef = undef := hv.2 rfl
          have h2 : yielded ops a.tmps j = none := by
            unfold yielded
            rw [hd, Option.bind_some]
            rw [Array.getD_eq_getD_getElem?] at h1
            cases h4 : a.tmps[d]? with
            | none => rfl
            | some x =>
              rw [h4] at h1
              simp only [Option.getD_some] at h1
              subst h1
              rfl
          simp only [h2]
          rfl
      · cases hg
    · cases hg
/-- a reading operation that is carried out only where 'g' holds -/
def notCnd : AV → Bool | .cnd _ _ => false | _ => true
def under (g : Bool) : List Prop → List Prop
  | [] => []
  | c :: l => (g = true → c) :: under g l
theorem under_ok {g : Bool} : ∀ {l : List Prop}, allP (under g l) → g = true → allP l
  | [], _, _ => trivial
  | c :: l, h, hg => by
    unfold under at h
    rw [allP_cons] at h ⊢
    exact ⟨h.1 hg, under_ok h.2 hg⟩
def pureG (P : Program) (s : St) (o : Oper) (g : Bool) : List Prop × AV := match pureE P s.H (evG s (needs o.op)) o.op with
  | (c, x) => (under g (there s.ev (needs o.op) ++ (dec (notCnd x) ++ c)), .cnd g x)
theorem notCnd_repT {p : Pl} {w : World} {v : Value} {x : AV} (h : Rep p w v x) (hn : notCnd x = true) : RepT p w v x := by
  cases x <;> first | exact h | (simp [notCnd] at hn)
theorem runN_guard {P : Program} {Q : Exit → St → Prop} {ops : Array Oper} {i : Nat} {l : List Nat} {o : Oper} {s : St} {g : Bool} (ho : ops[i]? = some o) (hg : guardE ops s o = some g)
    (hok : allP (pureG P s o g).1) (h : RunN P ops Q l (s.put o.dst (pureG P s o g).2)) : RunN P ops Q (i :: l) s := fun p w a Qr hR hQ => by
  rw [wpOps_cons]
  unfold wpOp
  rw [ho]
  simp only [guardE_wanted hg hR]
  cases g with
  | true =>
    simp only [if_true]
    have hok := under_ok hok rfl
    rw [allP_append, allP_append, allP_dec] at hok
    obtain ⟨h1, hnc, h2⟩ := hok
    obtain ⟨v, hv, hrun⟩ := pureE_gen (o := o) rfl h2 hR.heap (evG_rep h1 hR)
    refine Or.inl ?_
    unfold Oper.wp
    rw [hrun w (Below.refl _ _)]
    refine h p w _ Qr (hR.put _ ?_) hQ
    refine ⟨fun _ => ?_, fun h => by cases h⟩
    exact notCnd_repT hv hnc
  | false =>
    simp only [Bool.false_eq_true, if_false]
    exact h p w _ Qr (hR.put _ ⟨fun h => (by cases h), fun _ => rfl⟩) hQ
/-- a run of reading operations -/
def pure1 (P : Program) (ops : Array Oper) (s : St) (o : Oper) : List Prop × AV :=
  match o.guard with
  | none => pureE P s.H s.ev o.op
  | some _ => match guardE ops s o with
    | some g => pureG P s o g
    | none => ([False], .junk)
def pureN (P : Program) (ops : Array Oper) : Nat → List Nat → St → List Prop × St
  | 0, _, s => ([], s)
  | _ + 1, [], s => ([False], s)
  | n + 1, i :: l, s => match ops[i]? with
    | none => ([False], s)
    | some o => match pure1 P ops s o with
      | (c, x) => match pureN P ops n l (s.put o.dst x) with | (d, s') => (c ++ d, s')
theorem wanted_none {ops : Array Oper} {s : St} {o : Oper} (h : o.guard = none) : wanted ops s o = some true := by unfold wanted; rw [h]
theorem runN_pure {P : Program} {Q : Exit → St → Prop} {ops : Array Oper} : ∀ (n : Nat) (l : List Nat) (s : St), allP (pureN P ops n l s).1 → RunN P ops Q (l.drop n) (pureN P ops n l s).2 → RunN P ops Q l s
  | 0, l, s, _, h => h
  | n + 1, [], s, hc, _ => hc.elim
  | n + 1, i :: l, s, hc, h => by
    unfold pureN at hc h
    split at hc
    · exact hc.elim
    · rename_i o ho
      simp only [ho] at h
      obtain ⟨hc1, hc2⟩ := allP_append.1 hc
      have h' := runN_pure n l _ hc2 h
      unfold pure1 at hc1 h'
      split at hc1
      · rename_i hg
        simp only [hg] at h'
        exact runN_op ho (wanted_none hg) ((pureE_ok rfl hc1).opV h')
      · rename_i g hg
        simp only [hg] at h'
        split at hc1
        · rename_i b hb
          simp only [hb] at h'
          exact runN_guard ho hb hc1 h'
        · exact hc1.elim
/-- reading operations of a region that draws its order -/
theorem runD_guard {P : Program} {Q : Exit → St → Prop} {ops : Array Oper} {n : Nat} {listed : Array Bool} {s : St} (i : Nat) {o : Oper} {g : Bool} (ho : ops[i]? = some o)
    (hc : (Region.noSelect ops && (Region.free .any ops listed i && (Region.ready .any ops listed).contains i)) = true) (hg : guardE ops s o = some g) (hok : allP (pureG P s o g).1)
    (h : RunD P ops Q n (listed.setIfInBounds i true) (s.put o.dst (pureG P s o g).2)) : RunD P ops Q (n + 1) listed s := fun p w a K hR hQ => by
  simp only [Bool.and_eq_true] at hc
  cases g with
  | true =>
    have hok := under_ok hok rfl
    rw [allP_append, allP_append, allP_dec] at hok
    obtain ⟨h1, hnc, h2⟩ := hok
    obtain ⟨v, hv, hrun⟩ := pureE_gen (o := o) rfl h2 hR.heap (evG_rep h1 hR)
    exact wpAnyH_take ho hc.1 hc.2.1 hc.2.2 (fun _ _ _ h => (by cases h.1)) (Or.inl ⟨guardE_wanted hg hR, fun w' hw' => hrun w' hw'⟩) (Below.refl _ _) (h p w _ K (hR.put _ ⟨fun _ => notCnd_repT hv hnc, fun h => by cases h⟩) hQ)
  | false =>
    exact wpAnyH_take (v := undef) ho hc.1 hc.2.1 hc.2.2 (fun _ _ _ h => (by cases h.1)) (Or.inr ⟨guardE_wanted hg hR, rfl⟩) (Below.refl _ _) (h p w _ K (hR.put _ ⟨fun h => (by cases h), fun _ => rfl⟩) hQ)
def takeN (P : Program) (ops : Array Oper) : List Nat → Array Bool → St → List Prop × Array Bool × St
  | [], listed, s => ([], listed, s)
  | i :: l, listed, s => match ops[i]? with
    | none => ([False], listed, s)
    | some o => match (Region.noSelect ops && (Region.free .any ops listed i && (Region.ready .any ops listed).contains i)) with
      | false => ([False], listed, s)
      | true => match pure1 P ops s o with
        | (c, x) => match takeN P ops l (listed.setIfInBounds i true) (s.put o.dst x) with | (d, r) => (c ++ d, r)
theorem runD_takes {P : Program} {Q : Exit → St → Prop} {ops : Array Oper} : ∀ (l : List Nat) (m : Nat) (listed : Array Bool) (s : St), allP (takeN P ops l listed s).1 → RunD P ops Q m (takeN P ops l listed s).2.1 (takeN P ops l listed s).2.2 → RunD P ops Q (m + l.length) listed s
  | [], m, listed, s, _, h => h
  | i :: l, m, listed, s, hc, h => by
    unfold takeN at hc h
    split at hc
    · exact hc.elim
    · rename_i o ho
      simp only [ho] at h
      split at hc
      · exact hc.elim
      · rename_i hr
        simp only [hr] at h
        obtain ⟨hc1, hc2⟩ := allP_append.1 hc
        have h' := runD_takes l m _ _ hc2 h
        unfold pure1 at hc1 h'
        split at hc1
        · rename_i hg
          simp only [hg] at h'
          exact runD_take i ho hr (wanted_none hg) (pureE_ok rfl hc1) h'
        · rename_i g hg
          simp only [hg] at h'
          split at hc1
          · rename_i b hb
            simp only [hb] at h'
            exact runD_guard i ho hr hb hc1 h'
          · exact hc1.elim

/-! ### operations that make blocks -/
section
variable {P : Program} {s : St} {o : Oper} {R : AV → List Blk → Prop}
theorem opB_of (hstep : ∀ p w a, Rst p s a w → ∃ v x H' p' w', (execOp a.eval o).run P w = .ok (.value v) w' ∧ R x H' ∧ RH p' H' w' ∧ Rep p' w' v x ∧ Step p w p' w' ∧ Below w.heap.size w w') : OpB P o s R := fun p w a K Q hR hK => by
  obtain ⟨v, x, H', p', w', h1, h2, h3, h4, h5, h6⟩ := hstep p w a hR
  unfold Oper.wp
  rw [h1]
  exact hK v x H' p' w' h2 h3 h4 h5 h6
theorem op_box {t : TypeId} {x : Operand} {cs : List AV} (ho : o.op = .box t x) (hc : cellsAV s.H (s.ev x) = some cs) (h : R (.ptr s.H.length 0) (s.H ++ [.row t cs])) : OpB P o s R := opB_of fun p w a hR => by
  obtain ⟨h1, h2, h3⟩ := alloc_ok hR.heap (a.eval x).cells t cs (cells_rep hR.heap (hR.ev x) hc)
  refine ⟨_, _, _, _, _, ?_, h, h1, ptr_new hR.heap w.heap.size 0 none _, h2, h3⟩
  unfold execOp
  rw [ho]
  simp [Instr.box, newVar, newRow]
theorem op_alloc {t : TypeId} {cs : List AV} (ho : o.op = .alloc t) (hc : zeroL P t = some cs) (h : R (.ptr s.H.length 0) (s.H ++ [.row t cs])) : OpB P o s R := opB_of fun p w a hR => by
  unfold zeroL at hc
  split at hc
  · rename_i i hi
    split at hc
    · rename_i z hz
      obtain ⟨h1, h2, h3⟩ := alloc_ok hR.heap z.cells t cs (consts_rep hc)
      refine ⟨_, _, _, _, _, ?_, h, h1, ptr_new hR.heap w.heap.size 0 none _, h2, h3⟩
      unfold execOp
      rw [ho]
      simp [Instr.alloc, zeroValue, typeInfo, hi, hz, newVar, newRow]
    · cases hc
  · cases hc
end
end Go.Proofs.Ytcmbhebgpboepaa.V
