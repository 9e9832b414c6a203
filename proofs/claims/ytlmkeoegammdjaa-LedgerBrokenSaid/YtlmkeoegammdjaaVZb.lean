/-
  What the steps keep; finding and listing as values.
-/
import Derived.Test.YtlmkeoegammdjaaVX
import Derived.Test.YtlmkeoegammdjaaOpen
import Derived.Test.YtlmkeoegammdjaaVgood
namespace Go.Proofs.Ytlmkeoegammdjaa
open Go Go.RowKit V
set_option linter.unusedSimpArgs false
set_option linter.unusedVariables false
set_option maxHeartbeats 20000000
/-! ### pairs -/
theorem bytes_ext {a b : ByteArray} (h : a.toList = b.toList) : a = b := by
  rw [ByteArray.toList_eq, ByteArray.toList_eq] at h
  cases a; cases b
  exact congrArg ByteArray.mk (Array.toList_inj.1 h)
theorem isP_iff (m : Mk) (st tk : ByteArray) : isP m st tk = true ↔ m.st = st ∧ m.tk = tk := by
  unfold isP
  simp only [Bool.and_true, Bool.and_eq_true, beq_iff_eq]
  exact ⟨fun h => ⟨bytes_ext h.1, bytes_ext h.2⟩, fun h => ⟨by rw [h.1], by rw [h.2]⟩⟩
def setR (st tk : ByteArray) (f : Mk → Mk) : List Mk → List Mk
  | [] => []
  | m :: r => bif isP m st tk then f m :: r else m :: setR st tk f r
def insR (p : Mk) : List Mk → List Mk
  | [] => [p]
  | m :: r => bif befM p m then p :: m :: r else m :: insR p r
theorem ix_shift (st tk : ByteArray) : ∀ (l : List Mk) (k : Nat), ixL st tk (k + 1) l = if 0 ≤ ixL st tk k l then ixL st tk k l + 1 else -1
  | [], k => rfl
  | m :: r, k => by
    rw [ixL, ixL]
    cases isP m st tk with
    | true => rw [cond_true, cond_true, if_pos (by omega)]; omega
    | false => rw [cond_false, cond_false]; exact ix_shift st tk r (k + 1)
theorem pos_shift (st tk : ByteArray) : ∀ (l : List Mk) (k : Nat), posL st tk (k + 1) l = if 0 ≤ posL st tk k l then posL st tk k l + 1 else -1
  | [], k => rfl
  | m :: r, k => by
    rw [posL, posL]
    cases befP st tk m.st m.tk with
    | true => rw [cond_true, cond_true, if_pos (by omega)]; omega
    | false => rw [cond_false, cond_false]; exact pos_shift st tk r (k + 1)
theorem setL_eq (st tk : ByteArray) (f : Mk → Mk) : ∀ l : List Mk, 0 ≤ ixL st tk 0 l → setL l (ixL st tk 0 l).toNat (f (l.getD (ixL st tk 0 l).toNat mD)) = setR st tk f l
  | [], h => by simp [ixL] at h
  | m :: r, h => by
    rw [ixL, ix_shift] at h ⊢
    rw [setR]
    cases hp : isP m st tk with
    | true => rfl
    | false =>
      rw [hp, cond_false] at h
      rw [cond_false, cond_false]
      by_cases h2 : 0 ≤ ixL st tk 0 r
      · rw [if_pos h2]
        have ih := setL_eq st tk f r h2
        obtain ⟨n, hn⟩ : ∃ n : Nat, ixL st tk 0 r = n := ⟨(ixL st tk 0 r).toNat, by omega⟩
        rw [hn] at ih ⊢
        rw [show ((n : Int) + 1).toNat = n + 1 by omega]
        rw [Int.toNat_natCast] at ih
        rw [← ih]
        simp [setL]
      · rw [if_neg h2] at h; omega
theorem insL_eq (p : Mk) : ∀ l : List Mk, insL l (if 0 ≤ posL p.st p.tk 0 l then (posL p.st p.tk 0 l).toNat else l.length) p = insR p l
  | [] => rfl
  | m :: r => by
    rw [posL, pos_shift, insR]
    cases hp : befM p m with
    | true => rw [show befP p.st p.tk m.st m.tk = true from hp]; rfl
    | false =>
      rw [show befP p.st p.tk m.st m.tk = false from hp, cond_false, cond_false, ← insL_eq p r]
      by_cases h2 : 0 ≤ posL p.st p.tk 0 r
      · rw [if_pos h2, if_pos (by omega)]
        obtain ⟨n, hn⟩ : ∃ n : Nat, posL p.st p.tk 0 r = n := ⟨(posL p.st p.tk 0 r).toNat, by omega⟩
        rw [hn, if_pos (by omega), show ((n : Int) + 1).toNat = n + 1 by omega, Int.toNat_natCast]
        simp [insL]
      · rw [if_neg h2, if_neg (by omega), if_neg h2]
        simp [insL]
theorem subL_eq (l : List Mk) (st tk : ByteArray) : subL l st tk = if 0 ≤ ixL st tk 0 l then setR st tk (fun m => subM st tk (IntKind.i64.wrap (m.ver + 1))) l else insR (subM st tk 1) l := by
  unfold subL
  split
  · rename_i h; exact setL_eq st tk (fun m => subM st tk (IntKind.i64.wrap (m.ver + 1))) l h
  · exact insL_eq (subM st tk 1) l
theorem reopL_eq (l : List Mk) (st tk : ByteArray) : reopL l st tk = if 0 ≤ ixL st tk 0 l then setR st tk zeroM l else l := by
  unfold reopL
  split
  · rename_i h; exact setL_eq st tk zeroM l h
  · rfl
theorem compL_eq (l : List Mk) (st tk : ByteArray) (g : Mk) : compL l st tk g = if compB l st tk = true then setR st tk (fun m => putG m g) l else l := by
  unfold compL
  split
  · rename_i h; exact setL_eq st tk (fun m => putG m g) l (by unfold compB at h; simp at h; exact h.1)
  · rfl
def pr (m : Mk) : ByteArray × ByteArray := (m.st, m.tk)
theorem setR_pr (st tk : ByteArray) (f : Mk → Mk) (hf : ∀ m, isP m st tk = true → pr (f m) = pr m) : ∀ l, (setR st tk f l).map pr = l.map pr
  | [] => rfl
  | m :: r => by
    rw [setR]
    cases h : isP m st tk with
    | true => rw [cond_true, List.map_cons, List.map_cons, hf m h]
    | false => rw [cond_false, List.map_cons, List.map_cons, setR_pr st tk f hf r]
theorem ix_none {st tk : ByteArray} : ∀ {l : List Mk} {k : Nat}, ¬ 0 ≤ ixL st tk k l → ∀ m ∈ l, isP m st tk = false
  | [], _, _, m, hm => by cases hm
  | a :: r, k, h, m, hm => by
    rw [ixL] at h
    cases hp : isP a st tk with
    | true => rw [hp, cond_true] at h; omega
    | false =>
      rw [hp, cond_false] at h
      rcases List.mem_cons.1 hm with rfl | hm
      · exact hp
      · exact ix_none h m hm
theorem ix_some {st tk : ByteArray} : ∀ {l : List Mk} {k : Nat} {m : Mk}, m ∈ l → isP m st tk = true → 0 ≤ ixL st tk k l
  | [], _, m, hm, _ => by cases hm
  | a :: r, k, m, hm, hq => by
    rw [ixL]
    cases hp : isP a st tk with
    | true => rw [cond_true]; omega
    | false =>
      rw [cond_false]
      rcases List.mem_cons.1 hm with rfl | hm
      · rw [hp] at hq; cases hq
      · exact ix_some hm hq
theorem insR_mem (p : Mk) : ∀ (l : List Mk) (x : Mk), x ∈ insR p l ↔ x = p ∨ x ∈ l
  | [], x => by simp [insR]
  | m :: r, x => by
    rw [insR]
    cases befM p m with
    | true => simp
    | false => simp only [cond_false, List.mem_cons, insR_mem p r x]; exact ⟨fun h => by rcases h with h | h | h <;> simp [h], fun h => by rcases h with h | h | h <;> simp [h]⟩
theorem insR_nodup (p : Mk) : ∀ (l : List Mk), (l.map pr).Nodup → (∀ m ∈ l, pr m ≠ pr p) → ((insR p l).map pr).Nodup
  | [], _, _ => by simp [insR]
  | m :: r, h, hp => by
    rw [insR]
    cases befM p m with
    | true =>
      rw [cond_true, List.map_cons, List.nodup_cons]
      exact ⟨fun hm => by obtain ⟨x, h1, h2⟩ := List.mem_map.1 hm; exact hp x h1 h2, h⟩
    | false =>
      rw [List.map_cons, List.nodup_cons] at h
      rw [cond_false, List.map_cons, List.nodup_cons]
      refine ⟨fun hm => ?_, insR_nodup p r h.2 fun x hx => hp x (List.mem_cons_of_mem _ hx)⟩
      obtain ⟨x, h1, h2⟩ := List.mem_map.1 hm
      rcases (insR_mem p r x).1 h1 with rfl | h1
      · exact hp m (List.mem_cons_self ..) h2.symm
      · exact h.1 (List.mem_map.2 ⟨x, h1, h2⟩)
theorem setR_mem (st tk : ByteArray) (f : Mk → Mk) : ∀ (l : List Mk) (x : Mk), x ∈ setR st tk f l → x ∈ l ∨ ∃ m ∈ l, isP m st tk = true ∧ x = f m
  | [], x, h => by cases h
  | m :: r, x, h => by
    rw [setR] at h
    cases hp : isP m st tk with
    | true =>
      rw [hp, cond_true] at h
      rcases List.mem_cons.1 h with h | h
      · exact Or.inr ⟨m, List.mem_cons_self .., hp, h⟩
      · exact Or.inl (List.mem_cons_of_mem _ h)
    | false =>
      rw [hp, cond_false] at h
      rcases List.mem_cons.1 h with rfl | h
      · exact Or.inl (List.mem_cons_self ..)
      · rcases setR_mem st tk f r x h with h | ⟨y, h1, h2, h3⟩
        · exact Or.inl (List.mem_cons_of_mem _ h)
        · exact Or.inr ⟨y, List.mem_cons_of_mem _ h1, h2, h3⟩
theorem pr_sub (st tk : ByteArray) (v : Int) (m : Mk) (h : isP m st tk = true) : pr (subM st tk v) = pr m := by
  obtain ⟨h1, h2⟩ := (isP_iff m st tk).1 h
  simp [pr, subM, h1, h2]
/-- what a step keeps -/
structure Kept (st tk : ByteArray) (l a : List Mk) : Prop where
  nodup : (a.map pr).Nodup
  has : ∀ m ∈ l, pr m ∈ a.map pr
  old : ∀ x ∈ a, isP x st tk = false → x ∈ l
theorem kept_step (l : List Mk) (x y : Int) (h : (l.map pr).Nodup) : Kept (pst y) (ptk y) l (stepL l x y) := by
  have hset : ∀ f : Mk → Mk, (∀ m, isP m (pst y) (ptk y) = true → pr (f m) = pr m) → Kept (pst y) (ptk y) l (setR (pst y) (ptk y) f l) := fun f hf => by
    have e := setR_pr (pst y) (ptk y) f hf l
    refine ⟨by rw [e]; exact h, fun m hm => by rw [e]; exact List.mem_map.2 ⟨m, hm, rfl⟩, fun x hx hp => ?_⟩
    rcases setR_mem _ _ f l x hx with h1 | ⟨m, h1, h2, h3⟩
    · exact h1
    · have h4 := (isP_iff m (pst y) (ptk y)).1 h2
      have h5 := hf m h2
      rw [← h3] at h5
      have h6 : isP x (pst y) (ptk y) = true := (isP_iff _ _ _).2 ⟨(congrArg Prod.fst h5).trans h4.1, (congrArg Prod.snd h5).trans h4.2⟩
      rw [hp] at h6; cases h6
  have hid : Kept (pst y) (ptk y) l l := ⟨h, fun m hm => List.mem_map.2 ⟨m, hm, rfl⟩, fun x hx _ => hx⟩
  unfold stepL
  split
  · rw [subL_eq]
    split
    · exact hset _ fun m hm => pr_sub _ _ _ m hm
    · rename_i hn
      have hno := ix_none hn
      refine ⟨insR_nodup _ l h fun m hm e => ?_, fun m hm => List.mem_map.2 ⟨m, (insR_mem _ _ _).2 (Or.inr hm), rfl⟩, fun x hx hp => ?_⟩
      · have h1 := hno m hm
        have h2 : isP m (pst y) (ptk y) = true := (isP_iff _ _ _).2 ⟨congrArg Prod.fst e, congrArg Prod.snd e⟩
        rw [h1] at h2; cases h2
      · rcases (insR_mem _ _ _).1 hx with rfl | h1
        · have h2 : isP (subM (pst y) (ptk y) 1) (pst y) (ptk y) = true := (isP_iff _ _ _).2 ⟨rfl, rfl⟩
          rw [hp] at h2; cases h2
        · exact h1
  · split
    · rw [reopL_eq]
      split
      · exact hset _ fun m hm => rfl
      · exact hid
    · rw [compL_eq]
      split
      · exact hset _ fun m hm => rfl
      · exact hid
/-! ### order and ranges -/
theorem bef_total (p m : Mk) (h : befM p m = false) (hne : isP m p.st p.tk = false) : befM m p = true := by
  unfold befM befP at h ⊢
  have hne' : (m.st.toList == p.st.toList && m.tk.toList == p.tk.toList) = false := by unfold isP at hne; simpa using hne
  cases h1 : lt p.tk m.tk with
  | true => rw [h1] at h; cases h
  | false =>
    rw [h1, cond_false] at h
    cases h2 : eqS p.tk m.tk with
    | true =>
      rw [h2, cond_true] at h
      have e : p.tk.toList = m.tk.toList := by simpa [eqS] using h2
      have e1 : lt m.tk p.tk = false := by simp only [lt] at h1 ⊢; rw [e] at h1 ⊢; exact h1
      have e2 : eqS m.tk p.tk = true := by simp [eqS, e]
      rw [e1, e2, cond_false, cond_true]
      have e3 : (p.st.toList == m.st.toList) = false := by
        rw [beq_eq_false_iff_ne]
        intro e4
        simp [e4, e] at hne'
      exact bl_tri _ _ h e3
    | false =>
      have e1 : lt m.tk p.tk = true := bl_tri _ _ h1 h2
      rw [e1]; rfl
def hdOk (m : Mk) : List Mk → Bool
  | [] => true
  | n :: _ => befM m n
theorem ordL_cons (m : Mk) (r : List Mk) : ordL (m :: r) = (hdOk m r && ordL r) := by
  cases r with
  | nil => rfl
  | cons n r =>
    show (bif befM m n then ordL (n :: r) else false) = (befM m n && ordL (n :: r))
    cases befM m n <;> rfl
theorem ord_ins (p : Mk) : ∀ l : List Mk, (∀ m ∈ l, isP m p.st p.tk = false) → ordL l = true → ordL (insR p l) = true ∧ ∀ m, hdOk m l = true → befM m p = true → hdOk m (insR p l) = true
  | [], _, _ => ⟨rfl, fun m _ h => h⟩
  | a :: r, hn, h => by
    rw [insR]
    cases hb : befM p a with
    | true => exact ⟨by rw [cond_true, ordL_cons, h]; simp [hdOk, hb], fun m _ h => h⟩
    | false =>
      rw [ordL_cons, Bool.and_eq_true] at h
      obtain ⟨ih1, ih2⟩ := ord_ins p r (fun m hm => hn m (List.mem_cons_of_mem _ hm)) h.2
      refine ⟨by rw [cond_false, ordL_cons, ih1, ih2 a h.1 (bef_total p a hb (hn a (List.mem_cons_self ..)))]; rfl, fun m h1 _ => h1⟩
theorem ord_pr : ∀ (l a : List Mk), l.map pr = a.map pr → ordL l = ordL a
  | [], [], _ => rfl
  | [], _ :: _, h => by simp at h
  | _ :: _, [], h => by simp at h
  | m :: r, n :: s, h => by
    rw [List.map_cons, List.map_cons, List.cons.injEq] at h
    rw [ordL_cons, ordL_cons, ord_pr r s h.2]
    congr 1
    cases r with
    | nil => cases s with | nil => rfl | cons => simp at h
    | cons r0 r => cases s with
      | nil => simp at h
      | cons s0 s =>
        rw [List.map_cons, List.map_cons, List.cons.injEq] at h
        obtain ⟨h1, h2, _⟩ := h
        simp only [hdOk, befM]
        simp only [pr, Prod.mk.injEq] at h1 h2
        rw [h1.1, h1.2, h2.1, h2.2]
def Fine (n : Int) (m : Mk) : Prop := 1 ≤ m.ver ∧ m.ver ≤ n ∧ (m.pend = true → isZ m = true)
theorem bad_of : ∀ (l : List Mk) (n : Int), (∀ m ∈ l, Fine n m) → badL l = 0
  | [], _, _ => rfl
  | m :: r, n, h => by
    obtain ⟨h1, h2, h3⟩ := h m (List.mem_cons_self ..)
    rw [badL, show decide (m.ver < 1) = false by rw [decide_eq_false_iff_not]; omega, cond_false, bad_of r n fun x hx => h x (List.mem_cons_of_mem _ hx)]
    cases hp : m.pend with
    | true => rw [h3 hp]; rfl
    | false => rfl
structure Good28 (n : Nat) (l : List Mk) : Prop where
  len : l.length ≤ n
  ok : ∀ m ∈ l, OkM m
  ord : ordL l = true
  fine : ∀ m ∈ l, Fine n m
theorem good_step (n : Nat) (l : List Mk) (x y : Int) (hn : n ≤ 1000) (h : Good28 n l) : Good28 (n + 1) (stepL l x y) := by
  obtain ⟨k1, k2⟩ := step_ok l x y h.ok
  have up : ∀ m, Fine n m → Fine (n + 1 : Nat) m := fun m hm => ⟨hm.1, by have := hm.2.1; omega, hm.2.2⟩
  have hset : ∀ f : Mk → Mk, (∀ m, isP m (pst y) (ptk y) = true → pr (f m) = pr m) → (∀ m ∈ l, Fine n m → Fine (n + 1 : Nat) (f m)) → ordL (setR (pst y) (ptk y) f l) = true ∧ ∀ m ∈ setR (pst y) (ptk y) f l, Fine (n + 1 : Nat) m := fun f hf hg =>
    ⟨(ord_pr _ _ (setR_pr _ _ f hf l)).trans h.ord, fun m hm => by
      rcases setR_mem _ _ f l m hm with h1 | ⟨z, h1, h2, rfl⟩
      · exact up m (h.fine m h1)
      · exact hg z h1 (h.fine z h1)⟩
  have hs : ∀ v : Int, 1 ≤ v → v ≤ (n + 1 : Nat) → Fine (n + 1 : Nat) (subM (pst y) (ptk y) v) := fun v h1 h2 => ⟨h1, h2, fun _ => by simp [isZ, subM, noI]⟩
  have main : ordL (stepL l x y) = true ∧ ∀ m ∈ stepL l x y, Fine (n + 1 : Nat) m := by
    unfold stepL
    split
    · rw [subL_eq]
      split
      · exact hset _ (fun m hm => pr_sub _ _ _ m hm) fun m _ hm => by
          have h1 := hm.1
          have h2 := hm.2.1
          have e : IntKind.i64.wrap (m.ver + 1) = m.ver + 1 := wrap_i64 (by omega) (by omega)
          rw [e]
          exact hs _ (by omega) (by omega)
      · rename_i hno
        refine ⟨(ord_ins _ l (ix_none hno) h.ord).1, fun m hm => ?_⟩
        rcases (insR_mem _ _ _).1 hm with rfl | h1
        · exact hs 1 (by omega) (by omega)
        · exact up m (h.fine m h1)
    · split
      · rw [reopL_eq]
        split
        · exact hset _ (fun m hm => rfl) fun m _ hm => ⟨hm.1, by have := hm.2.1; show m.ver ≤ _; omega, fun _ => by simp [isZ, zeroM, noI]⟩
        · exact ⟨h.ord, fun m hm => up m (h.fine m hm)⟩
      · rw [compL_eq]
        split
        · exact hset _ (fun m hm => rfl) fun m _ hm => ⟨hm.1, by have := hm.2.1; show m.ver ≤ _; omega, fun h => by cases h⟩
        · exact ⟨h.ord, fun m hm => up m (h.fine m hm)⟩
  exact ⟨by have := h.len; omega, k2, main.1, main.2⟩
theorem good_chk {n : Nat} {l : List Mk} (h : Good28 n l) : chkL l = 0 := by
  rw [chkL, h.ord, cond_true, bad_of l n h.fine]
end Go.Proofs.Ytlmkeoegammdjaa
namespace Go.Proofs.Ytlmkeoegammdjaa
open Go Go.RowKit V
set_option linter.unusedSimpArgs false
set_option linter.unusedVariables false
set_option maxHeartbeats 20000000
abbrev mZ : Mk := ⟨ByteArray.mk #[], ByteArray.mk #[], 0, false, 0, 0, ByteArray.mk #[], 0, 0, []⟩
def findM (l : List Mk) (st tk : ByteArray) : Mk := if 0 ≤ ixL st tk 0 l then l.getD (ixL st tk 0 l).toNat mD else mZ
theorem tupWeak (cs : List AV) (hc : cs.length = 9) (b : Bool) (p : Pl) (w : World) (v : Value) (h : Rep p w v (.tuple [.agg (cs ++ [.nilsl]), .bool b])) : Rep p w v (.tuple [.agg (cs ++ [.slv 0 1 []]), .bool b]) := by
  obtain ⟨vs, e1, e2, e3⟩ := h
  refine ⟨vs, e1, e2, fun i i1 i2 => ?_⟩
  simp only [List.length_cons, List.length_nil] at i2
  rcases i with _ | _ | i
  · have h0 : Rep p w vs.toList[0] (.agg (cs ++ [.nilsl])) := e3 0 i1 (by simp)
    exact show Rep p w vs.toList[0] (.agg (cs ++ [.slv 0 1 []])) from agg_weak (cs := cs ++ [.nilsl]) (cs' := cs ++ [.slv 0 1 []]) (by simp) (fun i h1 h2 p w v hv => weakTen cs hc i h1 h2 p w v hv) p w _ h0
  · have h0 : Rep1 p w vs.toList[1] (.bool b) := e3 1 i1 (by simp)
    exact h0
  · omega
theorem find_v (l : List Mk) (st tk : ByteArray) (hl : OkL l) : CallsV Try.prog 11 [marksV l, .agg [.str st, .str tk]] [] (fun av H' => av = .tuple [.agg (encM (findM l st tk)), .bool (reopB l st tk)] ∧ H' = []) := by
  rcases ix0 l st tk with h | ⟨i, hi, h, _⟩
  · rw [findM, reopB, h]
    refine (find_none_v l st tk hl h).weakR fun av H' ⟨h1, h2⟩ => ?_
    subst h1
    exact ⟨_, tupWeak [.str (ByteArray.mk #[]), .str (ByteArray.mk #[]), .int .i64 0, .bool false, .int .i64 0, .int .i64 0, .str (ByteArray.mk #[]), .int .i64 0, .int .i64 0] rfl false, rfl, h2⟩
  · rw [findM, reopB, h, if_pos (by omega), Int.toNat_natCast, decide_eq_true (show 0 ≤ (i : Int) by omega)]; exact find_some_v l st tk hl i hi h
theorem refFind_v (l : List Mk) (st tk : ByteArray) (hl : OkL l) : CallsV Try.prog 13 [marksV l, .agg [.str st, .str tk]] [] (fun av H' => av = .tuple [.agg (encM (findM l st tk)), .bool (reopB l st tk)] ∧ H' = []) := by
  rcases ix0 l st tk with h | ⟨i, hi, h, _⟩
  · rw [findM, reopB, h]
    refine (refFind_none_v l st tk hl h).weakR fun av H' ⟨h1, h2⟩ => ?_
    subst h1
    exact ⟨_, tupWeak [.str (ByteArray.mk #[]), .str (ByteArray.mk #[]), .int .i64 0, .bool false, .int .i64 0, .int .i64 0, .str (ByteArray.mk #[]), .int .i64 0, .int .i64 0] rfl false, rfl, h2⟩
  · rw [findM, reopB, h, if_pos (by omega), Int.toNat_natCast, decide_eq_true (show 0 ≤ (i : Int) by omega)]; exact refFind_some_v l st tk hl i hi h
theorem findM_ok (l : List Mk) (st tk : ByteArray) (hl : OkL l) : OkM (findM l st tk) := by
  unfold findM
  rcases ix0 l st tk with h | ⟨i, hi, h, _⟩
  · rw [h]; exact Nat.zero_le _
  · rw [h, if_pos (by omega), Int.toNat_natCast]; exact okM_at hl hi
theorem sameMarks1_v (m : Mk) (hm : OkM m) : CallsV Try.prog 9 [.slv 1 10 [.str m.st, .str m.tk, .int .i64 m.ver, .bool m.pend, .int .i64 m.kind, .int .i64 m.err, .str m.path, .int .i64 m.at', .int .i64 m.score, intsV m.verd], .slv 1 10 [.str m.st, .str m.tk, .int .i64 m.ver, .bool m.pend, .int .i64 m.kind, .int .i64 m.err, .str m.path, .int .i64 m.at', .int .i64 m.score, intsV m.verd]] [] (fun av H' => av = .bool true ∧ H' = []) :=
  sameMarks_v [m] ⟨by simp, fun x hx => by rw [List.mem_singleton] at hx; subst hx; exact hm⟩
def encS (z : Int × Int) : List AV := [.int .u8 z.1, .int .u8 z.2]
abbrev stepsV (l : List (Int × Int)) : AV := .slv l.length 2 (flatA encS l)
theorem steps_at (l : List (Int × Int)) (k : Nat) (hk : k < l.length) : (flatA encS l).drop ((k : Int).toNat * 2) = AV.int .u8 (l.getD k (0, 0)).1 :: AV.int .u8 (l.getD k (0, 0)).2 :: flatA encS (l.drop (k + 1)) := flatA_at (enc := encS) (n := 2) (fun _ => rfl) l (0, 0) k hk
theorem getD_all {α : Type} {p : α → Prop} {l : List α} (h : ∀ x ∈ l, p x) {k : Nat} (hk : k < l.length) (d : α) : p (l.getD k d) := by
  rw [List.getD_eq_getElem?_getD, List.getElem?_eq_getElem hk]; exact h _ (List.getElem_mem hk)
end Go.Proofs.Ytlmkeoegammdjaa
namespace Go.Proofs.Ytlmkeoegammdjaa
open Go Go.RowKit V
set_option linter.unusedSimpArgs false
set_option linter.unusedVariables false
def encSV (z : Int × Int) : List Value := [.int .u8 z.1, .int .u8 z.2]
theorem pairS : PairE encSV encS := fun _ => rfl
theorem encS_ok : Enc encSV 2 := ⟨fun _ => rfl, fun x u hu => by simp [encSV] at hu; rcases hu with rfl | rfl <;> rfl, by omega⟩
theorem arg_steps {w : World} {v : Value} (h : Arg Try.prog w 22 v) : ∃ l : List (Int × Int), Rep pl0 w v (stepsV l) ∧ (∀ z ∈ l, (0 ≤ z.1 ∧ z.1 ≤ 255) ∧ (0 ≤ z.2 ∧ z.2 ≤ 255)) ∧ l.length ≤ 9223372036854775807 := by
  obtain ⟨a, len, cap, rfl, h1, h2, h3, vs, h4, h5, h6⟩ := Arg.slice Try.underlying22 (ts := [5, 5]) (by kernel_rfl) (by kernel_rfl) (by decide) h
  have h4' : vs.length = len * 2 := h4
  obtain ⟨l, g1, rfl, g3⟩ := rows_of (enc := encSV) (size := 2) (fun z => (0 ≤ z.1 ∧ z.1 ≤ 255) ∧ (0 ≤ z.2 ∧ z.2 ≤ 255)) len vs h4' (fun i hi => by
    have a0 := h6 i hi 0 (by simp) (by simp only [List.length_cons, List.length_nil]; omega)
    have a1 := h6 i hi 1 (by simp) (by simp only [List.length_cons, List.length_nil]; omega)
    unfold Good at a0 a1
    simp only [List.getElem_cons_zero, List.getElem_cons_succ, Try.underlying5] at a0 a1
    obtain ⟨y, e0, hy⟩ := a0
    obtain ⟨z, e1, hz⟩ := a1
    refine ⟨(y, z), ?_, wf_u8 hy, wf_u8 hz⟩
    simp only [List.length_cons, List.length_nil, Nat.zero_add] at e0 e1
    rw [List.drop_eq_getElem_cons (by omega), List.drop_eq_getElem_cons (by omega), List.take_succ_cons, List.take_succ_cons, List.take_zero]
    exact congr (congrArg _ e0) (congrArg (fun x => [x]) e1))
  refine ⟨l, ?_, g3, by unfold maxLen at h2; omega⟩
  have := rep_of_rowV (p := pl0) pairS encS_ok g1 h1 h3 h5 h2 (fun x _ => pl0_M _)
  rw [← g1] at this ⊢
  exact this
theorem arg_two {w : World} {v : Value} (h : Arg Try.prog w 26 v) : ∃ a b : Int, Rep pl0 w v (.agg [.int .u8 a, .int .u8 b]) ∧ (0 ≤ a ∧ a ≤ 255) := by
  obtain ⟨xs, h1, h2, h3⟩ := arg_agg h (by kernel_rfl) (ts := [5, 5]) (by kernel_rfl) (by kernel_rfl)
  match xs, h2, h1, h3 with
  | [x, y], _, h1, h3 =>
    have a0 := h3 0 (by simp)
    have a1 := h3 1 (by simp)
    unfold Sh at a0 a1
    simp only [List.getElem_cons_zero, List.getElem_cons_succ, Try.underlying5] at a0 a1
    obtain ⟨a, e0, ha⟩ := a0
    obtain ⟨b, e1, hb⟩ := a1
    simp at e0 e1
    subst e0 e1
    exact ⟨a, b, h1, wf_u8 ha⟩
end Go.Proofs.Ytlmkeoegammdjaa
