/-
  Regions that draw their order: an operation that reads may be taken first where only operations that turn nothing can come before it.
-/
import Derived.Test.YtcmbhebgpboepaaVt
namespace Go
open Go.RowKit
section
variable {P : Program} {ops : Array Oper} {Q : Exit → Act → World → Prop} {md : Region.Mode}
/-- does operation j wait for operation i, by one step or several? -/
def depB (ops : Array Oper) : Nat → Nat → Nat → Bool
  | 0, _, _ => false
  | n + 1, j, i => match ops[j]? with
    | some o => o.after.any fun e => Region.binds .any e && (e.on.beq i || depB ops n e.on i)
    | none => false
def Closed (ops : Array Oper) (listed : Array Bool) : Prop := ∀ (k : Nat) (o : Oper), ops[k]? = some o → listed.getD k true = true → ∀ e ∈ o.after, Region.binds .any e = true → listed.getD e.on false = true
theorem depB_listed {listed : Array Bool} (hsz : listed.size = ops.size) (hc : Closed ops listed) : ∀ (n j i : Nat) (o : Oper), ops[j]? = some o → (∀ e ∈ o.after, Region.binds .any e = true → listed.getD e.on false = true) → depB ops n j i = true → listed.getD i false = true
  | 0, _, _, _, _, _, h => by simp [depB] at h
  | n + 1, j, i, o, ho, ha, h => by
    unfold depB at h
    rw [ho] at h
    simp only at h
    rw [Array.any_eq_true'] at h
    obtain ⟨e, he, h1⟩ := h
    simp only [Bool.and_eq_true, Bool.or_eq_true] at h1
    obtain ⟨hb, h1⟩ := h1
    have h2 := ha e he hb
    rcases h1 with h1 | h1
    · rw [← Nat.eq_of_beq_eq_true h1]; exact h2
    · have hlt : e.on < ops.size := by
        rcases Nat.lt_or_ge e.on ops.size with h3 | h3
        · exact h3
        · simp [Array.getElem?_eq_none (show listed.size ≤ e.on by omega)] at h2
      have h3 : ops[e.on]? = some ops[e.on] := Array.getElem?_eq_getElem hlt
      refine depB_listed hsz hc n e.on i _ h3 (hc e.on _ h3 ?_) h1
      have h4 : e.on < listed.size := by omega
      simp [h4] at h2 ⊢
      exact h2
def wpAnyT (P : Program) (ops : Array Oper) (Q : Exit → Act → World → Prop) (quiet : Nat → Bool) : Nat → Array Bool → Act → World → Prop
  | 0, listed, a, w => Region.ready .any ops listed = [] ∧ Q .normal a w
  | fuel + 1, listed, a, w =>
    (Region.ready .any ops listed = [] → Q .normal a w) ∧
    ∀ i ∈ Region.ready .any ops listed, wpOp P ops Q i (fun a' w' => (quiet i = true → Below w.heap.size w w') ∧ wpAnyT P ops Q quiet fuel (listed.setIfInBounds i true) a' w') a w
theorem wpAny_of_T {quiet : Nat → Bool} : ∀ (fuel : Nat) (listed : Array Bool) (a : Act) (w : World), wpAnyT P ops Q quiet fuel listed a w → wpAny P .any ops Q fuel listed a w
  | 0, _, _, _, h => h
  | fuel + 1, _, _, _, h => ⟨h.1, fun i hi => wpOp_mono (fun a' w' h' => wpAny_of_T fuel _ a' w' h'.2) (h.2 i hi)⟩
theorem closed_set {listed : Array Bool} (hc : Closed ops listed) {i : Nat} (hr : i ∈ Region.ready .any ops listed) : Closed ops (listed.setIfInBounds i true) := by
  intro k o hk hl e he hb
  have key : listed.getD e.on false = true → (listed.setIfInBounds i true).getD e.on false = true := fun h => by
    by_cases hi : i = e.on
    · subst hi
      rcases Nat.lt_or_ge e.on listed.size with h' | h'
      · simp [h']
      · simp [Array.getElem?_eq_none h'] at h
    · rw [getD_set_ne false hi]; exact h
  by_cases hik : i = k
  · subst hik
    obtain ⟨_, o', ho', hall⟩ := mem_ready.1 hr
    rw [hk] at ho'
    cases ho'
    exact key (hall e he hb)
  · rw [getD_set_ne true hik] at hl
    exact key (hc k o hk hl e he hb)
theorem wpAnyT_first {quiet : Nat → Bool} {i : Nat} {oi : Oper} {v : Value} (hi : ops[i]? = some oi) (hsel : ∀ (j : Nat) (o : Oper) cs b, ops[j]? = some o → o.op ≠ .select cs b)
    (hQ : ∀ c a w, Q (.panic c) (a.put oi.dst v) w → Q (.panic c) a w) {S : World → Prop} :
    ∀ (fuel : Nat) (listed : Array Bool) (a : Act) (w : World), listed.size = ops.size → Closed ops listed →
      (∀ j oj, ops[j]? = some oj → j ≠ i → listed.getD j true = false → (∀ e ∈ oj.after, Region.binds .any e = true → e.on ≠ i) → oi.apart ops oj = true) →
      (∀ j, j < ops.size → j ≠ i → listed.getD j true = false → depB ops ops.size j i = false → ∀ w w', (quiet j = true → Below w.heap.size w w') → S w → S w') →
      i ∈ Region.ready .any ops listed → YieldsIf P ops S oi v a → S w →
      wpAnyT P ops Q quiet fuel (listed.setIfInBounds i true) (a.put oi.dst v) w → wpAnyT P ops Q quiet (fuel + 1) listed a w := by
  intro fuel
  induction fuel with
  | zero =>
    intro listed a w hsz hc _ _ hr hy hS H
    refine ⟨fun h => (by rw [h] at hr; cases hr), fun j hj => ?_⟩
    by_cases hji : j = i
    · subst hji; exact hy.wpOp hi hS ⟨fun _ => Below.refl _ _, H⟩
    · have := ready_mono hj hji
      rw [H.1] at this
      cases this
  | succ fuel ih =>
    intro listed a w hsz hc hfree hquiet hr hy hS H
    refine ⟨fun h => (by rw [h] at hr; cases hr), fun j hj => ?_⟩
    by_cases hji : j = i
    · subst hji; exact hy.wpOp hi hS ⟨fun _ => Below.refl _ _, H⟩
    · have h1 := H.2 j (ready_mono hj hji)
      obtain ⟨hjun, oj, hoj, hall⟩ := mem_ready.1 hj
      have hiun := (mem_ready.1 hr).1
      have hjlt : j < ops.size := (Array.getElem?_eq_some_iff.1 hoj).1
      have hilt : i < ops.size := (Array.getElem?_eq_some_iff.1 hi).1
      have hnot : ∀ e ∈ oj.after, Region.binds .any e = true → e.on ≠ i := fun e he hb heq => by
        have h1 := hall e he hb
        rw [heq] at h1
        have h3 : i < listed.size := by omega
        simp [h3] at hiun h1; rw [hiun] at h1; cases h1
      have hnd : depB ops ops.size j i = false := by
        cases hd : depB ops ops.size j i with
        | false => rfl
        | true =>
          have h3 := depB_listed hsz hc _ j i oj hoj hall hd
          have h4 : i < listed.size := by omega
          simp [h4] at hiun h3; rw [hiun] at h3; cases h3
      have hqj := hquiet j hjlt hji hjun hnd
      have h2 := wpOp_putIf hoj (hfree j oj hoj hji hjun hnot) (fun cs b => hsel i oi cs b hi) (fun cs b => hsel j oj cs b hoj) hQ hy h1
      have hfree' : ∀ k ok, ops[k]? = some ok → k ≠ i → (listed.setIfInBounds j true).getD k true = false →
          (∀ e ∈ ok.after, Region.binds .any e = true → e.on ≠ i) → oi.apart ops ok = true := fun k ok hk hki hun hno => by
        refine hfree k ok hk hki ?_ hno
        by_cases hjk : j = k
        · subst hjk; exact hjun
        · rw [getD_set_ne true hjk] at hun; exact hun
      have hquiet' : ∀ k, k < ops.size → k ≠ i → (listed.setIfInBounds j true).getD k true = false → depB ops ops.size k i = false → ∀ w w', (quiet k = true → Below w.heap.size w w') → S w → S w' := fun k hk hki hun hno => by
        refine hquiet k hk hki ?_ hno
        by_cases hjk : j = k
        · subst hjk; exact hjun
        · rw [getD_set_ne true hjk] at hun; exact hun
      refine wpOp_mono (fun a' w' h3 => ⟨h3.2.1, ih (listed.setIfInBounds j true) a' w' (by simpa using hsz) (closed_set hc hj) hfree' hquiet' (ready_mono hr (Ne.symm hji)) h3.1 ?_ ?_⟩) h2
      · exact hqj w w' h3.2.1 hS
      · rw [Array.setIfInBounds_comm _ _ hji]
        exact h3.2.2
theorem wpAnyT_all {quiet : Nat → Bool} {rs : List Nat} {fuel : Nat} {listed : Array Bool} {a : Act} {w : World} (hr : Region.ready .any ops listed = rs) (hne : rs ≠ [])
    (h : ∀ i ∈ rs, wpOp P ops Q i (fun a' w' => (quiet i = true → Below w.heap.size w w') ∧ wpAnyT P ops Q quiet fuel (listed.setIfInBounds i true) a' w') a w) : wpAnyT P ops Q quiet (fuel + 1) listed a w :=
  ⟨fun h0 => absurd (hr ▸ h0) hne, hr ▸ h⟩
theorem wpAnyT_done {quiet : Nat → Bool} {listed : Array Bool} {a : Act} {w : World} (hr : Region.ready .any ops listed = []) (h : Q .normal a w) :
    ∀ fuel, wpAnyT P ops Q quiet fuel listed a w
  | 0 => ⟨hr, h⟩
  | _ + 1 => ⟨fun _ => h, by rw [hr]; simp⟩
end
end Go
