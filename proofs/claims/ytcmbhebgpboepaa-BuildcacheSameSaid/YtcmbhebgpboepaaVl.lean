/-
  The logic of values: the rules as steps of a proof: pieces of a program are named by their place. Over any program.
-/
import Derived.Test.YtcmbhebgpboepaaVk
namespace Go.Proofs.Ytcmbhebgpboepaa.V
open Go Go.RowKit
set_option linter.unusedSimpArgs false
set_option linter.unusedVariables false

def cL : Code → Code | .seq a _ => a | c => c
def cR : Code → Code | .seq _ b => b | c => c
def cC : Code → Operand | .cond c _ _ => c | _ => .func 0
def cT : Code → Code | .cond _ a _ => a | c => c
def cE : Code → Code | .cond _ _ b => b | c => c
def cB : Code → Code | .block _ b => b | .loop b => b | .scope b => b | c => c
def cO : Code → Array Oper | .region _ ops _ => ops | _ => #[]
def cI : Code → Nat | .block i _ => i | .exit i => i | .region i _ _ => i | _ => 0
def kd : Code → Nat
  | .skip => 0 | .region _ _ false => 1 | .region _ _ true => 2 | .seq _ _ => 3 | .cond _ _ _ => 4 | .block _ _ => 5 | .loop _ => 6 | .exit _ => 7 | .ret => 8 | .scope _ => 9 | .label _ => 10 | _ => 11
def bodyOf (fn : Func) : Code := fn.body.getD .skip
section
variable {P : Program} {s : St} {Q : Exit → St → Prop} {c : Code}
theorem q_seq (h : kd c = 3) (k : WpV P (cL c) (thenV P (cR c) Q) s) : WpV P c Q s := by cases c <;> first | exact wpV_seq k | (simp [kd] at h; done) | (rename_i d; cases d <;> simp [kd] at h)
theorem q_cond (h : kd c = 4) (b : Bool) (hc : s.ev (cC c) = .bool b) (h1 : b = true → WpV P (cT c) Q s) (h2 : b = false → WpV P (cE c) Q s) : WpV P c Q s := by cases c <;> first | exact wpV_cond b hc h1 h2 | (simp [kd] at h; done) | (rename_i d; cases d <;> simp [kd] at h)
theorem q_yes (h : kd c = 4) (b : Bool) (hc : s.ev (cC c) = .bool b) (hb : b = true) (h1 : WpV P (cT c) Q s) : WpV P c Q s := q_cond h b hc (fun _ => h1) (fun h => by rw [hb] at h; cases h)
theorem q_no (h : kd c = 4) (b : Bool) (hc : s.ev (cC c) = .bool b) (hb : b = false) (h1 : WpV P (cE c) Q s) : WpV P c Q s := q_cond h b hc (fun h => by rw [hb] at h; cases h) (fun _ => h1)
theorem q_block (h : kd c = 5) (k : WpV P (cB c) (blockV (cI c) Q) s) : WpV P c Q s := by cases c <;> first | exact wpV_block k | (simp [kd] at h; done) | (rename_i d; cases d <;> simp [kd] at h)
theorem q_loop (h : kd c = 6) (ks : List Nat) (n0 : Nat) (I : Nat → St → Prop) (h0 : I n0 (selS ks s)) (k : ∀ n s, I n s → WpV P (cB c) (loopV I ks n Q) s) : WpV P c Q s := by
  refine WpV.weaken (s' := selS ks s) ?_ fun p _ _ hR => ⟨p, hR.sel ks, Step.refl _ _⟩
  cases c <;> first | exact wpV_loop I ks n0 h0 k | (simp [kd] at h; done) | (rename_i d; cases d <;> simp [kd] at h)
theorem q_exit (h : kd c = 7) (i : Nat) (hi : cI c = i) (k : Q (.exit i) s) : WpV P c Q s := by
  subst hi
  cases c <;> first | exact wpV_exit k | (simp [kd] at h; done) | (rename_i d; cases d <;> simp [kd] at h)
theorem q_ret (h : kd c = 8) (k : Q .ret s) : WpV P c Q s := by cases c <;> first | exact wpV_ret k | (simp [kd] at h; done) | (rename_i d; cases d <;> simp [kd] at h)
theorem q_skip (h : kd c = 0) (k : Q .normal s) : WpV P c Q s := by cases c <;> first | exact wpV_skip k | (simp [kd] at h; done) | (rename_i d; cases d <;> simp [kd] at h)
theorem q_reg (h : kd c = 1) (k : RunN P (cO c) Q (List.range (cO c).size) s) : WpV P c Q s := by
  cases c <;> first | (simp [kd] at h; done) | skip
  rename_i i ops d
  cases d with
  | true => simp [kd] at h
  | false => exact wpV_region k
theorem q_draw (h : kd c = 2) (hm : P.follows .mixedOrders = true) (k : RunD P (cO c) Q (cO c).size (Array.replicate (cO c).size false) s) : WpV P c Q s := by
  cases c <;> first | (simp [kd] at h; done) | skip
  rename_i i ops d
  cases d with
  | false => simp [kd] at h
  | true => exact wpV_draw hm k
/-- a region of reading operations alone -/
def rg (P : Program) (c : Code) (s : St) : List Prop × St := pureN P (cO c) (cO c).size (List.range (cO c).size) s
theorem q_pure (C : Prop) (h : (kd c == 1 && true) = true) (hC : allP (rg P c s).1 = C) (hok : C) (k : Q .normal (rg P c s).2) : WpV P c Q s := by
  subst hC
  refine q_reg (by simpa using h) (runN_pure _ _ _ hok ?_)
  rw [List.drop_of_length_le (by simp)]
  exact runN_done k
theorem q_sp (C : Prop) (h : (kd c == 3 && kd (cL c) == 1) = true) (hC : allP (rg P (cL c) s).1 = C) (hok : C) (k : WpV P (cR c) Q (rg P (cL c) s).2) : WpV P c Q s := by
  simp only [Bool.and_eq_true, beq_iff_eq] at h
  exact q_seq h.1 (q_pure C (by simp [h.2]) hC hok k)
/-- the same state, written otherwise -/
theorem q_as {s' : St} (h : s = s') (k : WpV P c Q s') : WpV P c Q s := h ▸ k
theorem callsV_at {f : FuncId} {fn : Func} {args : List AV} {H : List Blk} {R : AV → List Blk → Prop} (hf : P.funcs[f]? = some fn) (hb : fn.body.isSome = true)
    (h : WpV P (bodyOf fn) (bodyV P fn.results.toList H.length R) ⟨args ++ List.replicate (fn.ntmps - args.length) .junk, H⟩) : CallsV P f args H R := by
  refine callsV_of hf ?_ h
  unfold bodyOf
  cases hb' : fn.body with
  | none => rw [hb'] at hb; cases hb
  | some c => rfl
end
end Go.Proofs.Ytcmbhebgpboepaa.V
