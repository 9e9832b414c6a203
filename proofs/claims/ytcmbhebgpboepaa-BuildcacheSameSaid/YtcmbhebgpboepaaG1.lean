/-
  Objects: their forms as values; equality of lists.
-/
import Derived.Test.YtcmbhebgpboepaaVgb
namespace Go.Proofs.Ytcmbhebgpboepaa
open Go Go.RowKit V
set_option linter.unusedSimpArgs false
set_option linter.unusedVariables false
set_option maxHeartbeats 20000000
abbrev intsV (l : List Int) : AV := .slv l.length 1 (l.map (AV.int .i64))
abbrev strsV (l : List ByteArray) : AV := .slv l.length 1 (l.map AV.str)
theorem ints_at (l : List Int) (k : Nat) (hk : k < l.length) : (l.map (AV.int .i64)).drop ((k : Int).toNat * 1) = AV.int .i64 (l.getD k 0) :: (l.drop (k + 1)).map (AV.int .i64) := by
  rw [Int.toNat_natCast, Nat.mul_one, ← List.map_drop, List.drop_eq_getElem_cons hk, List.map_cons, List.getD_eq_getElem?_getD, List.getElem?_eq_getElem hk]; rfl
theorem strs_at (l : List ByteArray) (k : Nat) (hk : k < l.length) : (l.map AV.str).drop ((k : Int).toNat * 1) = AV.str (l.getD k ByteArray.empty) :: (l.drop (k + 1)).map AV.str := by
  rw [Int.toNat_natCast, Nat.mul_one, ← List.map_drop, List.drop_eq_getElem_cons hk, List.map_cons, List.getD_eq_getElem?_getD, List.getElem?_eq_getElem hk]; rfl
/-- equality, element by element -/
def eqL {α : Type} (f : α → α → Bool) : List α → List α → Bool
  | [], [] => true
  | a :: l, b :: m => f a b && eqL f l m
  | _, _ => false
theorem eqL_len {α : Type} (f : α → α → Bool) : ∀ (l m : List α), l.length ≠ m.length → eqL f l m = false
  | [], [], h => absurd rfl h
  | [], _ :: _, _ => rfl
  | _ :: _, [], _ => rfl
  | a :: l, b :: m, h => by rw [eqL, eqL_len f l m (by simpa using h), Bool.and_false]
theorem eqL_or {α : Type} (f : α → α → Bool) (d : α) : ∀ (l m : List α), l.length = m.length → (eqL f l m = true ∧ ∀ k, k < l.length → f (l.getD k d) (m.getD k d) = true) ∨ (eqL f l m = false ∧ ∃ n, n < l.length ∧ (∀ k, k < n → f (l.getD k d) (m.getD k d) = true) ∧ f (l.getD n d) (m.getD n d) = false)
  | [], [], _ => Or.inl ⟨rfl, fun k h => absurd h (by simp)⟩
  | [], _ :: _, h => by simp at h
  | _ :: _, [], h => by simp at h
  | a :: l, b :: m, h => by
    cases hab : f a b with
    | true =>
      rcases eqL_or f d l m (by simpa using h) with ⟨h1, h2⟩ | ⟨h0, n, h1, h2, h3⟩
      · refine Or.inl ⟨by rw [eqL, hab, h1]; rfl, fun k hk => ?_⟩
        cases k with
        | zero => exact hab
        | succ k => simpa using h2 k (by simpa using hk)
      · refine Or.inr ⟨by rw [eqL, hab, h0]; rfl, n + 1, by simpa using h1, fun k hk => ?_, by simpa using h3⟩
        cases k with
        | zero => exact hab
        | succ k => simpa using h2 k (by omega)
    | false => exact Or.inr ⟨by rw [eqL, hab]; rfl, 0, by simp, fun k hk => by omega, by simpa using hab⟩
theorem getD_mem {α : Type} {l : List α} {k : Nat} (hk : k < l.length) (d : α) : l.getD k d ∈ l := by
  rw [List.getD_eq_getElem?_getD, List.getElem?_eq_getElem hk]; exact List.getElem_mem hk
structure Sig where
  name : ByteArray
  params : List Int
  res : Int
structure Cod where
  name : ByteArray
  params : List Int
  res : Int
  locals : List Int
  ins : List (Int × Int)
structure Obj where
  dir : ByteArray
  sigs : List Sig
  funcs : List Cod
  names : List ByteArray
abbrev sD : Sig := ⟨ByteArray.empty, [], 0⟩
abbrev cD : Cod := ⟨ByteArray.empty, [], 0, [], []⟩
def encI (z : Int × Int) : List AV := [.int .i64 z.1, .int .i64 z.2]
abbrev insV (l : List (Int × Int)) : AV := .slv l.length 2 (flatA encI l)
def encS (s : Sig) : List AV := [.str s.name, intsV s.params, .int .i64 s.res]
def encC (c : Cod) : List AV := [.str c.name, intsV c.params, .int .i64 c.res, intsV c.locals, insV c.ins]
abbrev sigsV (l : List Sig) : AV := .slv l.length 3 (flatA encS l)
abbrev codsV (l : List Cod) : AV := .slv l.length 5 (flatA encC l)
def encO (o : Obj) : List AV := [.str o.dir, sigsV o.sigs, codsV o.funcs, strsV o.names]
theorem lenI (x : Int × Int) : (encI x).length = 2 := rfl
theorem lenS (x : Sig) : (encS x).length = 3 := rfl
theorem lenC (x : Cod) : (encC x).length = 5 := rfl
theorem ins_at (l : List (Int × Int)) (k : Nat) (hk : k < l.length) : (flatA encI l).drop ((k : Int).toNat * 2) = AV.int .i64 (l.getD k (0, 0)).1 :: AV.int .i64 (l.getD k (0, 0)).2 :: flatA encI (l.drop (k + 1)) := flatA_at lenI l (0, 0) k hk
theorem sigs_at (l : List Sig) (k : Nat) (hk : k < l.length) : (flatA encS l).drop ((k : Int).toNat * 3) = AV.str (l.getD k sD).name :: intsV (l.getD k sD).params :: AV.int .i64 (l.getD k sD).res :: flatA encS (l.drop (k + 1)) := flatA_at lenS l sD k hk
theorem cods_at (l : List Cod) (k : Nat) (hk : k < l.length) : (flatA encC l).drop ((k : Int).toNat * 5) = AV.str (l.getD k cD).name :: intsV (l.getD k cD).params :: AV.int .i64 (l.getD k cD).res :: intsV (l.getD k cD).locals :: insV (l.getD k cD).ins :: flatA encC (l.drop (k + 1)) := flatA_at lenC l cD k hk
def OkS (s : Sig) : Prop := s.params.length ≤ 9223372036854775807
def OkC (c : Cod) : Prop := c.params.length ≤ 9223372036854775807 ∧ c.locals.length ≤ 9223372036854775807 ∧ c.ins.length ≤ 9223372036854775807
def eqI (a b : Int) : Bool := a == b
def eqP (a b : Int × Int) : Bool := a.1 == b.1 && a.2 == b.2
def eqB (a b : ByteArray) : Bool := a.toList == b.toList
def eqSig (a b : Sig) : Bool := eqB a.name b.name && (eqL eqI a.params b.params && eqI a.res b.res)
def eqCod (a b : Cod) : Bool := eqB a.name b.name && (eqL eqI a.params b.params && (eqI a.res b.res && (eqL eqI a.locals b.locals && eqL eqP a.ins b.ins)))
def eqObj (a b : Obj) : Bool := eqB a.dir b.dir && (eqL eqSig a.sigs b.sigs && (eqL eqCod a.funcs b.funcs && eqL eqB a.names b.names))
end Go.Proofs.Ytcmbhebgpboepaa
