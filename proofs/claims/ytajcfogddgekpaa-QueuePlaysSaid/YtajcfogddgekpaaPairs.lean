/-
  Rows of pairs of strings, and what the functions of layer 27 do to them, as plain lists.
-/
import Derived.Test.YtajcfogddgekpaaLib
import Derived.Laws.StructEq
import Derived.Deep.QuietTactic
import Derived.BigQuiet
namespace Go.Proofs.Ytajcfogddgekpaa
open Go.ChangeShapes Go.WideShapes Go.ChangeAt Go.RowKit

abbrev P2 := ByteArray × ByteArray
def pv (p : P2) : Value := .agg #[.string p.1, .string p.2]
def flat (ps : List P2) : List Value := ps.flatMap fun p => [.string p.1, .string p.2]
theorem flat_length (ps : List P2) : (flat ps).length = ps.length * 2 := by
  induction ps with
  | nil => rfl
  | cons p r ih => simp only [flat, List.flatMap_cons, List.length_append, List.length_cons, List.length_nil] at *; omega
theorem flat_cons (p : P2) (ps : List P2) : flat (p :: ps) = .string p.1 :: .string p.2 :: flat ps := rfl
theorem flat_append (a b : List P2) : flat (a ++ b) = flat a ++ flat b := by simp [flat]
theorem flat_even (ps : List P2) (k : Nat) (h : k < ps.length) : (flat ps)[k * 2]? = some (.string ps[k].1) := by
  induction ps generalizing k with
  | nil => simp at h
  | cons p r ih =>
    cases k with
    | zero => rfl
    | succ k =>
      rw [flat_cons, show (k + 1) * 2 = k * 2 + 1 + 1 by omega, List.getElem?_cons_succ, List.getElem?_cons_succ]
      exact ih k (by simpa using h)
theorem flat_odd (ps : List P2) (k : Nat) (h : k < ps.length) : (flat ps)[k * 2 + 1]? = some (.string ps[k].2) := by
  induction ps generalizing k with
  | nil => simp at h
  | cons p r ih =>
    cases k with
    | zero => rfl
    | succ k =>
      rw [flat_cons, show (k + 1) * 2 + 1 = k * 2 + 1 + 1 + 1 by omega, List.getElem?_cons_succ, List.getElem?_cons_succ]
      exact ih k (by simpa using h)
theorem flat_take (ps : List P2) (k : Nat) : (flat ps).take (k * 2) = flat (ps.take k) := by
  induction ps generalizing k with
  | nil => simp [flat]
  | cons p r ih =>
    cases k with
    | zero => simp [flat]
    | succ k => rw [flat_cons, show (k + 1) * 2 = k * 2 + 1 + 1 by omega, List.take_succ_cons, List.take_succ_cons, ih, List.take_succ_cons, flat_cons]
theorem flat_oneCell (ps : List P2) : ∀ u ∈ flat ps, u.oneCell' = true := by
  intro u hu
  simp only [flat, List.mem_flatMap] at hu
  obtain ⟨p, _, h⟩ := hu
  simp at h
  rcases h with rfl | rfl <;> rfl

/-- a slice of pairs that reads as ps -/
structure RowP (w : World) (a : Option Addr) (len cap : Nat) (ps : List P2) : Prop where
  len_eq : ps.length = len
  small : len ≤ 1000000000
  nilcap : a = none → cap = 0
  row : RowV w a (flat ps)
theorem RowP.below {w w' : World} {a : Option Addr} {len cap : Nat} {ps : List P2} (h : RowP w a len cap ps) (hb : Below w.heap.size w w') : RowP w' a len cap ps := ⟨h.len_eq, h.small, h.nilcap, h.row.below hb⟩
/-- a row of the call's own -/
def OwnP (w : World) (base : Nat) (v : Value) (ps : List P2) : Prop := w.ownsRow base 24 2 v ps.length (flat ps)
theorem OwnP.rowP {w : World} {base : Nat} {v : Value} {ps : List P2} (h : OwnP w base v ps) (hs : ps.length ≤ 1000000000) : ∃ a cap, v = .slice a ps.length cap ∧ RowP w a ps.length cap ps := by
  have h' := h
  obtain ⟨a, cap, rfl, hr⟩ := RowV.of_owns h
  refine ⟨a, cap, rfl, rfl, hs, fun ha => ?_, hr⟩
  subst ha
  rcases h'.2 with ⟨h1, _⟩ | ⟨g, c, cur, h1, _⟩
  · simp at h1; omega
  · simp at h1
theorem RowP.at {w : World} {a : Option Addr} {len cap : Nat} {ps : List P2} (h : RowP w a len cap ps) (k : Nat) (hk : k < len) :
    ∃ b off, a = some ⟨b, off, none⟩ ∧ b < w.heap.size ∧ w.cell? ⟨b, off + k * 2, none⟩ = some (.string (ps[k]'(by rw [h.len_eq]; exact hk)).1) ∧ w.cell? ⟨b, off + k * 2 + 1, none⟩ = some (.string (ps[k]'(by rw [h.len_eq]; exact hk)).2) := by
  have hl := flat_length ps
  rw [h.len_eq] at hl
  obtain ⟨b, off, h1, h2, h3⟩ := h.row.addr (by omega)
  have hk' : k < ps.length := by rw [h.len_eq]; exact hk
  refine ⟨b, off, h1, h2, ?_, ?_⟩
  · have := flat_even ps k hk'
    rw [List.getElem?_eq_getElem (by omega)] at this
    rw [h3 (k * 2) (by omega)]; exact this
  · have := flat_odd ps k hk'
    rw [List.getElem?_eq_getElem (by omega)] at this
    rw [Nat.add_assoc, h3 (k * 2 + 1) (by omega)]; exact this

theorem bytes_beq (a b : ByteArray) : (a == b) = decide (a = b) := by
  rw [beq_toListBytes, ByteArray.toList_eq, ByteArray.toList_eq, Bool.eq_iff_iff, beq_iff_eq, decide_eq_true_iff]
  constructor
  · intro h
    cases a; cases b
    exact congrArg ByteArray.mk (Array.toList_inj.1 h)
  · intro h; rw [h]
def eqP (s1 t1 s2 t2 : ByteArray) : Bool := decide ((s1, t1) = (s2, t2))
theorem eqP_eq (s1 t1 s2 t2 : ByteArray) : eqP s1 t1 s2 t2 = (s1.toList == s2.toList && t1.toList == t2.toList) := by
  rw [← beq_toListBytes, ← beq_toListBytes, bytes_beq, bytes_beq, eqP, Bool.eq_iff_iff]; simp
theorem equalIn_pair (w : World) (s1 t1 s2 t2 : ByteArray) : (Op.equalIn 10000 24 (.agg #[.string s1, .string t1]) (.agg #[.string s2, .string t2])).run Try.prog w = .ok (eqP s1 t1 s2 t2) w := by
  have ht : Try.prog.underlying 24 = some (.struct (Try.prog.fieldsOf 24)) := by kernel_rfl
  have hp : Try.prog.stoodInHeld 24 = false := by kernel_rfl
  have hf : (Try.prog.fieldsOf 24).toList.map (fun f => (f.name, f.type, f.offset)) = [("Student", 9, 0), ("Task", 9, 1)] := by kernel_rfl
  have hsz : Try.prog.cellsOf 9 = 1 := by kernel_rfl
  rw [run_equalIn_struct _ _ _ _ _ ht hp]
  generalize (Try.prog.fieldsOf 24).toList = fs at hf
  obtain ⟨f, r, rfl, hf1, hf2⟩ := List.map_eq_cons_iff.1 hf
  obtain ⟨g, r2, rfl, hg1, hg2⟩ := List.map_eq_cons_iff.1 hf2
  obtain rfl := List.map_eq_nil_iff.1 hg2
  simp only [Prod.mk.injEq] at hf1 hg1
  obtain ⟨h1, h2, h3⟩ := hf1
  obtain ⟨h4, h5, h6⟩ := hg1
  rw [eqP_eq]
  have n1 : f.name ≠ "_" := by rw [h1]; decide
  have n2 : g.name ≠ "_" := by rw [h4]; decide
  simp only [Op.eqFields, if_pos n1, if_pos n2, h2, h3, h5, h6]
  simp [go_sem]
  by_cases q1 : s1.toList = s2.toList <;> by_cases q2 : t1.toList = t2.toList <;> simp [q1, q2]
theorem eql_pair (w : World) (s1 t1 s2 t2 : ByteArray) : (binOp .eql 24 (.agg #[.string s1, .string t1]) (.agg #[.string s2, .string t2])).run Try.prog w = .ok (.bool (eqP s1 t1 s2 t2)) w := by
  rw [run_eql_struct, equalIn_pair]; rfl
theorem neq_pair (w : World) (s1 t1 s2 t2 : ByteArray) : (binOp .neq 24 (.agg #[.string s1, .string t1]) (.agg #[.string s2, .string t2])).run Try.prog w = .ok (.bool (!eqP s1 t1 s2 t2)) w := by
  rw [run_neq_struct, equalIn_pair]; rfl

def hasP (ps : List P2) (p : P2) : Bool := ps.any fun q => eqP q.1 q.2 p.1 p.2
theorem hasP_succ (ps : List P2) (p : P2) (k : Nat) (h : k < ps.length) : hasP (ps.take (k + 1)) p = (hasP (ps.take k) p || eqP ps[k].1 ps[k].2 p.1 p.2) := by
  unfold hasP
  rw [List.take_succ_eq_append_getElem h, List.any_append]
  simp
theorem hasP_found (ps : List P2) (p : P2) (k : Nat) (h : k < ps.length) (he : eqP ps[k].1 ps[k].2 p.1 p.2 = true) : hasP ps p = true := by
  unfold hasP
  exact List.any_eq_true.2 ⟨ps[k], List.getElem_mem h, he⟩
theorem _root_.Go.RowKit.Below.drewN {B : Nat} {a w : World} (h : Below B a w) (n : Nat) : Below B a (w.drewN n) := ⟨h.os, h.tape, h.output, h.size, h.block⟩
set_option maxHeartbeats 400000 in
theorem refHas_any (a : Option Addr) (len cap : Nat) (ps : List P2) (p : P2) (w : World) (hR : RowP w a len cap ps) :
    Calls Try.prog 15 #[.slice a len cap, .agg #[.string p.1, .string p.2]] w fun e w' => e = .returned (.bool (hasP ps p)) ∧ Below w.heap.size w w' := by
  have hm := hR.small
  have heq := eql_pair
  obtain ⟨p1, p2⟩ := p
  go_enter Try.func15, Try.ntmps15
  go_wp2
  go_loopw [5] (fun i wr => ∃ k : Nat, k ≤ len ∧ i = .int .i64 k ∧ Below w.heap.size w wr ∧ wr.cell? ⟨w.heap.size, 0, none⟩ = some (.string p1) ∧ wr.cell? ⟨w.heap.size, 1, none⟩ = some (.string p2) ∧ hasP (ps.take k) (p1, p2) = false) (fun i _ => len - (intOf i).toNat)
  case atStart => exact ⟨0, Nat.zero_le _, rfl, below_alloc _ _, by simp, by simp, rfl⟩
  case round =>
    obtain ⟨k, hk, rfl, hB, hx1, hx2, hno⟩ := hrel
    by_cases hlt : k < len
    · obtain ⟨b, off, rfl, hb, hc1, hc2⟩ := hR.at k hlt
      rw [← hB.cell (p := ⟨b, _, none⟩) hb] at hc1 hc2
      cases hq : eqP (ps[k]'(by rw [hR.len_eq]; exact hlt)).1 (ps[k]'(by rw [hR.len_eq]; exact hlt)).2 p1 p2
      · go_wp2
        go_quiet (fail)
        go_wp2
        go_roundw
        case rel => exact ⟨k + 1, by omega, by go_num, hB.drewN _, hx1, hx2, by rw [hasP_succ _ _ _ (by rw [hR.len_eq]; exact hlt), hno, hq]; rfl⟩
        case measure => simp [intOf]; omega
      · go_wp2
        go_quiet (fail)
        go_wp2
        go_ret
        exact ⟨ret_bool (hasP_found _ _ _ (by rw [hR.len_eq]; exact hlt) hq).symm, hB.drewN _⟩
    · obtain rfl : k = len := by omega
      go_wp2
      go_ret
      exact ⟨ret_bool (by rw [← hno, List.take_of_length_le (by rw [hR.len_eq]; omega)]), hB⟩
end Go.Proofs.Ytajcfogddgekpaa
