/-
  The contracts of the functions that the laws of layer 27 call, continued: Pop, PushAll.
-/
import Derived.Test.YtajcfogddgekpaaWalks
import Derived.Test.YtajcfogddgekpaaMaps
namespace Go.Proofs.Ytajcfogddgekpaa
open Go.ChangeShapes Go.WideShapes Go.ChangeAt Go.RowKit
attribute [local go_sem ↓] Go.wp_at_zero Go.wp_at_succ

def eqPP (p q : P2) : Bool := eqP p.1 p.2 q.1 q.2
theorem pair_fields : ∃ f g : Field, Try.prog.underlying 24 = some (.struct #[f, g]) ∧ f.name = "Student" ∧ f.type = 9 ∧ f.offset = 0 ∧ g.name = "Task" ∧ g.type = 9 ∧ g.offset = 1 := by
  have ht : Try.prog.underlying 24 = some (.struct (Try.prog.fieldsOf 24)) := by kernel_rfl
  have hf : (Try.prog.fieldsOf 24).toList.map (fun f => (f.name, f.type, f.offset)) = [("Student", 9, 0), ("Task", 9, 1)] := by kernel_rfl
  obtain ⟨f, r, h1, hf1, hf2⟩ := List.map_eq_cons_iff.1 hf
  obtain ⟨g, r2, h2, hg1, hg2⟩ := List.map_eq_cons_iff.1 hf2
  obtain rfl := List.map_eq_nil_iff.1 hg2
  subst h2
  simp only [Prod.mk.injEq] at hf1 hg1
  refine ⟨f, g, ?_, hf1.1, hf1.2.1, hf1.2.2, hg1.1, hg1.2.1, hg1.2.2⟩
  rw [ht]
  congr 2
  exact Array.toList_inj.1 (by rw [h1])
theorem findAsking_pair (w : World) (p : P2) : ∀ (es : List MapEntry) (kv : List (P2 × Value)) (i : Nat), es.map (fun e => (e.key, e.val)) = kv.map (fun p => (pv p.1, p.2)) →
    (Instr.findAsking 24 (pv p) es i).run Try.prog w = .ok ((kv.findIdx? (fun q => eqPP p q.1)).map fun j => (i + j, (kv[j]?.map (·.2)).getD undef)) w := by
  intro es
  induction es with
  | nil =>
    intro kv i h
    obtain rfl : kv = [] := by simpa using h.symm
    simp [Instr.findAsking]
  | cons e r ih =>
    intro kv i h
    cases kv with
    | nil => simp at h
    | cons q kv =>
      simp only [List.map_cons, List.cons.injEq, Prod.mk.injEq] at h
      obtain ⟨⟨h1, h2⟩, h3⟩ := h
      have he : (Op.equal 24 (pv p) e.key).run Try.prog w = .ok (eqPP p q.1) w := by rw [h1]; exact equalIn_pair w _ _ _ _
      rw [List.findIdx?_cons]
      cases hq : eqPP p q.1
      · simp only [Instr.findAsking, Sem.run_bind, he, hq, Result.andThen_ok]
        simp only [Bool.false_eq_true, if_false]
        rw [ih kv (i + 1) h3, Option.map_map]
        congr 1
        congr 1
        funext j
        simp; omega
      · simp only [Instr.findAsking, Sem.run_bind, he, hq, Result.andThen_ok]
        simp [h2]
theorem keyPair : KeyT Try.prog 24 pv eqPP where
  eq x y := by
    unfold eqPP eqP
    rw [decide_eq_true_iff]
  check w em x := by
    obtain ⟨f, g, ht, h1, h2, h3, h4, h5, h6⟩ := pair_fields
    have n1 : f.name ≠ "_" := by rw [h1]; decide
    have n2 : g.name ≠ "_" := by rw [h4]; decide
    have hp0 : ∀ wx : World, (part 9 #[Value.string x.1, .string x.2] 0).run Try.prog wx = .ok (.string x.1) wx := fun wx => by simp [go_sem]
    have hp1 : ∀ wx : World, (part 9 #[Value.string x.1, .string x.2] 1).run Try.prog wx = .ok (.string x.2) wx := fun wx => by simp [go_sem]
    have hc : ∀ (wx : World) (s : ByteArray), (Instr.checkKey em 9999 9 (.string s)).run Try.prog wx = .ok () wx := fun wx s => by unfold Instr.checkKey; simp [run_underlying Try.underlying9]
    unfold Instr.checkKey
    simp [run_underlying ht, pv, n1, n2, h2, h3, h5, h6, hp0, hp1, hc, Result.andThen]
  find w x es kv h := by
    have hfa := findAsking_pair w x es kv 0 h
    obtain ⟨f, g, ht, _⟩ := pair_fields
    cases es with
    | nil =>
      obtain rfl : kv = [] := by simpa using h.symm
      simp [Instr.findKey, Instr.findNow, run_underlying ht]
    | cons e r =>
      have hn : Instr.findNow (.struct #[f, g]) (pv x) (e :: r) 0 = none := by simp [Instr.findNow, Instr.sameNow]
      simp only [Instr.findKey, Sem.run_bind, run_underlying ht, Result.andThen_ok, hn]
      rw [hfa]
      simp
  stays w x := by
    have hb : ∀ s : ByteArray, (s == s) = true := fun s => by rw [bytes_beq]; simp
    simp [Instr.keyThatStays, Instr.sameBits, pv, hb]

theorem pop_none (a : Option Addr) (cap : Nat) (w : World) :
    Calls Try.prog 12 #[.slice a 0 cap] w fun e w' => e = .returned (.tuple #[.slice none 0 0, pv (⟨#[]⟩, ⟨#[]⟩), .bool false]) ∧ Below w.heap.size w w' := by
  go_enter Try.func12, Try.ntmps12
  go_wp2_with fail
  refine bodyPost_ret (v := .tuple #[.slice none 0 0, pv (⟨#[]⟩, ⟨#[]⟩), .bool false]) (by simp [results, Try.results12, go_sem, pv]) rfl ⟨rfl, ?_⟩
  exact Below.alloc (Below.refl _ _) (Nat.le_refl _) _

theorem RowP.tail {w : World} {a : Option Addr} {len cap : Nat} {p : P2} {ps : List P2} (h : RowP w a (len + 1) cap (p :: ps)) (hcap : len + 1 ≤ cap) :
    ∃ a', (∀ wx : World, (Instr.slice 22 (.slice a (len + 1) cap) (some (.int .i64 1)) none none).run Try.prog wx = .ok (.slice a' len (cap - 1)) wx) ∧ RowP w a' len (cap - 1) ps := by
  have hl := flat_length (p :: ps)
  rw [h.len_eq] at hl
  obtain ⟨a', h1, h2, h3⟩ := slice_row elemPair w a (len + 1) cap 1 1 rfl (flat (p :: ps)) (by omega) hcap hl h.row
  refine ⟨a', h1, by have := h.len_eq; simp at this; exact this, by have := h.small; omega, fun hn => ?_, ?_⟩
  · have := h.nilcap (h3 hn); omega
  · rw [flat_cons] at h2; exact h2

theorem OwnP.set2 {w : World} {base b : Nat} {v x y : Value} {ps : List P2} (h : OwnP w base v ps) (hb : b < base) : OwnP ((w.setCell ⟨b, 0, none⟩ x).setCell ⟨b, 1, none⟩ y) base v ps :=
  ownsRow_setCell_below (ownsRow_setCell_below h hb x) hb y
set_option maxHeartbeats 1000000 in
theorem pop_some (a : Option Addr) (len cap : Nat) (p : P2) (ps : List P2) (w : World) (hR : RowP w a (len + 1) cap (p :: ps)) (hcap : len + 1 ≤ cap) :
    Calls Try.prog 12 #[.slice a ↑(len + 1) cap] w fun e w' => ∃ v, e = .returned (.tuple #[v, pv p, .bool true]) ∧ OwnP w' w.heap.size v ps ∧ Below w.heap.size w w' := by
  have hm := hR.small
  obtain ⟨p1, p2⟩ := p
  obtain ⟨b, off, rfl, hb, hc1, hc2⟩ := hR.at 0 (by omega)
  obtain ⟨a', hsl, hT⟩ := hR.tail hcap
  simp only [Nat.zero_mul, Nat.add_zero, List.getElem_cons_zero] at hc1 hc2
  have hne : b ≠ w.heap.size := by omega
  go_enter Try.func12, Try.ntmps12
  go_wp2_with fail
  have hB0 : Below w.heap.size w (w.alloc (.cells #[.string ⟨#[]⟩, .string ⟨#[]⟩] 24)) := below_alloc _ _
  go_region_held3 (fun w' => w'.cell? ⟨b, off, none⟩ = some (.string p1) ∧ w'.cell? ⟨b, off + 1, none⟩ = some (.string p2) ∧ Below w.heap.size w w') (exact keep2 hc1 hc2 (by go_split_ands; (repeat' (first | (with_reducible exact Below.refl _ _) | (with_reducible assumption) | (with_reducible refine Below.drew ?_) | (with_reducible refine Below.setCell ?_ ?_ _) | (with_reducible refine Below.alloc ?_ ?_ _) | (exact belowT (by assumption) (by assumption)) | (exact belowT (by first | assumption | exact Below.refl _ _ | exact below_alloc _ _ | exact Below.drew (by first | assumption | exact Below.refl _ _)) (by assumption)) | (exact Below.size (by assumption)) | (simp; done) | (simp; omega) | omega)))) (first | (go_at_call 17; go_split_ands; refine (clone_any _ _ _ _ _ (hT.below (by assumption))).mono ?_; rintro e w2 ⟨v, rfl, hown, hb2⟩; have r0 : w2.cell? ⟨w.heap.size, 0, none⟩ = some (.string ⟨#[]⟩) := (hb2.cell (by simp)).trans (by simp); have r1 : w2.cell? ⟨w.heap.size, 1, none⟩ = some (.string ⟨#[]⟩) := (hb2.cell (by simp)).trans (by simp); have f0 : w2.frozen? ⟨w.heap.size, 0, none⟩ = false := (hb2.frozen (by simp)).trans (by simp); have f1 : w2.frozen? ⟨w.heap.size, 1, none⟩ = false := (hb2.frozen (by simp)).trans (by simp); have hsz : w.heap.size < w2.heap.size := by (have := hb2.size; simp at this; omega)))
  go_wp2_with fail
  refine bodyPost_ret (v := .tuple #[v, pv (p1, p2), .bool true]) ?_ rfl ⟨v, rfl, OwnP.base (OwnP.set2 hown (by simp)) (by simp), ?_⟩
  · simp [results, Try.results12, go_sem, pv, r0, r1]
  · exact ((((below_alloc _ _).drew).trans (hb2.mono (by simp))).setCell (Nat.le_refl _) _).setCell (Nat.le_refl _) _

def headP (ps : List P2) : P2 := ps.headD (⟨#[]⟩, ⟨#[]⟩)
theorem pop_any (a : Option Addr) (len cap : Nat) (ps : List P2) (w : World) (hR : RowP w a len cap ps) (hcap : len ≤ cap) :
    Calls Try.prog 12 #[.slice a len cap] w fun e w' => ∃ v, e = .returned (.tuple #[v, .agg #[.string (headP ps).1, .string (headP ps).2], .bool (decide ((0 : Int) < len))]) ∧ OwnP w' w.heap.size v ps.tail ∧ Below w.heap.size w w' := by
  have hl := hR.len_eq
  cases ps with
  | nil =>
    obtain rfl : len = 0 := by simpa using hl.symm
    refine (pop_none a cap w).mono ?_
    rintro e w' ⟨rfl, hb⟩
    exact ⟨.slice none 0 0, rfl, World.ownsRow_nil _ _ _ _, hb⟩
  | cons p r =>
    obtain ⟨m, rfl⟩ : ∃ m, len = m + 1 := ⟨r.length, by simpa using hl.symm⟩
    refine (pop_some a m cap p r w hR hcap).mono ?_
    rintro e w' ⟨v, rfl, ho, hb⟩
    have : decide ((0 : Int) < ((m + 1 : Nat) : Int)) = true := decide_eq_true (by omega)
    exact ⟨v, by rw [this]; rfl, ho, hb⟩
end Go.Proofs.Ytajcfogddgekpaa
