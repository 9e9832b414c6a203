/-
  The logic of values: a run that is reckoned out: what an operation gives where its conditions are reckoned true. Over any program.
-/
import Derived.Test.YtcmbhebgpboepaaVn
namespace Go.Proofs.Ytcmbhebgpboepaa.V
open Go Go.RowKit
set_option linter.unusedSimpArgs false
set_option linter.unusedVariables false

def sideB (c t : Bool) : AV → Bool | .cnd g _ => (c != t) || g | _ => true
theorem sideB_ok {c t : Bool} {x : AV} (h : sideB c t x = true) : allP (side c t x) := by
  cases x <;> first | trivial | skip
  simp only [sideB, side, allP] at h ⊢
  intro he; subst he; simpa using h
def okInt (op : BinOp) (b : Int) : Bool := match op with
  | .quo | .rem => !(b == 0)
  | .shl | .shr => false
  | _ => true
theorem okInt_ok {op : BinOp} {k : IntKind} {a b : Int} (h : okInt op b = true) : allP (intOp op k a b).1 := by
  cases op <;> simp_all [okInt, intOp, allP]
def okStr (op : BinOp) (a b : ByteArray) : Bool := match op with
  | .add => decide (a.size + b.size ≤ 9223372036854775807)
  | .eql | .neq | .lss | .leq | .gtr | .geq => true
  | _ => false
theorem okStr_ok {op : BinOp} {a b : ByteArray} (h : okStr op a b = true) : allP (strOp op a b).1 := by
  cases op <;> simp_all [okStr, strOp, allP]
def okBin (P : Program) (H : List Blk) (op : BinOp) (t : TypeId) (x y : AV) : Bool :=
  match x, y with
  | .int k a, .int k' b =>
    match op with
    | .shl => decide (0 ≤ b)
    | .shr => decide (0 ≤ b)
    | op => decide (k = k') && okInt op b
  | .str a, .str b => okStr op a b
  | .bool a, .bool b =>
    match P.underlying t, op with
    | some .bool, .eql => true
    | some .bool, .neq => true
    | _, _ => false
  | .agg xs, .agg ys =>
    match P.underlying t, op with
    | some (.struct fs), .eql => match eqF P xs ys fs.toList with
      | some e => !P.stoodInHeld t && !P.eqGuardType P.depth t
      | none => false
    | some (.struct fs), .neq => match eqF P xs ys fs.toList with
      | some e => !P.stoodInHeld t && !P.eqGuardType P.depth t
      | none => false
    | _, _ => false
  | x, .nilsl => match P.underlying t, nilS H x, op with
    | some (.slice _), some c, .eql => true
    | some (.slice _), some c, .neq => true
    | _, _, _ => false
  | x, .nilptr => match P.underlying t, nilP H x, op with
    | some (.pointer _), some c, .eql => true
    | some (.pointer _), some c, .neq => true
    | _, _, _ => false
  | _, _ => false
theorem okBin_ok {P : Program} {H : List Blk} {op : BinOp} {t : TypeId} {x y : AV} (h : okBin P H op t x y = true) : allP (binE P H op t x y).1 := by
  unfold okBin at h
  split at h
  · simp only [binE]
    split at h
    · simpa [allP] using h
    · simpa [allP] using h
    · rename_i h1 h2
      simp only [Bool.and_eq_true] at h
      simp only []
      · rw [allP_append, allP_dec]; exact ⟨h.1, okInt_ok h.2⟩
  · unfold binE; exact okStr_ok h
  · unfold binE
    simp only []
    split at h <;> simp_all [allP]
  · unfold binE
    simp only []
    split at h
    · rename_i fs hu
      split at h
      · rename_i e he; simp only [hu, he]; rw [allP_dec]; exact h
      · cases h
    · rename_i fs hu
      split at h
      · rename_i e he; simp only [hu, he]; rw [allP_dec]; exact h
      · cases h
    · cases h
  · unfold binE
    split
    all_goals first
      | (exfalso; simp_all; done)
      | skip
    all_goals (simp_all; try (split at h <;> simp_all [allP]))
  · unfold binE
    split
    all_goals first
      | (exfalso; simp_all; done)
      | skip
    all_goals (simp_all; try (split at h <;> simp_all [allP]))
  · cases h
def okUn (op : UnOp) (x : AV) : Bool :=
  match op, x with
  | .neg, .int k n => true
  | .xor, .int k n => true
  | .not, .bool b => true
  | _, _ => false
theorem okUn_ok {op : UnOp} {x : AV} (h : okUn op x = true) : allP (unE op x).1 := by
  unfold okUn at h; split at h <;> first | trivial | cases h
def okConv (P : Program) (H : List Blk) (src dst : TypeId) (x : AV) : Bool :=
  match P.underlying src, P.underlying dst, x with
  | some (.slice e), some .string, x => match cells1 H x with
    | some cs => cs.all isU8 && isBytes P e
    | none => false
  | some _, some (.int k), .int _ n => true
  | some _, some .string, .str s => true
  | some _, some .string, .int _ n => true
  | _, _, _ => false
theorem okConv_ok {P : Program} {H : List Blk} {src dst : TypeId} {x : AV} (h : okConv P H src dst x = true) : allP (convE P H src dst x).1 := by
  unfold okConv at h
  unfold convE
  split at h
  · rename_i e h1 h2
    split at h
    · rename_i cs hc
      simp only [Bool.and_eq_true] at h
      simp only [h1, h2, hc]
      rw [allP_cons, allP_dec]; exact h
    · cases h
  all_goals first | (cases h; done) | (simp_all [allP]; done) | skip
  all_goals (split <;> simp_all [allP])
def okSlice (P : Program) (H : List Blk) (t : TypeId) (x : AV) (lo hi : Option AV) : Bool :=
  match P.underlying t, x with
  | some .string, .str s => match loE lo, hiE s.size hi with
    | some l, some h => decide (0 ≤ l ∧ l ≤ h ∧ h ≤ s.size)
    | _, _ => false
  | some (.slice e), .slv len sz cs => match loE lo, hiE len hi with
    | some l, some h => decide (0 ≤ l ∧ l ≤ h ∧ h ≤ len) && (knownT P e && sizeT P e == sz)
    | _, _ => false
  | some (.slice e), .sl id st len sz => match loE lo, hiE len hi with
    | some l, some h => decide (0 ≤ l ∧ l ≤ h ∧ h ≤ len) && (knownT P e && (sizeT P e == sz && liveRow H id))
    | _, _ => false
  | some (.slice e), .nilsl => match loE lo, hiE 0 hi with
    | some l, some h => decide (0 ≤ l ∧ l ≤ h ∧ h ≤ 0) && knownT P e
    | _, _ => false
  | _, _ => false
theorem okSlice_ok {P : Program} {H : List Blk} {t : TypeId} {x : AV} {lo hi : Option AV} (h : okSlice P H t x lo hi = true) : allP (sliceE P H t x lo hi).1 := by
  unfold okSlice at h
  unfold sliceE
  split at h
  · rename_i s h1
    split at h
    · rename_i l hh h2 h3; simp only [h1, h2, h3]; simpa [allP] using h
    · cases h
  · rename_i e len sz cs h1
    split at h
    · rename_i l hh h2 h3
      simp only [Bool.and_eq_true, decide_eq_true_eq] at h
      simp only [h1, h2, h3]; rw [allP_cons, allP_dec]; simpa using h
    · cases h
  · rename_i e id st len sz h1
    split at h
    · rename_i l hh h2 h3
      simp only [Bool.and_eq_true, decide_eq_true_eq] at h
      simp only [h1, h2, h3]; rw [allP_cons, allP_dec]; simpa using h
    · cases h
  · rename_i e h1
    split at h
    · rename_i l hh h2 h3
      simp only [Bool.and_eq_true, decide_eq_true_eq] at h
      simp only [h1, h2, h3]; rw [allP_cons, allP_dec]; simpa using h
    · cases h
  · cases h
def okLen (P : Program) (H : List Blk) (t : TypeId) (x : AV) : Bool :=
  match P.underlying t, x with
  | some .string, .str s => true
  | some (.slice _), .slv len _ _ => true
  | some (.slice _), .sl id _ len _ => liveRow H id
  | some (.slice _), .nilsl => true
  | some (.map _ _), .nilmap => true
  | some (.map _ _), .map id => match H[id]? with | some (.map kv) => true | _ => false
  | _, _ => false
theorem okLen_ok {P : Program} {H : List Blk} {t : TypeId} {x : AV} (h : okLen P H t x = true) : allP (lenE P H t x).1 := by
  unfold okLen at h
  unfold lenE
  split at h
  · rename_i s h1; simp [h1, allP]
  · rename_i h1; simp [h1, allP]
  · rename_i h1; simp only [h1]; rw [allP_dec]; exact h
  · rename_i h1; simp [h1, allP]
  · rename_i h1; simp [h1, allP]
  · rename_i h1
    split at h
    · rename_i kv hk; simp [h1, hk, allP]
    · cases h
  · cases h
def okIdx (P : Program) (H : List Blk) (t : TypeId) (x : AV) (i : Int) : Bool :=
  match P.underlying t, x with
  | some (.slice e), .slv len sz cs => decide (0 ≤ i ∧ i < len) && (knownT P e && sizeT P e == sz)
  | some (.slice e), .sl id st len sz => decide (0 ≤ i ∧ i < len) && (knownT P e && (sizeT P e == sz && (match H[id]? with | some (.row _ _) => true | _ => false)))
  | some (.array n e), a => decide (0 ≤ i ∧ i < n) && (knownT P e && liveAddr H a)
  | _, _ => false
theorem okIdx_ok {P : Program} {H : List Blk} {t : TypeId} {x : AV} {i : Int} (h : okIdx P H t x i = true) : allP (indexAddrE P H t x i).1 := by
  unfold okIdx at h
  unfold indexAddrE
  split at h
  · rename_i h1
    rw [Bool.and_eq_true, decide_eq_true_eq] at h
    simp only [h1]; rw [allP_cons, allP_dec]; exact h
  · rename_i h1
    rw [Bool.and_eq_true, decide_eq_true_eq] at h
    simp only [h1]; rw [allP_cons, allP_dec]; exact h
  · rename_i h1
    rw [Bool.and_eq_true, decide_eq_true_eq] at h
    simp only [h1]; rw [allP_cons, allP_dec]; exact h
  · cases h
def okPure (P : Program) (H : List Blk) (ev : Operand → AV) : Op → Bool
  | .move x => true
  | .assign x => true
  | .pick c a b => match ev c with | .bool t => sideB t true (ev a) && sideB t false (ev b) | _ => false
  | .build t parts => match buildE P H ev t parts with | some ds => true | none => false
  | .load t x => match cellsAt H (ev x) with
    | some cs => knownT P t && decide ((bif isAggT P t then sizeT P t else 1) ≤ cs.length)
    | none => false
  | .nilCheck x => liveAddr H (ev x)
  | .binOp op t x y _ => okBin P H op t (ev x) (ev y)
  | .unOp op _ x => okUn op (ev x)
  | .convert a b x => okConv P H a b (ev x)
  | .slice t x lo hi none => okSlice P H t (ev x) (lo.map ev) (hi.map ev)
  | .fieldAddr s x f => match fieldOf P s f with
    | some fd => liveAddr H (ev x) && (knownT P fd.type && sizeT P fd.type != 0)
    | none => false
  | .field s x f => match fieldOf P s f, ev x with
    | some fd, .agg cs => knownT P fd.type && decide (fd.offset < cs.length)
    | _, _ => false
  | .indexAddr t x i => match ev i with | .int _ n => okIdx P H t (ev x) n | _ => false
  | .index t x i => match P.underlying t, ev x, ev i with
    | some .string, .str s, .int _ n => decide (0 ≤ n ∧ n < s.size)
    | some (.array len e), .agg cs, .int _ n => decide (0 ≤ n ∧ n < len) && (knownT P e && decide (n.toNat * sizeT P e < cs.length))
    | _, _, _ => false
  | .extract x i => match ev x with | .tuple xs => decide (i < xs.length) | _ => false
  | .call ⟨.builtin .len, ⟨[x]⟩, ⟨[t]⟩⟩ => okLen P H t (ev x)
  | .call ⟨.builtin .max, ⟨[x, y]⟩, _⟩ => match ev x, ev y with | .int k a, .int _ b => true | _, _ => false
  | .call ⟨.builtin .min, ⟨[x, y]⟩, _⟩ => match ev x, ev y with | .int k a, .int _ b => true | _, _ => false
  | _ => false
theorem okPure_ok {P : Program} {H : List Blk} {ev : Operand → AV} {op : Op} (h : okPure P H ev op = true) : allP (pureE P H ev op).1 := by
  unfold okPure at h
  split at h
  · trivial
  · trivial
  · unfold pureE
    split at h
    · rename_i t ht
      simp only [Bool.and_eq_true] at h
      simp only [ht]; rw [allP_append]; exact ⟨sideB_ok h.1, sideB_ok h.2⟩
    · cases h
  · unfold pureE
    split at h
    · rename_i ds hd; simp [hd, allP]
    · cases h
  · unfold pureE
    split at h
    · rename_i cs hc
      simp only [Bool.and_eq_true, decide_eq_true_eq] at h
      simp only [hc]; rw [allP_append, allP_dec]; exact h
    · cases h
  · unfold pureE; rw [allP_dec]; exact h
  · unfold pureE; exact okBin_ok h
  · unfold pureE; exact okUn_ok h
  · unfold pureE; exact okConv_ok h
  · unfold pureE; exact okSlice_ok h
  · unfold pureE
    split at h
    · rename_i fd hf; simp only [hf]; rw [allP_dec]; exact h
    · cases h
  · unfold pureE
    split at h
    · rename_i fd cs hf hx
      simp only [Bool.and_eq_true, decide_eq_true_eq] at h
      simp only [hf, hx]; rw [allP_append, allP_dec]; exact h
    · cases h
  · unfold pureE
    split at h
    · rename_i n hi; simp only [hi]; exact okIdx_ok h
    · cases h
  · unfold pureE
    split at h
    · rename_i hu hx hi; simp only [hu, hx, hi]; simpa [allP] using h
    · rename_i hu hx hi
      simp only [Bool.and_eq_true, decide_eq_true_eq] at h
      simp only [hu, hx, hi]; rw [List.cons_append, allP_cons, allP_append, allP_dec]; exact h
    · cases h
  · unfold pureE
    split at h
    · rename_i xs hx; simp only [hx]; rw [allP_dec]; exact h
    · cases h
  · unfold pureE; exact okLen_ok h
  · unfold pureE
    split at h
    · rename_i h1 h2; simp [h1, h2, allP]
    · cases h
  · unfold pureE
    split at h
    · rename_i h1 h2; simp [h1, h2, allP]
    · cases h
  · cases h
end Go.Proofs.Ytcmbhebgpboepaa.V
