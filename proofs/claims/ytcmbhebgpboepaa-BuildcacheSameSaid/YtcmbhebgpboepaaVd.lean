/-
  The logic of values: arithmetic, comparisons, conversions, slice expressions, lengths; all reading operations in one function. Over any program.
-/
import Derived.Test.YtcmbhebgpboepaaVc
import Derived.Laws.StructEq
namespace Go.Proofs.Ytcmbhebgpboepaa.V
open Go Go.RowKit
set_option linter.unusedSimpArgs false
set_option linter.unusedVariables false

theorem rep_int {p : Pl} {w : World} {v : Value} {k : IntKind} {n : Int} (h : Rep p w v (.int k n)) : v = .int k n := by
  simp only [Rep, RepT, Rep1, Rep0] at h; cases h; rfl
theorem rep_str {p : Pl} {w : World} {v : Value} {s : ByteArray} (h : Rep p w v (.str s)) : v = .string s := by
  simp only [Rep, RepT, Rep1, Rep0] at h; cases h; rfl
theorem rep_nilsl {p : Pl} {w : World} {v : Value} (h : Rep p w v .nilsl) : v = .slice none 0 0 := by
  simp only [Rep, RepT, Rep1, Rep0] at h; cases h; rfl
theorem rep_nilptr {p : Pl} {w : World} {v : Value} (h : Rep p w v .nilptr) : v = .pointer none := by
  simp only [Rep, RepT, Rep1, Rep0] at h; cases h; rfl
theorem rep_nilmap {p : Pl} {w : World} {v : Value} (h : Rep p w v .nilmap) : v = .map none := by
  simp only [Rep, RepT, Rep1, Rep0] at h; cases h; rfl
theorem mk_bool (p : Pl) (w : World) (b : Bool) : Rep p w (.bool b) (.bool b) := RepF.rep (.bool b)
theorem mk_int (p : Pl) (w : World) (k : IntKind) (n : Int) : Rep p w (.int k n) (.int k n) := RepF.rep (.int k n)
theorem mk_str (p : Pl) (w : World) (s : ByteArray) : Rep p w (.string s) (.str s) := RepF.rep (.str s)

def liveRow (H : List Blk) (id : Nat) : Bool := match H[id]? with | some (.row _ _) => true | _ => false
theorem liveRow_spec {p : Pl} {H : List Blk} {w : World} {id : Nat} (hH : RH p H w) (h : liveRow H id = true) : ∃ q, p.at_ id = some q := by
  unfold liveRow at h
  split at h
  · rename_i t xs hb; exact hH.live hb
  · cases h

/-- is a slice, a pointer nil? -/
def nilS (H : List Blk) : AV → Option Bool
  | .nilsl => some true
  | .slv len _ _ => if decide (0 < len) then some false else none
  | .sl id _ len _ => if liveRow H id && decide (0 < len) then some false else none
  | .slc id _ _ c _ => if liveRow H id && decide (0 < c) then some false else none
  | _ => none
def nilP (H : List Blk) : AV → Option Bool
  | .nilptr => some true
  | .ptr id o => if liveAddr H (.ptr id o) then some false else none
  | .fptr _ => some false
  | _ => none
def intOp (op : BinOp) (k : IntKind) (a b : Int) : List Prop × AV :=
  match op with
  | .add => ([], .int k (k.wrap (a + b)))
  | .sub => ([], .int k (k.wrap (a - b)))
  | .mul => ([], .int k (k.wrap (a * b)))
  | .quo => ([b ≠ 0], .int k (k.wrap (a.tdiv b)))
  | .rem => ([b ≠ 0], .int k (a.tmod b))
  | .and => ([], .int k (k.wrap ((BitVec.ofInt k.bits a &&& BitVec.ofInt k.bits b).toNat)))
  | .or => ([], .int k (k.wrap ((BitVec.ofInt k.bits a ||| BitVec.ofInt k.bits b).toNat)))
  | .xor => ([], .int k (k.wrap ((BitVec.ofInt k.bits a ^^^ BitVec.ofInt k.bits b).toNat)))
  | .andNot => ([], .int k (k.wrap ((BitVec.ofInt k.bits a &&& ~~~ BitVec.ofInt k.bits b).toNat)))
  | .eql => ([], .bool (a == b))
  | .neq => ([], .bool (a != b))
  | .lss => ([], .bool (decide (a < b)))
  | .leq => ([], .bool (decide (a ≤ b)))
  | .gtr => ([], .bool (decide (a > b)))
  | .geq => ([], .bool (decide (a ≥ b)))
  | _ => ([False], .junk)
def strOp (op : BinOp) (a b : ByteArray) : List Prop × AV :=
  match op with
  | .add => ([a.size + b.size ≤ 9223372036854775807], .str (a ++ b))
  | .eql => ([], .bool (a.toList == b.toList))
  | .neq => ([], .bool (!(a.toList == b.toList)))
  | .lss => ([], .bool (Op.bytesLess a.toList b.toList))
  | .leq => ([], .bool (Op.bytesLess a.toList b.toList || a.toList == b.toList))
  | .gtr => ([], .bool (!(Op.bytesLess a.toList b.toList || a.toList == b.toList)))
  | .geq => ([], .bool (!(Op.bytesLess a.toList b.toList)))
  | _ => ([False], .junk)
/-- are two structs of plain fields equal? -/
def eqLeaf (d : Option TypeDesc) (x y : AV) : Option Bool := match d, x, y with
  | some (.int _), .int k a, .int l b => bif decide (k = l) then some (a == b) else none
  | some .string, .str a, .str b => some (a.toList == b.toList)
  | some .bool, .bool a, .bool b => some (a == b)
  | _, _, _ => none
def eqF (P : Program) (xs ys : List AV) : List Field → Option Bool
  | [] => some true
  | f :: fs => bif f.name == "_" then eqF P xs ys fs else
    match eqLeaf (P.underlying f.type) (xs.getD f.offset .junk) (ys.getD f.offset .junk), eqF P xs ys fs with
    | some e, some e' => some (e && e')
    | _, _ => none
def binE (P : Program) (H : List Blk) (op : BinOp) (t : TypeId) (x y : AV) : List Prop × AV :=
  match x, y with
  | .int k a, .int k' b =>
    match op with
    | .shl => ([0 ≤ b], .int k (k.wrap (a * 2 ^ min b.toNat k.bits)))
    | .shr => ([0 ≤ b], .int k (a.fdiv (2 ^ min b.toNat k.bits)))
    | op => (dec (decide (k = k')) ++ (intOp op k a b).1, (intOp op k a b).2)
  | .str a, .str b => strOp op a b
  | .bool a, .bool b =>
    match P.underlying t, op with
    | some .bool, .eql => ([], .bool (a == b))
    | some .bool, .neq => ([], .bool (!(a == b)))
    | _, _ => ([False], .junk)
  | .agg xs, .agg ys =>
    match P.underlying t, op with
    | some (.struct fs), .eql => match eqF P xs ys fs.toList with
      | some e => (dec (!P.stoodInHeld t && !P.eqGuardType P.depth t), .bool e)
      | none => ([False], .junk)
    | some (.struct fs), .neq => match eqF P xs ys fs.toList with
      | some e => (dec (!P.stoodInHeld t && !P.eqGuardType P.depth t), .bool (!e))
      | none => ([False], .junk)
    | _, _ => ([False], .junk)
  | x, .nilsl => match P.underlying t, nilS H x, op with
    | some (.slice _), some c, .eql => ([], .bool c)
    | some (.slice _), some c, .neq => ([], .bool (!c))
    | _, _, _ => ([False], .junk)
  | x, .nilptr => match P.underlying t, nilP H x, op with
    | some (.pointer _), some c, .eql => ([], .bool c)
    | some (.pointer _), some c, .neq => ([], .bool (!c))
    | _, _, _ => ([False], .junk)
  | _, _ => ([False], .junk)
theorem binOp_rd_int (P : Program) (op : BinOp) (t : TypeId) (k : IntKind) (a b : Int) (p : Pl) (w : World) (hok : allP (intOp op k a b).1) (hs : op ≠ .shl ∧ op ≠ .shr) : Rd P p w (binOp op t (.int k a) (.int k b)) (intOp op k a b).2 := by
  unfold binOp
  cases op <;> simp only [intOp, allP, ne_eq, not_true_eq_false, and_self, and_true, true_and] at hok hs ⊢
  case quo | rem => exact ⟨_, mk_int _ _ _ _, fun w' _ => by simp [Op.intDiv, hok]⟩
  case add | sub | mul => exact ⟨_, mk_int _ _ _ _, fun w' _ => by simp [Op.intArith]⟩
  case and | or | xor | andNot => exact ⟨_, mk_int _ _ _ _, fun w' _ => by simp [Op.intBits]⟩
  case eql | neq | lss | leq | gtr | geq => exact ⟨_, mk_bool _ _ _, fun w' _ => by simp [Op.intCmp]⟩
theorem binOp_rd_str (P : Program) (op : BinOp) (t : TypeId) (a b : ByteArray) (p : Pl) (w : World) (hok : allP (strOp op a b).1) : Rd P p w (binOp op t (.string a) (.string b)) (strOp op a b).2 := by
  unfold binOp
  cases op <;> simp only [strOp, allP] at hok ⊢
  case add => exact ⟨_, mk_str _ _ _, fun w' _ => by
    have : ¬ ((a.size + b.size : Nat) : Int) > IntKind.i64.max := by
      have : IntKind.i64.max = 9223372036854775807 := by decide
      omega
    simp only [Op.stringOp, if_neg this, Sem.run_pure]⟩
  case eql | neq | lss | leq | gtr | geq => exact ⟨_, mk_bool _ _ _, fun w' _ => by simp only [Op.stringOp, Sem.run_pure]⟩
theorem nilS_rd {p : Pl} {H : List Blk} {w : World} {v : Value} {x : AV} {c : Bool} {P : Program} {t e : TypeId} (hH : RH p H w) (h : Rep p w v x) (hc : nilS H x = some c) (ht : P.underlying t = some (.slice e)) :
    (∃ a l c', v = .slice a l c') ∧ ∀ w' : World, (Op.equal t v (.slice none 0 0)).run P w' = .ok c w' := by
  have key : ∀ a l c', v = .slice a l c' → a.isNone = c → (∃ a l c', v = .slice a l c') ∧ ∀ w' : World, (Op.equal t v (.slice none 0 0)).run P w' = .ok c w' := by
    rintro a l c' rfl rfl
    refine ⟨⟨a, l, c', rfl⟩, fun w' => ?_⟩
    unfold Op.equal Op.maxDepth Op.equalIn
    cases a <;> simp only [Sem.run_bind, run_underlying ht, Result.andThen_ok, Sem.run_pure] <;> rfl
  cases x <;> simp only [nilS] at hc <;> try cases hc
  case nilsl => cases rep_nilsl h; exact key _ _ _ rfl rfl
  case slv =>
    split at hc
    · rename_i hl
      simp only [decide_eq_true_eq] at hl
      cases hc
      obtain ⟨oa, ad, cap, rfl, ho, hcap, _⟩ := at_slv h
      refine key _ _ _ rfl ?_
      rcases ho with rfl | ⟨_, h0⟩
      · rfl
      · omega
    · cases hc
  case sl id a b d =>
    split at hc
    · rename_i hl
      cases hc
      simp only [Bool.and_eq_true, decide_eq_true_eq] at hl
      obtain ⟨g, hg⟩ := liveRow_spec hH hl.1
      obtain ⟨ad, cap, rfl, hcap, _, _, hn, _⟩ := h.2 g hg
      refine key _ _ _ rfl ?_
      cases ad with
      | none => have := hn rfl; omega
      | some _ => rfl
    · cases hc
  case slc id a b c d =>
    split at hc
    · rename_i hl
      cases hc
      simp only [Bool.and_eq_true, decide_eq_true_eq] at hl
      obtain ⟨g, hg⟩ := liveRow_spec hH hl.1
      obtain ⟨ad, cap, rfl, hcap, _, _, hn, _, hcc⟩ := h.2 g hg
      refine key _ _ _ rfl ?_
      cases ad with
      | none => exact absurd rfl (hcc hl.2).1
      | some _ => rfl
    · cases hc
theorem nilP_rd {p : Pl} {H : List Blk} {w : World} {v : Value} {x : AV} {c : Bool} {P : Program} {t e : TypeId} (hH : RH p H w) (h : Rep p w v x) (hc : nilP H x = some c) (ht : P.underlying t = some (.pointer e)) :
    (∃ a, v = .pointer a) ∧ ∀ w' : World, (Op.equal t v (.pointer none)).run P w' = .ok c w' := by
  have key : ∀ a, v = .pointer a → a.isNone = c → (∃ a, v = .pointer a) ∧ ∀ w' : World, (Op.equal t v (.pointer none)).run P w' = .ok c w' := by
    rintro a rfl rfl
    refine ⟨⟨a, rfl⟩, fun w' => ?_⟩
    unfold Op.equal Op.maxDepth Op.equalIn
    cases a <;> simp only [Sem.run_bind, run_underlying ht, Result.andThen_ok, Sem.run_pure] <;> rfl
  cases x <;> simp only [nilP] at hc <;> try cases hc
  case nilptr => cases rep_nilptr h; exact key _ rfl rfl
  case fptr => obtain ⟨ad, rfl, _⟩ := at_fptr h; exact key _ rfl rfl
  case ptr a b =>
    split at hc
    · rename_i hl
      cases hc
      obtain ⟨q, hq⟩ := (liveAddr_spec hH hl).2 _ _ rfl
      obtain ⟨g, _, rfl⟩ := h.2 q hq
      exact key _ rfl rfl
    · cases hc
theorem binOp_eql_other (P : Program) (t : TypeId) (v u : Value) (h : (∃ a l c b m d, v = .slice a l c ∧ u = .slice b m d) ∨ (∃ a b, v = .bool a ∧ u = .bool b)) (c : Bool) (w' : World) (he : (Op.equal t v u).run P w' = .ok c w') :
    (binOp .eql t v u).run P w' = .ok (.bool c) w' ∧ (binOp .neq t v u).run P w' = .ok (.bool (!c)) w' := by
  rcases h with ⟨a, l, c', b, m, d, rfl, rfl⟩ | ⟨a, b, rfl, rfl⟩ <;> constructor <;> (unfold binOp; simp [he])
theorem binOp_eql_ptr (P : Program) (t : TypeId) (v u : Value) (h : (∃ a b, v = .pointer a ∧ u = .pointer b)) (c : Bool) (w' : World) (he : (Op.equal t v u).run P w' = .ok c w') :
    (binOp .eql t v u).run P w' = .ok (.bool c) w' ∧ (binOp .neq t v u).run P w' = .ok (.bool (!c)) w' := by
  rcases h with ⟨a, b, rfl, rfl⟩; constructor <;> (unfold binOp; simp [he])

def unE (op : UnOp) (x : AV) : List Prop × AV :=
  match op, x with
  | .neg, .int k n => ([], .int k (k.wrap (0 - n)))
  | .xor, .int k n => ([], .int k (k.wrap ((BitVec.ofInt k.bits (if k.signed then -1 else k.max) ^^^ BitVec.ofInt k.bits n).toNat)))
  | .not, .bool b => ([], .bool !b)
  | _, _ => ([False], .junk)
def isU8 : AV → Bool | .int .u8 _ => true | _ => false
def numV : AV → Int | .int _ n => n | _ => 0
def isBytes (P : Program) (e : TypeId) : Bool := match P.underlying e with | some (.int .u8) => true | _ => false
/-- the cells of a slice of one cell an element -/
def cells1 (H : List Blk) : AV → Option (List AV)
  | .slv _ 1 cs => some cs
  | .sl id st len 1 => match H[id]? with | some (.row _ xs) => bif decide (st + len ≤ xs.length) then some ((xs.drop st).take len) else none | _ => none
  | .nilsl => some []
  | _ => none
def convE (P : Program) (H : List Blk) (src dst : TypeId) (x : AV) : List Prop × AV :=
  match P.underlying src, P.underlying dst, x with
  | some (.slice e), some .string, x => match cells1 H x with
    | some cs => ((cs.all isU8 = true) :: dec (isBytes P e), .str (strOfNums (cs.map numV)))
    | none => ([False], .junk)
  | some _, some (.int k), .int _ n => ([], .int k (k.wrap n))
  | some _, some .string, .str s => ([], .str s)
  | some _, some .string, .int _ n => ([], .str (Utf8.encode n))
  | _, _, _ => ([False], .junk)
def loE (lo : Option AV) : Option Int := match lo with | none => some 0 | some (.int _ n) => some n | _ => none
def hiE (len : Nat) (hi : Option AV) : Option Int := match hi with | none => some len | some (.int _ n) => some n | _ => none
def sliceE (P : Program) (H : List Blk) (t : TypeId) (x : AV) (lo hi : Option AV) : List Prop × AV :=
  match P.underlying t, x with
  | some .string, .str s => match loE lo, hiE s.size hi with
    | some l, some h => ([0 ≤ l ∧ l ≤ h ∧ h ≤ s.size], .str (s.extract l.toNat h.toNat))
    | _, _ => ([False], .junk)
  | some (.slice e), .slv len sz cs => match loE lo, hiE len hi with
    | some l, some h => ((0 ≤ l ∧ l ≤ h ∧ h ≤ len) :: dec (knownT P e && sizeT P e == sz), .slv (h.toNat - l.toNat) sz ((cs.drop (l.toNat * sz)).take ((h.toNat - l.toNat) * sz)))
    | _, _ => ([False], .junk)
  | some (.slice e), .sl id st len sz => match loE lo, hiE len hi with
    | some l, some h => ((0 ≤ l ∧ l ≤ h ∧ h ≤ len) :: dec (knownT P e && (sizeT P e == sz && liveRow H id)), .sl id (st + l.toNat * sz) (h.toNat - l.toNat) sz)
    | _, _ => ([False], .junk)
  | some (.slice e), .nilsl => match loE lo, hiE 0 hi with
    | some l, some h => ((0 ≤ l ∧ l ≤ h ∧ h ≤ 0) :: dec (knownT P e), .nilsl)
    | _, _ => ([False], .junk)
  | _, _ => ([False], .junk)
def lenE (P : Program) (H : List Blk) (t : TypeId) (x : AV) : List Prop × AV :=
  match P.underlying t, x with
  | some .string, .str s => ([], .int .i64 s.size)
  | some (.slice _), .slv len _ _ => ([], .int .i64 len)
  | some (.slice _), .sl id _ len _ => (dec (liveRow H id), .int .i64 len)
  | some (.slice _), .nilsl => ([], .int .i64 0)
  | some (.map _ _), .nilmap => ([], .int .i64 0)
  | some (.map _ _), .map id => match H[id]? with | some (.map kv) => ([], .int .i64 kv.length) | _ => ([False], .junk)
  | _, _ => ([False], .junk)

theorem unE_rd {P : Program} {p : Pl} {w : World} {op : UnOp} {v : Value} {x : AV} (h : Rep p w v x) (hok : allP (unE op x).1) : Rd P p w (Op.unary op v) (unE op x).2 := by
  unfold unE at hok ⊢
  split at hok
  · cases rep_int h; exact ⟨_, mk_int _ _ _ _, fun w' _ => by simp [Op.unary, Op.intArith]⟩
  · cases rep_int h; exact ⟨_, mk_int _ _ _ _, fun w' _ => by simp [Op.unary, Op.intBits]⟩
  · cases rep_bool h; exact ⟨_, mk_bool _ _ _, fun w' _ => by simp [Op.unary]⟩
  · exact hok.elim
theorem u8_val {p : Pl} {w : World} {v : Value} {x : AV} (h : RepC p w v x) (hx : isU8 x = true) : v = .int .u8 (numV x) := by
  cases x <;> simp [isU8] at hx
  rename_i k n
  cases k <;> simp [isU8] at hx
  have := h.2
  simp only [Rep0] at this
  cases this
  rfl
theorem at_cells1 {P : Program} {p : Pl} {H : List Blk} {w : World} {v : Value} {x : AV} {cs : List AV} (hH : RH p H w) (h : Rep p w v x) (hc : cells1 H x = some cs) :
    ∃ oa ad cap, v = .slice oa cs.length cap ∧ (oa = some ad ∨ (oa = none ∧ cs = [])) ∧ AtAddr p w ad cs := by
  unfold cells1 at hc
  split at hc
  · rename_i len cs0
    cases hc
    obtain ⟨oa, ad, cap, h1, h2, h3, h4, h5, h6, h7⟩ := at_slv h
    rw [Nat.mul_one] at h6
    rw [← h6] at h1
    refine ⟨oa, ad, cap, h1, h2.imp (fun h => h) (fun ⟨ha, hb⟩ => ⟨ha, List.eq_nil_of_length_eq_zero (by omega)⟩), h7⟩
  · rename_i id st len
    split at hc
    · rename_i t xs hb
      cases hle : decide (st + len ≤ xs.length) <;> rw [hle] at hc
      · cases hc
      · simp only [cond_true, Option.some.injEq] at hc
        subst hc
        have hle := of_decide_eq_true hle
        have hcl : ((xs.drop st).take len).length = len := by rw [List.length_take, List.length_drop]; omega
        simp only [Rep, RepT, Rep1, Rep0] at h
        obtain ⟨_, h⟩ := h
        rw [hcl]
        rcases hH.row hb with ⟨q1, q2⟩ | ⟨g, cur, q1, q2, q3, q4⟩
        · obtain ⟨a, cap, a1, a2, a3, a4, a5, a6⟩ := h _ q1
          subst q2
          simp only [List.length_nil] at hle
          have hz : len = 0 := by omega
          subst hz
          refine ⟨a, (a.getD ⟨0, 0, none⟩), cap, a1, ?_, fun i hi => by simp at hi⟩
          cases a with
          | none => exact Or.inr ⟨rfl, by simp⟩
          | some a => exact Or.inl rfl
        · obtain ⟨a, cap, a1, a2, a3, a4, a5, a6⟩ := h _ q1
          rcases Nat.eq_zero_or_pos len with h0 | h0
          · subst h0
            refine ⟨a, (a.getD ⟨0, 0, none⟩), cap, a1, ?_, fun i hi => by simp at hi⟩
            cases a with
            | none => exact Or.inr ⟨rfl, by simp⟩
            | some a => exact Or.inl rfl
          · rcases a6 with a6 | ⟨g', e1, e2, _⟩
            · omega
            · cases e1
              refine ⟨a, ⟨g, st, none⟩, cap, a1, Or.inl e2, fun i hi => ?_⟩
              rw [hcl] at hi
              obtain ⟨u, u1, u2⟩ := q4 (st + i) (by omega)
              refine ⟨rfl, (Array.getElem?_eq_some_iff.1 q2).1, u, ?_, ?_⟩
              · simp only [World.cell?, q2]
                exact u1
              · rw [List.getElem_take, List.getElem_drop]
                exact u2
    · cases hc
  · cases hc
    cases rep_nilsl h
    exact ⟨none, ⟨0, 0, none⟩, 0, rfl, Or.inr ⟨rfl, rfl⟩, fun i hi => by simp at hi⟩
  · cases hc
theorem convE_rd {P : Program} {p : Pl} {H : List Blk} {w : World} {src dst : TypeId} {v : Value} {x : AV} (hH : RH p H w) (h : Rep p w v x) (hok : allP (convE P H src dst x).1) : Rd P p w (Go.convert src dst v) (convE P H src dst x).2 := by
  unfold convE at hok ⊢
  split at hok
  · rename_i e h1 h2
    split at hok
    · rename_i cs hc
      rw [allP_cons, allP_dec] at hok
      obtain ⟨hall, hby⟩ := hok
      have he : P.underlying e = some (.int .u8) := by
        unfold isBytes at hby
        split at hby
        · assumption
        · cases hby
      obtain ⟨oa, ad, cap, rfl, hoa, hat⟩ := at_cells1 (P := P) hH h hc
      refine ⟨_, mk_str _ _ _, fun w' hb => ?_⟩
      rcases hoa with rfl | ⟨rfl, rfl⟩
      · obtain ⟨us, hu, hcell⟩ := hat.list
        have hus : us = (cs.map numV).map (Value.int .u8) := by
          refine List.ext_getElem (by simp [hu.1]) fun i q1 q2 => ?_
          have hic : i < cs.length := by rw [← hu.1]; exact q1
          have := u8_val (hu.2 i q1 hic) (List.all_eq_true.1 hall _ (List.getElem_mem hic))
          simpa using this
        have hl : (loadCells ad cs.length).run P w' = .ok ((cs.map numV).map (Value.int .u8)).toArray w' := by
          have := run_loadCells_list (P := P) w' ad us (fun j v hj => hcell w' hb j v hj)
          rw [hu.1] at this
          rw [← hus]
          exact this
        rw [run_convert_bytes_string w' src dst e _ _ _ h1 he h2, run_bytesToString w' ad cs.length cap (cs.map numV) hl, foldl_push_bytes]
        simp [strOfNums, ByteArray.empty, ByteArray.emptyWithCapacity]
        rfl
      · exact run_convert_bytes_nil (P := P) w' src e h1 he 0 cap dst h2
    · exact hok.elim
  · rename_i d k _ n h1 h2
    try simp only [h1, h2]
    cases rep_int h
    exact ⟨_, mk_int _ _ _ _, fun w' _ => by cases d <;> simp [Go.convert, run_underlying h1, run_underlying h2, Conv.intToInt]⟩
  · rename_i d s h1 h2
    try simp only [h1, h2]
    cases rep_str h
    exact ⟨_, mk_str _ _ _, fun w' _ => by cases d <;> simp [Go.convert, run_underlying h1, run_underlying h2]⟩
  · rename_i d _ n h1 h2
    try simp only [h1, h2]
    cases rep_int h
    exact ⟨_, mk_str _ _ _, fun w' _ => by cases d <;> simp [Go.convert, run_underlying h1, run_underlying h2, Conv.intToString]⟩
  · exact hok.elim

/-- the value of a bound -/
def RepO (p : Pl) (w : World) : Option Value → Option AV → Prop
  | none, none => True
  | some v, some x => Rep p w v x
  | _, _ => False
theorem run_bounds {P : Program} {p : Pl} {w : World} {lv hv : Option Value} {lo hi : Option AV} (hl : RepO p w lv lo) (hh : RepO p w hv hi) {isSl : Bool} {len cap : Nat} {l h : Int} (h1 : loE lo = some l) (h2 : hiE len hi = some h) (hb : 0 ≤ l ∧ l ≤ h ∧ h ≤ len) (hc : len ≤ cap) (w' : World) :
    (Instr.sliceBounds isSl len cap lv hv none).run P w' = .ok (l.toNat, h.toNat, cap) w' := by
  have key : (match hv with | some v => Instr.sliceBound v cap (if isSl then .sliceAcap else .sliceAlen) | none => pure len : Sem Nat).run P w' = .ok h.toNat w' := by
    cases hi with
    | none =>
      cases hv with
      | none => simp [hiE] at h2; subst h2; simp
      | some v => exact hh.elim
    | some x =>
      cases hv with
      | none => exact hh.elim
      | some v =>
        cases x <;> simp [hiE] at h2
        subst h2
        cases rep_int hh
        simp only [Instr.sliceBound, asIntOf, Sem.run_bind, Sem.run_pure, Result.andThen_ok]
        rw [if_pos (by omega)]
        rfl
  have key2 : (match lv with | some v => Instr.sliceBound v h.toNat .sliceB | none => pure 0 : Sem Nat).run P w' = .ok l.toNat w' := by
    cases lo with
    | none =>
      cases lv with
      | none => simp [loE] at h1; subst h1; simp
      | some v => exact hl.elim
    | some x =>
      cases lv with
      | none => exact hl.elim
      | some v =>
        cases x <;> simp [loE] at h1
        subst h1
        cases rep_int hl
        simp only [Instr.sliceBound, asIntOf, Sem.run_bind, Sem.run_pure, Result.andThen_ok]
        rw [if_pos (by omega)]
        rfl
  unfold Instr.sliceBounds
  cases hv <;> cases lv <;> (try simp only [Sem.run_bind, Sem.run_pure, Result.andThen_ok, Option.isSome_none, Bool.false_eq_true, if_false] at key key2 ⊢) <;> (try simp only [key, Result.andThen_ok, key2, Sem.run_pure]) <;> simp_all
theorem leaf_at {p : Pl} {w : World} {vs : Array Value} {xs : List AV} (h : RepL (RepC p w) vs.toList xs) {o : Nat} {x : AV} (hx : xs.getD o .junk = x) (hn : x ≠ .junk) : ∃ v, vs[o]? = some v ∧ Rep p w v x := by
  by_cases ho : o < xs.length
  · have hv : o < vs.toList.length := by rw [h.1]; exact ho
    refine ⟨vs[o]'(by simpa using hv), by simp [show o < vs.size by simpa using hv], ?_⟩
    have := (h.2 o hv ho).2.rep
    rw [getD_get _ _ ho] at hx
    rw [hx] at this
    simpa using this
  · rw [List.getD_eq_getElem?_getD, List.getElem?_eq_none (by omega)] at hx
    exact absurd hx.symm hn
theorem run_part_leaf {P : Program} {t : TypeId} {d : TypeDesc} (hu : P.underlying t = some d) (hd : (match d with | .struct _ => false | .array _ _ => false | _ => true) = true) {vs : Array Value} {o : Nat} {v : Value} (hv : vs[o]? = some v) (w : World) : (part t vs o).run P w = .ok v w := by
  have ha : (isAgg t).run P w = .ok false w := by
    unfold isAgg
    simp only [Sem.run_bind, run_underlying hu, Result.andThen_ok]
    cases d <;> first | rfl | (simp at hd)
  simp [part, ha, hv]
theorem eqLeaf_run {P : Program} {p : Pl} {w : World} {t : TypeId} {vs us : Array Value} {xs ys : List AV} {o : Nat} {e : Bool} (h1 : RepL (RepC p w) vs.toList xs) (h2 : RepL (RepC p w) us.toList ys) (he : eqLeaf (P.underlying t) (xs.getD o .junk) (ys.getD o .junk) = some e) (d : Nat) (w' : World) :
    ∃ a b, (part t vs o).run P w' = .ok a w' ∧ (part t us o).run P w' = .ok b w' ∧ (Op.equalIn (d + 1) t a b).run P w' = .ok e w' := by
  unfold eqLeaf at he
  split at he
  · rename_i kk k a l b hu hx hy
    obtain ⟨v, hv, hr⟩ := leaf_at h1 hx (by simp)
    obtain ⟨u, hu', hs⟩ := leaf_at h2 hy (by simp)
    cases rep_int hr; cases rep_int hs
    by_cases hkl : k = l
    · subst hkl
      simp only [decide_true, cond_true, Option.some.injEq] at he
      subst he
      exact ⟨_, _, run_part_leaf hu rfl hv w', run_part_leaf hu rfl hu' w', by unfold Op.equalIn; simp [run_underlying hu]⟩
    · simp [hkl] at he
  · rename_i a b hu hx hy
    obtain ⟨v, hv, hr⟩ := leaf_at h1 hx (by simp)
    obtain ⟨u, hu', hs⟩ := leaf_at h2 hy (by simp)
    cases rep_str hr; cases rep_str hs
    cases he
    exact ⟨_, _, run_part_leaf hu rfl hv w', run_part_leaf hu rfl hu' w', by unfold Op.equalIn; simp only [Sem.run_bind, run_underlying hu, Result.andThen_ok, Sem.run_pure, beq_toListBytes]⟩
  · rename_i a b hu hx hy
    obtain ⟨v, hv, hr⟩ := leaf_at h1 hx (by simp)
    obtain ⟨u, hu', hs⟩ := leaf_at h2 hy (by simp)
    cases rep_bool hr; cases rep_bool hs
    cases he
    exact ⟨_, _, run_part_leaf hu rfl hv w', run_part_leaf hu rfl hu' w', by unfold Op.equalIn; simp [run_underlying hu]⟩
  · cases he
theorem eqF_run {P : Program} {p : Pl} {w : World} {vs us : Array Value} {xs ys : List AV} (h1 : RepL (RepC p w) vs.toList xs) (h2 : RepL (RepC p w) us.toList ys) (d : Nat) (w' : World) : ∀ (fs : List Field) (e : Bool), eqF P xs ys fs = some e → (Op.eqFields (d + 1) vs us fs).run P w' = .ok e w'
  | [], e, h => by cases h; rfl
  | f :: fs, e, h => by
    unfold eqF at h
    unfold Op.eqFields
    by_cases hn : f.name = "_"
    · rw [if_neg (by simp [hn])]
      simp only [hn, beq_self_eq_true, cond_true] at h
      exact eqF_run h1 h2 d w' fs e h
    · rw [if_pos hn]
      simp only [beq_eq_false_iff_ne.2 hn, cond_false] at h
      split at h
      · rename_i e1 e2 he1 he2
        cases h
        obtain ⟨a, b, r1, r2, r3⟩ := eqLeaf_run h1 h2 he1 d w'
        have r4 := eqF_run h1 h2 d w' fs e2 he2
        simp only [Sem.run_bind, r1, r2, r3, Result.andThen_ok]
        cases e1 with
        | true => simpa using r4
        | false => rfl
      · cases h
theorem eqS_run {P : Program} {p : Pl} {w : World} {t : TypeId} {fs : Array Field} {vs us : Array Value} {xs ys : List AV} (hu : P.underlying t = some (.struct fs)) (h1 : RepL (RepC p w) vs.toList xs) (h2 : RepL (RepC p w) us.toList ys) {e : Bool} (he : eqF P xs ys fs.toList = some e) (hp : P.stoodInHeld t = false) (w' : World) :
    (Op.equalIn 10000 t (.agg vs) (.agg us)).run P w' = .ok e w' := by
  have hf : P.fieldsOf t = fs := by unfold Program.fieldsOf; rw [hu]
  rw [run_equalIn_struct w' 9999 t vs us (by rw [hf]; exact hu) hp, hf]
  exact eqF_run h1 h2 9998 w' fs.toList e he
end Go.Proofs.Ytcmbhebgpboepaa.V
