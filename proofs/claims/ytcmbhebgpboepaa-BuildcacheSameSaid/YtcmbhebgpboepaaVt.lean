/-
  The logic of values: a run that is reckoned out: operations that make or write blocks, regions, code, functions. Over any program.
-/
import Derived.Test.YtcmbhebgpboepaaVs
import Derived.Test.YtcmbhebgpboepaaVw
import Derived.Lib.Bytealg
namespace Go.Proofs.Ytcmbhebgpboepaa.V
open Go Go.RowKit
set_option linter.unusedSimpArgs false
set_option linter.unusedVariables false

abbrev CF := FuncId → List AV → List Blk → Option (AV × List Blk)
def CFok (P : Program) (cf : CF) : Prop := ∀ f args H av H', cf f args H = some (av, H') → CallsV P f args H fun a b => a = av ∧ b = H'
def dstB (H : List Blk) (e : TypeId) (sz : Nat) : AV → Option (Option Nat × Nat × List AV)
  | .nilsl => some (none, 0, [])
  | .sl id 0 len sz' => match H[id]? with
    | some (.row e' r) => bif e' == e && (sz' == sz && decide (len * sz ≤ r.length)) then some (some id, len, r.take (len * sz)) else none
    | _ => none
  | _ => none
theorem dstB_ok {H : List Blk} {e : TypeId} {sz : Nat} {x : AV} {k : Option Nat} {len : Nat} {xs : List AV} (h : dstB H e sz x = some (k, len, xs)) : IsDst H e sz x k len xs := by
  unfold dstB at h
  split at h
  · cases h; exact Or.inl ⟨rfl, rfl, rfl, rfl⟩
  · rename_i id len' sz'
    split at h
    · rename_i e' r hb
      rw [cond_eq_ite] at h
      split at h
      · rename_i hc
        simp only [Bool.and_eq_true, beq_iff_eq, decide_eq_true_eq] at hc
        obtain ⟨rfl, rfl, hl⟩ := hc
        cases h
        exact Or.inr ⟨id, r, rfl, rfl, hb, rfl, hl⟩
      · cases h
    · cases h
  · cases h
def srcB (H : List Blk) (sz : Nat) : AV → Option (Nat × List AV)
  | .slv m sz' ys => bif sz' == sz then some (m, ys) else none
  | .nilsl => some (0, [])
  | .sl id st m sz' => match H[id]? with
    | some (.row _ r) => bif sz' == sz && decide (st + m * sz ≤ r.length) then some (m, (r.drop st).take (m * sz)) else none
    | _ => none
  | _ => none
theorem srcB_ok {H : List Blk} {sz : Nat} {y : AV} {m : Nat} {ys : List AV} (h : srcB H sz y = some (m, ys)) : IsSrc H sz y m ys := by
  unfold srcB at h
  split at h
  · rename_i m' sz' ys'
    rw [cond_eq_ite] at h
    split at h
    · rename_i hc; rw [beq_iff_eq] at hc; subst hc; cases h; exact Or.inl rfl
    · cases h
  · cases h; exact Or.inr (Or.inl ⟨rfl, rfl, rfl⟩)
  · rename_i id st m' sz'
    split at h
    · rename_i t r hb
      rw [cond_eq_ite] at h
      split at h
      · rename_i hc
        simp only [Bool.and_eq_true, beq_iff_eq, decide_eq_true_eq] at hc
        obtain ⟨rfl, hl⟩ := hc
        cases h
        exact Or.inr (Or.inr ⟨id, st, t, r, rfl, hb, rfl, hl⟩)
      · cases h
    · cases h
  · cases h
/-- operations that make blocks and turn none -/
def newB (P : Program) (s : St) : Op → Option (AV × List Blk)
  | .box t x => match cellsAV s.H (s.ev x) with
    | some cs => some (.ptr s.H.length 0, s.H ++ [.row t cs])
    | none => none
  | .alloc t => match zeroL P t with
    | some cs => some (.ptr s.H.length 0, s.H ++ [.row t cs])
    | none => none
  | .buildSlice t len parts => match sliceLitE P s.H s.ev (elemTy P t) len parts with
    | some ds => bif elT P t (elemTy P t) (sizeT P (elemTy P t)) (bytesT P (elemTy P t)) && (knownT P (elemTy P t) && (decide (len * sizeT P (elemTy P t) ≤ 16777216) && ds.length == len * sizeT P (elemTy P t)))
        then some (.sl s.H.length 0 len (sizeT P (elemTy P t)), s.H ++ [.row (elemTy P t) ds]) else none
    | none => none
  | .makeSlice t l c => match zeroL P (elemTy P t), s.ev l, s.ev c with
    | some zs, .int _ n, .int _ m => bif elT P t (elemTy P t) (sizeT P (elemTy P t)) (bytesT P (elemTy P t)) && (decide (0 ≤ n ∧ n ≤ m) && (decide ((bytesT P (elemTy P t) : Int) * m ≤ 281474976710656) && decide (m ≤ 9223372036854775807)))
        then some (.sl s.H.length 0 n.toNat (sizeT P (elemTy P t)), s.H ++ [.row (elemTy P t) (zerosL zs (m.toNat * sizeT P (elemTy P t)))]) else none
    | _, _, _ => none
  | .convert src dst x => match P.underlying src, P.underlying dst, s.ev x with
    | some _, some (.slice e), .str b => bif isBytes P e && decide (b.size ≤ maxLen) then some (.slv b.size 1 (bytesAV b), s.H) else none
    | _, _, _ => none
  | .makeFunc f fs cs => bif (fs.toList.all fun x => leafOK s.H (s.ev x)) && (cs.toList.all fun x => leafOK s.H (s.ev x)) then some (.fn f (fs.toList.map s.ev) (cs.toList.map s.ev), s.H) else none
  | .range t x => match P.underlying t, s.ev x with
    | some .string, .str b => some (.iter s.H.length, s.H ++ [.iter b 0])
    | _, _ => none
  | .slice t x lo hi none => match P.underlying t, s.ev x with
    | some (.pointer arr), .ptr id off => match P.underlying arr, s.H[id]? with
      | some (.array n e), some (.row _ xs) => match loE (lo.map s.ev), hiE n (hi.map s.ev) with
        | some l, some h => bif knownT P e && (Nat.blt 0 (sizeT P e) && (decide (0 ≤ l ∧ l ≤ h ∧ h ≤ n) && (Nat.ble (off + n * sizeT P e) xs.length && Nat.ble n maxLen)))
            then some (.sl id (off + l.toNat * sizeT P e) (h.toNat - l.toNat) (sizeT P e), s.H) else none
        | _, _ => none
      | _, _ => none
    | some (.array n e), .ptr id off => match s.H[id]? with
      | some (.row _ xs) => match loE (lo.map s.ev), hiE n (hi.map s.ev) with
        | some l, some h => bif knownT P e && (Nat.blt 0 (sizeT P e) && (decide (0 ≤ l ∧ l ≤ h ∧ h ≤ n) && (Nat.ble (off + n * sizeT P e) xs.length && Nat.ble n maxLen)))
            then some (.sl id (off + l.toNat * sizeT P e) (h.toNat - l.toNat) (sizeT P e), s.H) else none
        | _, _ => none
      | _ => none
    | _, _ => none
  | .slice t x lo (some hi) (some mx) => match P.underlying t, s.ev x with
    | some (.slice e), .sl id st len sz => match s.H[id]?, loE (lo.map s.ev), s.ev hi, s.ev mx with
      | some (.row _ _), some l, .int _ h, .int _ m => bif knownT P e && (Nat.beq (sizeT P e) sz && decide (0 ≤ l ∧ l ≤ h ∧ h ≤ m ∧ m ≤ len)) then some (.sl id (st + l.toNat * sz) (h.toNat - l.toNat) sz, s.H) else none
      | _, _, _, _ => none
    | _, _ => none
  | .sliceToArrayPointer arr x => match P.underlying arr, s.ev x with
    | some (.array n _), .sl id st len sz => match s.H[id]? with
      | some (.row _ _) => bif Nat.blt 0 n && Nat.ble n len then some (.ptr id st, s.H) else none
      | _ => none
    | some (.array n _), .slv len sz cs => bif Nat.blt 0 n && Nat.ble n len then some (.fptr cs, s.H) else none
    | _, _ => none
  | .makeMap t none => some (.map s.H.length, s.H ++ [.map []])
  | .lookup t x i ok => match P.underlying t with
    | some (.map kt et) => match entA s.H (s.ev x), zeroA P et with
      | some kv, some z => match findA (P.underlying kt) (s.ev i) kv with
        | some r => bif leafD (P.underlying kt) then some (match r with | some j => lookA ok (kv.getD j (.junk, .junk)).2 true | none => lookA ok z false, s.H) else none
        | none => none
      | _, _ => none
    | _ => none
  | _ => none
theorem newB_ok {P : Program} {s : St} {o : Oper} {x : AV} {H' : List Blk} (h : newB P s o.op = some (x, H')) : OpB P o s fun a b => a = x ∧ b = H' := by
  unfold newB at h
  split at h
  · rename_i t y hop
    split at h
    · rename_i cs hc; cases h; exact op_box hop hc ⟨rfl, rfl⟩
    · cases h
  · rename_i t hop
    split at h
    · rename_i cs hc; cases h; exact op_alloc hop hc ⟨rfl, rfl⟩
    · cases h
  · rename_i t len parts hop
    split at h
    · rename_i ds hd
      rw [cond_eq_ite] at h
      split at h
      · rename_i hc
        simp only [Bool.and_eq_true, beq_iff_eq] at hc
        cases h
        exact op_sliceLit hop hc.1 hc.2.1 hd hc.2.2.1 hc.2.2.2 ⟨rfl, rfl⟩
      · cases h
    · cases h
  · rename_i t l c hop
    split at h
    · rename_i zs _ n _ m hz hl hc'
      rw [cond_eq_ite] at h
      split at h
      · rename_i hc
        simp only [Bool.and_eq_true, decide_eq_true_eq] at hc
        cases h
        exact op_makeSlice hop hc.1 hz hl hc' hc.2.1.1 hc.2.1.2 hc.2.2.1 hc.2.2.2 ⟨rfl, rfl⟩
      · cases h
    · cases h
  · rename_i src dst y hop
    split at h
    · rename_i u e b hs hd hx
      rw [cond_eq_ite] at h
      split at h
      · rename_i hc
        simp only [Bool.and_eq_true, decide_eq_true_eq] at hc
        have he : P.underlying e = some (.int .u8) := by
          have h1 := hc.1
          unfold isBytes at h1
          split at h1
          · rename_i he; exact he
          · cases h1
        cases h
        exact op_strBytes hop hs hd he hx hc.2 ⟨rfl, rfl⟩
      · cases h
    · cases h
  · rename_i f fs cs hop
    rw [cond_eq_ite] at h
    split at h
    · rename_i hc
      simp only [Bool.and_eq_true, List.all_eq_true] at hc
      cases h
      exact op_makeFunc hop hc.1 hc.2 ⟨rfl, rfl⟩
    · cases h
  · rename_i t y hop
    split at h
    · rename_i b ht hx; cases h; exact op_range hop ht hx ⟨rfl, rfl⟩
    · cases h
  · rename_i t y lo hi hop
    split at h
    · rename_i arr id off ht hx
      split at h
      · rename_i n e t' xs ha hb
        split at h
        · rename_i l h' hl hh
          rw [cond_eq_ite] at h
          split at h
          · rename_i hc
            simp only [Bool.and_eq_true, decide_eq_true_eq, Nat.blt_eq, Nat.ble_eq] at hc
            cases h
            exact op_arrSlice hop ht ha hc.1 hx hb hc.2.1 hl hh hc.2.2.1 hc.2.2.2.1 hc.2.2.2.2 ⟨rfl, rfl⟩
          · cases h
        · cases h
      · cases h
    · rename_i n e id off ha hx
      split at h
      · rename_i t' xs hb
        split at h
        · rename_i l h' hl hh
          rw [cond_eq_ite] at h
          split at h
          · rename_i hc
            simp only [Bool.and_eq_true, decide_eq_true_eq, Nat.blt_eq, Nat.ble_eq] at hc
            cases h
            exact op_arrSliceA hop ha hc.1 hx hb hc.2.1 hl hh hc.2.2.1 hc.2.2.2.1 hc.2.2.2.2 ⟨rfl, rfl⟩
          · cases h
        · cases h
      · cases h
    · cases h
  · rename_i t y lo hi mx hop
    split at h
    · rename_i e id st len sz ht hx
      split at h
      · rename_i t' xs l kh h' km m hb hl hh hm
        rw [cond_eq_ite] at h
        split at h
        · rename_i hc
          simp only [Bool.and_eq_true, decide_eq_true_eq] at hc
          cases h
          exact op_slice3 hop ht hc.1 (Nat.eq_of_beq_eq_true hc.2.1) hx hb hl hh hm hc.2.2 ⟨rfl, rfl⟩
        · cases h
      · cases h
    · cases h
  · rename_i arr y hop
    split at h
    · rename_i n e id st len sz ha hx
      split at h
      · rename_i t' xs hb
        rw [cond_eq_ite] at h
        split at h
        · rename_i hc
          simp only [Bool.and_eq_true, Nat.blt_eq, Nat.ble_eq] at hc
          cases h
          exact op_arrAt hop ha hx hb hc.1 hc.2 ⟨rfl, rfl⟩
        · cases h
      · cases h
    · rename_i n e len sz cs ha hx
      rw [cond_eq_ite] at h
      split at h
      · rename_i hc
        simp only [Bool.and_eq_true, Nat.blt_eq, Nat.ble_eq] at hc
        cases h
        exact op_arrAtV hop ha hx hc.1 hc.2 ⟨rfl, rfl⟩
      · cases h
    · cases h
  · rename_i t hop; cases h; exact op_makeMap hop ⟨rfl, rfl⟩
  · rename_i t y i ok hop
    split at h
    · rename_i kt et ht
      split at h
      · rename_i kv z hx hz
        split at h
        · rename_i r hf
          rw [cond_eq_ite] at h
          split at h
          · rename_i hd
            injection h with h
            injection h with h1 h2
            subst h1 h2
            exact op_lookup hop ht hd hx hf hz ⟨by cases r <;> rfl, rfl⟩
          · cases h
        · cases h
      · cases h
    · cases h
  · cases h
def updB (P : Program) (s : St) (t : TypeId) (m k v : Operand) : Option (AV × List Blk) := match P.underlying t, s.ev m with
  | some (.map kt _), .map id => match s.H[id]? with
    | some (.map kv) => match findA (P.underlying kt) (s.ev k) kv with
      | some r => bif leafD (P.underlying kt) && (notTup (s.ev k) && notTup (s.ev v)) then some (.junk, s.H.set id (.map (updA kv r (s.ev k) (s.ev v)))) else none
      | none => none
    | _ => none
  | _, _ => none
theorem updB_ok {P : Program} {s : St} {o : Oper} {t : TypeId} {m k v : Operand} {x : AV} {H' : List Blk} (ho : o.op = .mapUpdate t m k v ∨ o.op = .insert t m k v) (h : updB P s t m k v = some (x, H')) : OpV P o s fun a b => a = x ∧ b = H' := by
  unfold updB at h
  split at h
  · rename_i kt et id ht hm
    split at h
    · rename_i kv hb
      split at h
      · rename_i r hf
        rw [cond_eq_ite] at h
        split at h
        · rename_i hc
          simp only [Bool.and_eq_true] at hc
          cases h
          exact op_mapUpdate ho ht hc.1 hm hb hf hc.2.1 hc.2.2 ⟨rfl, rfl⟩
        · cases h
      · cases h
    · cases h
  · cases h
/-- all that blocks do, without calls -/
def turnB (P : Program) (s : St) : Op → Option (AV × List Blk)
  | .store t x y => match s.ev x, cellsAV s.H (s.ev y) with
    | .ptr id off, some cs => match s.H[id]? with
      | some (.row t' xs) => bif (knownT P t && sizeT P t == cs.length) && decide (off + cs.length ≤ xs.length) then some (.junk, s.H.set id (.row t' (xs.take off ++ cs ++ xs.drop (off + cs.length)))) else none
      | _ => none
    | _, _ => none
  | .call ⟨.builtin .append, ⟨[x, y]⟩, ⟨[t, t']⟩⟩ => match s.ev y with
   | .str bs => match dstB s.H (elemTy P t) 1 (s.ev x), P.underlying t' with
    | some (k, len, xs), some .string => bif elT P t (elemTy P t) 1 (bytesT P (elemTy P t)) && (decide ((len + bs.size) * bytesT P (elemTy P t) ≤ 140737488355328) && decide (len + bs.size ≤ maxLen))
        then some (.sl s.H.length 0 (len + bs.size) 1, killB s.H k ++ [.row (elemTy P t) (xs ++ bytesAV bs)]) else none
    | _, _ => none
   | _ => match dstB s.H (elemTy P t) (sizeT P (elemTy P t)) (s.ev x), srcB s.H (sizeT P (elemTy P t)) (s.ev y) with
    | some (k, len, xs), some (m, ys) => bif t' == t && (elT P t (elemTy P t) (sizeT P (elemTy P t)) (bytesT P (elemTy P t)) && (decide ((len + m) * bytesT P (elemTy P t) ≤ 140737488355328) && decide (len + m ≤ maxLen)))
        then some (.sl s.H.length 0 (len + m) (sizeT P (elemTy P t)), killB s.H k ++ [.row (elemTy P t) (xs ++ ys)]) else none
    | _, _ => none
  | .next x true => match s.ev x with
    | .iter id => match s.H[id]? with
      | some (.iter b pos) => some (bif Nat.blt pos b.size then .tuple [.bool true, .int .i64 pos, .int .i32 (Utf8.decode b pos).1] else .tuple [.bool false],
          bif Nat.blt pos b.size then s.H.set id (.iter b (pos + (Utf8.decode b pos).2)) else s.H)
      | _ => none
    | _ => none
  | .mapUpdate t m k v => updB P s t m k v
  | .insert t m k v => updB P s t m k v
  | .call ⟨.builtin .copy, ⟨[x, y]⟩, ⟨[dT, sT]⟩⟩ => match P.underlying dT, s.ev x, srcB s.H 1 (s.ev y) with
    | some (.slice e), .sl id st dlen 1, some (m, ys) => match s.H[id]? with
      | some (.row t xs) => bif (P.info? e).isSome && ((sizeT P e).beq 1 && Nat.ble (st + dlen) xs.length) then
          some (.int .i64 (Nat.min m dlen : Nat), bif (Nat.min m dlen).beq 0 then s.H else s.H.set id (.row t (xs.take st ++ ys.take (Nat.min m dlen) ++ xs.drop (st + Nat.min m dlen)))) else none
      | _ => none
    | _, _, _ => none
  | _ => none
theorem turnB_ok {P : Program} {s : St} {o : Oper} {x : AV} {H' : List Blk} (h : turnB P s o.op = some (x, H')) : OpV P o s fun a b => a = x ∧ b = H' := by
  unfold turnB at h
  split at h
  · rename_i t y z hop
    split at h
    · rename_i id off cs hx hy
      split at h
      · rename_i t' xs hb
        rw [cond_eq_ite] at h
        split at h
        · rename_i hc
          simp only [Bool.and_eq_true, beq_iff_eq, decide_eq_true_eq] at hc
          cases h
          exact op_store hop hx hb hy hc.1 hc.2 ⟨rfl, rfl⟩
        · cases h
      · cases h
    · cases h
  · rename_i y z t t' hop
    split at h
    · rename_i bs hy
      split at h
      · rename_i k len xs h1 hts
        rw [cond_eq_ite] at h
        split at h
        · rename_i hc
          simp only [Bool.and_eq_true, decide_eq_true_eq] at hc
          cases h
          exact op_appendStr (ty := t') hop hc.1 hts (dstB_ok h1) hy hc.2.1 hc.2.2 ⟨rfl, rfl⟩
        · cases h
      · cases h
    split at h
    · rename_i k len xs m ys h1 h2
      rw [cond_eq_ite] at h
      split at h
      · rename_i hc
        simp only [Bool.and_eq_true, beq_iff_eq, decide_eq_true_eq] at hc
        obtain ⟨rfl, hc1, hc2, hc3⟩ := hc
        cases h
        exact op_append (ty := t') hop hc1 (dstB_ok h1) (srcB_ok h2) hc2 hc3 ⟨rfl, rfl⟩
      · cases h
    · cases h
  · rename_i y hop
    split at h
    · rename_i id hx
      split at h
      · rename_i b pos hb; cases h; exact op_next hop hx hb ⟨rfl, rfl⟩
      · cases h
    · cases h
  · rename_i t m k v hop; exact updB_ok (Or.inl hop) h
  · rename_i t m k v hop; exact updB_ok (Or.inr hop) h
  · rename_i y z dT sT hop
    split at h
    · rename_i e id st dlen m ys hu hx hs
      split at h
      · rename_i t xs hb
        rw [cond_eq_ite] at h
        split at h
        · rename_i hc
          simp only [Bool.and_eq_true, Nat.ble_eq] at hc
          injection h with h
          injection h with h1 h2
          subst h1 h2
          exact op_copy hop hu hc.1 (Nat.eq_of_beq_eq_true hc.2.1) hx hb (srcB_ok hs) hc.2.2 ⟨rfl, rfl⟩
        · cases h
      · cases h
    · cases h
  · cases h
def callOf (ev : Operand → AV) : Op → Option (FuncId × List AV)
  | .call ⟨.value (.func f), xs, _⟩ => some (f, xs.toList.map ev)
  | .call ⟨.value x, xs, _⟩ => match ev x with
    | .fn (.func f) fs cs => some (f, fs ++ xs.toList.map ev ++ cs)
    | _ => none
  | _ => none
/-- which kind of operation: 0 reading (or new), 1 new, 2 a call, 3 turning -/
def kindOf : Op → Nat
  | .box _ _ | .alloc _ | .buildSlice _ _ _ | .makeSlice _ _ _ | .makeFunc _ _ _ | .range _ _ | .makeMap _ _ => 1
  | .call ⟨.value _, _, _⟩ => 2
  | .store _ _ _ | .next _ _ | .mapUpdate _ _ _ _ | .insert _ _ _ _ => 3
  | .call ⟨.builtin .append, _, _⟩ | .call ⟨.builtin .copy, _, _⟩ | .call ⟨.builtin .delete, _, _⟩ | .call ⟨.builtin .clear, _, _⟩ => 3
  | _ => 0
/-! #### functions of the library that have no body -/
def extK (P : Program) (f : FuncId) : Nat := match P.funcs[f]? with
  | some fn => bif fn.body.isNone && fn.origin == "" then
      (bif fn.name == "internal/bytealg.IndexByteString" then 1 else bif fn.name == "internal/bytealg.CountString" then 2 else bif fn.name == "internal/bytealg.abigen_runtime_cmpstring" then 3 else 0)
    else 0
  | none => 0
def extE : Nat → List AV → Option AV
  | 1, [.str b, .int .u8 c] => some (.int .i64 (Lib.indexByte b.data.toList c.toNat.toUInt8))
  | 2, [.str b, .int .u8 c] => some (.int .i64 (Lib.countByte b.data.toList c.toNat.toUInt8 : Nat))
  | 3, [.str a, .str b] => some (.int .i64 (Lib.compareBytes a.data.toList b.data.toList))
  | _, _ => none
theorem find1 (fn : Func) (h : fn.name = "internal/bytealg.IndexByteString") : Extern.find fn = some Extern.BytealgIndexByte.indexByte := by cases fn; cases h; kernel_rfl
theorem find2 (fn : Func) (h : fn.name = "internal/bytealg.CountString") : Extern.find fn = some Extern.BytealgCount.count := by cases fn; cases h; kernel_rfl
theorem find3 (fn : Func) (h : fn.name = "internal/bytealg.abigen_runtime_cmpstring") : Extern.find fn = some Extern.BytealgCompare.compare := by cases fn; cases h; kernel_rfl
theorem findNext1 (fn : Func) (h : fn.name = "internal/bytealg.IndexByteString") (ho : fn.origin = "") : Extern.findNext fn = none := by cases fn; cases h; cases ho; kernel_rfl
theorem findNext2 (fn : Func) (h : fn.name = "internal/bytealg.CountString") (ho : fn.origin = "") : Extern.findNext fn = none := by cases fn; cases h; cases ho; kernel_rfl
theorem findNext3 (fn : Func) (h : fn.name = "internal/bytealg.abigen_runtime_cmpstring") (ho : fn.origin = "") : Extern.findNext fn = none := by cases fn; cases h; cases ho; kernel_rfl
theorem callOf_gen {P : Program} {s : St} {o : Oper} {f : FuncId} {l : List AV} (h : callOf s.ev o.op = some (f, l)) (p : Pl) (w : World) (a : Act) (hR : Rst p s a w) : ∃ vals : Array Value, RepL (Rep p w) vals.toList l ∧ ∀ w', (execOp a.eval o).run P w' = (callFunc f vals).run P w' := by
  unfold callOf at h
  split at h
  · rename_i g xs ts hop
    cases h
    refine ⟨xs.map a.eval, by simpa using evals hR xs.toList, fun w' => ?_⟩
    unfold execOp
    rw [hop]
    simp [resolve, invoke, Act.eval, Deferred.ofValue]
  · rename_i x xs ts hne hop
    split at h
    · rename_i g fs cs hx
      cases h
      have hv := hR.ev x
      rw [hx] at hv
      obtain ⟨vs, us, e1, e2, e3⟩ := hv
      refine ⟨vs ++ xs.map a.eval ++ us, ?_, fun w' => ?_⟩
      · simp only [Array.toList_append, Array.toList_map]
        exact ((e2.mono fun _ _ => Rep0.rep).append (evals hR xs.toList)).append (e3.mono fun _ _ => Rep0.rep)
      · unfold execOp
        rw [hop]
        simp [resolve, invoke, e1, Deferred.ofValue]
    · cases h
  · cases h
theorem two_rep {p : Pl} {w : World} {vals : Array Value} {x y : AV} (h : RepL (Rep p w) vals.toList [x, y]) : ∃ u v, vals = #[u, v] ∧ Rep p w u x ∧ Rep p w v y := by
  obtain ⟨l⟩ := vals
  match l, h with
  | [u, v], h => exact ⟨u, v, rfl, h.2 0 (by simp) (by simp), h.2 1 (by simp) (by simp)⟩
  | [], h => exact absurd h.1 (by simp)
  | [_], h => exact absurd h.1 (by simp)
  | _ :: _ :: _ :: _, h => exact absurd h.1 (by simp)
theorem op_ext {P : Program} {s : St} {o : Oper} {R : AV → List Blk → Prop} {f : FuncId} {l : List AV} {x : AV} (h : callOf s.ev o.op = some (f, l)) (hx : extE (extK P f) l = some x) (hr : R x s.H) : OpB P o s R := opB_of fun p w a hR => by
  obtain ⟨vals, hv, hrun⟩ := callOf_gen (P := P) h p w a hR
  have key : ∃ fn, P.funcs[f]? = some fn ∧ fn.body.isNone = true ∧ fn.origin = "" ∧ ((extK P f = 1 ∧ fn.name = "internal/bytealg.IndexByteString") ∨ (extK P f = 2 ∧ fn.name = "internal/bytealg.CountString") ∨ (extK P f = 3 ∧ fn.name = "internal/bytealg.abigen_runtime_cmpstring")) := by
    unfold extK at hx ⊢
    split at hx
    · rename_i fn hf
      simp only [hf]
      simp only [cond_eq_ite, Bool.and_eq_true, beq_iff_eq] at hx ⊢
      split at hx
      · rename_i hb
        refine ⟨fn, rfl, hb.1, hb.2, ?_⟩
        simp only [hb, and_self, if_true] at hx ⊢
        split at hx
        · rename_i h1; left; simp [h1]
        · rename_i h1
          split at hx
          · rename_i h2; right; left; simp [h1, h2]
          · rename_i h2
            split at hx
            · rename_i h3; right; right; simp [h1, h2, h3]
            · simp [extE] at hx
      · simp [extE] at hx
    · simp [extE] at hx
  obtain ⟨fn, hf, hb, ho, hk⟩ := key
  rcases hk with ⟨hk, hn⟩ | ⟨hk, hn⟩ | ⟨hk, hn⟩ <;> rw [hk] at hx
  · unfold extE at hx
    split at hx
    · rename_i b c hkk
      cases hx
      obtain ⟨u, v, rfl, h1, h2⟩ := two_rep hv
      cases rep_str h1; cases rep_int h2
      refine ⟨.int .i64 (Lib.indexByte b.data.toList c.toNat.toUInt8), _, _, p, w, ?_, hr, hR.heap, mk_int _ _ _ _, Step.refl _ _, Below.refl _ _⟩
      rw [hrun, run_callFunc_extern hf (by rw [hn]; rfl) hb (findNext1 fn hn ho) (find1 fn hn), Lib.run_indexByteString]
      rfl
    all_goals first | (cases hx; done) | (rename_i hkk; cases hkk)
  · unfold extE at hx
    split at hx
    all_goals first | (cases hx; done) | skip
    all_goals first | (rename_i hkk; cases hkk; done) | skip
    rename_i b c hkk
    cases hx
    obtain ⟨u, v, rfl, h1, h2⟩ := two_rep hv
    cases rep_str h1; cases rep_int h2
    refine ⟨.int .i64 (Lib.countByte b.data.toList c.toNat.toUInt8 : Nat), _, _, p, w, ?_, hr, hR.heap, mk_int _ _ _ _, Step.refl _ _, Below.refl _ _⟩
    rw [hrun, run_callFunc_extern hf (by rw [hn]; rfl) hb (findNext2 fn hn ho) (find2 fn hn), Lib.run_countString]
    rfl
  · unfold extE at hx
    split at hx
    all_goals first | (cases hx; done) | skip
    all_goals first | (rename_i hkk; cases hkk; done) | skip
    rename_i b c hkk
    cases hx
    obtain ⟨u, v, rfl, h1, h2⟩ := two_rep hv
    cases rep_str h1; cases rep_str h2
    refine ⟨.int .i64 (Lib.compareBytes b.data.toList c.data.toList), _, _, p, w, ?_, hr, hR.heap, mk_int _ _ _ _, Step.refl _ _, Below.refl _ _⟩
    rw [hrun, run_callFunc_extern hf (by rw [hn]; rfl) hb (findNext3 fn hn ho) (find3 fn hn), Lib.run_compareString]
    rfl
def effB (P : Program) (cf : CF) (s : St) (op : Op) : Option (AV × List Blk) := match kindOf op with
  | 0 => bif okPure P s.H s.ev op then some ((pureE P s.H s.ev op).2, s.H) else newB P s op
  | 1 => newB P s op
  | 2 => match callOf s.ev op with
    | some (f, l) => bif callable P f then cf f l s.H else (match extE (extK P f) l with | some x => some (x, s.H) | none => none)
    | none => none
  | _ => turnB P s op
theorem callOf_op {P : Program} {s : St} {o : Oper} {R : AV → List Blk → Prop} {f : FuncId} {l : List AV} (h : callOf s.ev o.op = some (f, l)) (hc : callable P f = true) (hk : CallsV P f l s.H R) : OpV P o s R := by
  unfold callOf at h
  split at h
  · rename_i g xs ts hop; cases h; exact op_call hop hc hk
  · rename_i x xs ts hne hop
    split at h
    · rename_i g fs cs hx; cases h; exact op_callv hop hx hc hk
    · cases h
  · cases h
theorem callOf_opB {P : Program} {s : St} {o : Oper} {R : AV → List Blk → Prop} {f : FuncId} {l : List AV} (h : callOf s.ev o.op = some (f, l)) (hc : callable P f = true) (hn : l.all noid1 = true) (hk : CallsV P f l [] fun av H' => R (ren (shf s.H.length) av) (s.H ++ H'.map (shiftB s.H.length))) : OpB P o s R := by
  unfold callOf at h
  split at h
  · rename_i g xs ts hop; cases h; exact op_callB hop hc hn hk
  · rename_i x xs ts hne hop
    split at h
    · rename_i g fs cs hx; cases h; exact op_callvB hop hx hc hn hk
    · cases h
  · cases h
theorem effB_ok {P : Program} {cf : CF} (hcf : CFok P cf) {s : St} {o : Oper} {x : AV} {H' : List Blk} (h : effB P cf s o.op = some (x, H')) : OpV P o s fun a b => a = x ∧ b = H' := by
  unfold effB at h
  split at h
  · rw [cond_eq_ite] at h
    split at h
    · rename_i hc
      cases h
      exact (pureE_ok rfl (okPure_ok hc)).opV ⟨rfl, rfl⟩
    · exact (newB_ok h).opV
  · exact (newB_ok h).opV
  · split at h
    · rename_i f l hc
      rw [cond_eq_ite] at h
      split at h
      · rename_i hcl; exact callOf_op hc hcl (hcf _ _ _ _ _ h)
      · split at h
        · rename_i y hy; cases h; exact (op_ext hc hy ⟨rfl, rfl⟩).opV
        · cases h
    · cases h
  · exact turnB_ok h
/-! #### which blocks a value leads to -/
def ids0 : AV → List Nat
  | .sl id _ _ _ | .slc id _ _ _ _ | .ptr id _ | .map id | .iter id => [id]
  | _ => []
def ids1 : AV → List Nat
  | .agg cs => cs.flatMap ids0
  | .fn _ a b => a.flatMap ids0 ++ b.flatMap ids0
  | x => ids0 x
def idsR : AV → List Nat
  | .tuple vs => vs.flatMap ids1
  | x => ids1 x
def idsB : Blk → List Nat
  | .row _ xs => xs.flatMap ids0
  | .map kv => kv.flatMap fun q => ids1 q.1 ++ ids1 q.2
  | _ => []
def addNew (acc : List Nat) : List Nat → List Nat
  | [] => acc
  | i :: r => addNew (bif acc.contains i then acc else acc ++ [i]) r
def reach (H : List Blk) : Nat → List Nat → Nat → List Nat
  | 0, acc, _ => acc
  | n + 1, acc, k => match acc[k]? with
    | none => acc
    | some i => reach H n (addNew acc (match H[i]? with | some b => idsB b | none => [])) (k + 1)
def argIds (H : List Blk) (l : List AV) : List Nat := reach H (H.length + 1) (addNew [] (l.flatMap idsR)) 0
theorem callOf_run {P : Program} {s : St} {o : Oper} {f : FuncId} {l : List AV} (h : callOf s.ev o.op = some (f, l)) (hc : callable P f = true) (p : Pl) (w : World) (a : Act) (hR : Rst p s a w) : ∃ vals : Array Value, RepL (Rep p w) vals.toList l ∧ (execOp a.eval o).run P w = .ok (.enter f vals) w := by
  unfold callOf at h
  split at h
  · rename_i g xs ts hop
    cases h
    refine ⟨xs.map a.eval, by simpa using evals hR xs.toList, ?_⟩
    unfold execOp
    rw [hop]
    simp [resolve, invoke, Act.eval, Deferred.ofValue, run_callFunc hc]
  · rename_i x xs ts hne hop
    split at h
    · rename_i g fs cs hx
      cases h
      have hv := hR.ev x
      rw [hx] at hv
      obtain ⟨vs, us, e1, e2, e3⟩ := hv
      refine ⟨vs ++ xs.map a.eval ++ us, ?_, ?_⟩
      · simp only [Array.toList_append, Array.toList_map]
        exact ((e2.mono fun _ _ => Rep0.rep).append (evals hR xs.toList)).append (e3.mono fun _ _ => Rep0.rep)
      · unfold execOp
        rw [hop]
        simp [resolve, invoke, e1, Deferred.ofValue, run_callFunc hc]
    · cases h
  · cases h
/-- the same among operations that draw their order: own blocks are lent, or handed over -/
def effD (P : Program) (cf : CF) (s : St) (op : Op) : Option (AV × List Blk) := match kindOf op with
  | 2 => match callOf s.ev op with
    | some (f, l) => bif callable P f then
        bif l.all noid1 then
          match cf f l [] with
          | some (av, H') => some (ren (shf s.H.length) av, s.H ++ H'.map (shiftB s.H.length))
          | none => none
        else match valA (fun i => (argIds s.H l).contains i) s.H 100 l with
          | some l' => bif l'.all noid1 then
              match cf f l' [] with
              | some (av, H') => bif novR av && H'.all novB then some (ren (shf s.H.length) av, s.H ++ H'.map (shiftB s.H.length))
                else some (ren (shf (killAll s.H (argIds s.H l)).length) av, killAll s.H (argIds s.H l) ++ H'.map (shiftB (killAll s.H (argIds s.H l)).length))
              | none => none
            else none
          | none => none
      else (match extE (extK P f) l with | some x => some (x, s.H) | none => none)
    | none => none
  | 3 => none
  | _ => newB P s op
theorem effD_ok {P : Program} {cf : CF} (hcf : CFok P cf) {s : St} {o : Oper} {x : AV} {H' : List Blk} (h : effD P cf s o.op = some (x, H')) : OpB P o s fun a b => a = x ∧ b = H' := by
  unfold effD at h
  split at h
  · split at h
    · rename_i f l hc
      rw [cond_eq_ite] at h
      split at h
      · rename_i hcl
        rw [cond_eq_ite] at h
        split at h
        · rename_i hn
          split at h
          · rename_i av H1 he
            cases h
            exact callOf_opB hc hcl hn ((hcf _ _ _ _ _ he).mono fun a b ⟨e1, e2⟩ => by subst e1 e2; exact ⟨rfl, rfl⟩)
          · cases h
        · split at h
          · rename_i l' hl'
            rw [cond_eq_ite] at h
            split at h
            · rename_i hn
              split at h
              · rename_i av H1 he
                rw [cond_eq_ite] at h
                split at h
                · rename_i hnv
                  cases h
                  refine op_callw (callOf_run hc hcl) fun p w vals hH hv => ?_
                  refine ((hcf _ _ _ _ _ he).lend hnv hH hv hl').mono ?_
                  rintro e w' ⟨v, p', h1, h2, h3, h4, h5⟩
                  exact ⟨v, _, _, p', h1, ⟨rfl, rfl⟩, h2, h3, h4, h5⟩
                · cases h
                  refine op_callw (callOf_run hc hcl) fun p w vals hH hv => ?_
                  refine ((hcf _ _ _ _ _ he).handover hn hH hv hl').mono ?_
                  rintro e w' ⟨v, p', h1, h2, h3, h4, h5⟩
                  exact ⟨v, _, _, p', h1, ⟨rfl, rfl⟩, h2, h3, h4, h5⟩
              · cases h
            · cases h
          · cases h
      · split at h
        · rename_i y hy; cases h; exact op_ext hc hy ⟨rfl, rfl⟩
        · cases h
    · cases h
  · cases h
  · exact newB_ok h

/-- is an operation wanted? an operation that was passed over leaves nothing -/
def wantG (ops : Array Oper) (s : St) (o : Oper) : Option Bool := match o.guard with
  | none => some true
  | some _ => guardE ops s o
theorem wantG_ok {ops : Array Oper} {s : St} {o : Oper} {p : Pl} {a : Act} {w : World} (hR : Rst p s a w) {b : Bool} (h : wantG ops s o = some b) : Region.wanted o (yielded ops a.tmps) = b := by
  unfold wantG at h
  split at h
  · rename_i hg; cases h; unfold Region.wanted; rw [hg]
  · exact guardE_wanted h hR
def skipped : AV := .cnd false (.bool false)
theorem skipped_rep (p : Pl) (w : World) : Rep p w undef skipped := ⟨fun h => (by cases h), fun _ => rfl⟩
section
variable {P : Program} {Q : Exit → St → Prop} {s : St} {ops : Array Oper} {i : Nat} {o : Oper}
theorem runN_opG {l : List Nat} (ho : ops[i]? = some o) (hw : wantG ops s o = some true) (h : OpV P o s fun av H' => RunN P ops Q l (St.put ⟨s.t, H'⟩ o.dst av)) : RunN P ops Q (i :: l) s := fun p w a Qr hR hQ => by
  rw [wpOps_cons]
  unfold wpOp
  rw [ho]
  simp only [wantG_ok hR hw, if_true]
  refine Or.inl (h p w a _ _ hR fun v av H' p' w' hr hH hv hS => ?_)
  exact hr p' w' _ Qr (Rst.put (hR.step hS hH) _ hv) fun e s2 p2 a2 w2 q r k => hQ e s2 p2 a2 w2 q r (hS.trans k)
theorem runN_skipG {l : List Nat} (ho : ops[i]? = some o) (hw : wantG ops s o = some false) (h : RunN P ops Q l (s.put o.dst skipped)) : RunN P ops Q (i :: l) s := fun p w a Qr hR hQ => by
  rw [wpOps_cons]
  unfold wpOp
  rw [ho]
  simp only [wantG_ok hR hw, Bool.false_eq_true, if_false]
  exact h p w _ Qr (hR.put _ (skipped_rep p w)) hQ
theorem runD_takeG {n : Nat} {listed : Array Bool} {x : AV} (ho : ops[i]? = some o)
    (hc : (Region.noSelect ops && (Region.free .any ops listed i && (Region.ready .any ops listed).contains i)) = true) (hw : wantG ops s o = some true) (hp : PureV P o s x)
    (h : RunD P ops Q n (listed.setIfInBounds i true) (s.put o.dst x)) : RunD P ops Q (n + 1) listed s := fun p w a K hR hQ => by
  simp only [Bool.and_eq_true] at hc
  obtain ⟨v, hv, hrun⟩ := hp p w a hR
  exact wpAnyH_take ho hc.1 hc.2.1 hc.2.2 (fun _ _ _ h => (by cases h.1)) (Or.inl ⟨wantG_ok hR hw, fun w' hw' => hrun w' hw'⟩) (Below.refl _ _) (h p w _ K (hR.put _ hv) hQ)
theorem runD_skipG {n : Nat} {listed : Array Bool} (ho : ops[i]? = some o)
    (hc : (Region.noSelect ops && (Region.free .any ops listed i && (Region.ready .any ops listed).contains i)) = true) (hw : wantG ops s o = some false)
    (h : RunD P ops Q n (listed.setIfInBounds i true) (s.put o.dst skipped)) : RunD P ops Q (n + 1) listed s := fun p w a K hR hQ => by
  simp only [Bool.and_eq_true] at hc
  exact wpAnyH_take (v := undef) ho hc.1 hc.2.1 hc.2.2 (fun _ _ _ h => (by cases h.1)) (Or.inr ⟨wantG_ok hR hw, rfl⟩) (Below.refl _ _) (h p w _ K (hR.put _ (skipped_rep p w)) hQ)
theorem runD_oneG {n : Nat} {listed : Array Bool} (ho : ops[i]? = some o) (hr : Region.ready .any ops listed = [i]) (hw : wantG ops s o = some true)
    (h : OpB P o s fun av H' => RunD P ops Q n (listed.setIfInBounds i true) (St.put ⟨s.t, H'⟩ o.dst av)) : RunD P ops Q (n + 1) listed s := fun p w a K hR hQ => by
  refine wpAnyH_all hr (by simp) fun j hj => ?_
  obtain rfl : j = i := by simpa using hj
  unfold wpOp
  rw [ho]
  simp only [wantG_ok hR hw, if_true]
  refine Or.inl (h p w a _ _ hR fun v av H' p' w' hr hH hv hS hB => ⟨hB, ?_⟩)
  exact wpAnyH_weak (fun w'' hb => hB.trans (hb.mono hB.size)) _ _ _ _ (hr p' w' _ K (Rst.put (hR.step hS hH) _ hv) fun s2 p2 a2 w2 q r k => hQ s2 p2 a2 w2 q r (hS.trans k))
end

/-! ### regions -/
def evN (P : Program) (cf : CF) (ops : Array Oper) : List Nat → St → Option St
  | [], s => some s
  | i :: l, s => match ops[i]? with
    | none => none
    | some o => match wantG ops s o with
      | some true => match effB P cf s o.op with
        | some (x, H') => evN P cf ops l (St.put ⟨s.t, H'⟩ o.dst x)
        | none => none
      | some false => evN P cf ops l (s.put o.dst skipped)
      | none => none
theorem evN_ok {P : Program} {cf : CF} (hcf : CFok P cf) {ops : Array Oper} {Q : Exit → St → Prop} : ∀ (l : List Nat) (s s' : St), evN P cf ops l s = some s' → Q .normal s' → RunN P ops Q l s
  | [], s, s', h, hq => by cases h; exact runN_done hq
  | i :: l, s, s', h, hq => by
    unfold evN at h
    split at h
    · cases h
    · rename_i o ho
      split at h
      · rename_i hw
        split at h
        · rename_i x H' he
          have ih := evN_ok hcf (Q := Q) l _ s' h hq
          exact runN_opG ho hw (fun p w a K Q' hR hK => effB_ok hcf he p w a K Q' hR fun v av H2 p' w' ⟨e1, e2⟩ a1 a2 a3 => hK v av H2 p' w' (by subst e1 e2; exact ih) a1 a2 a3)
        · cases h
      · rename_i hw; exact runN_skipG ho hw (evN_ok hcf l _ s' h hq)
      · cases h
def takeable (P : Program) (ops : Array Oper) (listed : Array Bool) (s : St) (i : Nat) : Bool := match ops[i]? with
  | some o => (match wantG ops s o with | some false => true | some true => (kindOf o.op).beq 0 && okPure P s.H s.ev o.op | none => false) && (Region.noSelect ops && (Region.free .any ops listed i && (Region.ready .any ops listed).contains i))
  | none => false
def evD (P : Program) (cf : CF) (ops : Array Oper) : Nat → Array Bool → St → Option St
  | 0, listed, s => match Region.ready .any ops listed with | [] => some s | _ => none
  | n + 1, listed, s => match Region.ready .any ops listed with
    | [] => some s
    | r => match r.find? (takeable P ops listed s) with
      | some i => match ops[i]? with
        | some o => match wantG ops s o with
          | some true => bif (Region.noSelect ops && (Region.free .any ops listed i && (Region.ready .any ops listed).contains i)) && okPure P s.H s.ev o.op then evD P cf ops n (listed.setIfInBounds i true) (s.put o.dst (pureE P s.H s.ev o.op).2) else none
          | some false => bif (Region.noSelect ops && (Region.free .any ops listed i && (Region.ready .any ops listed).contains i)) then evD P cf ops n (listed.setIfInBounds i true) (s.put o.dst skipped) else none
          | none => none
        | none => none
      | none => match r with
        | [i] => match ops[i]? with
          | some o => match wantG ops s o with
            | some true => match effD P cf s o.op with
              | some (x, H') => evD P cf ops n (listed.setIfInBounds i true) (St.put ⟨s.t, H'⟩ o.dst x)
              | none => none
            | _ => none
          | none => none
        | _ => none
theorem evD_ok {P : Program} {cf : CF} (hcf : CFok P cf) {ops : Array Oper} {Q : Exit → St → Prop} : ∀ (n : Nat) (listed : Array Bool) (s s' : St), evD P cf ops n listed s = some s' → Q .normal s' → RunD P ops Q n listed s
  | 0, listed, s, s', h, hq => by
    unfold evD at h
    split at h
    · rename_i hr; cases h; exact runD_done hr hq
    · cases h
  | n + 1, listed, s, s', h, hq => by
    unfold evD at h
    split at h
    · rename_i hr; cases h; exact runD_done hr hq
    · rename_i r hne
      split at h
      · rename_i i hi
        split at h
        · rename_i o ho
          split at h
          · rename_i hw
            rw [cond_eq_ite] at h
            split at h
            · rename_i hc
              simp only [Bool.and_eq_true] at hc
              exact runD_takeG ho (by simp only [Bool.and_eq_true]; exact hc.1) hw (pureE_ok rfl (okPure_ok hc.2)) (evD_ok hcf n _ _ s' h hq)
            · cases h
          · rename_i hw
            rw [cond_eq_ite] at h
            split at h
            · rename_i hc
              exact runD_skipG ho hc hw (evD_ok hcf n _ _ s' h hq)
            · cases h
          · cases h
        · cases h
      · split at h
        · rename_i hr i heq
          split at h
          · rename_i o ho
            split at h
            · rename_i hw
              split at h
              · rename_i x H' he
                have ih := evD_ok hcf (Q := Q) n _ _ s' h hq
                refine runD_oneG ho heq hw (fun p w a K Q' hR hK => effD_ok hcf he p w a K Q' hR fun v av H2 p' w' ⟨e1, e2⟩ a1 a2 a3 a4 => hK v av H2 p' w' (by subst e1 e2; exact ih) a1 a2 a3 a4)
              · cases h
            · cases h
          · cases h
        · cases h

/-! ### regions that draw their order, where writing operations stand alone -/
def RunE (P : Program) (ops : Array Oper) (Q : Exit → St → Prop) (n : Nat) (listed : Array Bool) (s : St) : Prop :=
  ∀ (p : Pl) (w : World) (a : Act) (K : Act → World → Prop), Rst p s a w → (∀ s' p' a' w', Q .normal s' → Rst p' s' a' w' → Step p w p' w' → K a' w') →
    wpAnyH P .any ops (fun e a' w' => e = .normal ∧ K a' w') (fun _ => True) n listed a w
/-- operations whose value does not lie in memory -/
def stillB (P : Program) (ev : Operand → AV) : Op → Bool
  | .move _ | .assign _ => true
  | .extract x i => match ev x with | .tuple xs => Nat.blt i xs.length | _ => false
  | .binOp op _ x y _ => match ev x, ev y with
    | .int k _, .int k' b => decide (k = k') && okInt op b
    | .str a, .str b => okStr op a b
    | _, _ => false
  | _ => false
theorem still_ok {P : Program} {s : St} {o : Oper} (h : stillB P s.ev o.op = true) {p : Pl} {w : World} {a : Act} (hR : Rst p s a w) : ∃ v, Rep p w v (pureE P s.H s.ev o.op).2 ∧ ∀ w', (execOp a.eval o).run P w' = .ok (.value v) w' := by
  unfold stillB at h
  split at h
  · rename_i x hop
    rw [hop]
    exact ⟨_, hR.ev x, fun w' => by unfold execOp; rw [hop]; simp⟩
  · rename_i x hop
    rw [hop]
    exact ⟨_, hR.ev x, fun w' => by unfold execOp; rw [hop]; simp⟩
  · rename_i x i hop
    split at h
    · rename_i xs hx
      rw [Nat.blt_eq] at h
      have hv := hR.ev x
      rw [hx] at hv
      rw [hop]
      simp only [pureE, hx]
      obtain ⟨v, h1, h2⟩ := extract_rd (P := P) hv h
      refine ⟨v, h1, fun w' => ?_⟩
      obtain ⟨vs, hvs, _⟩ := hv
      have h3 := h2 w (Below.refl _ _)
      have h4 : (Instr.extract (a.eval x) i).run P w' = .ok v w' := by
        rw [hvs] at h3 ⊢
        unfold Instr.extract at h3 ⊢
        simp only [] at h3 ⊢
        split at h3
        · rename_i u hu
          simp only [hu, Sem.run_pure] at h3 ⊢
          cases h3
          rfl
        · cases h3
      unfold execOp
      rw [hop]
      simp only [Sem.run_bind, h4, Result.andThen_ok, Sem.run_pure]
    · cases h
  · rename_i op t x y t2 hop
    split at h
    · rename_i k a1 k' b1 hx hy
      simp only [Bool.and_eq_true, decide_eq_true_eq] at h
      obtain ⟨rfl, hb⟩ := h
      have hs : op ≠ .shl ∧ op ≠ .shr := by constructor <;> (rintro rfl; simp [okInt] at hb)
      have ex := rep_int (hx ▸ hR.ev x)
      have ey := rep_int (hy ▸ hR.ev y)
      have he : (pureE P s.H s.ev (.binOp op t x y t2)).2 = (intOp op k a1 b1).2 := by
        simp only [pureE, hx, hy, binE]
        cases op <;> first | rfl | exact absurd rfl hs.1 | exact absurd rfl hs.2
      rw [hop, he]
      have key : ∀ w', ∃ v, Rep p w' v (intOp op k a1 b1).2 ∧ (binOp op t (.int k a1) (.int k b1)).run P w' = .ok v w' := fun w' => by
        obtain ⟨v, h1, h2⟩ := binOp_rd_int P op t k a1 b1 p w' (okInt_ok hb) hs
        exact ⟨v, h1, h2 w' (Below.refl _ _)⟩
      obtain ⟨v, h1, h2⟩ := key w
      refine ⟨v, h1, fun w' => ?_⟩
      obtain ⟨v', h1', h2'⟩ := key w'
      have hvv : v' = v := by
        cases op <;> simp [okInt] at hb <;> simp only [intOp] at h1 h1' <;> first
          | (rw [rep_int h1, rep_int h1'])
          | (rw [rep_bool h1, rep_bool h1'])
      rw [hvv] at h2'
      unfold execOp
      rw [hop]
      simp only [ex, ey, Sem.run_bind, guard_none op t x y (.int k a1) (.int k b1) (by simp) (by simp), Result.andThen_ok, h2', Sem.run_pure]
    · rename_i a1 b1 hx hy
      have ex := rep_str (hx ▸ hR.ev x)
      have ey := rep_str (hy ▸ hR.ev y)
      have he : (pureE P s.H s.ev (.binOp op t x y t2)).2 = (strOp op a1 b1).2 := by
        simp only [pureE, hx, hy, binE]
      rw [hop, he]
      have key : ∀ w', ∃ v, Rep p w' v (strOp op a1 b1).2 ∧ (binOp op t (.string a1) (.string b1)).run P w' = .ok v w' := fun w' => by
        obtain ⟨v, h1, h2⟩ := binOp_rd_str P op t a1 b1 p w' (okStr_ok h)
        exact ⟨v, h1, h2 w' (Below.refl _ _)⟩
      obtain ⟨v, h1, h2⟩ := key w
      refine ⟨v, h1, fun w' => ?_⟩
      obtain ⟨v', h1', h2'⟩ := key w'
      have hvv : v' = v := by
        cases op <;> simp [okStr] at h <;> simp only [strOp] at h1 h1' <;> first
          | (rw [rep_str h1, rep_str h1'])
          | (rw [rep_bool h1, rep_bool h1'])
      rw [hvv] at h2'
      unfold execOp
      rw [hop]
      simp only [ex, ey, Sem.run_bind, guard_none op t x y (.string a1) (.string b1) (by simp) (by simp), Result.andThen_ok, h2', Sem.run_pure]
    · cases h
  · cases h
section
variable {P : Program} {Q : Exit → St → Prop} {s : St} {ops : Array Oper} {i : Nat} {o : Oper}
theorem runE_done {n : Nat} {listed : Array Bool} (hr : Region.ready .any ops listed = []) (h : Q .normal s) : RunE P ops Q n listed s := fun p w _ _ hR hQ => wpAnyH_done hr ⟨rfl, hQ _ _ _ _ h hR (Step.refl p w)⟩ n
theorem runE_D {n : Nat} {listed : Array Bool} (h : RunD P ops Q n listed s) : RunE P ops Q n listed s := fun p w a K hR hQ => wpAnyH_weak (fun _ _ => trivial) _ _ _ _ (h p w a K hR hQ)
theorem runE_take {n : Nat} {listed : Array Bool} (ho : ops[i]? = some o)
    (hc : (Region.noSelect ops && (Region.free .any ops listed i && (Region.ready .any ops listed).contains i)) = true) (hw : wantG ops s o = some true) (hp : stillB P s.ev o.op = true)
    (h : RunE P ops Q n (listed.setIfInBounds i true) (s.put o.dst (pureE P s.H s.ev o.op).2)) : RunE P ops Q (n + 1) listed s := fun p w a K hR hQ => by
  simp only [Bool.and_eq_true] at hc
  obtain ⟨v, hv, hrun⟩ := still_ok hp hR
  exact wpAnyH_take ho hc.1 hc.2.1 hc.2.2 (fun _ _ _ h => (by cases h.1)) (Or.inl ⟨wantG_ok hR hw, fun w' _ => hrun w'⟩) trivial (h p w _ K (hR.put _ hv) hQ)
theorem runE_skip {n : Nat} {listed : Array Bool} (ho : ops[i]? = some o)
    (hc : (Region.noSelect ops && (Region.free .any ops listed i && (Region.ready .any ops listed).contains i)) = true) (hw : wantG ops s o = some false)
    (h : RunE P ops Q n (listed.setIfInBounds i true) (s.put o.dst skipped)) : RunE P ops Q (n + 1) listed s := fun p w a K hR hQ => by
  simp only [Bool.and_eq_true] at hc
  exact wpAnyH_take (v := undef) ho hc.1 hc.2.1 hc.2.2 (fun _ _ _ h => (by cases h.1)) (Or.inr ⟨wantG_ok hR hw, rfl⟩) trivial (h p w _ K (hR.put _ (skipped_rep p w)) hQ)
theorem runE_one {n : Nat} {listed : Array Bool} (ho : ops[i]? = some o) (hr : Region.ready .any ops listed = [i]) (hw : wantG ops s o = some true)
    (h : OpV P o s fun av H' => RunE P ops Q n (listed.setIfInBounds i true) (St.put ⟨s.t, H'⟩ o.dst av)) : RunE P ops Q (n + 1) listed s := fun p w a K hR hQ => by
  refine wpAnyH_all hr (by simp) fun j hj => ?_
  obtain rfl : j = i := by simpa using hj
  unfold wpOp
  rw [ho]
  simp only [wantG_ok hR hw, if_true]
  exact Or.inl (h p w a _ _ hR fun v av H' p' w' hr hH hv hS => ⟨trivial, hr p' w' _ K (Rst.put (hR.step hS hH) _ hv) fun s2 p2 a2 w2 q r k => hQ s2 p2 a2 w2 q r (hS.trans k)⟩)
end
def takeableE (P : Program) (ops : Array Oper) (listed : Array Bool) (s : St) (i : Nat) : Bool := match ops[i]? with
  | some o => (match wantG ops s o with | some false => true | some true => stillB P s.ev o.op | none => false) && (Region.noSelect ops && (Region.free .any ops listed i && (Region.ready .any ops listed).contains i))
  | none => false
def evE (P : Program) (cf : CF) (ops : Array Oper) : Nat → Array Bool → St → Option St
  | 0, listed, s => match Region.ready .any ops listed with | [] => some s | _ => none
  | n + 1, listed, s => match Region.ready .any ops listed with
    | [] => some s
    | r => match r.find? (takeableE P ops listed s) with
      | some i => match ops[i]? with
        | some o => match wantG ops s o with
          | some true => bif (Region.noSelect ops && (Region.free .any ops listed i && (Region.ready .any ops listed).contains i)) && stillB P s.ev o.op then evE P cf ops n (listed.setIfInBounds i true) (s.put o.dst (pureE P s.H s.ev o.op).2) else none
          | some false => bif (Region.noSelect ops && (Region.free .any ops listed i && (Region.ready .any ops listed).contains i)) then evE P cf ops n (listed.setIfInBounds i true) (s.put o.dst skipped) else none
          | none => none
        | none => none
      | none => match r with
        | [i] => match ops[i]? with
          | some o => match wantG ops s o with
            | some true => match effB P cf s o.op with
              | some (x, H') => evE P cf ops n (listed.setIfInBounds i true) (St.put ⟨s.t, H'⟩ o.dst x)
              | none => none
            | _ => none
          | none => none
        | _ => evD P cf ops (n + 1) listed s
theorem evE_ok {P : Program} {cf : CF} (hcf : CFok P cf) {ops : Array Oper} {Q : Exit → St → Prop} : ∀ (n : Nat) (listed : Array Bool) (s s' : St), evE P cf ops n listed s = some s' → Q .normal s' → RunE P ops Q n listed s
  | 0, listed, s, s', h, hq => by
    unfold evE at h
    split at h
    · rename_i hr; cases h; exact runE_done hr hq
    · cases h
  | n + 1, listed, s, s', h, hq => by
    unfold evE at h
    split at h
    · rename_i hr; cases h; exact runE_done hr hq
    · rename_i r hne
      split at h
      · rename_i i hi
        split at h
        · rename_i o ho
          split at h
          · rename_i hw
            rw [cond_eq_ite] at h
            split at h
            · rename_i hc
              simp only [Bool.and_eq_true] at hc
              exact runE_take ho (by simp only [Bool.and_eq_true]; exact hc.1) hw hc.2 (evE_ok hcf n _ _ s' h hq)
            · cases h
          · rename_i hw
            rw [cond_eq_ite] at h
            split at h
            · rename_i hc
              exact runE_skip ho hc hw (evE_ok hcf n _ _ s' h hq)
            · cases h
          · cases h
        · cases h
      · split at h
        · rename_i hr i heq
          split at h
          · rename_i o ho
            split at h
            · rename_i hw
              split at h
              · rename_i x H' he
                have ih := evE_ok hcf (Q := Q) n _ _ s' h hq
                refine runE_one ho heq hw (fun p w a K Q' hR hK => effB_ok hcf he p w a K Q' hR fun v av H2 p' w' ⟨e1, e2⟩ a1 a2 a3 => hK v av H2 p' w' (by subst e1 e2; exact ih) a1 a2 a3)
              · cases h
            · cases h
          · cases h
        · exact runE_D (evD_ok hcf _ _ _ s' h hq)
theorem wpV_drawE {P : Program} {Q : Exit → St → Prop} {s : St} {id : Nat} {ops : Array Oper} (hm : P.follows .mixedOrders = true) (h : RunE P ops Q ops.size (Array.replicate ops.size false) s) : WpV P (.region id ops true) Q s := fun p w a Qr hR hQ => by
  have hb : Below w.heap.size w { w with drawn := w.drawn + 1 } := ⟨rfl, rfl, rfl, Nat.le_refl _, fun _ _ => rfl⟩
  refine wp_mono (wp_region_held (Q := fun e a' w' => e = .normal ∧ Qr .normal a' w') hm (h p _ a (Qr .normal) (hR.below hb) fun s' p' a' w' q r k => hQ _ _ _ _ _ q r ((Step.of_below hb hR.heap.lt).trans k))) ?_
  rintro e a' w' ⟨rfl, h⟩
  exact h
end Go.Proofs.Ytcmbhebgpboepaa.V
