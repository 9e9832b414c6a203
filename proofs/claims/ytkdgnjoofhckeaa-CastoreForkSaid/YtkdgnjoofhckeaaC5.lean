/-
  Stores: their operations.
-/
import Derived.Test.YtkdgnjoofhckeaaC4
namespace Go.Proofs.Ytkdgnjoofhckeaa
open Go Go.RowKit V
set_option linter.unusedSimpArgs false
set_option linter.unusedVariables false
set_option maxHeartbeats 20000000
/-- a store whose contents have been moved -/
def storeD (n r : Int) (l : List It) (A : List Int) : List Blk := [.row 48 [.int .i64 n, .int .i64 r, .sl 3 0 l.length 3, .map 2], .dead, .map (mapC A), .row 65 (flatA (encP n) l)]
theorem del_e (n : Int) (l : List It) (i : Nat) (hi : i < l.length) (hl : l.length ≤ 1000) : CallsV Try.prog 29 [.sl 0 0 l.length 3, .int .i64 (i : Int), .int .i64 ((i : Int) + 1)] [.row 65 (flatA (encP n) l)] (fun av H' => av = .sl 0 0 (l.eraseIdx i).length 3 ∧ H' = [.row 65 (flatA (encP n) (l.eraseIdx i))]) := by
  have h := del_v 65 (flatA (encP n) l) l.length i (i + 1) (its_len n l) (by omega) (by omega) (by omega) (its_noid n l) (by omega)
  rw [its_take, its_drop, its_app] at h
  have e : l.take i ++ l.drop (i + 1) = l.eraseIdx i := (List.eraseIdx_eq_take_drop_succ l i).symm
  have e2 : l.length - (i + 1 - i) = (l.eraseIdx i).length := by rw [List.length_eraseIdx_of_lt hi]; omega
  rw [e, e2] at h
  exact h
theorem del_f (n : Int) (l : List It) (m : Nat) (hm : m ≤ l.length) (h0 : 0 < m) (hl : l.length ≤ 1000) : CallsV Try.prog 29 [.sl 0 0 l.length 3, .int .i64 0, .int .i64 (m : Int)] [.row 65 (flatA (encP n) l)] (fun av H' => av = .sl 0 0 (l.drop m).length 3 ∧ H' = [.row 65 (flatA (encP n) (l.drop m))]) := by
  have h := del_v 65 (flatA (encP n) l) l.length 0 m (its_len n l) (by omega) (by omega) (by omega) (its_noid n l) (by omega)
  rw [its_take, its_drop, its_app] at h
  have e2 : l.length - (m - 0) = (l.drop m).length := by rw [List.length_drop]; omega
  rw [e2] at h
  exact h
theorem len_v (n r : Int) (l : List It) (A : List Int) : CallsV Try.prog 11 [.ptr 0 0] (storeH n r l A) (fun av H' => av = .int .i64 l.length ∧ H' = storeH n r l A) := by
  refine callsG_at Try.func11 (by kernel_rfl) ?_
  unfold storeH
  refine g_q [] [.sel [2]] Exit.ret (stOf 10 [(2, AV.int .i64 (↑l.length : Int))] [Blk.row 48 [AV.int .i64 n, AV.int .i64 r, AV.sl 1 0 l.length 3, AV.map 2], Blk.row 65 (flatA (encP n) l), Blk.map (mapC A)]) (show 1 ≤ 2 from (by omega)) ?_
  refine g_f [0, 1, 2] [false, true, true] (AV.int .i64 (↑l.length : Int)) ([Blk.row 48 [AV.int .i64 n, AV.int .i64 r, AV.sl 1 0 l.length 3, AV.map 2], Blk.row 65 (flatA (encP n) l), Blk.map (mapC A)]) (And.intro (show ∀ (x : AV), x ∈ flatA (encP n) l → noid0 x = true from its_noid n l) (show ∀ (q : AV × AV), q ∈ mapC A → plain1 q.fst = true ∧ plain1 q.snd = true from map_plainC A)) ?_
  exact ⟨rfl, rfl⟩
theorem use_v (n r : Int) (l : List It) (A : List Int) (hl : l.length ≤ 1000) (i : Nat) (hi : i < l.length) : CallsV Try.prog 25 [.ptr 0 0, .int .i64 (i : Int)] (storeH n r l A) (fun av H' => av = .tuple [] ∧ H' = storeD n r (l.eraseIdx i ++ [l.getD i iD]) A) := by
  refine callsG_at Try.func25 (by kernel_rfl) ?_
  have hd := del_e n l i hi hl
  have hle : (l.eraseIdx i).length = l.length - 1 := List.length_eraseIdx_of_lt hi
  have hge : (l.eraseIdx i).length * 3 ≤ (flatA (encP n) (l.eraseIdx i)).length := Nat.le_of_eq (its_len n _).symm
  have hsn := its_snoc n (l.eraseIdx i) (l.getD i iD)
  unfold storeH storeD
  rw [snoc_len]
  have e1' := (drop_ag0 (n := 3) (v := AV.agg [AV.int .u32 (textF (l.getD i iD).fst n), AV.int .i64 (l.getD i iD).snd, AV.slv (l.getD i iD).fst.size 1 (bytesAV (l.getD i iD).fst)]) (its_at n (l) (i) (by assumption)) rfl)
  have e2' := (congrArg (fun z => AV.int .i64 z) (wrap_i64 (e := (↑i : Int) + (1 : Int)) (by omega) (by omega)))
  have e3' := hd
  have e4' := (congrArg (fun z => Blk.row 65 z) hsn)
  refine g_qB [⟨6, [], .as (rhsOf e1')⟩, ⟨16, [], .as (rhsOf e2')⟩, ⟨17, [], .callS [1] [true] (avOf e3') (blOf e3') [true]⟩, ⟨21, [.hp 5 (rhsOf e4')], .no⟩] [.sel []] Exit.normal (stOf 26 [] [Blk.row 48 [AV.int .i64 n, AV.int .i64 r, AV.sl 5 0 ((l.eraseIdx i).length + 1) 3, AV.map 2], Blk.dead, Blk.map (mapC A), Blk.row 65 [AV.int .u32 (textF (l.getD i iD).fst n), AV.int .i64 (l.getD i iD).snd, AV.slv (l.getD i iD).fst.size 1 (bytesAV (l.getD i iD).fst)], Blk.row 65 [AV.int .u32 (textF (l.getD i iD).fst n), AV.int .i64 (l.getD i iD).snd, AV.slv (l.getD i iD).fst.size 1 (bytesAV (l.getD i iD).fst)], Blk.row 65 (flatA (encP n) (l.eraseIdx i ++ [l.getD i iD]))]) (And.intro (show 1 ≤ 2 from (by omega)) (And.intro (show (0 : Int) ≤ (↑i : Int) ∧ (↑i : Int) < (↑l.length : Int) from (by omega)) (And.intro (show 3 ≤ (List.drop (0 + (↑i : Int).toNat * 3) (flatA (encP n) l)).length from (drop_le0 (n := 3) (its_at n (l) (i) (by assumption)) (by simp))) (And.intro e1' (And.intro (show 3 ≤ 3 from (by omega)) (And.intro (show 1 ≤ 2 from (by omega)) (And.intro e2' (And.intro (show ∀ (x : AV), x ∈ flatA (encP n) l → noid0 x = true from its_noid n l) (And.intro (show ∀ (x : AV), x ∈ flatA (encP n) (l.eraseIdx i) → noid0 x = true from its_noid n (l.eraseIdx i)) (And.intro e3' (And.intro (show 3 ≤ 3 from (by omega)) (And.intro (show 3 ≤ 3 from (by omega)) (And.intro (show ∀ (x : AV), x ∈ flatA (encP n) l → noid0 x = true from its_noid n l) (And.intro (show ∀ (x : AV), x ∈ flatA (encP n) (l.eraseIdx i) → noid0 x = true from its_noid n (l.eraseIdx i)) (And.intro e3' (And.intro (show ∀ (x : AV), x ∈ flatA (encP n) l → noid0 x = true from its_noid n l) (And.intro (show ∀ (x : AV), x ∈ flatA (encP n) (l.eraseIdx i) → noid0 x = true from its_noid n (l.eraseIdx i)) (And.intro e3' (And.intro (show (l.eraseIdx i).length * 3 ≤ (flatA (encP n) (l.eraseIdx i)).length from (by omega)) (And.intro (show 3 ≤ 3 from (by omega)) (And.intro (show ((l.eraseIdx i).length + 1) * 40 ≤ 140737488355328 from (by omega)) (And.intro (show (l.eraseIdx i).length + 1 ≤ maxLen from (by (unfold maxLen; omega))) (And.intro (congrArg some e4') (show 3 ≤ 4 from (by omega))))))))))))))))))))))))) ?_
  refine g_finn ?_
  refine g_f [0, 1, 2, 5] [false, false, true, true] (AV.tuple []) ([Blk.row 48 [AV.int .i64 n, AV.int .i64 r, AV.sl 3 0 ((l.eraseIdx i).length + 1) 3, AV.map 2], Blk.dead, Blk.map (mapC A), Blk.row 65 (flatA (encP n) (l.eraseIdx i ++ [l.getD i iD]))]) (And.intro (show ∀ (q : AV × AV), q ∈ mapC A → plain1 q.fst = true ∧ plain1 q.snd = true from map_plainC A) (show ∀ (x : AV), x ∈ flatA (encP n) (l.eraseIdx i ++ [l.getD i iD]) → noid0 x = true from its_noid n (l.eraseIdx i ++ [l.getD i iD]))) ?_
  exact ⟨rfl, rfl⟩
theorem ev_min (m : Int) (a : Nat) : (if (a : Int) < if (0 : Int) > m then (0 : Int) else m then (a : Int) else if (0 : Int) > m then (0 : Int) else m) = ((min m.toNat a : Nat) : Int) := by
  split <;> split at * <;> omega
theorem ev_min2 (m : Int) (a : Nat) : (if (if m < 0 then (0 : Int) else m) > (a : Int) then (a : Int) else if m < 0 then (0 : Int) else m) = ((min m.toNat a : Nat) : Int) := by
  split <;> split at * <;> omega
theorem evict_v (n r : Int) (l : List It) (A : List Int) (m : Int) (hl : l.length ≤ 1000) : CallsV Try.prog 16 [.ptr 0 0, .int .i64 m] (storeH n r l A) (fun av H' => av = .int .i64 (min m.toNat l.length : Nat) ∧ H' = storeD n r (l.drop (min m.toNat l.length)) A) := by
  refine callsG_at Try.func16 (by kernel_rfl) ?_
  have h := len_v n r l A
  have hle : min m.toNat l.length ≤ l.length := Nat.min_le_right _ _
  have hm := ev_min m l.length
  generalize hj : min m.toNat l.length = j at hle hm ⊢
  rcases Nat.eq_zero_or_pos j with h0 | h0
  · subst h0
    rw [List.drop_zero]
    unfold storeH at h ⊢
    unfold storeD
    have e1' := h
    have e2' := (congrArg (fun z => AV.int .i64 z) hm)
    refine g_q [⟨4, [], .callS [0, 1, 2] [false, true, true] (avOf e1') (blOf e1') [false, true, true]⟩, ⟨5, [], .as (rhsOf e2')⟩] [.sel [4], .place [some 0, none, some 2, some 1] [false, false, true, true]] Exit.ret (stOf 22 [(4, AV.int .i64 (0 : Int))] [Blk.row 48 [AV.int .i64 n, AV.int .i64 r, AV.sl 3 0 l.length 3, AV.map 2], Blk.dead, Blk.map (mapC A), Blk.row 65 (flatA (encP n) l)]) (And.intro (show ∀ (x : AV), x ∈ flatA (encP n) l → noid0 x = true from its_noid n l) (And.intro (show ∀ (q : AV × AV), q ∈ mapC A → plain1 q.fst = true ∧ plain1 q.snd = true from map_plainC A) (And.intro (show ∀ (x : AV), x ∈ flatA (encP n) l → noid0 x = true from its_noid n l) (And.intro (show ∀ (q : AV × AV), q ∈ mapC A → plain1 q.fst = true ∧ plain1 q.snd = true from map_plainC A) (And.intro e1' (And.intro e2' (And.intro (show ∀ (q : AV × AV), q ∈ mapC A → plain1 q.fst = true ∧ plain1 q.snd = true from map_plainC A) (show ∀ (x : AV), x ∈ flatA (encP n) l → noid0 x = true from its_noid n l)))))))) ?_
    refine g_f [0, 1, 2, 3] [false, false, true, true] (AV.int .i64 (0 : Int)) ([Blk.row 48 [AV.int .i64 n, AV.int .i64 r, AV.sl 3 0 l.length 3, AV.map 2], Blk.dead, Blk.map (mapC A), Blk.row 65 (flatA (encP n) l)]) (And.intro (show ∀ (q : AV × AV), q ∈ mapC A → plain1 q.fst = true ∧ plain1 q.snd = true from map_plainC A) (show ∀ (x : AV), x ∈ flatA (encP n) l → noid0 x = true from its_noid n l)) ?_
    exact ⟨rfl, rfl⟩
  · have hd := del_f n l j hle h0 hl
    unfold storeH at h ⊢
    unfold storeD
    have e1' := h
    have e2' := (congrArg (fun z => AV.int .i64 z) hm)
    have e3' := hd
    refine g_q [⟨4, [], .callS [0, 1, 2] [false, true, true] (avOf e1') (blOf e1') [false, true, true]⟩, ⟨5, [], .as (rhsOf e2')⟩, ⟨9, [], .br true .no⟩, ⟨16, [], .callS [1] [true] (avOf e3') (blOf e3') [true]⟩] [.sel [4], .place [some 0, none, some 2, some 1] [false, false, true, true]] Exit.ret (stOf 22 [(4, AV.int .i64 (↑j : Int))] [Blk.row 48 [AV.int .i64 n, AV.int .i64 r, AV.sl 3 0 (List.drop j l).length 3, AV.map 2], Blk.dead, Blk.map (mapC A), Blk.row 65 (flatA (encP n) (List.drop j l))]) (And.intro (show ∀ (x : AV), x ∈ flatA (encP n) l → noid0 x = true from its_noid n l) (And.intro (show ∀ (q : AV × AV), q ∈ mapC A → plain1 q.fst = true ∧ plain1 q.snd = true from map_plainC A) (And.intro (show ∀ (x : AV), x ∈ flatA (encP n) l → noid0 x = true from its_noid n l) (And.intro (show ∀ (q : AV × AV), q ∈ mapC A → plain1 q.fst = true ∧ plain1 q.snd = true from map_plainC A) (And.intro e1' (And.intro e2' (And.intro (show decide ((↑j : Int) > (0 : Int)) = true from (by rw [decide_eq_true_iff]; omega)) (And.intro (show 1 ≤ 2 from (by omega)) (And.intro (show ∀ (x : AV), x ∈ flatA (encP n) l → noid0 x = true from its_noid n l) (And.intro (show ∀ (x : AV), x ∈ flatA (encP n) (List.drop j l) → noid0 x = true from its_noid n (l.drop j)) (And.intro e3' (And.intro (show 3 ≤ 4 from (by omega)) (And.intro (show ∀ (q : AV × AV), q ∈ mapC A → plain1 q.fst = true ∧ plain1 q.snd = true from map_plainC A) (show ∀ (x : AV), x ∈ flatA (encP n) (List.drop j l) → noid0 x = true from its_noid n (l.drop j))))))))))))))) ?_
    refine g_f [0, 1, 2, 3] [false, false, true, true] (AV.int .i64 (↑j : Int)) ([Blk.row 48 [AV.int .i64 n, AV.int .i64 r, AV.sl 3 0 (List.drop j l).length 3, AV.map 2], Blk.dead, Blk.map (mapC A), Blk.row 65 (flatA (encP n) (List.drop j l))]) (And.intro (show ∀ (q : AV × AV), q ∈ mapC A → plain1 q.fst = true ∧ plain1 q.snd = true from map_plainC A) (show ∀ (x : AV), x ∈ flatA (encP n) (List.drop j l) → noid0 x = true from its_noid n (l.drop j))) ?_
    exact ⟨rfl, rfl⟩
theorem bytesAV_len (b : ByteArray) : (bytesAV b).length = b.size := by unfold bytesAV; simp
theorem bytes_noid (b : ByteArray) : ∀ x ∈ bytesAV b, noid0 x = true := fun x hx => by
  unfold bytesAV at hx
  obtain ⟨c, _, rfl⟩ := List.mem_map.1 hx
  rfl
theorem bclone_o (m : Nat) (cs : List AV) (hc : cs.length = m + 1) (hm : m + 1 ≤ 1000000) (hn : ∀ x ∈ cs, noid0 x = true) : CallsV Try.prog 26 [.slv (m + 1) 1 cs] [] (fun av H' => av = .sl 0 0 (m + 1) 1 ∧ H' = [.row 5 cs]) := by
  refine callsG_at Try.func26 (by kernel_rfl) ?_
  have e1 : List.take ((m + 1) * 1) cs = cs := List.take_of_length_le (by omega)
  refine g_q [] [.sel [2]] Exit.ret (stOf 8 [(2, AV.sl 1 0 (0 + (m + 1)) 1)] [Blk.dead, Blk.row 5 cs]) (And.intro (show 0 ≤ 0 from (by omega)) (And.intro (show (0 + (m + 1)) * 1 ≤ 140737488355328 from (by omega)) (show 0 + (m + 1) ≤ maxLen from (by (unfold maxLen; omega))))) ?_
  refine g_f [1] [true] (AV.sl 0 0 (0 + (m + 1)) 1) ([Blk.row 5 cs]) (show ∀ (x : AV), x ∈ cs → noid0 x = true from hn) ?_
  exact ⟨by rw [Nat.zero_add], rfl⟩
theorem bclone_v (b : ByteArray) (hb : 0 < b.size ∧ b.size ≤ 1000000) : CallsV Try.prog 26 [bv b] [] (fun av H' => av = bv b ∧ H' = []) := by
  obtain ⟨m, hm⟩ : ∃ m, b.size = m + 1 := ⟨b.size - 1, by omega⟩
  have h := bclone_o m (bytesAV b) (by rw [bytesAV_len, hm]) (by omega) (bytes_noid b)
  rw [← hm] at h
  refine CallsV.byRow (R' := fun a => a = bv b) h ?_
  rintro _ _ ⟨rfl, rfl⟩
  refine ⟨_, ByV.row _ _ _ _ (fun x hx => ⟨bytes_noid b x hx, fun he => ?_⟩) (by rw [bytesAV_len]; omega), ?_⟩
  · subst he
    unfold bytesAV at hx
    obtain ⟨c, _, hc⟩ := List.mem_map.1 hx
    cases hc
  · rw [List.take_of_length_le (by rw [bytesAV_len]; omega)]
end Go.Proofs.Ytkdgnjoofhckeaa
