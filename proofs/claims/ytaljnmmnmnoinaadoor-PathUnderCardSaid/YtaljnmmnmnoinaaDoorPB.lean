/-
  Paths: the laws about normalizing twice and about lying under a directory.
-/
import Derived.Test.YtaljnmmnmnoinaaDoorPA
namespace Go.Proofs.YtaljnmmnmnoinaaDoor
open Go Go.RowKit V
set_option linter.unusedSimpArgs false
set_option linter.unusedVariables false
set_option maxHeartbeats 20000000
theorem pathTwice_v (l : List Int) (hl : l.length ≤ 9223372036854775807) (hb : ∀ z ∈ l, 0 ≤ z ∧ z ≤ 255) : CallsV Tryd.prog 6 [bsV l] [] (fun av H' => av = .bool true ∧ H' = []) := by
  refine callsG_at Tryd.func6 (by kernel_rfl) ?_
  have aw := awake_v
  have c := pieces_v l hl hb
  have hsz := pcF_sz l (min l.length 30)
  generalize pcF l (min l.length 30) = t at c hsz
  obtain ⟨a1, _⟩ := norm_v t (by omega)
  rcases NZ_or t with ⟨h1, h2⟩ | ⟨m, h1, h2, h3, h4, h5⟩
  · rw [h2] at a1
    generalize (NZ t).2 = e at a1 h1
    have h0 : (e == 0) = false := beq_eq_false_iff_ne.2 h1
    have e1' := c
    have e2' := a1
    have e3' := aw
    refine g_q [⟨2, [], .call (avOf e1') (blOf e1') []⟩, ⟨3, [], .call (avOf e2') (blOf e2') []⟩, ⟨11, [], .br true .no⟩, ⟨12, [], .call (avOf e3') (blOf e3') []⟩] [.sel [2]] Exit.ret (stOf 54 [(2, AV.bool true)] []) (And.intro e1' (And.intro e2' (And.intro (show (e != (0 : Int)) = true from (by simp_all; done)) e3'))) ?_
    refine g_f [] [] (AV.bool true) ([]) trivial ?_
    exact ⟨rfl, rfl⟩
  · have g1 := NZ_again h1 h2 h3 h5
    obtain ⟨g2, g3⟩ := jn_noslash h1 fun x hx => (h3 x hx).1
    rw [h4] at a1
    generalize jnF m m.length = p at *
    have g4 := cut_parts p g2
    have g5 := under_dir p
    obtain ⟨b1, _⟩ := norm_v p (by omega)
    obtain ⟨b2, _⟩ := valid_v p (by omega)
    obtain ⟨b3, _⟩ := dir_v p (by omega)
    obtain ⟨b4, _⟩ := base_v p (by omega)
    have hd : (dirF p).size ≤ 1000000 := by unfold dirF; rw [ByteArray.size_extract]; omega
    have hbs : (baseF p).size ≤ 1000000 := by unfold baseF; rw [ByteArray.size_extract]; omega
    obtain ⟨b5, _⟩ := join2_v (dirF p) (baseF p) hd hbs
    obtain ⟨b6, _⟩ := under_v p (dirF p) (by omega) hd
    rw [g1] at b1
    rw [show vaF p = true by unfold vaF; rw [g1]; simp] at b2
    rw [g4] at b5
    rw [g5] at b6
    generalize dirF p = d at *
    generalize baseF p = b at *
    have q1 := beq_self_eq_true p.toList
    clear g1 g2 g3 g4 g5 h1 h2 h3 h4 h5 hd hbs hsz
    have e1' := c
    have e2' := a1
    have e3' := b1
    have e4' := aw
    have e5' := b2
    have e6' := b3
    have e7' := b4
    have e8' := b5
    have e9' := b6
    refine g_q [⟨2, [], .call (avOf e1') (blOf e1') []⟩, ⟨3, [], .call (avOf e2') (blOf e2') []⟩, ⟨13, [], .call (avOf e3') (blOf e3') []⟩, ⟨19, [], .call (avOf e4') (blOf e4') []⟩, ⟨30, [.tm 35 (.bool true)], .no⟩, ⟨31, [], .call (avOf e5') (blOf e5') []⟩, ⟨35, [], .call (avOf e6') (blOf e6') []⟩, ⟨37, [], .call (avOf e7') (blOf e7') []⟩, ⟨38, [], .call (avOf e8') (blOf e8') []⟩, ⟨43, [.tm 48 (.bool true)], .no⟩, ⟨45, [], .call (avOf e6') (blOf e6') []⟩, ⟨46, [], .call (avOf e9') (blOf e9') []⟩] [.sel [2]] Exit.ret (stOf 54 [(2, AV.bool true)] []) (And.intro e1' (And.intro e2' (And.intro e3' (And.intro e4' (And.intro (congrArg AV.bool (congrArg (fun z => bif bif true then (p, (0 : Int)).snd == (0 : Int) else false then z else false) q1)) (And.intro e5' (And.intro e6' (And.intro e7' (And.intro e8' (And.intro (congrArg AV.bool (congrArg (fun z => bif true then z else false) q1)) (And.intro e6' e9'))))))))))) ?_
    refine g_f [] [] (AV.bool true) ([]) trivial ?_
    exact ⟨rfl, rfl⟩
theorem pathUnder_v (l m n : List Int) (hl : l.length ≤ 9223372036854775807) (hb : ∀ z ∈ l, 0 ≤ z ∧ z ≤ 255) (hm : m.length ≤ 9223372036854775807) (hc : ∀ z ∈ m, 0 ≤ z ∧ z ≤ 255) (hn : n.length ≤ 9223372036854775807) (hd : ∀ z ∈ n, 0 ≤ z ∧ z ≤ 255) : CallsV Tryd.prog 7 [bsV l, bsV m, bsV n] [] (fun av H' => av = .bool true ∧ H' = []) := by
  refine callsG_at Tryd.func7 (by kernel_rfl) ?_
  have aw := awake_v
  have c1 := pieces_v l hl hb
  have c2 := pieces_v m hm hc
  have c3 := pieces_v n hn hd
  have s1 := pcF_sz l (min l.length 30)
  have s2 := pcF_sz m (min m.length 30)
  have s3 := pcF_sz n (min n.length 30)
  generalize pcF l (min l.length 30) = x at c1 s1
  generalize pcF m (min m.length 30) = y at c2 s2
  generalize pcF n (min n.length 30) = z at c3 s3
  obtain ⟨a1, _⟩ := norm_v x (by omega)
  obtain ⟨a2, _⟩ := norm_v y (by omega)
  obtain ⟨a3, _⟩ := norm_v z (by omega)
  have o1 := NZ_or x
  have o2 := NZ_or y
  have o3 := NZ_or z
  clear s1 s2 s3 hl hb hm hc hn hd
  have key : ∀ q : ByteArray × Int, (q.2 ≠ 0 ∧ q.1 = bE) ∨ (∃ l : List ByteArray, l ≠ [] ∧ l.length ≤ 8 ∧ (∀ x ∈ l, elF x = true ∧ isDD x = false ∧ isD x = false ∧ isE x = false) ∧ q = (jnF l l.length, 0) ∧ (jnF l l.length).size ≤ 64) → ((q.2 == 0) = false) ∨ (q.2 = 0 ∧ q.1 ≠ bE ∧ q.1.size ≤ 64) := fun q h => by
    rcases h with ⟨h1, h2⟩ | ⟨m, h1, h2, h3, h4, h5⟩
    · exact Or.inl (beq_eq_false_iff_ne.2 h1)
    · rw [h4]
      exact Or.inr ⟨rfl, (jn_noslash h1 fun x hx => (h3 x hx).1).2, h5⟩
  replace o1 := key _ o1
  replace o2 := key _ o2
  replace o3 := key _ o3
  clear key
  generalize NZ x = a at *
  generalize NZ y = b at *
  generalize NZ z = c at *
  obtain ⟨a, e⟩ := a
  obtain ⟨b, f⟩ := b
  obtain ⟨c, g⟩ := c
  simp only at a1 a2 a3 o1 o2 o3
  rcases o1 with o1 | ⟨rfl, o1, z1⟩
  · clear o2 o3
    have e1' := c1
    have e2' := a1
    have e3' := c2
    have e4' := a2
    have e5' := c3
    have e6' := a3
    have e7' := aw
    refine g_q [⟨2, [], .call (avOf e1') (blOf e1') []⟩, ⟨3, [], .call (avOf e2') (blOf e2') []⟩, ⟨10, [], .call (avOf e3') (blOf e3') []⟩, ⟨11, [], .call (avOf e4') (blOf e4') []⟩, ⟨18, [], .call (avOf e5') (blOf e5') []⟩, ⟨19, [], .call (avOf e6') (blOf e6') []⟩, ⟨28, [.tm 34 (.bool true)], .no⟩, ⟨36, [], .call (avOf e7') (blOf e7') []⟩] [.sel [6]] Exit.ret (stOf 88 [(6, AV.bool true)] []) (And.intro e1' (And.intro e2' (And.intro e3' (And.intro e4' (And.intro e5' (And.intro e6' (And.intro (congrArg AV.bool (show (e != (0 : Int)) = true from (by simp_all; done))) (And.intro (show true = false → false = true from (by decide)) (And.intro (show true = false → false = true from (by decide)) e7'))))))))) ?_
    refine g_f [] [] (AV.bool true) ([]) trivial ?_
    exact ⟨rfl, rfl⟩
  · rcases o2 with o2 | ⟨rfl, o2, z2⟩
    · clear o3
      have e1' := c1
      have e2' := a1
      have e3' := c2
      have e4' := a2
      have e5' := c3
      have e6' := a3
      have e7' := aw
      refine g_q [⟨2, [], .call (avOf e1') (blOf e1') []⟩, ⟨3, [], .call (avOf e2') (blOf e2') []⟩, ⟨10, [], .call (avOf e3') (blOf e3') []⟩, ⟨11, [], .call (avOf e4') (blOf e4') []⟩, ⟨18, [], .call (avOf e5') (blOf e5') []⟩, ⟨19, [], .call (avOf e6') (blOf e6') []⟩, ⟨32, [.tm 38 (.bool true)], .no⟩, ⟨36, [], .call (avOf e7') (blOf e7') []⟩] [.sel [6]] Exit.ret (stOf 88 [(6, AV.bool true)] []) (And.intro e1' (And.intro e2' (And.intro e3' (And.intro e4' (And.intro e5' (And.intro e6' (And.intro (congrArg AV.bool (show (bif false then true else f != (0 : Int)) = true from (by simp_all; done))) (And.intro (show true = false → false = true from (by decide)) e7')))))))) ?_
      refine g_f [] [] (AV.bool true) ([]) trivial ?_
      exact ⟨rfl, rfl⟩
    · rcases o3 with o3 | ⟨rfl, o3, z3⟩
      · have e1' := c1
        have e2' := a1
        have e3' := c2
        have e4' := a2
        have e5' := c3
        have e6' := a3
        have e7' := aw
        refine g_q [⟨2, [], .call (avOf e1') (blOf e1') []⟩, ⟨3, [], .call (avOf e2') (blOf e2') []⟩, ⟨10, [], .call (avOf e3') (blOf e3') []⟩, ⟨11, [], .call (avOf e4') (blOf e4') []⟩, ⟨18, [], .call (avOf e5') (blOf e5') []⟩, ⟨19, [], .call (avOf e6') (blOf e6') []⟩, ⟨35, [], .br true .no⟩, ⟨36, [], .call (avOf e7') (blOf e7') []⟩] [.sel [6]] Exit.ret (stOf 88 [(6, AV.bool true)] []) (And.intro e1' (And.intro e2' (And.intro e3' (And.intro e4' (And.intro e5' (And.intro e6' (And.intro (show (bif false then true else g != (0 : Int)) = true from (by simp_all; done)) e7'))))))) ?_
        refine g_f [] [] (AV.bool true) ([]) trivial ?_
        exact ⟨rfl, rfl⟩
      · obtain ⟨u1, _⟩ := under_v a b (by omega) (by omega)
        obtain ⟨u2, _⟩ := under_v b c (by omega) (by omega)
        obtain ⟨u3, _⟩ := under_v a c (by omega) (by omega)
        obtain ⟨u4, _⟩ := under_v a a (by omega) (by omega)
        obtain ⟨u5, _⟩ := under_v a bE (by omega) (by decide)
        obtain ⟨u6, _⟩ := under_v b a (by omega) (by omega)
        rw [under_self] at u4
        rw [under_nil] at u5
        have tr := @under_trans a b c
        have an := @under_anti a b o1 o2
        have se := str_eq a b
        have he : (a.toList == b.toList) = true ∨ ((a.toList == b.toList) = false ∧ (unF a b = false ∨ unF b a = false)) := by
          by_cases hab : a = b
          · exact Or.inl (by rw [se, decide_eq_true hab])
          · exact Or.inr ⟨by rw [se, decide_eq_false hab], an hab⟩
        clear an se o1 o2 o3 z1 z2 z3
        generalize unF a b = t1 at *
        generalize unF b c = t2 at *
        generalize unF a c = t3 at *
        generalize unF b a = t4 at *
        generalize hab : (a.toList == b.toList) = ab at he
        have hT : ((!t1 || (!t2 || t3)) && (ab || (!t1 || !t4))) = true := by
          clear a1 a2 a3 u1 u2 u3 u4 u5 u6 hab
          cases t1 <;> cases t2 <;> cases t3 <;> cases t4 <;> cases ab <;> simp_all
        clear tr he
        refine g_split (t1) (fun hq1 => ?_) (fun hq1 => ?_)
        · refine g_split (bif false then true else !t2) (fun hq2 => ?_) (fun hq2 => ?_)
          · (have gq2 := hq2; simp only [Bool.cond_true_left, Bool.cond_false_right, Bool.cond_false_left, Bool.cond_true_right, beq_true, beq_false, Bool.not_not, Bool.or_eq_true, Bool.and_eq_true, Bool.or_eq_false_iff, Bool.and_eq_false_iff, Bool.not_eq_true', Bool.not_eq_false', beq_iff_eq, beq_eq_false_iff_ne, bne_iff_ne, bne_eq_false_iff_eq, decide_eq_true_eq, decide_eq_false_iff_not, ne_eq] at gq2)
            refine g_split (ab) (fun hq3 => ?_) (fun hq3 => ?_)
            · have e1' := c1
              have e2' := a1
              have e3' := c2
              have e4' := a2
              have e5' := c3
              have e6' := a3
              have e7' := u1
              have e8' := u2
              have e9' := aw
              have e10' := u4
              have e11' := u5
              have e12' := (congrArg (fun z => AV.bool z) hab)
              refine g_q [⟨2, [], .call (avOf e1') (blOf e1') []⟩, ⟨3, [], .call (avOf e2') (blOf e2') []⟩, ⟨10, [], .call (avOf e3') (blOf e3') []⟩, ⟨11, [], .call (avOf e4') (blOf e4') []⟩, ⟨18, [], .call (avOf e5') (blOf e5') []⟩, ⟨19, [], .call (avOf e6') (blOf e6') []⟩, ⟨38, [], .call (avOf e7') (blOf e7') []⟩, ⟨41, [.tm 47 (.bool false)], .no⟩, ⟨43, [], .call (avOf e8') (blOf e8') []⟩, ⟨47, [.tm 53 (.bool true)], .no⟩, ⟨52, [], .call (avOf e9') (blOf e9') []⟩, ⟨56, [], .call (avOf e10') (blOf e10') []⟩, ⟨60, [], .call (avOf e11') (blOf e11') []⟩, ⟨68, [], .as (rhsOf e12')⟩, ⟨70, [.tm 75 (.bool true)], .no⟩] [.sel [6]] Exit.ret (stOf 88 [(6, AV.bool true)] []) (And.intro e1' (And.intro e2' (And.intro e3' (And.intro e4' (And.intro e5' (And.intro e6' (And.intro e7' (And.intro (congrArg AV.bool (congrArg (fun z => !z) hq1)) (And.intro e8' (And.intro (congrArg AV.bool (show (bif false then true else !t2) = true from (by assumption))) (And.intro (show true = false → false = true from (by decide)) (And.intro e9' (And.intro e10' (And.intro e11' (And.intro e12' (And.intro (congrArg AV.bool (show ab = true from (by assumption))) (And.intro (show true = false → false = true from (by decide)) (show true = false → false = true from (by decide))))))))))))))))))) ?_
              refine g_f [] [] (AV.bool true) ([]) trivial ?_
              exact ⟨by cases t1 <;> cases t2 <;> cases t3 <;> cases t4 <;> cases ab <;> first | rfl | exact absurd hT (by decide) | contradiction, rfl⟩
            · have e1' := c1
              have e2' := a1
              have e3' := c2
              have e4' := a2
              have e5' := c3
              have e6' := a3
              have e7' := u1
              have e8' := u2
              have e9' := aw
              have e10' := u4
              have e11' := u5
              have e12' := (congrArg (fun z => AV.bool z) hab)
              have e13' := u6
              refine g_q [⟨2, [], .call (avOf e1') (blOf e1') []⟩, ⟨3, [], .call (avOf e2') (blOf e2') []⟩, ⟨10, [], .call (avOf e3') (blOf e3') []⟩, ⟨11, [], .call (avOf e4') (blOf e4') []⟩, ⟨18, [], .call (avOf e5') (blOf e5') []⟩, ⟨19, [], .call (avOf e6') (blOf e6') []⟩, ⟨38, [], .call (avOf e7') (blOf e7') []⟩, ⟨41, [.tm 47 (.bool false)], .no⟩, ⟨43, [], .call (avOf e8') (blOf e8') []⟩, ⟨47, [.tm 53 (.bool true)], .no⟩, ⟨52, [], .call (avOf e9') (blOf e9') []⟩, ⟨56, [], .call (avOf e10') (blOf e10') []⟩, ⟨60, [], .call (avOf e11') (blOf e11') []⟩, ⟨68, [], .as (rhsOf e12')⟩, ⟨70, [.tm 75 (.bool false)], .no⟩, ⟨72, [], .call (avOf e7') (blOf e7') []⟩, ⟨76, [.tm 81 (.bool false)], .no⟩, ⟨78, [], .call (avOf e13') (blOf e13') []⟩] [.sel [6]] Exit.ret (stOf 88 [(6, AV.bool (bif true then bif false then true else !t4 else false))] []) (And.intro e1' (And.intro e2' (And.intro e3' (And.intro e4' (And.intro e5' (And.intro e6' (And.intro e7' (And.intro (congrArg AV.bool (congrArg (fun z => !z) hq1)) (And.intro e8' (And.intro (congrArg AV.bool (show (bif false then true else !t2) = true from (by assumption))) (And.intro (show true = false → false = true from (by decide)) (And.intro e9' (And.intro e10' (And.intro e11' (And.intro e12' (And.intro (congrArg AV.bool (show ab = false from (by assumption))) (And.intro e7' (And.intro (congrArg AV.bool (congrArg (fun z => bif false then true else !z) hq1)) e13')))))))))))))))))) ?_
              refine g_f [] [] (AV.bool (bif true then bif false then true else !t4 else false)) ([]) trivial ?_
              exact ⟨by cases t1 <;> cases t2 <;> cases t3 <;> cases t4 <;> cases ab <;> first | rfl | exact absurd hT (by decide) | contradiction, rfl⟩
          · (have gq2 := hq2; simp only [Bool.cond_true_left, Bool.cond_false_right, Bool.cond_false_left, Bool.cond_true_right, beq_true, beq_false, Bool.not_not, Bool.or_eq_true, Bool.and_eq_true, Bool.or_eq_false_iff, Bool.and_eq_false_iff, Bool.not_eq_true', Bool.not_eq_false', beq_iff_eq, beq_eq_false_iff_ne, bne_iff_ne, bne_eq_false_iff_eq, decide_eq_true_eq, decide_eq_false_iff_not, ne_eq] at gq2)
            refine g_split (ab) (fun hq3 => ?_) (fun hq3 => ?_)
            · have e1' := c1
              have e2' := a1
              have e3' := c2
              have e4' := a2
              have e5' := c3
              have e6' := a3
              have e7' := u1
              have e8' := u2
              have e14' := u3
              have e9' := aw
              have e10' := u4
              have e11' := u5
              have e12' := (congrArg (fun z => AV.bool z) hab)
              refine g_q [⟨2, [], .call (avOf e1') (blOf e1') []⟩, ⟨3, [], .call (avOf e2') (blOf e2') []⟩, ⟨10, [], .call (avOf e3') (blOf e3') []⟩, ⟨11, [], .call (avOf e4') (blOf e4') []⟩, ⟨18, [], .call (avOf e5') (blOf e5') []⟩, ⟨19, [], .call (avOf e6') (blOf e6') []⟩, ⟨38, [], .call (avOf e7') (blOf e7') []⟩, ⟨41, [.tm 47 (.bool false)], .no⟩, ⟨43, [], .call (avOf e8') (blOf e8') []⟩, ⟨47, [.tm 53 (.bool false)], .no⟩, ⟨49, [], .call (avOf e14') (blOf e14') []⟩, ⟨52, [], .call (avOf e9') (blOf e9') []⟩, ⟨56, [], .call (avOf e10') (blOf e10') []⟩, ⟨60, [], .call (avOf e11') (blOf e11') []⟩, ⟨66, [.tm 71 (.bool true)], .no⟩, ⟨68, [], .as (rhsOf e12')⟩, ⟨70, [.tm 75 (.bool true)], .no⟩] [.sel [6]] Exit.ret (stOf 88 [(6, AV.bool true)] []) (And.intro e1' (And.intro e2' (And.intro e3' (And.intro e4' (And.intro e5' (And.intro e6' (And.intro e7' (And.intro (congrArg AV.bool (congrArg (fun z => !z) hq1)) (And.intro e8' (And.intro (congrArg AV.bool (show (bif false then true else !t2) = false from (by assumption))) (And.intro e14' (And.intro e9' (And.intro e10' (And.intro e11' (And.intro (congrArg AV.bool (show (bif true then bif false then true else t3 else false) = true from (by simp_all; done))) (And.intro e12' (And.intro (congrArg AV.bool (show ab = true from (by assumption))) (And.intro (show true = false → false = true from (by decide)) (show true = false → false = true from (by decide)))))))))))))))))))) ?_
              refine g_f [] [] (AV.bool true) ([]) trivial ?_
              exact ⟨by cases t1 <;> cases t2 <;> cases t3 <;> cases t4 <;> cases ab <;> first | rfl | exact absurd hT (by decide) | contradiction, rfl⟩
            · have e1' := c1
              have e2' := a1
              have e3' := c2
              have e4' := a2
              have e5' := c3
              have e6' := a3
              have e7' := u1
              have e8' := u2
              have e14' := u3
              have e9' := aw
              have e10' := u4
              have e11' := u5
              have e12' := (congrArg (fun z => AV.bool z) hab)
              have e13' := u6
              refine g_q [⟨2, [], .call (avOf e1') (blOf e1') []⟩, ⟨3, [], .call (avOf e2') (blOf e2') []⟩, ⟨10, [], .call (avOf e3') (blOf e3') []⟩, ⟨11, [], .call (avOf e4') (blOf e4') []⟩, ⟨18, [], .call (avOf e5') (blOf e5') []⟩, ⟨19, [], .call (avOf e6') (blOf e6') []⟩, ⟨38, [], .call (avOf e7') (blOf e7') []⟩, ⟨41, [.tm 47 (.bool false)], .no⟩, ⟨43, [], .call (avOf e8') (blOf e8') []⟩, ⟨47, [.tm 53 (.bool false)], .no⟩, ⟨49, [], .call (avOf e14') (blOf e14') []⟩, ⟨52, [], .call (avOf e9') (blOf e9') []⟩, ⟨56, [], .call (avOf e10') (blOf e10') []⟩, ⟨60, [], .call (avOf e11') (blOf e11') []⟩, ⟨66, [.tm 71 (.bool true)], .no⟩, ⟨68, [], .as (rhsOf e12')⟩, ⟨70, [.tm 75 (.bool false)], .no⟩, ⟨72, [], .call (avOf e7') (blOf e7') []⟩, ⟨76, [.tm 81 (.bool false)], .no⟩, ⟨78, [], .call (avOf e13') (blOf e13') []⟩] [.sel [6]] Exit.ret (stOf 88 [(6, AV.bool (bif true then bif false then true else !t4 else false))] []) (And.intro e1' (And.intro e2' (And.intro e3' (And.intro e4' (And.intro e5' (And.intro e6' (And.intro e7' (And.intro (congrArg AV.bool (congrArg (fun z => !z) hq1)) (And.intro e8' (And.intro (congrArg AV.bool (show (bif false then true else !t2) = false from (by assumption))) (And.intro e14' (And.intro e9' (And.intro e10' (And.intro e11' (And.intro (congrArg AV.bool (show (bif true then bif false then true else t3 else false) = true from (by simp_all; done))) (And.intro e12' (And.intro (congrArg AV.bool (show ab = false from (by assumption))) (And.intro e7' (And.intro (congrArg AV.bool (congrArg (fun z => bif false then true else !z) hq1)) e13'))))))))))))))))))) ?_
              refine g_f [] [] (AV.bool (bif true then bif false then true else !t4 else false)) ([]) trivial ?_
              exact ⟨by cases t1 <;> cases t2 <;> cases t3 <;> cases t4 <;> cases ab <;> first | rfl | exact absurd hT (by decide) | contradiction, rfl⟩
        · refine g_split (ab) (fun hq2 => ?_) (fun hq2 => ?_)
          · have e1' := c1
            have e2' := a1
            have e3' := c2
            have e4' := a2
            have e5' := c3
            have e6' := a3
            have e7' := u1
            have e9' := aw
            have e10' := u4
            have e11' := u5
            have e12' := (congrArg (fun z => AV.bool z) hab)
            refine g_q [⟨2, [], .call (avOf e1') (blOf e1') []⟩, ⟨3, [], .call (avOf e2') (blOf e2') []⟩, ⟨10, [], .call (avOf e3') (blOf e3') []⟩, ⟨11, [], .call (avOf e4') (blOf e4') []⟩, ⟨18, [], .call (avOf e5') (blOf e5') []⟩, ⟨19, [], .call (avOf e6') (blOf e6') []⟩, ⟨38, [], .call (avOf e7') (blOf e7') []⟩, ⟨41, [.tm 47 (.bool true)], .no⟩, ⟨52, [], .call (avOf e9') (blOf e9') []⟩, ⟨56, [], .call (avOf e10') (blOf e10') []⟩, ⟨60, [], .call (avOf e11') (blOf e11') []⟩, ⟨68, [], .as (rhsOf e12')⟩, ⟨70, [.tm 75 (.bool true)], .no⟩] [.sel [6]] Exit.ret (stOf 88 [(6, AV.bool true)] []) (And.intro e1' (And.intro e2' (And.intro e3' (And.intro e4' (And.intro e5' (And.intro e6' (And.intro e7' (And.intro (congrArg AV.bool (congrArg (fun z => !z) hq1)) (And.intro (show true = false → false = true from (by decide)) (And.intro (show true = false → false = true from (by decide)) (And.intro e9' (And.intro e10' (And.intro e11' (And.intro e12' (And.intro (congrArg AV.bool (show ab = true from (by assumption))) (And.intro (show true = false → false = true from (by decide)) (show true = false → false = true from (by decide)))))))))))))))))) ?_
            refine g_f [] [] (AV.bool true) ([]) trivial ?_
            exact ⟨by cases t1 <;> cases t2 <;> cases t3 <;> cases t4 <;> cases ab <;> first | rfl | exact absurd hT (by decide) | contradiction, rfl⟩
          · have e1' := c1
            have e2' := a1
            have e3' := c2
            have e4' := a2
            have e5' := c3
            have e6' := a3
            have e7' := u1
            have e9' := aw
            have e10' := u4
            have e11' := u5
            have e12' := (congrArg (fun z => AV.bool z) hab)
            refine g_q [⟨2, [], .call (avOf e1') (blOf e1') []⟩, ⟨3, [], .call (avOf e2') (blOf e2') []⟩, ⟨10, [], .call (avOf e3') (blOf e3') []⟩, ⟨11, [], .call (avOf e4') (blOf e4') []⟩, ⟨18, [], .call (avOf e5') (blOf e5') []⟩, ⟨19, [], .call (avOf e6') (blOf e6') []⟩, ⟨38, [], .call (avOf e7') (blOf e7') []⟩, ⟨41, [.tm 47 (.bool true)], .no⟩, ⟨52, [], .call (avOf e9') (blOf e9') []⟩, ⟨56, [], .call (avOf e10') (blOf e10') []⟩, ⟨60, [], .call (avOf e11') (blOf e11') []⟩, ⟨68, [], .as (rhsOf e12')⟩, ⟨70, [.tm 75 (.bool false)], .no⟩, ⟨72, [], .call (avOf e7') (blOf e7') []⟩, ⟨76, [.tm 81 (.bool true)], .no⟩] [.sel [6]] Exit.ret (stOf 88 [(6, AV.bool true)] []) (And.intro e1' (And.intro e2' (And.intro e3' (And.intro e4' (And.intro e5' (And.intro e6' (And.intro e7' (And.intro (congrArg AV.bool (congrArg (fun z => !z) hq1)) (And.intro (show true = false → false = true from (by decide)) (And.intro (show true = false → false = true from (by decide)) (And.intro e9' (And.intro e10' (And.intro e11' (And.intro e12' (And.intro (congrArg AV.bool (show ab = false from (by assumption))) (And.intro e7' (And.intro (congrArg AV.bool (congrArg (fun z => bif false then true else !z) hq1)) (show true = false → false = true from (by decide))))))))))))))))))) ?_
            refine g_f [] [] (AV.bool true) ([]) trivial ?_
            exact ⟨by cases t1 <;> cases t2 <;> cases t3 <;> cases t4 <;> cases ab <;> first | rfl | exact absurd hT (by decide) | contradiction, rfl⟩
end Go.Proofs.YtaljnmmnmnoinaaDoor
