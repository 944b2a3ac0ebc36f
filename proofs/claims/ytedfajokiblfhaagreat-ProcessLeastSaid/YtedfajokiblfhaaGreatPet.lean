/- Walk of ProcessLeast. -/
import Derived.Test.YtedfajokiblfhaaGreatR1
namespace Go.Proofs.YtedfajokiblfhaaGreat
open Go.RowKit Go.Lib

theorem need_pos {q : Kl} (h : q.vB = true) : 0 ≤ q.g * (q.d * 1000000) := by
  obtain ⟨_, _, _, hd, hg⟩ := Lt.validB_iff.1 (show Lt.validB q.s.data.toList q.r q.z q.d q.g = true from h)
  exact Int.mul_nonneg (by omega) (Int.mul_nonneg (by omega) (by decide))
set_option maxRecDepth 100000 in
set_option maxHeartbeats 8000000 in
theorem pleast_walk (r l a b k a2 b2 : Int) (q : Kl) (t : Int) (bath cold cooling : Int) (w : World) (hs : q.s.size ≤ maxLen) (_ht : (Lit.int .i64 t).wf = true) (_hp : (Lit.int .i64 bath).wf = true) (_hq : (Lit.int .i64 cold).wf = true) (_hr : (Lit.int .i64 cooling).wf = true) :
    Calls Tryz.prog 5 #[.agg #[.int .i64 r, .int .i64 l, .int .i64 a, .int .i64 b, .int .i64 k, .int .i64 a2, .int .i64 b2, .string q.s, .int .i64 q.r, .int .i64 q.z, .int .i64 q.d, .int .i64 q.g, .int .i64 t], .agg #[.int .i64 bath, .int .i64 cold, .int .i64 cooling]] w fun e w' => e = .returned (.bool true) ∧ Below w.heap.size w w' := by
  have BX := hid (box2_start (w := w) (A := #[.int .i64 r, .int .i64 l, .int .i64 a, .int .i64 b, .int .i64 k, .int .i64 a2, .int .i64 b2, .string q.s, .int .i64 q.r, .int .i64 q.z, .int .i64 q.d, .int .i64 q.g, .int .i64 t]) (B := #[.int .i64 bath, .int .i64 cold, .int .i64 cooling]) (T := 27) (T' := 44) (fz := (0, 0)) (fz' := (0, 0)))
  have HSM := hid (fun W => small04_any r l a b k a2 b2 W none 0 0 (by decide))
  have HS := hid hs
  clear hs
  go_enter Tryz.func5, Tryz.ntmps5
  have t0 := BX.out.fst 0; have t1 := BX.out.fst 1; have t2 := BX.out.fst 2; have t3 := BX.out.fst 3; have t4 := BX.out.fst 4; have t5 := BX.out.fst 5; have t6 := BX.out.fst 6; have t7 := BX.out.fst 7; have t8 := BX.out.fst 8; have t9 := BX.out.fst 9; have t10 := BX.out.fst 10; have t11 := BX.out.fst 11; have t12 := BX.out.fst 12
  have c0 := BX.out.snd 0; have c1 := BX.out.snd 1; have c2 := BX.out.snd 2
  simp only [List.getElem?_toArray, List.getElem?_cons_zero, List.getElem?_cons_succ] at t0 t1 t2 t3 t4 t5 t6 t7 t8 t9 t10 t11 t12 c0 c1 c2
  go_wp2_with fail
  refine (HSM.out _).mono ?_
  rintro e w1 ⟨rfl, hb⟩
  have BX := hid (BX.out.keep hb)
  clear hb t0 t1 t2 t3 t4 t5 t6 t7 t8 t9 t10 t11 t12 c0 c1 c2
  have t0 := BX.out.fst 0; have t1 := BX.out.fst 1; have t2 := BX.out.fst 2; have t3 := BX.out.fst 3; have t4 := BX.out.fst 4; have t5 := BX.out.fst 5; have t6 := BX.out.fst 6; have t7 := BX.out.fst 7; have t8 := BX.out.fst 8; have t9 := BX.out.fst 9; have t10 := BX.out.fst 10; have t11 := BX.out.fst 11; have t12 := BX.out.fst 12
  have c0 := BX.out.snd 0; have c1 := BX.out.snd 1; have c2 := BX.out.snd 2
  simp only [List.getElem?_toArray, List.getElem?_cons_zero, List.getElem?_cons_succ] at t0 t1 t2 t3 t4 t5 t6 t7 t8 t9 t10 t11 t12 c0 c1 c2
  cases hsm : smallB r l 0 80
  · skip
    go_wp2_with fail
    refine (lawake_any _).mono ?_
    rintro e w9 ⟨rfl, hb⟩
    have BX := hid (BX.out.keep hb)
    clear hb
    go_wp2_with fail
    go_ret
    exact ⟨rfl, BX.out.low⟩
  cases h1 : decide (40 < cooling)
  case true =>
    go_wp2_with fail
    refine (lawake_any _).mono ?_
    rintro e w9 ⟨rfl, hb⟩
    have BX := hid (BX.out.keep hb)
    clear hb
    go_wp2_with fail
    go_ret
    exact ⟨rfl, BX.out.low⟩
  cases h2 : decide (4 < wrap64 (r * l))
  case true =>
    go_wp2_with fail
    refine (lawake_any _).mono ?_
    rintro e w9 ⟨rfl, hb⟩
    have BX := hid (BX.out.keep hb)
    clear hb
    go_wp2_with fail
    go_ret
    exact ⟨rfl, BX.out.low⟩
  by_cases hm : mendE (canB r l a b k a2 b2) q.vB t bath cold cooling [] = 0
  case neg =>
    have HL1 := hid (fun W => least_err r l a b k a2 b2 W q t bath cold cooling HS.out hm)
    have HL2 := hid (fun W => xleast_err r l a b k a2 b2 W q t bath cold cooling HS.out hm)
    generalize mendE (canB r l a b k a2 b2) q.vB t bath cold cooling [] = ce at *
    have hc1 : (ce != 0) = true := by simpa using hm
    clear hm
    go_wp2_with fail
    refine (HL1.out _).mono ?_
    rintro e w2 ⟨rfl, hb⟩
    have BX := hid (BX.out.keep hb)
    clear hb t0 t1 t2 t3 t4 t5 t6 t7 t8 t9 t10 t11 t12 c0 c1 c2
    have t0 := BX.out.fst 0; have t1 := BX.out.fst 1; have t2 := BX.out.fst 2; have t3 := BX.out.fst 3; have t4 := BX.out.fst 4; have t5 := BX.out.fst 5; have t6 := BX.out.fst 6; have t7 := BX.out.fst 7; have t8 := BX.out.fst 8; have t9 := BX.out.fst 9; have t10 := BX.out.fst 10; have t11 := BX.out.fst 11; have t12 := BX.out.fst 12
    have c0 := BX.out.snd 0; have c1 := BX.out.snd 1; have c2 := BX.out.snd 2
    simp only [List.getElem?_toArray, List.getElem?_cons_zero, List.getElem?_cons_succ] at t0 t1 t2 t3 t4 t5 t6 t7 t8 t9 t10 t11 t12 c0 c1 c2
    go_wp2_with fail
    refine (HL2.out _).mono ?_
    rintro e w3 ⟨rfl, hb⟩
    have BX := hid (BX.out.keep hb)
    clear hb t0 t1 t2 t3 t4 t5 t6 t7 t8 t9 t10 t11 t12 c0 c1 c2
    go_wp2_with fail
    refine (lawake_any _).mono ?_
    rintro e w9 ⟨rfl, hb⟩
    have BX := hid (BX.out.keep hb)
    clear hb
    go_wp2_with fail
    go_ret
    exact ⟨rfl, BX.out.low⟩
  obtain ⟨hch, hob, hoc, hc0, hc2⟩ := mendE_zero hm
  obtain ⟨c, Z, hcv, rfl, rfl, rfl, rfl, rfl, rfl, rfl, hz, hv, ho, _, _⟩ := canB_open hch
  obtain ⟨cl, rfl⟩ := Int.eq_ofNat_of_zero_le hc0
  have hcl : cl ≤ 2000 := by omega
  have HL1 := hid (fun W => least_all c q t bath cold cl Z W hz HS.out hcv hv ho hob hoc hcl)
  have HL2 := hid (fun W => xleast_all c q t bath cold cl Z W hz HS.out hcv hv ho hob hoc hcl)
  have HPR := hid (fun n W => proved_any c.R c.L c.A c.B c.K c.A2 c.B2 W q t bath cold cl n HS.out)
  have hkv : q.vB = true := (chk4_zero hch).2.1
  have HND : Hid (∀ W, Calls Tryz.prog 26 #[.agg #[.string q.s, .int .i64 q.r, .int .i64 q.z, .int .i64 q.d, .int .i64 q.g]] W fun e w' => e = .returned (.int .i64 (q.g * (q.d * 1000000))) ∧ Below W.heap.size W w') := fun W => Lt.rneeds_yes q.s q.r q.z q.d q.g W HS.out hkv
  have HNP := hid (need_pos hkv)
  have HST := hid (fun (n : Nat) (hn : n ≤ 2000 - cl) => sterP_tst (c := c) (q := q) (Z := Z) (t := t) (bath := bath) (cold := cold) (cooling := cl) (n := n) hz hch hob hoc (by omega))
  generalize sterP c.R c.L c.A c.B c.K c.A2 c.B2 q t bath cold cl = T at *
  obtain ⟨G, hG⟩ : ∃ G : Nat → Int, G = fun n : Nat => withF c.R c.L c.A c.B c.K c.A2 c.B2 q t bath cold cl n := ⟨_, rfl⟩
  have HST : Hid (∀ (n : Nat), n ≤ 2000 - cl → T n = decide (q.g * (q.d * 1000000) ≤ G n)) := by rw [hG]; exact HST
  rw [← hG] at HL1 HL2
  generalize q.g * (q.d * 1000000) = need at *
  clear hG hch hz hv ho hob hoc hm hcv hkv
  go_wp2_with fail
  refine (HL1.out _).mono ?_
  rintro e w2 ⟨hb, hr1⟩
  have BX := hid (BX.out.keep hb)
  clear hb t0 t1 t2 t3 t4 t5 t6 t7 t8 t9 t10 t11 t12 c0 c1 c2
  have t0 := BX.out.fst 0; have t1 := BX.out.fst 1; have t2 := BX.out.fst 2; have t3 := BX.out.fst 3; have t4 := BX.out.fst 4; have t5 := BX.out.fst 5; have t6 := BX.out.fst 6; have t7 := BX.out.fst 7; have t8 := BX.out.fst 8; have t9 := BX.out.fst 9; have t10 := BX.out.fst 10; have t11 := BX.out.fst 11; have t12 := BX.out.fst 12
  have c0 := BX.out.snd 0; have c1 := BX.out.snd 1; have c2 := BX.out.snd 2
  simp only [List.getElem?_toArray, List.getElem?_cons_zero, List.getElem?_cons_succ] at t0 t1 t2 t3 t4 t5 t6 t7 t8 t9 t10 t11 t12 c0 c1 c2
  have HR1 := hid hr1
  clear hr1
  rcases HR1.out with ⟨n, hn, g1, g2, rfl⟩ | ⟨g1, rfl⟩
  case inr =>
    have HG1 := hid g1
    clear HR1 g1
    go_wp2_with fail
    refine (HL2.out _).mono ?_
    rintro e w3 ⟨hb, ⟨m, hm, k1, _, _⟩ | ⟨_, rfl⟩⟩
    · have := HG1.out m hm
      omega
    have BX := hid (BX.out.keep hb)
    clear hb t0 t1 t2 t3 t4 t5 t6 t7 t8 t9 t10 t11 t12 c0 c1 c2
    go_wp2_with fail
    refine (lawake_any _).mono ?_
    rintro e w9 ⟨rfl, hb⟩
    have BX := hid (BX.out.keep hb)
    clear hb
    go_wp2_with fail
    go_ret
    exact ⟨rfl, BX.out.low⟩
  have HN := hid (And.intro hn (And.intro g1 g2))
  clear HR1 g1 g2 hn
  obtain ⟨bn, hbn⟩ : ∃ bn, bn = if n = 0 then -1 else G (n - 1) := ⟨_, rfl⟩
  rw [← hbn]
  have HBN := hid hbn
  obtain ⟨gn, hgn⟩ : ∃ gn, gn = G n := ⟨_, rfl⟩
  rw [← hgn]
  have HGN := hid hgn
  clear hbn hgn
  go_wp2_with fail
  refine (HL2.out _).mono ?_
  rintro e w3 ⟨hb, ⟨m, hm, k1, k2, rfl⟩ | ⟨k1, _⟩⟩
  case inr => have := k1 n HN.out.1; have := HN.out.2.1; omega
  have hnm : m = n := by
    rcases Nat.lt_trichotomy m n with h | h | h
    · have := HN.out.2.2 m h; omega
    · exact h
    · have := k2 n h; have := HN.out.2.1; omega
  subst hnm
  rw [← HBN.out, ← HGN.out]
  clear hm k1 k2 HL1 HL2
  have BX := hid (BX.out.keep hb)
  clear hb t0 t1 t2 t3 t4 t5 t6 t7 t8 t9 t10 t11 t12 c0 c1 c2
  have t0 := BX.out.fst 0; have t1 := BX.out.fst 1; have t2 := BX.out.fst 2; have t3 := BX.out.fst 3; have t4 := BX.out.fst 4; have t5 := BX.out.fst 5; have t6 := BX.out.fst 6; have t7 := BX.out.fst 7; have t8 := BX.out.fst 8; have t9 := BX.out.fst 9; have t10 := BX.out.fst 10; have t11 := BX.out.fst 11; have t12 := BX.out.fst 12
  have c0 := BX.out.snd 0; have c1 := BX.out.snd 1; have c2 := BX.out.snd 2
  simp only [List.getElem?_toArray, List.getElem?_cons_zero, List.getElem?_cons_succ] at t0 t1 t2 t3 t4 t5 t6 t7 t8 t9 t10 t11 t12 c0 c1 c2
  have hTn : T m = true := by rw [HST.out m HN.out.1]; have := HN.out.2.1; simpa using this
  have hpn : need ≤ gn := by rw [HGN.out]; exact HN.out.2.1
  have hm2 : m ≤ 2000 := by have := HN.out.1; omega
  by_cases h0 : m = 0
  · have hbn : bn = -1 := by rw [HBN.out, if_pos h0]
    have HP1 := hid (show provO T m = true by unfold provO; rw [hTn, show decide ((m : Int) = 0) = true by simp [h0]]; rfl)
    have hnp := HNP.out
    subst h0
    subst hbn
    have hlt : ¬ need ≤ -1 := by omega
    clear HBN HGN
    go_wp2_with fail
    refine (HPR.out 0 _).mono ?_
    rintro e w4 ⟨rfl, hb⟩
    rw [show provO T 0 = true from HP1.out]
    have BX := hid (BX.out.keep hb)
    clear hb t0 t1 t2 t3 t4 t5 t6 t7 t8 t9 t10 t11 t12 c0 c1 c2
    have t0 := BX.out.fst 0; have t1 := BX.out.fst 1; have t2 := BX.out.fst 2; have t3 := BX.out.fst 3; have t4 := BX.out.fst 4; have t5 := BX.out.fst 5; have t6 := BX.out.fst 6; have t7 := BX.out.fst 7; have t8 := BX.out.fst 8; have t9 := BX.out.fst 9; have t10 := BX.out.fst 10; have t11 := BX.out.fst 11; have t12 := BX.out.fst 12
    have c0 := BX.out.snd 0; have c1 := BX.out.snd 1; have c2 := BX.out.snd 2
    simp only [List.getElem?_toArray, List.getElem?_cons_zero, List.getElem?_cons_succ] at t0 t1 t2 t3 t4 t5 t6 t7 t8 t9 t10 t11 t12 c0 c1 c2
    go_wp2_with fail
    refine (HND.out _).mono ?_
    rintro e w5 ⟨rfl, hb⟩
    have BX := hid (BX.out.keep hb)
    clear hb t0 t1 t2 t3 t4 t5 t6 t7 t8 t9 t10 t11 t12 c0 c1 c2
    have t0 := BX.out.fst 0; have t1 := BX.out.fst 1; have t2 := BX.out.fst 2; have t3 := BX.out.fst 3; have t4 := BX.out.fst 4; have t5 := BX.out.fst 5; have t6 := BX.out.fst 6; have t7 := BX.out.fst 7; have t8 := BX.out.fst 8; have t9 := BX.out.fst 9; have t10 := BX.out.fst 10; have t11 := BX.out.fst 11; have t12 := BX.out.fst 12
    have c0 := BX.out.snd 0; have c1 := BX.out.snd 1; have c2 := BX.out.snd 2
    simp only [List.getElem?_toArray, List.getElem?_cons_zero, List.getElem?_cons_succ] at t0 t1 t2 t3 t4 t5 t6 t7 t8 t9 t10 t11 t12 c0 c1 c2
    go_wp2_with fail
    refine (HND.out _).mono ?_
    rintro e w6 ⟨rfl, hb⟩
    have BX := hid (BX.out.keep hb)
    clear hb t0 t1 t2 t3 t4 t5 t6 t7 t8 t9 t10 t11 t12 c0 c1 c2
    have t0 := BX.out.fst 0; have t1 := BX.out.fst 1; have t2 := BX.out.fst 2; have t3 := BX.out.fst 3; have t4 := BX.out.fst 4; have t5 := BX.out.fst 5; have t6 := BX.out.fst 6; have t7 := BX.out.fst 7; have t8 := BX.out.fst 8; have t9 := BX.out.fst 9; have t10 := BX.out.fst 10; have t11 := BX.out.fst 11; have t12 := BX.out.fst 12
    have c0 := BX.out.snd 0; have c1 := BX.out.snd 1; have c2 := BX.out.snd 2
    simp only [List.getElem?_toArray, List.getElem?_cons_zero, List.getElem?_cons_succ] at t0 t1 t2 t3 t4 t5 t6 t7 t8 t9 t10 t11 t12 c0 c1 c2
    go_wp2_with fail
    refine (lawake_any _).mono ?_
    rintro e w9 ⟨rfl, hb⟩
    have BX := hid (BX.out.keep hb)
    clear hb
    go_wp2_with fail
    go_ret
    exact ⟨rfl, BX.out.low⟩
  · have hbn : bn = G (m - 1) := by rw [HBN.out, if_neg h0]
    have hT1 : T ((m : Int) - 1) = false := by
      have h := HST.out (m - 1) (by have := HN.out.1; omega)
      rw [show ((m - 1 : Nat) : Int) = (m : Int) - 1 by omega] at h
      rw [h]
      have := HN.out.2.2 (m - 1) (by omega)
      simpa using this
    have HP1 := hid (show provO T m = true by unfold provO; rw [hTn, hT1]; simp)
    have HP2 := hid (show provO T ((m : Int) - 1) = false by unfold provO; rw [hT1]; rfl)
    have hlt : bn < need := by rw [hbn]; exact HN.out.2.2 (m - 1) (by omega)
    have hm0 : (0 : Int) < m := by omega
    clear HBN HGN hbn hT1 hTn h0
    go_wp2_with fail
    refine (HPR.out m _).mono ?_
    rintro e w4 ⟨rfl, hb⟩
    rw [HP1.out]
    have BX := hid (BX.out.keep hb)
    clear hb t0 t1 t2 t3 t4 t5 t6 t7 t8 t9 t10 t11 t12 c0 c1 c2
    have t0 := BX.out.fst 0; have t1 := BX.out.fst 1; have t2 := BX.out.fst 2; have t3 := BX.out.fst 3; have t4 := BX.out.fst 4; have t5 := BX.out.fst 5; have t6 := BX.out.fst 6; have t7 := BX.out.fst 7; have t8 := BX.out.fst 8; have t9 := BX.out.fst 9; have t10 := BX.out.fst 10; have t11 := BX.out.fst 11; have t12 := BX.out.fst 12
    have c0 := BX.out.snd 0; have c1 := BX.out.snd 1; have c2 := BX.out.snd 2
    simp only [List.getElem?_toArray, List.getElem?_cons_zero, List.getElem?_cons_succ] at t0 t1 t2 t3 t4 t5 t6 t7 t8 t9 t10 t11 t12 c0 c1 c2
    go_wp2_with fail
    refine (HPR.out ((m : Int) - 1) _).mono ?_
    rintro e w5 ⟨rfl, hb⟩
    rw [HP2.out]
    have BX := hid (BX.out.keep hb)
    clear hb t0 t1 t2 t3 t4 t5 t6 t7 t8 t9 t10 t11 t12 c0 c1 c2
    have t0 := BX.out.fst 0; have t1 := BX.out.fst 1; have t2 := BX.out.fst 2; have t3 := BX.out.fst 3; have t4 := BX.out.fst 4; have t5 := BX.out.fst 5; have t6 := BX.out.fst 6; have t7 := BX.out.fst 7; have t8 := BX.out.fst 8; have t9 := BX.out.fst 9; have t10 := BX.out.fst 10; have t11 := BX.out.fst 11; have t12 := BX.out.fst 12
    have c0 := BX.out.snd 0; have c1 := BX.out.snd 1; have c2 := BX.out.snd 2
    simp only [List.getElem?_toArray, List.getElem?_cons_zero, List.getElem?_cons_succ] at t0 t1 t2 t3 t4 t5 t6 t7 t8 t9 t10 t11 t12 c0 c1 c2
    go_wp2_with fail
    refine (HND.out _).mono ?_
    rintro e w6 ⟨rfl, hb⟩
    have BX := hid (BX.out.keep hb)
    clear hb t0 t1 t2 t3 t4 t5 t6 t7 t8 t9 t10 t11 t12 c0 c1 c2
    have t0 := BX.out.fst 0; have t1 := BX.out.fst 1; have t2 := BX.out.fst 2; have t3 := BX.out.fst 3; have t4 := BX.out.fst 4; have t5 := BX.out.fst 5; have t6 := BX.out.fst 6; have t7 := BX.out.fst 7; have t8 := BX.out.fst 8; have t9 := BX.out.fst 9; have t10 := BX.out.fst 10; have t11 := BX.out.fst 11; have t12 := BX.out.fst 12
    have c0 := BX.out.snd 0; have c1 := BX.out.snd 1; have c2 := BX.out.snd 2
    simp only [List.getElem?_toArray, List.getElem?_cons_zero, List.getElem?_cons_succ] at t0 t1 t2 t3 t4 t5 t6 t7 t8 t9 t10 t11 t12 c0 c1 c2
    go_wp2_with fail
    refine (HND.out _).mono ?_
    rintro e w7 ⟨rfl, hb⟩
    have BX := hid (BX.out.keep hb)
    clear hb t0 t1 t2 t3 t4 t5 t6 t7 t8 t9 t10 t11 t12 c0 c1 c2
    have t0 := BX.out.fst 0; have t1 := BX.out.fst 1; have t2 := BX.out.fst 2; have t3 := BX.out.fst 3; have t4 := BX.out.fst 4; have t5 := BX.out.fst 5; have t6 := BX.out.fst 6; have t7 := BX.out.fst 7; have t8 := BX.out.fst 8; have t9 := BX.out.fst 9; have t10 := BX.out.fst 10; have t11 := BX.out.fst 11; have t12 := BX.out.fst 12
    have c0 := BX.out.snd 0; have c1 := BX.out.snd 1; have c2 := BX.out.snd 2
    simp only [List.getElem?_toArray, List.getElem?_cons_zero, List.getElem?_cons_succ] at t0 t1 t2 t3 t4 t5 t6 t7 t8 t9 t10 t11 t12 c0 c1 c2
    go_wp2_with fail
    refine (lawake_any _).mono ?_
    rintro e w9 ⟨rfl, hb⟩
    have BX := hid (BX.out.keep hb)
    clear hb
    go_wp2_with fail
    go_ret
    exact ⟨rfl, BX.out.low⟩
end Go.Proofs.YtedfajokiblfhaaGreat
