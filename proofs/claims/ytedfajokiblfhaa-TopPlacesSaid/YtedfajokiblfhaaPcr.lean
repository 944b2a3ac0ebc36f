/- Walk of TopPlaces. -/
import Derived.Test.YtedfajokiblfhaaPcq
namespace Go.Proofs.Ytedfajokiblfhaa
open Go.RowKit Go.Lib

set_option maxRecDepth 100000 in
set_option maxHeartbeats 16000000 in
theorem toppl_walk (r l a b k a2 b2 : Int) (q : Kl) (t : Int) (v : Value) (p : List Int) (w : World) (hs : q.s.size ≤ maxLen) (_ht : (Lit.int .i64 t).wf = true) (hl : RowI w v p) :
    Calls Try.prog 5 #[.agg #[.int .i64 r, .int .i64 l, .int .i64 a, .int .i64 b, .int .i64 k, .int .i64 a2, .int .i64 b2, .string q.s, .int .i64 q.r, .int .i64 q.z, .int .i64 q.d, .int .i64 q.g, .int .i64 t], v] w fun e w' => e = .returned (.bool true) ∧ Below w.heap.size w w' := by
  have BX := hid (box1_start (w := w) (A := #[.int .i64 r, .int .i64 l, .int .i64 a, .int .i64 b, .int .i64 k, .int .i64 a2, .int .i64 b2, .string q.s, .int .i64 q.r, .int .i64 q.z, .int .i64 q.d, .int .i64 q.g, .int .i64 t]) (T := 27) (fz := (0, 0)))
  have HL := hid (fun w1 (g : Below w.heap.size w w1) => hl.keep g)
  have hpm := hl.most
  obtain ⟨a0, cap, rfl⟩ := hl.shape
  have HSM := hid (fun W => small4_any r l a b k a2 b2 W a0 p.length cap hpm)
  have HPL := hid (fun W h => places_all r l a b k a2 b2 W q t (.slice a0 p.length cap) p hs h hpm)
  have HEV := hid (fun W => even_all r l a b k a2 b2 W t)
  by_cases hce : chk4 (canB r l a b k a2 b2) q.vB t p = 0
  case neg =>
    generalize sumsO r l a b k a2 b2 q t p = S at *
    generalize chk4 (canB r l a b k a2 b2) q.vB t p = ce at *
    generalize evenO r l a b k a2 b2 t = O at *
    have hc1 : (ce != 0) = true := by simpa using hce
    clear hl hs hce
    go_enter Try.func5, Try.ntmps5
    go_wp2_with fail
    refine (HSM.out _).mono ?_
    rintro e w1 ⟨rfl, hb⟩
    cases hsm : smallB r l p.length 60
    · have BX := hid (BX.out.keep hb)
      clear hb
      go_wp2_with fail
      refine (awake4_any _).mono ?_
      rintro e w2 ⟨rfl, hb⟩
      have BX := hid (BX.out.keep hb)
      clear hb
      go_wp2_with fail
      go_ret
      exact ⟨rfl, BX.out.low⟩
    have BX := hid (BX.out.keep hb)
    clear hb hsm
    obtain ⟨t0, t1, t2, t3, t4, t5, t6, t7, t8, t9, t10, t11, t12⟩ := BX.out.thirteen
    have hz := BX.out.sz
    go_wp2_with fail
    refine (HPL.out _ (HL.out _ BX.out.low)).mono ?_
    rintro e w3 ⟨ub, ud, rfl, hr, hb⟩
    have BX := hid (BX.out.keep hb); clear hb t0 t1 t2 t3 t4 t5 t6 t7 t8 t9 t10 t11 t12; obtain ⟨t0, t1, t2, t3, t4, t5, t6, t7, t8, t9, t10, t11, t12⟩ := BX.out.thirteen; have hz := BX.out.sz
    clear hr
    go_wp2_with fail
    refine (HEV.out _).mono ?_
    rintro e w4 ⟨ua, uc, rfl, hr, hb⟩
    have BX := hid (BX.out.keep hb); clear hb t0 t1 t2 t3 t4 t5 t6 t7 t8 t9 t10 t11 t12; obtain ⟨t0, t1, t2, t3, t4, t5, t6, t7, t8, t9, t10, t11, t12⟩ := BX.out.thirteen; have hz := BX.out.sz
    clear hr
    go_wp2_with fail
    have hba := (Below.refl _ w4).alloc (Nat.le_refl _) (.cells #[.slice ua O.1.1.length uc, .bool O.1.2] 42)
    have BX := hid (BX.out.keep hba)
    refine (awake4_any _).mono ?_
    rintro e w2 ⟨rfl, hb⟩
    have BX := hid (BX.out.keep hb)
    clear hb hba
    go_wp2_with fail
    go_ret
    exact ⟨rfl, BX.out.low⟩
  obtain ⟨hc, hk, ho, hop, hlen⟩ := chk4_zero hce
  obtain ⟨c, hcv, rfl, rfl, rfl, rfl, rfl, rfl, rfl⟩ := canB_cn hc
  obtain ⟨Z, hz, hv⟩ := kl_of hk
  have hso : sumsO c.R c.L c.A c.B c.K c.A2 c.B2 q t p = (dishR c (Lt.dn q.r Z) (dish0 c t) p).2 := by
    unfold sumsO; rw [if_pos hce, cnOf_cn, hz]; rfl
  have hSl : (dishR c (Lt.dn q.r Z) (dish0 c t) p).2.length = c.P := ((dish0_good ho).run hcv.ok hop).len
  have HPS := hid (fun i (hi : i < c.P) => (place_sum (f := Lt.dn q.r Z) hcv.ok ho hop hi p.length (Nat.le_refl _)))
  rw [List.take_length] at HPS
  rw [evenO_ok hcv ho] at HEV
  rw [hso, hce] at HPL
  rw [hz]
  have hce2 := even_chk (p := p) hcv ho hop hlen
  have HAT : Hid (∀ i, i < c.P → ∀ W (ua : Option Addr) (uc : Nat), RowI W (.slice ua (evB c t).1.length uc) (evB c t).1 → RowI W (.slice a0 p.length cap) p → Calls Try.prog 18 #[.agg #[.int .i64 (c.R : Int), .int .i64 (c.L : Int), .int .i64 c.A, .int .i64 c.B, .int .i64 c.K, .int .i64 c.A2, .int .i64 c.B2], .agg #[.slice ua (evB c t).1.length uc, .bool (evB c t).2], .slice a0 p.length cap, .int .i64 (i : Int)] W (ColP (tellN (fun y => y.1.getD i 0) c (evB c t) p p.length) 0 W)) := fun i hi W ua uc h1 h2 => by
    have hP := hcv.ok.p
    have := hat_all c.R c.L c.A c.B c.K c.A2 c.B2 W (.slice ua (evB c t).1.length uc) (evB c t).1 (evB c t).2 (.slice a0 p.length cap) p (i : Int) h1 h2 (by omega)
    rw [show ((evB c t).1, (evB c t).2) = evB c t from rfl, atO_ok hce2 hi] at this
    exact this
  have HCO : Hid (∀ W (ua : Option Addr) (uc : Nat), RowI W (.slice ua (evB c t).1.length uc) (evB c t).1 → RowI W (.slice a0 p.length cap) p → Calls Try.prog 20 #[.agg #[.int .i64 (c.R : Int), .int .i64 (c.L : Int), .int .i64 c.A, .int .i64 c.B, .int .i64 c.K, .int .i64 c.A2, .int .i64 c.B2], .agg #[.slice ua (evB c t).1.length uc, .bool (evB c t).2], .slice a0 p.length cap] W (ColP (coldL c t p) 0 W)) := fun W ua uc h1 h2 => by
    have := hcold_all c.R c.L c.A c.B c.K c.A2 c.B2 W (.slice ua (evB c t).1.length uc) (evB c t).1 (evB c t).2 (.slice a0 p.length cap) p h1 h2
    rw [show ((evB c t).1, (evB c t).2) = evB c t from rfl, colO_ok hce2, cnOf_cn] at this
    exact this
  have HSI := hid (fun i (hi : i < c.P) W (u : Value) (h : RowI W u (tellN (fun y => y.1.getD i 0) c (evB c t) p p.length)) => sum_at q.s q.r q.d q.g Z W hs u _ h hv (placeL_ok hcv.ok ho hop hi) (by rw [tellN_len]; omega))
  have HSU := hid (fun W (u : Value) (h : RowI W u (coldL c t p)) => sum_at q.s q.r q.d q.g Z W hs u (coldL c t p) h hv (coldL_ok hcv.ok ho hop) (by rw [coldL_len]; omega))
  have HBY := hid (fun W (h : RowI W (.slice a0 p.length cap) p) => byc_ok c q.s q.r q.d q.g t Z (.slice a0 p.length cap) p W hs hcv hv ho hop hlen h)
  have HPY := hid (fun W => places_yes c W hcv)
  have HP := hid hcv.ok.p
  generalize (dishR c (Lt.dn q.r Z) (dish0 c t) p).2 = S at *
  have HSL := hid hSl
  rw [hz] at BX HPL
  have HEL := hid (show (evB c t).1.length = c.P by simp [evB])
  rw [show ((List.replicate c.P t, decide (0 < c.K) && decide (c.K ≤ t)) : Bd) = evB c t from rfl] at HEV
  clear hl hs hce hc hk ho hop hlen hcv hv hso hSl hce2 hz
  go_enter Try.func5, Try.ntmps5
  go_wp2_with fail
  refine (HSM.out _).mono ?_
  rintro e w1 ⟨rfl, hb⟩
  cases hsm : smallB c.R c.L p.length 60
  · have BX := hid (BX.out.keep hb)
    clear hb
    go_wp2_with fail
    refine (awake4_any _).mono ?_
    rintro e w2 ⟨rfl, hb⟩
    have BX := hid (BX.out.keep hb)
    clear hb
    go_wp2_with fail
    go_ret
    exact ⟨rfl, BX.out.low⟩
  have BX := hid (BX.out.keep hb)
  clear hb hsm
  obtain ⟨t0, t1, t2, t3, t4, t5, t6, t7, t8, t9, t10, t11, t12⟩ := BX.out.thirteen
  have hz := BX.out.sz
  go_wp2_with fail
  refine (HPL.out _ (HL.out _ BX.out.low)).mono ?_
  rintro e w3 ⟨ub, ud, rfl, hrs, hb⟩
  have BX := hid (BX.out.keep hb); clear hb t0 t1 t2 t3 t4 t5 t6 t7 t8 t9 t10 t11 t12; obtain ⟨t0, t1, t2, t3, t4, t5, t6, t7, t8, t9, t10, t11, t12⟩ := BX.out.thirteen; have hz := BX.out.sz
  go_wp2_with fail
  refine (HEV.out _).mono ?_
  rintro e w4 ⟨ua, uc, rfl, hrt, hb⟩
  have hrs := hrs.keep hb
  dsimp only at hrt ⊢
  have BX := hid (BX.out.keep hb); clear hb t0 t1 t2 t3 t4 t5 t6 t7 t8 t9 t10 t11 t12; obtain ⟨t0, t1, t2, t3, t4, t5, t6, t7, t8, t9, t10, t11, t12⟩ := BX.out.thirteen; have hz := BX.out.sz
  go_wp2_with fail
  have hba := (Below.refl _ w4).alloc (Nat.le_refl _) (.cells #[.slice ua (evB c t).1.length uc, .bool (evB c t).2] 42)
  have BX := hid (BX.out.keep hba)
  have HRS := hid (hrs.keep hba)
  have HRT := hid (hrt.keep hba)
  have HNB := hid (heap_alloc_new w4 (.cells #[.slice ua (evB c t).1.length uc, .bool (evB c t).2] 42))
  generalize w4.heap.size = nb at *
  generalize w4.alloc _ = W5 at *
  clear hba hrs hrt t0 t1 t2 t3 t4 t5 t6 t7 t8 t9 t10 t11 t12 hz
  refine (HPY.out _).mono ?_
  rintro e w6 ⟨rfl, hb⟩
  have BX := hid (BX.out.keep hb)
  have HRS := hid (HRS.out.keep hb)
  have HRT := hid (HRT.out.keep hb)
  have HNB := hid ((hb.block _ (lt_of_block HNB.out)).trans HNB.out)
  clear hb
  rw [HSL.out] at HRS ⊢
  obtain ⟨ra, b', o', rc, hve, hra, hrc, _⟩ := HRS.out.form
  rw [ivN_len, HSL.out] at hve
  cases hve
  have hp := HP.out
  have hra : ub = some ⟨b', o', none⟩ := hra.resolve_left (fun e => by have := ivN_len S; rw [e, HSL.out] at this; simp at this; omega)
  subst hra
  have HRC := hid hrc
  clear hrc
  go_wp2_with fail
  go_loopw [9] (fun x wr => ∃ j : Nat, j ≤ c.P ∧ x = .int .i64 (j : Int) ∧ Hid (Below w6.heap.size w6 wr)) (fun x _ => c.P - (intOf x).toNat)
  case atStart => exact ⟨0, Nat.zero_le _, rfl, Below.refl _ _⟩
  case round =>
    obtain ⟨j, hj, rfl, hW⟩ := hrel
    have BX := hid (BX.out.keep hW.out)
    have HRT := hid (HRT.out.keep hW.out)
    have HNB := hid ((hW.out.block _ (lt_of_block HNB.out)).trans HNB.out)
    obtain ⟨t0, t1, t2, t3, t4, t5, t6, t7, t8, t9, t10, t11, t12⟩ := BX.out.thirteen
    have hz := BX.out.sz
    have n0 := cell_of_row _ _ 0 _ _ _ HNB.out
    have n1 := cell_of_row _ _ 1 _ _ _ HNB.out
    simp only [List.getElem?_toArray, List.getElem?_cons_zero, List.getElem?_cons_succ] at n0 n1
    by_cases hlt : j < c.P
    · have hlt' : (j : Int) < c.P := by omega
      have hjS : j < S.length := by rw [HSL.out]; exact hlt
      have ex := keep_cell hW.out (HRC.out j (by rw [ivN_len]; exact hjS))
      have hex : (ivN S)[j]'(by rw [ivN_len]; exact hjS) = ((Lt.sumL (Lt.dn q.r Z) (tellN (fun y => y.1.getD j 0) c (evB c t) p p.length) : Nat) : Int) := by
        rw [← HPS.out j hlt]
        simp [ivN, List.getD, hjS]
      rw [hex] at ex
      clear hex
      have HAT2 := hid (HAT.out j hlt)
      have HSI2 := hid (HSI.out j hlt)
      have HLT := hid hlt
      generalize tellN (fun y => y.1.getD j 0) c (evB c t) p p.length = TL at *
      generalize Lt.sumL (Lt.dn q.r Z) TL = sm at *
      clear hlt hjS
      go_wp2_with fail
      refine (HAT2.out _ ua uc HRT.out (HL.out _ BX.out.low)).mono ?_
      rintro e w7 ⟨uq, cq, rfl, hrq, hb⟩
      have hW7 := hid (bstep hW.out hW.out.size hb)
      have ex7 := keep_cell hb ex
      have BX := hid (BX.out.keep hb); clear hb t0 t1 t2 t3 t4 t5 t6 t7 t8 t9 t10 t11 t12; obtain ⟨t0, t1, t2, t3, t4, t5, t6, t7, t8, t9, t10, t11, t12⟩ := BX.out.thirteen; have hz := BX.out.sz
      clear n0 n1 ex
      go_wp2_with fail
      refine (HSI2.out _ _ hrq).mono ?_
      rintro e w8 ⟨rfl, hb⟩
      have hW8 := hid (bstep hW7.out hW7.out.size hb)
      have ex8 := keep_cell hb ex7
      have BX := hid (BX.out.keep hb); clear hb t0 t1 t2 t3 t4 t5 t6 t7 t8 t9 t10 t11 t12; obtain ⟨t0, t1, t2, t3, t4, t5, t6, t7, t8, t9, t10, t11, t12⟩ := BX.out.thirteen; have hz := BX.out.sz
      clear ex7 hrq
      have hse : (((sm : Nat) : Int) != ((sm : Nat) : Int)) = false := by simp
      go_wp2_with fail
      go_roundw
      case rel => exact ⟨j + 1, HLT.out, by go_num, hW8⟩
      case measure => have := HLT.out; simp [intOf]; omega
    · obtain rfl : j = c.P := by omega
      generalize coldL c t p = CL at *
      clear HAT HSI HPS HRC HRS hlt hj
      go_wp2_with fail
      refine (HCO.out _ ua uc HRT.out (HL.out _ BX.out.low)).mono ?_
      rintro e w7 ⟨uq, cq, rfl, hrq, hb⟩
      have BX := hid (BX.out.keep hb); clear hb t0 t1 t2 t3 t4 t5 t6 t7 t8 t9 t10 t11 t12; obtain ⟨t0, t1, t2, t3, t4, t5, t6, t7, t8, t9, t10, t11, t12⟩ := BX.out.thirteen; have hz := BX.out.sz
      clear n0 n1
      go_wp2_with fail
      refine (HSU.out _ _ hrq).mono ?_
      rintro e w8 ⟨rfl, hb⟩
      have BX := hid (BX.out.keep hb); clear hb t0 t1 t2 t3 t4 t5 t6 t7 t8 t9 t10 t11 t12; obtain ⟨t0, t1, t2, t3, t4, t5, t6, t7, t8, t9, t10, t11, t12⟩ := BX.out.thirteen; have hz := BX.out.sz
      clear hrq
      go_wp2_with fail
      refine (HBY.out _ (HL.out _ BX.out.low)).mono ?_
      rintro e w9 ⟨rfl, hb⟩
      have BX := hid (BX.out.keep hb); clear hb t0 t1 t2 t3 t4 t5 t6 t7 t8 t9 t10 t11 t12; obtain ⟨t0, t1, t2, t3, t4, t5, t6, t7, t8, t9, t10, t11, t12⟩ := BX.out.thirteen; have hz := BX.out.sz
      have hse : (((Lt.sumL (Lt.dn q.r Z) CL : Nat) : Int) == ((Lt.sumL (Lt.dn q.r Z) CL : Nat) : Int)) = true := by simp
      go_wp2_with fail
      refine (awake4_any _).mono ?_
      rintro e w2 ⟨rfl, hb⟩
      have BX := hid (BX.out.keep hb)
      clear hb
      go_wp2_with fail
      go_ret
      exact ⟨rfl, BX.out.low⟩
end Go.Proofs.Ytedfajokiblfhaa
