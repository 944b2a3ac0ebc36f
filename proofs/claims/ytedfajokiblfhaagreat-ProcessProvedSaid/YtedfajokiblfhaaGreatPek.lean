/- Walks of the reference's Cook, enoughTicks, Proved: contracts. -/
import Derived.Test.YtedfajokiblfhaaGreatPej
namespace Go.Proofs.YtedfajokiblfhaaGreat
open Go.RowKit Go.Lib

theorem cookB_eq (t n cold cooling : Int) : cookB t n cold cooling = ((((okT t && okT cold) && tick1 n) && tick1 cooling) && !decide (2000 < n + cooling)) := by
  unfold cookB
  rw [Bool.eq_iff_iff]
  simp only [okL, List.all_cons, List.all_nil, Bool.and_true, Bool.and_eq_true, ticksB_two, tick1, decide_eq_true_eq, Bool.not_eq_true', decide_eq_false_iff_not]
  cases okT t <;> cases okT cold <;> simp <;> omega
theorem own_kept2 {w w' : World} {base e n : Nat} {v : Value} {xs : List Value} (h : w.ownsRow base e 1 v n xs) (hb : Below w.heap.size w w') : w'.ownsRow base e 1 v n xs := own_kept h hb
set_option maxRecDepth 20000 in
set_option maxHeartbeats 4000000 in
theorem xcook_any (t n cold cooling : Int) (w : World) : Calls Tryz.prog 99 #[.int .i64 t, .int .i64 n, .int .i64 cold, .int .i64 cooling] w (CookP t n cold cooling w) := by
  have HQ := hid (cookB_eq t n cold cooling)
  have HW1 : Hid (∀ W, Calls Tryz.prog 76 #[.int .i64 t] W fun e w' => e = .returned (.bool (okT t)) ∧ W = w') := fun W => warm_any t W
  have HW2 : Hid (∀ W, Calls Tryz.prog 76 #[.int .i64 cold] W fun e w' => e = .returned (.bool (okT cold)) ∧ W = w') := fun W => warm_any cold W
  have HW3 : Hid (∀ W, Calls Tryz.prog 58 #[.int .i64 n, .int .i64 0, .int .i64 2000] W fun e w' => e = .returned (.bool (tick1 n)) ∧ W = w') := fun W => xin_any n 0 2000 W
  have HW4 : Hid (∀ W, Calls Tryz.prog 58 #[.int .i64 cooling, .int .i64 0, .int .i64 2000] W fun e w' => e = .returned (.bool (tick1 cooling)) ∧ W = w') := fun W => xin_any cooling 0 2000 W
  have HNO : Hid (cookB t n cold cooling = false → CookP t n cold cooling w (.returned (.tuple #[.slice none 0 0, .int .i64 7])) w) := fun h => by
    refine ⟨.slice none 0 0, by rw [h]; rfl, ?_, Below.refl _ _⟩
    unfold cookL
    rw [h]
    exact .inl ⟨none, 0, rfl, rfl⟩
  obtain ⟨b1, hb1⟩ : ∃ B, B = okT t := ⟨_, rfl⟩
  obtain ⟨b2, hb2⟩ : ∃ B, B = okT cold := ⟨_, rfl⟩
  obtain ⟨b3, hb3⟩ : ∃ B, B = tick1 n := ⟨_, rfl⟩
  obtain ⟨b4, hb4⟩ : ∃ B, B = tick1 cooling := ⟨_, rfl⟩
  have HT3 := hid (show b3 = true → 0 ≤ n ∧ n ≤ 2000 by rw [hb3]; simp [tick1])
  have HT4 := hid (show b4 = true → 0 ≤ cooling ∧ cooling ≤ 2000 by rw [hb4]; simp [tick1])
  rw [← hb1] at HW1 HQ
  rw [← hb2] at HW2 HQ
  rw [← hb3] at HW3 HQ
  rw [← hb4] at HW4 HQ
  clear hb1 hb2 hb3 hb4
  go_enter Tryz.func99, Tryz.ntmps99
  go_wp2_with fail
  refine (HW1.out _).mono ?_
  rintro e w3 ⟨rfl, rfl⟩
  cases b1
  · go_wp2_with fail
    refine bodyPost_ret (v := .tuple #[.slice none 0 0, .int .i64 7]) (by simp [results, Tryz.results99, go_sem]) rfl (HNO.out (by rw [HQ.out]; rfl))
  go_wp2_with fail
  refine (HW2.out _).mono ?_
  rintro e w3 ⟨rfl, rfl⟩
  cases b2
  · go_wp2_with fail
    refine bodyPost_ret (v := .tuple #[.slice none 0 0, .int .i64 7]) (by simp [results, Tryz.results99, go_sem]) rfl (HNO.out (by rw [HQ.out]; rfl))
  go_wp2_with fail
  refine (HW3.out _).mono ?_
  rintro e w3 ⟨rfl, rfl⟩
  cases b3
  · go_wp2_with fail
    refine bodyPost_ret (v := .tuple #[.slice none 0 0, .int .i64 7]) (by simp [results, Tryz.results99, go_sem]) rfl (HNO.out (by rw [HQ.out]; rfl))
  go_wp2_with fail
  refine (HW4.out _).mono ?_
  rintro e w3 ⟨rfl, rfl⟩
  cases b4
  · go_wp2_with fail
    refine bodyPost_ret (v := .tuple #[.slice none 0 0, .int .i64 7]) (by simp [results, Tryz.results99, go_sem]) rfl (HNO.out (by rw [HQ.out]; rfl))
  obtain ⟨n1, n2⟩ := HT3.out (by trivial)
  obtain ⟨m1, m2⟩ := HT4.out (by trivial)
  cases h5 : decide (2000 < n + cooling)
  case true =>
    rw [h5] at HQ
    go_wp2_with fail
    refine bodyPost_ret (v := .tuple #[.slice none 0 0, .int .i64 7]) (by simp [results, Tryz.results99, go_sem]) rfl (HNO.out (by rw [HQ.out]; rfl))
  have HYES : Hid (cookB t n cold cooling = true) := by refine hid ?_; rw [HQ.out, h5]; rfl
  have h5' : ¬ 2000 < n + cooling := by simpa using h5
  have HCL := hid (show cookL t n cold cooling = List.replicate n.toNat t ++ List.replicate cooling.toNat cold by unfold cookL; rw [if_pos HYES.out])
  clear HQ HNO HT3 HT4 HW1 HW2 HW3 HW4
  obtain ⟨n', rfl⟩ := Int.eq_ofNat_of_zero_le n1
  obtain ⟨m', rfl⟩ := Int.eq_ofNat_of_zero_le m1
  rw [Int.toNat_natCast, Int.toNat_natCast] at HCL
  have HB := hid (show n' ≤ 2000 ∧ m' ≤ 2000 ∧ n' + m' ≤ 2000 by omega)
  obtain ⟨i0, hi, hz0, hz1, hz2⟩ := info_parts infoQc
  have HR1 := hid (fun W => xrep_any t n' W HB.out.1)
  have HR2 := hid (fun W => xrep_any cold m' W HB.out.2.1)
  have HLN := hid (show (List.replicate n' t).length = n' ∧ (List.replicate m' cold).length = m' by simp)
  generalize List.replicate n' t = F1 at *
  generalize List.replicate m' cold = F2 at *
  go_wp2_with fail
  refine (HR1.out _).mono ?_
  rintro e w1 ⟨v1, rfl, ho1, hb1⟩
  have HO1 := hid ho1
  have HB1 := hid hb1
  obtain ⟨a1, c1, rfl⟩ := own_shapeP ho1
  clear ho1 hb1
  go_wp2_with fail
  refine (HR2.out _).mono ?_
  rintro e w2 ⟨v2, rfl, ho2, hb2⟩
  have HO2 := hid (own_kept2 HO1.out hb2)
  have HB2 := hid (bstep HB1.out HB1.out.size hb2)
  have HI2 := hid (NewI.rowI ho2 (by rw [HLN.out.2]; have := HB.out; omega))
  obtain ⟨a2, c2, rfl⟩ := own_shapeP ho2
  clear ho2 hb2
  go_wp2_with (at_builtin; (refine wpList_app rfl (.tmp 36) (.tmp 39) 28 rfl w.heap.size 3 i0 Tryz.underlying28 hi hz0 hz1 hz2 _ (ivs F1) rfl HO2.out _ F2 rfl HI2.out.src (by rw [ivs_len, HLN.out.1, HLN.out.2]; have := HB.out; omega) HB2.out.size ?_); intro v3 w6 hA1; have HB6 := hid (app_low HB2.out HO2.out (Nat.le_refl _) hA1); have HO6 := hid (app_next hA1); obtain ⟨a3, c3, rfl⟩ := own_shapeP HO6.out; clear hA1)
  refine bodyPost_ret (v := .tuple #[.slice a3 (F1 ++ F2).length c3, .int .i64 0]) (by simp [results, Tryz.results99, go_sem]) rfl ?_
  refine ⟨_, by rw [HYES.out]; rfl, ?_, HB6.out⟩
  rw [HCL.out]
  exact own_rowI HO6.out (by rw [List.length_append, HLN.out.1, HLN.out.2]; have := HB.out; omega)
set_option maxRecDepth 20000 in
set_option maxHeartbeats 4000000 in
theorem xenough_any (r l a b k a2 b2 : Int) (w : World) (q : Kl) (t bath cold cooling n : Int) (hs : q.s.size ≤ maxLen) :
    Calls Tryz.prog 59 #[.agg #[.int .i64 r, .int .i64 l, .int .i64 a, .int .i64 b, .int .i64 k, .int .i64 a2, .int .i64 b2], .agg #[.string q.s, .int .i64 q.r, .int .i64 q.z, .int .i64 q.d, .int .i64 q.g], .int .i64 t, .int .i64 bath, .int .i64 cold, .int .i64 cooling, .int .i64 n] w fun e w' => e = .returned (.bool (sterO q (lowO (sumsO r l a b k a2 b2 q t (cookL bath n cold cooling))) (chk4 (canB r l a b k a2 b2) q.vB t (cookL bath n cold cooling)))) ∧ Below w.heap.size w w' := by
  have HX := hid (box2_start (w := w) (A := #[.int .i64 r, .int .i64 l, .int .i64 a, .int .i64 b, .int .i64 k, .int .i64 a2, .int .i64 b2]) (B := #[.string q.s, .int .i64 q.r, .int .i64 q.z, .int .i64 q.d, .int .i64 q.g]) (T := 23) (T' := 25) (fz := (0, 0)) (fz' := (0, 0)))
  have HC := hid (fun W => xcook_any bath n cold cooling W)
  have HST := hid (fun (W : World) (v : Value) (h : RowI W v (cookL bath n cold cooling)) => xster_any r l a b k a2 b2 W q t v (cookL bath n cold cooling) hs h (by have := cookL_len bath n cold cooling; unfold maxLen; omega))
  generalize sterO q (lowO (sumsO r l a b k a2 b2 q t (cookL bath n cold cooling))) (chk4 (canB r l a b k a2 b2) q.vB t (cookL bath n cold cooling)) = so at *
  generalize chk4 (canB r l a b k a2 b2) q.vB t (cookL bath n cold cooling) = ce at *
  clear hs
  go_enter Tryz.func59, Tryz.ntmps59
  go_wp2_with fail
  refine (HC.out _).mono ?_
  rintro e w1 ⟨v, rfl, hr, hb⟩
  have HX := hid (HX.out.keep hb)
  have HR := hid hr
  clear hr hb
  generalize (if cookB bath n cold cooling = true then (0 : Int) else 7) = ck at *
  have t0 := HX.out.fst 0; have t1 := HX.out.fst 1; have t2 := HX.out.fst 2; have t3 := HX.out.fst 3; have t4 := HX.out.fst 4; have t5 := HX.out.fst 5; have t6 := HX.out.fst 6
  have x0 := HX.out.snd 0; have x1 := HX.out.snd 1; have x2 := HX.out.snd 2; have x3 := HX.out.snd 3; have x4 := HX.out.snd 4
  simp only [List.getElem?_toArray, List.getElem?_cons_zero, List.getElem?_cons_succ] at t0 t1 t2 t3 t4 t5 t6 x0 x1 x2 x3 x4
  go_wp2_with fail
  refine (HST.out _ _ HR.out).mono ?_
  rintro e w2 ⟨rfl, hb⟩
  have HX := hid (HX.out.keep hb)
  clear hb
  go_wp2_with fail
  go_ret
  exact ⟨rfl, HX.out.low⟩
end Go.Proofs.YtedfajokiblfhaaGreat
