/- Walk of ProcessReleases, case d. -/
import Derived.Test.YtihbjimnjhfpeaaGreatR44
namespace Go.Proofs.YtihbjimnjhfpeaaGreat
open Go.RowKit Go.Lib

set_option maxRecDepth 100000 in
set_option maxHeartbeats 16000000 in
theorem preleases_d (r l a b k a2 b2 : Int) (q : Kl) (t : Int) (s : Sch) (pa : Option Addr) (m pc : Nat) (st : Nat → Rt.St) (va : Option Addr) (n vc : Nat) (rd : Nat → Rt.Rd) (fi : Int) (x : Kl) (y : Kl) (w : World) (hs : q.s.size ≤ maxLen) (hsp : s.pr.size ≤ maxLen) (hp : Rt.RowP w (.slice pa m pc) m st) (hr : Rt.RowR w (.slice va n vc) n rd) (hx : x.s.size ≤ maxLen) (hy : y.s.size ≤ maxLen) {vb : Bool} (hVE : Rt.VentV m st n rd vb 0) (hje : judE s (Rt.recB m st n rd) ((q.vB && x.vB) && canB r l a b k a2 b2) t fi = 0) (pF : ((vb && Rt.wholeB m st n rd) && decide (Rt.highN n rd < 0)) = true) (pM : (((decide (s.it ≤ t) && decide (fi ≤ s.fl)) && decide ((Rt.devL st rd n).length = 0)) && decide (s.tk ≤ (Rt.cookN st rd s.tm n : Int))) = false) (pj : judV s m st n rd vb t fi r l a b k a2 b2 q x = 1) :
    Calls Tryz.prog 5 #[.agg #[.int .i64 r, .int .i64 l, .int .i64 a, .int .i64 b, .int .i64 k, .int .i64 a2, .int .i64 b2, .string q.s, .int .i64 q.r, .int .i64 q.z, .int .i64 q.d, .int .i64 q.g, .int .i64 t], .agg #[.string s.pr, .int .i64 s.it, .int .i64 s.tm, .int .i64 s.tk, .int .i64 s.fl, .slice pa m pc, .slice va n vc, .int .i64 fi, .string x.s, .int .i64 x.r, .int .i64 x.z, .int .i64 x.d, .int .i64 x.g], .agg #[.string y.s, .int .i64 y.r, .int .i64 y.z, .int .i64 y.d, .int .i64 y.g]] w fun e w' => e = .returned (.bool true) ∧ Below w.heap.size w w' := by
  have hn := hr.most
  have hm := Rt.RowT.most hp
  unfold maxLen at hn hm
  have HX := hid (b3_start (w := w) (T1 := 27) (T2 := 42) (T3 := 25) (A := #[.int .i64 r, .int .i64 l, .int .i64 a, .int .i64 b, .int .i64 k, .int .i64 a2, .int .i64 b2, .string q.s, .int .i64 q.r, .int .i64 q.z, .int .i64 q.d, .int .i64 q.g, .int .i64 t]) (B := #[.string s.pr, .int .i64 s.it, .int .i64 s.tm, .int .i64 s.tk, .int .i64 s.fl, .slice pa m pc, .slice va n vc, .int .i64 fi, .string x.s, .int .i64 x.r, .int .i64 x.z, .int .i64 x.d, .int .i64 x.g]) (R := #[.string y.s, .int .i64 y.r, .int .i64 y.z, .int .i64 y.d, .int .i64 y.g]))
  have HSM := hid (fun W => small04_any r l a b k a2 b2 W none 0 0 (by decide))
  have HP := hid (fun w1 (g : Below w.heap.size w w1) => (show Rt.RowP w1 (.slice pa m pc) m st from Rt.RowT.keep hp g))
  have HR := hid (fun w1 (g : Below w.heap.size w w1) => hr.keep g)
  have hall : s.ok = true ∧ Rt.recB m st n rd = true ∧ ((q.vB && x.vB) && canB r l a b k a2 b2) = true ∧ okT t = true ∧ inB fi 0 1000000 = true := by
    unfold judE at hje
    split at hje
    · cases hje
    · split at hje
      · cases hje
      · rename_i g1 g2
        simp only [Bool.not_eq_false, Bool.and_eq_true] at g1 g2
        exact ⟨g1.1.1, g1.1.2, by simpa using g1.2, g2.1, g2.2⟩
  obtain ⟨g1, g2, g3, g4, g5⟩ := hall
  have hn2 : n ≤ 2000 := (Rt.rec_step g2).1
  have g3' := g3
  simp only [Bool.and_eq_true] at g3'
  obtain ⟨⟨g6, g7⟩, g8⟩ := g3'
  have HJ := hid (fun W hp hr => judge_ok s pa m pc st va n vc rd t fi r l a b k a2 b2 q x W hp hr hsp hs hx hje hVE)
  have HVE := hid hVE
  have HG2 := hid g2
  have HVT := hid (fun W h1 h2 => Rt.xvent_any (.slice pa m pc) m st (.slice va n vc) n rd W h1 h2)
  have HWH := hid (fun W h1 h2 => Rt.xwhole_any (.slice pa m pc) m st (.slice va n vc) n rd W h1 h2)
  have HHI := hid (fun W h => Rt.xhigh_any (.slice va n vc) n rd W h)
  have HDV := hid (fun W h1 h2 => Rt.xdev_any (.slice pa m pc) m st (.slice va n vc) n rd W h1 h2)
  have HCK := hid (fun W h1 h2 => Rt.xcook_any (.slice pa m pc) m st (.slice va n vc) n rd s.tm W h1 h2)
  have HKY : Hid (∀ W, Calls Tryz.prog 18 #[.agg #[.string y.s, .int .i64 y.r, .int .i64 y.z, .int .i64 y.d, .int .i64 y.g]] W fun e w' => e = .returned (.bool y.vB) ∧ Below W.heap.size W w') := fun W => Lt.rvalid_any y.s y.r y.z y.d y.g W hy
  have HBA := hid (fun W h => Rt.xbaths_any (.slice va n vc) n rd W h (by omega))
  have HBN := hid (show (Rt.bathsL rd n).length ≤ 1000000 by rw [Rt.bathsL_len]; omega)
  have HSTE := hid (fun (W : World) (v : Value) (hok : okL (Rt.bathsL rd n) = true) (h : RowI W v (Rt.bathsL rd n)) => by
    have h9 := ster_any r l a b k a2 b2 W q t v (Rt.bathsL rd n) hs h (by have := HBN.out; unfold maxLen; omega)
    rw [show chk4 (canB r l a b k a2 b2) q.vB t (Rt.bathsL rd n) = 0 from chk4_ok (by rw [g6, g8]; rfl) (by rw [g4, hok]; rfl) (by rw [Rt.bathsL_len]; omega)] at h9
    exact h9)
  have HSOE := hid (fun (hok : okL (Rt.bathsL rd n) = true) => show sterO q (lowO (sumsO r l a b k a2 b2 q t (cutL (Rt.bathsL rd n)))) (chk4 (canB r l a b k a2 b2) q.vB t (cutL (Rt.bathsL rd n))) = sterO q (lowO (sumsO r l a b k a2 b2 q t (Rt.bathsL rd n))) 0 by
    rw [cut_same hok, show chk4 (canB r l a b k a2 b2) q.vB t (Rt.bathsL rd n) = 0 from chk4_ok (by rw [g6, g8]; rfl) (by rw [g4, hok]; rfl) (by rw [Rt.bathsL_len]; omega)])
  have HJK := hid (fun (hyv : y.vB = true) (W : World) hp hr => judge_ok s pa m pc st va n vc rd t fi r l a b k a2 b2 y y W hp hr hsp hy hy (by unfold judE; rw [g1, g2, hyv, g8, g4, g5]; rfl) hVE)
  have hdl : (Rt.devL st rd n).length ≤ n := (Rt.dev_ok st rd n).few
  obtain ⟨jv, hjv⟩ : ∃ z, z = judV s m st n rd vb t fi r l a b k a2 b2 q x := ⟨_, rfl⟩
  have hjv0 := hjv
  rw [← hjv] at HJ
  unfold judV at hjv
  obtain ⟨DL, hDL⟩ : ∃ d, d = Rt.devL st rd n := ⟨_, rfl⟩
  obtain ⟨CK, hCK⟩ : ∃ d, d = Rt.cookN st rd s.tm n := ⟨_, rfl⟩
  have HDL := hid hDL
  have HCKE := hid hCK
  rw [← hDL] at hdl hjv
  rw [← hCK] at hjv
  obtain ⟨so, hso⟩ : ∃ z, z = sterO q (lowO (sumsO r l a b k a2 b2 q t (cutL (Rt.bathsL rd n)))) (chk4 (canB r l a b k a2 b2) q.vB t (cutL (Rt.bathsL rd n))) := ⟨_, rfl⟩
  rw [← hso] at HSOE hjv
  obtain ⟨wb, hwb⟩ : ∃ z, z = Rt.wholeB m st n rd := ⟨_, rfl⟩
  rw [← hwb] at HWH hjv
  obtain ⟨hi, hhi⟩ : ∃ z, z = Rt.highN n rd := ⟨_, rfl⟩
  rw [← hhi] at HHI hjv
  obtain ⟨F, hF⟩ : ∃ z, z = ((vb && wb) && decide (hi < 0)) := ⟨_, rfl⟩
  obtain ⟨M, hM⟩ : ∃ z, z = (((decide (s.it ≤ t) && decide (fi ≤ s.fl)) && decide (DL.length = 0)) && decide (s.tk ≤ (CK : Int))) := ⟨_, rfl⟩
  have hfa := rel_facts hF hM hjv
  have HFE := hid hF
  have HME := hid hM
  have hF1 : F = true := by rw [hF, hwb, hhi]; exact pF
  have hM1 : M = false := by rw [hM, hDL, hCK]; exact pM
  obtain rfl : jv = 1 := hjv0.trans pj
  have hso1 := hid (hfa.2.2.2 hF1 hM1 rfl)
  have HF1 := hid hF1
  have HM1 := hid hM1
  clear hF1 hM1 pj
  clear hjv g1 g2 g3 g4 g5 g6 g7 g8 hn2 hp hr hs hx hsp hy hje hVE hDL hCK hso hwb hhi hF hM HJK hfa hjv0
  go_enter Tryz.func5, Tryz.ntmps5
  have t0 := HX.out.can 0; have t1 := HX.out.can 1; have t2 := HX.out.can 2; have t3 := HX.out.can 3; have t4 := HX.out.can 4; have t5 := HX.out.can 5; have t6 := HX.out.can 6; have t7 := HX.out.can 7; have t8 := HX.out.can 8; have t9 := HX.out.can 9; have t10 := HX.out.can 10; have t11 := HX.out.can 11; have t12 := HX.out.can 12; have c0 := HX.out.kil 0; have c1 := HX.out.kil 1; have c2 := HX.out.kil 2; have c3 := HX.out.kil 3; have c4 := HX.out.kil 4; have c5 := HX.out.kil 5; have c6 := HX.out.kil 6; have c7 := HX.out.kil 7; have c8 := HX.out.kil 8; have c9 := HX.out.kil 9; have c10 := HX.out.kil 10; have c11 := HX.out.kil 11; have c12 := HX.out.kil 12; have d0 := HX.out.spo 0; have d1 := HX.out.spo 1; have d2 := HX.out.spo 2; have d3 := HX.out.spo 3; have d4 := HX.out.spo 4
  simp only [List.getElem?_toArray, List.getElem?_cons_zero, List.getElem?_cons_succ] at t0 t1 t2 t3 t4 t5 t6 t7 t8 t9 t10 t11 t12 c0 c1 c2 c3 c4 c5 c6 c7 c8 c9 c10 c11 c12 d0 d1 d2 d3 d4
  go_wp2_with fail
  refine (HSM.out _).mono ?_
  rintro e w1 ⟨rfl, hb⟩
  have HX := hid (HX.out.keep hb)
  clear hb t0 t1 t2 t3 t4 t5 t6 t7 t8 t9 t10 t11 t12 c0 c1 c2 c3 c4 c5 c6 c7 c8 c9 c10 c11 c12 d0 d1 d2 d3 d4
  have t0 := HX.out.can 0; have t1 := HX.out.can 1; have t2 := HX.out.can 2; have t3 := HX.out.can 3; have t4 := HX.out.can 4; have t5 := HX.out.can 5; have t6 := HX.out.can 6; have t7 := HX.out.can 7; have t8 := HX.out.can 8; have t9 := HX.out.can 9; have t10 := HX.out.can 10; have t11 := HX.out.can 11; have t12 := HX.out.can 12; have c0 := HX.out.kil 0; have c1 := HX.out.kil 1; have c2 := HX.out.kil 2; have c3 := HX.out.kil 3; have c4 := HX.out.kil 4; have c5 := HX.out.kil 5; have c6 := HX.out.kil 6; have c7 := HX.out.kil 7; have c8 := HX.out.kil 8; have c9 := HX.out.kil 9; have c10 := HX.out.kil 10; have c11 := HX.out.kil 11; have c12 := HX.out.kil 12; have d0 := HX.out.spo 0; have d1 := HX.out.spo 1; have d2 := HX.out.spo 2; have d3 := HX.out.spo 3; have d4 := HX.out.spo 4
  simp only [List.getElem?_toArray, List.getElem?_cons_zero, List.getElem?_cons_succ] at t0 t1 t2 t3 t4 t5 t6 t7 t8 t9 t10 t11 t12 c0 c1 c2 c3 c4 c5 c6 c7 c8 c9 c10 c11 c12 d0 d1 d2 d3 d4
  cases hsm : smallB r l 0 80
  · skip
    go_wp2_with fail
    refine (lawake_any _).mono ?_
    rintro e w19 ⟨rfl, hb⟩
    have HX := hid (HX.out.keep hb)
    clear hb
    go_wp2_with fail
    go_ret
    exact ⟨rfl, HX.out.low⟩
  by_cases h1 : m ≤ 40
  case neg =>
    have h1' : decide (40 < (m : Int)) = true := by simp; omega
    go_wp2_with fail
    refine (lawake_any _).mono ?_
    rintro e w19 ⟨rfl, hb⟩
    have HX := hid (HX.out.keep hb)
    clear hb
    go_wp2_with fail
    go_ret
    exact ⟨rfl, HX.out.low⟩
  have h1' : decide (40 < (m : Int)) = false := by simp; omega
  by_cases h3 : n ≤ 80
  case neg =>
    have h3' : decide (80 < (n : Int)) = true := by simp; omega
    go_wp2_with fail
    refine (lawake_any _).mono ?_
    rintro e w19 ⟨rfl, hb⟩
    have HX := hid (HX.out.keep hb)
    clear hb
    go_wp2_with fail
    go_ret
    exact ⟨rfl, HX.out.low⟩
  have h3' : decide (80 < (n : Int)) = false := by simp; omega
  go_wp2_with fail
  refine (HJ.out _ (HP.out _ HX.out.low) (HR.out _ HX.out.low)).mono ?_
  rintro e w2 ⟨rfl, hb⟩
  have HX := hid (HX.out.keep hb)
  clear hb t0 t1 t2 t3 t4 t5 t6 t7 t8 t9 t10 t11 t12 c0 c1 c2 c3 c4 c5 c6 c7 c8 c9 c10 c11 c12 d0 d1 d2 d3 d4
  have t0 := HX.out.can 0; have t1 := HX.out.can 1; have t2 := HX.out.can 2; have t3 := HX.out.can 3; have t4 := HX.out.can 4; have t5 := HX.out.can 5; have t6 := HX.out.can 6; have t7 := HX.out.can 7; have t8 := HX.out.can 8; have t9 := HX.out.can 9; have t10 := HX.out.can 10; have t11 := HX.out.can 11; have t12 := HX.out.can 12; have c0 := HX.out.kil 0; have c1 := HX.out.kil 1; have c2 := HX.out.kil 2; have c3 := HX.out.kil 3; have c4 := HX.out.kil 4; have c5 := HX.out.kil 5; have c6 := HX.out.kil 6; have c7 := HX.out.kil 7; have c8 := HX.out.kil 8; have c9 := HX.out.kil 9; have c10 := HX.out.kil 10; have c11 := HX.out.kil 11; have c12 := HX.out.kil 12; have d0 := HX.out.spo 0; have d1 := HX.out.spo 1; have d2 := HX.out.spo 2; have d3 := HX.out.spo 3; have d4 := HX.out.spo 4
  simp only [List.getElem?_toArray, List.getElem?_cons_zero, List.getElem?_cons_succ] at t0 t1 t2 t3 t4 t5 t6 t7 t8 t9 t10 t11 t12 c0 c1 c2 c3 c4 c5 c6 c7 c8 c9 c10 c11 c12 d0 d1 d2 d3 d4
  go_upto_region 7 with (
    (go_at_call 13; refine (HVT.out _ (HP.out _ HX.out.low) (HR.out _ HX.out.low)).mono ?_; rintro e w3 ⟨b1, er0, rfl, hv, hb⟩; obtain ⟨rfl, rfl⟩ := HVE.out.one hv; have HX := hid (HX.out.keep hb); clear hb hv t0 t1 t2 t3 t4 t5 t6 t7 t8 t9 t10 t11 t12 c0 c1 c2 c3 c4 c5 c6 c7 c8 c9 c10 c11 c12 d0 d1 d2 d3 d4))
  go_cut [11] (fun s11 wx => s11 = .bool F ∧ Hid (B3 w wx 27 42 25 #[.int .i64 r, .int .i64 l, .int .i64 a, .int .i64 b, .int .i64 k, .int .i64 a2, .int .i64 b2, .string q.s, .int .i64 q.r, .int .i64 q.z, .int .i64 q.d, .int .i64 q.g, .int .i64 t] #[.string s.pr, .int .i64 s.it, .int .i64 s.tm, .int .i64 s.tk, .int .i64 s.fl, .slice pa m pc, .slice va n vc, .int .i64 fi, .string x.s, .int .i64 x.r, .int .i64 x.z, .int .i64 x.d, .int .i64 x.g] #[.string y.s, .int .i64 y.r, .int .i64 y.z, .int .i64 y.d, .int .i64 y.g]))
  case first =>
    have t0 := HX.out.can 0; have t1 := HX.out.can 1; have t2 := HX.out.can 2; have t3 := HX.out.can 3; have t4 := HX.out.can 4; have t5 := HX.out.can 5; have t6 := HX.out.can 6; have t7 := HX.out.can 7; have t8 := HX.out.can 8; have t9 := HX.out.can 9; have t10 := HX.out.can 10; have t11 := HX.out.can 11; have t12 := HX.out.can 12; have c0 := HX.out.kil 0; have c1 := HX.out.kil 1; have c2 := HX.out.kil 2; have c3 := HX.out.kil 3; have c4 := HX.out.kil 4; have c5 := HX.out.kil 5; have c6 := HX.out.kil 6; have c7 := HX.out.kil 7; have c8 := HX.out.kil 8; have c9 := HX.out.kil 9; have c10 := HX.out.kil 10; have c11 := HX.out.kil 11; have c12 := HX.out.kil 12; have d0 := HX.out.spo 0; have d1 := HX.out.spo 1; have d2 := HX.out.spo 2; have d3 := HX.out.spo 3; have d4 := HX.out.spo 4
    simp only [List.getElem?_toArray, List.getElem?_cons_zero, List.getElem?_cons_succ] at t0 t1 t2 t3 t4 t5 t6 t7 t8 t9 t10 t11 t12 c0 c1 c2 c3 c4 c5 c6 c7 c8 c9 c10 c11 c12 d0 d1 d2 d3 d4
    cases vb
    · go_wp2_with fail
      go_meet
      exact ⟨by rw [HFE.out]; rfl, HX⟩
    go_wp2_with fail
    refine (HWH.out _ (HP.out _ HX.out.low) (HR.out _ HX.out.low)).mono ?_
    rintro e w4 ⟨rfl, hb⟩
    have HX := hid (HX.out.keep hb)
    clear hb t0 t1 t2 t3 t4 t5 t6 t7 t8 t9 t10 t11 t12 c0 c1 c2 c3 c4 c5 c6 c7 c8 c9 c10 c11 c12 d0 d1 d2 d3 d4
    have t0 := HX.out.can 0; have t1 := HX.out.can 1; have t2 := HX.out.can 2; have t3 := HX.out.can 3; have t4 := HX.out.can 4; have t5 := HX.out.can 5; have t6 := HX.out.can 6; have t7 := HX.out.can 7; have t8 := HX.out.can 8; have t9 := HX.out.can 9; have t10 := HX.out.can 10; have t11 := HX.out.can 11; have t12 := HX.out.can 12; have c0 := HX.out.kil 0; have c1 := HX.out.kil 1; have c2 := HX.out.kil 2; have c3 := HX.out.kil 3; have c4 := HX.out.kil 4; have c5 := HX.out.kil 5; have c6 := HX.out.kil 6; have c7 := HX.out.kil 7; have c8 := HX.out.kil 8; have c9 := HX.out.kil 9; have c10 := HX.out.kil 10; have c11 := HX.out.kil 11; have c12 := HX.out.kil 12; have d0 := HX.out.spo 0; have d1 := HX.out.spo 1; have d2 := HX.out.spo 2; have d3 := HX.out.spo 3; have d4 := HX.out.spo 4
    simp only [List.getElem?_toArray, List.getElem?_cons_zero, List.getElem?_cons_succ] at t0 t1 t2 t3 t4 t5 t6 t7 t8 t9 t10 t11 t12 c0 c1 c2 c3 c4 c5 c6 c7 c8 c9 c10 c11 c12 d0 d1 d2 d3 d4
    cases wb
    · go_wp2_with fail
      go_meet
      exact ⟨by rw [HFE.out]; rfl, HX⟩
    cases g9 : decide (hi < 0)
    · have g9' := of_decide_eq_false g9
      have HG9 := hid g9
      clear g9
      go_wp2_with fail
      refine (HHI.out _ (HR.out _ HX.out.low)).mono ?_
      rintro e w5 ⟨rfl, hb⟩
      have HX := hid (HX.out.keep hb)
      clear hb
      go_wp2_with fail
      go_meet
      exact ⟨by rw [HFE.out, HG9.out]; rfl, HX⟩
    · have g9' := of_decide_eq_true g9
      have HG9 := hid g9
      clear g9
      go_wp2_with fail
      refine (HHI.out _ (HR.out _ HX.out.low)).mono ?_
      rintro e w5 ⟨rfl, hb⟩
      have HX := hid (HX.out.keep hb)
      clear hb
      go_wp2_with fail
      go_meet
      exact ⟨by rw [HFE.out, HG9.out]; rfl, HX⟩
  case rest =>
    obtain ⟨rfl, HX⟩ := hcut
    have t0 := HX.out.can 0; have t1 := HX.out.can 1; have t2 := HX.out.can 2; have t3 := HX.out.can 3; have t4 := HX.out.can 4; have t5 := HX.out.can 5; have t6 := HX.out.can 6; have t7 := HX.out.can 7; have t8 := HX.out.can 8; have t9 := HX.out.can 9; have t10 := HX.out.can 10; have t11 := HX.out.can 11; have t12 := HX.out.can 12; have c0 := HX.out.kil 0; have c1 := HX.out.kil 1; have c2 := HX.out.kil 2; have c3 := HX.out.kil 3; have c4 := HX.out.kil 4; have c5 := HX.out.kil 5; have c6 := HX.out.kil 6; have c7 := HX.out.kil 7; have c8 := HX.out.kil 8; have c9 := HX.out.kil 9; have c10 := HX.out.kil 10; have c11 := HX.out.kil 11; have c12 := HX.out.kil 12; have d0 := HX.out.spo 0; have d1 := HX.out.spo 1; have d2 := HX.out.spo 2; have d3 := HX.out.spo 3; have d4 := HX.out.spo 4
    simp only [List.getElem?_toArray, List.getElem?_cons_zero, List.getElem?_cons_succ] at t0 t1 t2 t3 t4 t5 t6 t7 t8 t9 t10 t11 t12 c0 c1 c2 c3 c4 c5 c6 c7 c8 c9 c10 c11 c12 d0 d1 d2 d3 d4
    go_wp2_with fail
    refine (HDV.out _ (HP.out _ HX.out.low) (HR.out _ HX.out.low)).mono ?_
    rintro e w11 ⟨v1, l1, er1, rfl, h1, h2, hb⟩
    have hl1 : l1 = DL := by
      rcases h1 with ⟨_, _, h1⟩ | ⟨h1, _⟩
      · rw [h1, HDL.out]
      · rw [HG2.out] at h1; cases h1
    subst hl1
    obtain ⟨da, dc, rfl⟩ := Rt.RowT.shape h2
    clear h1 h2
    have HX := hid (HX.out.keep hb)
    clear hb t0 t1 t2 t3 t4 t5 t6 t7 t8 t9 t10 t11 t12 c0 c1 c2 c3 c4 c5 c6 c7 c8 c9 c10 c11 c12 d0 d1 d2 d3 d4
    have t0 := HX.out.can 0; have t1 := HX.out.can 1; have t2 := HX.out.can 2; have t3 := HX.out.can 3; have t4 := HX.out.can 4; have t5 := HX.out.can 5; have t6 := HX.out.can 6; have t7 := HX.out.can 7; have t8 := HX.out.can 8; have t9 := HX.out.can 9; have t10 := HX.out.can 10; have t11 := HX.out.can 11; have t12 := HX.out.can 12; have c0 := HX.out.kil 0; have c1 := HX.out.kil 1; have c2 := HX.out.kil 2; have c3 := HX.out.kil 3; have c4 := HX.out.kil 4; have c5 := HX.out.kil 5; have c6 := HX.out.kil 6; have c7 := HX.out.kil 7; have c8 := HX.out.kil 8; have c9 := HX.out.kil 9; have c10 := HX.out.kil 10; have c11 := HX.out.kil 11; have c12 := HX.out.kil 12; have d0 := HX.out.spo 0; have d1 := HX.out.spo 1; have d2 := HX.out.spo 2; have d3 := HX.out.spo 3; have d4 := HX.out.spo 4
    simp only [List.getElem?_toArray, List.getElem?_cons_zero, List.getElem?_cons_succ] at t0 t1 t2 t3 t4 t5 t6 t7 t8 t9 t10 t11 t12 c0 c1 c2 c3 c4 c5 c6 c7 c8 c9 c10 c11 c12 d0 d1 d2 d3 d4
    go_wp2_with fail
    refine (HCK.out _ (HP.out _ HX.out.low) (HR.out _ HX.out.low)).mono ?_
    rintro e w12 ⟨a1, er2, rfl, h1, hb⟩
    have ha1 : a1 = (CK : Int) := by
      rcases h1 with ⟨_, _, h1⟩ | ⟨h1, _⟩
      · rw [h1, HCKE.out]
      · rw [HG2.out] at h1; cases h1
    subst ha1
    clear h1
    have HX := hid (HX.out.keep hb)
    clear hb t0 t1 t2 t3 t4 t5 t6 t7 t8 t9 t10 t11 t12 c0 c1 c2 c3 c4 c5 c6 c7 c8 c9 c10 c11 c12 d0 d1 d2 d3 d4
    have t0 := HX.out.can 0; have t1 := HX.out.can 1; have t2 := HX.out.can 2; have t3 := HX.out.can 3; have t4 := HX.out.can 4; have t5 := HX.out.can 5; have t6 := HX.out.can 6; have t7 := HX.out.can 7; have t8 := HX.out.can 8; have t9 := HX.out.can 9; have t10 := HX.out.can 10; have t11 := HX.out.can 11; have t12 := HX.out.can 12; have c0 := HX.out.kil 0; have c1 := HX.out.kil 1; have c2 := HX.out.kil 2; have c3 := HX.out.kil 3; have c4 := HX.out.kil 4; have c5 := HX.out.kil 5; have c6 := HX.out.kil 6; have c7 := HX.out.kil 7; have c8 := HX.out.kil 8; have c9 := HX.out.kil 9; have c10 := HX.out.kil 10; have c11 := HX.out.kil 11; have c12 := HX.out.kil 12; have d0 := HX.out.spo 0; have d1 := HX.out.spo 1; have d2 := HX.out.spo 2; have d3 := HX.out.spo 3; have d4 := HX.out.spo 4
    simp only [List.getElem?_toArray, List.getElem?_cons_zero, List.getElem?_cons_succ] at t0 t1 t2 t3 t4 t5 t6 t7 t8 t9 t10 t11 t12 c0 c1 c2 c3 c4 c5 c6 c7 c8 c9 c10 c11 c12 d0 d1 d2 d3 d4
    go_upto_region 10 with (fail)
    go_cut [16] (fun s16 wx => s16 = .bool M ∧ w12 = wx)
    case first =>
      cases f1 : decide (s.it ≤ t)
      · have f1' := of_decide_eq_false f1
        have HS0 := hid (show M = false by rw [HME.out, f1]; rfl)
        clear f1
        go_wp2_with fail
        go_meet
        exact ⟨by rw [HS0.out], rfl⟩
      have f1' := of_decide_eq_true f1
      cases f2 : decide (fi ≤ s.fl)
      · have f2' := of_decide_eq_false f2
        have HS0 := hid (show M = false by rw [HME.out, f1, f2]; rfl)
        clear f1 f2
        go_wp2_with fail
        go_meet
        exact ⟨by rw [HS0.out], rfl⟩
      have f2' := of_decide_eq_true f2
      cases f3 : decide (l1.length = 0)
      · have f3' : ((l1.length : Int) == 0) = false := by simpa using f3
        have HS0 := hid (show M = false by rw [HME.out, f1, f2, f3]; rfl)
        clear f1 f2 f3
        go_wp2_with fail
        go_meet
        exact ⟨by rw [HS0.out], rfl⟩
      have f3' : ((l1.length : Int) == 0) = true := by simpa using f3
      cases f4 : decide (s.tk ≤ (CK : Int))
      · have f4' := of_decide_eq_false f4
        have HS0 := hid (show M = false by rw [HME.out, f1, f2, f3, f4]; rfl)
        clear f1 f2 f3 f4
        go_wp2_with fail
        go_meet
        exact ⟨by rw [HS0.out], rfl⟩
      · have f4' := of_decide_eq_true f4
        have HS0 := hid (show M = true by rw [HME.out, f1, f2, f3, f4]; rfl)
        clear f1 f2 f3 f4
        go_wp2_with fail
        go_meet
        exact ⟨by rw [HS0.out], rfl⟩
    case rest =>
      obtain ⟨rfl, rfl⟩ := hcut
      clear HFE HME HDV HCK HVT HWH HHI HJ
      rw [HF1.out, HM1.out] at *
      clear HF1 HM1 t0 t1 t2 t3 t4 t5 t6 t7 t8 t9 t10 t11 t12 c0 c1 c2 c3 c4 c5 c6 c7 c8 c9 c10 c11 c12 d0 d1 d2 d3 d4
      go_wp2_with fail
      go_loopw [19] (fun u wr => ∃ j : Nat, j ≤ n ∧ u = .int .i64 (j : Int) ∧ Hid (∀ i, i < j → okT (rd i).b = true) ∧ Hid (B3 w wr 27 42 25 #[.int .i64 r, .int .i64 l, .int .i64 a, .int .i64 b, .int .i64 k, .int .i64 a2, .int .i64 b2, .string q.s, .int .i64 q.r, .int .i64 q.z, .int .i64 q.d, .int .i64 q.g, .int .i64 t] #[.string s.pr, .int .i64 s.it, .int .i64 s.tm, .int .i64 s.tk, .int .i64 s.fl, .slice pa m pc, .slice va n vc, .int .i64 fi, .string x.s, .int .i64 x.r, .int .i64 x.z, .int .i64 x.d, .int .i64 x.g] #[.string y.s, .int .i64 y.r, .int .i64 y.z, .int .i64 y.d, .int .i64 y.g])) (fun u _ => n - (intOf u).toNat)
      case atStart => exact ⟨0, Nat.zero_le _, rfl, hid fun i h => absurd h (Nat.not_lt_zero _), HX⟩
      case round =>
        obtain ⟨j, hj, rfl, hok, hX⟩ := hrel
        have HX := hX
        by_cases hlt : j < n
        · have hlt' : (j : Int) < n := by omega
          obtain ⟨a', b', o', cap', hv, _, _, ha', hcell⟩ := HR.out _ hX.out.low
          injection hv with hv1 hv2 hv3
          subst hv1 hv3
          rcases ha' with h0 | rfl
          · omega
          obtain ⟨_, _, _, e3⟩ := hcell j hlt
          clear hcell hv2 hX
          have HOK := hid hok.out
          have HST : Hid (okT (rd j).b = true → ∀ i, i < j + 1 → okT (rd i).b = true) := fun h i hi => by
            rcases Nat.lt_succ_iff_lt_or_eq.1 hi with h1 | h1
            · exact HOK.out i h1
            · rw [h1]; exact h
          have HLT := hid hlt
          clear hok hlt
          generalize (rd j).b = bb at e3 HST
          have t0 := HX.out.can 0; have t1 := HX.out.can 1; have t2 := HX.out.can 2; have t3 := HX.out.can 3; have t4 := HX.out.can 4; have t5 := HX.out.can 5; have t6 := HX.out.can 6; have t7 := HX.out.can 7; have t8 := HX.out.can 8; have t9 := HX.out.can 9; have t10 := HX.out.can 10; have t11 := HX.out.can 11; have t12 := HX.out.can 12; have c0 := HX.out.kil 0; have c1 := HX.out.kil 1; have c2 := HX.out.kil 2; have c3 := HX.out.kil 3; have c4 := HX.out.kil 4; have c5 := HX.out.kil 5; have c6 := HX.out.kil 6; have c7 := HX.out.kil 7; have c8 := HX.out.kil 8; have c9 := HX.out.kil 9; have c10 := HX.out.kil 10; have c11 := HX.out.kil 11; have c12 := HX.out.kil 12; have d0 := HX.out.spo 0; have d1 := HX.out.spo 1; have d2 := HX.out.spo 2; have d3 := HX.out.spo 3; have d4 := HX.out.spo 4
          simp only [List.getElem?_toArray, List.getElem?_cons_zero, List.getElem?_cons_succ] at t0 t1 t2 t3 t4 t5 t6 t7 t8 t9 t10 t11 t12 c0 c1 c2 c3 c4 c5 c6 c7 c8 c9 c10 c11 c12 d0 d1 d2 d3 d4
          by_cases z1 : bb < -50000
          · skip
            go_wp2_with fail
            refine (lawake_any _).mono ?_
            rintro e w19 ⟨rfl, hb⟩
            have HX := hid (HX.out.keep hb)
            clear hb
            go_wp2_with fail
            go_ret
            exact ⟨rfl, HX.out.low⟩
          by_cases z2 : 200000 < bb
          · skip
            go_wp2_with fail
            refine (lawake_any _).mono ?_
            rintro e w19 ⟨rfl, hb⟩
            have HX := hid (HX.out.keep hb)
            clear hb
            go_wp2_with fail
            go_ret
            exact ⟨rfl, HX.out.low⟩
          have hok2 := hid (HST.out (by unfold okT; simp; omega))
          go_wp2_with fail
          go_roundw
          case rel => exact ⟨j + 1, HLT.out, by go_num, hok2, HX⟩
          case measure => have := HLT.out; simp [intOf]; omega
        · obtain rfl : j = n := by omega
          have hokb : okL (Rt.bathsL rd j) = true := baths_ok hok.out
          have HS2 := hid (fun W v h => HSTE.out W v hokb h)
          have HSO := hid (HSOE.out hokb)
          clear hok hlt hX hj
          generalize sterO q (lowO (sumsO r l a b k a2 b2 q t (Rt.bathsL rd j))) 0 = s2 at HS2 HSO
          obtain rfl : s2 = true := by rw [← HSO.out]; exact hso1.out
          clear HSO hso1 HSOE
          have t0 := HX.out.can 0; have t1 := HX.out.can 1; have t2 := HX.out.can 2; have t3 := HX.out.can 3; have t4 := HX.out.can 4; have t5 := HX.out.can 5; have t6 := HX.out.can 6; have t7 := HX.out.can 7; have t8 := HX.out.can 8; have t9 := HX.out.can 9; have t10 := HX.out.can 10; have t11 := HX.out.can 11; have t12 := HX.out.can 12; have c0 := HX.out.kil 0; have c1 := HX.out.kil 1; have c2 := HX.out.kil 2; have c3 := HX.out.kil 3; have c4 := HX.out.kil 4; have c5 := HX.out.kil 5; have c6 := HX.out.kil 6; have c7 := HX.out.kil 7; have c8 := HX.out.kil 8; have c9 := HX.out.kil 9; have c10 := HX.out.kil 10; have c11 := HX.out.kil 11; have c12 := HX.out.kil 12; have d0 := HX.out.spo 0; have d1 := HX.out.spo 1; have d2 := HX.out.spo 2; have d3 := HX.out.spo 3; have d4 := HX.out.spo 4
          simp only [List.getElem?_toArray, List.getElem?_cons_zero, List.getElem?_cons_succ] at t0 t1 t2 t3 t4 t5 t6 t7 t8 t9 t10 t11 t12 c0 c1 c2 c3 c4 c5 c6 c7 c8 c9 c10 c11 c12 d0 d1 d2 d3 d4
          go_wp2_with fail
          clear t0 t1 t2 t3 t4 t5 t6 t7 t8 t9 t10 t11 t12 c0 c1 c2 c3 c4 c5 c6 c7 c8 c9 c10 c11 c12 d0 d1 d2 d3 d4
          obtain ⟨W0, hW0⟩ : ∃ W0 : World, W0 = wr := ⟨_, rfl⟩
          have HXD := hid (HX.out.keep (Below.refl _ wr).drew)
          have HX := HXD
          refine wp_region_held_drew (S := (fun w1 => w1.cell? ⟨w.heap.size, 0, none⟩ = some (.int .i64 r) ∧ w1.cell? ⟨w.heap.size, 1, none⟩ = some (.int .i64 l) ∧ w1.cell? ⟨w.heap.size, 2, none⟩ = some (.int .i64 a) ∧ w1.cell? ⟨w.heap.size, 3, none⟩ = some (.int .i64 b) ∧ w1.cell? ⟨w.heap.size, 4, none⟩ = some (.int .i64 k) ∧ w1.cell? ⟨w.heap.size, 5, none⟩ = some (.int .i64 a2) ∧ w1.cell? ⟨w.heap.size, 6, none⟩ = some (.int .i64 b2) ∧ w1.cell? ⟨w.heap.size, 7, none⟩ = some (.string q.s) ∧ w1.cell? ⟨w.heap.size, 8, none⟩ = some (.int .i64 q.r) ∧ w1.cell? ⟨w.heap.size, 9, none⟩ = some (.int .i64 q.z) ∧ w1.cell? ⟨w.heap.size, 10, none⟩ = some (.int .i64 q.d) ∧ w1.cell? ⟨w.heap.size, 11, none⟩ = some (.int .i64 q.g) ∧ w1.cell? ⟨w.heap.size, 12, none⟩ = some (.int .i64 t) ∧ w1.cell? ⟨w.heap.size + 1, 6, none⟩ = some (.slice va j vc))) (by kernel_rfl) ⟨HX.out.can 0, HX.out.can 1, HX.out.can 2, HX.out.can 3, HX.out.can 4, HX.out.can 5, HX.out.can 6, HX.out.can 7, HX.out.can 8, HX.out.can 9, HX.out.can 10, HX.out.can 11, HX.out.can 12, HX.out.kil 6⟩ (fun hS0 => ?_)
          clear hW0 W0
          generalize wr.drew = W0 at *
          refine wpAnyH_take (i := 0) (v := ?_) rfl (by kernel_rfl) (by kernel_rfl) (by kernel_rfl) (fun _ _ _ h => h) (Or.inl ⟨by rfl, ?_⟩) hS0 ?_
          rotate_left
          · intro w' hSw
            obtain ⟨q0, q1, q2, q3, q4, q5, q6, q7, q8, q9, q10, q11, q12, q13⟩ := hSw
            go_simp
            try with_reducible rfl
          try simp only [Act.put]
          try simp only [List.setIfInBounds_toArray]
          try simp only [List.set_cons_zero, List.set_cons_succ]
          refine wpAnyH_take (i := 1) (v := ?_) rfl (by kernel_rfl) (by kernel_rfl) (by kernel_rfl) (fun _ _ _ h => h) (Or.inl ⟨by rfl, ?_⟩) hS0 ?_
          rotate_left
          · intro w' hSw
            obtain ⟨q0, q1, q2, q3, q4, q5, q6, q7, q8, q9, q10, q11, q12, q13⟩ := hSw
            go_simp
            try with_reducible rfl
          try simp only [Act.put]
          try simp only [List.setIfInBounds_toArray]
          try simp only [List.set_cons_zero, List.set_cons_succ]
          refine wpAnyH_take (i := 2) (v := ?_) rfl (by kernel_rfl) (by kernel_rfl) (by kernel_rfl) (fun _ _ _ h => h) (Or.inl ⟨by rfl, ?_⟩) hS0 ?_
          rotate_left
          · intro w' hSw
            obtain ⟨q0, q1, q2, q3, q4, q5, q6, q7, q8, q9, q10, q11, q12, q13⟩ := hSw
            go_simp
            try with_reducible rfl
          try simp only [Act.put]
          try simp only [List.setIfInBounds_toArray]
          try simp only [List.set_cons_zero, List.set_cons_succ]
          refine wpAnyH_take (i := 3) (v := ?_) rfl (by kernel_rfl) (by kernel_rfl) (by kernel_rfl) (fun _ _ _ h => h) (Or.inl ⟨by rfl, ?_⟩) hS0 ?_
          rotate_left
          · intro w' hSw
            obtain ⟨q0, q1, q2, q3, q4, q5, q6, q7, q8, q9, q10, q11, q12, q13⟩ := hSw
            go_simp
            try with_reducible rfl
          try simp only [Act.put]
          try simp only [List.setIfInBounds_toArray]
          try simp only [List.set_cons_zero, List.set_cons_succ]
          refine wpAnyH_take (i := 4) (v := ?_) rfl (by kernel_rfl) (by kernel_rfl) (by kernel_rfl) (fun _ _ _ h => h) (Or.inl ⟨by rfl, ?_⟩) hS0 ?_
          rotate_left
          · intro w' hSw
            obtain ⟨q0, q1, q2, q3, q4, q5, q6, q7, q8, q9, q10, q11, q12, q13⟩ := hSw
            go_simp
            try with_reducible rfl
          try simp only [Act.put]
          try simp only [List.setIfInBounds_toArray]
          try simp only [List.set_cons_zero, List.set_cons_succ]
          refine wpAnyH_take (i := 5) (v := ?_) rfl (by kernel_rfl) (by kernel_rfl) (by kernel_rfl) (fun _ _ _ h => h) (Or.inl ⟨by rfl, ?_⟩) hS0 ?_
          rotate_left
          · intro w' hSw
            obtain ⟨q0, q1, q2, q3, q4, q5, q6, q7, q8, q9, q10, q11, q12, q13⟩ := hSw
            go_simp
            try with_reducible rfl
          try simp only [Act.put]
          try simp only [List.setIfInBounds_toArray]
          try simp only [List.set_cons_zero, List.set_cons_succ]
          refine wpAnyH_take (i := 6) (v := ?_) rfl (by kernel_rfl) (by kernel_rfl) (by kernel_rfl) (fun _ _ _ h => h) (Or.inl ⟨by rfl, ?_⟩) hS0 ?_
          rotate_left
          · intro w' hSw
            obtain ⟨q0, q1, q2, q3, q4, q5, q6, q7, q8, q9, q10, q11, q12, q13⟩ := hSw
            go_simp
            try with_reducible rfl
          try simp only [Act.put]
          try simp only [List.setIfInBounds_toArray]
          try simp only [List.set_cons_zero, List.set_cons_succ]
          refine wpAnyH_take (i := 7) (v := ?_) rfl (by kernel_rfl) (by kernel_rfl) (by kernel_rfl) (fun _ _ _ h => h) (Or.inl ⟨by rfl, ?_⟩) hS0 ?_
          rotate_left
          · intro w' hSw
            obtain ⟨q0, q1, q2, q3, q4, q5, q6, q7, q8, q9, q10, q11, q12, q13⟩ := hSw
            go_simp
            try with_reducible rfl
          try simp only [Act.put]
          try simp only [List.setIfInBounds_toArray]
          try simp only [List.set_cons_zero, List.set_cons_succ]
          (refine wpAnyH_ready (rs := [8]) (by kernel_rfl) (by simp) ?_)
          refine AllReadyH.cons rfl (fun K hK => ?_) AllReadyH.nil
          go_simp
          refine (HBA.out _ (HR.out _ HX.out.low)).mono ?_
          rintro e w22 ⟨u4, rfl, ho4, hb⟩
          have RB := hid (Rt.OwnL.rowI ho4 HBN.out)
          have HX := hid (HX.out.keep hb)
          clear ho4 hb
          refine hK.out _ _ ⟨HX.out.can 0, HX.out.can 1, HX.out.can 2, HX.out.can 3, HX.out.can 4, HX.out.can 5, HX.out.can 6, HX.out.can 7, HX.out.can 8, HX.out.can 9, HX.out.can 10, HX.out.can 11, HX.out.can 12, HX.out.kil 6⟩ (fun hS1 => ?_)
          clear hK K hS0
          (refine wpAnyH_ready (rs := [9]) (by kernel_rfl) (by simp) ?_)
          refine AllReadyH.cons rfl (fun K hK => ?_) AllReadyH.nil
          go_simp
          refine (HS2.out _ _ RB.out).mono ?_
          rintro e w23 ⟨rfl, hb⟩
          have HX := hid (HX.out.keep hb)
          clear hb
          refine hK.out _ _ ⟨HX.out.can 0, HX.out.can 1, HX.out.can 2, HX.out.can 3, HX.out.can 4, HX.out.can 5, HX.out.can 6, HX.out.can 7, HX.out.can 8, HX.out.can 9, HX.out.can 10, HX.out.can 11, HX.out.can 12, HX.out.kil 6⟩ (fun hS2 => ?_)
          clear hK K hS1
          refine wpAnyH_take (i := 10) (v := ?_) rfl (by kernel_rfl) (by kernel_rfl) (by kernel_rfl) (fun _ _ _ h => h) (Or.inl ⟨by rfl, ?_⟩) hS2 ?_
          rotate_left
          · intro w' hSw
            obtain _ := hSw
            go_simp
            try with_reducible rfl
          try simp only [Act.put]
          try simp only [List.setIfInBounds_toArray]
          try simp only [List.set_cons_zero, List.set_cons_succ]
          refine wpAnyH_take (i := 11) (v := ?_) rfl (by kernel_rfl) (by kernel_rfl) (by kernel_rfl) (fun _ _ _ h => h) (Or.inl ⟨by rfl, ?_⟩) hS2 ?_
          rotate_left
          · intro w' hSw
            obtain _ := hSw
            go_simp
            try with_reducible rfl
          try simp only [Act.put]
          try simp only [List.setIfInBounds_toArray]
          try simp only [List.set_cons_zero, List.set_cons_succ]
          refine wpAnyH_take (i := 12) (v := ?_) rfl (by kernel_rfl) (by kernel_rfl) (by kernel_rfl) (fun _ _ _ h => h) (Or.inl ⟨by rfl, ?_⟩) hS2 ?_
          rotate_left
          · intro w' hSw
            obtain _ := hSw
            go_simp
            try with_reducible rfl
          try simp only [Act.put]
          try simp only [List.setIfInBounds_toArray]
          try simp only [List.set_cons_zero, List.set_cons_succ]
          refine wpAnyH_take (i := 13) (v := ?_) rfl (by kernel_rfl) (by kernel_rfl) (by kernel_rfl) (fun _ _ _ h => h) (Or.inl ⟨by rfl, ?_⟩) hS2 ?_
          rotate_left
          · intro w' hSw
            obtain _ := hSw
            go_simp
            try with_reducible rfl
          try simp only [Act.put]
          try simp only [List.setIfInBounds_toArray]
          try simp only [List.set_cons_zero, List.set_cons_succ]
          refine wpAnyH_take (i := 14) (v := ?_) rfl (by kernel_rfl) (by kernel_rfl) (by kernel_rfl) (fun _ _ _ h => h) (Or.inl ⟨by rfl, ?_⟩) hS2 ?_
          rotate_left
          · intro w' hSw
            obtain _ := hSw
            go_simp
            try with_reducible rfl
          try simp only [Act.put]
          try simp only [List.setIfInBounds_toArray]
          try simp only [List.set_cons_zero, List.set_cons_succ]
          refine wpAnyH_done (by kernel_rfl) ?_ _
          go_wp2_with fail
          refine (lawake_any _).mono ?_
          rintro e w19 ⟨rfl, hb⟩
          have HX := hid (HX.out.keep hb)
          clear hb
          go_wp2_with fail
          go_ret
          exact ⟨rfl, HX.out.low⟩
end Go.Proofs.YtihbjimnjhfpeaaGreat
