/- Walk of ProcessLonger. -/
import Derived.Test.YtedfajokiblfhaaPdv
namespace Go.Proofs.Ytedfajokiblfhaa
open Go.RowKit Go.Lib

set_option maxRecDepth 100000 in
set_option maxHeartbeats 8000000 in
theorem longer_walk (r l a b k a2 b2 : Int) (q : Kl) (t : Int) (bath cold cooling n : Int) (w : World) (hs : q.s.size ≤ maxLen) (_ht : (Lit.int .i64 t).wf = true) (_hp : (Lit.int .i64 bath).wf = true) (_hq : (Lit.int .i64 cold).wf = true) (_hr : (Lit.int .i64 cooling).wf = true) (_hn : (Lit.int .i64 n).wf = true) :
    Calls Try.prog 4 #[.agg #[.int .i64 r, .int .i64 l, .int .i64 a, .int .i64 b, .int .i64 k, .int .i64 a2, .int .i64 b2, .string q.s, .int .i64 q.r, .int .i64 q.z, .int .i64 q.d, .int .i64 q.g, .int .i64 t], .agg #[.int .i64 bath, .int .i64 cold, .int .i64 cooling], .int .i64 n] w fun e w' => e = .returned (.bool true) ∧ Below w.heap.size w w' := by
  have BX := hid (box2_start (w := w) (A := #[.int .i64 r, .int .i64 l, .int .i64 a, .int .i64 b, .int .i64 k, .int .i64 a2, .int .i64 b2, .string q.s, .int .i64 q.r, .int .i64 q.z, .int .i64 q.d, .int .i64 q.g, .int .i64 t]) (B := #[.int .i64 bath, .int .i64 cold, .int .i64 cooling]) (T := 27) (T' := 36) (fz := (0, 0)) (fz' := (0, 0)))
  have HSM := hid (fun W => small04_any r l a b k a2 b2 W none 0 0 (by decide))
  have HCK := hid (fun (m : Int) (W : World) => cook_any bath m cold cooling W)
  have HLE := hid (fun (m : Int) (W : World) (v : Value) (h : RowI W v (cookL bath m cold cooling)) => leth_any r l a b k a2 b2 W q t v (cookL bath m cold cooling) hs h (by have := cookL_len bath m cold cooling; unfold maxLen; omega))
  have HCH := hid (chk4_cook (canB r l a b k a2 b2) q.vB t (cookL_ok (bath := bath) (n := n + 1) (cold := cold) (cooling := cooling)) (cookL_ok (bath := bath) (n := n) (cold := cold) (cooling := cooling)) (cookL_len _ _ _ _) (cookL_len _ _ _ _))
  clear hs
  go_enter Try.func4, Try.ntmps4
  have t0 := BX.out.fst 0; have t1 := BX.out.fst 1; have t2 := BX.out.fst 2; have t3 := BX.out.fst 3; have t4 := BX.out.fst 4; have t5 := BX.out.fst 5; have t6 := BX.out.fst 6; have t7 := BX.out.fst 7; have t8 := BX.out.fst 8; have t9 := BX.out.fst 9; have t10 := BX.out.fst 10; have t11 := BX.out.fst 11; have t12 := BX.out.fst 12
  have c0 := BX.out.snd 0; have c1 := BX.out.snd 1; have c2 := BX.out.snd 2
  simp only [List.getElem?_toArray, List.getElem?_cons_zero, List.getElem?_cons_succ] at t0 t1 t2 t3 t4 t5 t6 t7 t8 t9 t10 t11 t12 c0 c1 c2
  go_wp2_with fail
  refine (HSM.out _).mono ?_
  rintro e w1 ⟨rfl, hb⟩
  have BX := hid (BX.out.keep hb)
  clear hb t0 t1 t2 t3 t4 t5 t6 t7 t8 t9 t10 t11 t12 c0 c1 c2
  have t0 := BX.out.fst 0; have t1 := BX.out.fst 1; have t2 := BX.out.fst 2; have t3 := BX.out.fst 3; have t4 := BX.out.fst 4; have t5 := BX.out.fst 5; have t6 := BX.out.fst 6; have t7 := BX.out.fst 7; have t8 := BX.out.fst 8; have t9 := BX.out.fst 9; have t10 := BX.out.fst 10; have t11 := BX.out.fst 11; have t12 := BX.out.fst 12
  have c0 := BX.out.snd 0; have c1 := BX.out.snd 1; have c2 := BX.out.snd 2
  simp only [List.getElem?_toArray, List.getElem?_cons_zero, List.getElem?_cons_succ] at t0 t1 t2 t3 t4 t5 t6 t7 t8 t9 t10 t11 t12 c0 c1 c2
  cases hsm : smallB r l 0 80
  · go_wp2_with fail
    refine (lawake_any _).mono ?_
    rintro e w2 ⟨rfl, hb⟩
    have BX := hid (BX.out.keep hb)
    clear hb t0 t1 t2 t3 t4 t5 t6 t7 t8 t9 t10 t11 t12 c0 c1 c2
    go_wp2_with fail
    go_ret
    exact ⟨rfl, BX.out.low⟩
  cases hk : (k != 0)
  case true =>
    go_wp2_with fail
    refine (lawake_any _).mono ?_
    rintro e w2 ⟨rfl, hb⟩
    have BX := hid (BX.out.keep hb)
    clear hb t0 t1 t2 t3 t4 t5 t6 t7 t8 t9 t10 t11 t12 c0 c1 c2
    go_wp2_with fail
    go_ret
    exact ⟨rfl, BX.out.low⟩
  cases h1 : decide (bath < t)
  case true =>
    go_wp2_with fail
    refine (lawake_any _).mono ?_
    rintro e w2 ⟨rfl, hb⟩
    have BX := hid (BX.out.keep hb)
    clear hb t0 t1 t2 t3 t4 t5 t6 t7 t8 t9 t10 t11 t12 c0 c1 c2
    go_wp2_with fail
    go_ret
    exact ⟨rfl, BX.out.low⟩
  cases h2 : decide (bath < cold)
  case true =>
    go_wp2_with fail
    refine (lawake_any _).mono ?_
    rintro e w2 ⟨rfl, hb⟩
    have BX := hid (BX.out.keep hb)
    clear hb t0 t1 t2 t3 t4 t5 t6 t7 t8 t9 t10 t11 t12 c0 c1 c2
    go_wp2_with fail
    go_ret
    exact ⟨rfl, BX.out.low⟩
  cases h3 : decide (n < 0)
  case true =>
    go_wp2_with fail
    refine (lawake_any _).mono ?_
    rintro e w2 ⟨rfl, hb⟩
    have BX := hid (BX.out.keep hb)
    clear hb t0 t1 t2 t3 t4 t5 t6 t7 t8 t9 t10 t11 t12 c0 c1 c2
    go_wp2_with fail
    go_ret
    exact ⟨rfl, BX.out.low⟩
  cases h4 : decide (60 < n)
  case true =>
    go_wp2_with fail
    refine (lawake_any _).mono ?_
    rintro e w2 ⟨rfl, hb⟩
    have BX := hid (BX.out.keep hb)
    clear hb t0 t1 t2 t3 t4 t5 t6 t7 t8 t9 t10 t11 t12 c0 c1 c2
    go_wp2_with fail
    go_ret
    exact ⟨rfl, BX.out.low⟩
  cases h5 : decide (20 < cooling)
  case true =>
    go_wp2_with fail
    refine (lawake_any _).mono ?_
    rintro e w2 ⟨rfl, hb⟩
    have BX := hid (BX.out.keep hb)
    clear hb t0 t1 t2 t3 t4 t5 t6 t7 t8 t9 t10 t11 t12 c0 c1 c2
    go_wp2_with fail
    go_ret
    exact ⟨rfl, BX.out.low⟩
  have hk0 : k = 0 := by simpa using hk
  have h1' : t ≤ bath := by simpa using h1
  have h3' : 0 ≤ n := by simpa using h3
  have h4' : n ≤ 60 := by simpa using h4
  have HLG := hid (fun (x : cookB bath n cold cooling = true) (y : cookB bath (n + 1) cold cooling = true) => longer_le (r := r) (l := l) (a := a) (b := b) (a2 := a2) (b2 := b2) (q := q) (t := t) x y h1' h3')
  subst hk0
  go_wp2_with fail
  refine (HCK.out _ _).mono ?_
  rintro e w2 ⟨v1, rfl, hr1, hb⟩
  have BX := hid (BX.out.keep hb)
  clear hb t0 t1 t2 t3 t4 t5 t6 t7 t8 t9 t10 t11 t12 c0 c1 c2
  have t0 := BX.out.fst 0; have t1 := BX.out.fst 1; have t2 := BX.out.fst 2; have t3 := BX.out.fst 3; have t4 := BX.out.fst 4; have t5 := BX.out.fst 5; have t6 := BX.out.fst 6; have t7 := BX.out.fst 7; have t8 := BX.out.fst 8; have t9 := BX.out.fst 9; have t10 := BX.out.fst 10; have t11 := BX.out.fst 11; have t12 := BX.out.fst 12
  have c0 := BX.out.snd 0; have c1 := BX.out.snd 1; have c2 := BX.out.snd 2
  simp only [List.getElem?_toArray, List.getElem?_cons_zero, List.getElem?_cons_succ] at t0 t1 t2 t3 t4 t5 t6 t7 t8 t9 t10 t11 t12 c0 c1 c2
  have HR1 := hid hr1
  clear hr1
  generalize hg1 : (if cookB bath n cold cooling = true then (0 : Int) else 7) = g1
  go_wp2_with fail
  refine (HCK.out _ _).mono ?_
  rintro e w3 ⟨v2, rfl, hr2, hb⟩
  have HR1 := hid (HR1.out.keep hb)
  have BX := hid (BX.out.keep hb)
  clear hb t0 t1 t2 t3 t4 t5 t6 t7 t8 t9 t10 t11 t12 c0 c1 c2
  have t0 := BX.out.fst 0; have t1 := BX.out.fst 1; have t2 := BX.out.fst 2; have t3 := BX.out.fst 3; have t4 := BX.out.fst 4; have t5 := BX.out.fst 5; have t6 := BX.out.fst 6; have t7 := BX.out.fst 7; have t8 := BX.out.fst 8; have t9 := BX.out.fst 9; have t10 := BX.out.fst 10; have t11 := BX.out.fst 11; have t12 := BX.out.fst 12
  have c0 := BX.out.snd 0; have c1 := BX.out.snd 1; have c2 := BX.out.snd 2
  simp only [List.getElem?_toArray, List.getElem?_cons_zero, List.getElem?_cons_succ] at t0 t1 t2 t3 t4 t5 t6 t7 t8 t9 t10 t11 t12 c0 c1 c2
  have HR2 := hid hr2
  clear hr2
  cases hc1 : cookB bath n cold cooling
  · rw [hc1, if_neg (by decide)] at hg1
    subst hg1
    generalize (if cookB bath (n + 1) cold cooling = true then (0 : Int) else 7) = g2
    go_wp2_with fail
    refine (lawake_any _).mono ?_
    rintro e w2 ⟨rfl, hb⟩
    have BX := hid (BX.out.keep hb)
    clear hb t0 t1 t2 t3 t4 t5 t6 t7 t8 t9 t10 t11 t12 c0 c1 c2
    go_wp2_with fail
    go_ret
    exact ⟨rfl, BX.out.low⟩
  rw [hc1, if_pos rfl] at hg1
  subst hg1
  cases hc2 : cookB bath (n + 1) cold cooling
  · rw [if_neg (by decide)]
    go_wp2_with fail
    refine (lawake_any _).mono ?_
    rintro e w2 ⟨rfl, hb⟩
    have BX := hid (BX.out.keep hb)
    clear hb t0 t1 t2 t3 t4 t5 t6 t7 t8 t9 t10 t11 t12 c0 c1 c2
    go_wp2_with fail
    go_ret
    exact ⟨rfl, BX.out.low⟩
  rw [if_pos rfl]
  have HLG := hid (HLG.out hc1 hc2)
  have HL1 := hid (HLE.out n)
  have HL2 := hid (HLE.out (n + 1))
  rw [HCH.out] at HL2
  generalize lowO (sumsO r l a b 0 a2 b2 q t (cookL bath n cold cooling)) = f1 at *
  generalize slowO (sumsO r l a b 0 a2 b2 q t (cookL bath n cold cooling)) = s1 at *
  generalize lowO (sumsO r l a b 0 a2 b2 q t (cookL bath (n + 1) cold cooling)) = f2 at *
  generalize slowO (sumsO r l a b 0 a2 b2 q t (cookL bath (n + 1) cold cooling)) = s2 at *
  generalize chk4 (canB r l a b 0 a2 b2) q.vB t (cookL bath n cold cooling) = ce at *
  clear HCH HLE HCK HSM hc1 hc2 hsm hk h1 h2 h3 h4 h5
  go_wp2_with fail
  refine (HL1.out _ _ HR1.out).mono ?_
  rintro e w4 ⟨rfl, hb⟩
  have HR2 := hid (HR2.out.keep hb)
  have BX := hid (BX.out.keep hb)
  clear hb t0 t1 t2 t3 t4 t5 t6 t7 t8 t9 t10 t11 t12 c0 c1 c2
  have t0 := BX.out.fst 0; have t1 := BX.out.fst 1; have t2 := BX.out.fst 2; have t3 := BX.out.fst 3; have t4 := BX.out.fst 4; have t5 := BX.out.fst 5; have t6 := BX.out.fst 6; have t7 := BX.out.fst 7; have t8 := BX.out.fst 8; have t9 := BX.out.fst 9; have t10 := BX.out.fst 10; have t11 := BX.out.fst 11; have t12 := BX.out.fst 12
  have c0 := BX.out.snd 0; have c1 := BX.out.snd 1; have c2 := BX.out.snd 2
  simp only [List.getElem?_toArray, List.getElem?_cons_zero, List.getElem?_cons_succ] at t0 t1 t2 t3 t4 t5 t6 t7 t8 t9 t10 t11 t12 c0 c1 c2
  go_wp2_with fail
  refine (HL2.out _ _ HR2.out).mono ?_
  rintro e w5 ⟨rfl, hb⟩
  have BX := hid (BX.out.keep hb)
  clear hb t0 t1 t2 t3 t4 t5 t6 t7 t8 t9 t10 t11 t12 c0 c1 c2
  have t0 := BX.out.fst 0; have t1 := BX.out.fst 1; have t2 := BX.out.fst 2; have t3 := BX.out.fst 3; have t4 := BX.out.fst 4; have t5 := BX.out.fst 5; have t6 := BX.out.fst 6; have t7 := BX.out.fst 7; have t8 := BX.out.fst 8; have t9 := BX.out.fst 9; have t10 := BX.out.fst 10; have t11 := BX.out.fst 11; have t12 := BX.out.fst 12
  have c0 := BX.out.snd 0; have c1 := BX.out.snd 1; have c2 := BX.out.snd 2
  simp only [List.getElem?_toArray, List.getElem?_cons_zero, List.getElem?_cons_succ] at t0 t1 t2 t3 t4 t5 t6 t7 t8 t9 t10 t11 t12 c0 c1 c2
  have hle : f1 ≤ f2 := HLG.out
  go_wp2_with fail
  refine (lawake_any _).mono ?_
  rintro e w6 ⟨rfl, hb⟩
  have BX := hid (BX.out.keep hb)
  clear hb t0 t1 t2 t3 t4 t5 t6 t7 t8 t9 t10 t11 t12 c0 c1 c2
  go_wp2_with fail
  go_ret
  exact ⟨rfl, BX.out.low⟩
end Go.Proofs.Ytedfajokiblfhaa
