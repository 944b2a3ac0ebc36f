/- Walk of ProcessPlaces. -/
import Derived.Test.YtedfajokiblfhaaGreatPeg
import Derived.Test.YtedfajokiblfhaaGreatE2
namespace Go.Proofs.YtedfajokiblfhaaGreat
open Go.RowKit Go.Lib

theorem low_at {S : List Nat} {i : Nat} (h : i < (ivN S).length) : lowO S ≤ (ivN S)[i] ∧ ((i : Int) < slowO S → (ivN S)[i] ≠ lowO S) := by
  have hne : S ≠ [] := fun e => by subst e; simp [ivN] at h
  unfold lowO slowO
  rw [if_neg hne, if_neg hne]
  refine ⟨minA_le (List.getElem_mem h), fun hi e => ?_⟩
  have h1 : i < idxA (ivN S) (minA (ivN S)) := by omega
  have := List.not_of_lt_findIdx h1
  simp [e] at this
set_option maxRecDepth 100000 in
set_option maxHeartbeats 8000000 in
theorem pplaces_walk (r l a b k a2 b2 : Int) (q : Kl) (t : Int) (v : Value) (p : List Int) (w : World) (hs : q.s.size ≤ maxLen) (_ht : (Lit.int .i64 t).wf = true) (hl : RowI w v p) :
    Calls Tryz.prog 3 #[.agg #[.int .i64 r, .int .i64 l, .int .i64 a, .int .i64 b, .int .i64 k, .int .i64 a2, .int .i64 b2, .string q.s, .int .i64 q.r, .int .i64 q.z, .int .i64 q.d, .int .i64 q.g, .int .i64 t], v] w fun e w' => e = .returned (.bool true) ∧ Below w.heap.size w w' := by
  have BX := hid (box1_start (w := w) (A := #[.int .i64 r, .int .i64 l, .int .i64 a, .int .i64 b, .int .i64 k, .int .i64 a2, .int .i64 b2, .string q.s, .int .i64 q.r, .int .i64 q.z, .int .i64 q.d, .int .i64 q.g, .int .i64 t]) (T := 27) (fz := (0, 0)))
  have hpm : p.length ≤ maxLen := RowI.most hl
  obtain ⟨a0, cap, rfl⟩ := hl.shape
  have HSM := hid (fun W => small04_any r l a b k a2 b2 W a0 p.length cap hpm)
  have HPL := hid (fun W h => places_all r l a b k a2 b2 W q t (.slice a0 p.length cap) p hs h hpm)
  have HXP := hid (fun W h => xplaces_any r l a b k a2 b2 W q t (.slice a0 p.length cap) p hs h hpm)
  have HLE := hid (fun W h => leth_any r l a b k a2 b2 W q t (.slice a0 p.length cap) p hs h hpm)
  have HXL := hid (fun W h => xleth_any r l a b k a2 b2 W q t (.slice a0 p.length cap) p hs h hpm)
  have HST := hid (fun W h => ster_any r l a b k a2 b2 W q t (.slice a0 p.length cap) p hs h hpm)
  have HXS := hid (fun W h => xster_any r l a b k a2 b2 W q t (.slice a0 p.length cap) p hs h hpm)
  have HL := hid (fun w1 (g : Below w.heap.size w w1) => hl.keep g)
  have HLEN : Hid ((ivN (sumsO r l a b k a2 b2 q t p)).length ≤ 1000) := by
    refine hid ?_
    rw [ivN_len]
    by_cases h : chk4 (canB r l a b k a2 b2) q.vB t p = 0
    · have := sumsO_len (r := r) (l := l) (a := a) (b := b) (k := k) (a2 := a2) (b2 := b2) (q := q) (t := t) (p := p) h
      omega
    · rw [sumsO_no h]; simp
  generalize sumsO r l a b k a2 b2 q t p = S at *
  generalize chk4 (canB r l a b k a2 b2) q.vB t p = ce at *
  have HAT := hid (fun i (h : i < (ivN S).length) => low_at h)
  generalize sterO q (lowO S) ce = so at *
  clear hs hl hpm
  go_enter Tryz.func3, Tryz.ntmps3
  obtain ⟨t0, t1, t2, t3, t4, t5, t6, t7, t8, t9, t10, t11, t12⟩ := BX.out.thirteen
  have hz := BX.out.sz
  go_wp2_with fail
  refine (HSM.out _).mono ?_
  rintro e w1 ⟨rfl, hb⟩
  have BX := hid (BX.out.keep hb); clear hb t0 t1 t2 t3 t4 t5 t6 t7 t8 t9 t10 t11 t12; obtain ⟨t0, t1, t2, t3, t4, t5, t6, t7, t8, t9, t10, t11, t12⟩ := BX.out.thirteen; have hz := BX.out.sz
  cases hsm : smallB r l p.length 80
  · go_wp2_with fail
    refine (lawake_any _).mono ?_
    rintro e w2 ⟨rfl, hb⟩
    have BX := hid (BX.out.keep hb)
    clear hb
    go_wp2_with fail
    go_ret
    exact ⟨rfl, BX.out.low⟩
  go_wp2_with fail
  refine (HPL.out _ (HL.out _ BX.out.low)).mono ?_
  rintro e w2 ⟨ub, ud, rfl, hr, hb⟩
  have BX := hid (BX.out.keep hb); clear hb t0 t1 t2 t3 t4 t5 t6 t7 t8 t9 t10 t11 t12; obtain ⟨t0, t1, t2, t3, t4, t5, t6, t7, t8, t9, t10, t11, t12⟩ := BX.out.thirteen; have hz := BX.out.sz
  have HR := hid hr
  clear hr
  go_wp2_with fail
  refine (HXP.out _ (HL.out _ BX.out.low)).mono ?_
  rintro e w3 ⟨vb, vd, rfl, hr, hb⟩
  have HR := hid (HR.out.keep hb)
  have BX := hid (BX.out.keep hb); clear hb t0 t1 t2 t3 t4 t5 t6 t7 t8 t9 t10 t11 t12; obtain ⟨t0, t1, t2, t3, t4, t5, t6, t7, t8, t9, t10, t11, t12⟩ := BX.out.thirteen; have hz := BX.out.sz
  have HV := hid hr
  clear hr
  go_wp2_with fail
  refine (sameI_any _ _ _ (ivN S) (ivN S) (by have := HR.out; simpa [ivN_len] using this) (by have := HV.out; simpa [ivN_len] using this)).mono ?_
  rintro e w4 ⟨rfl, nn, hw4⟩
  have hb : Below w3.heap.size w3 w4 := by rw [hw4]; exact bdrewN (Below.refl _ _)
  clear hw4
  have HR := hid (HR.out.keep hb)
  have BX := hid (BX.out.keep hb); clear hb t0 t1 t2 t3 t4 t5 t6 t7 t8 t9 t10 t11 t12; obtain ⟨t0, t1, t2, t3, t4, t5, t6, t7, t8, t9, t10, t11, t12⟩ := BX.out.thirteen; have hz := BX.out.sz
  rw [show decide (ivN S = ivN S) = true by simp]
  go_wp2_with fail
  refine (HLE.out _ (HL.out _ BX.out.low)).mono ?_
  rintro e w5 ⟨rfl, hb⟩
  have HR := hid (HR.out.keep hb)
  have BX := hid (BX.out.keep hb); clear hb t0 t1 t2 t3 t4 t5 t6 t7 t8 t9 t10 t11 t12; obtain ⟨t0, t1, t2, t3, t4, t5, t6, t7, t8, t9, t10, t11, t12⟩ := BX.out.thirteen; have hz := BX.out.sz
  go_wp2_with fail
  refine (HXL.out _ (HL.out _ BX.out.low)).mono ?_
  rintro e w6 ⟨rfl, hb⟩
  have HR := hid (HR.out.keep hb)
  have BX := hid (BX.out.keep hb); clear hb t0 t1 t2 t3 t4 t5 t6 t7 t8 t9 t10 t11 t12; obtain ⟨t0, t1, t2, t3, t4, t5, t6, t7, t8, t9, t10, t11, t12⟩ := BX.out.thirteen; have hz := BX.out.sz
  generalize slowO S = sl at *
  generalize lowO S = lw at *
  have HI := hid (show RowI w6 (.slice ub (ivN S).length ud) (ivN S) by have := HR.out; simpa [ivN_len] using this)
  rw [← ivN_len S]
  generalize ivN S = T at *
  go_wp2_with fail
  go_loopw [13] (fun i wr => ∃ n : Nat, n ≤ T.length ∧ i = .int .i64 (n : Int) ∧ Hid (RowI wr (.slice ub T.length ud) T) ∧ Hid (Box1 w wr #[.int .i64 r, .int .i64 l, .int .i64 a, .int .i64 b, .int .i64 k, .int .i64 a2, .int .i64 b2, .string q.s, .int .i64 q.r, .int .i64 q.z, .int .i64 q.d, .int .i64 q.g, .int .i64 t])) (fun i _ => T.length - (intOf i).toNat)
  case atStart => exact ⟨0, Nat.zero_le _, rfl, HI, BX⟩
  case round =>
    obtain ⟨n, hn, rfl, HIr, BXr⟩ := hrel
    by_cases hlt : n < T.length
    · have hlt' : (n : Int) < T.length := by omega
      obtain ⟨h1, h2⟩ := HAT.out n hlt
      obtain ⟨gb, go, gc, hv, hcc⟩ := HIr.out.some (by omega)
      injection hv with e1 e2 e3
      subst e1
      clear e2 e3
      have ex := hcc n hlt
      have HLT := hid hlt
      have HLN := HLEN.out
      generalize T[n] = x at *
      clear hcc hlt
      have d1 : decide (x < lw) = false := by simpa using h1
      cases d2 : decide ((n : Int) < sl)
      · go_wp2_with fail
        go_roundw
        case rel => exact ⟨n + 1, HLT.out, by go_num, HIr, BXr⟩
        case measure => have := HLT.out; simp [intOf]; omega
      · have d3 : (x == lw) = false := by simpa using h2 (by simpa using d2)
        go_wp2_with fail
        go_roundw
        case rel => exact ⟨n + 1, HLT.out, by go_num, HIr, BXr⟩
        case measure => have := HLT.out; simp [intOf]; omega
    · obtain rfl : n = T.length := by omega
      have BX := BXr
      clear t0 t1 t2 t3 t4 t5 t6 t7 t8 t9 t10 t11 t12
      obtain ⟨t0, t1, t2, t3, t4, t5, t6, t7, t8, t9, t10, t11, t12⟩ := BX.out.thirteen
      go_wp2_with fail
      refine (HST.out _ (HL.out _ BX.out.low)).mono ?_
      rintro e w7 ⟨rfl, hb⟩
      have BX := hid (BX.out.keep hb); clear hb t0 t1 t2 t3 t4 t5 t6 t7 t8 t9 t10 t11 t12; obtain ⟨t0, t1, t2, t3, t4, t5, t6, t7, t8, t9, t10, t11, t12⟩ := BX.out.thirteen; have hz := BX.out.sz
      go_wp2_with fail
      refine (HXS.out _ (HL.out _ BX.out.low)).mono ?_
      rintro e w8 ⟨rfl, hb⟩
      have BX := hid (BX.out.keep hb); clear hb t0 t1 t2 t3 t4 t5 t6 t7 t8 t9 t10 t11 t12; obtain ⟨t0, t1, t2, t3, t4, t5, t6, t7, t8, t9, t10, t11, t12⟩ := BX.out.thirteen; have hz := BX.out.sz
      cases so
      all_goals
        go_wp2_with fail
        refine (lawake_any _).mono ?_
        rintro e w9 ⟨rfl, hb⟩
        have BX := hid (BX.out.keep hb)
        clear hb
        go_wp2_with fail
        go_ret
        exact ⟨rfl, BX.out.low⟩
end Go.Proofs.YtedfajokiblfhaaGreat
