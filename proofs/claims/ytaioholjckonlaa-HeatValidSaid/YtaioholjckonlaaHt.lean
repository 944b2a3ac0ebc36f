/- Walk of HeatHotter. -/
import Derived.Test.YtaioholjckonlaaHs
namespace Go.Proofs.Ytaioholjckonlaa
open Go.RowKit

theorem run_shape (r l a b k a2 b2 : Int) (w : World) (v : Value) (T : List Int) (br : Bool) (v2 : Value) (l2 : List Int) (hl : RowI w v T) (hl2 : RowI w v2 l2) :
    Calls Try.prog 30 #[.agg #[.int .i64 r, .int .i64 l, .int .i64 a, .int .i64 b, .int .i64 k, .int .i64 a2, .int .i64 b2], .agg #[v, .bool br], v2] w fun e w' => ∃ (ua : Option Addr) (n cap : Nat) (bu : Bool), e = .returned (.tuple #[.agg #[.slice ua n cap, .bool bu], .int .i64 (chkE (bothB r l a b k a2 b2 T br) l2)]) ∧ Below w.heap.size w w' := by
  rcases chkE_cases (bothB r l a b k a2 b2 T br) l2 with hne | ⟨h0, hbb, ho, hlen⟩
  · exact (run_err r l a b k a2 b2 w v T br v2 l2 hl hl2 hne).mono fun e w' ⟨h, hb⟩ => ⟨_, _, _, _, h, hb⟩
  · rw [h0]
    unfold bothB at hbb
    rw [Bool.and_eq_true] at hbb
    obtain ⟨hcan, hbody⟩ := hbb
    obtain ⟨c, hcv, rfl, rfl, rfl, rfl, rfl, rfl, rfl⟩ := canB_cn hcan
    exact (run_ok c (T, br) v v2 l2 w hcv hbody ho hlen hl hl2).mono fun e w' ⟨u, h, ⟨g, hu, _⟩, hb⟩ => by subst hu; exact ⟨_, _, _, _, h, hb⟩
set_option maxRecDepth 100000 in
set_option maxHeartbeats 2000000 in
theorem hotter_late (r l a b a2 b2 : Int) (u : Value) (x : List Int) (br : Bool) (u2 : Value) (y : List Int) (br2 : Bool) (v : Value) (p : List Int) (v2 : Value) (q : List Int) (w : World) (hx : RowI w u x) (hy : RowI w u2 y) (hp : RowI w v p) (hq : RowI w v2 q)
    (h1 : x.length ≤ 100 ∧ p.length ≤ 80) (h2 : y.length ≤ 100 ∧ q.length ≤ 80) (h4 : belowB x y = true) (h5 : p.length = q.length) :
    Calls Try.prog 10 #[.agg #[.int .i64 r, .int .i64 l, .int .i64 a, .int .i64 b, .int .i64 0, .int .i64 a2, .int .i64 b2, u, .bool br, u2, .bool br2, v, v2]] w fun e w' => e = .returned (.bool true) ∧ Below w.heap.size w w' := by
  have HX := hid (fun w1 (g : Below w.heap.size w w1) => hx.keep g)
  have HY := hid (fun w1 (g : Below w.heap.size w w1) => hy.keep g)
  have HP := hid (fun w1 (g : Below w.heap.size w w1) => hp.keep g)
  have HQ := hid (fun w1 (g : Below w.heap.size w w1) => hq.keep g)
  obtain ⟨h1x, h1p⟩ := h1
  have d1 := hid (decide_eq_true (And.intro h1x h1p))
  have d2 := hid (decide_eq_true h2)
  have H4 := hid h4
  have H5 := hid h5
  have h5' : ((p.length : Int) != (q.length : Int)) = false := by simp; omega
  obtain ⟨xa, xc, rfl⟩ := hx.shape
  obtain ⟨ya, yc, rfl⟩ := hy.shape
  obtain ⟨pa, pb, po, pc, rfl, ha, hc, _⟩ := hp.form
  obtain ⟨qa, qb, qo, qc, rfl, ha', hc', _⟩ := hq.form
  have HA := hid ha
  have HA' := hid ha'
  have HPC := hid (fun w1 (g : Below w.heap.size w w1) j h => keep_cell g (hc j h))
  have HQC := hid (fun w1 (g : Below w.heap.size w w1) j h => keep_cell g (hc' j h))
  clear ha ha' hc hc' hx hy hp hq h2 h4 h5
  have BX := hid (box1_start (w := w) (A := #[.int .i64 r, .int .i64 l, .int .i64 a, .int .i64 b, .int .i64 0, .int .i64 a2, .int .i64 b2, .slice xa x.length xc, .bool br, .slice ya y.length yc, .bool br2, .slice pa p.length pc, .slice qa q.length qc]) (T := 59) (fz := (0, 0)))
  obtain ⟨t0, t1, t2, t3, t4, t5, t6, t7, t8, t9, t10, t11, t12⟩ := BX.out.thirteen
  have hz := BX.out.sz
  go_enter Try.func10, Try.ntmps10
  go_wp2_with (first
      | (go_at_call 15; refine (brief_any _ _ _ _ _ _ _ _).mono ?_; rintro e w1 ⟨rfl, hb⟩; (first | rw [d1.out] | rw [d2.out]); have BX := hid (BX.out.keep hb); obtain ⟨t0, t1, t2, t3, t4, t5, t6, t7, t8, t9, t10, t11, t12⟩ := BX.out.thirteen; have hz := BX.out.sz; clear hb)
      | (go_at_call 49; refine (rbelow_any _ _ _ _ _ _ _ (HX.out _ BX.out.low) (HY.out _ BX.out.low)).mono ?_; rintro e w3 ⟨rfl, hb⟩; rw [H4.out]; have BX := hid (BX.out.keep hb); obtain ⟨t0, t1, t2, t3, t4, t5, t6, t7, t8, t9, t10, t11, t12⟩ := BX.out.thirteen; have hz := BX.out.sz; clear hb))
  go_loopw [3] (fun i wr => ∃ j : Nat, j ≤ p.length ∧ i = .int .i64 (j : Int) ∧ Hid (∀ i (h : i < p.length) (h' : i < q.length), i < j → p[i] ≤ q[i]) ∧ Hid (Box1 w wr #[.int .i64 r, .int .i64 l, .int .i64 a, .int .i64 b, .int .i64 0, .int .i64 a2, .int .i64 b2, .slice xa x.length xc, .bool br, .slice ya y.length yc, .bool br2, .slice pa p.length pc, .slice qa q.length qc])) (fun i _ => p.length - (intOf i).toNat)
  case atStart => exact ⟨0, Nat.zero_le _, rfl, fun j _ _ h => absurd h (Nat.not_lt_zero _), BX⟩
  case round =>
    obtain ⟨j, hj, rfl, hok, BW⟩ := hrel
    clear t0 t1 t2 t3 t4 t5 t6 t7 t8 t9 t10 t11 t12 BX hz
    obtain ⟨t0, t1, t2, t3, t4, t5, t6, t7, t8, t9, t10, t11, t12⟩ := BW.out.thirteen
    have hz := BW.out.sz
    by_cases hlt : j < p.length
    · have hlm : j < q.length := by have := H5.out; omega
      have hlt' : (j : Int) < p.length := by omega
      have ex := HPC.out _ BW.out.low j hlt
      have ey := HQC.out _ BW.out.low j hlm
      rcases HA.out with h0 | rfl
      · exact absurd hlt (by rw [h0]; simp)
      rcases HA'.out with h0 | rfl
      · exact absurd hlm (by rw [h0]; simp)
      clear HA HA'
      by_cases he : p[j] > q[j]
      · generalize p[j] = s at ex he
        generalize q[j] = t at ey he
        have he' : t < s := he
        clear he
        go_wp2
        go_quiet (fail)
        go_wp2_with (go_at_call 16; refine (awake_any _).mono ?_; rintro e w9 ⟨rfl, hb⟩; have BX := hid (BW.out.keep ((bdrewN (Below.refl _ _)).trans hb)); clear hb)
        go_ret
        exact ⟨rfl, BX.out.low⟩
      · have hst : Hid (∀ i (h : i < p.length) (h' : i < q.length), i < j + 1 → p[i] ≤ q[i]) := fun i hi hi' h => by
          rcases Nat.lt_or_ge i j with h1 | h1
          · exact hok.out i hi hi' h1
          · obtain rfl : i = j := by omega
            omega
        generalize p[j] = s at ex he
        generalize q[j] = t at ey he
        have he' : ¬ t < s := he
        clear he
        go_wp2
        go_quiet (fail)
        go_wp2
        go_roundw
        case rel => exact ⟨j + 1, by omega, by go_num, hst, hid (BW.out.keep (bdrewN (Below.refl _ _)))⟩
        case measure => simp [intOf]; omega
    · obtain rfl : j = p.length := by omega
      have HLE : Hid (leL p q) := fun i h h' => hok.out i h h' h
      have BX := BW
      clear BW hok
      rcases chkE_cases (bothB r l a b 0 a2 b2 x br) p with hne | ⟨hz1, hbb, ho, hlp⟩
      · obtain ⟨ce, hce⟩ : ∃ ce, ce = chkE (bothB r l a b 0 a2 b2 x br) p := ⟨_, rfl⟩
        have hc0 : (ce == 0) = false := by rw [hce]; simpa using hne
        have hc1 : (ce != 0) = true := by rw [hce]; simpa using hne
        have HC := hid hce; have HNE := hid hne
        clear hce hne
        go_wp2_with fail
        refine (run_shape _ _ _ _ _ _ _ _ _ _ _ _ _ (HX.out _ BX.out.low) (HP.out _ BX.out.low)).mono ?_
        rintro e w4 ⟨ua, un, uc, br5, rfl, hb⟩
        rw [← HC.out]
        have BX := hid (BX.out.keep hb); obtain ⟨t0, t1, t2, t3, t4, t5, t6, t7, t8, t9, t10, t11, t12⟩ := BX.out.thirteen; have hz := BX.out.sz; clear hb
        go_wp2_with fail
        obtain ⟨hb, z0, z1⟩ := laid2 (w2 := w4) (d0 := .slice ua un uc) (d1 := .bool br5) (T := 26) rfl
        have BX := hid (BX.out.keep hb); obtain ⟨t0, t1, t2, t3, t4, t5, t6, t7, t8, t9, t10, t11, t12⟩ := BX.out.thirteen; have hz := BX.out.sz; clear hb
        refine (run_shape _ _ _ _ _ _ _ _ _ _ _ _ _ (HY.out _ BX.out.low) (HQ.out _ BX.out.low)).mono ?_
        rintro e w6 ⟨ub, um, ud, br6, rfl, hb⟩
        have BX := hid (BX.out.keep hb); obtain ⟨t0, t1, t2, t3, t4, t5, t6, t7, t8, t9, t10, t11, t12⟩ := BX.out.thirteen; have hz := BX.out.sz; clear hb
        go_wp2_with fail
        obtain ⟨hb, y0, y1⟩ := laid2 (w2 := w6) (d0 := .slice ub um ud) (d1 := .bool br6) (T := 26) rfl
        have BX := hid (BX.out.keep hb); obtain ⟨t0, t1, t2, t3, t4, t5, t6, t7, t8, t9, t10, t11, t12⟩ := BX.out.thirteen; have hz := BX.out.sz; clear hb
        refine (awake_any _).mono ?_
        rintro e w9 ⟨rfl, hb⟩
        have BX := hid (BX.out.keep hb); obtain ⟨t0, t1, t2, t3, t4, t5, t6, t7, t8, t9, t10, t11, t12⟩ := BX.out.thirteen; have hz := BX.out.sz; clear hb
        go_wp2_with fail
        go_ret
        exact ⟨rfl, BX.out.low⟩
      · have HO1 := hid hbb
        have HB1 := hid (And.intro ho hlp)
        rcases chkE_cases (bothB r l a b 0 a2 b2 y br2) q with hne | ⟨hz2, hbb2, ho2, hlq⟩
        · obtain ⟨ce, hce⟩ : ∃ ce, ce = chkE (bothB r l a b 0 a2 b2 y br2) q := ⟨_, rfl⟩
          have hc0 : (ce == 0) = false := by rw [hce]; simpa using hne
          have hc1 : (ce != 0) = true := by rw [hce]; simpa using hne
          have HC := hid hce; have HNE := hid hne; have HZ := hid hz1
          clear hce hne hz1 hbb ho hlp
          go_wp2_with fail
          refine (run_shape _ _ _ _ _ _ _ _ _ _ _ _ _ (HX.out _ BX.out.low) (HP.out _ BX.out.low)).mono ?_
          rintro e w4 ⟨ua, un, uc, br5, rfl, hb⟩
          rw [HZ.out]
          have BX := hid (BX.out.keep hb); obtain ⟨t0, t1, t2, t3, t4, t5, t6, t7, t8, t9, t10, t11, t12⟩ := BX.out.thirteen; have hz := BX.out.sz; clear hb
          go_wp2_with fail
          obtain ⟨hb, z0, z1⟩ := laid2 (w2 := w4) (d0 := .slice ua un uc) (d1 := .bool br5) (T := 26) rfl
          have BX := hid (BX.out.keep hb); obtain ⟨t0, t1, t2, t3, t4, t5, t6, t7, t8, t9, t10, t11, t12⟩ := BX.out.thirteen; have hz := BX.out.sz; clear hb
          refine (run_shape _ _ _ _ _ _ _ _ _ _ _ _ _ (HY.out _ BX.out.low) (HQ.out _ BX.out.low)).mono ?_
          rintro e w6 ⟨ub, um, ud, br6, rfl, hb⟩
          rw [← HC.out]
          have BX := hid (BX.out.keep hb); obtain ⟨t0, t1, t2, t3, t4, t5, t6, t7, t8, t9, t10, t11, t12⟩ := BX.out.thirteen; have hz := BX.out.sz; clear hb
          go_wp2_with fail
          obtain ⟨hb, y0, y1⟩ := laid2 (w2 := w6) (d0 := .slice ub um ud) (d1 := .bool br6) (T := 26) rfl
          have BX := hid (BX.out.keep hb); obtain ⟨t0, t1, t2, t3, t4, t5, t6, t7, t8, t9, t10, t11, t12⟩ := BX.out.thirteen; have hz := BX.out.sz; clear hb
          refine (awake_any _).mono ?_
          rintro e w9 ⟨rfl, hb⟩
          have BX := hid (BX.out.keep hb); obtain ⟨t0, t1, t2, t3, t4, t5, t6, t7, t8, t9, t10, t11, t12⟩ := BX.out.thirteen; have hz := BX.out.sz; clear hb
          go_wp2_with fail
          go_ret
          exact ⟨rfl, BX.out.low⟩
        · unfold bothB at hbb hbb2
          rw [Bool.and_eq_true] at hbb hbb2
          obtain ⟨hcan, hbody⟩ := hbb
          obtain ⟨_, hbody2⟩ := hbb2
          obtain ⟨c, hcv, rfl, rfl, rfl, rfl, hk, rfl, rfl⟩ := canB_cn hcan
          have hbv : bodyV c x br = true := by rw [hk] at hbody; exact hbody
          have hbv2 : bodyV c y br2 = true := by rw [hk] at hbody2; exact hbody2
          obtain ⟨hxl, hxk, hxo⟩ := bodyV_iff.1 hbv
          obtain ⟨hyl, hyk, hyo⟩ := bodyV_iff.1 hbv2
          obtain rfl : br = false := hxk.elim id (fun h => absurd hk.symm h)
          obtain rfl : br2 = false := hyk.elim id (fun h => absurd hk.symm h)
          have hwx : Warm c (x, false) := ⟨hxl, okL_bd hxo⟩
          have hwy : Warm c (y, false) := ⟨hyl, okL_bd hyo⟩
          have hle : belowB (runS c (x, false) p).1 (runS c (y, false) q).1 = true := by
            have h1 := (hwx.run hcv.ok (okL_bd ho)).len
            have h2 := (hwy.run hcv.ok (okL_bd ho2)).len
            refine (belowB_iff (by rw [h1, h2])).2 (runS_le hcv.ok hk.symm p q x y H5.out HLE.out (okL_bd ho) (okL_bd ho2) hwx hwy ((belowB_iff ?_).1 H4.out))
            rw [hxl, hyl]
          have hl1 : (runS c (x, false) p).1.length ≤ 48 := by have h1 := (hwx.run hcv.ok (okL_bd ho)).len; have := hcv.ok.p; unfold Cn.P at this; omega
          have hl2 : (runS c (y, false) q).1.length ≤ 48 := by have h1 := (hwy.run hcv.ok (okL_bd ho2)).len; have := hcv.ok.p; unfold Cn.P at this; omega
          have HR1 : Hid (∀ w1, RowI w1 (.slice xa x.length xc) x → RowI w1 (.slice pa p.length pc) p → Calls Try.prog 30 #[.agg #[.int .i64 c.R, .int .i64 c.L, .int .i64 c.A, .int .i64 c.B, .int .i64 0, .int .i64 c.A2, .int .i64 c.B2], .agg #[.slice xa x.length xc, .bool false], .slice pa p.length pc] w1 (RunP c (x, false) p w1)) := by
            intro w1 g1 g2
            have := run_ok c (x, false) _ _ p w1 hcv hbv ho hlp g1 g2
            rw [← hk] at this
            exact this
          have HR2 : Hid (∀ w1, RowI w1 (.slice ya y.length yc) y → RowI w1 (.slice qa q.length qc) q → Calls Try.prog 30 #[.agg #[.int .i64 c.R, .int .i64 c.L, .int .i64 c.A, .int .i64 c.B, .int .i64 0, .int .i64 c.A2, .int .i64 c.B2], .agg #[.slice ya y.length yc, .bool false], .slice qa q.length qc] w1 (RunP c (y, false) q w1)) := by
            intro w1 g1 g2
            have := run_ok c (y, false) _ _ q w1 hcv hbv2 ho2 hlq g1 g2
            rw [← hk] at this
            exact this
          unfold RunP at HR1 HR2
          generalize runS c (x, false) p = X at HR1 hle hl1
          generalize runS c (y, false) q = Y at HR2 hle hl2
          obtain ⟨X, bx⟩ := X
          obtain ⟨Y, by'⟩ := Y
          dsimp only at hle hl1 hl2 HR1 HR2
          have HLE2 := hid hle; have HL1 := hid hl1; have HL2 := hid hl2
          clear hle hl1 hl2 hwx hwy hxl hxk hxo hyl hyk hyo hbv hbv2 hbody hbody2 hcan ho hlp ho2 hlq hz1 hz2 hk HO1 HB1 HLE hcv
          go_wp2_with fail
          refine (HR1.out _ (HX.out _ BX.out.low) (HP.out _ BX.out.low)).mono ?_
          rintro e w4 ⟨v4, rfl, hr4, hb⟩
          have hr4 := hr4.rowI HL1.out
          obtain ⟨xa4, xc4, rfl⟩ := hr4.shape
          have BX := hid (BX.out.keep hb); obtain ⟨t0, t1, t2, t3, t4, t5, t6, t7, t8, t9, t10, t11, t12⟩ := BX.out.thirteen; have hz := BX.out.sz; clear hb
          go_wp2_with fail
          obtain ⟨hb, z0, z1⟩ := laid2 (w2 := w4) (d0 := .slice xa4 X.length xc4) (d1 := .bool bx) (T := 26) rfl
          have HR4 := hid (hr4.keep hb)
          clear hr4
          have BX := hid (BX.out.keep hb); obtain ⟨t0, t1, t2, t3, t4, t5, t6, t7, t8, t9, t10, t11, t12⟩ := BX.out.thirteen; have hz := BX.out.sz; clear hb
          refine (HR2.out _ (HY.out _ BX.out.low) (HQ.out _ BX.out.low)).mono ?_
          rintro e w6 ⟨v6, rfl, hr6, hb⟩
          have hr6 := hr6.rowI HL2.out
          obtain ⟨xa6, xc6, rfl⟩ := hr6.shape
          have HR4 := hid (HR4.out.keep hb)
          have z0 := keep_cell hb z0
          have z1 := keep_cell hb z1
          have hz4 : w4.heap.size < w6.heap.size := World.block_lt_of_cell? w6 ⟨w4.heap.size, 0, none⟩ z0
          have BX := hid (BX.out.keep hb); obtain ⟨t0, t1, t2, t3, t4, t5, t6, t7, t8, t9, t10, t11, t12⟩ := BX.out.thirteen; have hz := BX.out.sz; clear hb
          go_wp2_with fail
          obtain ⟨hb, y0, y1⟩ := laid2 (w2 := w6) (d0 := .slice xa6 Y.length xc6) (d1 := .bool by') (T := 26) rfl
          have HR6 := hid (hr6.keep hb)
          have HR4 := hid (HR4.out.keep hb)
          have z0 := keep_cell hb z0
          have z1 := keep_cell hb z1
          clear hr6
          have BX := hid (BX.out.keep hb); obtain ⟨t0, t1, t2, t3, t4, t5, t6, t7, t8, t9, t10, t11, t12⟩ := BX.out.thirteen; have hz := BX.out.sz; clear hb
          refine (hbelow_any _ _ _ _ _ _ _ HR4.out HR6.out).mono ?_
          rintro e w7 ⟨rfl, hb⟩
          rw [HLE2.out]
          have z0 := keep_cell hb z0
          have z1 := keep_cell hb z1
          have y0 := keep_cell hb y0
          have y1 := keep_cell hb y1
          have HR6 := hid (HR6.out.keep hb)
          have HR4 := hid (HR4.out.keep hb)
          have BX := hid (BX.out.keep hb); obtain ⟨t0, t1, t2, t3, t4, t5, t6, t7, t8, t9, t10, t11, t12⟩ := BX.out.thirteen; have hz := BX.out.sz; clear hb
          go_wp2_with fail
          refine (rbelow_any _ _ _ _ _ _ _ HR4.out HR6.out).mono ?_
          rintro e w8 ⟨rfl, hb⟩
          rw [HLE2.out]
          have BX := hid (BX.out.keep hb); obtain ⟨t0, t1, t2, t3, t4, t5, t6, t7, t8, t9, t10, t11, t12⟩ := BX.out.thirteen; have hz := BX.out.sz; clear hb
          go_wp2_with fail
          refine (awake_any _).mono ?_
          rintro e w9 ⟨rfl, hb⟩
          have BX := hid (BX.out.keep hb); obtain ⟨t0, t1, t2, t3, t4, t5, t6, t7, t8, t9, t10, t11, t12⟩ := BX.out.thirteen; have hz := BX.out.sz; clear hb
          go_wp2_with fail
          go_ret
          exact ⟨rfl, BX.out.low⟩
end Go.Proofs.Ytaioholjckonlaa
