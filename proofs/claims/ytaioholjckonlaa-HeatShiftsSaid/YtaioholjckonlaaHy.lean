/- Walk of HeatShifts. -/
import Derived.Test.YtaioholjckonlaaHx
namespace Go.Proofs.Ytaioholjckonlaa
open Go.RowKit

theorem runS_add {c : Cn} {s : Int} (hK : c.K = 0) : ∀ (p T : List Int), T.length = c.R * c.L → runS c (T.map (· + s), false) (p.map (· + s)) = ((runS c (T, false) p).1.map (· + s), false)
  | [], _, _ => rfl
  | b :: p, T, h => by
    unfold runS
    rw [List.map_cons, List.foldl_cons, List.foldl_cons, tickS_cold hK, tickS_cold hK, tickT_add h]
    exact runS_add hK p _ (tickT_len _ _ _ _ _ _)
/-- The shifted baths. -/
def shL (p : List Int) (s : Int) : List Int := p.map fun t => wrap64 (t + s)
theorem shL_ok {p : List Int} {s : Int} (hp : okL p = true) (h1 : -250000 ≤ s) (h2 : s ≤ 250000) : shL p s = p.map (· + s) := by
  unfold shL
  refine List.map_congr_left fun t ht => ?_
  have := okL_bd hp t ht
  exact IntWalk.wrap64_in _ ⟨by omega, by omega⟩
theorem shL_take {p : List Int} {s : Int} {n : Nat} (h : n < p.length) : shL (p.take n) s ++ [wrap64 (p[n] + s)] = shL (p.take (n + 1)) s := by
  have e2 : p.take (n + 1) = p.take n ++ [p[n]] := by rw [List.take_add_one, List.getElem?_eq_getElem h]; rfl
  unfold shL
  rw [e2, List.map_append]
  rfl
/-- Shifting commutes with ticks. -/
theorem shift_run {r l a b a2 b2 : Int} {x : Bd} {p : List Int} {s : Int} (hy : (shiftO r l a b 0 a2 b2 x s).2 = 0) (h1 : (runO r l a b 0 a2 b2 x p).2 = 0) (h2 : (runO r l a b 0 a2 b2 (shiftO r l a b 0 a2 b2 x s).1 (shL p s)).2 = 0) :
    shiftO r l a b 0 a2 b2 (runO r l a b 0 a2 b2 x p).1 s = ((runO r l a b 0 a2 b2 (shiftO r l a b 0 a2 b2 x s).1 (shL p s)).1, 0) := by
  cases hbb : bothB r l a b 0 a2 b2 x.1 x.2 with
  | false => rw [shiftO_can hbb] at hy; simp at hy
  | true =>
  cases hf : (decide (-250000 ≤ s) && decide (s ≤ 250000)) with
  | false => rw [shiftO_far hbb hf] at hy; simp at hy
  | true =>
  cases hok : okL (x.1.map (· + s)) with
  | false => rw [shiftO_bad hbb hf hok] at hy; simp at hy
  | true =>
  rw [shiftO_ok hbb hf hok] at h2 ⊢
  have hs : -250000 ≤ s ∧ s ≤ 250000 := by simpa using hf
  rw [runO_code] at h1 h2
  rcases chkE_cases (bothB r l a b 0 a2 b2 x.1 x.2) p with hne | ⟨_, _, ho, _⟩
  · exact absurd h1 hne
  rw [shL_ok ho hs.1 hs.2] at h2 ⊢
  rcases chkE_cases (bothB r l a b 0 a2 b2 (x.1.map (· + s)) x.2) (p.map (· + s)) with hne | ⟨_, hbb2, ho2, _⟩
  · exact absurd h2 hne
  rw [runO_ok h1, runO_ok h2]
  obtain ⟨c, hcv, ⟨rfl, rfl, rfl, rfl, hk, rfl, rfl⟩, hbv, hwm⟩ := both_open hbb
  have hK : c.K = 0 := hk.symm
  obtain ⟨hxl, hxk, hxo⟩ := bodyV_iff.1 hbv
  obtain ⟨T, br⟩ := x
  obtain rfl : br = false := hxk.elim id (fun h => absurd hK h)
  have hcn : cnOf c.R c.L c.A c.B 0 c.A2 c.B2 = c := by rw [hk]; exact cnOf_cn c
  rw [hcn]
  dsimp only
  dsimp only at hok hxl
  rw [runS_add hK p T hxl]
  have hb2 := body_run hcv.ok hbv ho
  have hbr := runS_brk hK p (T, false) rfl
  have hw2 : Warm c (T.map (· + s), false) := ⟨by rw [List.length_map]; exact hxl, okL_bd hok⟩
  have hr2 := (hw2.run hcv.ok (okL_bd ho2)).bd
  rw [runS_add hK p T hxl] at hr2
  rw [shiftO_ok (by rw [hk, bothB_cn c hcv]; exact hb2) hf (okL_of hr2), hbr]

set_option maxRecDepth 100000 in
set_option maxHeartbeats 2000000 in
theorem shifts_walk (r l a b k a2 b2 : Int) (u : Value) (x : List Int) (br : Bool) (u2 : Value) (y : List Int) (br2 : Bool) (v : Value) (p : List Int) (v2 : Value) (q : List Int) (s : Int) (w : World) (hx : RowI w u x) (hy : RowI w u2 y) (hp : RowI w v p) (hq : RowI w v2 q) (hs : (Lit.int .i64 s).wf = true) :
    Calls Try.prog 11 #[TwoV r l a b k a2 b2 u br u2 br2 v v2, .int .i64 s] w fun e w' => e = .returned (.bool true) ∧ Below w.heap.size w w' := by
  unfold TwoV
  have HX := hid (fun w1 (g : Below w.heap.size w w1) => hx.keep g)
  have HP := hid (fun w1 (g : Below w.heap.size w w1) => hp.keep g)
  obtain ⟨xa, xc, rfl⟩ := hx.shape
  obtain ⟨ya, yc, rfl⟩ := hy.shape
  obtain ⟨qa, qc, rfl⟩ := hq.shape
  obtain ⟨pa, pb, po, pc, rfl, ha, hc, _⟩ := hp.form
  have HA := hid ha
  have HPC := hid (fun w1 (g : Below w.heap.size w w1) j h => keep_cell g (hc j h))
  clear hx hy hp hq ha hc hs
  have BX := hid (box1_start (w := w) (A := #[.int .i64 r, .int .i64 l, .int .i64 a, .int .i64 b, .int .i64 k, .int .i64 a2, .int .i64 b2, .slice xa x.length xc, .bool br, .slice ya y.length yc, .bool br2, .slice pa p.length pc, .slice qa q.length qc]) (T := 59) (fz := (0, 0)))
  obtain ⟨t0, t1, t2, t3, t4, t5, t6, t7, t8, t9, t10, t11, t12⟩ := BX.out.thirteen
  have hz := BX.out.sz
  by_cases h1 : x.length ≤ 100 ∧ p.length ≤ 80
  case neg =>
    have d1 := hid (decide_eq_false h1)
    go_enter Try.func11, Try.ntmps11
    go_wp2_with (first
      | (go_at_call 15; refine (brief_any _ _ _ _ _ _ _ _).mono ?_; rintro e w1 ⟨rfl, hb⟩; rw [d1.out]; have BX := hid (BX.out.keep hb); obtain ⟨t0, t1, t2, t3, t4, t5, t6, t7, t8, t9, t10, t11, t12⟩ := BX.out.thirteen; have hz := BX.out.sz; clear hb)
      | (go_at_call 16; refine (awake_any _).mono ?_; rintro e w9 ⟨rfl, hb⟩; have BX := hid (BX.out.keep hb); obtain ⟨t0, t1, t2, t3, t4, t5, t6, t7, t8, t9, t10, t11, t12⟩ := BX.out.thirteen; have hz := BX.out.sz; clear hb))
    go_ret
    exact ⟨rfl, BX.out.low⟩
  have d1 := hid (decide_eq_true h1)
  have hp80 : p.length ≤ 80 := h1.2
  clear h1
  by_cases h3 : k = 0
  case neg =>
    have h3' : (k != 0) = true := by simpa using h3
    go_enter Try.func11, Try.ntmps11
    go_wp2_with (first
      | (go_at_call 15; refine (brief_any _ _ _ _ _ _ _ _).mono ?_; rintro e w1 ⟨rfl, hb⟩; rw [d1.out]; have BX := hid (BX.out.keep hb); obtain ⟨t0, t1, t2, t3, t4, t5, t6, t7, t8, t9, t10, t11, t12⟩ := BX.out.thirteen; have hz := BX.out.sz; clear hb)
      | (go_at_call 16; refine (awake_any _).mono ?_; rintro e w9 ⟨rfl, hb⟩; have BX := hid (BX.out.keep hb); obtain ⟨t0, t1, t2, t3, t4, t5, t6, t7, t8, t9, t10, t11, t12⟩ := BX.out.thirteen; have hz := BX.out.sz; clear hb))
    go_ret
    exact ⟨rfl, BX.out.low⟩
  subst h3
  obtain ⟨OY, hOY⟩ : ∃ O, O = shiftO r l a b 0 a2 b2 (x, br) s := ⟨_, rfl⟩
  obtain ⟨O1, hO1⟩ : ∃ O, O = runO r l a b 0 a2 b2 (x, br) p := ⟨_, rfl⟩
  obtain ⟨O2, hO2⟩ : ∃ O, O = runO r l a b 0 a2 b2 OY.1 (shL p s) := ⟨_, rfl⟩
  have HFIN : Hid (OY.2 = 0 → O1.2 = 0 → O2.2 = 0 → shiftO r l a b 0 a2 b2 O1.1 s = (O2.1, 0)) := fun h h1 h2 => by rw [hO2, hOY] at h2; rw [hOY] at h; rw [hO1] at h1; rw [hO1, hO2, hOY]; exact shift_run h h1 h2
  have HSY : Hid (∀ w1, RowI w1 (.slice xa x.length xc) x → Calls Try.prog 53 #[.agg #[.int .i64 r, .int .i64 l, .int .i64 a, .int .i64 b, .int .i64 0, .int .i64 a2, .int .i64 b2], .agg #[.slice xa x.length xc, .bool br], .int .i64 s] w1 (OutB OY w1)) := fun w1 g1 => by rw [hOY]; exact shifted_all _ _ _ _ _ _ _ _ _ _ _ _ g1
  have HR1 : Hid (∀ w1 (z : Value), RowI w1 (.slice xa x.length xc) x → RowI w1 z p → Calls Try.prog 30 #[.agg #[.int .i64 r, .int .i64 l, .int .i64 a, .int .i64 b, .int .i64 0, .int .i64 a2, .int .i64 b2], .agg #[.slice xa x.length xc, .bool br], z] w1 (OutB O1 w1)) := fun w1 z g1 g2 => by rw [hO1]; exact run_all _ _ _ _ _ _ _ _ _ _ _ _ _ g1 g2
  have HR2 : Hid (∀ w1 (z z2 : Value), RowI w1 z OY.1.1 → RowI w1 z2 (shL p s) → Calls Try.prog 30 #[.agg #[.int .i64 r, .int .i64 l, .int .i64 a, .int .i64 b, .int .i64 0, .int .i64 a2, .int .i64 b2], .agg #[z, .bool OY.1.2], z2] w1 (OutB O2 w1)) := fun w1 z z2 g1 g2 => by rw [hO2]; exact run_all _ _ _ _ _ _ _ _ _ _ _ _ _ g1 g2
  have HS2 : Hid (∀ w1 (z : Value), RowI w1 z O1.1.1 → Calls Try.prog 53 #[.agg #[.int .i64 r, .int .i64 l, .int .i64 a, .int .i64 b, .int .i64 0, .int .i64 a2, .int .i64 b2], .agg #[z, .bool O1.1.2], .int .i64 s] w1 (OutB (shiftO r l a b 0 a2 b2 O1.1 s) w1)) := fun w1 z g1 => shifted_all _ _ _ _ _ _ _ _ _ _ _ _ g1
  go_enter Try.func11, Try.ntmps11
  go_wp2_with (first
      | (go_at_call 15; refine (brief_any _ _ _ _ _ _ _ _).mono ?_; rintro e w1 ⟨rfl, hb⟩; rw [d1.out]; have BX := hid (BX.out.keep hb); obtain ⟨t0, t1, t2, t3, t4, t5, t6, t7, t8, t9, t10, t11, t12⟩ := BX.out.thirteen; have hz := BX.out.sz; clear hb))
  refine (HSY.out _ (HX.out _ BX.out.low)).mono ?_
  rintro e w4 ⟨ua, uc, rfl, hr4, hb⟩
  have BX := hid (BX.out.keep hb); obtain ⟨t0, t1, t2, t3, t4, t5, t6, t7, t8, t9, t10, t11, t12⟩ := BX.out.thirteen; have hz := BX.out.sz; clear hb
  by_cases hOY0 : OY.2 = 0
  case neg =>
    have hc1 : (OY.2 != 0) = true := by simpa using hOY0
    clear hOY0 hOY hO1 hO2
    go_wp2_with fail
    obtain ⟨hb, z0, z1⟩ := laid2 (w2 := w4) (d0 := .slice ua OY.1.1.length uc) (d1 := .bool OY.1.2) (T := 26) rfl
    have BX := hid (BX.out.keep hb); obtain ⟨t0, t1, t2, t3, t4, t5, t6, t7, t8, t9, t10, t11, t12⟩ := BX.out.thirteen; have hz := BX.out.sz; clear hb
    refine (awake_any _).mono ?_
    rintro e w11 ⟨rfl, hb⟩
    have BX := hid (BX.out.keep hb); obtain ⟨t0, t1, t2, t3, t4, t5, t6, t7, t8, t9, t10, t11, t12⟩ := BX.out.thirteen; have hz := BX.out.sz; clear hb
    go_wp2_with fail
    go_ret
    exact ⟨rfl, BX.out.low⟩
  have hc1 : (OY.2 != 0) = false := by simpa using hOY0
  have HOY := hid hOY; have HO1 := hid hO1; have HO2 := hid hO2; have HY0 := hid hOY0
  clear hOY0 hOY hO1 hO2
  go_wp2_with fail
  obtain ⟨hb, z0, z1⟩ := laid2 (w2 := w4) (d0 := .slice ua OY.1.1.length uc) (d1 := .bool OY.1.2) (T := 26) rfl
  have HR4 := hid (hr4.keep hb)
  have BX := hid (BX.out.keep hb); obtain ⟨t0, t1, t2, t3, t4, t5, t6, t7, t8, t9, t10, t11, t12⟩ := BX.out.thirteen; have hz := BX.out.sz; clear hb
  clear hr4
  generalize World.alloc w4 _ = W0 at *
  obtain ⟨i0, hi, hz0, hz1', hz2'⟩ := info_parts infoIf
  go_loopw [7, 8] (fun vl i wr => ∃ n : Nat, n ≤ p.length ∧ i = .int .i64 (n : Int) ∧ Hid (wr.ownsRow W0.heap.size 3 1 vl (ivs (shL (p.take n) s)).length (ivs (shL (p.take n) s))) ∧ Hid (Below W0.heap.size W0 wr)) (fun _ i _ => p.length - (intOf i).toNat)
  case atStart => exact ⟨0, Nat.zero_le _, rfl, World.ownsRow_nil _ _ _ _, Below.refl _ _⟩
  case round =>
    obtain ⟨n, hn, rfl, HN, HB⟩ := hrel
    clear t0 t1 t2 t3 t4 t5 t6 t7 t8 t9 t10 t11 t12 hz
    have HR4 := hid (HR4.out.keep HB.out)
    have z0 := keep_cell HB.out z0
    have z1 := keep_cell HB.out z1
    have hb := HB.out
    have BX := hid (BX.out.keep hb); obtain ⟨t0, t1, t2, t3, t4, t5, t6, t7, t8, t9, t10, t11, t12⟩ := BX.out.thirteen; have hz := BX.out.sz; clear hb
    by_cases hlt : n < p.length
    · have hlt' : (n : Int) < p.length := by omega
      have ex := HPC.out _ BX.out.low n hlt
      have HST := hid (shL_take (s := s) hlt)
      rcases HA.out with h0 | rfl
      · exact absurd hlt (by rw [h0]; simp)
      generalize p[n] = t at ex HST
      go_wp2_with (at_builtin; (refine wpList_app rfl (.tmp 47) (.tmp 55) 24 rfl W0.heap.size 3 i0 Try.underlying24 hi hz0 hz1' hz2' _ (ivs (shL (p.take n) s)) rfl (HN.out.alloc _) (.slice (some ⟨wr.heap.size, 0, none⟩) 1 1) [wrap64 (t + s)] rfl (RowI.src (one_at _ _ rfl)) (by rw [ivs_len]; simp [shL]; omega) (by have := HB.out.size; simp; omega) ?_); intro v3 w6 hA1; have HB6 := hid (app_low (HB.out.alloc HB.out.size _) (HN.out.alloc _) (Nat.le_refl _) hA1); have HO6 := hid (app_next hA1); clear hA1)
      rw [HST.out] at HO6
      go_roundw
      case rel => exact ⟨n + 1, by omega, by go_num, by rw [ivs_len]; exact HO6, HB6⟩
      case measure => simp [intOf]; omega
    · obtain rfl : n = p.length := by omega
      rw [List.take_length] at HN
      have HL2 : Hid (RowI wr _ (shL p s)) := hid (own_rowI (l := shL p s) (by have h := HN.out; rw [ivs_len] at h; exact h) (by unfold shL; rw [List.length_map]; omega))
      clear HN HOY HO1 HO2
      go_wp2_with fail
      refine (HR1.out _ _ (HX.out _ BX.out.low) (HP.out _ BX.out.low)).mono ?_
      rintro e w6 ⟨ub, ucb, rfl, hr6, hb⟩
      have HR4 := hid (HR4.out.keep hb)
      have HL2 := hid (HL2.out.keep hb)
      have z0 := keep_cell hb z0
      have z1 := keep_cell hb z1
      have hz4 : w4.heap.size < w6.heap.size := World.block_lt_of_cell? w6 ⟨w4.heap.size, 0, none⟩ z0
      have BX := hid (BX.out.keep hb); obtain ⟨t0, t1, t2, t3, t4, t5, t6, t7, t8, t9, t10, t11, t12⟩ := BX.out.thirteen; have hz := BX.out.sz; clear hb
      go_wp2_with fail
      obtain ⟨hb, y0, y1⟩ := laid2 (w2 := w6) (d0 := .slice ub O1.1.1.length ucb) (d1 := .bool O1.1.2) (T := 26) rfl
      have HR6 := hid (hr6.keep hb)
      have HR4 := hid (HR4.out.keep hb)
      have HL2 := hid (HL2.out.keep hb)
      have BX := hid (BX.out.keep hb); obtain ⟨t0, t1, t2, t3, t4, t5, t6, t7, t8, t9, t10, t11, t12⟩ := BX.out.thirteen; have hz := BX.out.sz; clear hb
      refine (HR2.out _ _ _ HR4.out HL2.out).mono ?_
      rintro e w8 ⟨ud, ucd, rfl, hr8, hb⟩
      have HR6 := hid (HR6.out.keep hb)
      have y0 := keep_cell hb y0
      have y1 := keep_cell hb y1
      have hz6 : w6.heap.size < w8.heap.size := World.block_lt_of_cell? w8 ⟨w6.heap.size, 0, none⟩ y0
      have BX := hid (BX.out.keep hb); obtain ⟨t0, t1, t2, t3, t4, t5, t6, t7, t8, t9, t10, t11, t12⟩ := BX.out.thirteen; have hz := BX.out.sz; clear hb
      by_cases hE : O1.2 = 0 ∧ O2.2 = 0
      · obtain ⟨hE1, hE2⟩ := hE
        have hc2 : (O1.2 != 0) = false := by simpa using hE1
        have hc3 : (O2.2 != 0) = false := by simpa using hE2
        have HF := hid (HFIN.out HY0.out hE1 hE2)
        clear hE1 hE2
        go_wp2_with fail
        obtain ⟨hb, x0, x1⟩ := laid2 (w2 := w8) (d0 := .slice ud O2.1.1.length ucd) (d1 := .bool O2.1.2) (T := 26) rfl
        have HR6 := hid (HR6.out.keep hb)
        have HR8 := hid (hr8.keep hb)
        have BX := hid (BX.out.keep hb); obtain ⟨t0, t1, t2, t3, t4, t5, t6, t7, t8, t9, t10, t11, t12⟩ := BX.out.thirteen; have hz := BX.out.sz; clear hb
        refine (HS2.out _ _ HR6.out).mono ?_
        rw [HF.out]
        rintro e w10 ⟨uf, ucf, rfl, hr10, hb⟩
        have HR8 := hid (HR8.out.keep hb)
        have x0 := keep_cell hb x0
        have x1 := keep_cell hb x1
        have hz8 : w8.heap.size < w10.heap.size := World.block_lt_of_cell? w10 ⟨w8.heap.size, 0, none⟩ x0
        have BX := hid (BX.out.keep hb); obtain ⟨t0, t1, t2, t3, t4, t5, t6, t7, t8, t9, t10, t11, t12⟩ := BX.out.thirteen; have hz := BX.out.sz; clear hb
        dsimp only
        go_wp2_with fail
        obtain ⟨hb, c0, c1⟩ := laid2 (w2 := w10) (d0 := .slice uf O2.1.1.length ucf) (d1 := .bool O2.1.2) (T := 26) rfl
        have HR8 := hid (HR8.out.keep hb)
        have HR10 := hid (hr10.keep hb)
        have BX := hid (BX.out.keep hb); obtain ⟨t0, t1, t2, t3, t4, t5, t6, t7, t8, t9, t10, t11, t12⟩ := BX.out.thirteen; have hz := BX.out.sz; clear hb
        refine (rsame_any _ _ _ _ _ _ _ HR8.out HR10.out).mono ?_
        rintro e w11 ⟨rfl, hb⟩
        rw [show (O2.1.2 == O2.1.2 && decide (O2.1.1 = O2.1.1)) = true by simp]
        have BX := hid (BX.out.keep hb); obtain ⟨t0, t1, t2, t3, t4, t5, t6, t7, t8, t9, t10, t11, t12⟩ := BX.out.thirteen; have hz := BX.out.sz; clear hb
        go_wp2_with fail
        refine (awake_any _).mono ?_
        rintro e w12 ⟨rfl, hb⟩
        have BX := hid (BX.out.keep hb); obtain ⟨t0, t1, t2, t3, t4, t5, t6, t7, t8, t9, t10, t11, t12⟩ := BX.out.thirteen; have hz := BX.out.sz; clear hb
        go_wp2_with fail
        go_ret
        exact ⟨rfl, BX.out.low⟩
      · have hE' : (O1.2 != 0) = true ∨ ((O1.2 != 0) = false ∧ (O2.2 != 0) = true) := by
          by_cases h1 : O1.2 = 0
          · exact .inr ⟨by simpa using h1, by simpa using fun h2 => hE ⟨h1, h2⟩⟩
          · exact .inl (by simpa using h1)
        clear hE
        rcases hE' with hc2 | ⟨hc2, hc3⟩
        all_goals
          go_wp2_with fail
          obtain ⟨hb, x0, x1⟩ := laid2 (w2 := w8) (d0 := .slice ud O2.1.1.length ucd) (d1 := .bool O2.1.2) (T := 26) rfl
          have BX := hid (BX.out.keep hb); obtain ⟨t0, t1, t2, t3, t4, t5, t6, t7, t8, t9, t10, t11, t12⟩ := BX.out.thirteen; have hz := BX.out.sz; clear hb
          refine (awake_any _).mono ?_
          rintro e w12 ⟨rfl, hb⟩
          have BX := hid (BX.out.keep hb); obtain ⟨t0, t1, t2, t3, t4, t5, t6, t7, t8, t9, t10, t11, t12⟩ := BX.out.thirteen; have hz := BX.out.sz; clear hb
          go_wp2_with fail
          go_ret
          exact ⟨rfl, BX.out.low⟩
end Go.Proofs.Ytaioholjckonlaa
