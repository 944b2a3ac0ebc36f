/- Walk of HeatUpside. -/
import Derived.Test.YtpkcnojcklmhmaaQn
import Derived.Test.YtpkcnojcklmhmaaQk
namespace Go.Proofs.Ytpkcnojcklmhmaa
open Go.RowKit

/-- The boxes of a can and a body. -/
structure RB (w w1 : World) (A B : Array Value) : Prop where
  can : w1.heap[w.heap.size]? = some (.cells A 23 (0, 0))
  bod : w1.heap[w.heap.size + 1]? = some (.cells B 26 (0, 0))
  low : Below w.heap.size w w1
theorem RB.keep {w w1 w2 : World} {A B : Array Value} (h : RB w w1 A B) (hb : Below w1.heap.size w1 w2) : RB w w2 A B :=
  ⟨(hb.block _ (lt_of_block h.can)).trans h.can, (hb.block _ (lt_of_block h.bod)).trans h.bod, bstep h.low h.low.size hb⟩
theorem rb_start {w : World} {A B : Array Value} : RB w ((w.alloc (.cells A 23)).alloc (.cells B 26)) A B :=
  ⟨heap_alloc2_old w _ _, heap_alloc2_new w _ _, ((Below.refl _ _).alloc (Nat.le_refl _) _).alloc (by simp) _⟩
theorem RB.nine {w W : World} {c0 c1 c2 c3 c4 c5 c6 b0 b1 : Value} (h : RB w W #[c0, c1, c2, c3, c4, c5, c6] #[b0, b1]) :
    (W.cell? ⟨w.heap.size, 0, none⟩ = some c0 ∧ W.cell? ⟨w.heap.size, 1, none⟩ = some c1 ∧ W.cell? ⟨w.heap.size, 2, none⟩ = some c2 ∧ W.cell? ⟨w.heap.size, 3, none⟩ = some c3 ∧ W.cell? ⟨w.heap.size, 4, none⟩ = some c4 ∧ W.cell? ⟨w.heap.size, 5, none⟩ = some c5 ∧ W.cell? ⟨w.heap.size, 6, none⟩ = some c6) ∧
    (W.cell? ⟨w.heap.size + 1, 0, none⟩ = some b0 ∧ W.cell? ⟨w.heap.size + 1, 1, none⟩ = some b1) :=
  ⟨⟨cell_of_row _ _ 0 _ _ _ h.can, cell_of_row _ _ 1 _ _ _ h.can, cell_of_row _ _ 2 _ _ _ h.can, cell_of_row _ _ 3 _ _ _ h.can, cell_of_row _ _ 4 _ _ _ h.can, cell_of_row _ _ 5 _ _ _ h.can, cell_of_row _ _ 6 _ _ _ h.can⟩, ⟨cell_of_row _ _ 0 _ _ _ h.bod, cell_of_row _ _ 1 _ _ _ h.bod⟩⟩
set_option maxRecDepth 100000 in
set_option maxHeartbeats 8000000 in
theorem upside_walk (r l a b k a2 b2 : Int) (u : Value) (x : List Int) (br : Bool) (v : Value) (p : List Int) (w : World) (hx : RowI w u x) (hcx : CapR u x) (hp : RowI w v p) :
    Calls Try.prog 7 #[.agg #[.int .i64 r, .int .i64 l, .int .i64 a, .int .i64 b, .int .i64 k, .int .i64 a2, .int .i64 b2], .agg #[u, .bool br], v] w fun e w' => e = .returned (.bool true) ∧ Below w.heap.size w w' := by
  have HX := hid (fun w1 (g : Below w.heap.size w w1) => hx.keep g)
  have HP := hid (fun w1 (g : Below w.heap.size w w1) => hp.keep g)
  have HCX := hid hcx
  obtain ⟨xa, xc, rfl⟩ := hx.shape
  obtain ⟨pa, pc, rfl⟩ := hp.shape
  clear hx hp hcx
  have R0 := hid (rb_start (w := w) (A := #[.int .i64 r, .int .i64 l, .int .i64 a, .int .i64 b, .int .i64 k, .int .i64 a2, .int .i64 b2]) (B := #[.slice xa x.length xc, .bool br]))
  obtain ⟨⟨b0, b1, b2', b3, b4, b5, b6⟩, ⟨x0, x1⟩⟩ := R0.out.nine
  by_cases h1 : x.length ≤ 100 ∧ p.length ≤ 80
  case neg =>
    have d1 := hid (decide_eq_false h1)
    go_enter Try.func7, Try.ntmps7
    go_wp2_with fail
    refine (brief_any _ _ _ _ _ _ _ _).mono ?_
    rintro e w1 ⟨rfl, hb⟩
    rw [d1.out]
    have R1 := hid (R0.out.keep hb)
    clear hb b0 b1 b2' b3 b4 b5 b6 x0 x1
    obtain ⟨⟨b0, b1, b2', b3, b4, b5, b6⟩, ⟨x0, x1⟩⟩ := R1.out.nine
    go_wp2_with fail
    refine (awake_any _).mono ?_
    rintro e w9 ⟨rfl, hb⟩
    have R9 := hid (R1.out.keep hb)
    clear hb
    go_wp2_with fail
    go_ret
    exact ⟨rfl, R9.out.low⟩
  have d1 := hid (decide_eq_true h1)
  clear h1
  obtain ⟨OY, hOY⟩ : ∃ O, O = turnO r l a b k a2 b2 (x, br) := ⟨_, rfl⟩
  obtain ⟨O1, hO1⟩ : ∃ O, O = runO r l a b k a2 b2 (x, br) p := ⟨_, rfl⟩
  obtain ⟨O2, hO2⟩ : ∃ O, O = runO r l a b k a2 b2 OY.1 p := ⟨_, rfl⟩
  obtain ⟨OZ, hOZ⟩ : ∃ O, O = turnO r l a b k a2 b2 O1.1 := ⟨_, rfl⟩
  have HFIN : Hid (OY.2 = 0 → O1.2 = 0 → O2.2 = 0 ∧ OZ.2 = 0 ∧ O2.1 = OZ.1) := fun h h1 => by rw [hO2, hOZ, hOY, hO1]; rw [hOY] at h; rw [hO1] at h1; exact turn_run h h1
  have HTY : Hid (∀ w1, RowI w1 (.slice xa x.length xc) x → Calls Try.prog 31 #[.agg #[.int .i64 r, .int .i64 l, .int .i64 a, .int .i64 b, .int .i64 k, .int .i64 a2, .int .i64 b2], .agg #[.slice xa x.length xc, .bool br]] w1 (OutB OY w1)) := fun w1 g1 => by rw [hOY]; exact turned_all _ _ _ _ _ _ _ _ _ _ _ g1 HCX.out
  have HR1 : Hid (∀ w1 (z : Value), RowI w1 (.slice xa x.length xc) x → RowI w1 z p → Calls Try.prog 15 #[.agg #[.int .i64 r, .int .i64 l, .int .i64 a, .int .i64 b, .int .i64 k, .int .i64 a2, .int .i64 b2], .agg #[.slice xa x.length xc, .bool br], z] w1 (OutC O1 w1)) := fun w1 z g1 g2 => by rw [hO1]; exact run_allC _ _ _ _ _ _ _ _ _ _ _ _ _ g1 g2
  have HR2 : Hid (∀ w1 (z z2 : Value), RowI w1 z OY.1.1 → RowI w1 z2 p → Calls Try.prog 15 #[.agg #[.int .i64 r, .int .i64 l, .int .i64 a, .int .i64 b, .int .i64 k, .int .i64 a2, .int .i64 b2], .agg #[z, .bool OY.1.2], z2] w1 (OutB O2 w1)) := fun w1 z z2 g1 g2 => by rw [hO2]; exact run_all _ _ _ _ _ _ _ _ _ _ _ _ _ g1 g2
  have HTZ : Hid (∀ w1 (z : Value), RowI w1 z O1.1.1 → CapR z O1.1.1 → Calls Try.prog 31 #[.agg #[.int .i64 r, .int .i64 l, .int .i64 a, .int .i64 b, .int .i64 k, .int .i64 a2, .int .i64 b2], .agg #[z, .bool O1.1.2]] w1 (OutB OZ w1)) := fun w1 z g1 g2 => by rw [hOZ]; exact turned_all _ _ _ _ _ _ _ _ _ _ _ g1 g2
  clear hOY hO1 hO2 hOZ
  go_enter Try.func7, Try.ntmps7
  go_wp2_with fail
  refine (brief_any _ _ _ _ _ _ _ _).mono ?_
  rintro e w1 ⟨rfl, hb⟩
  rw [d1.out]
  have R1 := hid (R0.out.keep hb)
  clear hb b0 b1 b2' b3 b4 b5 b6 x0 x1
  obtain ⟨⟨b0, b1, b2', b3, b4, b5, b6⟩, ⟨x0, x1⟩⟩ := R1.out.nine
  go_wp2_with fail
  refine (HTY.out _ (HX.out _ R1.out.low)).mono ?_
  rintro e w4 ⟨ua, uc, rfl, hr, hb⟩
  have R4 := hid (R1.out.keep hb)
  have HU4 := hid hr
  clear hb hr b0 b1 b2' b3 b4 b5 b6 x0 x1
  obtain ⟨⟨b0, b1, b2', b3, b4, b5, b6⟩, ⟨x0, x1⟩⟩ := R4.out.nine
  have hza := lt_of_block R4.out.can
  have hzb := lt_of_block R4.out.bod
  go_wp2_with fail
  clear hza hzb b0 b1 b2' b3 b4 b5 b6 x0 x1
  have hb := (Below.refl w4.heap.size w4).alloc (Nat.le_refl _) (.cells #[.slice ua OY.1.1.length uc, .bool OY.1.2] 26)
  have R5 := hid (R4.out.keep hb)
  have HU5 := hid (HU4.out.keep hb)
  have HN5 := hid (show BodAt (w4.alloc (.cells #[.slice ua OY.1.1.length uc, .bool OY.1.2] 26)) w4.heap.size ua OY.1.1.length uc OY.1.2 from bodAt_new)
  obtain ⟨W5, hW5⟩ : ∃ W5, W5 = w4.alloc (.cells #[.slice ua OY.1.1.length uc, .bool OY.1.2] 26) := ⟨_, rfl⟩
  obtain ⟨n7, hn7⟩ : ∃ n, n = w4.heap.size := ⟨_, rfl⟩
  have hsn7 : w4.heap.size < W5.heap.size := by rw [hW5]; simp
  rw [← hW5] at R5 HU5 HN5 ⊢
  rw [← hn7] at HN5 hsn7 ⊢
  clear hW5 hn7 hb
  obtain ⟨⟨b0, b1, b2', b3, b4, b5, b6⟩, ⟨x0, x1⟩⟩ := R5.out.nine
  go_wp2_with fail
  refine (HR1.out _ _ (HX.out _ R5.out.low) (HP.out _ R5.out.low)).mono ?_
  rintro e w6 ⟨va, vc, rfl, hr, hcv, hb⟩
  have R6 := hid (R5.out.keep hb)
  have HU6 := hid (HU5.out.keep hb)
  have HN6 := hid (HN5.out.keep hb)
  have HV6 := hid hr
  have HCV := hid hcv
  have hn76 : n7 < w6.heap.size := lt_of_block HN6.out
  clear hb hr hcv b0 b1 b2' b3 b4 b5 b6 x0 x1
  obtain ⟨e0, e1, f0, f1⟩ := HN6.out.cells
  obtain ⟨⟨b0, b1, b2', b3, b4, b5, b6⟩, ⟨x0, x1⟩⟩ := R6.out.nine
  have hza := lt_of_block R6.out.can
  have hzb := lt_of_block R6.out.bod
  go_wp2_with fail
  clear hza hzb e0 e1 f0 f1 b0 b1 b2' b3 b4 b5 b6 x0 x1
  have hb := (Below.refl w6.heap.size w6).alloc (Nat.le_refl _) (.cells #[.slice va O1.1.1.length vc, .bool O1.1.2] 26)
  have R7 := hid (R6.out.keep hb)
  have HU7 := hid (HU6.out.keep hb)
  have HV7 := hid (HV6.out.keep hb)
  have HN7 := hid (HN6.out.keep hb)
  have HM7 := hid (show BodAt (w6.alloc (.cells #[.slice va O1.1.1.length vc, .bool O1.1.2] 26)) w6.heap.size va O1.1.1.length vc O1.1.2 from bodAt_new)
  obtain ⟨W7, hW7⟩ : ∃ W7, W7 = w6.alloc (.cells #[.slice va O1.1.1.length vc, .bool O1.1.2] 26) := ⟨_, rfl⟩
  obtain ⟨n9, hn9⟩ : ∃ n, n = w6.heap.size := ⟨_, rfl⟩
  have hsn9 : w6.heap.size < W7.heap.size := by rw [hW7]; simp
  rw [← hW7] at R7 HU7 HV7 HN7 HM7 ⊢
  rw [← hn9] at HM7 hsn9 ⊢
  clear hW7 hn9 hb
  obtain ⟨⟨b0, b1, b2', b3, b4, b5, b6⟩, ⟨x0, x1⟩⟩ := R7.out.nine
  obtain ⟨e0, e1, f0, f1⟩ := HN7.out.cells
  go_wp2_with fail
  refine (HR2.out _ _ _ HU7.out (HP.out _ R7.out.low)).mono ?_
  rintro e w8 ⟨za, zc, rfl, hr, hb⟩
  have R8 := hid (R7.out.keep hb)
  have HV8 := hid (HV7.out.keep hb)
  have HM8 := hid (HM7.out.keep hb)
  have HZ8 := hid hr
  have hn98 : n9 < w8.heap.size := lt_of_block HM8.out
  clear hb hr e0 e1 f0 f1 b0 b1 b2' b3 b4 b5 b6 x0 x1
  obtain ⟨g0, g1, i0, i1⟩ := HM8.out.cells
  obtain ⟨⟨b0, b1, b2', b3, b4, b5, b6⟩, ⟨x0, x1⟩⟩ := R8.out.nine
  have hza := lt_of_block R8.out.can
  have hzb := lt_of_block R8.out.bod
  by_cases hy0 : OY.2 = 0
  case neg =>
    have hc1 : (OY.2 != 0) = true := by simpa using hy0
    clear hy0
    go_wp2_with fail
    refine (awake_any _).mono ?_
    rintro e w9 ⟨rfl, hb⟩
    have HB := hid (bstep (R8.out.low.alloc R8.out.low.size _) (R8.out.low.alloc R8.out.low.size _).size hb)
    clear hb
    go_wp2_with fail
    go_ret
    exact ⟨rfl, HB.out⟩
  have hc1 : (OY.2 != 0) = false := by simpa using hy0
  by_cases h10 : O1.2 = 0
  case neg =>
    have hc2 : (O1.2 != 0) = true := by simpa using h10
    clear hy0 h10
    go_wp2_with fail
    refine (awake_any _).mono ?_
    rintro e w9 ⟨rfl, hb⟩
    have HB := hid (bstep (R8.out.low.alloc R8.out.low.size _) (R8.out.low.alloc R8.out.low.size _).size hb)
    clear hb
    go_wp2_with fail
    go_ret
    exact ⟨rfl, HB.out⟩
  have hc2 : (O1.2 != 0) = false := by simpa using h10
  obtain ⟨q1, q2, q3⟩ := HFIN.out hy0 h10
  have hc3 : (O2.2 == 0) = true := by simpa using q1
  have hc4 : (OZ.2 == 0) = true := by simpa using q2
  have HQ3 := hid q3
  clear hy0 h10 q1 q2 q3
  go_wp2_with fail
  clear hza hzb g0 g1 i0 i1 b0 b1 b2' b3 b4 b5 b6 x0 x1
  have hb := (Below.refl w8.heap.size w8).alloc (Nat.le_refl _) (.cells #[.slice za O2.1.1.length zc, .bool O2.1.2] 26)
  have R9 := hid (R8.out.keep hb)
  have HV9 := hid (HV8.out.keep hb)
  have HZ9 := hid (HZ8.out.keep hb)
  have HM9 := hid (HM8.out.keep hb)
  have HK9 := hid (show BodAt (w8.alloc (.cells #[.slice za O2.1.1.length zc, .bool O2.1.2] 26)) w8.heap.size za O2.1.1.length zc O2.1.2 from bodAt_new)
  obtain ⟨W9, hW9⟩ : ∃ W9, W9 = w8.alloc (.cells #[.slice za O2.1.1.length zc, .bool O2.1.2] 26) := ⟨_, rfl⟩
  obtain ⟨n11, hn11⟩ : ∃ n, n = w8.heap.size := ⟨_, rfl⟩
  have hsn11 : w8.heap.size < W9.heap.size := by rw [hW9]; simp
  rw [← hW9] at R9 HV9 HZ9 HM9 HK9 ⊢
  rw [← hn11] at HK9 hsn11 ⊢
  clear hW9 hn11 hb
  refine (HTZ.out _ _ HV9.out HCV.out).mono ?_
  rintro e w10 ⟨ya, yc, rfl, hr, hb⟩
  have R10 := hid (R9.out.keep hb)
  have HZ10 := hid (HZ9.out.keep hb)
  have HK10 := hid (HK9.out.keep hb)
  have HY10 := hid hr
  have hn1110 : n11 < w10.heap.size := lt_of_block HK10.out
  clear hb hr
  obtain ⟨g0, g1, i0, i1⟩ := HK10.out.cells
  go_wp2_with fail
  clear g0 g1 i0 i1
  have hb := (Below.refl w10.heap.size w10).alloc (Nat.le_refl _) (.cells #[.slice ya OZ.1.1.length yc, .bool OZ.1.2] 26)
  have R11 := hid (R10.out.keep hb)
  have HZ11 := hid (HZ10.out.keep hb)
  have HY11 := hid (HY10.out.keep hb)
  have HK11 := hid (HK10.out.keep hb)
  have HJ11 := hid (show BodAt (w10.alloc (.cells #[.slice ya OZ.1.1.length yc, .bool OZ.1.2] 26)) w10.heap.size ya OZ.1.1.length yc OZ.1.2 from bodAt_new)
  obtain ⟨W11, hW11⟩ : ∃ W11, W11 = w10.alloc (.cells #[.slice ya OZ.1.1.length yc, .bool OZ.1.2] 26) := ⟨_, rfl⟩
  obtain ⟨n13, hn13⟩ : ∃ n, n = w10.heap.size := ⟨_, rfl⟩
  have hsn13 : w10.heap.size < W11.heap.size := by rw [hW11]; simp
  rw [← hW11] at R11 HZ11 HY11 HK11 HJ11 ⊢
  rw [← hn13] at HJ11 hsn13 ⊢
  clear hW11 hn13 hb
  have HSB := hid (rsame_any _ _ _ _ _ O2.1.2 OZ.1.2 HZ11.out HY11.out)
  have hsm : (O2.1.2 == OZ.1.2 && decide (O2.1.1 = OZ.1.1)) = true := by rw [HQ3.out]; exact same_self OZ.1
  rw [hsm] at HSB
  clear hsm
  obtain ⟨e0, e1, f0, f1⟩ := HK11.out.cells
  obtain ⟨g0, g1, i0, i1⟩ := HJ11.out.cells
  go_wp2_with fail
  refine HSB.out.mono ?_
  rintro e w14 ⟨rfl, hb⟩
  have R14 := hid (R11.out.keep hb)
  clear hb
  go_wp2_with fail
  refine (awake_any _).mono ?_
  rintro e w15 ⟨rfl, hb⟩
  have R15 := hid (R14.out.keep hb)
  clear hb
  go_wp2_with fail
  go_ret
  exact ⟨rfl, R15.out.low⟩
end Go.Proofs.Ytpkcnojcklmhmaa
