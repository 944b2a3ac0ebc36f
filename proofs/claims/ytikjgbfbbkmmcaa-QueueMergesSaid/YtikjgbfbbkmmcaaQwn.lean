/- Walk of QueueMerges. -/
import Derived.Test.YtikjgbfbbkmmcaaQwm
namespace Go.Proofs.Ytikjgbfbbkmmcaa
open Go.RowKit

set_option maxRecDepth 20000 in
set_option maxHeartbeats 4000000 in
theorem qmerges_walk (va : Value) (a : List Bsk) (vb : Value) (b : List Bsk) (w : World) (ha : InB w va a) (hb : InB w vb b) : Calls Try.prog 3 #[va, vb] w fun e w' => e = .returned (.bool true) ∧ Below w.heap.size w w' := by
  have HA := hid (fun w1 (g : Below w.heap.size w w1) => show InB w1 va a from ⟨ha.1.keep g, ha.2⟩)
  have HB := hid (fun w1 (g : Below w.heap.size w w1) => show InB w1 vb b from ⟨hb.1.keep g, hb.2⟩)
  obtain ⟨aa, ac, rfl⟩ := ha.1.shape
  obtain ⟨ba, bc, rfl⟩ := hb.1.shape
  generalize hn : a.length = n at *
  generalize hm : b.length = m at *
  clear ha hb hn hm
  go_enter Try.func3, Try.ntmps3
  go_wp2_with fail
  refine (awake_any w).mono ?_
  rintro e w1 ⟨rfl, hb1⟩
  have HB1 := hid hb1
  clear hb1
  go_wp2_with fail
  refine (many_any _ a 0 none 0 w1 (HA.out _ HB1.out)).mono ?_
  rintro e w2 ⟨q1, rfl, hb2⟩
  have HB2 := hid (bstep HB1.out HB1.out.size hb2)
  clear hb2 HB1
  cases q1
  case true =>
    go_wp2
    go_ret
    exact ⟨rfl, HB2.out⟩
  go_wp2_with fail
  refine (many_any _ b 0 none 0 w2 (HB.out _ HB2.out)).mono ?_
  rintro e w3 ⟨q2, rfl, hb3⟩
  have HB3 := hid (bstep HB2.out HB2.out.size hb3)
  clear hb3 HB2
  cases q2
  case true =>
    go_wp2
    go_ret
    exact ⟨rfl, HB3.out⟩
  go_wp2_with fail
  refine (merge_any _ _ a b w3 (HA.out _ HB3.out).1 (HB.out _ HB3.out).1 (HA.out _ HB3.out).2 (HB.out _ HB3.out).2).mono ?_
  rintro e w4 ⟨u1, rfl, hu1, hb4⟩
  have HB4 := hid (bstep HB3.out HB3.out.size hb4)
  have HU1 := hid (fun w5 (g : Below w4.heap.size w4 w5) => hu1.keep g)
  clear hb4 HB3 hu1
  go_wp2_with fail
  refine (xmerge_any _ _ a b w4 (HA.out _ HB4.out).1 (HB.out _ HB4.out).1 (HA.out _ HB4.out).2 (HB.out _ HB4.out).2).mono ?_
  rintro e w5 ⟨u2, rfl, hu2, hb5⟩
  have HB5 := hid (bstep HB4.out HB4.out.size hb5)
  have HC5 := hid hb5
  have HU2 := hid (fun w6 (g : Below w5.heap.size w5 w6) => hu2.keep g)
  clear hb5 HB4 hu2
  go_wp2_with fail
  refine (merge_any _ _ b a w5 (HB.out _ HB5.out).1 (HA.out _ HB5.out).1 (HB.out _ HB5.out).2 (HA.out _ HB5.out).2).mono ?_
  rintro e w6 ⟨u3, rfl, hu3, hb6⟩
  rw [mrgE_comm b a]
  rw [mrgL_comm b a] at hu3
  have HB6 := hid (bstep HB5.out HB5.out.size hb6)
  have HC6 := hid hb6
  have HU3 := hid (fun w7 (g : Below w6.heap.size w6 w7) => hu3.keep g)
  clear hb6 HB5 hu3
  have H1 := hid (HU1.out _ (bstep HC5.out HC5.out.size HC6.out))
  have H2 := hid (HU2.out _ HC6.out)
  have HEQ := hid (baskets_any _ _ _ _ w6 H1.out H2.out)
  rw [decide_eq_true (rfl : mrgL a b = mrgL a b)] at HEQ
  generalize mrgE a b = E at *
  go_wp2_with fail
  refine HEQ.out.mono ?_
  rintro e w7 ⟨rfl, hb7⟩
  have HB7 := hid (bstep HB6.out HB6.out.size hb7)
  have HC7 := hid hb7
  clear hb7
  go_wp2_with fail
  refine (valid_any _ a w7 (HA.out _ HB7.out).1 (HA.out _ HB7.out).2).mono ?_
  rintro e w8 ⟨rfl, hb8⟩
  have HB8 := hid (bstep HB7.out HB7.out.size hb8)
  have HC8 := hid (bstep HC7.out HC7.out.size hb8)
  clear hb8
  generalize hq : bskQ a = qa
  go_wp2_with fail
  refine (xvalid_any _ a w8 (HA.out _ HB8.out).1 (HA.out _ HB8.out).2).mono ?_
  rintro e w9 ⟨rfl, hb9⟩
  rw [hq]
  have HB9 := hid (bstep HB8.out HB8.out.size hb9)
  have HC9 := hid (bstep HC8.out HC8.out.size hb9)
  clear hb9 hq
  have HE2 := hid (baskets_any _ _ _ _ w9 (H1.out.keep HC9.out) (HU3.out _ HC9.out))
  rw [decide_eq_true (rfl : mrgL a b = mrgL a b)] at HE2
  have hqq : (qa == qa) = true := by simp
  go_wp2_with fail
  refine HE2.out.mono ?_
  rintro e w10 ⟨rfl, hb10⟩
  have HB10 := hid (bstep HB9.out HB9.out.size hb10)
  clear hb10
  go_wp2
  go_ret
  exact ⟨ret_bool (by simp), HB10.out⟩
end Go.Proofs.Ytikjgbfbbkmmcaa
