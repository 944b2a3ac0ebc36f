/- Walk of Proved: contract. -/
import Derived.Test.YtedfajokiblfhaaGreatPdp
namespace Go.Proofs.YtedfajokiblfhaaGreat
open Go.RowKit Go.Lib

/-- A can is sterile with n ticks of a cook. -/
def sterP (r l a b k a2 b2 : Int) (q : Kl) (t bath cold cooling n : Int) : Bool := cookB bath n cold cooling && sterO q (lowO (sumsO r l a b k a2 b2 q t (cookL bath n cold cooling))) (chk4 (canB r l a b k a2 b2) q.vB t (cookL bath n cold cooling))
def provO (T : Int → Bool) (n : Int) : Bool := T n && (decide (n = 0) || !T (n - 1))
theorem sterP_range {r l a b k a2 b2 : Int} {q : Kl} {t bath cold cooling n : Int} (h : sterP r l a b k a2 b2 q t bath cold cooling n = true) : 0 ≤ n ∧ n ≤ 2000 := by
  unfold sterP cookB at h
  rw [Bool.and_eq_true, Bool.and_eq_true] at h
  obtain ⟨h1, h2, h3⟩ := ticksB_two.1 h.1.2
  omega
set_option maxRecDepth 20000 in
set_option maxHeartbeats 4000000 in
theorem pst_any (r l a b k a2 b2 : Int) (q : Kl) (t bath cold cooling n : Int) (n0 : Nat) (w : World) (hs : q.s.size ≤ maxLen) (hB : LsB r l a b k a2 b2 q t bath cold cooling n0 w) :
    Calls Tryz.prog 56 #[.int .i64 n, .pointer (some ⟨n0 + 1 + 1 + 1, 0, none⟩), .pointer (some ⟨n0 + 1 + 1 + 1 + 1, 0, none⟩), .pointer (some ⟨n0 + 1 + 1 + 1 + 1 + 1, 0, none⟩), .pointer (some ⟨n0, 0, none⟩), .pointer (some ⟨n0 + 1, 0, none⟩), .pointer (some ⟨n0 + 1 + 1, 0, none⟩)] w
      fun e w' => e = .returned (.bool (sterP r l a b k a2 b2 q t bath cold cooling n)) ∧ Below w.heap.size w w' := by
  have HC := hid (fun W => cook_any bath n cold cooling W)
  have HLE := hid (fun (W : World) (v : Value) (h : RowI W v (cookL bath n cold cooling)) => ster_any r l a b k a2 b2 W q t v (cookL bath n cold cooling) hs h (by have := cookL_len bath n cold cooling; unfold maxLen; omega))
  have HBB := hid hB
  have b0 := cell_of_row _ _ 0 _ _ _ hB.bat
  have c0 := cell_of_row _ _ 0 _ _ _ hB.col
  have o0 := cell_of_row _ _ 0 _ _ _ hB.coo
  simp only [List.getElem?_toArray, List.getElem?_cons_zero] at b0 c0 o0
  unfold sterP
  generalize sterO q (lowO (sumsO r l a b k a2 b2 q t (cookL bath n cold cooling))) (chk4 (canB r l a b k a2 b2) q.vB t (cookL bath n cold cooling)) = so at *
  generalize chk4 (canB r l a b k a2 b2) q.vB t (cookL bath n cold cooling) = ce at *
  clear hs hB
  go_enter Tryz.func56, Tryz.ntmps56
  go_wp2_with fail
  refine (HC.out _).mono ?_
  rintro e w1 ⟨v, rfl, hr, hb⟩
  have HB1 := hid (HBB.out.keep hb)
  have HR := hid hr
  have HW := hid hb
  clear hr hb b0 c0 o0
  have x0 := cell_of_row _ _ 0 _ _ _ HB1.out.can
  have x1 := cell_of_row _ _ 1 _ _ _ HB1.out.can
  have x2 := cell_of_row _ _ 2 _ _ _ HB1.out.can
  have x3 := cell_of_row _ _ 3 _ _ _ HB1.out.can
  have x4 := cell_of_row _ _ 4 _ _ _ HB1.out.can
  have x5 := cell_of_row _ _ 5 _ _ _ HB1.out.can
  have x6 := cell_of_row _ _ 6 _ _ _ HB1.out.can
  have y0 := cell_of_row _ _ 0 _ _ _ HB1.out.kil
  have y1 := cell_of_row _ _ 1 _ _ _ HB1.out.kil
  have y2 := cell_of_row _ _ 2 _ _ _ HB1.out.kil
  have y3 := cell_of_row _ _ 3 _ _ _ HB1.out.kil
  have y4 := cell_of_row _ _ 4 _ _ _ HB1.out.kil
  have i0 := cell_of_row _ _ 0 _ _ _ HB1.out.ini
  simp only [List.getElem?_toArray, List.getElem?_cons_zero, List.getElem?_cons_succ] at x0 x1 x2 x3 x4 x5 x6 y0 y1 y2 y3 y4 i0
  cases hck : cookB bath n cold cooling
  · go_wp2_with fail
    refine bodyPost_ret (v := .bool false) (by simp [results, Tryz.results56, go_sem]) rfl ⟨by rw [hck]; rfl, HW.out⟩
  · go_wp2_with fail
    refine (HLE.out _ _ HR.out).mono ?_
    rintro e w2 ⟨rfl, hb2⟩
    have HW2 := hid (bstep HW.out HW.out.size hb2)
    clear hb2 x0 x1 x2 x3 x4 x5 x6 y0 y1 y2 y3 y4 i0
    go_wp2_with fail
    refine bodyPost_ret (v := .bool so) (by simp [results, Tryz.results56, go_sem]) rfl ⟨by rw [hck]; simp, HW2.out⟩
set_option maxRecDepth 20000 in
set_option maxHeartbeats 4000000 in
theorem proved_any (r l a b k a2 b2 : Int) (w : World) (q : Kl) (t bath cold cooling n : Int) (hs : q.s.size ≤ maxLen) :
    Calls Tryz.prog 25 #[.agg #[.int .i64 r, .int .i64 l, .int .i64 a, .int .i64 b, .int .i64 k, .int .i64 a2, .int .i64 b2], .agg #[.string q.s, .int .i64 q.r, .int .i64 q.z, .int .i64 q.d, .int .i64 q.g], .int .i64 t, .int .i64 bath, .int .i64 cold, .int .i64 cooling, .int .i64 n] w fun e w' => e = .returned (.bool (provO (sterP r l a b k a2 b2 q t bath cold cooling) n)) ∧ Below w.heap.size w w' := by
  have HB := hid (lsB_start r l a b k a2 b2 q t bath cold cooling w)
  have HWF := hid (fun (n : Int) (W : World) (h : LsB r l a b k a2 b2 q t bath cold cooling w.heap.size W) => pst_any r l a b k a2 b2 q t bath cold cooling n w.heap.size W hs h)
  have HRG := hid (fun n h => sterP_range (r := r) (l := l) (a := a) (b := b) (k := k) (a2 := a2) (b2 := b2) (q := q) (t := t) (bath := bath) (cold := cold) (cooling := cooling) (n := n) h)
  generalize sterP r l a b k a2 b2 q t bath cold cooling = T at *
  have heq := enter_at Tryz.func56 (by kernel_rfl) (by kernel_rfl)
  clear hs
  go_enter Tryz.func25, Tryz.ntmps25
  go_wp2_with fail
  refine (HWF.out _ _ HB.out.1).mono ?_
  rintro e w1 ⟨rfl, hb⟩
  have HL1 := hid (HB.out.2.trans (hb.mono HB.out.2.size))
  have HB1 := hid (HB.out.1.keep hb)
  clear hb HB
  cases h1 : T n
  · have HE := hid (show provO T n = false by unfold provO; rw [h1]; rfl)
    go_wp2_with fail
    refine bodyPost_ret (v := .bool false) (by simp [results, Tryz.results25, go_sem]) rfl ⟨by rw [HE.out], HL1.out⟩
  by_cases h0 : n = 0
  · have HE := hid (show provO T n = true by unfold provO; rw [h1, decide_eq_true h0]; rfl)
    subst h0
    go_wp2_with fail
    refine bodyPost_ret (v := .bool true) (by simp [results, Tryz.results25, go_sem]) rfl ⟨by rw [HE.out], HL1.out⟩
  · have HE := hid (show provO T n = !T (n - 1) by unfold provO; rw [h1, decide_eq_false h0]; rfl)
    obtain ⟨g1, g2⟩ := HRG.out n h1
    go_wp2_with fail
    refine (HWF.out _ _ HB1.out).mono ?_
    rintro e w2 ⟨rfl, hb⟩
    have HL2 := hid (bstep HL1.out HL1.out.size hb)
    clear hb
    go_wp2_with fail
    refine bodyPost_ret (v := .bool (!T (n - 1))) (by simp [results, Tryz.results25, go_sem, h0]) rfl ⟨by rw [HE.out], HL2.out⟩
end Go.Proofs.YtedfajokiblfhaaGreat
