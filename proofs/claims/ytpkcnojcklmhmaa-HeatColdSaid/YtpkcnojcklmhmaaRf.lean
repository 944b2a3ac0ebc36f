/- Walk of Until of the reference: contract. -/
import Derived.Test.YtpkcnojcklmhmaaRd
import Derived.Test.YtpkcnojcklmhmaaQq
namespace Go.Proofs.Ytpkcnojcklmhmaa
open Go.RowKit

theorem R2.set2 {w W : World} {A : Array Value} {u0 v0 u v : Value} (h : R2 w W A #[u0, v0]) : R2 w ((W.setCell ⟨w.heap.size + 1, 0, none⟩ u).setCell ⟨w.heap.size + 1, 1, none⟩ v) A #[u, v] := by
  have h1 := heap_setCell_same W (w.heap.size + 1) 0 _ _ u h.res
  have h2 := heap_setCell_same _ (w.heap.size + 1) 1 _ _ v h1
  refine ⟨?_, h2, (h.low.setCell (p := ⟨w.heap.size + 1, 0, none⟩) (Nat.le_succ _) u).setCell (p := ⟨w.heap.size + 1, 1, none⟩) (Nat.le_succ _) v⟩
  rw [heap_setCell_other _ _ _ _ (show w.heap.size ≠ w.heap.size + 1 by omega), heap_setCell_other _ _ _ _ (show w.heap.size ≠ w.heap.size + 1 by omega)]
  exact h.can
/-- What is read as ints does not lie in a box of a slice and a Bool. -/
theorem rowI_by {W : World} {g n c : Nat} {a : Option Addr} {br : Bool} {t : TypeId} {u : Value} {l : List Int} {x y : Value} (h : RowI W u l) (hB : W.heap[g]? = some (.cells #[.slice a n c, .bool br] t (0, 0))) : RowI ((W.setCell ⟨g, 0, none⟩ x).setCell ⟨g, 1, none⟩ y) u l := by
  rcases h with h | ⟨b, o, cap, hv, hm, hc⟩
  · exact .inl h
  · refine .inr ⟨b, o, cap, hv, hm, fun k hk => ?_⟩
    have hck := hc k hk
    by_cases e : b = g
    · subst e
      have := cell_of_row W b (o + k) _ _ _ hB
      rw [this] at hck
      exfalso
      match hj : o + k with
      | 0 => rw [hj] at hck; simp at hck
      | 1 => rw [hj] at hck; simp at hck
      | j + 2 => rw [hj] at hck; simp at hck
    · rw [← hck]
      exact World.cell?_of_block (a := ⟨b, o + k, none⟩) (by rw [heap_setCell_other _ _ _ _ e, heap_setCell_other _ _ _ _ e])
theorem R2.nine {w W : World} {c0 c1 c2 c3 c4 c5 c6 d0 d1 : Value} (h : R2 w W #[c0, c1, c2, c3, c4, c5, c6] #[d0, d1]) :
    W.cell? ⟨w.heap.size, 0, none⟩ = some c0 ∧ W.cell? ⟨w.heap.size, 1, none⟩ = some c1 ∧ W.cell? ⟨w.heap.size, 2, none⟩ = some c2 ∧ W.cell? ⟨w.heap.size, 3, none⟩ = some c3 ∧ W.cell? ⟨w.heap.size, 4, none⟩ = some c4 ∧ W.cell? ⟨w.heap.size, 5, none⟩ = some c5 ∧ W.cell? ⟨w.heap.size, 6, none⟩ = some c6 ∧
    W.cell? ⟨w.heap.size + 1, 0, none⟩ = some d0 ∧ W.cell? ⟨w.heap.size + 1, 1, none⟩ = some d1 ∧ W.frozen? ⟨w.heap.size + 1, 0, none⟩ = false ∧ W.frozen? ⟨w.heap.size + 1, 1, none⟩ = false :=
  ⟨cell_of_row _ _ 0 _ _ _ h.can, cell_of_row _ _ 1 _ _ _ h.can, cell_of_row _ _ 2 _ _ _ h.can, cell_of_row _ _ 3 _ _ _ h.can, cell_of_row _ _ 4 _ _ _ h.can, cell_of_row _ _ 5 _ _ _ h.can, cell_of_row _ _ 6 _ _ _ h.can, cell_of_row _ _ 0 _ _ _ h.res, cell_of_row _ _ 1 _ _ _ h.res, frozen_of_row _ _ 0 _ _ h.res, frozen_of_row _ _ 1 _ _ h.res⟩
/-- Two numbers come back. -/
def PairU (O : Int × Int) (w : World) (e : Ending) (w' : World) : Prop := e = .returned (.tuple #[.int .i64 O.1, .int .i64 O.2]) ∧ Below w.heap.size w w'
set_option maxRecDepth 100000 in
set_option maxHeartbeats 4000000 in
theorem runtil_ok (c : Cn) (x : Bd) (v : Value) (bath t : Int) (w : World) (hcv : c.V) (hbb : bothB c.R c.L c.A c.B c.K c.A2 c.B2 x.1 x.2 = true) (ho : (okT bath && okT t) = true) (hl : RowI w v x.1) :
    Calls Try.prog 26 #[.agg #[.int .i64 (c.R : Int), .int .i64 (c.L : Int), .int .i64 c.A, .int .i64 c.B, .int .i64 c.K, .int .i64 c.A2, .int .i64 c.B2], .agg #[v, .bool x.2], .int .i64 bath, .int .i64 t] w (PairU (untV c x bath t) w) := by
  have HL := hid (fun w1 (g : Below w.heap.size w w1) => hl.keep g)
  obtain ⟨h1, _, h3⟩ := bodyV_iff.1 (by rw [← bothB_cn c hcv]; exact hbb)
  have hp := hcv.ok.p
  rw [Bool.and_eq_true] at ho
  have hb1 : -50000 ≤ bath ∧ bath ≤ 200000 := by simpa [okT] using ho.1
  have HW1 := hid (show (decide (-50000 ≤ bath) && decide (bath ≤ 200000)) = true from ho.1)
  have HW2 := hid (show (decide (-50000 ≤ t) && decide (t ≤ 200000)) = true from ho.2)
  have HX := hid (show Warm c x from ⟨h1, okL_bd h3⟩)
  have HOK := hid hcv.ok
  have HBB := hid hbb
  obtain ⟨a0, cap, rfl⟩ := hl.shape
  have HS := hid (r2_start (w := w) (A := #[.int .i64 (c.R : Int), .int .i64 (c.L : Int), .int .i64 c.A, .int .i64 c.B, .int .i64 c.K, .int .i64 c.A2, .int .i64 c.B2]) (R := #[.slice a0 x.1.length cap, .bool x.2]))
  have HB := hid hb1
  obtain ⟨q, hq⟩ : ∃ q, q = x.1.length := ⟨_, rfl⟩
  have hq0 : 0 < q := by omega
  have HLQ := hid (fun n => show (stepN c x bath n).1.length = q from (stepN_warm HOK.out HX.out hb1.1 hb1.2 n).len.trans (by rw [hq]; exact HX.out.len.symm))
  rw [← hq] at HL HS ⊢
  clear hl hcv hbb ho h1 h3 hp hb1 hq
  go_enter Try.func26, Try.ntmps26
  go_wp2_with fail
  refine (rvboth_any _ _ _ _ _ _ _ _ _ x.1 _ (HL.out _ HS.out.low)).mono ?_
  rintro e w1 ⟨rfl, hb⟩
  rw [HBB.out]
  have H1 := hid (HS.out.keep hb)
  clear hb HS
  go_wp2_with (go_at_call 63; refine (warm_any _ _).mono ?_; rintro e w' ⟨rfl, rfl⟩; first | rw [HW1.out] | rw [HW2.out])
  go_loopw [10] (fun i wr => ∃ n : Nat, n ≤ 2001 ∧ i = .int .i64 (n : Int) ∧ Hid (∀ m, m < n → ¬ t ≤ coldN c x bath m) ∧ ∃ (ua : Option Addr) (uc : Nat), Hid (R2 w wr #[.int .i64 (c.R : Int), .int .i64 (c.L : Int), .int .i64 c.A, .int .i64 c.B, .int .i64 c.K, .int .i64 c.A2, .int .i64 c.B2] #[.slice ua q uc, .bool (stepN c x bath n).2]) ∧ Hid (RowI wr (.slice ua q uc) (stepN c x bath n).1)) (fun i _ => 2001 - (intOf i).toNat)
  case atStart => exact ⟨0, by omega, rfl, hid (fun m h => by omega), a0, cap, hid (H1.out), hid (HL.out _ H1.out.low)⟩
  case round =>
    obtain ⟨n, hn, rfl, HM, ua, uc, HR, HI⟩ := hrel
    clear H1
    by_cases hlt : n < 2001
    · have hlt' : (n : Int) ≤ 2000 := by omega
      have HWM := hid (stepN_warm HOK.out HX.out HB.out.1 HB.out.2 n)
      have hq2 := HLQ.out n
      have HSC := hid (stepN_succ c x bath n)
      have HCO := hid (show minT (stepN c x bath n).1 = coldN c x bath n from rfl)
      obtain ⟨y, hy⟩ : ∃ y, y = stepN c x bath n := ⟨_, rfl⟩
      rw [← hy] at HR HI HWM hq2 HSC HCO
      have HQ2 := hid hq2
      have HLE := hid (least_any wr (.slice ua q uc) y.1 y.2 HI.out (by rw [hq2]; exact hq0))
      obtain ⟨mn, hmn⟩ : ∃ m, m = minT y.1 := ⟨_, rfl⟩
      rw [← hmn] at HCO
      unfold minT at hmn
      obtain ⟨bp, hbp⟩ : ∃ b, b = (bestT ltB y.1 y.1.length).1 := ⟨_, rfl⟩
      rw [← hmn, ← hbp] at HLE
      obtain ⟨yb, hyb⟩ : ∃ b, b = y.2 := ⟨_, rfl⟩
      rw [← hyb] at HLE HR
      obtain ⟨k0, k1, k2, k3, k4, k5, k6, k7, k8, k9, k10⟩ := HR.out.nine
      have HYB := hid hyb
      have HY := hid hy
      clear hmn hbp hyb hy hq2
      by_cases ht : t ≤ mn
      · have HV := hid (untV_at (n := n) (by omega) (by rw [← HCO.out]; exact ht) HM.out)
        go_wp2_with (go_at_call 55; refine HLE.out.mono ?_; rintro e w5 ⟨rfl, hb⟩; have HR5 := hid (HR.out.keep hb); clear hb)
        go_ret2
        exact ⟨by rw [HV.out]; rfl, HR5.out.low⟩
      · have HM2 := hid (show ∀ m, m < n + 1 → ¬ t ≤ coldN c x bath m from fun m hm => by
          by_cases e : m = n
          · subst e; rw [← HCO.out]; exact ht
          · exact HM.out m (by omega))
        go_wp2_with (first
          | (go_at_call 55; refine HLE.out.mono ?_; rintro e w5 ⟨rfl, hb⟩; have HR5 := hid (HR.out.keep hb); have HI5 := hid (HI.out.keep hb); clear hb k0 k1 k2 k3 k4 k5 k6 k7 k8 k9 k10; obtain ⟨k0, k1, k2, k3, k4, k5, k6, k7, k8, k9, k10⟩ := HR5.out.nine)
          | (go_at_call 46; refine (rafter_any c (.slice ua q uc) y.1 yb bath _ HOK.out (by rw [HYB.out]; exact HWM.out) HB.out.1 HB.out.2 HI5.out).mono ?_; rintro e w6 ⟨va, vc, rfl, hri, hb⟩; have HR6 := hid (HR5.out.keep hb); rw [HQ2.out] at hri ⊢; have HI6 := hid hri; clear hb hri k0 k1 k2 k3 k4 k5 k6 k7 k8 k9 k10; obtain ⟨k0, k1, k2, k3, k4, k5, k6, k7, k8, k9, k10⟩ := HR6.out.nine))
        go_roundw
        case rel =>
          refine ⟨n + 1, by omega, by go_num, hid (fun m hm => by have := HM2.out m hm; omega), va, vc, hid ?_, hid ?_⟩
          · rw [HSC.out]
            have e : tickS c (y.1, yb) bath = tickS c y bath := by rw [HYB.out]
            rw [← e]
            exact HR6.out.set2
          · rw [HSC.out]
            have e : tickS c (y.1, yb) bath = tickS c y bath := by rw [HYB.out]
            rw [← e]
            exact rowI_by HI6.out HR6.out.res
        case measure => simp [intOf]; omega
    · obtain rfl : n = 2001 := by omega
      have HV := hid (untV_none HM.out)
      go_wp2_with fail
      go_ret2
      exact ⟨by rw [HV.out]; rfl, HR.out.low⟩
set_option maxRecDepth 100000 in
set_option maxHeartbeats 4000000 in
theorem runtil_all (r l a b k a2 b2 : Int) (w : World) (v : Value) (T : List Int) (br : Bool) (bath t : Int) (hl : RowI w v T) :
    Calls Try.prog 26 #[.agg #[.int .i64 r, .int .i64 l, .int .i64 a, .int .i64 b, .int .i64 k, .int .i64 a2, .int .i64 b2], .agg #[v, .bool br], .int .i64 bath, .int .i64 t] w (PairU (untO r l a b k a2 b2 (T, br) bath t) w) := by
  have HL := hid (fun w1 (g : Below w.heap.size w w1) => hl.keep g)
  cases hbb : bothB r l a b k a2 b2 T br
  · rw [untO_can (x := (T, br)) hbb]
    obtain ⟨a0, cap, rfl⟩ := hl.shape
    clear hl
    have HS := hid (r2_start (w := w) (A := #[.int .i64 r, .int .i64 l, .int .i64 a, .int .i64 b, .int .i64 k, .int .i64 a2, .int .i64 b2]) (R := #[.slice a0 T.length cap, .bool br]))
    go_enter Try.func26, Try.ntmps26
    go_wp2_with fail
    refine (rvboth_any _ _ _ _ _ _ _ _ _ T _ (HL.out _ HS.out.low)).mono ?_
    rintro e w1 ⟨rfl, hb⟩
    rw [hbb]
    have H1 := hid (HS.out.keep hb)
    clear hb
    go_wp2_with fail
    go_ret2
    exact ⟨rfl, H1.out.low⟩
  cases ho : (okT bath && okT t)
  · rw [untO_far (x := (T, br)) hbb ho]
    obtain ⟨a0, cap, rfl⟩ := hl.shape
    clear hl
    have HS := hid (r2_start (w := w) (A := #[.int .i64 r, .int .i64 l, .int .i64 a, .int .i64 b, .int .i64 k, .int .i64 a2, .int .i64 b2]) (R := #[.slice a0 T.length cap, .bool br]))
    cases h1 : okT bath
    · have HW1 := hid (show (decide (-50000 ≤ bath) && decide (bath ≤ 200000)) = false from h1)
      clear ho h1
      go_enter Try.func26, Try.ntmps26
      go_wp2_with fail
      refine (rvboth_any _ _ _ _ _ _ _ _ _ T _ (HL.out _ HS.out.low)).mono ?_
      rintro e w1 ⟨rfl, hb⟩
      rw [hbb]
      have H1 := hid (HS.out.keep hb)
      clear hb
      go_wp2_with (go_at_call 63; refine (warm_any _ _).mono ?_; rintro e w' ⟨rfl, rfl⟩; rw [HW1.out])
      go_ret2
      exact ⟨rfl, H1.out.low⟩
    · have HW1 := hid (show (decide (-50000 ≤ bath) && decide (bath ≤ 200000)) = true from h1)
      have HW2 := hid (show (decide (-50000 ≤ t) && decide (t ≤ 200000)) = false from by rw [h1, Bool.true_and] at ho; exact ho)
      clear ho h1
      go_enter Try.func26, Try.ntmps26
      go_wp2_with fail
      refine (rvboth_any _ _ _ _ _ _ _ _ _ T _ (HL.out _ HS.out.low)).mono ?_
      rintro e w1 ⟨rfl, hb⟩
      rw [hbb]
      have H1 := hid (HS.out.keep hb)
      clear hb
      go_wp2_with (go_at_call 63; refine (warm_any _ _).mono ?_; rintro e w' ⟨rfl, rfl⟩; first | rw [HW1.out] | rw [HW2.out])
      go_ret2
      exact ⟨rfl, H1.out.low⟩
  · obtain ⟨c, hcv, ⟨rfl, rfl, rfl, rfl, rfl, rfl, rfl⟩, hbv, hwm⟩ := both_open hbb
    rw [untO_ok (x := (T, br)) hbb ho]
    exact runtil_ok c (T, br) v bath t w hcv hbb ho hl
end Go.Proofs.Ytpkcnojcklmhmaa
