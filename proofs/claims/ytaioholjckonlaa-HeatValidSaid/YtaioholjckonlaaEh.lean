/- Walk of HeatEven. -/
import Derived.Test.YtaioholjckonlaaEg
import Derived.Test.YtaioholjckonlaaEc
namespace Go.Proofs.Ytaioholjckonlaa
open Go.RowKit

theorem even_all (r l a b k a2 b2 : Int) (w : World) (t : Int) : Calls Try.prog 17 #[.agg #[.int .i64 r, .int .i64 l, .int .i64 a, .int .i64 b, .int .i64 k, .int .i64 a2, .int .i64 b2], .int .i64 t] w (OutB (evenO r l a b k a2 b2 t) w) := by
  by_cases hn : canB r l a b k a2 b2 = false ∨ okT t = false
  · exact even_no _ _ _ _ _ _ _ _ t hn
  · have hc : canB r l a b k a2 b2 = true := by cases h : canB r l a b k a2 b2 <;> simp_all
    have ho : okT t = true := by cases h : okT t <;> simp_all
    obtain ⟨c, hcv, rfl, rfl, rfl, rfl, rfl, rfl, rfl⟩ := canB_cn hc
    by_cases hk : 0 < c.K
    · exact even_yes c t w hcv ho hk
    · exact even_zero c t w hcv ho (by simpa using hk)

theorem runO_valid {c : Cn} {x : Bd} {p : List Int} (hv : c.V) (hb : bodyV c x.1 x.2 = true) (ho : okL p = true) (hl : p.length ≤ 2000) : runO c.R c.L c.A c.B c.K c.A2 c.B2 x p = (runS c x p, 0) := by
  have h : chkE (bothB c.R c.L c.A c.B c.K c.A2 c.B2 x.1 x.2) p = 0 := by rw [bothB_cn c hv]; rw [show bodyV c x.1 x.2 = true from hb]; exact chkE_ok ho (by omega)
  rw [runO_ok h, cnOf_cn]
theorem okL_one {t : Int} (h : okT t = true) : okL [t] = true := by simp [okL, h]
/-- The boxes of HeatEven: the can's, and at n7 and n9 the two bodies'. -/
structure EvB (w W : World) (n7 n9 : Nat) (A X Y : Array Value) : Prop where
  can : W.heap[w.heap.size]? = some (.cells A 23 (0, 0))
  x : W.heap[n7]? = some (.cells X 26 (0, 0))
  y : W.heap[n9]? = some (.cells Y 26 (0, 0))
  h7 : w.heap.size < n7
  h9 : n7 < n9
  low : Below w.heap.size w W
theorem EvB.keep {w W W2 : World} {n7 n9 : Nat} {A X Y : Array Value} (h : EvB w W n7 n9 A X Y) (hb : Below W.heap.size W W2) : EvB w W2 n7 n9 A X Y :=
  ⟨(hb.block _ (lt_of_block h.can)).trans h.can, (hb.block _ (lt_of_block h.x)).trans h.x, (hb.block _ (lt_of_block h.y)).trans h.y, h.h7, h.h9, bstep h.low h.low.size hb⟩
theorem EvB.facts {w W : World} {n7 n9 : Nat} {c0 c1 c2 c3 c4 c5 c6 d0 d1 e0 e1 : Value} (h : EvB w W n7 n9 #[c0, c1, c2, c3, c4, c5, c6] #[d0, d1] #[e0, e1]) :
    W.cell? ⟨w.heap.size, 0, none⟩ = some c0 ∧ W.cell? ⟨w.heap.size, 1, none⟩ = some c1 ∧ W.cell? ⟨w.heap.size, 2, none⟩ = some c2 ∧ W.cell? ⟨w.heap.size, 3, none⟩ = some c3 ∧ W.cell? ⟨w.heap.size, 4, none⟩ = some c4 ∧ W.cell? ⟨w.heap.size, 5, none⟩ = some c5 ∧ W.cell? ⟨w.heap.size, 6, none⟩ = some c6 ∧
    W.cell? ⟨n7, 0, none⟩ = some d0 ∧ W.cell? ⟨n7, 1, none⟩ = some d1 ∧ W.frozen? ⟨n7, 0, none⟩ = false ∧ W.frozen? ⟨n7, 1, none⟩ = false ∧
    W.cell? ⟨n9, 0, none⟩ = some e0 ∧ W.cell? ⟨n9, 1, none⟩ = some e1 ∧ W.frozen? ⟨n9, 0, none⟩ = false ∧ W.frozen? ⟨n9, 1, none⟩ = false ∧ n9 < W.heap.size :=
  ⟨cell_of_row _ _ 0 _ _ _ h.can, cell_of_row _ _ 1 _ _ _ h.can, cell_of_row _ _ 2 _ _ _ h.can, cell_of_row _ _ 3 _ _ _ h.can, cell_of_row _ _ 4 _ _ _ h.can, cell_of_row _ _ 5 _ _ _ h.can, cell_of_row _ _ 6 _ _ _ h.can,
    cell_of_row _ _ 0 _ _ _ h.x, cell_of_row _ _ 1 _ _ _ h.x, frozen_of_row _ _ 0 _ _ h.x, frozen_of_row _ _ 1 _ _ h.x, cell_of_row _ _ 0 _ _ _ h.y, cell_of_row _ _ 1 _ _ _ h.y, frozen_of_row _ _ 0 _ _ h.y, frozen_of_row _ _ 1 _ _ h.y, lt_of_block h.y⟩
theorem EvB.setY {w W : World} {n7 n9 : Nat} {A X : Array Value} {e0 e1 u v : Value} (h : EvB w W n7 n9 A X #[e0, e1]) : EvB w ((W.setCell ⟨n9, 0, none⟩ u).setCell ⟨n9, 1, none⟩ v) n7 n9 A X #[u, v] := by
  have h7 := h.h7; have h9 := h.h9
  have h1 := heap_setCell_same W n9 0 _ _ u h.y
  have h2 := heap_setCell_same _ n9 1 _ _ v h1
  exact ⟨(heap_setCell_other _ _ _ _ (show w.heap.size ≠ n9 by omega)).trans ((heap_setCell_other _ _ _ _ (show w.heap.size ≠ n9 by omega)).trans h.can), (heap_setCell_other _ _ _ _ (show n7 ≠ n9 by omega)).trans ((heap_setCell_other _ _ _ _ (show n7 ≠ n9 by omega)).trans h.x), h2, h7, h9,
    (h.low.setCell (p := ⟨n9, 0, none⟩) (by show w.heap.size ≤ n9; omega) u).setCell (p := ⟨n9, 1, none⟩) (by show w.heap.size ≤ n9; omega) v⟩
theorem EvB.setX {w W : World} {n7 n9 : Nat} {A Y : Array Value} {e0 e1 u v : Value} (h : EvB w W n7 n9 A #[e0, e1] Y) : EvB w ((W.setCell ⟨n7, 0, none⟩ u).setCell ⟨n7, 1, none⟩ v) n7 n9 A #[u, v] Y := by
  have h7 := h.h7; have h9 := h.h9
  have h1 := heap_setCell_same W n7 0 _ _ u h.x
  have h2 := heap_setCell_same _ n7 1 _ _ v h1
  exact ⟨(heap_setCell_other _ _ _ _ (show w.heap.size ≠ n7 by omega)).trans ((heap_setCell_other _ _ _ _ (show w.heap.size ≠ n7 by omega)).trans h.can), h2, (heap_setCell_other _ _ _ _ (show n9 ≠ n7 by omega)).trans ((heap_setCell_other _ _ _ _ (show n9 ≠ n7 by omega)).trans h.y), h7, h9,
    (h.low.setCell (p := ⟨n7, 0, none⟩) (by show w.heap.size ≤ n7; omega) u).setCell (p := ⟨n7, 1, none⟩) (by show w.heap.size ≤ n7; omega) v⟩
/-- A row of ints is none of the bodies' boxes. -/
theorem rowI_box {W : World} {n : Nat} {l : List Int} {z u v q : Value} {a : Option Addr} {m c : Nat} {b : Bool} (h : W.heap[n]? = some (.cells #[.slice a m c, .bool b] 26 (0, 0))) (hr : RowI W z l) : RowI ((W.setCell ⟨n, 0, none⟩ u).setCell ⟨n, 1, none⟩ v) z l := by
  rcases hr with hr | ⟨b', o, cap, hz, hm, hc⟩
  · exact .inl hr
  · refine .inr ⟨b', o, cap, hz, hm, fun k hk => ?_⟩
    have hne : b' ≠ n := by
      rintro rfl
      have h1 := hc k hk
      rw [cell_of_row W _ (o + k) _ _ _ h] at h1
      match o + k, h1 with
      | 0, h1 => simp at h1
      | 1, h1 => simp at h1
      | j + 2, h1 => simp at h1
    rw [← hc k hk]
    exact World.cell?_of_block (a := ⟨b', o + k, none⟩) (by rw [heap_setCell_other _ _ _ _ hne, heap_setCell_other _ _ _ _ hne])

set_option maxRecDepth 100000 in
set_option maxHeartbeats 2000000 in
theorem even_walk (r l a b k a2 b2 t bath : Int) (w : World) (ht : (Lit.int .i64 t).wf = true) (hbt : (Lit.int .i64 bath).wf = true) :
    Calls Try.prog 12 #[.agg #[.int .i64 r, .int .i64 l, .int .i64 a, .int .i64 b, .int .i64 k, .int .i64 a2, .int .i64 b2], .int .i64 t, .int .i64 bath] w fun e w' => e = .returned (.bool true) ∧ Below w.heap.size w w' := by
  have HX := hid (box1_start (w := w) (A := #[.int .i64 r, .int .i64 l, .int .i64 a, .int .i64 b, .int .i64 k, .int .i64 a2, .int .i64 b2]) (T := 23) (fz := (0, 0)))
  clear ht hbt
  by_cases hn : (evenO r l a b k a2 b2 t).2 = 0
  case neg =>
    obtain ⟨O, hO⟩ : ∃ O, O = evenO r l a b k a2 b2 t := ⟨_, rfl⟩
    have HE : Hid (∀ w1, Calls Try.prog 17 #[.agg #[.int .i64 r, .int .i64 l, .int .i64 a, .int .i64 b, .int .i64 k, .int .i64 a2, .int .i64 b2], .int .i64 t] w1 (OutB O w1)) := fun w1 => by rw [hO]; exact even_all _ _ _ _ _ _ _ _ t
    rw [← hO] at hn
    have hc1 : (O.2 != 0) = true := by simpa using hn
    clear hn hO
    go_enter Try.func12, Try.ntmps12
    go_wp2_with fail
    refine (HE.out _).mono ?_
    rintro e w4 ⟨ua, uc, rfl, hr4, hb⟩
    have HX := hid (HX.out.keep hb)
    go_wp2_with fail
    obtain ⟨hb, z0, z1⟩ := laid2 (w2 := w4) (d0 := .slice ua O.1.1.length uc) (d1 := .bool O.1.2) (T := 26) rfl
    have HX := hid (HX.out.keep hb)
    refine (awake_any _).mono ?_
    rintro e w11 ⟨rfl, hb⟩
    have HX := hid (HX.out.keep hb)
    go_wp2_with fail
    go_ret
    exact ⟨rfl, HX.out.low⟩
  have hc : canB r l a b k a2 b2 = true := by cases h : canB r l a b k a2 b2 with | true => rfl | false => rw [evenO_can h] at hn; simp at hn
  have ho : okT t = true := by cases h : okT t with | true => rfl | false => rw [evenO_far hc h] at hn; simp at hn
  clear hn
  obtain ⟨c, hcv, rfl, rfl, rfl, rfl, rfl, rfl, rfl⟩ := canB_cn hc
  have hob := evB_valid (c := c) ho
  have HE : Hid (∀ w1, Calls Try.prog 17 #[.agg #[.int .i64 (c.R : Int), .int .i64 (c.L : Int), .int .i64 c.A, .int .i64 c.B, .int .i64 c.K, .int .i64 c.A2, .int .i64 c.B2], .int .i64 t] w1 (OutB (evB c t, 0) w1)) := fun w1 => by
    have := even_all c.R c.L c.A c.B c.K c.A2 c.B2 w1 t
    rw [evenO_ok hcv ho] at this
    exact this
  have HS1 : Hid (∀ w1 z, RowI w1 z (evB c t).1 → Calls Try.prog 28 #[.agg #[.int .i64 (c.R : Int), .int .i64 (c.L : Int), .int .i64 c.A, .int .i64 c.B, .int .i64 c.K, .int .i64 c.A2, .int .i64 c.B2], .agg #[z, .bool (evB c t).2], .int .i64 t] w1 (OutB (evB c t, 0) w1)) := fun w1 z g => by
    have := step_all c.R c.L c.A c.B c.K c.A2 c.B2 w1 z (evB c t).1 (evB c t).2 t g
    rw [show ((evB c t).1, (evB c t).2) = evB c t from rfl, runO_valid hcv hob (okL_one ho) (by simp), runS_one, tickS_even hcv.ok] at this
    exact this
  have HLP : Hid (c.K = 0 → t ≤ bath → okT bath = true → ∀ n, (∀ w1 z, RowI w1 z (evR c t bath n).1 → Calls Try.prog 28 #[.agg #[.int .i64 (c.R : Int), .int .i64 (c.L : Int), .int .i64 c.A, .int .i64 c.B, .int .i64 c.K, .int .i64 c.A2, .int .i64 c.B2], .agg #[z, .bool (evR c t bath n).2], .int .i64 bath] w1 (OutB (evR c t bath (n + 1), 0) w1)) ∧ belowB (evR c t bath n).1 (evR c t bath (n + 1)).1 = true) := fun hK hle hb n => by
    refine ⟨fun w1 z g => ?_, ?_⟩
    · have := step_all c.R c.L c.A c.B c.K c.A2 c.B2 w1 z (evR c t bath n).1 (evR c t bath n).2 bath g
      rw [show ((evR c t bath n).1, (evR c t bath n).2) = evR c t bath n from rfl, runO_valid hcv (evR_valid hcv.ok ho hb n) (okL_one hb) (by simp), runS_one, ← evR_succ] at this
      exact this
    · have h1 := (bodyV_iff.1 (evR_valid hcv.ok ho hb n)).1
      have h2 := (bodyV_iff.1 (evR_valid hcv.ok ho hb (n + 1))).1
      exact (belowB_iff (by rw [h1, h2])).2 (evR_le hcv.ok hK ho hb hle n)
  have h0 : evR c t bath 0 = evB c t := rfl
  rw [← h0] at HE HS1
  have HT := hid (show -50000 ≤ t ∧ t ≤ 200000 by simpa [okT] using ho)
  have HCB := hid (heap_alloc_new w (.cells #[.int .i64 (c.R : Int), .int .i64 (c.L : Int), .int .i64 c.A, .int .i64 c.B, .int .i64 c.K, .int .i64 c.A2, .int .i64 c.B2] 23))
  clear hc ho hob h0 hcv
  go_enter Try.func12, Try.ntmps12
  go_wp2_with fail
  refine (HE.out _).mono ?_
  rintro e w4 ⟨ua, uc, rfl, hr4, hb⟩
  have HCB := hid ((hb.block _ (lt_of_block HCB.out)).trans HCB.out)
  have HX := hid (HX.out.keep hb)
  have h47 : w.heap.size < w4.heap.size := HX.out.sz
  obtain ⟨b0, b1, b2', b3, b4, b5, b6⟩ := HX.out.can
  dsimp only
  go_wp2_with fail
  obtain ⟨hb, z0, z1⟩ := laid2 (w2 := w4) (d0 := .slice ua (evR c t bath 0).1.length uc) (d1 := .bool (evR c t bath 0).2) (T := 26) rfl
  have HR4 := hid (hr4.keep hb)
  have HCB := hid ((hb.block _ (lt_of_block HCB.out)).trans HCB.out)
  have HXB := hid (heap_alloc_new w4 (.cells #[.slice ua (evR c t bath 0).1.length uc, .bool (evR c t bath 0).2] 26))
  have HX := hid (HX.out.keep hb)
  refine (HS1.out _ _ HR4.out).mono ?_
  rintro e w6 ⟨ub, ucb, rfl, hr6, hb⟩
  have HR4 := hid (HR4.out.keep hb)
  have HCB := hid ((hb.block _ (lt_of_block HCB.out)).trans HCB.out)
  have HXB := hid ((hb.block _ (lt_of_block HXB.out)).trans HXB.out)
  have HX := hid (HX.out.keep hb)
  have z0 := keep_cell hb z0
  have z1 := keep_cell hb z1
  have hz4 : w4.heap.size < w6.heap.size := World.block_lt_of_cell? w6 ⟨w4.heap.size, 0, none⟩ z0
  clear b0 b1 b2' b3 b4 b5 b6
  obtain ⟨b0, b1, b2', b3, b4, b5, b6⟩ := HX.out.can
  dsimp only
  go_wp2_with fail
  obtain ⟨hb, y0, y1⟩ := laid2 (w2 := w6) (d0 := .slice ub (evR c t bath 0).1.length ucb) (d1 := .bool (evR c t bath 0).2) (T := 26) rfl
  have HR4 := hid (HR4.out.keep hb)
  have HR6 := hid (hr6.keep hb)
  have HB9 := hid (EvB.mk ((hb.block _ (lt_of_block HCB.out)).trans HCB.out) ((hb.block _ (lt_of_block HXB.out)).trans HXB.out) (heap_alloc_new w6 (.cells #[.slice ub (evR c t bath 0).1.length ucb, .bool (evR c t bath 0).2] 26)) h47 hz4 (HX.out.keep hb).low)
  refine (rsame_any _ _ _ _ _ _ _ HR4.out HR6.out).mono ?_
  rintro e w8 ⟨rfl, hb⟩
  rw [show ((evR c t bath 0).2 == (evR c t bath 0).2 && decide ((evR c t bath 0).1 = (evR c t bath 0).1)) = true by simp]
  have HB9 := hid (HB9.out.keep hb)
  have HR4 := hid (HR4.out.keep hb)
  clear HX HCB HXB z0 z1 y0 y1 b0 b1 b2' b3 b4 b5 b6 hr4 hr6 HR6
  obtain ⟨n9, hn9⟩ : ∃ n, n = w6.heap.size := ⟨_, rfl⟩
  obtain ⟨n7, hn7⟩ : ∃ n, n = w4.heap.size := ⟨_, rfl⟩
  rw [← hn9, ← hn7] at HB9 ⊢
  clear hn9 hn7 hz4 h47
  have hF := HB9.out.facts
  obtain ⟨k0, k1, k2, k3, k4, k5, k6, d0, d1, f0, f1, e0, e1, g0, g1, hz9⟩ := hF
  by_cases hgo : c.K = 0 ∧ t ≤ bath ∧ bath ≤ 200000
  case neg =>
    have hgo' : (c.K != 0) = true ∨ ((c.K != 0) = false ∧ bath < t) ∨ ((c.K != 0) = false ∧ ¬ bath < t ∧ 200000 < bath) := by
      by_cases h1 : c.K = 0
      · have h1' : (c.K != 0) = false := by simpa using h1
        by_cases h2 : bath < t
        · exact .inr (.inl ⟨h1', h2⟩)
        · exact .inr (.inr ⟨h1', h2, by omega⟩)
      · exact .inl (by simpa using h1)
    clear hgo
    rcases hgo' with h1 | ⟨h1, h2⟩ | ⟨h1, h2, h3⟩
    all_goals
      go_wp2_with fail
      refine (awake_any _).mono ?_
      rintro e w11 ⟨rfl, hb⟩
      have HB9 := hid (HB9.out.keep hb)
      go_wp2_with fail
      go_ret
      exact ⟨rfl, HB9.out.low⟩
  obtain ⟨hK, hle, hbm⟩ := hgo
  have h1 : (c.K != 0) = false := by simpa using hK
  have HL := hid (HLP.out hK hle (by have := HT.out; simp [okT]; omega))
  clear hK
  go_wp2_with fail
  go_loopw [11] (fun i wr => ∃ n : Nat, n ≤ 12 ∧ i = .int .i64 (n : Int) ∧ ∃ (xa : Option Addr) (xc : Nat) (ya : Option Addr) (ym yc : Nat) (yb : Bool), Hid (EvB w wr n7 n9 #[.int .i64 (c.R : Int), .int .i64 (c.L : Int), .int .i64 c.A, .int .i64 c.B, .int .i64 c.K, .int .i64 c.A2, .int .i64 c.B2] #[.slice xa (evR c t bath n).1.length xc, .bool (evR c t bath n).2] #[.slice ya ym yc, .bool yb]) ∧ Hid (RowI wr (.slice xa (evR c t bath n).1.length xc) (evR c t bath n).1)) (fun i _ => 12 - (intOf i).toNat)
  case atStart => exact ⟨0, Nat.zero_le _, rfl, ua, uc, ub, _, ucb, _, HB9, HR4⟩
  case round =>
    obtain ⟨n, hn, rfl, xa, xc, ya, ym, yc, yb, HB, HR⟩ := hrel
    clear k0 k1 k2 k3 k4 k5 k6 d0 d1 f0 f1 e0 e1 g0 g1 hz9
    have hF := HB.out.facts
    obtain ⟨k0, k1, k2, k3, k4, k5, k6, d0, d1, f0, f1, e0, e1, g0, g1, hz9⟩ := hF
    by_cases hlt : n < 12
    · have hlt' : (n : Int) < 12 := by omega
      go_wp2_with fail
      refine ((HL.out n).1 _ _ HR.out).mono ?_
      rintro e w5 ⟨ub', ucb', rfl, hr5, hb⟩
      have HB5 := hid (HB.out.keep hb)
      have HR := hid (HR.out.keep hb)
      have HR5 := hid hr5
      clear k0 k1 k2 k3 k4 k5 k6 d0 d1 f0 f1 e0 e1 g0 g1 hz9 hr5
      have hF := HB5.out.facts
      obtain ⟨k0, k1, k2, k3, k4, k5, k6, d0, d1, f0, f1, e0, e1, g0, g1, hz9⟩ := hF
      have h97 := HB5.out.h9
      dsimp only
      go_wp2_with fail
      have HB6 := hid (HB5.out.setY (u := .slice ub' (evR c t bath (n + 1)).1.length ucb') (v := .bool (evR c t bath (n + 1)).2))
      have HR6 := hid (rowI_box (u := .slice ub' (evR c t bath (n + 1)).1.length ucb') (v := .bool (evR c t bath (n + 1)).2) (q := .bool true) HB5.out.y HR.out)
      have HY6 := hid (rowI_box (u := .slice ub' (evR c t bath (n + 1)).1.length ucb') (v := .bool (evR c t bath (n + 1)).2) (q := .bool true) HB5.out.y HR5.out)
      generalize World.setCell (World.setCell w5 _ _) _ _ = W6 at *
      refine (rbelow_any _ _ _ _ _ _ _ HR6.out HY6.out).mono ?_
      rintro e w8 ⟨rfl, hb⟩
      rw [(HL.out n).2]
      have HB8 := hid (HB6.out.keep hb)
      have HY8 := hid (HY6.out.keep hb)
      clear k0 k1 k2 k3 k4 k5 k6 d0 d1 f0 f1 e0 e1 g0 g1 hz9
      have hF := HB8.out.facts
      obtain ⟨k0, k1, k2, k3, k4, k5, k6, d0, d1, f0, f1, e0, e1, g0, g1, hz9⟩ := hF
      go_wp2_with fail
      go_roundw
      case rel => exact ⟨n + 1, by omega, by go_num, ub', ucb', ub', _, ucb', _, hid (HB8.out.setX), hid (rowI_box (q := .bool true) HB8.out.x HY8.out)⟩
      case measure => simp [intOf]; omega
    · obtain rfl : n = 12 := by omega
      go_wp2_with fail
      refine (awake_any _).mono ?_
      rintro e w11 ⟨rfl, hb⟩
      have HB9 := hid (HB.out.keep hb)
      go_wp2_with fail
      go_ret
      exact ⟨rfl, HB9.out.low⟩
end Go.Proofs.Ytaioholjckonlaa
