/- Texts of this seat, one behind the other. -/
import Derived.Test.YtihbjimnjhfpeaaGreatG07
import Derived.Deep.DeepCutAuto
import Derived.Test.YtihbjimnjhfpeaaGreatRows
import Derived.WalkKit
import Derived.WalkSpells
import Derived.WalkLawsBesides
import Derived.BigQuiet
/- Walk of Even of both: contracts. -/
namespace Go.Proofs.YtihbjimnjhfpeaaGreat
open Go.RowKit

/-- What Even hands back. -/
def evenO (r l a b k a2 b2 t : Int) : Bd × Int :=
  if canB r l a b k a2 b2 = false then (([], false), 1) else if okT t = false then (([], false), 7) else ((List.replicate (cnOf r l a b k a2 b2).P t, decide (0 < k) && decide (k ≤ t)), 0)
theorem evenO_can {r l a b k a2 b2 t : Int} (h : canB r l a b k a2 b2 = false) : evenO r l a b k a2 b2 t = (([], false), 1) := by unfold evenO; rw [if_pos h]
theorem evenO_far {r l a b k a2 b2 t : Int} (h : canB r l a b k a2 b2 = true) (g : okT t = false) : evenO r l a b k a2 b2 t = (([], false), 7) := by unfold evenO; rw [if_neg (by rw [h]; simp), if_pos g]
theorem evenO_ok {c : Cn} {t : Int} (h : c.V) (g : okT t = true) : evenO c.R c.L c.A c.B c.K c.A2 c.B2 t = ((List.replicate c.P t, decide (0 < c.K) && decide (c.K ≤ t)), 0) := by
  unfold evenO; rw [if_neg (by rw [show canB (c.R : Int) c.L c.A c.B c.K c.A2 c.B2 = true from h]; simp), if_neg (by rw [g]; simp), cnOf_cn]
/-- The boxes of a can and of the body that comes back, whole. -/
structure R2 (w w1 : World) (A R : Array Value) : Prop where
  can : w1.heap[w.heap.size]? = some (.cells A 23 (0, 0))
  res : w1.heap[w.heap.size + 1]? = some (.cells R 87 (0, 0))
  low : Below w.heap.size w w1
theorem R2.keep {w w1 w2 : World} {A R : Array Value} (h : R2 w w1 A R) (hb : Below w1.heap.size w1 w2) : R2 w w2 A R :=
  ⟨(hb.block _ (lt_of_block h.can)).trans h.can, (hb.block _ (lt_of_block h.res)).trans h.res, bstep h.low h.low.size hb⟩
theorem r2_start {w : World} {A R : Array Value} : R2 w ((w.alloc (.cells A 23)).alloc (.cells R 87)) A R :=
  ⟨heap_alloc2_old w _ _, heap_alloc2_new w _ _, ((Below.refl _ _).alloc (Nat.le_refl _) _).alloc (by simp) _⟩
theorem R2.cell {w w1 : World} {A R : Array Value} (h : R2 w w1 A R) : (∀ i, w1.cell? ⟨w.heap.size, i, none⟩ = A[i]?) ∧ (∀ i, w1.cell? ⟨w.heap.size + 1, i, none⟩ = R[i]?) ∧ (∀ i, w1.frozen? ⟨w.heap.size + 1, i, none⟩ = false) :=
  ⟨fun i => cell_of_row _ _ i _ _ _ h.can, fun i => cell_of_row _ _ i _ _ _ h.res, fun i => frozen_of_row _ _ i _ _ h.res⟩
theorem R2.set {w W : World} {A : Array Value} {u v d0 d1 : Value} (h : R2 w W A #[d0, d1]) : ((W.setCell ⟨w.heap.size + 1, 0, none⟩ u).setCell ⟨w.heap.size + 1, 1, none⟩ v).cell? ⟨w.heap.size + 1, 0, none⟩ = some u ∧ ((W.setCell ⟨w.heap.size + 1, 0, none⟩ u).setCell ⟨w.heap.size + 1, 1, none⟩ v).cell? ⟨w.heap.size + 1, 1, none⟩ = some v ∧ Below w.heap.size w ((W.setCell ⟨w.heap.size + 1, 0, none⟩ u).setCell ⟨w.heap.size + 1, 1, none⟩ v) := by
  have h1 := heap_setCell_same W (w.heap.size + 1) 0 _ _ u h.res
  have h2 := heap_setCell_same _ (w.heap.size + 1) 1 _ _ v h1
  exact ⟨cell_of_row _ _ 0 _ _ _ h2, cell_of_row _ _ 1 _ _ _ h2, (h.low.setCell (p := ⟨w.heap.size + 1, 0, none⟩) (Nat.le_succ _) u).setCell (p := ⟨w.heap.size + 1, 1, none⟩) (Nat.le_succ _) v⟩
theorem R2.facts {w W : World} {c0 c1 c2 c3 c4 c5 c6 d0 d1 : Value} (h : R2 w W #[c0, c1, c2, c3, c4, c5, c6] #[d0, d1]) :
    W.cell? ⟨w.heap.size, 0, none⟩ = some c0 ∧ W.cell? ⟨w.heap.size, 1, none⟩ = some c1 ∧ W.cell? ⟨w.heap.size, 2, none⟩ = some c2 ∧ W.cell? ⟨w.heap.size, 3, none⟩ = some c3 ∧ W.cell? ⟨w.heap.size, 4, none⟩ = some c4 ∧ W.cell? ⟨w.heap.size, 5, none⟩ = some c5 ∧ W.cell? ⟨w.heap.size, 6, none⟩ = some c6 ∧
    W.cell? ⟨w.heap.size + 1, 0, none⟩ = some d0 ∧ W.cell? ⟨w.heap.size + 1, 1, none⟩ = some d1 ∧ W.frozen? ⟨w.heap.size + 1, 0, none⟩ = false ∧ W.frozen? ⟨w.heap.size + 1, 1, none⟩ = false ∧ w.heap.size + 1 < W.heap.size :=
  ⟨h.cell.1 0, h.cell.1 1, h.cell.1 2, h.cell.1 3, h.cell.1 4, h.cell.1 5, h.cell.1 6, h.cell.2.1 0, h.cell.2.1 1, h.cell.2.2 0, h.cell.2.2 1, lt_of_block h.res⟩

set_option maxRecDepth 100000 in
set_option maxHeartbeats 2000000 in
theorem even_no (r l a b k a2 b2 : Int) (w : World) (t : Int) (hn : canB r l a b k a2 b2 = false ∨ okT t = false) :
    Calls Tryz.prog 121 #[.agg #[.int .i64 r, .int .i64 l, .int .i64 a, .int .i64 b, .int .i64 k, .int .i64 a2, .int .i64 b2], .int .i64 t] w (OutB (evenO r l a b k a2 b2 t) w) := by
  have HS := hid (r2_start (w := w) (A := #[.int .i64 r, .int .i64 l, .int .i64 a, .int .i64 b, .int .i64 k, .int .i64 a2, .int .i64 b2]) (R := #[.slice none 0 0, .bool false]))
  cases hc : canB r l a b k a2 b2
  · rw [evenO_can hc]
    clear hn
    go_enter Tryz.func121, Tryz.ntmps121
    go_wp2_with fail
    refine (vcan_any _ _ _ _ _ _ _ _).mono ?_
    rintro e w1 ⟨rfl, hb⟩
    rw [hc]
    have H1 := hid (HS.out.keep hb)
    obtain ⟨k0, k1, k2, k3, k4, k5, k6, d0, d1, f0, f1, hz⟩ := H1.out.facts
    go_wp2_with fail
    obtain ⟨c6, c7, c9⟩ := H1.out.set (u := .slice none 0 0) (v := .bool false)
    exact bodyPost_ret (v := .tuple #[.agg #[.slice none 0 0, .bool false], .int .i64 1]) (by simp [results, Tryz.results121, go_sem, c6, c7]) rfl (outB_nil rfl c9)
  · have ho := hn.resolve_left (by rw [hc]; simp)
    rw [evenO_far hc ho]
    have HO := hid (show okL [t] = false by simp [okL, ho])
    clear hn ho
    go_enter Tryz.func121, Tryz.ntmps121
    go_wp2_with fail
    refine (vcan_any _ _ _ _ _ _ _ _).mono ?_
    rintro e w1 ⟨rfl, hb⟩
    rw [hc]
    have H1 := hid (HS.out.keep hb)
    obtain ⟨k0, k1, k2, k3, k4, k5, k6, d0, d1, f0, f1, hz⟩ := H1.out.facts
    go_wp2_with (go_at_call 149; refine (temps_any _ _ [t] (one_at _ _ rfl)).mono ?_; rintro e w' ⟨rfl, rfl⟩; rw [HO.out])
    obtain ⟨c6, c7, c9⟩ := H1.out.set (u := .slice none 0 0) (v := .bool false)
    generalize World.setCell _ _ (.bool false) = W8 at c6 c7 c9 ⊢
    have hb8 := (Below.refl _ W8).alloc (Nat.le_refl _) (.cells #[.int .i64 t] 3)
    have c6 := keep_cell hb8 c6
    have c7 := keep_cell hb8 c7
    have c9 := bstep c9 c9.size hb8
    exact bodyPost_ret (v := .tuple #[.agg #[.slice none 0 0, .bool false], .int .i64 7]) (by simp [results, Tryz.results121, go_sem, c6, c7]) rfl (outB_nil rfl c9)

/-- R2, whatever the body's cells hold. -/
def R2e (c : Cn) (w w1 : World) : Prop := ∃ d0 d1, R2 w w1 #[.int .i64 (c.R : Int), .int .i64 (c.L : Int), .int .i64 c.A, .int .i64 c.B, .int .i64 c.K, .int .i64 c.A2, .int .i64 c.B2] #[d0, d1]
theorem r2e_set {c : Cn} {w W : World} {u v : Value} (h : R2e c w W) : R2e c w ((W.setCell ⟨w.heap.size + 1, 0, none⟩ u).setCell ⟨w.heap.size + 1, 1, none⟩ v) := by
  obtain ⟨d0, d1, h⟩ := h
  have h1 := heap_setCell_same W (w.heap.size + 1) 0 _ _ u h.res
  have h2 := heap_setCell_same _ (w.heap.size + 1) 1 _ _ v h1
  exact ⟨u, v, (heap_setCell_other _ _ _ _ (show w.heap.size ≠ w.heap.size + 1 by omega)).trans ((heap_setCell_other _ _ _ _ (show w.heap.size ≠ w.heap.size + 1 by omega)).trans h.can), h2, h.set.2.2⟩
/-- R2 with the can's cells laid out. -/
def RawR (c : Cn) (w w1 : World) : Prop := w1.cell? ⟨w.heap.size, 0, none⟩ = some (.int .i64 (c.R : Int)) ∧ w1.cell? ⟨w.heap.size, 1, none⟩ = some (.int .i64 (c.L : Int)) ∧ w1.cell? ⟨w.heap.size, 2, none⟩ = some (.int .i64 c.A) ∧ w1.cell? ⟨w.heap.size, 3, none⟩ = some (.int .i64 c.B) ∧ w1.cell? ⟨w.heap.size, 4, none⟩ = some (.int .i64 c.K) ∧ w1.cell? ⟨w.heap.size, 5, none⟩ = some (.int .i64 c.A2) ∧ w1.cell? ⟨w.heap.size, 6, none⟩ = some (.int .i64 c.B2) ∧ R2e c w w1
theorem rawR {c : Cn} {w w1 : World} (h : R2e c w w1) : RawR c w w1 := by
  have h0 := h
  obtain ⟨d0, d1, h⟩ := h
  obtain ⟨k0, k1, k2, k3, k4, k5, k6, _⟩ := h.facts
  exact ⟨k0, k1, k2, k3, k4, k5, k6, h0⟩
theorem RawR.r2 {c : Cn} {w w1 : World} (h : RawR c w w1) : R2e c w w1 := h.2.2.2.2.2.2.2
theorem R2e.keep {c : Cn} {w w1 w2 : World} (h : R2e c w w1) (hb : Below w1.heap.size w1 w2) : R2e c w w2 := by
  obtain ⟨d0, d1, h⟩ := h
  exact ⟨d0, d1, h.keep hb⟩
theorem rawR_keep {c : Cn} {w w1 w2 : World} (h : RawR c w w1) (hb : Below w1.heap.size w1 w2) : RawR c w w2 := rawR (h.r2.keep hb)

set_option maxRecDepth 100000 in
set_option maxHeartbeats 4000000 in
theorem even_yes (c : Cn) (t : Int) (w : World) (hv : c.V) (ho : okT t = true) (hk : 0 < c.K) :
    Calls Tryz.prog 121 #[.agg #[.int .i64 (c.R : Int), .int .i64 (c.L : Int), .int .i64 c.A, .int .i64 c.B, .int .i64 c.K, .int .i64 c.A2, .int .i64 c.B2], .int .i64 t] w (OutB (evenO c.R c.L c.A c.B c.K c.A2 c.B2 t) w) := by
  rw [evenO_ok hv ho]
  have HS := hid (r2_start (w := w) (A := #[.int .i64 (c.R : Int), .int .i64 (c.L : Int), .int .i64 c.A, .int .i64 c.B, .int .i64 c.K, .int .i64 c.A2, .int .i64 c.B2]) (R := #[.slice none 0 0, .bool false]))
  have hp := hv.ok.p
  have HP := hid hp
  have HV := hid hv
  have HO := hid (show okL [t] = true by simp [okL, ho])
  have hc : canB (c.R : Int) c.L c.A c.B c.K c.A2 c.B2 = true := hv
  have HC := hid hc
  clear ho hv hc hp
  go_enter Tryz.func121, Tryz.ntmps121
  go_wp2_with fail
  refine (vcan_any _ _ _ _ _ _ _ _).mono ?_
  rintro e w1 ⟨rfl, hb⟩
  rw [HC.out]
  have H1 := hid (HS.out.keep hb)
  obtain ⟨k0, k1, k2, k3, k4, k5, k6, d0, d1, f0, f1, hz⟩ := H1.out.facts
  clear hb
  go_wp2_with (go_at_call 149; refine (temps_any _ _ [t] (one_at _ _ rfl)).mono ?_; rintro e w' ⟨rfl, rfl⟩; rw [HO.out])
  have hb2 := (Below.refl _ w1).alloc (Nat.le_refl _) (.cells #[.int .i64 t] 3)
  have H2 := hid (H1.out.keep hb2)
  clear k0 k1 k2 k3 k4 k5 k6 d0 d1 f0 f1 hz
  generalize World.alloc w1 _ = W2 at *
  obtain ⟨k0, k1, k2, k3, k4, k5, k6, d0, d1, f0, f1, hz⟩ := H2.out.facts
  first
  | go_region_held3 (fun w' => w'.cell? ⟨w.heap.size, 0, none⟩ = some (.int .i64 c.R) ∧ w'.cell? ⟨w.heap.size, 1, none⟩ = some (.int .i64 c.L) ∧ w'.cell? ⟨w.heap.size, 2, none⟩ = some (.int .i64 c.A) ∧ w'.cell? ⟨w.heap.size, 3, none⟩ = some (.int .i64 c.B) ∧ w'.cell? ⟨w.heap.size, 4, none⟩ = some (.int .i64 c.K) ∧ w'.cell? ⟨w.heap.size, 5, none⟩ = some (.int .i64 c.A2) ∧ w'.cell? ⟨w.heap.size, 6, none⟩ = some (.int .i64 c.B2) ∧ R2e c w w') (first | exact rawR (R2e.keep ⟨_, _, H2.out⟩ (Below.refl _ _).drew) | exact rawR_keep (by assumption) hb | exact rawR_keep (by assumption) ((Below.refl _ _).alloc (Nat.le_refl _) _) | exact rawR (r2e_set (RawR.r2 (by assumption))))
    (first
      | (go_at_call 150; refine (places_yes c _ HV.out).mono ?_; rintro e w3 ⟨rfl, hb⟩; (first | (have q0 : w3.cell? ⟨W2.heap.size, 0, none⟩ = some (.int .i64 t) := keep_cell hb (cell_alloc_new W2.drew _ _ _ 0); have HRW := hid q0) | skip))
      | (go_at_call 74; have HE := RawR.r2 (c := c) (w := w) (by assumption); refine (repeat_any _ _ 0 1 c.P t (by first | exact HRW.out | exact cell_alloc_new _ _ _ _ 0) HP.out.1 (by have := HP.out; omega)).mono ?_; rintro e w5 ⟨g, rfl, hg1, hg2, hb⟩; have HE2 := HE.keep hb; have HGE := hid (Nat.lt_of_lt_of_le (by obtain ⟨_, _, h⟩ := HE; exact lt_of_block h.res) hg1); obtain ⟨d0, d1, H5⟩ := HE2; obtain ⟨_, _, _, _, _, _, _, d0, d1, f0, f1, hz⟩ := H5.facts; have HG := hid hg2; have HH5 := hid H5; clear H5))
  | fail
  all_goals
    go_wp2_with fail
    obtain ⟨c6, c7, c9⟩ := HH5.out.set (u := .slice (some ⟨g, 0, none⟩) c.P c.P) (v := .bool (decide (0 < c.K) && decide (c.K ≤ t)))
    have hge : g ≠ w.heap.size + 1 := by have := HGE.out; omega
    have hri := rowI_far (m := w.heap.size + 1) (i := 0) (j := 1) (u := .slice (some ⟨g, 0, none⟩) c.P c.P) (v := .bool (decide (0 < c.K) && decide (c.K ≤ t))) (rowI_of_block (cap := c.P) HG.out (by rw [List.length_replicate]; have := HP.out; omega)) hge
    rw [List.length_replicate] at hri
    (try simp only [hk, decide_true, Bool.true_and] at c6 c7 c9 hri ⊢)
    refine bodyPost_ret (v := .tuple #[.agg #[.slice (some ⟨g, 0, none⟩) c.P c.P, .bool _], .int .i64 0]) (by simp [results, Tryz.results121, go_sem, c6, c7]; rfl) rfl ⟨some ⟨g, 0, none⟩, c.P, by dsimp only; rw [List.length_replicate], by dsimp only; rw [List.length_replicate]; exact hri, c9⟩
end Go.Proofs.YtihbjimnjhfpeaaGreat

/- Walk of the reference's Start and Even: contracts. -/
namespace Go.Proofs.YtihbjimnjhfpeaaGreat
open Go.RowKit

/-- Three boxes behind one another: a can, a body that comes back, a body that is filled. -/
structure R3b (w w1 : World) (A R S : Array Value) : Prop where
  can : w1.heap[w.heap.size]? = some (.cells A 23 (0, 0))
  res : w1.heap[w.heap.size + 1]? = some (.cells R 87 (0, 0))
  out : w1.heap[w.heap.size + 1 + 1]? = some (.cells S 87 (0, 0))
  low : Below w.heap.size w w1
theorem r3b_start {w : World} {A R S : Array Value} : R3b w (((w.alloc (.cells A 23)).alloc (.cells R 87)).alloc (.cells S 87)) A R S := by
  have hs : ((w.alloc (.cells A 23)).alloc (.cells R 87)).heap.size = w.heap.size + 1 + 1 := by simp
  refine ⟨?_, ?_, new_at hs, (((Below.refl _ _).alloc (Nat.le_refl _) _).alloc (by simp) _).alloc (by simp; omega) _⟩
  · rw [Below.heap_alloc _ _ _ (by rw [hs]; omega)]; exact heap_alloc2_old w _ _
  · rw [Below.heap_alloc _ _ _ (by rw [hs]; omega)]; exact heap_alloc2_new w _ _
/-- What an append onto a row of one's own, laid behind the boxes, leaves of them; and the store of what it made. -/
theorem R3b.app {w W W' : World} {A R : Array Value} {v v' u0 : Value} {br : Value} {xs : List Value} {l : List Int} (h : R3b w W A R #[u0, br]) (hown : W.ownsRow (w.heap.size + 3) 3 1 v xs.length xs) (hA : AppP W (w.heap.size + 3) 3 v xs l v' W') : R3b w W' A R #[u0, br] := by
  have hne : ∀ b, b < w.heap.size + 3 → some b ≠ v.ownBlock := fun b hb e => by have := (World.ownsRow.lt hown b e.symm).1; omega
  exact ⟨(hA.2.1.block _ (lt_of_block h.can) (hne _ (by omega))).trans h.can, (hA.2.1.block _ (lt_of_block h.res) (hne _ (by omega))).trans h.res, (hA.2.1.block _ (lt_of_block h.out) (hne _ (by omega))).trans h.out, h.low.grown hA.2.1 h.low.size (fun k hk => by have := (World.ownsRow.lt hown k hk).1; omega)⟩
theorem R3b.set0 {w W : World} {A R : Array Value} {u0 br u : Value} (h : R3b w W A R #[u0, br]) : R3b w (W.setCell ⟨w.heap.size + 1 + 1, 0, none⟩ u) A R #[u, br] :=
  ⟨(heap_setCell_other _ _ _ _ (show w.heap.size ≠ w.heap.size + 1 + 1 by omega)).trans h.can, (heap_setCell_other _ _ _ _ (show w.heap.size + 1 ≠ w.heap.size + 1 + 1 by omega)).trans h.res, heap_setCell_same W (w.heap.size + 1 + 1) 0 _ _ u h.out, h.low.setCell (p := ⟨w.heap.size + 1 + 1, 0, none⟩) (by show w.heap.size ≤ w.heap.size + 1 + 1; omega) u⟩
theorem R3b.alloc {w W : World} {A R S : Array Value} (h : R3b w W A R S) (o : Obj) : R3b w (W.alloc o) A R S :=
  ⟨(Below.heap_alloc _ _ _ (lt_of_block h.can)).trans h.can, (Below.heap_alloc _ _ _ (lt_of_block h.res)).trans h.res, (Below.heap_alloc _ _ _ (lt_of_block h.out)).trans h.out, h.low.alloc h.low.size _⟩
theorem R3b.facts {w W : World} {c0 c1 c2 c3 c4 c5 c6 d0 d1 e0 e1 : Value} (h : R3b w W #[c0, c1, c2, c3, c4, c5, c6] #[d0, d1] #[e0, e1]) :
    W.cell? ⟨w.heap.size, 0, none⟩ = some c0 ∧ W.cell? ⟨w.heap.size, 1, none⟩ = some c1 ∧ W.cell? ⟨w.heap.size, 4, none⟩ = some c4 ∧
    W.cell? ⟨w.heap.size + 1, 0, none⟩ = some d0 ∧ W.cell? ⟨w.heap.size + 1, 1, none⟩ = some d1 ∧ W.frozen? ⟨w.heap.size + 1, 0, none⟩ = false ∧ W.frozen? ⟨w.heap.size + 1, 1, none⟩ = false ∧
    W.cell? ⟨w.heap.size + 1 + 1, 0, none⟩ = some e0 ∧ W.cell? ⟨w.heap.size + 1 + 1, 1, none⟩ = some e1 ∧ W.frozen? ⟨w.heap.size + 1 + 1, 0, none⟩ = false ∧ W.frozen? ⟨w.heap.size + 1 + 1, 1, none⟩ = false ∧ w.heap.size + 1 + 1 < W.heap.size :=
  ⟨cell_of_row _ _ 0 _ _ _ h.can, cell_of_row _ _ 1 _ _ _ h.can, cell_of_row _ _ 4 _ _ _ h.can, cell_of_row _ _ 0 _ _ _ h.res, cell_of_row _ _ 1 _ _ _ h.res, frozen_of_row _ _ 0 _ _ h.res, frozen_of_row _ _ 1 _ _ h.res, cell_of_row _ _ 0 _ _ _ h.out, cell_of_row _ _ 1 _ _ _ h.out, frozen_of_row _ _ 0 _ _ h.out, frozen_of_row _ _ 1 _ _ h.out, lt_of_block h.out⟩

theorem R3b.fin {w W : World} {A : Array Value} {d0 d1 e0 e1 u v z : Value} (h : R3b w W A #[d0, d1] #[e0, e1]) :
    (((W.setCell ⟨w.heap.size + 1 + 1, 1, none⟩ z).setCell ⟨w.heap.size + 1, 0, none⟩ u).setCell ⟨w.heap.size + 1, 1, none⟩ v).cell? ⟨w.heap.size + 1, 0, none⟩ = some u ∧
    (((W.setCell ⟨w.heap.size + 1 + 1, 1, none⟩ z).setCell ⟨w.heap.size + 1, 0, none⟩ u).setCell ⟨w.heap.size + 1, 1, none⟩ v).cell? ⟨w.heap.size + 1, 1, none⟩ = some v ∧
    Below w.heap.size w (((W.setCell ⟨w.heap.size + 1 + 1, 1, none⟩ z).setCell ⟨w.heap.size + 1, 0, none⟩ u).setCell ⟨w.heap.size + 1, 1, none⟩ v) := by
  have h0 : (W.setCell ⟨w.heap.size + 1 + 1, 1, none⟩ z).heap[w.heap.size + 1]? = some (.cells #[d0, d1] 87 (0, 0)) := (heap_setCell_other _ _ _ _ (show w.heap.size + 1 ≠ w.heap.size + 1 + 1 by omega)).trans h.res
  have h1 := heap_setCell_same _ (w.heap.size + 1) 0 _ _ u h0
  have h2 := heap_setCell_same _ (w.heap.size + 1) 1 _ _ v h1
  exact ⟨cell_of_row _ _ 0 _ _ _ h2, cell_of_row _ _ 1 _ _ _ h2, ((h.low.setCell (p := ⟨w.heap.size + 1 + 1, 1, none⟩) (by show w.heap.size ≤ w.heap.size + 1 + 1; omega) z).setCell (p := ⟨w.heap.size + 1, 0, none⟩) (Nat.le_succ _) u).setCell (p := ⟨w.heap.size + 1, 1, none⟩) (Nat.le_succ _) v⟩
theorem own_shape {w : World} {base e n : Nat} {v : Value} {xs : List Value} (h : w.ownsRow base e 1 v n xs) : ∃ a c, v = .slice a n c := by
  rcases h.2 with ⟨rfl, rfl⟩ | ⟨g, cap, cur, rfl, _⟩
  · exact ⟨_, _, rfl⟩
  · exact ⟨_, _, rfl⟩
theorem own_set {w : World} {base e n m j : Nat} {v u : Value} {xs : List Value} (h : w.ownsRow base e 1 v n xs) (hm : m < base) : (w.setCell ⟨m, j, none⟩ u).ownsRow base e 1 v n xs := by
  refine ⟨h.1, ?_⟩
  rcases h.2 with hn | ⟨g, cap, cur, rfl, hb, hg, rest⟩
  · exact .inl hn
  · exact .inr ⟨g, cap, cur, rfl, hb, (heap_setCell_other _ _ _ _ (show g ≠ m by omega)).trans hg, rest⟩
/-- What Start hands back. -/
def StartP (c : Cn) (t : Int) (w : World) (e : Ending) (w' : World) : Prop := ∃ (ua : Option Addr) (cap : Nat), e = .returned (.agg #[.slice ua c.P cap, .bool (decide (0 < c.K) && decide (c.K ≤ t))]) ∧ RowI w' (.slice ua c.P cap) (List.replicate c.P t) ∧ Below w.heap.size w w'
end Go.Proofs.YtihbjimnjhfpeaaGreat

/- Plain math of even bodies; Stirred of both. -/
namespace Go.Proofs.YtihbjimnjhfpeaaGreat
open Go.RowKit

theorem nearT_even {R L : Nat} {t : Int} (r l : Int) : nearT R L (List.replicate (R * L) t) t r l = t := by
  by_cases h : 0 ≤ r ∧ r < R ∧ 0 ≤ l ∧ l < L
  · obtain ⟨p, q, rfl, rfl, hp, hq, _⟩ := idx_nat h
    have hidx := idx_lt hp hq
    unfold Cn.P at *
    rw [nearT_in ⟨by omega, by omega, by omega, by omega⟩, ← Int.natCast_mul, ← Int.natCast_add, Int.toNat_natCast]
    simp [List.getD, hidx]
  · exact nearT_out h
theorem mixT_even {R L : Nat} {A B t : Int} (r l : Nat) : mixT R L A B (List.replicate (R * L) t) t r l = t := by
  unfold mixT
  rw [nearT_even, nearT_even, nearT_even, nearT_even, nearT_even, num_const]
  exact Int.mul_ediv_cancel _ (by have := wide_pos r; omega)
theorem tickT_even {R L : Nat} {A B t : Int} : tickT R L A B (List.replicate (R * L) t) t = List.replicate (R * L) t := by
  apply List.ext_getElem (by rw [tickT_len, List.length_replicate])
  intro i h1 h2
  rw [tickT_get, mixT_even, List.getElem_replicate]
theorem minT_even {n : Nat} {t : Int} (h : 0 < n) : minT (List.replicate n t) = t := by
  have := minT_mem (List.replicate n t) (by rw [List.length_replicate]; exact h)
  exact List.eq_of_mem_replicate this
/-- An even body. -/
def evB (c : Cn) (t : Int) : Bd := (List.replicate c.P t, decide (0 < c.K) && decide (c.K ≤ t))
theorem tickS_even {c : Cn} (hc : c.Ok) (t : Int) : tickS c (evB c t) t = evB c t := by
  have hp := hc.p
  unfold tickS evB
  dsimp only
  have e : tickT c.R c.L (c.a (decide (0 < c.K) && decide (c.K ≤ t))) (c.b (decide (0 < c.K) && decide (c.K ≤ t))) (List.replicate c.P t) t = List.replicate c.P t := tickT_even
  rw [e]
  unfold brk
  rw [minT_even (by omega), Bool.or_self]
theorem evB_valid {c : Cn} {t : Int} (ho : okT t = true) : bodyV c (evB c t).1 (evB c t).2 = true := by
  refine bodyV_iff.2 ⟨by simp [evB], ?_, okL_of fun x hx => ?_⟩
  · by_cases h : c.K = 0
    · left; simp [evB, h]
    · exact .inr h
  · have := List.eq_of_mem_replicate hx
    subst this
    simpa [okT] using ho
/-- The body behind n ticks in a constant bath, which is no colder. -/
def evR (c : Cn) (t bath : Int) (n : Nat) : Bd := runS c (evB c t) (List.replicate n bath)
/-- How many places seven numbers tell of. -/
def plcs (r l a b k a2 b2 : Int) : Nat := if canB r l a b k a2 b2 then (cnOf r l a b k a2 b2).P else 0
end Go.Proofs.YtihbjimnjhfpeaaGreat

/- Walks of small functions of package lethal and of its reference: contracts. -/
namespace Go.Proofs.YtihbjimnjhfpeaaGreat.Lt
open Go.RowKit

theorem hid {p : Prop} (h : p) : Hid p := h
theorem ret_bool {a b : Bool} (h : a = b) : Ending.returned (.bool a) = .returned (.bool b) := by rw [h]
theorem ret_int {k : IntKind} {a b : Int} (h : a = b) : Ending.returned (.int k a) = .returned (.int k b) := by rw [h]

set_option maxHeartbeats 400000 in
theorem within_any (a b c : Int) (w : World) :
    Calls Tryz.prog 104 #[.int .i64 a, .int .i64 b, .int .i64 c] w fun e w' => e = .returned (.bool (decide (b ≤ a) && decide (a ≤ c))) ∧ w = w' := by
  by_cases h : b ≤ a
  · have hd : decide (b ≤ a) = true := by simpa using h
    go_enter Tryz.func104, Tryz.ntmps104
    go_wp2
    go_ret
    exact ⟨by simp [h], rfl⟩
  · have hd : decide (b ≤ a) = false := by simpa using h
    go_enter Tryz.func104, Tryz.ntmps104
    go_wp2
    go_ret
    exact ⟨by simp, rfl⟩
end Go.Proofs.YtihbjimnjhfpeaaGreat.Lt

/- Walks of Name of package lethal and of its reference: contracts. -/
namespace Go.Proofs.YtihbjimnjhfpeaaGreat.Lt
open Go.RowKit

def smallB (c : UInt8) : Bool := 97 ≤ c.toNat && c.toNat ≤ 122
def digitB (c : UInt8) : Bool := 48 ≤ c.toNat && c.toNat ≤ 57
def wordB (c : UInt8) : Bool := smallB c || digitB c || c.toNat == 95
def nameB (l : List UInt8) : Bool := decide (1 ≤ l.length) && decide (l.length ≤ 16) && smallB (l.headD 0) && l.all wordB

set_option maxHeartbeats 400000 in
theorem small_any (c : UInt8) (w : World) :
    Calls Tryz.prog 128 #[.int .u8 c.toNat] w fun e w' => e = .returned (.bool (smallB c)) ∧ w = w' := by
  by_cases h : 97 ≤ c.toNat
  · have hd : decide (97 ≤ (c.toNat : Int)) = true := by simp; omega
    go_enter Tryz.func128, Tryz.ntmps128
    go_wp2
    go_ret
    exact ⟨by unfold smallB; simp [h]; omega, rfl⟩
  · have hd : decide (97 ≤ (c.toNat : Int)) = false := by simp; omega
    go_enter Tryz.func128, Tryz.ntmps128
    go_wp2
    go_ret
    exact ⟨by unfold smallB; simp [h], rfl⟩

set_option maxHeartbeats 400000 in
theorem digit_any (c : UInt8) (w : World) :
    Calls Tryz.prog 129 #[.int .u8 c.toNat] w fun e w' => e = .returned (.bool (digitB c)) ∧ w = w' := by
  by_cases h : 48 ≤ c.toNat
  · have hd : decide (48 ≤ (c.toNat : Int)) = true := by simp; omega
    go_enter Tryz.func129, Tryz.ntmps129
    go_wp2
    go_ret
    exact ⟨by unfold digitB; simp [h]; omega, rfl⟩
  · have hd : decide (48 ≤ (c.toNat : Int)) = false := by simp; omega
    go_enter Tryz.func129, Tryz.ntmps129
    go_wp2
    go_ret
    exact ⟨by unfold digitB; simp [h], rfl⟩

theorem nameB_iff (l : List UInt8) : nameB l = true ↔ 1 ≤ l.length ∧ l.length ≤ 16 ∧ smallB (l.headD 0) = true ∧ l.all wordB = true := by
  unfold nameB; simp [Bool.and_eq_true, and_assoc]
theorem nameB_long (l : List UInt8) (h : 16 < l.length) : nameB l = false := by
  unfold nameB; simp; omega
theorem nameB_head (l : List UInt8) (h : smallB (l.headD 0) = false) : nameB l = false := by
  unfold nameB; rw [h]; simp
theorem nameB_at (l : List UInt8) (k : Nat) (hk : k < l.length) (h : wordB l[k] = false) : nameB l = false := by
  rw [Bool.eq_false_iff]; intro hn
  have := ((nameB_iff l).1 hn).2.2.2
  rw [List.all_eq_true] at this
  have := this l[k] (List.getElem_mem hk)
  rw [h] at this; cases this
theorem all_take_succ (l : List UInt8) (k : Nat) (hk : k < l.length) (h : (l.take k).all wordB = true) (h' : wordB l[k] = true) : (l.take (k+1)).all wordB = true := by
  rw [List.take_succ_eq_append_getElem hk, List.all_append, h]; simp [h']
theorem toList_ne (s : ByteArray) (h : s.size ≠ 0) : s.toList.isEmpty = false := by
  rw [ByteArray.toList_eq]; cases h' : s.data.toList with
  | nil => exact absurd (by simpa using congrArg List.length h') h
  | cons a l => rfl
theorem head_eq (s : ByteArray) (h : 0 < s.size) : s.data.toList.headD 0 = s[0] := by
  have : 0 < s.data.toList.length := h
  cases h' : s.data.toList with
  | nil => rw [h'] at this; simp at this
  | cons a l =>
    show a = s.data[0]
    rw [← Array.getElem_toList]; simp [h']
theorem getElem_eq (s : ByteArray) (k : Nat) (h : k < s.size) : s.data.toList[k]'(by exact h) = s[k] := by
  rfl

set_option maxHeartbeats 400000 in
theorem lname_any (s : ByteArray) (w : World) (hs : s.size ≤ maxLen) :
    Calls Tryz.prog 83 #[.string s] w fun e w' => e = .returned (.bool (nameB s.data.toList)) ∧ w = w' := by
  unfold maxLen at hs
  have hl : s.data.toList.length = s.size := rfl
  by_cases h1 : 16 < s.size
  · have hd : decide (16 < (s.size : Int)) = true := by simp; omega
    have hr := nameB_long s.data.toList (by omega)
    go_enter Tryz.func83, Tryz.ntmps83
    go_wp2
    go_ret
    exact ⟨ret_bool hr.symm, rfl⟩
  · have hd : decide (16 < (s.size : Int)) = false := by simp; omega
    by_cases h2 : s.size = 0
    · have hr : nameB s.data.toList = false := by unfold nameB; simp [hl, h2]
      have h3 : s.toList.isEmpty = true := by rw [ByteArray.toList_eq]; simpa using List.eq_nil_of_length_eq_zero (hl.trans h2)
      have h3' : s.toList = [] := by simpa using h3
      clear hl h2
      go_enter Tryz.func83, Tryz.ntmps83
      go_wp2
      go_ret
      exact ⟨ret_bool hr.symm, rfl⟩
    · have h3 := toList_ne s h2
      have h3' : ¬ s.toList = [] := by simpa using h3
      have h4 : 0 < s.size := by omega
      have hh := hid (head_eq s h4)
      have hL := hid hl; clear hl
      have hge := hid (getElem_eq s)
      by_cases h5 : smallB s[0] = true
      · go_enter Tryz.func83, Tryz.ntmps83
        go_wp2_with (go_at_call 128; refine (small_any _ _).mono ?_; rintro e w' ⟨rfl, rfl⟩)
        go_loop [19] (fun i => ∃ k : Nat, k ≤ s.size ∧ i = .int .i64 k ∧ (s.data.toList.take k).all wordB = true) (fun i => s.size - (intOf i).toNat)
        case atStart => exact ⟨0, Nat.zero_le _, rfl, rfl⟩
        case round =>
          obtain ⟨k, hk, rfl, hal⟩ := hrel
          have Hal := hid hal; clear hal
          by_cases hlt : k < s.size
          · by_cases ha : smallB s[k] = true
            · have hn : Hid ((s.data.toList.take (k+1)).all wordB = true) := all_take_succ _ k hlt Hal.out (by show wordB s[k] = true; unfold wordB; rw [ha]; rfl)
              go_wp2_with (go_at_call 128; refine (small_any _ _).mono ?_; rintro e w' ⟨rfl, rfl⟩)
              go_round
              case rel => exact ⟨k + 1, by omega, by go_num, hn.out⟩
              case measure => simp [intOf]; omega
            · have ha' : smallB s[k] = false := by simpa using ha
              clear ha
              by_cases hb : digitB s[k] = true
              · have hn : Hid ((s.data.toList.take (k+1)).all wordB = true) := all_take_succ _ k hlt Hal.out (by show wordB s[k] = true; unfold wordB; rw [hb]; simp)
                go_wp2_with (first | (go_at_call 128; refine (small_any _ _).mono ?_; rintro e w' ⟨rfl, rfl⟩) | (go_at_call 129; refine (digit_any _ _).mono ?_; rintro e w' ⟨rfl, rfl⟩))
                go_round
                case rel => exact ⟨k + 1, by omega, by go_num, hn.out⟩
                case measure => simp [intOf]; omega
              · have hb' : digitB s[k] = false := by simpa using hb
                clear hb
                by_cases hc : s[k].toNat = 95
                · have hn : Hid ((s.data.toList.take (k+1)).all wordB = true) := all_take_succ _ k hlt Hal.out (by show wordB s[k] = true; unfold wordB; rw [hc]; simp)
                  have hc' : ((s[k].toNat : Int) != 95) = false := by rw [hc]; rfl
                  clear hc
                  go_wp2_with (first | (go_at_call 128; refine (small_any _ _).mono ?_; rintro e w' ⟨rfl, rfl⟩) | (go_at_call 129; refine (digit_any _ _).mono ?_; rintro e w' ⟨rfl, rfl⟩))
                  go_round
                  case rel => exact ⟨k + 1, by omega, by go_num, hn.out⟩
                  case measure => simp [intOf]; omega
                · have hn : nameB s.data.toList = false := nameB_at _ k hlt (by show wordB s[k] = false; unfold wordB; rw [ha', hb']; simpa using hc)
                  have hc' : ((s[k].toNat : Int) != 95) = true := by simp; omega
                  have Hn := hid hn; clear hn hc
                  go_wp2_with (first | (go_at_call 128; refine (small_any _ _).mono ?_; rintro e w' ⟨rfl, rfl⟩) | (go_at_call 129; refine (digit_any _ _).mono ?_; rintro e w' ⟨rfl, rfl⟩))
                  go_ret
                  exact ⟨ret_bool Hn.out.symm, rfl⟩
          · have hr : nameB s.data.toList = true := by
              rw [nameB_iff]
              refine ⟨by rw [hL.out]; omega, by rw [hL.out]; omega, by rw [hh.out]; exact h5, ?_⟩
              have := Hal.out
              rwa [List.take_of_length_le (by rw [hL.out]; omega)] at this
            have Hr := hid hr; clear hr
            go_wp2
            go_ret
            exact ⟨ret_bool Hr.out.symm, rfl⟩
      · have h5' : smallB s[0] = false := by simpa using h5
        have hr := nameB_head s.data.toList (by rw [hh.out]; exact h5')
        have Hr := hid hr; clear hr h5
        go_enter Tryz.func83, Tryz.ntmps83
        go_wp2_with (go_at_call 128; refine (small_any _ _).mono ?_; rintro e w' ⟨rfl, rfl⟩)
        go_ret
        exact ⟨ret_bool Hr.out.symm, rfl⟩
end Go.Proofs.YtihbjimnjhfpeaaGreat.Lt
