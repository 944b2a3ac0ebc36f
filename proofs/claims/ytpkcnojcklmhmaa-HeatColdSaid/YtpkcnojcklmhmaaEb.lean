/- Walk of Even of both: contracts. -/
import Derived.Test.YtpkcnojcklmhmaaEa
import Derived.Deep.DeepCutAuto
namespace Go.Proofs.Ytpkcnojcklmhmaa
open Go.RowKit

/-- What Even hands back. -/
def evenO (r l a b k a2 b2 t : Int) : Bd × Int :=
  if canB r l a b k a2 b2 = false then (([], false), 1) else if okT t = false then (([], false), 7) else ((List.replicate (cnOf r l a b k a2 b2).P t, decide (0 < k) && decide (k ≤ t)), 0)
theorem evenO_can {r l a b k a2 b2 t : Int} (h : canB r l a b k a2 b2 = false) : evenO r l a b k a2 b2 t = (([], false), 1) := by unfold evenO; rw [if_pos h]
theorem evenO_far {r l a b k a2 b2 t : Int} (h : canB r l a b k a2 b2 = true) (g : okT t = false) : evenO r l a b k a2 b2 t = (([], false), 7) := by unfold evenO; rw [if_neg (by rw [h]; simp), if_pos g]
theorem evenO_ok {c : Cn} {t : Int} (h : c.V) (g : okT t = true) : evenO c.R c.L c.A c.B c.K c.A2 c.B2 t = ((List.replicate c.P t, decide (0 < c.K) && decide (c.K ≤ t)), 0) := by
  unfold evenO; rw [if_neg (by rw [show canB (c.R : Int) c.L c.A c.B c.K c.A2 c.B2 = true from h]; simp), if_neg (by rw [g]; simp), cnOf_cn]
/-- The boxes of a can and of the body that comes back, whole. -/
structure R2 (w w1 : World) (A R : Array Value) : Prop where
  can : w1.heap[w.heap.size]? = some (.cells A 23 (0, 0))
  res : w1.heap[w.heap.size + 1]? = some (.cells R 26 (0, 0))
  low : Below w.heap.size w w1
theorem R2.keep {w w1 w2 : World} {A R : Array Value} (h : R2 w w1 A R) (hb : Below w1.heap.size w1 w2) : R2 w w2 A R :=
  ⟨(hb.block _ (lt_of_block h.can)).trans h.can, (hb.block _ (lt_of_block h.res)).trans h.res, bstep h.low h.low.size hb⟩
theorem r2_start {w : World} {A R : Array Value} : R2 w ((w.alloc (.cells A 23)).alloc (.cells R 26)) A R :=
  ⟨heap_alloc2_old w _ _, heap_alloc2_new w _ _, ((Below.refl _ _).alloc (Nat.le_refl _) _).alloc (by simp) _⟩
theorem R2.cell {w w1 : World} {A R : Array Value} (h : R2 w w1 A R) : (∀ i, w1.cell? ⟨w.heap.size, i, none⟩ = A[i]?) ∧ (∀ i, w1.cell? ⟨w.heap.size + 1, i, none⟩ = R[i]?) ∧ (∀ i, w1.frozen? ⟨w.heap.size + 1, i, none⟩ = false) :=
  ⟨fun i => cell_of_row _ _ i _ _ _ h.can, fun i => cell_of_row _ _ i _ _ _ h.res, fun i => frozen_of_row _ _ i _ _ h.res⟩
theorem R2.set {w W : World} {A : Array Value} {u v d0 d1 : Value} (h : R2 w W A #[d0, d1]) : ((W.setCell ⟨w.heap.size + 1, 0, none⟩ u).setCell ⟨w.heap.size + 1, 1, none⟩ v).cell? ⟨w.heap.size + 1, 0, none⟩ = some u ∧ ((W.setCell ⟨w.heap.size + 1, 0, none⟩ u).setCell ⟨w.heap.size + 1, 1, none⟩ v).cell? ⟨w.heap.size + 1, 1, none⟩ = some v ∧ Below w.heap.size w ((W.setCell ⟨w.heap.size + 1, 0, none⟩ u).setCell ⟨w.heap.size + 1, 1, none⟩ v) := by
  have h1 := heap_setCell_same W (w.heap.size + 1) 0 _ _ u h.res
  have h2 := heap_setCell_same _ (w.heap.size + 1) 1 _ _ v h1
  exact ⟨cell_of_row _ _ 0 _ _ _ h2, cell_of_row _ _ 1 _ _ _ h2, (h.low.setCell (p := ⟨w.heap.size + 1, 0, none⟩) (Nat.le_succ _) u).setCell (p := ⟨w.heap.size + 1, 1, none⟩) (Nat.le_succ _) v⟩
theorem R2.facts {w W : World} {c0 c1 c2 c3 c4 c5 c6 d0 d1 : Value} (h : R2 w W #[c0, c1, c2, c3, c4, c5, c6] #[d0, d1]) :
    W.cell? ⟨w.heap.size, 0, none⟩ = some c0 ∧ W.cell? ⟨w.heap.size, 1, none⟩ = some c1 ∧ W.cell? ⟨w.heap.size, 2, none⟩ = some c2 ∧ W.cell? ⟨w.heap.size, 3, none⟩ = some c3 ∧ W.cell? ⟨w.heap.size, 4, none⟩ = some c4 ∧ W.cell? ⟨w.heap.size, 5, none⟩ = some c5 ∧ W.cell? ⟨w.heap.size, 6, none⟩ = some c6 ∧
    W.cell? ⟨w.heap.size + 1, 0, none⟩ = some d0 ∧ W.cell? ⟨w.heap.size + 1, 1, none⟩ = some d1 ∧ W.frozen? ⟨w.heap.size + 1, 0, none⟩ = false ∧ W.frozen? ⟨w.heap.size + 1, 1, none⟩ = false ∧ w.heap.size + 1 < W.heap.size :=
  ⟨h.cell.1 0, h.cell.1 1, h.cell.1 2, h.cell.1 3, h.cell.1 4, h.cell.1 5, h.cell.1 6, h.cell.2.1 0, h.cell.2.1 1, h.cell.2.2 0, h.cell.2.2 1, lt_of_block h.res⟩

/-- R2, whatever the body's cells hold. -/
def R2e (c : Cn) (w w1 : World) : Prop := ∃ d0 d1, R2 w w1 #[.int .i64 (c.R : Int), .int .i64 (c.L : Int), .int .i64 c.A, .int .i64 c.B, .int .i64 c.K, .int .i64 c.A2, .int .i64 c.B2] #[d0, d1]
theorem r2e_set {c : Cn} {w W : World} {u v : Value} (h : R2e c w W) : R2e c w ((W.setCell ⟨w.heap.size + 1, 0, none⟩ u).setCell ⟨w.heap.size + 1, 1, none⟩ v) := by
  obtain ⟨d0, d1, h⟩ := h
  have h1 := heap_setCell_same W (w.heap.size + 1) 0 _ _ u h.res
  have h2 := heap_setCell_same _ (w.heap.size + 1) 1 _ _ v h1
  exact ⟨u, v, (heap_setCell_other _ _ _ _ (show w.heap.size ≠ w.heap.size + 1 by omega)).trans ((heap_setCell_other _ _ _ _ (show w.heap.size ≠ w.heap.size + 1 by omega)).trans h.can), h2, h.set.2.2⟩
/-- R2 with the can's cells laid out. -/
def RawR (c : Cn) (w w1 : World) : Prop := w1.cell? ⟨w.heap.size, 0, none⟩ = some (.int .i64 (c.R : Int)) ∧ w1.cell? ⟨w.heap.size, 1, none⟩ = some (.int .i64 (c.L : Int)) ∧ w1.cell? ⟨w.heap.size, 2, none⟩ = some (.int .i64 c.A) ∧ w1.cell? ⟨w.heap.size, 3, none⟩ = some (.int .i64 c.B) ∧ w1.cell? ⟨w.heap.size, 4, none⟩ = some (.int .i64 c.K) ∧ w1.cell? ⟨w.heap.size, 5, none⟩ = some (.int .i64 c.A2) ∧ w1.cell? ⟨w.heap.size, 6, none⟩ = some (.int .i64 c.B2) ∧ R2e c w w1
theorem rawR {c : Cn} {w w1 : World} (h : R2e c w w1) : RawR c w w1 := by
  have h0 := h
  obtain ⟨d0, d1, h⟩ := h
  obtain ⟨k0, k1, k2, k3, k4, k5, k6, _⟩ := h.facts
  exact ⟨k0, k1, k2, k3, k4, k5, k6, h0⟩
theorem RawR.r2 {c : Cn} {w w1 : World} (h : RawR c w w1) : R2e c w w1 := h.2.2.2.2.2.2.2
theorem R2e.keep {c : Cn} {w w1 w2 : World} (h : R2e c w w1) (hb : Below w1.heap.size w1 w2) : R2e c w w2 := by
  obtain ⟨d0, d1, h⟩ := h
  exact ⟨d0, d1, h.keep hb⟩
theorem rawR_keep {c : Cn} {w w1 w2 : World} (h : RawR c w w1) (hb : Below w1.heap.size w1 w2) : RawR c w w2 := rawR (h.r2.keep hb)

end Go.Proofs.Ytpkcnojcklmhmaa
