/- Walk of Until of the reference: contract. -/
import Derived.Test.YtedfajokiblfhaaRd
import Derived.Test.YtedfajokiblfhaaQq
namespace Go.Proofs.Ytedfajokiblfhaa
open Go.RowKit

theorem R2.set2 {w W : World} {A : Array Value} {u0 v0 u v : Value} (h : R2 w W A #[u0, v0]) : R2 w ((W.setCell ⟨w.heap.size + 1, 0, none⟩ u).setCell ⟨w.heap.size + 1, 1, none⟩ v) A #[u, v] := by
  have h1 := heap_setCell_same W (w.heap.size + 1) 0 _ _ u h.res
  have h2 := heap_setCell_same _ (w.heap.size + 1) 1 _ _ v h1
  refine ⟨?_, h2, (h.low.setCell (p := ⟨w.heap.size + 1, 0, none⟩) (Nat.le_succ _) u).setCell (p := ⟨w.heap.size + 1, 1, none⟩) (Nat.le_succ _) v⟩
  rw [heap_setCell_other _ _ _ _ (show w.heap.size ≠ w.heap.size + 1 by omega), heap_setCell_other _ _ _ _ (show w.heap.size ≠ w.heap.size + 1 by omega)]
  exact h.can
/-- What is read as ints does not lie in a box of a slice and a Bool. -/
theorem rowI_by {W : World} {g n c : Nat} {a : Option Addr} {br : Bool} {t : TypeId} {u : Value} {l : List Int} {x y : Value} (h : RowI W u l) (hB : W.heap[g]? = some (.cells #[.slice a n c, .bool br] t (0, 0))) : RowI ((W.setCell ⟨g, 0, none⟩ x).setCell ⟨g, 1, none⟩ y) u l := by
  rcases h with h | ⟨b, o, cap, hv, hm, hc⟩
  · exact .inl h
  · refine .inr ⟨b, o, cap, hv, hm, fun k hk => ?_⟩
    have hck := hc k hk
    by_cases e : b = g
    · subst e
      have := cell_of_row W b (o + k) _ _ _ hB
      rw [this] at hck
      exfalso
      match hj : o + k with
      | 0 => rw [hj] at hck; simp at hck
      | 1 => rw [hj] at hck; simp at hck
      | j + 2 => rw [hj] at hck; simp at hck
    · rw [← hck]
      exact World.cell?_of_block (a := ⟨b, o + k, none⟩) (by rw [heap_setCell_other _ _ _ _ e, heap_setCell_other _ _ _ _ e])
theorem R2.nine {w W : World} {c0 c1 c2 c3 c4 c5 c6 d0 d1 : Value} (h : R2 w W #[c0, c1, c2, c3, c4, c5, c6] #[d0, d1]) :
    W.cell? ⟨w.heap.size, 0, none⟩ = some c0 ∧ W.cell? ⟨w.heap.size, 1, none⟩ = some c1 ∧ W.cell? ⟨w.heap.size, 2, none⟩ = some c2 ∧ W.cell? ⟨w.heap.size, 3, none⟩ = some c3 ∧ W.cell? ⟨w.heap.size, 4, none⟩ = some c4 ∧ W.cell? ⟨w.heap.size, 5, none⟩ = some c5 ∧ W.cell? ⟨w.heap.size, 6, none⟩ = some c6 ∧
    W.cell? ⟨w.heap.size + 1, 0, none⟩ = some d0 ∧ W.cell? ⟨w.heap.size + 1, 1, none⟩ = some d1 ∧ W.frozen? ⟨w.heap.size + 1, 0, none⟩ = false ∧ W.frozen? ⟨w.heap.size + 1, 1, none⟩ = false :=
  ⟨cell_of_row _ _ 0 _ _ _ h.can, cell_of_row _ _ 1 _ _ _ h.can, cell_of_row _ _ 2 _ _ _ h.can, cell_of_row _ _ 3 _ _ _ h.can, cell_of_row _ _ 4 _ _ _ h.can, cell_of_row _ _ 5 _ _ _ h.can, cell_of_row _ _ 6 _ _ _ h.can, cell_of_row _ _ 0 _ _ _ h.res, cell_of_row _ _ 1 _ _ _ h.res, frozen_of_row _ _ 0 _ _ h.res, frozen_of_row _ _ 1 _ _ h.res⟩
/-- Two numbers come back. -/
def PairU (O : Int × Int) (w : World) (e : Ending) (w' : World) : Prop := e = .returned (.tuple #[.int .i64 O.1, .int .i64 O.2]) ∧ Below w.heap.size w w'
end Go.Proofs.Ytedfajokiblfhaa
