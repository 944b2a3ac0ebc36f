/- Texts of this seat, one behind the other. -/
import Derived.Test.YtihbjimnjhfpeaaGreatR28
import Derived.Test.YtihbjimnjhfpeaaGreatR27
import Derived.Test.YtihbjimnjhfpeaaGreatR25
/- Walk of told where a place is told: contract. -/

/- Walks of asked and Copy of the reference: contracts. -/
namespace Go.Proofs.YtihbjimnjhfpeaaGreat
open Go.RowKit

/-- The boxes of Copy. -/
structure RC (w w1 : World) (A B : Array Value) : Prop where
  bod : w1.heap[w.heap.size]? = some (.cells A 87 (0, 0))
  res : w1.heap[w.heap.size + 1]? = some (.cells B 87 (0, 0))
  low : Below w.heap.size w w1
theorem RC.keep {w w1 w2 : World} {A B : Array Value} (h : RC w w1 A B) (hb : Below w1.heap.size w1 w2) : RC w w2 A B :=
  ⟨(hb.block _ (lt_of_block h.bod)).trans h.bod, (hb.block _ (lt_of_block h.res)).trans h.res, bstep h.low h.low.size hb⟩
theorem RC.app {w W W' : World} {A B : Array Value} {v v' : Value} {xs : List Value} {l : List Int} (h : RC w W A B) (hown : W.ownsRow (w.heap.size + 2) 3 1 v xs.length xs) (hA : AppP W (w.heap.size + 2) 3 v xs l v' W') : RC w W' A B := by
  have hne : ∀ b, b < w.heap.size + 2 → some b ≠ v.ownBlock := fun b hb e => by have := (World.ownsRow.lt hown b e.symm).1; omega
  exact ⟨(hA.2.1.block _ (lt_of_block h.bod) (hne _ (by omega))).trans h.bod, (hA.2.1.block _ (lt_of_block h.res) (hne _ (by omega))).trans h.res, h.low.grown hA.2.1 h.low.size (fun k hk => by have := (World.ownsRow.lt hown k hk).1; omega)⟩
theorem RC.four {w W : World} {a0 a1 b0 b1 : Value} (h : RC w W #[a0, a1] #[b0, b1]) : W.cell? ⟨w.heap.size, 0, none⟩ = some a0 ∧ W.cell? ⟨w.heap.size, 1, none⟩ = some a1 ∧ W.cell? ⟨w.heap.size + 1, 0, none⟩ = some b0 ∧ W.cell? ⟨w.heap.size + 1, 1, none⟩ = some b1 ∧
    W.frozen? ⟨w.heap.size, 0, none⟩ = false ∧ W.frozen? ⟨w.heap.size + 1, 0, none⟩ = false ∧ W.frozen? ⟨w.heap.size + 1, 1, none⟩ = false :=
  ⟨cell_of_row _ _ 0 _ _ _ h.bod, cell_of_row _ _ 1 _ _ _ h.bod, cell_of_row _ _ 0 _ _ _ h.res, cell_of_row _ _ 1 _ _ _ h.res, frozen_of_row _ _ 0 _ _ h.bod, frozen_of_row _ _ 0 _ _ h.res, frozen_of_row _ _ 1 _ _ h.res⟩
end Go.Proofs.YtihbjimnjhfpeaaGreat

/- An append at a step of a region that draws: the grown row, and what was read of the old one. -/
namespace Go.Proofs.YtihbjimnjhfpeaaGreat
open Go.RowKit Go.Shelf

end Go.Proofs.YtihbjimnjhfpeaaGreat
