/- HeatTurns: what its walk stands on. -/
import Derived.Test.YtpkcnojcklmhmaaQj
import Derived.Test.YtpkcnojcklmhmaaHq
import Derived.Test.YtpkcnojcklmhmaaHz
import Derived.Test.YtpkcnojcklmhmaaHs
import Derived.Test.YtpkcnojcklmhmaaZa
namespace Go.Proofs.Ytpkcnojcklmhmaa
open Go.RowKit

theorem R3.eleven {w W : World} {c0 c1 c2 c3 c4 c5 c6 b0 b1 d0 d1 : Value} (h : R3 w W #[c0, c1, c2, c3, c4, c5, c6] #[b0, b1] #[d0, d1]) :
    (W.cell? ⟨w.heap.size, 0, none⟩ = some c0 ∧ W.cell? ⟨w.heap.size, 1, none⟩ = some c1 ∧ W.cell? ⟨w.heap.size, 2, none⟩ = some c2 ∧ W.cell? ⟨w.heap.size, 3, none⟩ = some c3 ∧ W.cell? ⟨w.heap.size, 4, none⟩ = some c4 ∧ W.cell? ⟨w.heap.size, 5, none⟩ = some c5 ∧ W.cell? ⟨w.heap.size, 6, none⟩ = some c6) ∧
    (W.cell? ⟨w.heap.size + 1, 0, none⟩ = some b0 ∧ W.cell? ⟨w.heap.size + 1, 1, none⟩ = some b1) ∧ (W.cell? ⟨w.heap.size + 1 + 1, 0, none⟩ = some d0 ∧ W.cell? ⟨w.heap.size + 1 + 1, 1, none⟩ = some d1) :=
  ⟨⟨h.cell.1 0, h.cell.1 1, h.cell.1 2, h.cell.1 3, h.cell.1 4, h.cell.1 5, h.cell.1 6⟩, ⟨h.cell.2.1 0, h.cell.2.1 1⟩, ⟨h.cell.2.2.1 0, h.cell.2.2.1 1⟩⟩
/-- A body's box, whole. -/
def BodAt (W : World) (g : Nat) (a : Option Addr) (n c : Nat) (br : Bool) : Prop := W.heap[g]? = some (.cells #[.slice a n c, .bool br] 26 (0, 0))
section
variable {W W' : World} {g n c : Nat} {a : Option Addr} {br : Bool}
theorem bodAt_new : BodAt (W.alloc (.cells #[.slice a n c, .bool br] 26)) W.heap.size a n c br := heap_alloc_new W _
theorem BodAt.keep (h : BodAt W g a n c br) (hb : Below W.heap.size W W') : BodAt W' g a n c br := (hb.block _ (lt_of_block h)).trans h
theorem BodAt.cells (h : BodAt W g a n c br) : W.cell? ⟨g, 0, none⟩ = some (.slice a n c) ∧ W.cell? ⟨g, 1, none⟩ = some (.bool br) ∧ W.frozen? ⟨g, 0, none⟩ = false ∧ W.frozen? ⟨g, 1, none⟩ = false :=
  ⟨cell_of_row _ _ 0 _ _ _ h, cell_of_row _ _ 1 _ _ _ h, frozen_of_row _ _ 0 _ _ h, frozen_of_row _ _ 1 _ _ h⟩
theorem BodAt.set {a' : Option Addr} {n' c' : Nat} {br' : Bool} (h : BodAt W g a n c br) : BodAt ((W.setCell ⟨g, 0, none⟩ (.slice a' n' c')).setCell ⟨g, 1, none⟩ (.bool br')) g a' n' c' br' := by
  have h1 := heap_setCell_same W g 0 _ _ (.slice a' n' c') h
  exact heap_setCell_same _ g 1 _ _ (.bool br') h1
theorem BodAt.other {m : Nat} {u v : Value} (h : BodAt W g a n c br) (hne : g ≠ m) : BodAt ((W.setCell ⟨m, 0, none⟩ u).setCell ⟨m, 1, none⟩ v) g a n c br := by
  unfold BodAt
  rw [heap_setCell_other _ _ _ _ hne, heap_setCell_other _ _ _ _ hne]
  exact h
/-- What is read as ints does not lie in a body's box. -/
theorem rowI_off {u : Value} {l : List Int} {x y : Value} (h : RowI W u l) (hB : BodAt W g a n c br) : RowI ((W.setCell ⟨g, 0, none⟩ x).setCell ⟨g, 1, none⟩ y) u l := by
  rcases h with h | ⟨b, o, cap, hv, hm, hc⟩
  · exact .inl h
  · refine .inr ⟨b, o, cap, hv, hm, fun k hk => ?_⟩
    have hck := hc k hk
    by_cases e : b = g
    · subst e
      have := cell_of_row W b (o + k) _ _ _ hB
      rw [this] at hck
      exfalso
      match hj : o + k with
      | 0 => rw [hj] at hck; simp at hck
      | 1 => rw [hj] at hck; simp at hck
      | j + 2 => rw [hj] at hck; simp at hck
    · rw [← hck]
      exact World.cell?_of_block (a := ⟨b, o + k, none⟩) (by rw [heap_setCell_other _ _ _ _ e, heap_setCell_other _ _ _ _ e])
end
theorem R3.set2 {w W : World} {A B R : Array Value} {g : Nat} {u v : Value} (h : R3 w W A B R) (hg : w.heap.size + 1 + 1 < g) : R3 w ((W.setCell ⟨g, 0, none⟩ u).setCell ⟨g, 1, none⟩ v) A B R := (h.other hg).other hg
theorem same_self (O : Bd) : (O.2 == O.2 && decide (O.1 = O.1)) = true := by simp
end Go.Proofs.Ytpkcnojcklmhmaa
