/- Walk of After of the reference: contract. -/
import Derived.Test.YtedfajokiblfhaaQp
import Derived.Test.YtedfajokiblfhaaJa
import Derived.Test.YtedfajokiblfhaaA3
import Derived.Test.YtedfajokiblfhaaFb
import Derived.Test.YtedfajokiblfhaaC3
import Derived.BigQuiet
namespace Go.Proofs.Ytedfajokiblfhaa
open Go.RowKit

/-- What the region of the append stands on. -/
def RawAf (w : World) (n8 : Nat) (A B : Array Value) (u br : Value) (w1 : World) : Prop := w1.cell? ⟨n8, 0, none⟩ = some u ∧ R4 w n8 w1 A B #[.slice none 0 0, .bool false] #[u, br]
theorem rawAf {w W : World} {n8 : Nat} {A B : Array Value} {u br : Value} (h : R4 w n8 W A B #[.slice none 0 0, .bool false] #[u, br]) : RawAf w n8 A B u br W := ⟨cell_of_row _ _ 0 _ _ _ h.out, h⟩
theorem R4.set1 {w W : World} {n8 : Nat} {A B R : Array Value} {u0 u br : Value} (h : R4 w n8 W A B R #[u0, br]) : R4 w n8 (W.setCell ⟨n8, 1, none⟩ u) A B R #[u0, u] := by
  have h8 := h.h8
  exact ⟨(heap_setCell_other _ _ _ _ (show w.heap.size ≠ n8 by omega)).trans h.can, (heap_setCell_other _ _ _ _ (show w.heap.size + 1 ≠ n8 by omega)).trans h.bod, (heap_setCell_other _ _ _ _ (show w.heap.size + 1 + 1 ≠ n8 by omega)).trans h.res, heap_setCell_same W n8 1 _ _ u h.out, h8, h.low.setCell (p := ⟨n8, 1, none⟩) (by show w.heap.size ≤ n8; omega) u⟩
theorem R4.break {w W : World} {n8 : Nat} {A B R : Array Value} {u0 br : Value} (h : R4 w n8 W A B R #[u0, br]) : W.cell? ⟨w.heap.size, 4, none⟩ = A[4]? := cell_of_row _ _ 4 _ _ _ h.can
theorem own_kept {w w' : World} {base e n : Nat} {v : Value} {xs : List Value} (h : w.ownsRow base e 1 v n xs) (hb : Below w.heap.size w w') : w'.ownsRow base e 1 v n xs := by
  refine ⟨h.1, ?_⟩
  rcases h.2 with hn | ⟨g, cap, cur, rfl, h1, hg, rest⟩
  · exact .inl hn
  · exact .inr ⟨g, cap, cur, rfl, h1, (hb.block _ (Array.getElem?_eq_some_iff.1 hg).1).trans hg, rest⟩
theorem own_from {w : World} {base e n c : Nat} {a : Option Addr} {xs : List Value} (h : w.ownsRow base e 1 (.slice a n c) n xs) : ∀ ad, a = some ad → base ≤ ad.block := by
  rintro ad rfl
  rcases h.2 with ⟨hn, _⟩ | ⟨g, cap, cur, hv, hb, _⟩
  · cases hn
  · injection hv with e1
    cases e1
    exact hb
theorem idx_lt' {R L r l : Nat} (hr : r < R) (hl : l < L) : l * R + r < L * R := by rw [Nat.mul_comm L R]; exact idx_lt hr hl
end Go.Proofs.Ytedfajokiblfhaa
