/- Walk of Shifted of the reference: contract. -/
import Derived.Test.YtedfajokiblfhaaA8
import Derived.Deep.DeepCutAuto
namespace Go.Proofs.Ytedfajokiblfhaa
open Go.RowKit

/-- Four boxes behind one another: a can, a body, the body that comes back, the body that is filled. -/
structure R4 (w : World) (n8 : Nat) (w1 : World) (A B R S : Array Value) : Prop where
  can : w1.heap[w.heap.size]? = some (.cells A 23 (0, 0))
  bod : w1.heap[w.heap.size + 1]? = some (.cells B 42 (0, 0))
  res : w1.heap[w.heap.size + 1 + 1]? = some (.cells R 42 (0, 0))
  out : w1.heap[n8]? = some (.cells S 42 (0, 0))
  h8 : w.heap.size + 1 + 1 < n8
  low : Below w.heap.size w w1
/-- The same, whatever the filled body's slice is. -/
def R4e (w : World) (n8 : Nat) (w1 : World) (A B : Array Value) (br : Value) : Prop := ∃ u0, R4 w n8 w1 A B #[.slice none 0 0, .bool false] #[u0, br]
section
variable {w W W' : World} {n8 : Nat} {A B R S : Array Value} {br u0 u : Value}
theorem R4.app {v v' : Value} {xs : List Value} {l : List Int} (h : R4 w n8 W A B R S) (hown : W.ownsRow (n8 + 1) 3 1 v xs.length xs) (hA : AppP W (n8 + 1) 3 v xs l v' W') : R4 w n8 W' A B R S := by
  have hne : ∀ b, b < n8 + 1 → some b ≠ v.ownBlock := fun b hb e => by have := (World.ownsRow.lt hown b e.symm).1; omega
  have h8 := h.h8
  exact ⟨(hA.2.1.block _ (lt_of_block h.can) (hne _ (by omega))).trans h.can, (hA.2.1.block _ (lt_of_block h.bod) (hne _ (by omega))).trans h.bod, (hA.2.1.block _ (lt_of_block h.res) (hne _ (by omega))).trans h.res, (hA.2.1.block _ (lt_of_block h.out) (hne _ (by omega))).trans h.out, h8, h.low.grown hA.2.1 h.low.size (fun k hk => by have := (World.ownsRow.lt hown k hk).1; omega)⟩
theorem R4.keep (h : R4 w n8 W A B R S) (hb : Below W.heap.size W W') : R4 w n8 W' A B R S :=
  ⟨(hb.block _ (lt_of_block h.can)).trans h.can, (hb.block _ (lt_of_block h.bod)).trans h.bod, (hb.block _ (lt_of_block h.res)).trans h.res, (hb.block _ (lt_of_block h.out)).trans h.out, h.h8, bstep h.low h.low.size hb⟩
theorem R4.set0 (h : R4 w n8 W A B R #[u0, br]) : R4 w n8 (W.setCell ⟨n8, 0, none⟩ u) A B R #[u, br] := by
  have h8 := h.h8
  exact ⟨(heap_setCell_other _ _ _ _ (show w.heap.size ≠ n8 by omega)).trans h.can, (heap_setCell_other _ _ _ _ (show w.heap.size + 1 ≠ n8 by omega)).trans h.bod, (heap_setCell_other _ _ _ _ (show w.heap.size + 1 + 1 ≠ n8 by omega)).trans h.res, heap_setCell_same W n8 0 _ _ u h.out, h8, h.low.setCell (p := ⟨n8, 0, none⟩) (by show w.heap.size ≤ n8; omega) u⟩
theorem R4.r3 (h : R4 w n8 W A B R S) : R3 w W A B R := ⟨h.can, h.bod, h.res, h.low⟩
theorem R4e.keep (h : R4e w n8 W A B br) (hb : Below W.heap.size W W') : R4e w n8 W' A B br := by obtain ⟨u, h⟩ := h; exact ⟨u, h.keep hb⟩
theorem R4e.set0 (h : R4e w n8 W A B br) : R4e w n8 (W.setCell ⟨n8, 0, none⟩ u) A B br := by obtain ⟨u', h⟩ := h; exact ⟨u, h.set0⟩
theorem R4e.app {v v' : Value} {xs : List Value} {l : List Int} (h : R4e w n8 W A B br) (hown : W.ownsRow (n8 + 1) 3 1 v xs.length xs) (hA : AppP W (n8 + 1) 3 v xs l v' W') : R4e w n8 W' A B br := by obtain ⟨u, h⟩ := h; exact ⟨u, h.app hown hA⟩
theorem R4e.low (h : R4e w n8 W A B br) : Below w.heap.size w W := by obtain ⟨u, h⟩ := h; exact h.low
end
theorem R4.facts {w W : World} {n8 : Nat} {A : Array Value} {b0 b1 d0 d1 e0 e1 : Value} (h : R4 w n8 W A #[b0, b1] #[d0, d1] #[e0, e1]) :
    W.cell? ⟨w.heap.size + 1, 0, none⟩ = some b0 ∧ W.cell? ⟨w.heap.size + 1, 1, none⟩ = some b1 ∧ W.cell? ⟨w.heap.size + 1 + 1, 0, none⟩ = some d0 ∧ W.cell? ⟨w.heap.size + 1 + 1, 1, none⟩ = some d1 ∧ W.frozen? ⟨w.heap.size + 1 + 1, 0, none⟩ = false ∧ W.frozen? ⟨w.heap.size + 1 + 1, 1, none⟩ = false ∧
    W.cell? ⟨n8, 0, none⟩ = some e0 ∧ W.cell? ⟨n8, 1, none⟩ = some e1 ∧ W.frozen? ⟨n8, 0, none⟩ = false ∧ W.frozen? ⟨n8, 1, none⟩ = false ∧ n8 < W.heap.size :=
  ⟨cell_of_row _ _ 0 _ _ _ h.bod, cell_of_row _ _ 1 _ _ _ h.bod, cell_of_row _ _ 0 _ _ _ h.res, cell_of_row _ _ 1 _ _ _ h.res, frozen_of_row _ _ 0 _ _ h.res, frozen_of_row _ _ 1 _ _ h.res, cell_of_row _ _ 0 _ _ _ h.out, cell_of_row _ _ 1 _ _ _ h.out, frozen_of_row _ _ 0 _ _ h.out, frozen_of_row _ _ 1 _ _ h.out, lt_of_block h.out⟩

theorem okL_map_bad {T : List Int} {s : Int} {n : Nat} (h : n < T.length) (g : okT (T[n] + s) = false) : okL (T.map (· + s)) = false := okL_bad (k := n) (by rw [List.length_map]; exact h) (by rw [List.getElem_map]; exact g)
theorem okL_map_step {T : List Int} {s : Int} {n : Nat} (h : n < T.length) (g : okL ((T.take n).map (· + s)) = true) (g2 : okT (T[n] + s) = true) : okL ((T.take (n + 1)).map (· + s)) = true := by
  rw [show T.take (n + 1) = T.take n ++ [T[n]] by rw [List.take_add_one, List.getElem?_eq_getElem h]; rfl, List.map_append, okL_append, g]
  simp [okL, g2]
theorem map_step {T : List Int} {s : Int} {n : Nat} (h : n < T.length) : (T.take n).map (· + s) ++ [T[n] + s] = (T.take (n + 1)).map (· + s) := by
  rw [show T.take (n + 1) = T.take n ++ [T[n]] by rw [List.take_add_one, List.getElem?_eq_getElem h]; rfl, List.map_append]
  rfl
/-- What the region of the append stands on. -/
def RawSh (w : World) (n8 b' o' n cap len : Nat) (t : Int) (A : Array Value) (br : Bool) (w1 : World) : Prop := w1.cell? ⟨w.heap.size + 1, 0, none⟩ = some (.slice (some ⟨b', o', none⟩) len cap) ∧ w1.cell? ⟨b', o' + n, none⟩ = some (.int .i64 t) ∧ R4e w n8 w1 A #[.slice (some ⟨b', o', none⟩) len cap, .bool br] (.bool br)
theorem rawSh {w W : World} {n8 b' o' n cap len : Nat} {t : Int} {A : Array Value} {br : Bool} (hx : ∀ w1, Below w.heap.size w w1 → w1.cell? ⟨b', o' + n, none⟩ = some (.int .i64 t)) (h : R4e w n8 W A #[.slice (some ⟨b', o', none⟩) len cap, .bool br] (.bool br)) : RawSh w n8 b' o' n cap len t A br W :=
  ⟨by obtain ⟨u, h⟩ := h; exact cell_of_row _ _ 0 _ _ _ h.bod, hx _ h.low, h⟩
end Go.Proofs.Ytedfajokiblfhaa
