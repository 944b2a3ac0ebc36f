/- Texts of this seat, one behind the other. -/
import Derived.Test.YtihbjimnjhfpeaaGreatR06
import Derived.Test.YtihbjimnjhfpeaaGreatR25
import Derived.Test.YtihbjimnjhfpeaaGreatR02
import Derived.Test.YtihbjimnjhfpeaaGreatR16
import Derived.BigQuiet
/- Walks of Coldest, Hottest and Centre of both: contracts. -/
namespace Go.Proofs.YtihbjimnjhfpeaaGreat
open Go.RowKit

/-- Three numbers come back. -/
def TripP (p t n : Int) (w : World) (e : Ending) (w' : World) : Prop := e = .returned (.tuple #[.int .i64 p, .int .i64 t, .int .i64 n]) ∧ Below w.heap.size w w'
/-- The foremost place of a body, its temperature, and an error. -/
def bestP (lt : Int → Int → Bool) (v : Bool) (T : List Int) : Int := if v then ((bestT lt T T.length).1 : Nat) else 0
def bestV (lt : Int → Int → Bool) (v : Bool) (T : List Int) : Int := if v then (bestT lt T T.length).2 else 0
def bestE (v : Bool) : Int := if v then 0 else 1
/-- What Coldest and Hottest hand back. -/
def BestP (lt : Int → Int → Bool) (v : Bool) (T : List Int) (w : World) : Ending → World → Prop := TripP (bestP lt v T) (bestV lt v T) (bestE v) w
end Go.Proofs.YtihbjimnjhfpeaaGreat

/- Walks of least, Coldest, Hottest and Centre of the reference, and of Centre: contracts. -/
namespace Go.Proofs.YtihbjimnjhfpeaaGreat
open Go.RowKit

theorem Box1.two {w w1 : World} {d0 d1 : Value} (h : Box1 w w1 #[d0, d1]) : w1.cell? ⟨w.heap.size, 0, none⟩ = some d0 ∧ w1.cell? ⟨w.heap.size, 1, none⟩ = some d1 := ⟨h.fst 0, h.fst 1⟩
end Go.Proofs.YtihbjimnjhfpeaaGreat

/- Walk of After of the reference: contract. -/
namespace Go.Proofs.YtihbjimnjhfpeaaGreat
open Go.RowKit

/-- What the region of the append stands on. -/
def RawAf (w : World) (n8 : Nat) (A B : Array Value) (u br : Value) (w1 : World) : Prop := w1.cell? ⟨n8, 0, none⟩ = some u ∧ R4 w n8 w1 A B #[.slice none 0 0, .bool false] #[u, br]
theorem R4.set1 {w W : World} {n8 : Nat} {A B R : Array Value} {u0 u br : Value} (h : R4 w n8 W A B R #[u0, br]) : R4 w n8 (W.setCell ⟨n8, 1, none⟩ u) A B R #[u0, u] := by
  have h8 := h.h8
  exact ⟨(heap_setCell_other _ _ _ _ (show w.heap.size ≠ n8 by omega)).trans h.can, (heap_setCell_other _ _ _ _ (show w.heap.size + 1 ≠ n8 by omega)).trans h.bod, (heap_setCell_other _ _ _ _ (show w.heap.size + 1 + 1 ≠ n8 by omega)).trans h.res, heap_setCell_same W n8 1 _ _ u h.out, h8, h.low.setCell (p := ⟨n8, 1, none⟩) (by show w.heap.size ≤ n8; omega) u⟩
theorem R4.break {w W : World} {n8 : Nat} {A B R : Array Value} {u0 br : Value} (h : R4 w n8 W A B R #[u0, br]) : W.cell? ⟨w.heap.size, 4, none⟩ = A[4]? := cell_of_row _ _ 4 _ _ _ h.can
end Go.Proofs.YtihbjimnjhfpeaaGreat
