/- Walks of Coldest, Hottest and Centre of both: contracts. -/
import Derived.Test.YtedfajokiblfhaaA6
namespace Go.Proofs.Ytedfajokiblfhaa
open Go.RowKit

/-- Three numbers come back. -/
def TripP (p t n : Int) (w : World) (e : Ending) (w' : World) : Prop := e = .returned (.tuple #[.int .i64 p, .int .i64 t, .int .i64 n]) ∧ Below w.heap.size w w'
/-- The foremost place of a body, its temperature, and an error. -/
def bestP (lt : Int → Int → Bool) (v : Bool) (T : List Int) : Int := if v then ((bestT lt T T.length).1 : Nat) else 0
def bestV (lt : Int → Int → Bool) (v : Bool) (T : List Int) : Int := if v then (bestT lt T T.length).2 else 0
def bestE (v : Bool) : Int := if v then 0 else 1
theorem below_two {w w' : World} (h : ∃ n, w' = w.drewN n) : Below w.heap.size w w' := by obtain ⟨n, rfl⟩ := h; exact bdrewN (Below.refl _ _)

/-- What Coldest and Hottest hand back. -/
def BestP (lt : Int → Int → Bool) (v : Bool) (T : List Int) (w : World) : Ending → World → Prop := TripP (bestP lt v T) (bestV lt v T) (bestE v) w
end Go.Proofs.Ytedfajokiblfhaa
