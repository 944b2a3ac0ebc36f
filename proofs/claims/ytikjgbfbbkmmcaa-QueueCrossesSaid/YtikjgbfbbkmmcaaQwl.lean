/- Lists of baskets that come in. -/
import Derived.Test.YtikjgbfbbkmmcaaG02
import Derived.ChangeMaps5
import Derived.ChangeOld
import Derived.Deep.Fields
import Derived.Deep.Slices
import Derived.WideShapes
import Derived.ChangeAt
import Derived.ProofKit
import Derived.OpenShut
import Derived.Lib.SmallJoins
namespace Go.Proofs.Ytikjgbfbbkmmcaa
open Go.ChangeShapes Go.WideShapes Go.ChangeAt Go.RowKit Go.Joins Go.Deep

theorem own : ownKnob Try.prog.godebug = none := by kernel_rfl
theorem laidOut : laidOutB Try.prog = true := by kernel_rfl
section
variable {H : Type} {enc : TypeId × Value → H} {P : Program} {w : World} {base : Nat} {spare : Nat → Bool} {held : Bool}
theorem plain_ofE {w : World} {a : Addr} {v : Value} (h : w.cell? (a.add 0) = some v) : ∃ b o, a = ⟨b, o, none⟩ := by
  obtain ⟨b, off, spot⟩ := a
  have hspot : spot = none := by simpa [Addr.add] using World.cell?_spot h
  subst hspot
  exact ⟨b, off, rfl⟩
/-- A list of baskets that came in: read, its products not too long for Go. -/
def InB (w : World) (v : Value) (l : List Bsk) : Prop := RowE encB w v l ∧ ∀ x ∈ l, x.pr.size ≤ maxLen
end
end Go.Proofs.Ytikjgbfbbkmmcaa
