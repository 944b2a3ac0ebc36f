/- Texts of this seat, one behind the other. -/
import Derived.Test.YtihbjimnjhfpeaaGreatR29
import Derived.Test.YtihbjimnjhfpeaaGreatR01
import Derived.Deep.QuietTactic
import Derived.Test.YtihbjimnjhfpeaaGreatR06
/- Walk of Follow of the reference: contract. -/
namespace Go.Proofs.YtihbjimnjhfpeaaGreat
open Go.RowKit Go.Shelf

/-- The bodies behind no, one, .., n ticks. -/
def folN (c : Cn) (x : Bd) (l : List Int) (n : Nat) : List Bd := (List.range (n + 1)).map fun k => runS c x (l.take k)
/-- What the region of the append stands on. -/
def RawFo (w : World) (A B : Array Value) (g n ba o : Nat) (u b t : Value) (w1 : World) : Prop :=
  w1.cell? ⟨g, n * 2, none⟩ = some u ∧ w1.cell? ⟨g, n * 2 + 1, none⟩ = some b ∧ w1.cell? ⟨ba, o + n, none⟩ = some t ∧ R2 w w1 A B
theorem RawFo.keep {w W W' : World} {A B : Array Value} {g n ba o : Nat} {u b t : Value} (h : RawFo w A B g n ba o u b t W) (hb : Below W.heap.size W W') : RawFo w A B g n ba o u b t W' :=
  ⟨keep_cell hb h.1, keep_cell hb h.2.1, keep_cell hb h.2.2.1, h.2.2.2.keep hb⟩
end Go.Proofs.YtihbjimnjhfpeaaGreat

/- A region that draws its order, whose operations only read, and whose callees read and may make memory of their own: one walk, in the order of the text. No seat's names. -/
namespace Go.Proofs.YtihbjimnjhfpeaaGreat
open Go.RowKit

/-- A world in which all that lay in w lies as it was. -/
structure LowBy (w : World) where
  W : World
  low : Below w.heap.size w W
instance (w : World) : Inhabited (LowBy w) := ⟨⟨w, Below.refl _ _⟩⟩
section
variable {P : Program}
end
end Go.Proofs.YtihbjimnjhfpeaaGreat

/- Walks of Follow of both, whatever comes in; of Step, Run and SameBodies of the reference: contracts. -/
namespace Go.Proofs.YtihbjimnjhfpeaaGreat
open Go.RowKit

/-- What Follow hands back. -/
def folO (r l a b k a2 b2 : Int) (x : Bd) (p : List Int) : List Bd × Int :=
  if chkE (bothB r l a b k a2 b2 x.1 x.2) p = 0 then (folL (cnOf r l a b k a2 b2) x p, 0) else ([], chkE (bothB r l a b k a2 b2 x.1 x.2) p)
end Go.Proofs.YtihbjimnjhfpeaaGreat
