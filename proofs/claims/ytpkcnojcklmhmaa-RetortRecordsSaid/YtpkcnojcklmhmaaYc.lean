/- Walk of the reference's part: contract. -/
import Derived.Test.YtpkcnojcklmhmaaYb
namespace Go.Proofs.Ytpkcnojcklmhmaa
open Go.RowKit

/-- A step's first and last stretch of readings. -/
structure PartP (n : Nat) (r : Nat → Rd) (st : Int) (f t : Nat) : Prop where
  le : f ≤ t
  top : t ≤ n
  before : ∀ j, j < f → (r j).s ≠ st
  at_f : f = n ∨ (r f).s = st
  mid : ∀ j, f ≤ j → j < t → (r j).s = st
  at_t : t = n ∨ (r t).s ≠ st
theorem PartP.one {n : Nat} {r : Nat → Rd} {st : Int} {f t f2 t2 : Nat} (h : PartP n r st f t) (g : PartP n r st f2 t2) : f = f2 ∧ t = t2 := by
  have hf : f = f2 := by
    rcases Nat.lt_trichotomy f f2 with h1 | h1 | h1
    · rcases h.at_f with h2 | h2
      · have := g.le; have := g.top; omega
      · exact absurd h2 (g.before f h1)
    · exact h1
    · rcases g.at_f with h2 | h2
      · have := h.le; have := h.top; omega
      · exact absurd h2 (h.before f2 h1)
  subst hf
  refine ⟨rfl, ?_⟩
  rcases Nat.lt_trichotomy t t2 with h1 | h1 | h1
  · rcases h.at_t with h2 | h2
    · have := g.top; omega
    · exact absurd (g.mid t h.le h1) h2
  · exact h1
  · rcases g.at_t with h2 | h2
    · have := h.top; omega
    · exact absurd (h.mid t2 g.le h1) h2
end Go.Proofs.Ytpkcnojcklmhmaa
