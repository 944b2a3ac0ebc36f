/- Plans and proofs: never both; first come first served has the one or the other. -/
import Derived.Test.YtikjgbfbbkmmcaaQub
namespace Go.Proofs.Ytikjgbfbbkmmcaa

section
variable {c : Nat → Int} {m : Nat} {p w : Int}
/-- What a valid plan is: one start a basket, none too late. -/
structure PlanIn (c : Nat → Int) (m : Nat) (p w : Int) (x : List (Nat × Int)) : Prop extends PlanOk c m p x where
  late : ∀ i (h : i < x.length), x[i].2 ≤ c i + w
/-- A proof: baskets so many places apart that they can't all be in time. -/
def ProofOk (c : Nat → Int) (m : Nat) (p w : Int) (n first last : Nat) : Prop := ∃ k : Nat, 0 < k ∧ last = first + k * m ∧ last < n ∧ c last + w < c first + (k : Int) * p
theorem srv_at (hm : 0 < m) (h0 : ∀ i, 0 ≤ c i) (hc : ∀ i, c i ≤ c (i + 1)) (hp : 0 ≤ p) {n i : Nat} (hi : i < (srv c m p n).2.length) : (srv c m p n).2[i].2 = fcS c m p i := by
  have h := (srv_inv hm h0 hc hp n).2
  have h2 : ((srv c m p n).2.map (·.2))[i]? = some ((srv c m p n).2[i].2) := by simp [hi]
  rw [h] at h2
  have hn := (srv_len (c := c) (m := m) (p := p) n).1
  simp [show i < n by omega] at h2
  exact h2.symm
end
end Go.Proofs.Ytikjgbfbbkmmcaa
