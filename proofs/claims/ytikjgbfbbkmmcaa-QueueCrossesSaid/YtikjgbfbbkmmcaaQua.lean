/- First come first served, in plain words: no plan's starts, in order, are earlier; what a longer cook, more vessels do. -/
import Derived.Test.YtikjgbfbbkmmcaaGt
namespace Go.Proofs.Ytikjgbfbbkmmcaa

/-- The start of the i-th basket by first come first served: c tells when each came, m vessels, p ticks a cook. -/
def fcS (c : Nat → Int) (m : Nat) (p : Int) (i : Nat) : Int :=
  if i < m ∨ m = 0 then c i else max (c i) (fcS c m p (i - m) + p)
termination_by i
decreasing_by omega
theorem fcS_lt {c : Nat → Int} {m : Nat} {p : Int} {i : Nat} (h : i < m) : fcS c m p i = c i := by
  rw [fcS, if_pos (.inl h)]
theorem fcS_ge {c : Nat → Int} {m : Nat} {p : Int} {i : Nat} (hm : 0 < m) (h : m ≤ i) : fcS c m p i = max (c i) (fcS c m p (i - m) + p) := by
  rw [fcS, if_neg (by omega)]
theorem fcS_came (c : Nat → Int) (m : Nat) (p : Int) (i : Nat) : c i ≤ fcS c m p i := by
  rw [fcS]
  split
  · omega
  · exact Int.le_max_left _ _
theorem fcS_mono {c : Nat → Int} {m : Nat} {p : Int} (hm : 0 < m) (hc : ∀ i, c i ≤ c (i + 1)) (_ : 0 ≤ p) : ∀ i, fcS c m p i ≤ fcS c m p (i + 1) := by
  intro i
  induction i using Nat.strongRecOn with
  | _ i ih =>
    have h1 := hc i
    have h2 := fcS_came c m p (i + 1)
    by_cases hi : i < m
    · rw [fcS_lt hi]; omega
    · rw [fcS_ge hm (by omega : m ≤ i), fcS_ge hm (by omega : m ≤ i + 1)]
      have h3 := ih (i - m) (by omega)
      rw [show i - m + 1 = i + 1 - m by omega] at h3
      omega
section
variable {α : Type}
end
/-- The starts of a plan: a vessel and a tick for each basket. -/
structure PlanOk (c : Nat → Int) (m : Nat) (p : Int) (x : List (Nat × Int)) : Prop where
  ves : ∀ y ∈ x, y.1 < m
  came : ∀ i (h : i < x.length), c i ≤ x[i].2
  apart : x.Pairwise fun y z => y.1 = z.1 → p ≤ y.2 - z.2 ∨ p ≤ z.2 - y.2
end Go.Proofs.Ytikjgbfbbkmmcaa
