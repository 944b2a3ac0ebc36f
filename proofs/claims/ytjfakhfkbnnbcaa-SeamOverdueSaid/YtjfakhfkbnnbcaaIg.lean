/- Walk of the law's raw: contract. -/
import Derived.Test.YtjfakhfkbnnbcaaIf
import Derived.BigRegion
namespace Go.Proofs.Ytjfakhfkbnnbcaa
open Go.RowKit

/-- A stretch near enough. -/
def okP (p : Pr) : Bool := decide (max p.x p.y ≤ 1000000000000000) && decide (-1000000000000000 ≤ min p.x p.y)
def rawB (l : List Pr) : Bool := decide (l.length ≤ 300) && l.all okP
theorem rawB_bad {l : List Pr} {k : Nat} (h : k < l.length) (g : okP l[k] = false) : rawB l = false := by
  unfold rawB
  rw [Bool.and_eq_false_iff]
  right
  rw [List.all_eq_false]
  exact ⟨l[k], List.getElem_mem h, by rw [g]; simp⟩
theorem rawB_end {l : List Pr} (h : (l.take l.length).all okP = true) : rawB l = decide (l.length ≤ 300) := by
  unfold rawB
  rw [List.take_length] at h
  rw [h, Bool.and_true]
theorem all_take {l : List Pr} {k : Nat} (h : k < l.length) (g : (l.take k).all okP = true) (g2 : okP l[k] = true) : (l.take (k + 1)).all okP = true := by
  rw [List.take_succ_eq_append_getElem h, List.all_append, g]
  simp [g2]
theorem rawB_iff {l : List Pr} : rawB l = true ↔ l.length ≤ 300 ∧ RawL l := by
  unfold rawB RawL
  simp only [Bool.and_eq_true, decide_eq_true_iff, List.all_eq_true, okP]
  constructor
  · rintro ⟨h1, h2⟩
    refine ⟨h1, fun p hp => ?_⟩
    have := h2 p hp
    omega
  · rintro ⟨h1, h2⟩
    refine ⟨h1, fun p hp => ?_⟩
    have := h2 p hp
    omega
end Go.Proofs.Ytjfakhfkbnnbcaa
