/- Plain math of cut sums: for the statements on running sums. -/
import Derived.Test.YtfngmpkceceomaaSf
namespace Go.Proofs.Ytfngmpkceceomaa

theorem cutN_min (a b : Nat) : cutN a b = min (a + b) 1000000000000000000 := rfl
theorem foldl_cut (f : Int → Nat) (l : List Int) (a : Nat) : l.foldl (fun a t => cutN a (f t)) (min a 1000000000000000000) = min (a + (l.map f).sum) 1000000000000000000 := by
  induction l generalizing a with
  | nil => simp
  | cons t l ih =>
    rw [List.foldl_cons, List.map_cons, List.sum_cons, cutN_min]
    have h : min (min a 1000000000000000000 + f t) 1000000000000000000 = min (a + f t) 1000000000000000000 := by omega
    rw [h, ih (a + f t)]
    congr 1
    omega
/-- A cut sum is the sum, cut. -/
theorem sumL_eq (f : Int → Nat) (l : List Int) : sumL f l = min (l.map f).sum 1000000000000000000 := by
  have h := foldl_cut f l 0
  rw [Nat.zero_add] at h
  exact h
/-- Lists one after the other add up, cut. -/
theorem sumL_append (f : Int → Nat) (l m : List Int) : sumL f (l ++ m) = cutN (sumL f l) (sumL f m) := by
  rw [sumL_eq, sumL_eq, sumL_eq, List.map_append, List.sum_append, cutN_min]
  omega
theorem sumL_take_mono (f : Int → Nat) (l : List Int) {j k : Nat} (h : j ≤ k) : sumL f (l.take j) ≤ sumL f (l.take k) := by
  have e : l.take k = l.take j ++ (l.take k).drop j := by
    conv => lhs; rw [← List.take_append_drop j (l.take k), List.take_take, Nat.min_eq_left h]
  rw [e, sumL_append, cutN_min]
  have := sumL_le f (l.take j)
  omega
/-- The first sum that reaches a lethality: one earlier has not. -/
def FirstAt (f : Int → Nat) (l : List Int) (q : Nat) (n : Nat) : Prop := 1 ≤ n ∧ n ≤ l.length ∧ q ≤ sumL f (l.take n) ∧ sumL f (l.take (n - 1)) < q
theorem FirstAt.same {f : Int → Nat} {l : List Int} {q n m : Nat} (h : FirstAt f l q n) (k : FirstAt f l q m) : n = m := by
  obtain ⟨h1, _, h3, h4⟩ := h
  obtain ⟨k1, _, k3, k4⟩ := k
  rcases Nat.lt_trichotomy n m with e | e | e
  · have := sumL_take_mono f l (show n ≤ m - 1 by omega); omega
  · exact e
  · have := sumL_take_mono f l (show m ≤ n - 1 by omega); omega
end Go.Proofs.Ytfngmpkceceomaa
