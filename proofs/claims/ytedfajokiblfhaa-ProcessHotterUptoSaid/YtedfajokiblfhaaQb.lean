/- Rows of slices: own ones, turned round; walk of slices.Reverse: contract. -/
import Derived.Test.YtedfajokiblfhaaA1
import Derived.Laws.OwnMore
import Derived.OwnWalk
import Derived.BigQuiet
namespace Go.Proofs.Ytedfajokiblfhaa
open Go.RowKit

/-- A list with its first k and last k values exchanged. -/
def revK (xs : List Value) (k : Nat) : List Value := (List.range xs.length).map fun j => if j < k ∨ xs.length ≤ j + k then xs.getD (xs.length - 1 - j) undef else xs.getD j undef
theorem revK_len (xs : List Value) (k : Nat) : (revK xs k).length = xs.length := by simp [revK]
theorem revK_at {xs : List Value} {k j : Nat} (h : j < xs.length) : (revK xs k)[j]? = some (if j < k ∨ xs.length ≤ j + k then xs.getD (xs.length - 1 - j) undef else xs.getD j undef) := by simp [revK, h]
theorem revK_zero (xs : List Value) : revK xs 0 = xs := by
  apply List.ext_getElem (by simp [revK])
  intro j h1 h2
  have : ¬ (j < 0 ∨ xs.length ≤ j + 0) := by omega
  simp only [revK, List.getElem_map, List.getElem_range, if_neg this]
  simp [List.getD, h2]
theorem revK_end {xs : List Value} {k : Nat} (h : xs.length ≤ 2 * k + 1) : revK xs k = xs.reverse := by
  apply List.ext_getElem (by simp [revK])
  intro j h1 h2
  rw [List.length_reverse] at h2
  simp only [revK, List.getElem_map, List.getElem_range, List.getElem_reverse]
  by_cases g : j < k ∨ xs.length ≤ j + k
  · rw [if_pos g]
    simp [List.getD, show xs.length - 1 - j < xs.length by omega]
  · rw [if_neg g]
    have e : xs.length - 1 - j = j := by omega
    simp only [e]
    simp [List.getD, h2]
theorem revK_step {xs : List Value} {k : Nat} (h : 2 * k + 1 < xs.length) : ((revK xs k).set k (xs.getD (xs.length - 1 - k) undef)).set (xs.length - 1 - k) (xs.getD k undef) = revK xs (k + 1) := by
  apply List.ext_getElem (by simp [revK])
  intro j h1 h2
  have hj : j < xs.length := by simpa [revK] using h2
  rw [List.getElem_set]
  by_cases e1 : xs.length - 1 - k = j
  · rw [if_pos e1]
    have g : j < k + 1 ∨ xs.length ≤ j + (k + 1) := by omega
    have e2 : xs.length - 1 - j = k := by omega
    simp only [revK, List.getElem_map, List.getElem_range, if_pos g, e2]
  · rw [if_neg e1, List.getElem_set]
    by_cases e2 : k = j
    · subst e2
      have g : k < k + 1 ∨ xs.length ≤ k + (k + 1) := by omega
      simp only [if_true, revK, List.getElem_map, List.getElem_range, if_pos g]
    · rw [if_neg e2]
      simp only [revK, List.getElem_map, List.getElem_range]
      by_cases g : j < k ∨ xs.length ≤ j + k
      · have g2 : j < k + 1 ∨ xs.length ≤ j + (k + 1) := by omega
        rw [if_pos g, if_pos g2]
      · have g2 : ¬ (j < k + 1 ∨ xs.length ≤ j + (k + 1)) := by omega
        rw [if_neg g, if_neg g2]
/-- Slices of ints in a row of the call's own. -/
def OwnV (w : World) (base : Nat) (v : Value) (xs : List Value) : Prop := w.ownsRow base 28 1 v xs.length xs
theorem OwnV.keep {w w2 : World} {base : Nat} {v : Value} {xs : List Value} (h : OwnV w base v xs) (hb : Below w.heap.size w w2) : OwnV w2 base v xs := by
  refine ⟨h.1, ?_⟩
  rcases h.2 with h2 | ⟨g, cap, cur, h1, h2, h3, h4⟩
  · exact .inl h2
  · exact .inr ⟨g, cap, cur, h1, h2, (hb.block g (Array.getElem?_eq_some_iff.1 h3).1).trans h3, h4⟩
theorem ownV_some {w : World} {base : Nat} {v : Value} {xs : List Value} (h : OwnV w base v xs) (h0 : 0 < xs.length) : ∃ g cap, v = .slice (some ⟨g, 0, none⟩) xs.length cap ∧ base ≤ g ∧ g < w.heap.size := by
  rcases h.2 with ⟨rfl, h1⟩ | ⟨g, cap, cur, rfl, hb, hg, _⟩
  · omega
  · exact ⟨g, cap, rfl, hb, (Array.getElem?_eq_some_iff.1 hg).1⟩
end Go.Proofs.Ytedfajokiblfhaa
