/- Walks of least, Coldest, Hottest and Centre of the reference, and of Centre: contracts. -/
import Derived.Test.YtedfajokiblfhaaFa
namespace Go.Proofs.Ytedfajokiblfhaa
open Go.RowKit

theorem Box1.two {w w1 : World} {d0 d1 : Value} (h : Box1 w w1 #[d0, d1]) : w1.cell? ⟨w.heap.size, 0, none⟩ = some d0 ∧ w1.cell? ⟨w.heap.size, 1, none⟩ = some d1 := ⟨h.fst 0, h.fst 1⟩
theorem bestT_of {lt : Int → Int → Bool} {T : List Int} {k j : Nat} (hj : j < T.length) (hk : k ≤ T.length) (h : (bestT lt T k).1 = j) : (bestT lt T k).2 = T[j] := by
  obtain ⟨h1, h2⟩ := bestT_at lt T k hk (by omega)
  subst h
  rw [← h2, getD_at h1]
theorem bestT_step {lt : Int → Int → Bool} {T : List Int} {k j : Nat} (hj : j < T.length) (hk : k < T.length) (h : (bestT lt T k).1 = j) : (bestT lt T (k + 1)).1 = if lt T[k] T[j] then k else j := by
  have h2 := bestT_of hj (by omega) h
  cases hb : lt T[k] T[j]
  · rw [bestT_no (v := T[k]) (getD_at hk) (by rw [h2]; exact hb), h]; rfl
  · rw [bestT_yes (v := T[k]) (getD_at hk) (by rw [h2]; exact hb)]; rfl

end Go.Proofs.Ytedfajokiblfhaa
