/- A body that comes in, opened, with its slice's capacity. -/
import Derived.Test.YtpkcnojcklmhmaaQl
import Derived.Test.YtpkcnojcklmhmaaHn
namespace Go.Proofs.Ytpkcnojcklmhmaa
open Go.ChangeShapes Go.WideShapes Go.ChangeAt Go.RowKit Go.Joins Go.Deep

section
variable {H : Type} {enc : TypeId × Value → H} {w : World} {base : Nat} {spare : Nat → Bool} {held : Bool}
theorem rowC_of_ints {v : Value} {n : Nat} {y : DataW H × List MemPlace} (h : DataW.trod enc Try.prog w base spare held n 24 [v] = some y) : ∃ l : List Int, RowI w v l ∧ CapR v l := by
  rcases open_ints Try.underlying24 Try.underlying3 cellsI h with ⟨hcs, hx⟩ | ⟨a, len', cap', zs, hcs, _, hl, hm, hz, hx, hcell, hwz⟩
  · simp at hcs
    subst hcs
    exact ⟨[], .inl ⟨_, _, rfl, rfl⟩, _, _, rfl, Nat.le_refl _, by omega⟩
  · simp at hcs
    subst hcs
    have hz' : len' ≤ zs.length := by rw [hz]; split <;> omega
    have hm' : cap' ≤ 9223372036854775807 := by unfold maxLen at hm; omega
    clear hz
    by_cases hp : 0 < zs.length
    · obtain ⟨b, off, rfl, hc⟩ := ints_at hcell hp
      have ht : (zs.take len').length = len' := by rw [List.length_take]; omega
      refine ⟨zs.take len', .inr ⟨b, off, cap', by rw [ht], by rw [ht]; omega, fun k hk => ?_⟩, _, _, by rw [ht], by rw [ht]; exact hl, hm'⟩
      rw [ht] at hk
      rw [hc k (by omega), List.getElem_take]
      simp [List.getD, show k < zs.length by omega]
    · obtain rfl : len' = 0 := by omega
      exact ⟨[], .inl ⟨_, _, rfl, rfl⟩, _, _, rfl, hl, hm'⟩
set_option maxRecDepth 100000 in
theorem open_bodyC {r : Reach} {b0 : Nat} {v : Value} {d : DataW H} {p : List MemPlace} (hv : Value.okWide Try.prog w r b0 26 v) (h : DataW.Trod enc Try.prog w base spare held 26 v d p) :
    ∃ (u : Value) (l : List Int) (br : Bool), v = .agg #[u, .bool br] ∧ RowI w u l ∧ CapR u l := by
  obtain ⟨c0, c1, y0, y1, m, rfl, _, _, hy0, hy1⟩ := open_agg2 Try.underlying26 (by kernel_rfl) cellsB hv h
  obtain ⟨l, hl⟩ := rowC_of_ints hy0
  obtain ⟨br, e1, _⟩ := DataW.trod_bool Try.underlying4 hy1
  simp at e1
  subst e1
  exact ⟨c0, l, br, rfl, hl⟩
end
end Go.Proofs.Ytpkcnojcklmhmaa
