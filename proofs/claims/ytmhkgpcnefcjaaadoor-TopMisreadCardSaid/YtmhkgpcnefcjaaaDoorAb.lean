/- Rows of texts: those that come in, and what keeps them. -/
import Derived.Test.YtmhkgpcnefcjaaaDoorAa
import Derived.Test.YtmhkgpcnefcjaaaDoorDz
import Derived.SliceStrings
namespace Go.Proofs.YtmhkgpcnefcjaaaDoor
open Go.ChangeShapes Go.WideShapes Go.ChangeAt Go.RowKit Go.Joins Go.Deep

/-- A slice of texts that is read. -/
def RowS (w : World) (v : Value) (l : List ByteArray) : Prop :=
  ∃ (a : Option Addr) (b o cap : Nat), v = .slice a l.length cap ∧ (l = [] ∨ a = some ⟨b, o, none⟩) ∧ l.length ≤ maxLen ∧ ∀ j (h : j < l.length), w.cell? ⟨b, o + j, none⟩ = some (.string l[j])
theorem RowS.keep {w w2 : World} {v : Value} {l : List ByteArray} (h : RowS w v l) (hb : Below w.heap.size w w2) : RowS w2 v l := by
  obtain ⟨a, b, o, cap, h1, h2, h3, h4⟩ := h
  exact ⟨a, b, o, cap, h1, h2, h3, fun j hj => keep_cell hb (h4 j hj)⟩
theorem RowS.nil (w : World) (a : Option Addr) (cap : Nat) : RowS w (.slice a 0 cap) [] := ⟨a, 0, 0, cap, rfl, .inl rfl, Nat.zero_le _, fun j h => absurd h (Nat.not_lt_zero j)⟩
theorem RowS.most {w : World} {v : Value} {l : List ByteArray} (h : RowS w v l) : l.length ≤ maxLen := by
  obtain ⟨_, _, _, _, _, _, h3, _⟩ := h
  exact h3
section
variable {H : Type} {enc : TypeId × Value → H} {w : World} {base : Nat} {spare : Nat → Bool} {held : Bool}
theorem strs_at {a : Addr} {zs : List ByteArray} (h : ∀ i, i < zs.length → w.cell? (a.add i) = some (.string (zs.getD i ByteArray.empty))) (hp : 0 < zs.length) :
    ∃ b off, a = ⟨b, off, none⟩ ∧ ∀ j, j < zs.length → w.cell? ⟨b, off + j, none⟩ = some (.string (zs.getD j ByteArray.empty)) := by
  obtain ⟨b, off, spot⟩ := a
  have hspot : spot = none := by simpa [Addr.add] using World.cell?_spot (h 0 hp)
  subst hspot
  exact ⟨b, off, rfl, fun j hj => by rw [← Go.WideShapes.add_plain]; exact h j hj⟩
set_option maxRecDepth 100000 in
theorem cellsS : Tryd.prog.cellsOf 9 = 1 := by kernel_rfl
set_option maxRecDepth 100000 in
theorem open_texts {r : Reach} {b0 : Nat} {v : Value} {d : DataW H} {p : List MemPlace} (hv : Value.okWide Tryd.prog w r b0 26 v) (h : DataW.Trod enc Tryd.prog w base spare held 26 v d p) :
    ∃ l : List ByteArray, RowS w v l := by
  obtain ⟨a0, len, cap, rfl⟩ := okWide_slice Tryd.underlying26 hv
  obtain ⟨fuel, hf⟩ := h
  rcases open_strings Tryd.underlying26 Tryd.underlying9 cellsS hf with ⟨hcs, hx⟩ | ⟨a, len', cap', zs, hcs, _, hl, hm, hz, hx, hcell, hwz⟩
  · simp [Value.cells] at hcs
    obtain ⟨rfl, rfl, rfl⟩ := hcs
    exact ⟨[], RowS.nil w _ _⟩
  · simp [Value.cells] at hcs
    obtain ⟨rfl, rfl, rfl⟩ := hcs
    have hz' : len ≤ zs.length := by rw [hz]; split <;> omega
    clear hz
    by_cases hp : 0 < zs.length
    · obtain ⟨b, off, rfl, hc⟩ := strs_at hcell hp
      have ht : (zs.take len).length = len := by rw [List.length_take]; omega
      refine ⟨zs.take len, _, b, off, cap, by rw [ht], .inr rfl, by rw [ht]; omega, fun k hk => ?_⟩
      rw [ht] at hk
      rw [hc k (by omega), List.getElem_take]
      simp [List.getD, show k < zs.length by omega]
    · obtain rfl : len = 0 := by omega
      exact ⟨[], RowS.nil w _ _⟩
end
end Go.Proofs.YtmhkgpcnefcjaaaDoor
