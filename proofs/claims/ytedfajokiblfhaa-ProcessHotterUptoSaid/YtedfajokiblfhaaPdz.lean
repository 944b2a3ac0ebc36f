/- A list that comes in is no longer than its reading is of bulk. -/
import Derived.Test.YtedfajokiblfhaaPdy
namespace Go.Proofs.Ytedfajokiblfhaa
open Go.ChangeShapes Go.WideShapes Go.ChangeAt Go.RowKit Go.Joins Go.Deep

theorem bulk_one {H : Type} (d : DataW H) : 1 ≤ Rows.uptoBulk d := by
  unfold Rows.uptoBulk
  split <;> omega
theorem bulk_len {H : Type} : ∀ l : List (DataW H), l.length ≤ Rows.uptoBulkAll l
  | [] => Nat.zero_le _
  | d :: r => by
    have h1 := bulk_one d
    have h2 := bulk_len r
    rw [Rows.uptoBulkAll, List.length_cons]
    omega
section
variable {H : Type} {enc : TypeId × Value → H} {w : World} {base : Nat} {spare : Nat → Bool} {held : Bool}
set_option maxRecDepth 100000 in
theorem open_rowB {r : Reach} {b0 : Nat} {v : Value} {d : DataW H} {p : List MemPlace} (hv : Value.okWide Try.prog w r b0 28 v) (h : DataW.Trod enc Try.prog w base spare held 28 v d p) :
    ∃ l : List Int, RowI w v l ∧ l.length ≤ Rows.uptoBulk d := by
  obtain ⟨l, hl⟩ := open_rowI hv h
  refine ⟨l, hl, ?_⟩
  obtain ⟨a0, len, cap, rfl⟩ := okWide_slice Try.underlying28 hv
  obtain ⟨fuel, hf⟩ := h
  obtain ⟨a2, cap2, he⟩ := hl.shape
  cases he
  rcases open_ints Try.underlying28 Try.underlying3 cellsI hf with ⟨hcs, hx⟩ | ⟨a, len', cap', zs, hcs, hb, hl', hm, hz, hx, _, _⟩
  · simp [Value.cells] at hcs
    obtain ⟨_, h0, _⟩ := hcs
    rw [h0]
    exact Nat.zero_le _
  · simp [Value.cells] at hcs
    obtain ⟨_, rfl, rfl⟩ := hcs
    cases hx
    rw [Rows.uptoBulk]
    have h1 := bulk_len (H := H) (lits .i64 (zs.take l.length))
    have h2 : (lits (H := H) .i64 (zs.take l.length)).length = l.length := by
      have h3 : l.length ≤ zs.length := by rw [hz]; split <;> omega
      simp [lits]
      omega
    omega
end
end Go.Proofs.Ytedfajokiblfhaa
