/- The pool as it lies, and its methods through the interface. -/
import Derived.Test.YtikjgbfbbkmmcaaG03
namespace Go.Proofs.Ytikjgbfbbkmmcaa
open Go.RowKit

theorem evs_set2 : ∀ (l : List Pr) (k : Nat) (d : Pr), k < l.length → ((evs encV l).set (k * 2) (.int .i64 d.x)).set (k * 2 + 1) (.int .i64 d.y) = evs encV (l.set k d)
  | [], k, _, h => absurd h (Nat.not_lt_zero k)
  | a :: l, 0, d, _ => by simp [evs, encV]
  | a :: l, k + 1, d, h => by
    have ih := evs_set2 l k d (by simpa using h)
    have e : (k + 1) * 2 = k * 2 + 1 + 1 := by omega
    rw [e]
    simp only [List.set_cons_succ, evs, ← ih]
    simp [encV]
/-- The vessels exchanged, as they lie. -/
theorem own_swap {g cap base i j : Nat} {l : List Pr} {w : World} (hr : OwnE encV w base 99 (.slice (some ⟨g, 0, none⟩) l.length cap) l) (hi : i < l.length) (hj : j < l.length) :
    OwnE encV (((((w.setCell ⟨g, i * 2, none⟩ (.int .i64 (vat l j).x)).setCell ⟨g, i * 2 + 1, none⟩ (.int .i64 (vat l j).y)).setCell ⟨g, j * 2, none⟩ (.int .i64 (vat l i).x)).setCell ⟨g, j * 2 + 1, none⟩ (.int .i64 (vat l i).y))).drew base 99 (.slice (some ⟨g, 0, none⟩) l.length cap) (swp l i j) := by
  unfold OwnE at hr ⊢
  have h1 := (hr.stored (i * 2) (.int .i64 (vat l j).x)).1
  have h2 := (h1.stored (i * 2 + 1) (.int .i64 (vat l j).y)).1
  rw [show ((evs encV l).set (i * 2) (.int .i64 (vat l j).x)).set (i * 2 + 1) (.int .i64 (vat l j).y) = evs encV (l.set i (vat l j)) from evs_set2 l i (vat l j) hi] at h2
  have h3 := (h2.stored (j * 2) (.int .i64 (vat l i).x)).1
  have h4 := (h3.stored (j * 2 + 1) (.int .i64 (vat l i).y)).1
  rw [show ((evs encV (l.set i (vat l j))).set (j * 2) (.int .i64 (vat l i).x)).set (j * 2 + 1) (.int .i64 (vat l i).y) = evs encV ((l.set i (vat l j)).set j (vat l i)) from evs_set2 _ j (vat l i) (by simpa using hj)] at h4
  rw [swp_len]
  exact h4
theorem grown_swap {g a b c d : Nat} {w : World} {va vb vc vd : Value} : w.grownBy (((((w.setCell ⟨g, a, none⟩ va).setCell ⟨g, b, none⟩ vb).setCell ⟨g, c, none⟩ vc).setCell ⟨g, d, none⟩ vd)).drew (some g) :=
  ⟨rfl, rfl, rfl, by simp, fun k _ hk => by
    have hk : k ≠ g := fun e => hk (by rw [e])
    show ((((w.setCell ⟨g, a, none⟩ va).setCell ⟨g, b, none⟩ vb).setCell ⟨g, c, none⟩ vc).setCell ⟨g, d, none⟩ vd).heap[k]? = _
    rw [heap_setCell_other _ _ _ _ (by exact hk), heap_setCell_other _ _ _ _ (by exact hk), heap_setCell_other _ _ _ _ (by exact hk), heap_setCell_other _ _ _ _ (by exact hk)]⟩
/-- The types that the pool's blocks have. -/
def TV (t : Nat) : Prop := t = 111 ∨ t = 99
/-- A pool at pb that holds a list of vessels. -/
def PoolAt (pb base : Nat) (l : List Pr) (W : World) : Prop := ∃ v, W.heap[pb]? = some (.cells #[v] 111 (0, 0)) ∧ OwnE encV W base 99 v l
section
variable {pb base : Nat} {l : List Pr} {W W' : World}
theorem PoolAt.keep (h : PoolAt pb base l W) (hb : Below W.heap.size W W') : PoolAt pb base l W' := by
  obtain ⟨v, h1, h2⟩ := h
  exact ⟨v, (hb.block _ (Array.getElem?_eq_some_iff.1 h1).1).trans h1, h2.keep hb⟩
theorem PoolAt.lt (h : PoolAt pb base l W) : pb < W.heap.size := by
  obtain ⟨v, h1, _⟩ := h
  exact (Array.getElem?_eq_some_iff.1 h1).1
theorem PoolAt.open (h : PoolAt pb base l W) (hl : l ≠ []) : ∃ g cap cur, W.heap[pb]? = some (.cells #[.slice (some ⟨g, 0, none⟩) l.length cap] 111 (0, 0)) ∧ OwnE encV W base 99 (.slice (some ⟨g, 0, none⟩) l.length cap) l ∧ base ≤ g ∧ W.heap[g]? = some (.cells cur 99 (0, 0)) ∧ pb ≠ g := by
  obtain ⟨v, h1, h2⟩ := h
  rcases h2.2 with ⟨_, h0⟩ | ⟨g, cap, cur, hv, hb, hg, _⟩
  · exact absurd (List.length_eq_zero_iff.1 h0) hl
  · subst hv
    refine ⟨g, cap, cur, h1, h2, hb, hg, ?_⟩
    rintro rfl
    rw [hg] at h1
    exact absurd (Obj.cells.inj (Option.some.inj h1)).2.1 (by decide)
/-- The pool behind an exchange. -/
theorem pool_swapped {g cap i j B : Nat} {cur : Array Value} {w : World} (hb : w.heap[pb]? = some (.cells #[.slice (some ⟨g, 0, none⟩) l.length cap] 111 (0, 0))) (ho : OwnE encV w base 99 (.slice (some ⟨g, 0, none⟩) l.length cap) l)
    (hg : w.heap[g]? = some (.cells cur 99 (0, 0))) (hne : pb ≠ g) (hB : B ≤ g) (hi : i < l.length) (hj : j < l.length)
    (hW : W = (((((w.setCell ⟨g, i * 2, none⟩ (.int .i64 (vat l j).x)).setCell ⟨g, i * 2 + 1, none⟩ (.int .i64 (vat l j).y)).setCell ⟨g, j * 2, none⟩ (.int .i64 (vat l i).x)).setCell ⟨g, j * 2 + 1, none⟩ (.int .i64 (vat l i).y))).drew) :
    PoolAt pb base (swp l i j) W ∧ Tn TV B w W := by
  subst hW
  refine ⟨⟨_, ?_, own_swap ho hi hj⟩, Tn.step grown_swap (fun j' e => by cases e; exact ⟨hB, _, hg, .inr ⟨_, _, .inr rfl, rfl⟩⟩)⟩
  exact ((grown_swap (w := w)).block pb (Array.getElem?_eq_some_iff.1 hb).1 (fun e => hne (Option.some.inj e))).trans hb
end
/-- What a method through the interface is called with: the vessels themselves. -/
theorem meth_len (n : Nat) (pb : Nat) (v : Value) (w : World) (h : w.cell? ⟨pb, 0, none⟩ = some v) : (method (n + 1) 96 (.pointer (some ⟨pb, 0, none⟩)) "Len").run Try.prog w = .ok (142, v) w := by
  have e : (method (n + 1) 96 (.pointer (some ⟨pb, 0, none⟩)) "Len").run Try.prog w = (do let v ← loadVar 109 ⟨pb, 0, none⟩; pure (142, v)).run Try.prog w := by kernel_rfl
  rw [e]
  simp [loadVar, go_sem, h]
theorem meth_less (n : Nat) (pb : Nat) (v : Value) (w : World) (h : w.cell? ⟨pb, 0, none⟩ = some v) : (method (n + 1) 96 (.pointer (some ⟨pb, 0, none⟩)) "Less").run Try.prog w = .ok (143, v) w := by
  have e : (method (n + 1) 96 (.pointer (some ⟨pb, 0, none⟩)) "Less").run Try.prog w = (do let v ← loadVar 109 ⟨pb, 0, none⟩; pure (143, v)).run Try.prog w := by kernel_rfl
  rw [e]
  simp [loadVar, go_sem, h]
theorem meth_swap (n : Nat) (pb : Nat) (v : Value) (w : World) (h : w.cell? ⟨pb, 0, none⟩ = some v) : (method (n + 1) 96 (.pointer (some ⟨pb, 0, none⟩)) "Swap").run Try.prog w = .ok (146, v) w := by
  have e : (method (n + 1) 96 (.pointer (some ⟨pb, 0, none⟩)) "Swap").run Try.prog w = (do let v ← loadVar 109 ⟨pb, 0, none⟩; pure (146, v)).run Try.prog w := by kernel_rfl
  rw [e]
  simp [loadVar, go_sem, h]
theorem meth_push (n : Nat) (pb : Nat) (w : World) : (method (n + 1) 96 (.pointer (some ⟨pb, 0, none⟩)) "Push").run Try.prog w = .ok (145, .pointer (some ⟨pb, 0, none⟩)) w := by kernel_rfl
theorem meth_pop (n : Nat) (pb : Nat) (w : World) : (method (n + 1) 96 (.pointer (some ⟨pb, 0, none⟩)) "Pop").run Try.prog w = .ok (144, .pointer (some ⟨pb, 0, none⟩)) w := by kernel_rfl
end Go.Proofs.Ytikjgbfbbkmmcaa
