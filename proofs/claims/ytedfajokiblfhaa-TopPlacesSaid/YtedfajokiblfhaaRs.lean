/- Walk of Follow of the reference: contract. -/
import Derived.Test.YtedfajokiblfhaaRq
import Derived.Test.YtedfajokiblfhaaRr
namespace Go.Proofs.Ytedfajokiblfhaa
open Go.RowKit Go.Shelf

/-- The bodies behind no, one, .., n ticks. -/
def folN (c : Cn) (x : Bd) (l : List Int) (n : Nat) : List Bd := (List.range (n + 1)).map fun k => runS c x (l.take k)
theorem folN_all (c : Cn) (x : Bd) (l : List Int) : folN c x l l.length = folL c x l := by unfold folN folL seqH; rw [List.map_map]; rfl
theorem folN_len (c : Cn) (x : Bd) (l : List Int) (n : Nat) : (folN c x l n).length = n + 1 := by simp [folN]
theorem folN_succ (c : Cn) (x : Bd) (l : List Int) (n : Nat) : folN c x l (n + 1) = folN c x l n ++ [runS c x (l.take (n + 1))] := by unfold folN; rw [List.range_succ, List.map_append]; rfl
theorem folN_at (c : Cn) (x : Bd) (l : List Int) (n k : Nat) (h : k ≤ n) : (folN c x l n)[k]'(by rw [folN_len]; omega) = runS c x (l.take k) := by simp [folN]
theorem r2_grow {w W W' : World} {A B : Array Value} {g : Nat} (h : R2 w W A B) (hg : W.grownBy W' (some g)) (hb : w.heap.size + 2 ≤ g) : R2 w W' A B :=
  ⟨(hg.block _ (lt_of_block h.can) (by intro e; cases e; omega)).trans h.can, (hg.block _ (lt_of_block h.res) (by intro e; cases e; omega)).trans h.res, h.low.grown hg h.low.size (fun j e => by cases e; omega)⟩
/-- What the region of the append stands on. -/
def RawFo (w : World) (A B : Array Value) (g n ba o : Nat) (u b t : Value) (w1 : World) : Prop :=
  w1.cell? ⟨g, n * 2, none⟩ = some u ∧ w1.cell? ⟨g, n * 2 + 1, none⟩ = some b ∧ w1.cell? ⟨ba, o + n, none⟩ = some t ∧ R2 w w1 A B
theorem RawFo.keep {w W W' : World} {A B : Array Value} {g n ba o : Nat} {u b t : Value} (h : RawFo w A B g n ba o u b t W) (hb : Below W.heap.size W W') : RawFo w A B g n ba o u b t W' :=
  ⟨keep_cell hb h.1, keep_cell hb h.2.1, keep_cell hb h.2.2.1, h.2.2.2.keep hb⟩
end Go.Proofs.Ytedfajokiblfhaa
