/- Texts of this seat, one behind the other. -/
import Derived.Test.YtihbjimnjhfpeaaGreatR27
import Derived.Test.YtihbjimnjhfpeaaGreatR07
import Derived.Test.YtihbjimnjhfpeaaGreatR24
import Derived.Laws.EntriesVeiled
/- Walks of told: contracts. -/

/- slices.Chunk over ints and slices.AppendSeq over what it yields: contracts. -/
namespace Go.Proofs.YtihbjimnjhfpeaaGreat
open Go.RowKit Go.Shelf
attribute [local go_sem] Oper.semAt_some

def ckV (b o R i : Nat) : Value := .slice (some ⟨b, o + i * R, none⟩) R R
/-- The box of AppendSeq, and what was appended. -/
structure ApI (w : World) (xs : List Value) (v : Value) (W : World) : Prop where
  box : W.heap[w.heap.size]? = some (.cells #[v] 158 (0, 0))
  own : OwnV W (w.heap.size + 1) v xs
  low : Below w.heap.size w W
theorem ApI.turn {w W W' : World} {xs : List Value} {v : Value} {row : Option Nat} (h : ApI w xs v W) (hg : W.grownBy W' row) (hr : ∀ j, row = some j → w.heap.size ≤ j ∧ ∃ o : Obj, W.heap[j]? = some o ∧ Obj.apart 4 o) : ApI w xs v W' := by
  have hk : ∀ (g : Nat) (cs : Array Value) (T : Nat) (fr : Nat × Nat), T ≠ 4 → W.heap[g]? = some (Obj.cells cs T fr) → W'.heap[g]? = some (Obj.cells cs T fr) := fun g cs T fr hT e => by
    rw [hg.block g (Array.getElem?_eq_some_iff.1 e).1 ?_]
    · exact e
    · intro e'
      obtain ⟨_, o, h1, h2⟩ := hr g e'.symm
      rw [e] at h1; cases h1
      rcases h2 with h2 | ⟨cs', h2⟩
      · cases h2
      · cases h2; exact hT rfl
  refine ⟨hk _ _ _ _ (by decide) h.box, ⟨h.own.1, ?_⟩, h.low.grown hg h.low.size (fun j e => (hr j e).1)⟩
  rcases h.own.2 with h0 | ⟨g, cap, cur, e, hb, hgr, rest⟩
  · exact .inl h0
  · exact .inr ⟨g, cap, cur, e, hb, hk _ _ _ _ (by decide) hgr, rest⟩
theorem OwnV.cells {W W' : World} {base : Nat} {v : Value} {L : List Value} (h : OwnV W base v L) (hc : ∀ (g : Nat) (cs : Array Value) (T : Nat) (fr : Nat × Nat), W.heap[g]? = some (Obj.cells cs T fr) → W'.heap[g]? = some (Obj.cells cs T fr)) : OwnV W' base v L := by
  refine ⟨h.1, ?_⟩
  rcases h.2 with h0 | ⟨g, cap, cur, e, hb, hgr, rest⟩
  · exact .inl h0
  · exact .inr ⟨g, cap, cur, e, hb, hc _ _ _ _ hgr, rest⟩
end Go.Proofs.YtihbjimnjhfpeaaGreat

/- Walk of told where the coldest is told: contract. -/
