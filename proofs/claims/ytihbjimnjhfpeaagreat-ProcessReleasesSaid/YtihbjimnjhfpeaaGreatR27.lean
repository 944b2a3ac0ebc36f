/- Texts of this seat, one behind the other. -/
import Derived.Test.YtihbjimnjhfpeaaGreatR25
import Derived.Test.YtihbjimnjhfpeaaGreatR26
/- Walk of Until of the reference: contract. -/
namespace Go.Proofs.YtihbjimnjhfpeaaGreat
open Go.RowKit

theorem R2.set2 {w W : World} {A : Array Value} {u0 v0 u v : Value} (h : R2 w W A #[u0, v0]) : R2 w ((W.setCell ⟨w.heap.size + 1, 0, none⟩ u).setCell ⟨w.heap.size + 1, 1, none⟩ v) A #[u, v] := by
  have h1 := heap_setCell_same W (w.heap.size + 1) 0 _ _ u h.res
  have h2 := heap_setCell_same _ (w.heap.size + 1) 1 _ _ v h1
  refine ⟨?_, h2, (h.low.setCell (p := ⟨w.heap.size + 1, 0, none⟩) (Nat.le_succ _) u).setCell (p := ⟨w.heap.size + 1, 1, none⟩) (Nat.le_succ _) v⟩
  rw [heap_setCell_other _ _ _ _ (show w.heap.size ≠ w.heap.size + 1 by omega), heap_setCell_other _ _ _ _ (show w.heap.size ≠ w.heap.size + 1 by omega)]
  exact h.can
/-- Two numbers come back. -/
def PairU (O : Int × Int) (w : World) (e : Ending) (w' : World) : Prop := e = .returned (.tuple #[.int .i64 O.1, .int .i64 O.2]) ∧ Below w.heap.size w w'
end Go.Proofs.YtihbjimnjhfpeaaGreat

/- Walk of Follow: contract. -/
namespace Go.Proofs.YtihbjimnjhfpeaaGreat
open Go.RowKit Go.Shelf
attribute [local go_sem] Oper.semAt_some

/-- What lies in a block that is new to a world keeps its type. -/
def IntsAt (W : World) (l : List (Rw × Bd)) : Prop := ∀ k (h : k < l.length), ∃ cs, W.heap[l[k].1.b]? = some (.cells cs 3 (0, 0))
theorem IntsAt.grow {W W' : World} {l : List (Rw × Bd)} {row : Option Nat} (h : IntsAt W l) (hg : W.grownBy W' row) (hne : ∀ k (hk : k < l.length), row ≠ some l[k].1.b) : IntsAt W' l := fun k hk => by
  obtain ⟨cs, hc⟩ := h k hk
  exact ⟨cs, (hg.block _ (lt_of_block hc) (fun e => hne k hk e.symm)).trans hc⟩
theorem IntsAt.keep {W W' : World} {l : List (Rw × Bd)} (h : IntsAt W l) (hb : Below W.heap.size W W') : IntsAt W' l := fun k hk => by
  obtain ⟨cs, hc⟩ := h k hk
  exact ⟨cs, (hb.block _ (lt_of_block hc)).trans hc⟩
theorem cell_cells {W W' : World} {a : Addr} {v : Value} (hc : ∀ (g : Nat) (cs : Array Value) (T : Nat) (fr : Nat × Nat), W.heap[g]? = some (Obj.cells cs T fr) → W'.heap[g]? = some (Obj.cells cs T fr)) (h : W.cell? a = some v) : W'.cell? a = some v := by
  have hb : ∃ cs T fr, W.heap[a.block]? = some (.cells cs T fr) := by
    unfold World.cell? at h
    revert h
    cases W.heap[a.block]? with
    | none => simp
    | some o => cases o <;> simp
  obtain ⟨cs, T, fr, hcs⟩ := hb
  rw [World.cell?_of_block (a := a) ((hc _ _ _ _ hcs).trans hcs.symm)]
  exact h
theorem RowI.cells {W W' : World} {v : Value} {l : List Int} (h : RowI W v l) (hc : ∀ (g : Nat) (cs : Array Value) (T : Nat) (fr : Nat × Nat), W.heap[g]? = Option.some (Obj.cells cs T fr) → W'.heap[g]? = Option.some (Obj.cells cs T fr)) : RowI W' v l := by
  rcases h with h | ⟨b, o, cap, hv, hm, h⟩
  · exact .inl h
  · exact .inr ⟨b, o, cap, hv, hm, fun k hk => cell_cells hc (h k hk)⟩
theorem RowBd.cells {W W' : World} {v : Value} {L : List Bd} (h : RowBd W v L) (hc : ∀ (g : Nat) (cs : Array Value) (T : Nat) (fr : Nat × Nat), W.heap[g]? = some (Obj.cells cs T fr) → W'.heap[g]? = some (Obj.cells cs T fr)) : RowBd W' v L := by
  obtain ⟨a, b, o, cap, h1, h2, h3, h4⟩ := h
  refine ⟨a, b, o, cap, h1, h2, h3, fun k hk => ?_⟩
  obtain ⟨ua, uc, g1, g2, g3⟩ := h4 k hk
  exact ⟨ua, uc, cell_cells hc g1, cell_cells hc g2, g3.cells hc⟩
/-- The bodies behind no, one, two .. ticks. -/
def folL (c : Cn) (x : Bd) (l : List Int) : List Bd := (seqH c x l).map (·.2)
/-- What Follow hands back: a list of bodies, and an error. -/
def FolP (L : List Bd) (n : Int) (w : World) (e : Ending) (w' : World) : Prop := ∃ u, e = .returned (.tuple #[u, .int .i64 n]) ∧ RowBd w' u L ∧ Below w.heap.size w w'
end Go.Proofs.YtihbjimnjhfpeaaGreat
