/- Walk of Follow: contract. -/
import Derived.Test.YtihbjimnjhfpeaaGreatG39
import Derived.Test.YtihbjimnjhfpeaaGreatG18
namespace Go.Proofs.YtihbjimnjhfpeaaGreat
open Go.RowKit Go.Shelf
attribute [local go_sem] Oper.semAt_some

/-- What lies in a block that is new to a world keeps its type. -/
def IntsAt (W : World) (l : List (Rw × Bd)) : Prop := ∀ k (h : k < l.length), ∃ cs, W.heap[l[k].1.b]? = some (.cells cs 3 (0, 0))
theorem IntsAt.grow {W W' : World} {l : List (Rw × Bd)} {row : Option Nat} (h : IntsAt W l) (hg : W.grownBy W' row) (hne : ∀ k (hk : k < l.length), row ≠ some l[k].1.b) : IntsAt W' l := fun k hk => by
  obtain ⟨cs, hc⟩ := h k hk
  exact ⟨cs, (hg.block _ (lt_of_block hc) (fun e => hne k hk e.symm)).trans hc⟩
theorem IntsAt.keep {W W' : World} {l : List (Rw × Bd)} (h : IntsAt W l) (hb : Below W.heap.size W W') : IntsAt W' l := fun k hk => by
  obtain ⟨cs, hc⟩ := h k hk
  exact ⟨cs, (hb.block _ (lt_of_block hc)).trans hc⟩
theorem own_type {W : World} {base n g : Nat} {v : Value} {xs : List Value} (h : W.ownsRow base 87 2 v n xs) (hg : v.ownBlock = some g) : ∃ cs, W.heap[g]? = some (.cells cs 87 (0, 0)) := by
  rcases h.2 with ⟨rfl, _⟩ | ⟨g', cap, cur, rfl, _, hc, _⟩
  · cases hg
  · cases hg; exact ⟨cur, hc⟩
theorem kpH_cell {n0 x0 y0 : Nat} {W : World} {old : Array Value} {t : TypeId} (u : Value) (h : W.heap[x0]? = some (.cells old t (0, 0))) (ht : t ≠ 208) : KpH n0 x0 y0 W (W.setCell ⟨x0, 0, none⟩ u) :=
  ⟨by simp, fun j _ h2 _ => heap_setCell_other _ _ _ _ h2, fun j cs hj _ => (heap_setCell_other _ _ _ _ (by rintro rfl; rw [h] at hj; cases hj; exact ht rfl)).trans hj⟩
theorem kpH_own {n0 x0 y0 g : Nat} {W W' : World} {old : Array Value} {t : TypeId} (hg : W.grownBy W' (some g)) (h : W.heap[g]? = some (.cells old t (0, 0))) (ht : t ≠ 208) (hn : n0 ≤ W.heap.size) (hy : g = y0 ∨ n0 ≤ g) : KpH n0 x0 y0 W W' :=
  ⟨hg.size, fun j h1 _ h3 => hg.block j (by omega) (fun e => by cases e; omega), fun j cs hj _ => (hg.block j (lt_of_block hj) (fun e => by cases e; rw [h] at hj; cases hj; exact ht rfl)).trans hj⟩
theorem keeps_cell {B x0 : Nat} {W : World} {u : Value} : KeepsFrom B W (W.setCell ⟨x0, 0, none⟩ u) := (KeepsOthers.setCell W ⟨x0, 0, none⟩ u).from _
theorem keeps_own {B g : Nat} {W W' : World} {old : Array Value} {t : TypeId} (hg : W.grownBy W' (some g)) (h : W.heap[g]? = some (.cells old t (0, 0))) : KeepsFrom B W W' :=
  (KeepsOthers.of_grownBy hg (fun j o ej hj => by cases ej; rw [h] at hj; cases hj; rfl)).from _
theorem cell_cells {W W' : World} {a : Addr} {v : Value} (hc : ∀ (g : Nat) (cs : Array Value) (T : Nat) (fr : Nat × Nat), W.heap[g]? = some (Obj.cells cs T fr) → W'.heap[g]? = some (Obj.cells cs T fr)) (h : W.cell? a = some v) : W'.cell? a = some v := by
  have hb : ∃ cs T fr, W.heap[a.block]? = some (.cells cs T fr) := by
    unfold World.cell? at h
    revert h
    cases W.heap[a.block]? with
    | none => simp
    | some o => cases o <;> simp
  obtain ⟨cs, T, fr, hcs⟩ := hb
  rw [World.cell?_of_block (a := a) ((hc _ _ _ _ hcs).trans hcs.symm)]
  exact h
theorem own_shape2b {w : World} {base e n : Nat} {v : Value} {xs : List Value} (h : w.ownsRow base e 2 v n xs) : ∃ a c, v = .slice a n c := by
  rcases h.2 with ⟨rfl, h0⟩ | ⟨g, cap, cur, rfl, _⟩
  · exact ⟨none, 0, by rw [h0]⟩
  · exact ⟨_, _, rfl⟩
theorem RowI.cells {W W' : World} {v : Value} {l : List Int} (h : RowI W v l) (hc : ∀ (g : Nat) (cs : Array Value) (T : Nat) (fr : Nat × Nat), W.heap[g]? = Option.some (Obj.cells cs T fr) → W'.heap[g]? = Option.some (Obj.cells cs T fr)) : RowI W' v l := by
  rcases h with h | ⟨b, o, cap, hv, hm, h⟩
  · exact .inl h
  · exact .inr ⟨b, o, cap, hv, hm, fun k hk => cell_cells hc (h k hk)⟩
theorem RowBd.cells {W W' : World} {v : Value} {L : List Bd} (h : RowBd W v L) (hc : ∀ (g : Nat) (cs : Array Value) (T : Nat) (fr : Nat × Nat), W.heap[g]? = some (Obj.cells cs T fr) → W'.heap[g]? = some (Obj.cells cs T fr)) : RowBd W' v L := by
  obtain ⟨a, b, o, cap, h1, h2, h3, h4⟩ := h
  refine ⟨a, b, o, cap, h1, h2, h3, fun k hk => ?_⟩
  obtain ⟨ua, uc, g1, g2, g3⟩ := h4 k hk
  exact ⟨ua, uc, cell_cells hc g1, cell_cells hc g2, g3.cells hc⟩
/-- The bodies behind no, one, two .. ticks. -/
def folL (c : Cn) (x : Bd) (l : List Int) : List Bd := (seqH c x l).map (·.2)
/-- What Follow hands back: a list of bodies, and an error. -/
def FolP (L : List Bd) (n : Int) (w : World) (e : Ending) (w' : World) : Prop := ∃ u, e = .returned (.tuple #[u, .int .i64 n]) ∧ RowBd w' u L ∧ Below w.heap.size w w'
end Go.Proofs.YtihbjimnjhfpeaaGreat
