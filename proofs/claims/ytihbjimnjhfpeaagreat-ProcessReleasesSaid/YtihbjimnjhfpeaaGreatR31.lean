/- Texts of this seat, one behind the other. -/
import Derived.Test.YtihbjimnjhfpeaaGreatR28
import Derived.Test.YtihbjimnjhfpeaaGreatR29
import Derived.Test.YtihbjimnjhfpeaaGreatR30
import Derived.Test.YtihbjimnjhfpeaaGreatR20
import Derived.Maps.OwnIn
import Derived.RangeFuncBox
import Derived.Test.YtihbjimnjhfpeaaGreatR07
/- Walks of Cold and At: contracts. -/

/- Walks of Sum, SumUp of package lethal: contracts. -/
namespace Go.Proofs.YtihbjimnjhfpeaaGreat.Lt
open Go.RowKit Go.Lib Go.Maps

theorem RowI.form {w : World} {v : Value} {l : List Int} (h : RowI w v l) : ∃ a b o cap, v = .slice a l.length cap ∧ (l = [] ∨ a = some ⟨b, o, none⟩) ∧ (∀ j (h : j < l.length), w.cell? ⟨b, o + j, none⟩ = some (.int .i64 l[j])) ∧ (l ≠ [] → b < w.heap.size) := by
  rcases h with ⟨a, cap, rfl, rfl⟩ | ⟨b, o, cap, rfl, hm, hc⟩
  · exact ⟨a, 0, 0, cap, rfl, .inl rfl, fun j h => absurd h (Nat.not_lt_zero _), fun h => absurd rfl h⟩
  · refine ⟨_, b, o, cap, rfl, .inr rfl, hc, fun h => ?_⟩
    have h0 : 0 < l.length := List.length_pos_iff.2 h
    exact World.block_lt_of_cell? w ⟨b, o + 0, none⟩ (hc 0 h0)



end Go.Proofs.YtihbjimnjhfpeaaGreat.Lt

/- Walk of Running of package lethal: contracts. -/
namespace Go.Proofs.YtihbjimnjhfpeaaGreat.Lt
open Go.RowKit Go.Lib Go.Maps Go.Shelf
attribute [local go_sem] Oper.semAt_some

/-- Every block of the n0 first stays, but two. -/
def KpX (n0 x0 y0 : Nat) (W W' : World) : Prop := W.heap.size ≤ W'.heap.size ∧ ∀ j, j < n0 → j ≠ x0 → j ≠ y0 → W'.heap[j]? = W.heap[j]?
theorem KpX.trans {n0 x0 y0 : Nat} {A B C : World} (h : KpX n0 x0 y0 A B) (k : KpX n0 x0 y0 B C) : KpX n0 x0 y0 A C := ⟨Nat.le_trans h.1 k.1, fun j h1 h2 h3 => (k.2 j h1 h2 h3).trans (h.2 j h1 h2 h3)⟩
theorem KpX.put {n0 x0 y0 l : Nat} {W : World} {o o' : Obj} (hl : n0 ≤ l) (_h : W.heap[l]? = some o) : KpX n0 x0 y0 W (W.putObj l o') :=
  ⟨by simp, fun j h1 _ _ => World.putObj_heap_other (by omega)⟩
theorem KpX.cell {n0 x0 y0 a i : Nat} {W W' : World} {v : Value} (h : KpX n0 x0 y0 W W') (ha : a < n0) (hne : a ≠ x0 ∧ a ≠ y0) (hc : W.cell? ⟨a, i, none⟩ = some v) : W'.cell? ⟨a, i, none⟩ = some v := by
  rw [World.cell?_of_block (a := ⟨a, i, none⟩) (h.2 a ha hne.1 hne.2)]; exact hc
/-- The list that Running makes: its row is the one made at first, or a new one. -/
def RunI (bx g n0 : Nat) (w : World) (l : List Nat) (W : World) : Prop :=
  ∃ v, W.heap[bx]? = some (.cells #[v] 28 (0, 0)) ∧ RowV W g v l ∧ (v.ownBlock = some g ∨ ∃ j, v.ownBlock = some j ∧ n0 ≤ j) ∧ Below w.heap.size w W ∧ n0 ≤ W.heap.size
theorem RowV.isCells {W : World} {g q : Nat} {v : Value} {l : List Nat} (h : RowV W g v l) (hv : v.ownBlock = some q) : ∃ cs, W.heap[q]? = some (.cells cs 3 (0, 0)) ∧ g ≤ q := by
  rcases h.2 with ⟨rfl, _⟩ | ⟨j, cap, cur, rfl, hb, hg, _⟩
  · cases hv
  · cases hv; exact ⟨_, hg, hb⟩
end Go.Proofs.YtihbjimnjhfpeaaGreat.Lt

/- Running where there is no answer; Sum at whatever lists; the reference's row and ours are the same. -/
namespace Go.Proofs.YtihbjimnjhfpeaaGreat.Lt
open Go.RowKit Go.Lib Go.Maps

theorem RowI.src {w : World} {v : Value} {l : List Int} (h : RowI w v l) : Src w v l := by
  rcases h with h | ⟨b, o, cap, hv, _, hc⟩
  · exact .inl h
  · exact .inr ⟨b, o, cap, hv, hc⟩
/-- A row of ints that the call owns, read. -/
theorem own_rowI {w : World} {base e : Nat} {v : Value} {l : List Int} (h : w.ownsRow base e 1 v l.length (ivs l)) (hl : l.length ≤ 1000000) : RowI w v l := by
  rcases h.2 with ⟨rfl, h0⟩ | ⟨g, cap, cur, rfl, _, hg, hcap, _, hcs, ht⟩
  · exact .inl ⟨none, 0, rfl, List.length_eq_zero_iff.1 h0⟩
  · refine .inr ⟨g, 0, cap, rfl, by unfold maxLen; omega, fun k hk => ?_⟩
    rw [Nat.zero_add, cell_of_row w g k cur e _ hg]
    have hx : (ivs l)[k]? = some (.int .i64 l[k]) := by simp [ivs, hk]
    rw [← ht, List.getElem?_take_of_lt (by omega)] at hx
    simpa using hx
theorem app_first {W0 w' : World} {base e : Nat} {v v' : Value} {l : List Int} (h : AppP W0 base e v [] l v' w') : w'.ownsRow base e 1 v' (ivs l).length (ivs l) := by
  have := h.1
  rwa [List.length_nil, Nat.zero_add, List.nil_append, ← ivs_len l] at this
theorem app_next {W0 w' : World} {base e : Nat} {v v' : Value} {l m : List Int} (h : AppP W0 base e v (ivs l) m v' w') : w'.ownsRow base e 1 v' (l ++ m).length (ivs (l ++ m)) := by
  have := h.1
  rwa [ivs_len, ← List.length_append, show ivs l ++ ivs m = ivs (l ++ m) by simp [ivs]] at this
end Go.Proofs.YtihbjimnjhfpeaaGreat.Lt
