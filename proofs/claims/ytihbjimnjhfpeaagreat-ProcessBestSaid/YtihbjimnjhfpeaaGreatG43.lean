/- Texts of this seat, one behind the other. -/
import Derived.Test.YtihbjimnjhfpeaaGreatG40
import Derived.Test.YtihbjimnjhfpeaaGreatG41
import Derived.Test.YtihbjimnjhfpeaaGreatG42
import Derived.Test.YtihbjimnjhfpeaaGreatG26
import Derived.Maps.OwnIn
import Derived.RangeFuncBox
/- Walks of Cold and At: contracts. -/

/- Walks of Sum, SumUp of package lethal: contracts. -/
namespace Go.Proofs.YtihbjimnjhfpeaaGreat.Lt
open Go.RowKit Go.Lib Go.Maps

theorem RowI.form {w : World} {v : Value} {l : List Int} (h : RowI w v l) : ∃ a b o cap, v = .slice a l.length cap ∧ (l = [] ∨ a = some ⟨b, o, none⟩) ∧ (∀ j (h : j < l.length), w.cell? ⟨b, o + j, none⟩ = some (.int .i64 l[j])) ∧ (l ≠ [] → b < w.heap.size) := by
  rcases h with ⟨a, cap, rfl, rfl⟩ | ⟨b, o, cap, rfl, hm, hc⟩
  · exact ⟨a, 0, 0, cap, rfl, .inl rfl, fun j h => absurd h (Nat.not_lt_zero _), fun h => absurd rfl h⟩
  · refine ⟨_, b, o, cap, rfl, .inr rfl, hc, fun h => ?_⟩
    have h0 : 0 < l.length := List.length_pos_iff.2 h
    exact World.block_lt_of_cell? w ⟨b, o + 0, none⟩ (hc 0 h0)



end Go.Proofs.YtihbjimnjhfpeaaGreat.Lt

/- Walk of Running of package lethal: contracts. -/
namespace Go.Proofs.YtihbjimnjhfpeaaGreat.Lt
open Go.RowKit Go.Lib Go.Maps Go.Shelf
attribute [local go_sem] Oper.semAt_some

/-- Every block of the n0 first stays, but two. -/
def KpX (n0 x0 y0 : Nat) (W W' : World) : Prop := W.heap.size ≤ W'.heap.size ∧ ∀ j, j < n0 → j ≠ x0 → j ≠ y0 → W'.heap[j]? = W.heap[j]?
theorem KpX.trans {n0 x0 y0 : Nat} {A B C : World} (h : KpX n0 x0 y0 A B) (k : KpX n0 x0 y0 B C) : KpX n0 x0 y0 A C := ⟨Nat.le_trans h.1 k.1, fun j h1 h2 h3 => (k.2 j h1 h2 h3).trans (h.2 j h1 h2 h3)⟩
theorem KpX.put {n0 x0 y0 l : Nat} {W : World} {o o' : Obj} (hl : n0 ≤ l) (_h : W.heap[l]? = some o) : KpX n0 x0 y0 W (W.putObj l o') :=
  ⟨by simp, fun j h1 _ _ => World.putObj_heap_other (by omega)⟩
theorem KpX.cell {n0 x0 y0 a i : Nat} {W W' : World} {v : Value} (h : KpX n0 x0 y0 W W') (ha : a < n0) (hne : a ≠ x0 ∧ a ≠ y0) (hc : W.cell? ⟨a, i, none⟩ = some v) : W'.cell? ⟨a, i, none⟩ = some v := by
  rw [World.cell?_of_block (a := ⟨a, i, none⟩) (h.2 a ha hne.1 hne.2)]; exact hc
theorem ItS.keepX {fn : Fn} {s : ByteArray} {r : Int} {Z : Nat} {d g : Int} {L mb tb rb : Nat} {a : Option Addr} {b o cap n0 k x0 y0 : Nat} {l : List Int} {w w' : World} (h : ItS fn s r Z d g L mb tb rb a b o cap n0 l k w) (hb : KpX n0 x0 y0 w w')
    (hx : (tb ≠ x0 ∧ tb ≠ y0) ∧ (rb ≠ x0 ∧ rb ≠ y0) ∧ (L ≠ x0 ∧ L ≠ y0) ∧ (mb ≠ x0 ∧ mb ≠ y0) ∧ (l ≠ [] → b ≠ x0 ∧ b ≠ y0)) : ItS fn s r Z d g L mb tb rb a b o cap n0 l k w' := by
  obtain ⟨x1, x2, x3, x4, x5⟩ := hx
  obtain ⟨⟨c0, c1, c2, c3, c4, c5, c6⟩, hne, D, ⟨es, clock, h1, h2⟩, hg⟩ := h.rds
  refine ⟨hb.cell h.lt.1 x1 h.temps, h.addr, hb.cell h.lt.2.1 x2 h.rate, fun j hj => ?_, ⟨⟨hb.cell h.lt.2.2.1 x3 c0, hb.cell h.lt.2.2.1 x3 c1, hb.cell h.lt.2.2.1 x3 c2, hb.cell h.lt.2.2.1 x3 c3, hb.cell h.lt.2.2.1 x3 c4, hb.cell h.lt.2.2.1 x3 c5, Nat.lt_of_lt_of_le c6 hb.1⟩, hne, D, ⟨es, clock, (hb.2 mb h.lt.2.2.2.1 x4.1 x4.2).trans h1, h2⟩, hg⟩, h.lt, Nat.le_trans h.le hb.1⟩
  have hl : l ≠ [] := by rintro rfl; exact absurd hj (Nat.not_lt_zero _)
  exact hb.cell (h.lt.2.2.2.2 hl) (x5 hl) (h.cells j hj)
theorem sums_start (fn : Fn) (s : ByteArray) (r d g : Int) (Z L mb : Nat) (a : Option Addr) (b o cap : Nat) (l : List Int) (w : World) (T2 T3 : TypeId)
    (ha : l = [] ∨ a = some ⟨b, o, none⟩) (hc : ∀ j (h : j < l.length), w.cell? ⟨b, o + j, none⟩ = some (.int .i64 l[j])) (hb : l ≠ [] → b < w.heap.size) (hS : RdS s r Z d g L mb 0 w) :
    ∃ W0, (w.alloc (.cells #[.slice a l.length cap] T2)).alloc (.cells #[.func fn #[] #[.pointer (some ⟨L, 0, none⟩)]] T3) = W0 ∧ W0.heap.size = w.heap.size + 2 ∧
      ItS fn s r Z d g L mb w.heap.size (w.heap.size + 1) a b o cap (w.heap.size + 2) l 0 W0 ∧ Below w.heap.size w W0 := by
  have hLlt : L < w.heap.size := hS.1.2.2.2.2.2.2
  have hmlt : mb < w.heap.size := hS.2.2.lt
  have hB : Below w.heap.size w ((w.alloc (.cells #[.slice a l.length cap] T2)).alloc (.cells #[.func fn #[] #[.pointer (some ⟨L, 0, none⟩)]] T3)) := ((Below.refl _ _).alloc (Nat.le_refl _) _).alloc (by simp) _
  have c1 := cell_alloc_new w #[.slice a l.length cap] T2 (0, 0) 0
  have c2 := cell_alloc_new (w.alloc (.cells #[.slice a l.length cap] T2)) #[.func fn #[] #[.pointer (some ⟨L, 0, none⟩)]] T3 (0, 0) 0
  rw [alloc_size] at c2
  exact ⟨_, rfl, by simp, ⟨keep_cell (Below.alloc (Below.refl _ _) (Nat.le_refl _) _) c1, ha, c2, fun j hj => keep_cell hB (hc j hj), hS.kept (row := none) (gbelow hB) (by simp) (by simp), ⟨by omega, by omega, by omega, by omega, fun h => by have := hb h; omega⟩, by simp⟩, hB⟩
theorem seqS_run (f : Int → Nat) (l : List Int) : (seqS f l).map (·.2) = runK f l l.length := by simp [seqS, runK]
theorem seqS_run_succ {f : Int → Nat} {l : List Int} {k : Nat} {x : Nat × Nat} (h : (seqS f l)[k]? = some x) : ((seqS f l).take (k + 1)).map (·.2) = ((seqS f l).take k).map (·.2) ++ [x.2] := by
  rw [List.take_add_one, h]; simp

/-- The list that Running makes: its row is the one made at first, or a new one. -/
def RunI (bx g n0 : Nat) (w : World) (l : List Nat) (W : World) : Prop :=
  ∃ v, W.heap[bx]? = some (.cells #[v] 28 (0, 0)) ∧ RowV W g v l ∧ (v.ownBlock = some g ∨ ∃ j, v.ownBlock = some j ∧ n0 ≤ j) ∧ Below w.heap.size w W ∧ n0 ≤ W.heap.size
theorem own_slice {W : World} {g : Nat} {v : Value} {l : List Nat} (h : RowV W g v l) (hv : v.ownBlock ≠ none) : ∃ j cap, v = .slice (some ⟨j, 0, none⟩) l.length cap ∧ g ≤ j := by
  rcases h.2 with ⟨rfl, _⟩ | ⟨j, cap, cur, rfl, hb, _⟩
  · exact absurd rfl hv
  · exact ⟨j, cap, rfl, hb⟩

theorem RowV.isCells {W : World} {g q : Nat} {v : Value} {l : List Nat} (h : RowV W g v l) (hv : v.ownBlock = some q) : ∃ cs, W.heap[q]? = some (.cells cs 3 (0, 0)) ∧ g ≤ q := by
  rcases h.2 with ⟨rfl, _⟩ | ⟨j, cap, cur, rfl, hb, hg, _⟩
  · cases hv
  · cases hv; exact ⟨_, hg, hb⟩
end Go.Proofs.YtihbjimnjhfpeaaGreat.Lt
