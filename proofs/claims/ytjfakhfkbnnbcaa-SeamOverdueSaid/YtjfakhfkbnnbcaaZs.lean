/- A round of stretches: what stands behind its append and its store. -/
import Derived.Test.YtjfakhfkbnnbcaaZq
import Derived.Test.YtjfakhfkbnnbcaaZr
namespace Go.Proofs.Ytjfakhfkbnnbcaa
open Go.RowKit Go.Shelf

theorem body_end {w W W7 w8 : World} {A : Array Value} {b E : Int} {fn v' v8 : Value} {L : List Pr} {s : Pr} {n0 y0 B : Nat} (h : StI w A b E fn L v' W) (hb : Below W.heap.size W W7) (ho : w8.ownsRow (w.heap.size + 5) 68 2 v8 (L.length + 1) (pvs L ++ [.int .i64 s.x, .int .i64 s.y])) (hg : W7.grownBy w8 v'.ownBlock)
    (hw : v8.ownBlock = v'.ownBlock ∨ v8.ownBlock = some W7.heap.size) (hbx : w8.heap[w.heap.size + 1 + 1 + 1 + 1]? = some (Obj.cells #[v'] 28 (0, 0))) (hn : n0 ≤ W.heap.size) (hy : ∀ g, v'.ownBlock = some g → g = y0 ∨ n0 ≤ g) :
    KeepsFrom B W (w8.setCell ⟨w.heap.size + 1 + 1 + 1 + 1, 0, none⟩ v8) ∧ KpP n0 (w.heap.size + 1 + 1 + 1 + 1) y0 W (w8.setCell ⟨w.heap.size + 1 + 1 + 1 + 1, 0, none⟩ v8) ∧ StI w A b E fn (L ++ [s]) v8 (w8.setCell ⟨w.heap.size + 1 + 1 + 1 + 1, 0, none⟩ v8) ∧
    (∀ g, v8.ownBlock = some g → g = y0 ∨ n0 ≤ g) ∧ ∀ D : Nat, W.heap[D]? = some (.deferred (some [])) → (w8.setCell ⟨w.heap.size + 1 + 1 + 1 + 1, 0, none⟩ v8).heap[D]? = some (.deferred (some [])) := by
  have hst : ∀ (g : Nat) (o : Obj), W.heap[g]? = some o → g ≠ w.heap.size + 1 + 1 + 1 + 1 → v'.ownBlock ≠ some g → (w8.setCell ⟨w.heap.size + 1 + 1 + 1 + 1, 0, none⟩ v8).heap[g]? = some o := fun g o e1 e2 e3 => by
    have l1 := (Array.getElem?_eq_some_iff.1 e1).1
    rw [heap_setCell_other _ _ _ _ (by exact e2), hg.block g (Nat.lt_of_lt_of_le l1 hb.size) (fun e => e3 e.symm), hb.block g l1]
    exact e1
  have hrow : ∀ g, v'.ownBlock = some g → ∃ cur fr, W.heap[g]? = some (Obj.cells cur 68 fr) := fun g e => by
    rcases h.own.2 with ⟨rfl, _⟩ | ⟨g', cap, cur, rfl, _, hgr, _⟩
    · cases e
    · cases e; exact ⟨_, _, hgr⟩
  have hbase : ∀ g, v'.ownBlock = some g → w.heap.size + 5 ≤ g := fun g e => (World.ownsRow.lt h.own g e).1
  have hsz : W.heap.size ≤ (w8.setCell ⟨w.heap.size + 1 + 1 + 1 + 1, 0, none⟩ v8).heap.size := by have := hb.size; have := hg.size; simp; omega
  refine ⟨⟨hsz, fun k o _ hk hc => hst k o hk ?_ ?_⟩, ⟨hsz, fun j h1 h2 h3 => ?_, fun j cs hj => hst j _ hj ?_ ?_⟩, ⟨hst _ _ h.clo (by omega) (fun e => by have := hbase _ e; omega), hst _ _ h.bb (by omega) (fun e => by have := hbase _ e; omega), hst _ _ h.ee (by omega) (fun e => by have := hbase _ e; omega), hst _ _ h.fn (by omega) (fun e => by have := hbase _ e; omega), ?_, ?_, ?_⟩, ?_, fun D e => hst D _ e ?_ ?_⟩
  · rintro rfl; rw [h.box] at hk; cases hk; cases hc
  · intro e; obtain ⟨cur, fr, e1⟩ := hrow k e; rw [e1] at hk; cases hk; cases hc
  · have l1 : j < W.heap.size := by omega
    rw [hst j _ (Array.getElem?_eq_getElem l1) h2 (fun e => by rcases hy j e with r | r <;> omega)]
    exact (Array.getElem?_eq_getElem l1).symm
  · rintro rfl; rw [h.box] at hj; cases hj
  · intro e; obtain ⟨cur, fr, e1⟩ := hrow j e; rw [e1] at hj; cases hj
  · have e := heap_setCell_same w8 _ 0 _ _ v8 hbx
    simpa using e
  · exact OwnX.app (World.ownsRow.kept ho (w' := w8.setCell ⟨w.heap.size + 1 + 1 + 1 + 1, 0, none⟩ v8) (row := some (w.heap.size + 1 + 1 + 1 + 1)) ⟨rfl, rfl, rfl, by simp, fun k _ hne => heap_setCell_other _ _ _ _ (fun e => hne (by rw [e]))⟩ (.inr (fun e => by have := (World.ownsRow.lt ho _ e).1; omega)))
  · exact ((h.low.trans (hb.mono h.low.size)).grown hg (Nat.le_trans h.low.size hb.size) (fun j e => by have := hbase j e; omega)).setCell (p := ⟨w.heap.size + 1 + 1 + 1 + 1, 0, none⟩) (by show w.heap.size ≤ w.heap.size + 1 + 1 + 1 + 1; omega) v8
  · intro g e
    rcases hw with r | r
    · rw [r] at e; exact hy g e
    · rw [r] at e; cases e; right; have := hb.size; omega
  · rintro rfl; rw [h.box] at e; cases e
  · intro e'; obtain ⟨cur, fr, e1⟩ := hrow D e'; rw [e1] at e; cases e
end Go.Proofs.Ytjfakhfkbnnbcaa
