/- Texts of this seat, one behind the other. -/
import Derived.Test.YtihbjimnjhfpeaaGreatRn
import Derived.Test.YtihbjimnjhfpeaaGreatG01
import Derived.Test.YtihbjimnjhfpeaaGreatG30
import Derived.Laws.EntriesVeiled
/- Walks of told: contracts. -/

/- slices.Chunk over ints and slices.AppendSeq over what it yields: contracts. -/
namespace Go.Proofs.YtihbjimnjhfpeaaGreat
open Go.RowKit Go.Shelf
attribute [local go_sem] Oper.semAt_some

def ckV (b o R i : Nat) : Value := .slice (some ⟨b, o + i * R, none⟩) R R
/-- The box of AppendSeq, and what was appended. -/
structure ApI (w : World) (xs : List Value) (v : Value) (W : World) : Prop where
  box : W.heap[w.heap.size]? = some (.cells #[v] 158 (0, 0))
  own : OwnV W (w.heap.size + 1) v xs
  low : Below w.heap.size w W
theorem keepsC {B : Nat} {W W' : World} (h : Below W.heap.size W W') : KeepsFrom B W W' := ⟨h.size, fun k _ _ hk _ => (h.block k (Array.getElem?_eq_some_iff.1 hk).1).trans hk⟩
theorem ApI.turn {w W W' : World} {xs : List Value} {v : Value} {row : Option Nat} (h : ApI w xs v W) (hg : W.grownBy W' row) (hr : ∀ j, row = some j → w.heap.size ≤ j ∧ ∃ o : Obj, W.heap[j]? = some o ∧ Obj.apart 4 o) : ApI w xs v W' := by
  have hk : ∀ (g : Nat) (cs : Array Value) (T : Nat) (fr : Nat × Nat), T ≠ 4 → W.heap[g]? = some (Obj.cells cs T fr) → W'.heap[g]? = some (Obj.cells cs T fr) := fun g cs T fr hT e => by
    rw [hg.block g (Array.getElem?_eq_some_iff.1 e).1 ?_]
    · exact e
    · intro e'
      obtain ⟨_, o, h1, h2⟩ := hr g e'.symm
      rw [e] at h1; cases h1
      rcases h2 with h2 | ⟨cs', h2⟩
      · cases h2
      · cases h2; exact hT rfl
  refine ⟨hk _ _ _ _ (by decide) h.box, ⟨h.own.1, ?_⟩, h.low.grown hg h.low.size (fun j e => (hr j e).1)⟩
  rcases h.own.2 with h0 | ⟨g, cap, cur, e, hb, hgr, rest⟩
  · exact .inl h0
  · exact .inr ⟨g, cap, cur, e, hb, hk _ _ _ _ (by decide) hgr, rest⟩
theorem OwnV.cells {W W' : World} {base : Nat} {v : Value} {L : List Value} (h : OwnV W base v L) (hc : ∀ (g : Nat) (cs : Array Value) (T : Nat) (fr : Nat × Nat), W.heap[g]? = some (Obj.cells cs T fr) → W'.heap[g]? = some (Obj.cells cs T fr)) : OwnV W' base v L := by
  refine ⟨h.1, ?_⟩
  rcases h.2 with h0 | ⟨g, cap, cur, e, hb, hgr, rest⟩
  · exact .inl h0
  · exact .inr ⟨g, cap, cur, e, hb, hc _ _ _ _ hgr, rest⟩
theorem ap_start (w : World) : ApI w [] (.slice none 0 0) (w.alloc (.cells #[.slice none 0 0] 158)) :=
  ⟨heap_alloc_new w _, World.ownsRow_nil _ _ _ 1, (Below.refl _ w).alloc (Nat.le_refl _) _⟩
theorem ap_end {w W W7 w8 : World} {v v8 x : Value} {L : List Value} {B : Nat} (h : ApI w L v W) (hb : Below W.heap.size W W7) (ho : w8.ownsRow (w.heap.size + 1) 28 1 v8 (L.length + 1) (L ++ [x])) (hg : W7.grownBy w8 v.ownBlock) (hbx : w8.heap[w.heap.size]? = some (Obj.cells #[v] 158 (0, 0))) :
    KeepsFrom B W (w8.setCell ⟨w.heap.size, 0, none⟩ v8) ∧ KpC w.heap.size W (w8.setCell ⟨w.heap.size, 0, none⟩ v8) ∧ ApI w (L ++ [x]) v8 (w8.setCell ⟨w.heap.size, 0, none⟩ v8) := by
  have hst : ∀ (g : Nat) (o : Obj), W.heap[g]? = some o → g ≠ w.heap.size → v.ownBlock ≠ some g → (w8.setCell ⟨w.heap.size, 0, none⟩ v8).heap[g]? = some o := fun g o e1 e2 e3 => by
    have l1 := (Array.getElem?_eq_some_iff.1 e1).1
    rw [heap_setCell_other _ _ _ _ (by exact e2), hg.block g (Nat.lt_of_lt_of_le l1 hb.size) (fun e => e3 e.symm), hb.block g l1]
    exact e1
  have hrow : ∀ g, v.ownBlock = some g → ∃ cur fr, W.heap[g]? = some (Obj.cells cur 28 fr) := fun g e => by
    rcases h.own.2 with ⟨rfl, _⟩ | ⟨g', cap, cur, rfl, _, hgr, _⟩
    · cases e
    · cases e; exact ⟨_, _, hgr⟩
  have hbase : ∀ g, v.ownBlock = some g → w.heap.size + 1 ≤ g := fun g e => (World.ownsRow.lt h.own g e).1
  have hsz : W.heap.size ≤ (w8.setCell ⟨w.heap.size, 0, none⟩ v8).heap.size := by have := hb.size; have := hg.size; simp; omega
  have hwl := h.low.size
  refine ⟨⟨hsz, fun k o _ hk hc => hst k o hk ?_ ?_⟩, ⟨hsz, fun j h1 => ?_⟩, ⟨?_, ?_, ?_⟩⟩
  · rintro rfl; rw [h.box] at hk; cases hk; cases hc
  · intro e; obtain ⟨cur, fr, e1⟩ := hrow k e; rw [e1] at hk; cases hk; cases hc
  · have l1 : j < W.heap.size := by omega
    rw [hst j _ (Array.getElem?_eq_getElem l1) (by omega) (fun e => by have := hbase _ e; omega)]
    exact (Array.getElem?_eq_getElem l1).symm
  · have e := heap_setCell_same w8 _ 0 _ _ v8 hbx
    simpa using e
  · have := World.ownsRow.kept ho (w' := w8.setCell ⟨w.heap.size, 0, none⟩ v8) (row := some w.heap.size) ⟨rfl, rfl, rfl, by simp, fun k _ hne => heap_setCell_other _ _ _ _ (fun e => hne (by rw [e]))⟩ (.inr (fun e => by have := (World.ownsRow.lt ho _ e).1; omega))
    unfold OwnV
    rw [List.length_append, List.length_singleton]
    exact this
  · exact ((h.low.trans (hb.mono h.low.size)).grown hg (Nat.le_trans h.low.size hb.size) (fun j e => by have := hbase j e; omega)).setCell (p := ⟨w.heap.size, 0, none⟩) (Nat.le_refl _) v8
theorem rows_shapeC {w : World} {base e size n : Nat} {v : Value} {xs : List Value} (h : w.ownsRow base e size v n xs) : ∃ a c, v = .slice a n c := by
  rcases h.2 with ⟨rfl, h0⟩ | ⟨g, cap, cur, rfl, _⟩
  · exact ⟨_, _, by rw [h0]⟩
  · exact ⟨_, _, rfl⟩
theorem ckV_take {b o R L k : Nat} {x : Nat} (h : (List.range L)[k]? = some x) : ((List.range L).take (k + 1)).map (ckV b o R) = ((List.range L).take k).map (ckV b o R) ++ [ckV b o R x] := by
  rw [List.take_add_one, h]; simp
theorem cellJ {w : World} {u : Value} {T : TypeId} {m : Nat} (hm : w.heap.size = m) : ∀ j x, [u][j]? = some x → (w.alloc (.cells #[u] T)).cell? ((⟨m, 0, none⟩ : Addr).add j) = some x := by
  subst hm
  intro j x h
  cases j with
  | zero => simp at h; subst h; simp [Addr.add]
  | succ j => simp at h
theorem oneS {b o n c : Nat} : ∀ u ∈ [Value.slice (some ⟨b, o, none⟩) n c], u.oneCell' = true := by intro u hu; simp at hu; subst hu; rfl
theorem infoSl : (Tryz.prog.info? 28).map (fun i => (i.zero, i.size, i.bytes)) = some (some (.slice none 0 0), 1, 24) := by kernel_rfl
theorem infoSl_parts : ∃ i, Tryz.prog.info? 28 = some i ∧ i.zero = some (.slice none 0 0) ∧ i.size = 1 ∧ i.bytes = 24 := info_parts (by kernel_rfl)
end Go.Proofs.YtihbjimnjhfpeaaGreat

/- Walk of told where the coldest is told: contract. -/
