/- Texts of this seat, one behind the other. -/
import Derived.Test.YtihbjimnjhfpeaaGreatG40
import Derived.Test.YtihbjimnjhfpeaaGreatRn
import Derived.Test.YtihbjimnjhfpeaaGreatG39
/- Walk of told where a place is told: contract. -/

/- Walks of asked and Copy of the reference: contracts. -/
namespace Go.Proofs.YtihbjimnjhfpeaaGreat
open Go.RowKit

/-- The boxes of Copy. -/
structure RC (w w1 : World) (A B : Array Value) : Prop where
  bod : w1.heap[w.heap.size]? = some (.cells A 87 (0, 0))
  res : w1.heap[w.heap.size + 1]? = some (.cells B 87 (0, 0))
  low : Below w.heap.size w w1
theorem rc_start {w : World} {A B : Array Value} : RC w ((w.alloc (.cells A 87)).alloc (.cells B 87)) A B :=
  ⟨heap_alloc2_old w _ _, heap_alloc2_new w _ _, ((Below.refl _ _).alloc (Nat.le_refl _) _).alloc (by simp) _⟩
theorem RC.keep {w w1 w2 : World} {A B : Array Value} (h : RC w w1 A B) (hb : Below w1.heap.size w1 w2) : RC w w2 A B :=
  ⟨(hb.block _ (lt_of_block h.bod)).trans h.bod, (hb.block _ (lt_of_block h.res)).trans h.res, bstep h.low h.low.size hb⟩
theorem RC.app {w W W' : World} {A B : Array Value} {v v' : Value} {xs : List Value} {l : List Int} (h : RC w W A B) (hown : W.ownsRow (w.heap.size + 2) 3 1 v xs.length xs) (hA : AppP W (w.heap.size + 2) 3 v xs l v' W') : RC w W' A B := by
  have hne : ∀ b, b < w.heap.size + 2 → some b ≠ v.ownBlock := fun b hb e => by have := (World.ownsRow.lt hown b e.symm).1; omega
  exact ⟨(hA.2.1.block _ (lt_of_block h.bod) (hne _ (by omega))).trans h.bod, (hA.2.1.block _ (lt_of_block h.res) (hne _ (by omega))).trans h.res, h.low.grown hA.2.1 h.low.size (fun k hk => by have := (World.ownsRow.lt hown k hk).1; omega)⟩
theorem RC.set0 {w W : World} {B : Array Value} {u0 br u : Value} (h : RC w W #[u0, br] B) : RC w (W.setCell ⟨w.heap.size, 0, none⟩ u) #[u, br] B :=
  ⟨heap_setCell_same W _ 0 _ _ u h.bod, (heap_setCell_other _ _ _ _ (show w.heap.size + 1 ≠ w.heap.size by omega)).trans h.res, h.low.setCell (p := ⟨w.heap.size, 0, none⟩) (Nat.le_refl _) u⟩
theorem RC.fin {w W : World} {A : Array Value} {d0 d1 u v : Value} (h : RC w W A #[d0, d1]) : RC w ((W.setCell ⟨w.heap.size + 1, 0, none⟩ u).setCell ⟨w.heap.size + 1, 1, none⟩ v) A #[u, v] := by
  have h1 := heap_setCell_same W (w.heap.size + 1) 0 _ _ u h.res
  have h2 := heap_setCell_same _ (w.heap.size + 1) 1 _ _ v h1
  refine ⟨?_, h2, (h.low.setCell (p := ⟨w.heap.size + 1, 0, none⟩) (Nat.le_succ _) u).setCell (p := ⟨w.heap.size + 1, 1, none⟩) (Nat.le_succ _) v⟩
  rw [heap_setCell_other _ _ _ _ (show w.heap.size ≠ w.heap.size + 1 by omega), heap_setCell_other _ _ _ _ (show w.heap.size ≠ w.heap.size + 1 by omega)]
  exact h.bod
theorem RC.four {w W : World} {a0 a1 b0 b1 : Value} (h : RC w W #[a0, a1] #[b0, b1]) : W.cell? ⟨w.heap.size, 0, none⟩ = some a0 ∧ W.cell? ⟨w.heap.size, 1, none⟩ = some a1 ∧ W.cell? ⟨w.heap.size + 1, 0, none⟩ = some b0 ∧ W.cell? ⟨w.heap.size + 1, 1, none⟩ = some b1 ∧
    W.frozen? ⟨w.heap.size, 0, none⟩ = false ∧ W.frozen? ⟨w.heap.size + 1, 0, none⟩ = false ∧ W.frozen? ⟨w.heap.size + 1, 1, none⟩ = false :=
  ⟨cell_of_row _ _ 0 _ _ _ h.bod, cell_of_row _ _ 1 _ _ _ h.bod, cell_of_row _ _ 0 _ _ _ h.res, cell_of_row _ _ 1 _ _ _ h.res, frozen_of_row _ _ 0 _ _ h.bod, frozen_of_row _ _ 0 _ _ h.res, frozen_of_row _ _ 1 _ _ h.res⟩
end Go.Proofs.YtihbjimnjhfpeaaGreat

/- An append at a step of a region that draws: the grown row, and what was read of the old one. -/
namespace Go.Proofs.YtihbjimnjhfpeaaGreat
open Go.RowKit Go.Shelf

theorem add_at (g j : Nat) : (⟨g, 0, none⟩ : Addr).add j = ⟨g, j, none⟩ := by
  unfold Addr.add
  split
  · subst_vars; rfl
  · simp

theorem run_append_more {P : Program} (w : World) (base : Nat) (t ty e : TypeId) (i : TypeInfo) (z : Value) (size bytes : Nat) (ht : P.underlying t = some (.slice e)) (hi : P.info? e = some i) (hz : i.zero = some z) (hsize : i.size = size) (hby : i.bytes = bytes) (hzs : z.cells.size = size) (hsz : 0 < size)
    (v : Value) (n : Nat) (xs : List Value) (hown : w.ownsRow base e size v n xs) (a : Addr) (m c : Nat) (news : List Value) (hl : news.length = m * size) (hnews : ∀ j u, news[j]? = some u → w.cell? (a.add j) = some u) (h1 : ∀ u ∈ news, u.oneCell' = true) (hm : 0 < m)
    (h63 : n + m ≤ maxLen) (hbytes : (n + m) * bytes ≤ 140737488355328) (hbase : base ≤ w.heap.size) :
    ∃ v' w', (Builtin.append_ #[t, t] ty #[v, .slice (some a) m c]).run P w = .ok v' w' ∧ w'.ownsRow base e size v' (n + m) (xs ++ news) ∧ w.grownBy w' v.ownBlock ∧ (v'.ownBlock = v.ownBlock ∨ v'.ownBlock = some w.heap.size) ∧ (∀ g j u, v.ownBlock = some g → xs[j]? = some u → w'.cell? ⟨g, j, none⟩ = some u) := by
  obtain ⟨v', w', hr, h2, h3, -⟩ := run_append_own (P := P) w base t ty e i z size bytes ht hi hz hsize hby hzs hsz v n xs hown a m c news hl hnews h1 h63 hbytes hbase
  refine ⟨v', w', hr, h2, h3, ?_⟩
  have hs63 : n + m ≤ 9223372036854775807 := by simp only [maxLen] at h63; omega
  rcases hown.2 with ⟨rfl, rfl⟩ | ⟨g, cap, cur, rfl, hbg, hg, hnc, hcm, hcs, htake⟩
  · subst hsize; subst hby
    have hr2 := run_append_nil (P := P) w t ty e i z ht hi hz a m c news hl hnews (by omega) (by omega) (by have hb := hbytes; simp only [Nat.zero_add] at hb; omega)
    rw [hr] at hr2
    cases hr2
    exact ⟨.inr rfl, fun g j u hg => by cases hg⟩
  · by_cases hroom : n + m ≤ cap
    · obtain ⟨w2, hr2, h22, -⟩ := run_append_fits (P := P) w base t ty e i size ht hi hsize g n cap xs hown a m c news hl hnews h1 hroom
      rw [hr] at hr2
      cases hr2
      refine ⟨.inl rfl, fun g' j u hg' hx => ?_⟩
      cases hg'
      have := h22.cells (g := g) rfl j u (by rw [List.getElem?_append_left (List.getElem?_eq_some_iff.1 hx).1]; exact hx)
      rwa [add_at] at this
    · subst hsize; subst hby
      have hr2 := run_append_grow (P := P) w t ty e i z ht hi hz ⟨g, 0, none⟩ n cap xs hown.1 (hown.cells (g := g) rfl) a m c news hl hnews (by omega) (by omega) (growslice_fits (by omega) hbytes)
      rw [hr] at hr2
      cases hr2
      refine ⟨.inr rfl, fun g' j u hg' hx => ?_⟩
      cases hg'
      have h5 := hown.cells (g := g) rfl j u hx
      rw [add_at] at h5
      exact keep_cell ((Below.refl _ w).drew.alloc (Nat.le_refl _) _) h5
/-- The same, at a step of a region that draws. -/
theorem step_append_more {P : Program} {w : World} {ops : Array Oper} {o : Oper} {a : Act} {K : Act → World → Prop} {Q : Exit → Act → World → Prop} {E : Prop}
    (hg : o.guard = none) (s x : Operand) (t : TypeId) (hop : o.op = Op.call { callee := Callee.builtin Builtin.append, args := #[s, x], argTypes := #[t, t] })
    (base : Nat) (e : TypeId) (i : TypeInfo) (z : Value) (size bytes : Nat) (h1 : P.underlying t = some (.slice e)) (h2 : P.info? e = some i) (h3 : i.zero = some z) (h4 : i.size = size) (h5 : i.bytes = bytes) (h6 : z.cells.size = size) (h7 : 0 < size)
    (v : Value) (k : Nat) (xs : List Value) (hs : a.eval s = v) (hown : w.ownsRow base e size v k xs) (ad : Addr) (m c : Nat) (news : List Value) (hx : a.eval x = .slice (some ad) m c) (hn : news.length = m * size)
    (hc : ∀ j u, news[j]? = some u → w.cell? (ad.add j) = some u) (h1c : ∀ u ∈ news, u.oneCell' = true) (hm : 0 < m) (b1 : k + m ≤ maxLen) (b2 : (k + m) * bytes ≤ 140737488355328) (b3 : base ≤ w.heap.size)
    (hK : ∀ v' w', w'.ownsRow base e size v' (k + m) (xs ++ news) → w.grownBy w' v.ownBlock → (v'.ownBlock = v.ownBlock ∨ v'.ownBlock = some w.heap.size) → (∀ g j u, v.ownBlock = some g → xs[j]? = some u → w'.cell? ⟨g, j, none⟩ = some u) → K (a.put o.dst v') w') :
    if Region.wanted o (yielded ops a.tmps) = true then Oper.wp P o a w K Q else E := by
  have hw : Region.wanted o (yielded ops a.tmps) = true := by simp [Region.wanted, hg]
  rw [if_pos hw]
  obtain ⟨v', w', hrun, r1, r2, r3, r4⟩ := run_append_more (P := P) w base t o.type e i z size bytes h1 h2 h3 h4 h5 h6 h7 v k xs hown ad m c news hn hc h1c hm b1 b2 b3
  unfold Oper.wp
  simp only [execOp, hop, resolve, invoke, builtin, Sem.run_bind, Sem.run_pure, Result.andThen_ok, List.map_toArray, List.map_cons, List.map_nil, hs, hx, hrun]
  exact hK v' w' r1 r2 r3 r4
end Go.Proofs.YtihbjimnjhfpeaaGreat
