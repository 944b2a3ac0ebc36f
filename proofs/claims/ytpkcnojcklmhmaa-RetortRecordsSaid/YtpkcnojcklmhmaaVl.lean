/- Walks of the functions of kinds: contracts; and what a tick stands on. -/
import Derived.Test.YtpkcnojcklmhmaaVk
namespace Go.Proofs.Ytpkcnojcklmhmaa
open Go.RowKit

set_option maxHeartbeats 400000 in
theorem hot_any (k s n t st g c a : Int) (w : World) : Calls Try.prog 126 #[.agg #[.int .i64 k, .int .i64 s, .int .i64 n], .agg #[.int .i64 t, .int .i64 st, .int .i64 g, .int .i64 c, .int .i64 a]] w fun e w' => e = .returned (.bool (decide (s ≤ c))) ∧ Below w.heap.size w w' := by
  have hB : Below w.heap.size w ((w.alloc (.cells #[.int .i64 k, .int .i64 s, .int .i64 n] 76)).alloc (.cells #[.int .i64 t, .int .i64 st, .int .i64 g, .int .i64 c, .int .i64 a] 57)) := ((Below.refl _ _).alloc (Nat.le_refl _) _).alloc (by simp) _
  have HB := hid hB
  clear hB
  go_enter Try.func126, Try.ntmps126
  go_wp2
  go_ret
  exact ⟨rfl, HB.out⟩
set_option maxHeartbeats 400000 in
theorem long_any (k s n t st g c a : Int) (w : World) : Calls Try.prog 127 #[.agg #[.int .i64 k, .int .i64 s, .int .i64 n], .agg #[.int .i64 t, .int .i64 st, .int .i64 g, .int .i64 c, .int .i64 a]] w fun e w' => e = .returned (.bool (decide (n ≤ g))) ∧ Below w.heap.size w w' := by
  have hB : Below w.heap.size w ((w.alloc (.cells #[.int .i64 k, .int .i64 s, .int .i64 n] 76)).alloc (.cells #[.int .i64 t, .int .i64 st, .int .i64 g, .int .i64 c, .int .i64 a] 57)) := ((Below.refl _ _).alloc (Nat.le_refl _) _).alloc (by simp) _
  have HB := hid hB
  clear hB
  go_enter Try.func127, Try.ntmps127
  go_wp2
  go_ret
  exact ⟨rfl, HB.out⟩
theorem Box2.eight {w w1 : World} {c0 c1 c2 d0 d1 d2 d3 d4 : Value} (h : Box2 w w1 #[c0, c1, c2] #[d0, d1, d2, d3, d4]) :
    (w1.cell? ⟨w.heap.size, 0, none⟩ = some c0 ∧ w1.cell? ⟨w.heap.size, 1, none⟩ = some c1 ∧ w1.cell? ⟨w.heap.size, 2, none⟩ = some c2) ∧
    w1.cell? ⟨w.heap.size + 1, 0, none⟩ = some d0 ∧ w1.cell? ⟨w.heap.size + 1, 1, none⟩ = some d1 ∧ w1.cell? ⟨w.heap.size + 1, 2, none⟩ = some d2 ∧ w1.cell? ⟨w.heap.size + 1, 3, none⟩ = some d3 ∧ w1.cell? ⟨w.heap.size + 1, 4, none⟩ = some d4 :=
  ⟨⟨h.fst 0, h.fst 1, h.fst 2⟩, h.snd 0, h.snd 1, h.snd 2, h.snd 3, h.snd 4⟩
set_option maxHeartbeats 2000000 in
theorem both_any (k s n t st g c a : Int) (hh ll : Nat) (w : World) (h1 : w.cell? ⟨hh, 0, none⟩ = some hotV) (h2 : w.cell? ⟨ll, 0, none⟩ = some longV) :
    Calls Try.prog 128 #[.agg #[.int .i64 k, .int .i64 s, .int .i64 n], .agg #[.int .i64 t, .int .i64 st, .int .i64 g, .int .i64 c, .int .i64 a], .pointer (some ⟨hh, 0, none⟩), .pointer (some ⟨ll, 0, none⟩)] w fun e w' => e = .returned (.bool (decide (s ≤ c) && decide (n ≤ g))) ∧ Below w.heap.size w w' := by
  unfold hotV at h1
  unfold longV at h2
  have BX := hid (box2_start (w := w) (A := #[.int .i64 k, .int .i64 s, .int .i64 n]) (B := #[.int .i64 t, .int .i64 st, .int .i64 g, .int .i64 c, .int .i64 a]) (T := 76) (T' := 57) (fz := (0, 0)) (fz' := (0, 0)))
  have g1 := keep_cell BX.out.low h1
  have g2 := keep_cell BX.out.low h2
  have G2 := hid (fun w1 (hb : Below w.heap.size w w1) => keep_cell hb h2)
  clear h1 h2
  cases hs : decide (s ≤ c)
  · go_enter Try.func128, Try.ntmps128
    go_wp2_with fail
    refine (hot_any _ _ _ _ _ _ _ _ _).mono ?_
    rintro e w1 ⟨rfl, hb⟩
    rw [hs]
    have BX := hid (BX.out.keep hb)
    clear g1 g2 hb
    go_wp2_with fail
    go_ret
    exact ⟨rfl, BX.out.low⟩
  · go_enter Try.func128, Try.ntmps128
    go_wp2_with fail
    refine (hot_any _ _ _ _ _ _ _ _ _).mono ?_
    rintro e w1 ⟨rfl, hb⟩
    rw [hs]
    have BX := hid (BX.out.keep hb)
    have g2 := G2.out _ BX.out.low
    obtain ⟨⟨a0, a1, a2⟩, b0, b1, b2, b3, b4⟩ := BX.out.eight
    clear g1 hb
    go_wp2_with fail
    refine (long_any _ _ _ _ _ _ _ _ _).mono ?_
    rintro e w2 ⟨rfl, hb⟩
    have BX := hid (BX.out.keep hb)
    clear g2 a0 a1 a2 b0 b1 b2 b3 b4 hb
    go_wp2_with fail
    go_ret
    exact ⟨rfl, BX.out.low⟩

theorem kind_over (wd : ByteArray) (lo hi : Int) (fn : Fn) (fi ca : Array Value) (w : World) : Sem.run Try.prog (Instr.field 158 (.agg #[.string wd, .int .i64 lo, .int .i64 hi, .func fn fi ca]) 3) w = .ok (.func fn fi ca) w := by
  simp [Instr.field, run_underlying Try.underlying158, sizeOf, typeInfo, asAgg, go_sem]
/-- The five blocks of a tick. -/
structure Tk (w W : World) (A B R Q C : Array Value) : Prop where
  a : W.heap[w.heap.size]? = some (.cells A 117 (0, 0))
  b : W.heap[w.heap.size + 1]? = some (.cells B 57 (0, 0))
  r : W.heap[w.heap.size + 1 + 1]? = some (.cells R 57 (0, 0))
  q : W.heap[w.heap.size + 1 + 1 + 1]? = some (.cells Q 74 (0, 0))
  c : W.heap[w.heap.size + 1 + 1 + 1 + 1]? = some (.cells C 76 (0, 0))
  low : Below w.heap.size w W
theorem lt_blk {W : World} {b : Nat} {o : Obj} (h : W.heap[b]? = some o) : b < W.heap.size := by
  rcases Nat.lt_or_ge b W.heap.size with h1 | h1
  · exact h1
  · rw [Array.getElem?_eq_none h1] at h; cases h
section
variable {w W W2 : World} {A B R Q C : Array Value}
theorem Tk.keep (h : Tk w W A B R Q C) (hb : Below W.heap.size W W2) : Tk w W2 A B R Q C :=
  ⟨(hb.block _ (lt_blk h.a)).trans h.a, (hb.block _ (lt_blk h.b)).trans h.b, (hb.block _ (lt_blk h.r)).trans h.r, (hb.block _ (lt_blk h.q)).trans h.q, (hb.block _ (lt_blk h.c)).trans h.c, bstep h.low h.low.size hb⟩
theorem Tk.drew (h : Tk w W A B R Q C) : Tk w W.drew A B R Q C := h.keep (Below.refl _ _).drew
theorem Tk.setB (h : Tk w W A B R Q C) (i : Nat) (u : Value) : Tk w (W.setCell ⟨w.heap.size + 1, i, none⟩ u) A (B.setIfInBounds i u) R Q C :=
  ⟨(heap_setCell_other _ _ _ _ (show w.heap.size ≠ w.heap.size + 1 by omega)).trans h.a, heap_setCell_same _ _ _ _ _ _ h.b, (heap_setCell_other _ _ _ _ (show w.heap.size + 1 + 1 ≠ w.heap.size + 1 by omega)).trans h.r, (heap_setCell_other _ _ _ _ (show w.heap.size + 1 + 1 + 1 ≠ w.heap.size + 1 by omega)).trans h.q, (heap_setCell_other _ _ _ _ (show w.heap.size + 1 + 1 + 1 + 1 ≠ w.heap.size + 1 by omega)).trans h.c, h.low.setCell (p := ⟨w.heap.size + 1, i, none⟩) (show w.heap.size ≤ w.heap.size + 1 by omega) _⟩
theorem tk_start {w : World} {A B R Q C : Array Value} : Tk w (((((w.alloc (.cells A 117)).alloc (.cells B 57)).alloc (.cells R 57)).alloc (.cells Q 74)).alloc (.cells C 76)) A B R Q C := by
  refine ⟨?_, ?_, ?_, ?_, ?_, ?_⟩
  · rw [Below.heap_alloc _ _ _ (by simp <;> omega), Below.heap_alloc _ _ _ (by simp <;> omega), Below.heap_alloc _ _ _ (by simp <;> omega), Below.heap_alloc _ _ _ (by simp), heap_alloc_new]
  · rw [Below.heap_alloc _ _ _ (by simp <;> omega), Below.heap_alloc _ _ _ (by simp <;> omega), Below.heap_alloc _ _ _ (by simp)]
    exact new_at (by simp)
  · rw [Below.heap_alloc _ _ _ (by simp <;> omega), Below.heap_alloc _ _ _ (by simp)]
    exact new_at (by simp)
  · rw [Below.heap_alloc _ _ _ (by simp)]
    exact new_at (by simp)
  · exact new_at (by simp)
  · exact (((((Below.refl _ w).alloc (Nat.le_refl _) _).alloc (by simp) _).alloc (by simp <;> omega) _).alloc (by simp <;> omega) _).alloc (by simp <;> omega) _
/-- A row of five cells, and one of four, stored into: nine stores. -/
def out9 (W : World) (a b : Nat) (v0 v1 v2 v3 v4 u0 u1 u2 u3 : Value) : World :=
  ((((((((W.setCell ⟨a, 0, none⟩ v0).setCell ⟨a, 1, none⟩ v1).setCell ⟨a, 2, none⟩ v2).setCell ⟨a, 3, none⟩ v3).setCell ⟨a, 4, none⟩ v4).setCell ⟨b, 0, none⟩ u0).setCell ⟨b, 1, none⟩ u1).setCell ⟨b, 2, none⟩ u2).setCell ⟨b, 3, none⟩ u3
theorem out9_blocks {W : World} {a b : Nat} {T T' : TypeId} {z0 z1 z2 z3 z4 y0 y1 y2 y3 v0 v1 v2 v3 v4 u0 u1 u2 u3 : Value} (h1 : W.heap[a]? = some (.cells #[z0, z1, z2, z3, z4] T (0, 0))) (h2 : W.heap[b]? = some (.cells #[y0, y1, y2, y3] T' (0, 0))) (hne : a ≠ b) :
    (out9 W a b v0 v1 v2 v3 v4 u0 u1 u2 u3).heap[a]? = some (.cells #[v0, v1, v2, v3, v4] T (0, 0)) ∧ (out9 W a b v0 v1 v2 v3 v4 u0 u1 u2 u3).heap[b]? = some (.cells #[u0, u1, u2, u3] T' (0, 0)) := by
  have a5 := heap_setCell_same _ a 4 _ _ v4 (heap_setCell_same _ a 3 _ _ v3 (heap_setCell_same _ a 2 _ _ v2 (heap_setCell_same _ a 1 _ _ v1 (heap_setCell_same _ a 0 _ _ v0 h1))))
  have hb : ∀ (W : World) i v, (W.setCell ⟨a, i, none⟩ v).heap[b]? = W.heap[b]? := fun W i v => heap_setCell_other _ _ _ _ (show b ≠ a by omega)
  have ha : ∀ (W : World) i v, (W.setCell ⟨b, i, none⟩ v).heap[a]? = W.heap[a]? := fun W i v => heap_setCell_other _ _ _ _ (show a ≠ b by omega)
  constructor
  · unfold out9
    rw [ha, ha, ha, ha]
    exact a5
  · unfold out9
    refine heap_setCell_same _ b 3 #[u0, u1, u2, y3] _ _ (heap_setCell_same _ b 2 #[u0, u1, y2, y3] _ _ (heap_setCell_same _ b 1 #[u0, y1, y2, y3] _ _ (heap_setCell_same _ b 0 #[y0, y1, y2, y3] _ _ ?_)))
    rw [hb, hb, hb, hb, hb]
    exact h2
theorem out9_low {w W : World} {a b : Nat} {v0 v1 v2 v3 v4 u0 u1 u2 u3 : Value} (h : Below w.heap.size w W) (ha : w.heap.size ≤ a) (hb : w.heap.size ≤ b) : Below w.heap.size w (out9 W a b v0 v1 v2 v3 v4 u0 u1 u2 u3) :=
  ((((((((h.setCell (p := ⟨a, 0, none⟩) ha _).setCell (p := ⟨a, 1, none⟩) ha _).setCell (p := ⟨a, 2, none⟩) ha _).setCell (p := ⟨a, 3, none⟩) ha _).setCell (p := ⟨a, 4, none⟩) ha _).setCell (p := ⟨b, 0, none⟩) hb _).setCell (p := ⟨b, 1, none⟩) hb _).setCell (p := ⟨b, 2, none⟩) hb _).setCell (p := ⟨b, 3, none⟩) hb _
/-- What a tick hands out: the two results, read. -/
theorem tk_out {w W : World} {A B C : Array Value} {z0 z1 z2 z3 z4 y0 y1 y2 y3 v0 v1 v2 v3 v4 u0 u1 u2 u3 : Value} (h : Tk w W A B #[z0, z1, z2, z3, z4] #[y0, y1, y2, y3] C) {W' : World} (hW : W' = out9 W (w.heap.size + 1 + 1) (w.heap.size + 1 + 1 + 1) v0 v1 v2 v3 v4 u0 u1 u2 u3) :
    (W'.cell? ⟨w.heap.size + 1 + 1, 0, none⟩ = some v0 ∧ W'.cell? ⟨w.heap.size + 1 + 1, 1, none⟩ = some v1 ∧ W'.cell? ⟨w.heap.size + 1 + 1, 2, none⟩ = some v2 ∧ W'.cell? ⟨w.heap.size + 1 + 1, 3, none⟩ = some v3 ∧ W'.cell? ⟨w.heap.size + 1 + 1, 4, none⟩ = some v4) ∧
    (W'.cell? ⟨w.heap.size + 1 + 1 + 1, 0, none⟩ = some u0 ∧ W'.cell? ⟨w.heap.size + 1 + 1 + 1, 1, none⟩ = some u1 ∧ W'.cell? ⟨w.heap.size + 1 + 1 + 1, 2, none⟩ = some u2 ∧ W'.cell? ⟨w.heap.size + 1 + 1 + 1, 3, none⟩ = some u3) ∧ Below w.heap.size w W' := by
  subst hW
  obtain ⟨h1, h2⟩ := out9_blocks (v0 := v0) (v1 := v1) (v2 := v2) (v3 := v3) (v4 := v4) (u0 := u0) (u1 := u1) (u2 := u2) (u3 := u3) h.r h.q (by omega)
  exact ⟨⟨cell_of_row _ _ 0 _ _ _ h1, cell_of_row _ _ 1 _ _ _ h1, cell_of_row _ _ 2 _ _ _ h1, cell_of_row _ _ 3 _ _ _ h1, cell_of_row _ _ 4 _ _ _ h1⟩, ⟨cell_of_row _ _ 0 _ _ _ h2, cell_of_row _ _ 1 _ _ _ h2, cell_of_row _ _ 2 _ _ _ h2, cell_of_row _ _ 3 _ _ _ h2⟩, out9_low h.low (by omega) (by omega)⟩
/-- The cells of the two results, before. -/
theorem tk_outs {w W : World} {A B C : Array Value} {z0 z1 z2 z3 z4 y0 y1 y2 y3 : Value} (h : Tk w W A B #[z0, z1, z2, z3, z4] #[y0, y1, y2, y3] C) :
    (W.cell? ⟨w.heap.size + 1 + 1, 0, none⟩ = some z0 ∧ W.cell? ⟨w.heap.size + 1 + 1, 1, none⟩ = some z1 ∧ W.cell? ⟨w.heap.size + 1 + 1, 2, none⟩ = some z2 ∧ W.cell? ⟨w.heap.size + 1 + 1, 3, none⟩ = some z3 ∧ W.cell? ⟨w.heap.size + 1 + 1, 4, none⟩ = some z4) ∧
    (W.cell? ⟨w.heap.size + 1 + 1 + 1, 0, none⟩ = some y0 ∧ W.cell? ⟨w.heap.size + 1 + 1 + 1, 1, none⟩ = some y1 ∧ W.cell? ⟨w.heap.size + 1 + 1 + 1, 2, none⟩ = some y2 ∧ W.cell? ⟨w.heap.size + 1 + 1 + 1, 3, none⟩ = some y3) ∧
    (∀ i, W.frozen? ⟨w.heap.size + 1 + 1, i, none⟩ = false) ∧ (∀ i, W.frozen? ⟨w.heap.size + 1 + 1 + 1, i, none⟩ = false) :=
  ⟨⟨cell_of_row _ _ 0 _ _ _ h.r, cell_of_row _ _ 1 _ _ _ h.r, cell_of_row _ _ 2 _ _ _ h.r, cell_of_row _ _ 3 _ _ _ h.r, cell_of_row _ _ 4 _ _ _ h.r⟩, ⟨cell_of_row _ _ 0 _ _ _ h.q, cell_of_row _ _ 1 _ _ _ h.q, cell_of_row _ _ 2 _ _ _ h.q, cell_of_row _ _ 3 _ _ _ h.q⟩, fun i => frozen_of_row _ _ i _ _ h.r, fun i => frozen_of_row _ _ i _ _ h.q⟩
end
end Go.Proofs.Ytpkcnojcklmhmaa
