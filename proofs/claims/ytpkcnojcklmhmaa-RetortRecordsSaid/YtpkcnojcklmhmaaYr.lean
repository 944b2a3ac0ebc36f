/- Walk of the reference's after: contract. -/
import Derived.Test.YtpkcnojcklmhmaaVm
import Derived.Test.YtpkcnojcklmhmaaVj
import Derived.Test.YtpkcnojcklmhmaaYg
import Derived.Deep.DeepCutAuto
namespace Go.Proofs.Ytpkcnojcklmhmaa
open Go.RowKit

/-- The boxes of after: the vessel's, the load's, the two results', the step's. -/
structure AfB (w W : World) (cv cx cs : Array Value) : Prop where
  v : W.heap[w.heap.size]? = some (.cells cv 53 (0, 0))
  x : W.heap[w.heap.size + 1]? = some (.cells cx 57 (0, 0))
  r : W.heap[w.heap.size + 2]? = some (.cells #[.int .i64 0, .int .i64 0, .int .i64 0, .int .i64 0, .int .i64 0] 57 (0, 0))
  e : W.heap[w.heap.size + 3]? = some (.cells #[.int .i64 0, .int .i64 0, .int .i64 0, .int .i64 0] 74 (0, 0))
  s : W.heap[w.heap.size + 4]? = some (.cells cs 76 (0, 0))
  low : Below w.heap.size w W
theorem alloc_at {w : World} {n : Nat} {o : Obj} (h : w.heap.size = n) : (w.alloc o).heap[n]? = some o ∧ (w.alloc o).heap.size = n + 1 := by
  subst h
  exact ⟨heap_alloc_new w o, by simp⟩
theorem af_start (w : World) (cv cx cs : Array Value) : AfB w (((((w.alloc (.cells cv 53)).alloc (.cells cx 57)).alloc (.cells #[.int .i64 0, .int .i64 0, .int .i64 0, .int .i64 0, .int .i64 0] 57)).alloc (.cells #[.int .i64 0, .int .i64 0, .int .i64 0, .int .i64 0] 74)).alloc (.cells cs 76)) cv cx cs := by
  have up : ∀ (W : World) (o o' : Obj) (b : Nat), W.heap[b]? = some o' → (W.alloc o).heap[b]? = some o' := fun W o o' b h => (((Below.refl W.heap.size W).alloc (Nat.le_refl _) o).block _ (Array.getElem?_eq_some_iff.1 h).1).trans h
  have e0 := alloc_at (w := w) (n := w.heap.size) (o := .cells cv 53) rfl
  have e1 := alloc_at (n := w.heap.size + 1) (o := .cells cx 57) e0.2
  have e2 := alloc_at (n := w.heap.size + 2) (o := .cells #[.int .i64 0, .int .i64 0, .int .i64 0, .int .i64 0, .int .i64 0] 57) e1.2
  have e3 := alloc_at (n := w.heap.size + 3) (o := .cells #[.int .i64 0, .int .i64 0, .int .i64 0, .int .i64 0] 74) e2.2
  have e4 := alloc_at (n := w.heap.size + 4) (o := .cells cs 76) e3.2
  exact ⟨up _ _ _ _ (up _ _ _ _ (up _ _ _ _ (up _ _ _ _ e0.1))), up _ _ _ _ (up _ _ _ _ (up _ _ _ _ e1.1)), up _ _ _ _ (up _ _ _ _ e2.1), up _ _ _ _ e3.1, e4.1, (((((Below.refl _ _).alloc (Nat.le_refl _) _).alloc (by simp) _).alloc (by simp <;> omega) _).alloc (by simp <;> omega) _).alloc (by simp <;> omega) _⟩
theorem lt_of_block {W : World} {b : Nat} {o : Obj} (h : W.heap[b]? = some o) : b < W.heap.size := (Array.getElem?_eq_some_iff.1 h).1
theorem AfB.keep {w W w2 : World} {cv cx cs : Array Value} (h : AfB w W cv cx cs) (hb : Below W.heap.size W w2) : AfB w w2 cv cx cs :=
  ⟨(hb.block _ (lt_of_block h.v)).trans h.v, (hb.block _ (lt_of_block h.x)).trans h.x, (hb.block _ (lt_of_block h.r)).trans h.r, (hb.block _ (lt_of_block h.e)).trans h.e, (hb.block _ (lt_of_block h.s)).trans h.s, bstep h.low h.low.size hb⟩
theorem AfB.setX {w W : World} {cv cx cs : Array Value} (h : AfB w W cv cx cs) (j : Nat) (u : Value) : AfB w (W.setCell ⟨w.heap.size + 1, j, none⟩ u) cv (cx.setIfInBounds j u) cs :=
  ⟨(heap_setCell_other _ _ _ _ (by simp)).trans h.v, heap_setCell_same _ _ _ _ _ _ h.x, (heap_setCell_other _ _ _ _ (by simp)).trans h.r, (heap_setCell_other _ _ _ _ (by simp)).trans h.e, (heap_setCell_other _ _ _ _ (by simp)).trans h.s, h.low.setCell (p := ⟨w.heap.size + 1, j, none⟩) (Nat.le_succ _) _⟩
theorem AfB.drewN {w W : World} {cv cx cs : Array Value} (h : AfB w W cv cx cs) (k : Nat) : AfB w (W.drewN k) cv cx cs := ⟨h.v, h.x, h.r, h.e, h.s, bdrewN h.low⟩
theorem AfB.all {w W : World} {s : ByteArray} {h c v p ch t st g tc ai K S N : Int} (hf : AfB w W #[.string s, .int .i64 h, .int .i64 c, .int .i64 v, .int .i64 p, .int .i64 ch] #[.int .i64 t, .int .i64 st, .int .i64 g, .int .i64 tc, .int .i64 ai] #[.int .i64 K, .int .i64 S, .int .i64 N]) :
    (W.cell? ⟨w.heap.size, 1, none⟩ = some (.int .i64 h) ∧ W.cell? ⟨w.heap.size, 2, none⟩ = some (.int .i64 c) ∧ W.cell? ⟨w.heap.size, 3, none⟩ = some (.int .i64 v) ∧ W.cell? ⟨w.heap.size, 4, none⟩ = some (.int .i64 p) ∧ W.cell? ⟨w.heap.size, 5, none⟩ = some (.int .i64 ch)) ∧ (W.cell? ⟨w.heap.size + 1, 0, none⟩ = some (.int .i64 t) ∧ W.cell? ⟨w.heap.size + 1, 1, none⟩ = some (.int .i64 st) ∧ W.cell? ⟨w.heap.size + 1, 2, none⟩ = some (.int .i64 g) ∧ W.cell? ⟨w.heap.size + 1, 3, none⟩ = some (.int .i64 tc) ∧ W.cell? ⟨w.heap.size + 1, 4, none⟩ = some (.int .i64 ai)) ∧ (W.cell? ⟨w.heap.size + 4, 0, none⟩ = some (.int .i64 K) ∧ W.cell? ⟨w.heap.size + 4, 1, none⟩ = some (.int .i64 S) ∧ W.cell? ⟨w.heap.size + 4, 2, none⟩ = some (.int .i64 N)) :=
  ⟨⟨cell_of_row _ _ 1 _ _ _ hf.v, cell_of_row _ _ 2 _ _ _ hf.v, cell_of_row _ _ 3 _ _ _ hf.v, cell_of_row _ _ 4 _ _ _ hf.v, cell_of_row _ _ 5 _ _ _ hf.v⟩, ⟨cell_of_row _ _ 0 _ _ _ hf.x, cell_of_row _ _ 1 _ _ _ hf.x, cell_of_row _ _ 2 _ _ _ hf.x, cell_of_row _ _ 3 _ _ _ hf.x, cell_of_row _ _ 4 _ _ _ hf.x⟩, ⟨cell_of_row _ _ 0 _ _ _ hf.s, cell_of_row _ _ 1 _ _ _ hf.s, cell_of_row _ _ 2 _ _ _ hf.s⟩⟩
/-- The load's box, the two results', the reading's own. -/
structure Af2 (w W : World) (cx cr ce : Array Value) (b : Nat) (cb : Array Value) : Prop where
  x : W.heap[w.heap.size + 1]? = some (.cells cx 57 (0, 0))
  r : W.heap[w.heap.size + 1 + 1]? = some (.cells cr 57 (0, 0))
  e : W.heap[w.heap.size + 1 + 1 + 1]? = some (.cells ce 74 (0, 0))
  bb : W.heap[b]? = some (.cells cb 74 (0, 0))
  lb : w.heap.size + 4 < b
  low : Below w.heap.size w W
section
variable {w W w2 : World} {cx cr ce cb : Array Value} {b : Nat}
theorem Af2.keep (h : Af2 w W cx cr ce b cb) (hb : Below W.heap.size W w2) : Af2 w w2 cx cr ce b cb :=
  ⟨(hb.block _ (lt_of_block h.x)).trans h.x, (hb.block _ (lt_of_block h.r)).trans h.r, (hb.block _ (lt_of_block h.e)).trans h.e, (hb.block _ (lt_of_block h.bb)).trans h.bb, h.lb, bstep h.low h.low.size hb⟩
theorem Af2.setX (h : Af2 w W cx cr ce b cb) (j : Nat) (u : Value) : Af2 w (W.setCell ⟨w.heap.size + 1, j, none⟩ u) (cx.setIfInBounds j u) cr ce b cb := by
  have hl := h.lb
  exact ⟨heap_setCell_same _ _ _ _ _ _ h.x, (heap_setCell_other _ _ _ _ (by simp)).trans h.r, (heap_setCell_other _ _ _ _ (by simp <;> omega)).trans h.e, (heap_setCell_other _ _ _ _ (by simp <;> omega)).trans h.bb, h.lb, h.low.setCell (p := ⟨w.heap.size + 1, j, none⟩) (Nat.le_succ _) _⟩
theorem Af2.setR (h : Af2 w W cx cr ce b cb) (j : Nat) (u : Value) : Af2 w (W.setCell ⟨w.heap.size + 1 + 1, j, none⟩ u) cx (cr.setIfInBounds j u) ce b cb := by
  have hl := h.lb
  exact ⟨(heap_setCell_other _ _ _ _ (by simp)).trans h.x, heap_setCell_same _ _ _ _ _ _ h.r, (heap_setCell_other _ _ _ _ (by simp)).trans h.e, (heap_setCell_other _ _ _ _ (by simp <;> omega)).trans h.bb, h.lb, h.low.setCell (p := ⟨w.heap.size + 1 + 1, j, none⟩) (by show w.heap.size ≤ w.heap.size + 1 + 1; omega) _⟩
theorem Af2.setE (h : Af2 w W cx cr ce b cb) (j : Nat) (u : Value) : Af2 w (W.setCell ⟨w.heap.size + 1 + 1 + 1, j, none⟩ u) cx cr (ce.setIfInBounds j u) b cb := by
  have hl := h.lb
  exact ⟨(heap_setCell_other _ _ _ _ (by simp <;> omega)).trans h.x, (heap_setCell_other _ _ _ _ (by simp)).trans h.r, heap_setCell_same _ _ _ _ _ _ h.e, (heap_setCell_other _ _ _ _ (by simp <;> omega)).trans h.bb, h.lb, h.low.setCell (p := ⟨w.heap.size + 1 + 1 + 1, j, none⟩) (by show w.heap.size ≤ w.heap.size + 1 + 1 + 1; omega) _⟩
theorem Af2.setB (h : Af2 w W cx cr ce b cb) (j : Nat) (u : Value) : Af2 w (W.setCell ⟨b, j, none⟩ u) cx cr ce b (cb.setIfInBounds j u) := by
  have hl := h.lb
  exact ⟨(heap_setCell_other _ _ _ _ (by simp <;> omega)).trans h.x, (heap_setCell_other _ _ _ _ (by simp <;> omega)).trans h.r, (heap_setCell_other _ _ _ _ (by simp <;> omega)).trans h.e, heap_setCell_same _ _ _ _ _ _ h.bb, h.lb, h.low.setCell (p := ⟨b, j, none⟩) (by show w.heap.size ≤ b; omega) _⟩
end
theorem AfB.two {cv cx cs : Array Value} {w W : World} (h : AfB w W cv cx cs) {b : Nat} {cb : Array Value} (hb : W.heap[b]? = some (.cells cb 74 (0, 0))) (hl : w.heap.size + 4 < b) : Af2 w W cx #[.int .i64 0, .int .i64 0, .int .i64 0, .int .i64 0, .int .i64 0] #[.int .i64 0, .int .i64 0, .int .i64 0, .int .i64 0] b cb := ⟨h.x, h.r, h.e, hb, hl, h.low⟩
/-- The step's box beside them. -/
theorem AfB.stepOf {cv cx cs : Array Value} {w W : World} (h : AfB w W cv cx cs) : W.heap[w.heap.size + 1 + 1 + 1 + 1]? = some (.cells cs 76 (0, 0)) := h.s
set_option maxHeartbeats 1000000 in
theorem xup_bd (a b : Int) (w : World) (h1 : 0 ≤ a * b) (h2 : a * b ≤ 50000000) :
    Calls Try.prog 104 #[.int .i64 a, .int .i64 b] w fun e w' => e = .returned (.int .i64 (upN a b)) ∧ w = w' := by
  go_enter Try.func104, Try.ntmps104
  go_wp2
  go_ret
  exact ⟨ret_int (by unfold upN; omega), rfl⟩
end Go.Proofs.Ytpkcnojcklmhmaa
