/- What the walk of stretches stands on. -/
import Derived.Test.YtjfakhfkbnnbcaaZn
namespace Go.Proofs.Ytjfakhfkbnnbcaa
open Go.RowKit Go.Shelf
attribute [local go_sem] Oper.semAt_some

/-- Cells of another type than the iterator's stay when something of it is turned. -/
theorem turn_keep {W W' : World} {row : Option Nat} {g T : Nat} {cs : Array Value} {fr : Nat × Nat} (hT : T ≠ 75) (h : W.heap[g]? = some (.cells cs T fr)) (hg : W.grownBy W' row) (hr : ∀ j, row = some j → ∃ o : Obj, W.heap[j]? = some o ∧ Obj.apart 75 o) : W'.heap[g]? = some (.cells cs T fr) := by
  rw [hg.block g (Array.getElem?_eq_some_iff.1 h).1 ?_]
  · exact h
  · intro e
    obtain ⟨o, h1, h2⟩ := hr g e.symm
    rw [h] at h1
    cases h1
    rcases h2 with h2 | ⟨cs', h2⟩
    · cases h2
    · cases h2; exact hT rfl
theorem OwnX.turn {W W' : World} {base : Nat} {v : Value} {L : List Pr} {row : Option Nat} (h : OwnX W base 68 v L) (hg : W.grownBy W' row) (hr : ∀ j, row = some j → ∃ o : Obj, W.heap[j]? = some o ∧ Obj.apart 75 o) : OwnX W' base 68 v L := by
  refine ⟨h.1, ?_⟩
  rcases h.2 with h0 | ⟨g, cap, cur, e, hb, hgr, rest⟩
  · exact .inl h0
  · exact .inr ⟨g, cap, cur, e, hb, turn_keep (by decide) hgr hg hr, rest⟩
/-- The boxes of stretches, and what was told so far. -/
structure StI (w : World) (A : Array Value) (b E : Int) (fn : Value) (L : List Pr) (v : Value) (W : World) : Prop where
  clo : W.heap[w.heap.size]? = some (.cells A 61 (0, 0))
  bb : W.heap[w.heap.size + 1]? = some (.cells #[.int .i64 b] 3 (0, 0))
  ee : W.heap[w.heap.size + 1 + 1]? = some (.cells #[.int .i64 E] 3 (0, 0))
  fn : W.heap[w.heap.size + 1 + 1 + 1]? = some (.cells #[fn] 76 (0, 0))
  box : W.heap[w.heap.size + 1 + 1 + 1 + 1]? = some (.cells #[v] 28 (0, 0))
  own : OwnX W (w.heap.size + 5) 68 v L
  low : Below w.heap.size w W
theorem StI.turn {w W W' : World} {A : Array Value} {b E : Int} {fn v : Value} {L : List Pr} {row : Option Nat} (h : StI w A b E fn L v W) (hg : W.grownBy W' row) (hr : ∀ j, row = some j → w.heap.size ≤ j ∧ ∃ o : Obj, W.heap[j]? = some o ∧ Obj.apart 75 o) : StI w A b E fn L v W' :=
  have hr' := fun j e => (hr j e).2
  ⟨turn_keep (by decide) h.clo hg hr', turn_keep (by decide) h.bb hg hr', turn_keep (by decide) h.ee hg hr', turn_keep (by decide) h.fn hg hr', turn_keep (by decide) h.box hg hr', h.own.turn hg hr', h.low.grown hg h.low.size (fun j e => (hr j e).1)⟩
theorem StI.more {w W W' : World} {A : Array Value} {b E : Int} {fn v : Value} {L : List Pr} (h : StI w A b E fn L v W) (hb : Below W.heap.size W W') : StI w A b E fn L v W' :=
  h.turn (gbelowP hb) (fun j e => by cases e)
theorem newS_at {W : World} {o : Obj} {n : Nat} (h : W.heap.size = n) : (W.alloc o).heap[n]? = some o := by subst h; exact heap_alloc_new W o
theorem sti_start (w : World) (A : Array Value) (b E : Int) (fn : Value) : StI w A b E fn [] (.slice none 0 0) (((((w.alloc (.cells A 61)).alloc (.cells #[.int .i64 b] 3)).alloc (.cells #[.int .i64 E] 3)).alloc (.cells #[fn] 76)).alloc (.cells #[.slice none 0 0] 28)) := by
  have s1 : (w.alloc (.cells A 61)).heap.size = w.heap.size + 1 := by simp
  have s2 : ((w.alloc (.cells A 61)).alloc (.cells #[.int .i64 b] 3)).heap.size = w.heap.size + 1 + 1 := by simp
  have s3 : (((w.alloc (.cells A 61)).alloc (.cells #[.int .i64 b] 3)).alloc (.cells #[.int .i64 E] 3)).heap.size = w.heap.size + 1 + 1 + 1 := by simp
  have s4 : ((((w.alloc (.cells A 61)).alloc (.cells #[.int .i64 b] 3)).alloc (.cells #[.int .i64 E] 3)).alloc (.cells #[fn] 76)).heap.size = w.heap.size + 1 + 1 + 1 + 1 := by simp
  refine ⟨?_, ?_, ?_, ?_, newS_at s4, World.ownsRow_nil _ _ _ 2, ((((((Below.refl _ w).alloc (Nat.le_refl _) _).alloc (by simp) _).alloc (by simp; omega) _).alloc (by simp; omega) _).alloc (by simp; omega) _)⟩
  · rw [Below.heap_alloc _ _ _ (by omega), Below.heap_alloc _ _ _ (by omega), Below.heap_alloc _ _ _ (by omega), Below.heap_alloc _ _ _ (by omega)]; exact newS_at rfl
  · rw [Below.heap_alloc _ _ _ (by omega), Below.heap_alloc _ _ _ (by omega), Below.heap_alloc _ _ _ (by omega)]; exact newS_at s1
  · rw [Below.heap_alloc _ _ _ (by omega), Below.heap_alloc _ _ _ (by omega)]; exact newS_at s2
  · rw [Below.heap_alloc _ _ _ (by omega)]; exact newS_at s3
end Go.Proofs.Ytjfakhfkbnnbcaa
