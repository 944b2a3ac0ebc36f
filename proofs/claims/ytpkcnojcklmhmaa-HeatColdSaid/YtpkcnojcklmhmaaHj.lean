/- Walk of Run: contracts. -/
import Derived.Test.YtpkcnojcklmhmaaHi
namespace Go.Proofs.Ytpkcnojcklmhmaa
open Go.RowKit Go.Shelf
attribute [local go_sem] Oper.semAt_some

/-- The boxes of a can, of a body, and of the body that comes back, whole. -/
structure R3 (w w1 : World) (A B R : Array Value) : Prop where
  can : w1.heap[w.heap.size]? = some (.cells A 23 (0, 0))
  bod : w1.heap[w.heap.size + 1]? = some (.cells B 26 (0, 0))
  res : w1.heap[w.heap.size + 1 + 1]? = some (.cells R 26 (0, 0))
  low : Below w.heap.size w w1
theorem lt_of_block {w : World} {b : Nat} {o : Obj} (h : w.heap[b]? = some o) : b < w.heap.size := (Array.getElem?_eq_some_iff.1 h).1
theorem R3.keep {w w1 w2 : World} {A B R : Array Value} (h : R3 w w1 A B R) (hb : Below w1.heap.size w1 w2) : R3 w w2 A B R :=
  ⟨(hb.block _ (lt_of_block h.can)).trans h.can, (hb.block _ (lt_of_block h.bod)).trans h.bod, (hb.block _ (lt_of_block h.res)).trans h.res, bstep h.low h.low.size hb⟩
theorem r3_start {w : World} {A B R : Array Value} : R3 w (((w.alloc (.cells A 23)).alloc (.cells B 26)).alloc (.cells R 26)) A B R := by
  have hs : ((w.alloc (.cells A 23)).alloc (.cells B 26)).heap.size = w.heap.size + 1 + 1 := by simp
  refine ⟨?_, ?_, new_at hs, (((Below.refl _ _).alloc (Nat.le_refl _) _).alloc (by simp) _).alloc (by simp; omega) _⟩
  · rw [Below.heap_alloc _ _ _ (by rw [hs]; omega)]; exact heap_alloc2_old w _ _
  · rw [Below.heap_alloc _ _ _ (by rw [hs]; omega)]; exact heap_alloc2_new w _ _
theorem R3.cell {w w1 : World} {A B R : Array Value} (h : R3 w w1 A B R) : (∀ i, w1.cell? ⟨w.heap.size, i, none⟩ = A[i]?) ∧ (∀ i, w1.cell? ⟨w.heap.size + 1, i, none⟩ = B[i]?) ∧ (∀ i, w1.cell? ⟨w.heap.size + 1 + 1, i, none⟩ = R[i]?) ∧ (∀ i, w1.frozen? ⟨w.heap.size + 1 + 1, i, none⟩ = false) :=
  ⟨fun i => cell_of_row _ _ i _ _ _ h.can, fun i => cell_of_row _ _ i _ _ _ h.bod, fun i => cell_of_row _ _ i _ _ _ h.res, fun i => frozen_of_row _ _ i _ _ h.res⟩

set_option maxHeartbeats 2000000 in
theorem during_any (gb : Nat) (a : Option Addr) (n cap : Nat) (w : World) : Calls Try.prog 49 #[.pointer (some ⟨gb, 0, none⟩), .slice a n cap] w fun e w' => e = .returned (.func (.func 84) #[] #[.pointer (some ⟨w.heap.size, 0, none⟩), .pointer (some ⟨w.heap.size + 1, 0, none⟩)]) ∧ w' = (w.alloc (.cells #[.pointer (some ⟨gb, 0, none⟩)] 90)).alloc (.cells #[.slice a n cap] 24) := by
  go_enter Try.func49, Try.ntmps49
  go_wp2
  go_ret
  exact ⟨rfl, rfl⟩

set_option maxRecDepth 20000 in
set_option maxHeartbeats 4000000 in
theorem run_err (r l a b k a2 b2 : Int) (w : World) (v : Value) (T : List Int) (br : Bool) (v2 : Value) (l2 : List Int) (hl : RowI w v T) (hl2 : RowI w v2 l2) (hne : chkE (bothB r l a b k a2 b2 T br) l2 ≠ 0) :
    Calls Try.prog 15 #[.agg #[.int .i64 r, .int .i64 l, .int .i64 a, .int .i64 b, .int .i64 k, .int .i64 a2, .int .i64 b2], .agg #[v, .bool br], v2] w fun e w' => e = .returned (.tuple #[.agg #[.slice none 0 0, .bool false], .int .i64 (chkE (bothB r l a b k a2 b2 T br) l2)]) ∧ Below w.heap.size w w' := by
  obtain ⟨ce, hce⟩ : ∃ ce, ce = chkE (bothB r l a b k a2 b2 T br) l2 := ⟨_, rfl⟩
  rw [← hce] at hne ⊢
  have HC := hid hce; clear hce
  have hb0 : (ce == 0) = false := by simpa using hne
  have hb1 : (ce != 0) = true := by simpa using hne
  have HL := hid (fun w1 (g : Below w.heap.size w w1) => hl.keep g)
  have HL2 := hid (fun w1 (g : Below w.heap.size w w1) => hl2.keep g)
  obtain ⟨a0, cap, rfl⟩ := hl.shape
  clear hl hl2
  have HS := hid (r3_start (w := w) (A := #[.int .i64 r, .int .i64 l, .int .i64 a, .int .i64 b, .int .i64 k, .int .i64 a2, .int .i64 b2]) (B := #[.slice a0 T.length cap, .bool br]) (R := #[.slice none 0 0, .bool false]))
  go_enter Try.func15, Try.ntmps15
  go_wp2_with (go_at_call 47; refine (check_any _ _ _ _ _ _ _ _ _ T _ _ l2 (HL.out _ HS.out.low) (HL2.out _ HS.out.low)).mono ?_; rintro e w1 ⟨rfl, hb⟩; rw [← HC.out]; have H1 := hid (HS.out.keep hb); clear hb; have k0 := H1.out.cell.2.2.1 0; have k1 := H1.out.cell.2.2.1 1; have k2 := H1.out.cell.2.2.2 0; have k3 := H1.out.cell.2.2.2 1; simp only [List.getElem?_toArray, List.getElem?_cons_zero, List.getElem?_cons_succ] at k0 k1)
  refine bodyPost_ret (v := .tuple #[.agg #[.slice none 0 0, .bool false], .int .i64 ce]) (by simp [results, Try.results15, go_sem, k0, k1]) rfl ⟨rfl, ?_⟩
  exact (H1.out.low.setCell (p := ⟨w.heap.size + 1 + 1, 0, none⟩) (by show w.heap.size ≤ w.heap.size + 1 + 1; omega) _).setCell (p := ⟨w.heap.size + 1 + 1, 1, none⟩) (by show w.heap.size ≤ w.heap.size + 1 + 1; omega) _
end Go.Proofs.Ytpkcnojcklmhmaa
