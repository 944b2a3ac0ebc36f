/- Walks of When of package lethal where it asks no sums: contracts. -/
import Derived.Test.YtfngmpkceceomaaUb
import Derived.Test.YtfngmpkceceomaaPs
namespace Go.Proofs.Ytfngmpkceceomaa
open Go.RowKit Go.Lib Go.Maps Go.Shelf

/-- What When's four boxes hold. -/
def W4 (b : Nat) (w w1 : World) (s : ByteArray) (r z d g f : Int) (x y : Value) : Prop :=
  w1.cell? ⟨b, 0, none⟩ = some (.string s) ∧ w1.cell? ⟨b, 1, none⟩ = some (.int .i64 r) ∧ w1.cell? ⟨b, 2, none⟩ = some (.int .i64 z) ∧ w1.cell? ⟨b, 3, none⟩ = some (.int .i64 d) ∧ w1.cell? ⟨b, 4, none⟩ = some (.int .i64 g) ∧
    w1.cell? ⟨b + 1, 0, none⟩ = some (.int .i64 f) ∧ w1.cell? ⟨b + 1 + 1, 0, none⟩ = some x ∧ w1.cell? ⟨b + 1 + 1 + 1, 0, none⟩ = some y ∧ w1.frozen? ⟨b + 1 + 1, 0, none⟩ = false ∧ w1.frozen? ⟨b + 1 + 1 + 1, 0, none⟩ = false ∧ b + 1 + 1 + 1 < w1.heap.size ∧ Below w.heap.size w w1
theorem w4_keep {b : Nat} {w W w2 : World} {s : ByteArray} {r z d g f : Int} {x y : Value} (hb : Below W.heap.size W w2) (h : W4 b w W s r z d g f x y) : W4 b w w2 s r z d g f x y := by
  obtain ⟨h0, h1, h2, h3, h4, h5, h6, h7, h8, h9, h10, h11⟩ := h
  obtain ⟨_, hf⟩ := bcell hb
  exact ⟨keep_cell hb h0, keep_cell hb h1, keep_cell hb h2, keep_cell hb h3, keep_cell hb h4, keep_cell hb h5, keep_cell hb h6, keep_cell hb h7, (hf _ _ (by omega)).trans h8, (hf _ _ h10).trans h9, Nat.lt_of_lt_of_le h10 hb.size, h11.trans (hb.mono h11.size)⟩
theorem w4_start {w : World} {s : ByteArray} {r z d g f : Int} {x y : Value} {T1 T2 T3 T4 : TypeId} :
    W4 w.heap.size w ((((w.alloc (.cells #[.string s, .int .i64 r, .int .i64 z, .int .i64 d, .int .i64 g] T1)).alloc (.cells #[.int .i64 f] T2)).alloc (.cells #[x] T3)).alloc (.cells #[y] T4)) s r z d g f x y := by
  have e1 := cell_alloc_new w #[.string s, .int .i64 r, .int .i64 z, .int .i64 d, .int .i64 g] T1 (0, 0)
  generalize hA : w.alloc (.cells #[.string s, .int .i64 r, .int .i64 z, .int .i64 d, .int .i64 g] T1) = A at e1
  have sA : A.heap.size = w.heap.size + 1 := by rw [← hA]; simp
  have bA : Below w.heap.size w A := by rw [← hA]; exact (Below.refl _ _).alloc (Nat.le_refl _) _
  have e2 := cell_alloc_new A #[.int .i64 f] T2 (0, 0) 0
  generalize hB : A.alloc (.cells #[.int .i64 f] T2) = B at e2
  have sB : B.heap.size = w.heap.size + 1 + 1 := by rw [← hB, alloc_size, sA]
  have bB : Below A.heap.size A B := by rw [← hB]; exact (Below.refl _ _).alloc (Nat.le_refl _) _
  have e3 := cell_alloc_new B #[x] T3 (0, 0) 0
  have hC' : (B.alloc (.cells #[x] T3)).heap[B.heap.size]? = some (.cells #[x] T3 (0, 0)) := heap_alloc_new _ _
  generalize hC : B.alloc (.cells #[x] T3) = C at e3 hC'
  have sC : C.heap.size = w.heap.size + 1 + 1 + 1 := by rw [← hC, alloc_size, sB]
  have bC : Below B.heap.size B C := by rw [← hC]; exact (Below.refl _ _).alloc (Nat.le_refl _) _
  have e4 := cell_alloc_new C #[y] T4 (0, 0) 0
  have hD' : (C.alloc (.cells #[y] T4)).heap[C.heap.size]? = some (.cells #[y] T4 (0, 0)) := heap_alloc_new _ _
  have bD : Below C.heap.size C (C.alloc (.cells #[y] T4)) := (Below.refl _ _).alloc (Nat.le_refl _) _
  have f3 := (bcell bD).2 C.heap.size
  rw [sA] at e2; rw [sB] at e3 hC'; rw [sC] at e4 hD'
  have bAD : Below A.heap.size A (C.alloc (.cells #[y] T4)) := (bB.trans (bC.mono (by omega))).trans (bD.mono (by omega))
  have bBD : Below B.heap.size B (C.alloc (.cells #[y] T4)) := bC.trans (bD.mono (by omega))
  exact ⟨keep_cell bAD (e1 0), keep_cell bAD (e1 1), keep_cell bAD (e1 2), keep_cell bAD (e1 3), keep_cell bAD (e1 4), keep_cell bBD e2, keep_cell bD e3, e4,
    ((bcell bD).2 _ _ (by omega)).trans (blk_free hC'), blk_free hD', by simp; omega, bA.trans (bAD.mono (by omega))⟩
theorem set_two {b : Nat} {w w1 : World} (x y : Value) (h : Below b w w1) : Below b w ((w1.setCell ⟨b + 1 + 1, 0, none⟩ x).setCell ⟨b + 1 + 1 + 1, 0, none⟩ y) := (h.setCell (by show b ≤ b + 1 + 1; omega) x).setCell (by show b ≤ b + 1 + 1 + 1; omega) y

set_option maxHeartbeats 4000000 in
theorem lWhen_e1 (s : ByteArray) (r z d g f : Int) (w : World) (hs : s.size ≤ maxLen) (v : Value) (l : List Int) (hl : RowI w v l) (hne : askE (validB s.data.toList r z d g) l ≠ 0) :
    Calls Try.prog 53 #[.agg #[.string s, .int .i64 r, .int .i64 z, .int .i64 d, .int .i64 g], v, .int .i64 f] w fun e w' => e = .returned (.tuple #[.int .i64 0, .int .i64 (askE (validB s.data.toList r z d g) l)]) ∧ Below w.heap.size w w' := by
  obtain ⟨c, hc⟩ : ∃ c, c = askE (validB s.data.toList r z d g) l := ⟨_, rfl⟩
  rw [← hc] at hne ⊢
  have HC := hid hc; clear hc
  have hb : (c == 0) = false := by simpa using hne
  have HL := hid (fun w1 (g : Below w.heap.size w w1) => hl.keep g)
  clear hl
  have HB0 := hid (w4_start (w := w) (s := s) (r := r) (z := z) (d := d) (g := g) (f := f) (x := .int .i64 0) (y := .int .i64 0) (T1 := 23) (T2 := 3) (T3 := 3) (T4 := 29))
  go_enter Try.func53, Try.ntmps53
  go_wp2_with (go_at_call 68; refine (checkTemps_any _ _ _ _ _ _ hs _ l (HL.out _ HB0.out.2.2.2.2.2.2.2.2.2.2.2)).mono ?_; rintro e w1 ⟨rfl, hb1⟩; rw [← HC.out]; obtain ⟨b0, b1, b2, b3, b4, b5, b6, b7, b8, b9, hz, hB⟩ := w4_keep hb1 HB0.out; clear hb1)
  exact bodyPost_ret (v := .tuple #[.int .i64 0, .int .i64 c]) (by simp [results, Try.results53, go_sem, b6, b7]) rfl ⟨rfl, set_two _ _ hB⟩
set_option maxHeartbeats 4000000 in
theorem lWhen_e2 (s : ByteArray) (r z d g f : Int) (w : World) (hs : s.size ≤ maxLen) (v : Value) (l : List Int) (hl : RowI w v l) (h0 : askE (validB s.data.toList r z d g) l = 0) (hne : chkF (validB s.data.toList r z d g) f ≠ 0) :
    Calls Try.prog 53 #[.agg #[.string s, .int .i64 r, .int .i64 z, .int .i64 d, .int .i64 g], v, .int .i64 f] w fun e w' => e = .returned (.tuple #[.int .i64 0, .int .i64 (chkF (validB s.data.toList r z d g) f)]) ∧ Below w.heap.size w w' := by
  obtain ⟨c, hc⟩ : ∃ c, c = chkF (validB s.data.toList r z d g) f := ⟨_, rfl⟩
  rw [← hc] at hne ⊢
  have HC := hid hc; clear hc
  have H0 := hid h0; clear h0
  have hb : (c == 0) = false := by simpa using hne
  have HL := hid (fun w1 (g : Below w.heap.size w w1) => hl.keep g)
  clear hl
  have HB0 := hid (w4_start (w := w) (s := s) (r := r) (z := z) (d := d) (g := g) (f := f) (x := .int .i64 0) (y := .int .i64 0) (T1 := 23) (T2 := 3) (T3 := 3) (T4 := 29))
  go_enter Try.func53, Try.ntmps53
  go_wp2_with (first
    | (go_at_call 68; refine (checkTemps_any _ _ _ _ _ _ hs _ l (HL.out _ HB0.out.2.2.2.2.2.2.2.2.2.2.2)).mono ?_; rintro e w1 ⟨rfl, hb1⟩; rw [H0.out]; have HB1 := hid (w4_keep hb1 HB0.out); obtain ⟨b0, b1, b2, b3, b4, b5, b6, b7, b8, b9, hz, hB⟩ := HB1.out; clear hb1)
    | (go_at_call 76; refine (checkF_any _ _ _ _ _ _ hs _).mono ?_; rintro e w2 ⟨rfl, hb1⟩; rw [← HC.out]; have HB2 := hid (w4_keep hb1 HB1.out); obtain ⟨b0, b1, b2, b3, b4, b5, b6, b7, b8, b9, hz, hB⟩ := HB2.out; clear hb1))
  exact bodyPost_ret (v := .tuple #[.int .i64 0, .int .i64 c]) (by simp [results, Try.results53, go_sem, b6, b7]) rfl ⟨rfl, set_two _ _ hB⟩
set_option maxHeartbeats 4000000 in
theorem lWhen_zero (s : ByteArray) (r z d g : Int) (w : World) (hs : s.size ≤ maxLen) (v : Value) (l : List Int) (hl : RowI w v l) (h0 : askE (validB s.data.toList r z d g) l = 0) (h1 : chkF (validB s.data.toList r z d g) 0 = 0) :
    Calls Try.prog 53 #[.agg #[.string s, .int .i64 r, .int .i64 z, .int .i64 d, .int .i64 g], v, .int .i64 0] w fun e w' => e = .returned (.tuple #[.int .i64 0, .int .i64 0]) ∧ Below w.heap.size w w' := by
  have H0 := hid h0; have H1 := hid h1; clear h0 h1
  have HL := hid (fun w1 (g : Below w.heap.size w w1) => hl.keep g)
  clear hl
  have HB0 := hid (w4_start (w := w) (s := s) (r := r) (z := z) (d := d) (g := g) (f := 0) (x := .int .i64 0) (y := .int .i64 0) (T1 := 23) (T2 := 3) (T3 := 3) (T4 := 29))
  go_enter Try.func53, Try.ntmps53
  go_wp2_with (first
    | (go_at_call 68; refine (checkTemps_any _ _ _ _ _ _ hs _ l (HL.out _ HB0.out.2.2.2.2.2.2.2.2.2.2.2)).mono ?_; rintro e w1 ⟨rfl, hb1⟩; rw [H0.out]; have HB1 := hid (w4_keep hb1 HB0.out); obtain ⟨b0, b1, b2, b3, b4, b5, b6, b7, b8, b9, hz, hB⟩ := HB1.out; clear hb1)
    | (go_at_call 76; refine (checkF_any _ _ _ _ _ _ hs _).mono ?_; rintro e w2 ⟨rfl, hb1⟩; rw [H1.out]; have HB2 := hid (w4_keep hb1 HB1.out); obtain ⟨b0, b1, b2, b3, b4, b5, b6, b7, b8, b9, hz, hB⟩ := HB2.out; clear hb1))
  exact bodyPost_ret (v := .tuple #[.int .i64 0, .int .i64 0]) (by simp [results, Try.results53, go_sem, b6, b7]) rfl ⟨rfl, set_two _ _ hB⟩
end Go.Proofs.Ytfngmpkceceomaa
