/- Walks of Step and of the law's awake: contracts. -/
import Derived.Test.YtpkcnojcklmhmaaHk
namespace Go.Proofs.Ytpkcnojcklmhmaa
open Go.RowKit Go.Shelf

theorem one_at {W : World} {n : Nat} (t : Int) (T : TypeId) (h : W.heap.size = n) : RowI (W.alloc (.cells #[.int .i64 t] T)) (.slice (some ⟨n, 0, none⟩) 1 1) [t] := by
  subst h
  refine .inr ⟨W.heap.size, 0, 1, rfl, by simp [maxLen], fun k hk => ?_⟩
  obtain rfl : k = 0 := by simp at hk; omega
  exact cell_alloc_new W _ T (0, 0) 0
theorem res_set {w W7 : World} {A B : Array Value} {u v : Value} (h7 : R3 w W7 A B #[.slice none 0 0, .bool false]) :
    ((W7.setCell ⟨w.heap.size + 1 + 1, 0, none⟩ u).setCell ⟨w.heap.size + 1 + 1, 1, none⟩ v).cell? ⟨w.heap.size + 1 + 1, 0, none⟩ = some u ∧
    ((W7.setCell ⟨w.heap.size + 1 + 1, 0, none⟩ u).setCell ⟨w.heap.size + 1 + 1, 1, none⟩ v).cell? ⟨w.heap.size + 1 + 1, 1, none⟩ = some v ∧
    (∀ g, g ≠ w.heap.size + 1 + 1 → ((W7.setCell ⟨w.heap.size + 1 + 1, 0, none⟩ u).setCell ⟨w.heap.size + 1 + 1, 1, none⟩ v).heap[g]? = W7.heap[g]?) ∧
    Below w.heap.size w ((W7.setCell ⟨w.heap.size + 1 + 1, 0, none⟩ u).setCell ⟨w.heap.size + 1 + 1, 1, none⟩ v) := by
  have h1 := heap_setCell_same W7 (w.heap.size + 1 + 1) 0 _ _ u h7.res
  have h2 := heap_setCell_same _ (w.heap.size + 1 + 1) 1 _ _ v h1
  refine ⟨cell_of_row _ _ 0 _ _ _ h2, cell_of_row _ _ 1 _ _ _ h2, fun g hg => ?_, ?_⟩
  · rw [heap_setCell_other _ _ _ _ (by exact hg), heap_setCell_other _ _ _ _ (by exact hg)]
  · exact (h7.low.setCell (p := ⟨w.heap.size + 1 + 1, 0, none⟩) (by show w.heap.size ≤ w.heap.size + 1 + 1; omega) u).setCell (p := ⟨w.heap.size + 1 + 1, 1, none⟩) (by show w.heap.size ≤ w.heap.size + 1 + 1; omega) v

set_option maxRecDepth 20000 in
set_option maxHeartbeats 800000 in
theorem step_err (r l a b k a2 b2 : Int) (w : World) (v : Value) (T : List Int) (br : Bool) (bath : Int) (hl : RowI w v T) (hne : chkE (bothB r l a b k a2 b2 T br) [bath] ≠ 0) :
    Calls Try.prog 12 #[.agg #[.int .i64 r, .int .i64 l, .int .i64 a, .int .i64 b, .int .i64 k, .int .i64 a2, .int .i64 b2], .agg #[v, .bool br], .int .i64 bath] w fun e w' => e = .returned (.tuple #[.agg #[.slice none 0 0, .bool false], .int .i64 (chkE (bothB r l a b k a2 b2 T br) [bath])]) ∧ Below w.heap.size w w' := by
  have HNE := hid hne
  clear hne
  have HL := hid (fun w1 (g : Below w.heap.size w w1) => hl.keep g)
  obtain ⟨a0, cap, rfl⟩ := hl.shape
  clear hl
  have HS := hid (r3_start (w := w) (A := #[.int .i64 r, .int .i64 l, .int .i64 a, .int .i64 b, .int .i64 k, .int .i64 a2, .int .i64 b2]) (B := #[.slice a0 T.length cap, .bool br]) (R := #[.slice none 0 0, .bool false]))
  go_enter Try.func12, Try.ntmps12
  go_wp2_with (go_at_call 15; refine (run_err _ _ _ _ _ _ _ _ _ T _ _ [bath] (HL.out _ (HS.out.low.alloc HS.out.low.size _)) (one_at _ _ (by simp)) HNE.out).mono ?_; rintro e w1 ⟨rfl, hb⟩; have H1 := hid (HS.out.keep (balloc hb)); clear hb; have k0 := H1.out.cell.2.2.1 0; have k1 := H1.out.cell.2.2.1 1; have k2 := H1.out.cell.2.2.2 0; have k3 := H1.out.cell.2.2.2 1; simp only [List.getElem?_toArray, List.getElem?_cons_zero, List.getElem?_cons_succ] at k0 k1)
  obtain ⟨c6, c7, _, c9⟩ := res_set (u := .slice none 0 0) (v := .bool false) H1.out
  exact bodyPost_ret (v := .tuple #[.agg #[.slice none 0 0, .bool false], .int .i64 _]) (by simp [results, Try.results12, go_sem, c6, c7]) rfl ⟨rfl, c9⟩
set_option maxRecDepth 20000 in
set_option maxHeartbeats 800000 in
theorem step_ok (c : Cn) (x : Bd) (v : Value) (bath : Int) (w : World) (hv : c.V) (hb : bodyV c x.1 x.2 = true) (ho : okL [bath] = true) (hl : RowI w v x.1) :
    Calls Try.prog 12 #[.agg #[.int .i64 (c.R : Int), .int .i64 (c.L : Int), .int .i64 c.A, .int .i64 c.B, .int .i64 c.K, .int .i64 c.A2, .int .i64 c.B2], .agg #[v, .bool x.2], .int .i64 bath] w (RunP c x [bath] w) := by
  have HV := hid hv; have HBV := hid hb; have HO := hid ho
  have HL := hid (fun w1 (g : Below w.heap.size w w1) => hl.keep g)
  obtain ⟨a0, cap, rfl⟩ := hl.shape
  clear hl hv hb ho
  have HS := hid (r3_start (w := w) (A := #[.int .i64 (c.R : Int), .int .i64 (c.L : Int), .int .i64 c.A, .int .i64 c.B, .int .i64 c.K, .int .i64 c.A2, .int .i64 c.B2]) (B := #[.slice a0 x.1.length cap, .bool x.2]) (R := #[.slice none 0 0, .bool false]))
  go_enter Try.func12, Try.ntmps12
  go_wp2_with (go_at_call 15; refine (run_ok c x _ _ [bath] _ HV.out HBV.out HO.out (by simp) (HL.out _ (HS.out.low.alloc HS.out.low.size _)) (one_at _ _ (by simp))).mono ?_; rintro e w1 ⟨v1, rfl, ⟨g, rfl, hg1, hg2⟩, hb⟩; have H1 := hid (HS.out.keep (balloc hb)); have HG1 := hid hg1; have HG2 := hid hg2; clear hb hg1 hg2; have k0 := H1.out.cell.2.2.1 0; have k1 := H1.out.cell.2.2.1 1; have k2 := H1.out.cell.2.2.2 0; have k3 := H1.out.cell.2.2.2 1; simp only [List.getElem?_toArray, List.getElem?_cons_zero, List.getElem?_cons_succ] at k0 k1)
  obtain ⟨c6, c7, c8, c9⟩ := res_set (u := .slice (some ⟨g, 0, none⟩) (runS c x [bath]).1.length (runS c x [bath]).1.length) (v := .bool (runS c x [bath]).2) H1.out
  have hg1 := HG1.out
  simp only [World.size_alloc] at hg1
  refine bodyPost_ret (v := .tuple #[.agg #[.slice (some ⟨g, 0, none⟩) (runS c x [bath]).1.length (runS c x [bath]).1.length, .bool (runS c x [bath]).2], .int .i64 0]) (by simp [results, Try.results12, go_sem, c6, c7]) rfl ⟨_, rfl, ⟨g, rfl, by omega, ?_⟩, c9⟩
  rw [c8 g (by omega)]
  exact HG2.out

def c0 : Cn := ⟨1, 1, 100, 50, 0, 0, 0⟩
theorem awake_run : runS c0 ([20000], false) [120000] = ([50000], false) := by decide
set_option maxRecDepth 20000 in
set_option maxHeartbeats 800000 in
theorem awake_any (w : World) : Calls Try.prog 11 #[] w fun e w' => e = .returned (.bool true) ∧ Below w.heap.size w w' := by
  have hv : c0.V := by unfold Cn.V; decide
  have hb : bodyV c0 [20000] false = true := by decide
  have ho : okL [120000] = true := by decide
  go_enter Try.func11, Try.ntmps11
  go_wp2_with (go_at_call 12; refine (step_ok c0 ([20000], false) _ 120000 _ hv hb ho (one_at _ _ (by simp))).mono ?_; rintro e w1 ⟨v1, rfl, ⟨g, rfl, hg1, hg2⟩, hb1⟩; have HB := hid (balloc hb1); clear hb1; rw [awake_run] at hg2 ⊢; have k0 : w1.cell? ⟨g, 0, none⟩ = some (.int .i64 50000) := cell_of_row _ _ 0 _ _ _ hg2; have hgl := lt_of_block hg2; have HG := hid hg2; clear hg1 hg2)
  go_ret
  exact ⟨rfl, HB.out.alloc HB.out.size _⟩
end Go.Proofs.Ytpkcnojcklmhmaa
