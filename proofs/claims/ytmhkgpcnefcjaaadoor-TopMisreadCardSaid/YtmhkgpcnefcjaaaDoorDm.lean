/- Walk of textOf: contract. -/
import Derived.Test.YtmhkgpcnefcjaaaDoorDl
import Derived.Deep.OwnRows
import Derived.Laws.IdiomStrings
namespace Go.Proofs.YtmhkgpcnefcjaaaDoor
open Go.RowKit

/-- Cells of bytes. -/
def bvs (l : List UInt8) : List Value := l.map fun c => .int .u8 (c.toNat : Int)
def filT (l : List Int) (k : Nat) : List UInt8 := (l.take k).map sgn ++ List.replicate (l.length - k) 0
theorem filT_zero (l : List Int) : bvs (filT l 0) = List.replicate l.length (.int .u8 0) := by
  unfold filT bvs
  simp
theorem filT_all (l : List Int) : filT l l.length = l.map sgn := by
  unfold filT
  simp
theorem bvs_len (l : List UInt8) : (bvs l).length = l.length := by unfold bvs; simp
theorem filT_len (l : List Int) {k : Nat} (h : k ≤ l.length) : (filT l k).length = l.length := by
  unfold filT; simp; omega
theorem filT_step (l : List Int) {k : Nat} (h : k < l.length) : (bvs (filT l k)).toArray.setIfInBounds k (.int .u8 ((sgn l[k]).toNat : Int)) = (bvs (filT l (k + 1))).toArray := by
  apply Array.ext'
  rw [Array.toList_setIfInBounds]
  simp only [bvs, filT]
  have e : l.length - k = (l.length - (k + 1)) + 1 := by omega
  rw [e, List.replicate_succ, List.map_append, List.map_append, List.map_cons, List.set_append_right _ _ (by simp; omega)]
  have e2 : k - (((l.take k).map sgn).map fun c => Value.int .u8 (c.toNat : Int)).length = 0 := by simp; omega
  rw [e2, List.set_cons_zero, List.take_succ_eq_append_getElem h]
  simp only [List.map_append, List.map_cons, List.map_nil, List.append_assoc, List.cons_append, List.nil_append]
theorem bvs_at (l : List UInt8) {j : Nat} (h : j < l.length) : (bvs l).toArray[j]? = some (.int .u8 (l[j].toNat : Int)) := by
  simp [bvs, h]
theorem infoB : (Tryd.prog.info? 5).map (fun i => (i.zero, i.size, i.bytes)) = some (some (.int .u8 0), 1, 1) := by kernel_rfl
theorem made_u8 (W : World) (n : Nat) (t : TypeId) : (W.alloc (.cells (madeCells #[.int .u8 0] n) t)).heap[W.heap.size]? = some (.cells (List.replicate n (Value.int .u8 0)).toArray t (0, 0)) := by
  rw [heap_alloc_new, ← toList_madeCells_one]
/-- The text of some values. -/
def txt (l : List Int) : ByteArray := ⟨(l.map sgn).toArray⟩
set_option maxRecDepth 100000 in
set_option maxHeartbeats 2000000 in
theorem textof_any (w : World) (b o cap n : Nat) (l : List Int) (hn : n = l.length) (hn0 : 0 < n) (hn9 : n ≤ 9) (hc : ∀ k (h : k < l.length), w.cell? ⟨b, o + k, none⟩ = some (.int .i64 l[k])) :
    Calls Tryd.prog 65 #[.slice (some ⟨b, o, none⟩) n cap] w fun e w' => e = .returned (.string (txt l)) ∧ Below w.heap.size w w' := by
  have hmk := run_make_row' (P := Tryd.prog) 50 5 (.int .u8 0) 1 Tryd.underlying50 infoB rfl .i64 .i64 n (by omega) (by omega)
  have HM0 := hid (made_u8 w n 5)
  have HB0 := hid ((Below.refl w.heap.size w).alloc (Nat.le_refl _) (.cells (madeCells #[.int .u8 0] n) 5))
  have HC := hid hc
  have HN := hid hn
  clear hc hn
  go_enter Tryd.func65, Tryd.ntmps65
  go_wp2_with fail
  have HM := hid (show (w.alloc (.cells (madeCells #[.int .u8 0] n) 5)).heap[w.heap.size]? = some (.cells (bvs (filT l 0)).toArray 5 (0, 0)) by rw [HM0.out, filT_zero, HN.out])
  generalize World.alloc w _ = W1 at *
  clear HM0 hmk
  go_loopw [11] (fun t wr => ∃ k : Nat, k ≤ n ∧ t = .int .i64 (k : Int) ∧ Hid (wr.heap[w.heap.size]? = some (.cells (bvs (filT l k)).toArray 5 (0, 0))) ∧ Hid (Below w.heap.size w wr)) (fun t _ => n - (intOf t).toNat)
  case atStart => exact ⟨0, Nat.zero_le _, rfl, HM, HB0⟩
  case round =>
    obtain ⟨k, hk, rfl, HW, HB⟩ := hrel
    by_cases hlt : k < n
    · have hlt' : (k : Int) < n := by omega
      have hkl : k < l.length := by rw [← HN.out]; exact hlt
      have hcell := keep_cell HB.out (HC.out k hkl)
      have hst := filT_step l hkl
      have hold := bvs_at (filT l k) (j := k) (by rw [filT_len l (by omega)]; exact hkl)
      have hc2 := cell_of_row wr w.heap.size k _ _ _ HW.out
      rw [hold] at hc2
      have hf2 := frozen_of_row wr w.heap.size k _ _ HW.out
      have HN2 := hid (show (wr.setCell ⟨w.heap.size, k, none⟩ (.int .u8 ((sgn l[k]).toNat : Int))).heap[w.heap.size]? = some (.cells (bvs (filT l (k + 1))).toArray 5 (0, 0)) by rw [← hst]; exact heap_setCell_same _ _ _ _ _ _ HW.out)
      have HB2 := hid (show Below w.heap.size w (wr.setCell ⟨w.heap.size, k, none⟩ (.int .u8 ((sgn l[k]).toNat : Int))) from HB.out.setCell (p := ⟨w.heap.size, k, none⟩) (Nat.le_refl _) _)
      clear hst hold
      generalize l[k] = x at hcell HN2 HB2
      generalize ((filT l k)[k]'_).toNat = y at hc2
      have HLT := hid hlt
      clear hkl hlt
      go_wp2_with (go_at_call 82; refine (csign_any _ _).mono ?_; rintro e w' ⟨rfl, rfl⟩)
      go_roundw
      case rel => exact ⟨k + 1, HLT.out, by go_num, HN2, HB2⟩
      case measure => have := HLT.out; simp [intOf]; omega
    · obtain rfl : k = n := by omega
      have hcv := run_convert_bytes_back (P := Tryd.prog) wr 50 9 5 ⟨w.heap.size, 0, none⟩ k (l.map sgn) Tryd.underlying50 Tryd.underlying5 Tryd.underlying9 (fun j hj => by
        have h1 := cell_of_row wr w.heap.size j _ _ _ HW.out
        rw [HN.out, filT_all, bvs_at _ hj] at h1
        rw [show (⟨w.heap.size, 0, none⟩ : Addr).add j = ⟨w.heap.size, j, none⟩ by unfold Addr.add; split <;> simp_all]
        exact h1)
      rw [List.length_map, ← HN.out] at hcv
      clear hlt
      go_wp2_with fail
      go_ret
      exact ⟨rfl, HB.out⟩
end Go.Proofs.YtmhkgpcnefcjaaaDoor
