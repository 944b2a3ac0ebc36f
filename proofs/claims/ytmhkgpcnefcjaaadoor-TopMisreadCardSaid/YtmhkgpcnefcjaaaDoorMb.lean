/- Misread signs: walk of the reference's Changed: contract. -/
import Derived.Test.YtmhkgpcnefcjaaaDoorMa
import Derived.Laws.IdiomStrings
namespace Go.Proofs.YtmhkgpcnefcjaaaDoor
open Go.RowKit

theorem row_setF {w : World} {b i : Nat} {cs : Array Value} {T : TypeId} {fr : Nat × Nat} (hb : w.heap[b]? = some (.cells cs T fr)) (v : Value) :
    (w.setCell ⟨b, i, none⟩ v).heap[b]? = some (.cells (cs.setIfInBounds i v) T fr) := by
  simp [World.setCell, Array.getElem?_modify, hb]
theorem bytes_at (s : ByteArray) (cap : Nat) {j : Nat} (h : j < s.size) : (bytesRow s cap)[j]? = some (.int .u8 ((s[j]'h).toNat : Int)) := by
  unfold bytesRow
  have h' : j < s.data.size := h
  rw [Array.getElem?_append_left (by simpa using h')]
  rw [Array.getElem?_map, Array.getElem?_eq_getElem h']
  rfl
theorem bytes_len (s : ByteArray) (cap : Nat) : s.size ≤ (bytesRow s cap).size := by
  unfold bytesRow
  simp
set_option maxRecDepth 100000 in
set_option maxHeartbeats 2000000 in
theorem xchanged_any (s : ByteArray) (k : Nat) (c : UInt8) (w : World) (h : k < s.size) :
    Calls Tryd.prog 28 #[.string s, .int .i64 (k : Int), .int .u8 (c.toNat : Int)] w fun e w' => e = .returned (.string (setS s k c)) ∧ Below w.heap.size w w' := by
  have hcv := run_bytes_of_string (P := Tryd.prog) w 9 50 5 s Tryd.underlying9 Tryd.underlying50 Tryd.underlying5
  obtain ⟨cp, hcp⟩ : ∃ cp, cp = grownCap w s.size 0 5 := ⟨_, rfl⟩
  rw [← hcp] at hcv
  clear hcp
  have hb1 : Below w.heap.size w (w.drew.alloc (.cells (bytesRow s cp) 5 ((bytesRow s cp).size, (bytesRow s cp).size + 1))) := (Below.refl _ _).drew.alloc (Nat.le_refl _) _
  have hr1 : (w.drew.alloc (.cells (bytesRow s cp) 5 ((bytesRow s cp).size, (bytesRow s cp).size + 1))).heap[w.heap.size]? = some (.cells (bytesRow s cp) 5 ((bytesRow s cp).size, (bytesRow s cp).size + 1)) := heap_alloc_new w.drew _
  generalize w.drew.alloc _ = W1 at *
  have hlen := bytes_len s cp
  have hc1 : W1.cell? ⟨w.heap.size, k, none⟩ = some (.int .u8 ((s[k]'h).toNat : Int)) := by rw [cell_of_row _ _ k _ _ _ hr1, bytes_at s cp h]
  have hf1 : W1.frozen? ⟨w.heap.size, k, none⟩ = false := by
    unfold World.frozen?
    rw [hr1]
    simp
    intro h2
    omega
  have hr2 := row_setF (i := k) hr1 (.int .u8 (c.toNat : Int))
  have hb2 : Below w.heap.size w (W1.setCell ⟨w.heap.size, k, none⟩ (.int .u8 (c.toNat : Int))) := hb1.setCell (p := ⟨w.heap.size, k, none⟩) (Nat.le_refl _) _
  have hcv2 := run_convert_bytes_back (P := Tryd.prog) (W1.setCell ⟨w.heap.size, k, none⟩ (.int .u8 (c.toNat : Int))) 50 9 5 ⟨w.heap.size, 0, none⟩ cp (s.data.toList.set k c) Tryd.underlying50 Tryd.underlying5 Tryd.underlying9 (fun j hj => by
    have hj2 : j < s.size := by rw [List.length_set] at hj; exact hj
    rw [show (⟨w.heap.size, 0, none⟩ : Addr).add j = ⟨w.heap.size, j, none⟩ by unfold Addr.add; split <;> simp_all]
    rw [cell_of_row _ _ j _ _ _ hr2]
    by_cases hjk : k = j
    · subst hjk
      rw [Array.getElem?_setIfInBounds_self_of_lt (by omega)]
      simp
    · rw [Array.getElem?_setIfInBounds_ne hjk, bytes_at s cp hj2, List.getElem_set_ne hjk]
      rfl)
  have e1 : (s.data.toList.set k c).length = s.size := by rw [List.length_set]; rfl
  rw [e1] at hcv2
  have e2 : (⟨(s.data.toList.set k c).toArray⟩ : ByteArray) = setS s k c := by unfold setS; congr 1; apply Array.ext'; simp
  rw [e2] at hcv2
  have HB2 := hid hb2
  have hk : (k : Int) < s.size := by omega
  clear hr1 hr2 hb1 hb2 e1 e2 hlen
  go_enter Tryd.func28, Tryd.ntmps28
  go_wp2_with fail
  go_ret
  exact ⟨rfl, HB2.out⟩
end Go.Proofs.YtmhkgpcnefcjaaaDoor
