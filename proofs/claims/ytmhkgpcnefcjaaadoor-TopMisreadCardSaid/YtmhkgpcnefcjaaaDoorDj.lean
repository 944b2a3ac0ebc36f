/- Walk of valuesOf: contracts. -/
import Derived.Test.YtmhkgpcnefcjaaaDoorDi
namespace Go.Proofs.YtmhkgpcnefcjaaaDoor
open Go.RowKit

/-- The cells of a list of numbers. -/
def cvs (l : List Int) : Array Value := (l.map (Value.int .i64)).toArray
def vals (s : ByteArray) : List Int := s.data.toList.map valB
theorem vals_len (s : ByteArray) : (vals s).length = s.size := by unfold vals; rw [List.length_map, data_len]
theorem vals_at (s : ByteArray) (k : Nat) (h : k < s.size) : (vals s)[k]'(by rw [vals_len]; exact h) = valB (s[k]'h) := by
  unfold vals
  rw [List.getElem_map]
  rfl
/-- The values up to a place, zeros behind it. -/
def fil9 (l : List Int) (k : Nat) : List Int := l.take k ++ List.replicate (9 - k) 0
theorem cvs_fil {l : List Int} (hl : l.length = 9) {k : Nat} (hk : k < 9) : (cvs (fil9 l k)).setIfInBounds k (.int .i64 (l[k]'(by omega))) = cvs (fil9 l (k + 1)) := by
  match l, hl with
  | [a, b, c, d, e, f, g, h, i], _ =>
    have : k = 0 ∨ k = 1 ∨ k = 2 ∨ k = 3 ∨ k = 4 ∨ k = 5 ∨ k = 6 ∨ k = 7 ∨ k = 8 := by omega
    rcases this with rfl | rfl | rfl | rfl | rfl | rfl | rfl | rfl | rfl <;> rfl
theorem fil9_cell {l : List Int} (hl : l.length = 9) {k : Nat} (hk : k < 9) : (cvs (fil9 l k))[k]? = some (.int .i64 0) := by
  match l, hl with
  | [a, b, c, d, e, f, g, h, i], _ =>
    have : k = 0 ∨ k = 1 ∨ k = 2 ∨ k = 3 ∨ k = 4 ∨ k = 5 ∨ k = 6 ∨ k = 7 ∨ k = 8 := by omega
    rcases this with rfl | rfl | rfl | rfl | rfl | rfl | rfl | rfl | rfl <;> rfl
theorem fil9_end {l : List Int} (hl : l.length = 9) : fil9 l 9 = l := by
  unfold fil9
  rw [List.take_of_length_le (by omega)]
  simp
theorem nine_list {l : List Int} (hl : l.length = 9) : ∃ a b c d e f g h i, l = [a, b, c, d, e, f, g, h, i] := by
  match l, hl with
  | [a, b, c, d, e, f, g, h, i], _ => exact ⟨a, b, c, d, e, f, g, h, i, rfl⟩
/-- A box of nine numbers, in a world that is w but for what is new. -/
structure Vb (w W : World) (b : Nat) (l : List Int) : Prop where
  row : W.heap[b]? = some (.cells (cvs l) 66 (0, 0))
  new : w.heap.size ≤ b
  low : Below w.heap.size w W
theorem vb_lt {w W : World} {b : Nat} {l : List Int} (h : Vb w W b l) : b < W.heap.size := (Array.getElem?_eq_some_iff.1 h.row).1
theorem Vb.keep {w W w2 : World} {b : Nat} {l : List Int} (h : Vb w W b l) (hb : Below W.heap.size W w2) : Vb w w2 b l :=
  ⟨(hb.block _ (vb_lt h)).trans h.row, h.new, bstep h.low h.low.size hb⟩
theorem Vb.iter {w W : World} {b : Nat} {l : List Int} (h : Vb w W b l) (s : ByteArray) (p : Nat) : Vb w (W.iter s p) b l :=
  h.keep ((Below.refl _ _).alloc (Nat.le_refl _) _)
theorem vb_new (w : World) (l : List Int) : Vb w (w.alloc (.cells (cvs l) 66)) w.heap.size l := ⟨heap_alloc_new _ _, Nat.le_refl _, (Below.refl _ _).alloc (Nat.le_refl _) _⟩
theorem Vb.cell {w W : World} {b : Nat} {l : List Int} (h : Vb w W b l) (k : Nat) : W.cell? ⟨b, k, none⟩ = (cvs l)[k]? := cell_of_row _ _ k _ _ _ h.row
theorem Vb.frz {w W : World} {b : Nat} {l : List Int} (h : Vb w W b l) (k : Nat) : W.frozen? ⟨b, k, none⟩ = false := by
  have := frozen_of_row W b k _ _ h.row
  simpa using this
theorem Vb.set {w W : World} {b : Nat} {l : List Int} (h : Vb w W b l) (k : Nat) (u : Value) {m : List Int} (e : (cvs l).setIfInBounds k u = cvs m) : Vb w (W.setCell ⟨b, k, none⟩ u) b m :=
  ⟨by rw [← e]; exact heap_setCell_same _ _ _ _ _ _ h.row, h.new, h.low.setCell (p := ⟨b, k, none⟩) h.new _⟩
theorem iter_setCell (V : World) (s : ByteArray) (p b k : Nat) (u : Value) (h : b < V.heap.size) : (V.iter s p).setCell ⟨b, k, none⟩ u = (V.setCell ⟨b, k, none⟩ u).iter s p :=
  World.setCell_alloc_past (w := V) _ _ _ _ h
theorem iterPos_at (V : World) (s : ByteArray) (p n : Nat) (h : V.heap.size = n) : (V.iter s p).iterPos n = p := by
  subst h; exact World.iterPos_iter V s p
/-- Nine stores of what is there. -/
def set9 (W : World) (B : Nat) (a b c d e f g h i : Int) : World := ((((((((W.setCell ⟨B, 0, none⟩ (.int .i64 a)).setCell ⟨B, 1, none⟩ (.int .i64 b)).setCell ⟨B, 2, none⟩ (.int .i64 c)).setCell ⟨B, 3, none⟩ (.int .i64 d)).setCell ⟨B, 4, none⟩ (.int .i64 e)).setCell ⟨B, 5, none⟩ (.int .i64 f)).setCell ⟨B, 6, none⟩ (.int .i64 g)).setCell ⟨B, 7, none⟩ (.int .i64 h)).setCell ⟨B, 8, none⟩ (.int .i64 i)
theorem Vb.nine {w W : World} {B : Nat} {a b c d e f g h i : Int} (H : Vb w W B [a, b, c, d, e, f, g, h, i]) : Vb w (set9 W B a b c d e f g h i) B [a, b, c, d, e, f, g, h, i] :=
  ((((((((H.set 0 _ (m := [a, b, c, d, e, f, g, h, i]) rfl).set 1 _ (m := [a, b, c, d, e, f, g, h, i]) rfl).set 2 _ (m := [a, b, c, d, e, f, g, h, i]) rfl).set 3 _ (m := [a, b, c, d, e, f, g, h, i]) rfl).set 4 _ (m := [a, b, c, d, e, f, g, h, i]) rfl).set 5 _ (m := [a, b, c, d, e, f, g, h, i]) rfl).set 6 _ (m := [a, b, c, d, e, f, g, h, i]) rfl).set 7 _ (m := [a, b, c, d, e, f, g, h, i]) rfl).set 8 _ (m := [a, b, c, d, e, f, g, h, i]) rfl
theorem Vb.cells {w W : World} {B : Nat} {a b c d e f g h i : Int} (H : Vb w W B [a, b, c, d, e, f, g, h, i]) : W.cell? ⟨B, 0, none⟩ = some (.int .i64 a) ∧ W.cell? ⟨B, 1, none⟩ = some (.int .i64 b) ∧ W.cell? ⟨B, 2, none⟩ = some (.int .i64 c) ∧ W.cell? ⟨B, 3, none⟩ = some (.int .i64 d) ∧ W.cell? ⟨B, 4, none⟩ = some (.int .i64 e) ∧ W.cell? ⟨B, 5, none⟩ = some (.int .i64 f) ∧ W.cell? ⟨B, 6, none⟩ = some (.int .i64 g) ∧ W.cell? ⟨B, 7, none⟩ = some (.int .i64 h) ∧ W.cell? ⟨B, 8, none⟩ = some (.int .i64 i) :=
  ⟨H.cell 0, H.cell 1, H.cell 2, H.cell 3, H.cell 4, H.cell 5, H.cell 6, H.cell 7, H.cell 8⟩
theorem nineB_iff {s : ByteArray} : nineB s = true ↔ s.size = 9 ∧ allSg s.data.toList = true := by
  unfold nineB
  rw [Bool.and_eq_true, decide_eq_true_eq]
  constructor
  · intro h; exact ⟨by omega, h.2⟩
  · intro h; exact ⟨by omega, h.2⟩
theorem allSg_at {s : ByteArray} (h : allSg s.data.toList = true) (k : Nat) (hk : k < s.size) : 0 ≤ valB (s[k]'hk) :=
  of_decide_eq_true (List.all_eq_true.1 h _ (List.getElem_mem (show k < s.data.toList.length from hk)))
theorem sign_lo {c : UInt8} (h : 0 ≤ valB c) : c.toNat < 128 := by
  by_cases g : c.toNat < 128
  · exact g
  · rw [valB_hi (by omega)] at h; omega
def zero9 : List Int := [0, 0, 0, 0, 0, 0, 0, 0, 0]
set_option maxRecDepth 100000 in
set_option maxHeartbeats 2000000 in
theorem values_ok (s : ByteArray) (w : World) (h : nineB s = true) :
    Calls Tryd.prog 36 #[.string s] w fun e w' => e = .returned (.tuple #[.agg (cvs (vals s)), .bool true]) ∧ Below w.heap.size w w' := by
  obtain ⟨hs, hal⟩ := nineB_iff.1 h
  have HSP := hid (show speltB s 9 = true from h)
  have HAL := hid hal
  have HS := hid hs
  have HV0 := hid (vb_new w zero9)
  have hvl : (vals s).length = 9 := by rw [vals_len]; exact hs
  have HVL := hid hvl
  clear h hs hal hvl
  go_enter Tryd.func36, Tryd.ntmps36
  go_wp2_with fail
  refine (spelt_any s 9 _).mono ?_
  rintro e W1 ⟨rfl, hb⟩
  rw [HSP.out]
  have HV1 := hid (HV0.out.keep hb)
  have hlt := vb_lt HV1.out
  clear hb HV0
  go_wp2_with fail
  go_loopw [4] (fun _ w' => ∃ (k : Nat) (V : World), k ≤ 9 ∧ w' = V.iter s k ∧ V.heap.size = W1.heap.size ∧ Hid (Vb w V w.heap.size (fil9 (vals s) k))) (fun _ w' => 9 - w'.iterPos W1.heap.size)
  case atStart => exact ⟨0, W1, by omega, rfl, rfl, HV1⟩
  case round =>
    obtain ⟨k, V, hk, rfl, hsz, HV⟩ := hrel
    have HSZ := hid hsz
    by_cases hlt9 : k < 9
    · have hp : k < s.size := by rw [HS.out]; exact hlt9
      have hv0 := allSg_at HAL.out k hp
      have ha := sign_lo hv0
      have hnx := fun ty => run_next_ascii (P := Tryd.prog) V s k ty hp ha
      rw [hsz] at hnx
      have hc := (HV.out.iter s (k + 1)).cell k
      rw [fil9_cell HVL.out hlt9] at hc
      have hf := (HV.out.iter s (k + 1)).frz k
      have hvk := vals_at s k hp
      have HN := hid (show Vb w (V.setCell ⟨w.heap.size, k, none⟩ (.int .i64 (valB (s[k]'hp)))) w.heap.size (fil9 (vals s) (k + 1)) from HV.out.set k _ (by rw [← hvk]; exact cvs_fil HVL.out hlt9))
      have HI := hid (fun u => iter_setCell V s (k + 1) w.heap.size k u (by rw [HSZ.out]; exact hlt))
      have HZ := hid (show (V.setCell ⟨w.heap.size, k, none⟩ (.int .i64 (valB (s[k]'hp)))).heap.size = W1.heap.size by rw [← HSZ.out]; simp [World.setCell])
      clear hvk hsz hv0
      have hw8 : IntKind.u8.wrap ((s[k]'hp).toNat : Int) = ((s[k]'hp).toNat : Int) := by
        unfold IntKind.wrap; simp [IntKind.bits, IntKind.signed]; omega
      generalize s[k]'hp = c at *
      have hk9 : (k : Int) < 9 := by omega
      have HLT := hid hlt9
      clear hp ha hlt9
      go_wp2_with (go_at_call 63; refine (cvalue_any _ _).mono ?_; rintro e w' ⟨rfl, rfl⟩)
      go_roundw
      case rel => exact ⟨k + 1, _, HLT.out, HI.out _, HZ.out, HN⟩
      case measure =>
        rw [HI.out, iterPos_at _ s (k + 1) _ HZ.out, iterPos_at _ s k _ HSZ.out]
        have := HLT.out
        omega
    · obtain rfl : k = 9 := by omega
      have hnx := fun ty => run_next_end (P := Tryd.prog) V s 9 ty (by rw [HS.out]; omega)
      rw [hsz] at hnx
      have HVI := HV.out.iter s 9
      rw [fil9_end HVL.out] at HVI
      obtain ⟨a, b, c, d, e, f, g, h, i, hl⟩ := nine_list HVL.out
      have HLL := hid hl
      rw [hl] at HVI
      have HF := hid (fun k => HVI.frz k)
      have f0 := HVI.frz 0
      have f1 := HVI.frz 1
      have f2 := HVI.frz 2
      have f3 := HVI.frz 3
      have f4 := HVI.frz 4
      have f5 := HVI.frz 5
      have f6 := HVI.frz 6
      have f7 := HVI.frz 7
      have f8 := HVI.frz 8
      obtain ⟨b0, b1, b2, b3, b4, b5, b6, b7, b8⟩ := HVI.cells
      have HN := hid HVI.nine
      have hsp : World.heap (V.iter s 9) = World.heap (V.iter s 9) := rfl
      generalize V.iter s 9 = W2 at *
      clear hsz HV HSZ hl hsp HVI HF hk hlt9
      go_wp2_with fail
      have HC := HN.out.cells
      unfold set9 at HC
      obtain ⟨c0, c1, c2, c3, c4, c5, c6, c7, c8⟩ := HC
      exact bodyPost_ret (v := .tuple #[.agg (cvs [a, b, c, d, e, f, g, h, i]), .bool true]) (by simp [results, Tryd.results36, go_sem, c0, c1, c2, c3, c4, c5, c6, c7, c8, cvs]) rfl ⟨by rw [HLL.out], HN.out.low⟩
set_option maxRecDepth 100000 in
set_option maxHeartbeats 2000000 in
theorem values_bad (s : ByteArray) (w : World) (h : nineB s = false) :
    Calls Tryd.prog 36 #[.string s] w fun e w' => e = .returned (.tuple #[.agg (cvs zero9), .bool false]) ∧ Below w.heap.size w w' := by
  have HSP := hid (show speltB s 9 = false from h)
  have HV0 := hid (vb_new w zero9)
  clear h
  go_enter Tryd.func36, Tryd.ntmps36
  go_wp2_with fail
  refine (spelt_any s 9 _).mono ?_
  rintro e W1 ⟨rfl, hb⟩
  rw [HSP.out]
  have HV1 := HV0.out.keep hb
  clear hb HV0
  unfold zero9 at HV1
  have f0 := HV1.frz 0
  have f1 := HV1.frz 1
  have f2 := HV1.frz 2
  have f3 := HV1.frz 3
  have f4 := HV1.frz 4
  have f5 := HV1.frz 5
  have f6 := HV1.frz 6
  have f7 := HV1.frz 7
  have f8 := HV1.frz 8
  obtain ⟨b0, b1, b2, b3, b4, b5, b6, b7, b8⟩ := HV1.cells
  have HN := hid HV1.nine
  clear HV1
  go_wp2_with fail
  have HC := HN.out.cells
  unfold set9 at HC
  obtain ⟨c0, c1, c2, c3, c4, c5, c6, c7, c8⟩ := HC
  exact bodyPost_ret (v := .tuple #[.agg (cvs zero9), .bool false]) (by simp [results, Tryd.results36, go_sem, c0, c1, c2, c3, c4, c5, c6, c7, c8, cvs, zero9]) rfl ⟨rfl, HN.out.low⟩
end Go.Proofs.YtmhkgpcnefcjaaaDoor
