/- Walks of Needs, Reached and Reductions of both, with what they call: contracts. -/
import Derived.Test.YtfngmpkceceomaaLc
import Derived.Deep.RegionHeld3
namespace Go.Proofs.Ytfngmpkceceomaa
open Go.RowKit

theorem bcell {W w1 : World} (hb : Below W.heap.size W w1) : (∀ b o, b < W.heap.size → w1.cell? ⟨b, o, none⟩ = W.cell? ⟨b, o, none⟩) ∧ (∀ b o, b < W.heap.size → w1.frozen? ⟨b, o, none⟩ = W.frozen? ⟨b, o, none⟩) :=
  ⟨fun b o h => hb.cell (p := ⟨b, o, none⟩) h, fun b o h => hb.frozen (p := ⟨b, o, none⟩) h⟩
theorem balloc {w w1 : World} {o : Obj} (hb : Below (w.alloc o).heap.size (w.alloc o) w1) : Below w.heap.size w w1 :=
  ((Below.refl _ _).alloc (Nat.le_refl _) _).trans (hb.mono (by simp))
theorem bdrewN {B : Nat} {w w1 : World} {n : Nat} (h : Below B w w1) : Below B w (w1.drewN n) := ⟨h.os, h.tape, h.output, h.size, h.block⟩
theorem cell_alloc_new (w : World) (cs : Array Value) (T : TypeId) (fz : Nat × Nat) (i : Nat) : (w.alloc (.cells cs T fz)).cell? ⟨w.heap.size, i, none⟩ = cs[i]? := by
  unfold World.cell?
  show (match (w.alloc (.cells cs T fz)).heap[w.heap.size]? with | some (.cells c _ _) => _ | _ => _) = _
  rw [heap_alloc_new]
  rfl
theorem box5_below {w w1 : World} {c0 c1 c2 c3 c4 : Value} {T : TypeId} {fz : Nat × Nat} (hb : Below (w.alloc (.cells #[c0, c1, c2, c3, c4] T fz)).heap.size (w.alloc (.cells #[c0, c1, c2, c3, c4] T fz)) w1) :
    w1.cell? ⟨w.heap.size, 0, none⟩ = some c0 ∧ w1.cell? ⟨w.heap.size, 1, none⟩ = some c1 ∧ w1.cell? ⟨w.heap.size, 2, none⟩ = some c2 ∧ w1.cell? ⟨w.heap.size, 3, none⟩ = some c3 ∧ w1.cell? ⟨w.heap.size, 4, none⟩ = some c4 ∧ w.heap.size < w1.heap.size ∧ Below w.heap.size w w1 := by
  obtain ⟨hc, _⟩ := bcell hb
  have hz : w.heap.size < (w.alloc (.cells #[c0, c1, c2, c3, c4] T fz)).heap.size := by simp
  refine ⟨?_, ?_, ?_, ?_, ?_, Nat.lt_of_lt_of_le hz hb.size, balloc hb⟩ <;> rw [hc _ _ hz, cell_alloc_new] <;> rfl
theorem kbox_keep {b : Nat} {w W w2 : World} {c0 c1 c2 c3 c4 : Value} (hb : Below W.heap.size W w2)
    (h : W.cell? ⟨b, 0, none⟩ = some c0 ∧ W.cell? ⟨b, 1, none⟩ = some c1 ∧ W.cell? ⟨b, 2, none⟩ = some c2 ∧ W.cell? ⟨b, 3, none⟩ = some c3 ∧ W.cell? ⟨b, 4, none⟩ = some c4 ∧ b < W.heap.size ∧ Below w.heap.size w W) :
    w2.cell? ⟨b, 0, none⟩ = some c0 ∧ w2.cell? ⟨b, 1, none⟩ = some c1 ∧ w2.cell? ⟨b, 2, none⟩ = some c2 ∧ w2.cell? ⟨b, 3, none⟩ = some c3 ∧ w2.cell? ⟨b, 4, none⟩ = some c4 ∧ b < w2.heap.size ∧ Below w.heap.size w w2 := by
  obtain ⟨h0, h1, h2, h3, h4, h5, h6⟩ := h
  obtain ⟨hc, _⟩ := bcell hb
  exact ⟨(hc _ _ h5).trans h0, (hc _ _ h5).trans h1, (hc _ _ h5).trans h2, (hc _ _ h5).trans h3, (hc _ _ h5).trans h4, Nat.lt_of_lt_of_le h5 hb.size, h6.trans (hb.mono h6.size)⟩
theorem validB_iff {l : List UInt8} {r z d g : Int} : validB l r z d g = true ↔ nameB l = true ∧ (-200 ≤ r ∧ r ≤ 800) ∧ (1 ≤ z ∧ z ≤ 60) ∧ (1 ≤ d ∧ d ≤ 1000000) ∧ (1 ≤ g ∧ g ≤ 20) := by
  unfold validB; simp [and_assoc]

theorem wrap_i64 {n : Int} (h1 : -9000000000000000000 ≤ n) (h2 : n ≤ 9000000000000000000) : IntKind.i64.wrap n = n := IntWalk.i64_in n ⟨by omega, by omega⟩
theorem ret_two {a b : Value} {a' b' : Value} (h : a = a') (h' : b = b') : Ending.returned (.tuple #[a, b]) = .returned (.tuple #[a', b']) := by rw [h, h']
theorem int_eq {k : IntKind} {a b : Int} (h : a = b) : Value.int k a = .int k b := by rw [h]

def chkF (v : Bool) (f : Int) : Int := if v then (if 0 ≤ f ∧ f ≤ 1000000000000000000 then 0 else 7) else 1

set_option maxHeartbeats 1000000 in
theorem reduction_any (s : ByteArray) (r z d g : Int) (w : World) (_hs : s.size ≤ maxLen) (h1 : 1 ≤ d) (h2 : d ≤ 1000000) :
    Calls Try.prog 59 #[.agg #[.string s, .int .i64 r, .int .i64 z, .int .i64 d, .int .i64 g]] w fun e w' => e = .returned (.int .i64 (d * 1000000)) ∧ Below w.heap.size w w' := by
  go_enter Try.func59, Try.ntmps59
  go_wp2
  go_ret
  exact ⟨rfl, (Below.refl _ _).alloc (Nat.le_refl _) _⟩

set_option maxHeartbeats 1000000 in
theorem needs_no (s : ByteArray) (r z d g : Int) (w : World) (hs : s.size ≤ maxLen) (hv : validB s.data.toList r z d g = false) :
    Calls Try.prog 19 #[.agg #[.string s, .int .i64 r, .int .i64 z, .int .i64 d, .int .i64 g]] w fun e w' => e = .returned (.int .i64 0) ∧ Below w.heap.size w w' := by
  go_enter Try.func19, Try.ntmps19
  go_wp2_with (go_at_call 17; refine (lvalid_any _ _ _ _ _ _ hs).mono ?_; rintro e w1 ⟨rfl, hb⟩)
  go_ret
  exact ⟨rfl, balloc hb⟩

theorem needs_bd {l : List UInt8} {r z d g : Int} (hv : validB l r z d g = true) : 1000000 ≤ g * (d * 1000000) ∧ g * (d * 1000000) ≤ 20000000000000 := by
  obtain ⟨_, _, _, ⟨d1, d2⟩, g1, g2⟩ := validB_iff.1 hv
  have a := Int.mul_le_mul g2 (show d * 1000000 ≤ 1000000000000 by omega) (by omega) (by omega)
  have b := Int.mul_le_mul g1 (show 1000000 ≤ d * 1000000 by omega) (by omega) (by omega)
  omega

set_option maxHeartbeats 1000000 in
theorem needs_yes (s : ByteArray) (r z d g : Int) (w : World) (hs : s.size ≤ maxLen) (hv : validB s.data.toList r z d g = true) :
    Calls Try.prog 19 #[.agg #[.string s, .int .i64 r, .int .i64 z, .int .i64 d, .int .i64 g]] w fun e w' => e = .returned (.int .i64 (g * (d * 1000000))) ∧ Below w.heap.size w w' := by
  obtain ⟨_, _, _, ⟨d1, d2⟩, g1, g2⟩ := validB_iff.1 hv
  obtain ⟨m1, m2⟩ := needs_bd hv
  go_enter Try.func19, Try.ntmps19
  go_wp2_with (go_at_call 17; refine (lvalid_any _ _ _ _ _ _ hs).mono ?_; rintro e w1 ⟨rfl, hb⟩; obtain ⟨b0, b1, b2, b3, b4, hz, hB⟩ := box5_below hb; clear hb)
  go_region_held3 (fun w' => w'.cell? ⟨w.heap.size, 0, none⟩ = some (.string s) ∧ w'.cell? ⟨w.heap.size, 1, none⟩ = some (.int .i64 r) ∧ w'.cell? ⟨w.heap.size, 2, none⟩ = some (.int .i64 z) ∧ w'.cell? ⟨w.heap.size, 3, none⟩ = some (.int .i64 d) ∧ w'.cell? ⟨w.heap.size, 4, none⟩ = some (.int .i64 g) ∧ w.heap.size < w'.heap.size ∧ Below w.heap.size w w') (first | exact ⟨b0, b1, b2, b3, b4, hz, hB.drew⟩ | exact kbox_keep (by assumption) (by assumption)) (first | (go_at_call 59; refine (reduction_any _ _ _ _ _ _ hs (by omega) (by omega)).mono ?_; rintro e w2 ⟨rfl, hb2⟩))
  go_wp2
  go_ret
  rename_i hq
  exact ⟨ret_int (wrap_i64 (by omega) (by omega)), hq.2.2.2.2.2.2⟩

set_option maxHeartbeats 1000000 in
theorem rneeds_no (s : ByteArray) (r z d g : Int) (w : World) (hs : s.size ≤ maxLen) (hv : validB s.data.toList r z d g = false) :
    Calls Try.prog 20 #[.agg #[.string s, .int .i64 r, .int .i64 z, .int .i64 d, .int .i64 g]] w fun e w' => e = .returned (.int .i64 0) ∧ Below w.heap.size w w' := by
  go_enter Try.func20, Try.ntmps20
  go_wp2_with (go_at_call 18; refine (rvalid_any _ _ _ _ _ _ hs).mono ?_; rintro e w1 ⟨rfl, hb⟩)
  go_ret
  exact ⟨rfl, balloc hb⟩

set_option maxHeartbeats 1000000 in
theorem rneeds_yes (s : ByteArray) (r z d g : Int) (w : World) (hs : s.size ≤ maxLen) (hv : validB s.data.toList r z d g = true) :
    Calls Try.prog 20 #[.agg #[.string s, .int .i64 r, .int .i64 z, .int .i64 d, .int .i64 g]] w fun e w' => e = .returned (.int .i64 (g * (d * 1000000))) ∧ Below w.heap.size w w' := by
  obtain ⟨_, _, _, ⟨d1, d2⟩, g1, g2⟩ := validB_iff.1 hv
  obtain ⟨m1, m2⟩ := needs_bd hv
  rw [← Int.mul_assoc] at m1 m2
  go_enter Try.func20, Try.ntmps20
  go_wp2_with (go_at_call 18; refine (rvalid_any _ _ _ _ _ _ hs).mono ?_; rintro e w1 ⟨rfl, hb⟩; obtain ⟨b0, b1, b2, b3, b4, hz, hB⟩ := box5_below hb; clear hb)
  go_ret
  exact ⟨ret_int (Int.mul_assoc _ _ _), hB⟩

theorem perMille_eq (f n : Int) (_h1 : 0 ≤ f) (h3 : 0 < n) : f / n * 1000 + f % n * 1000 / n = f * 1000 / n := by
  have e : f * 1000 = f / n * 1000 * n + f % n * 1000 := by
    have := Int.mul_ediv_add_emod f n
    have h : f / n * 1000 * n = n * (f / n) * 1000 := by rw [Int.mul_comm n, Int.mul_assoc, Int.mul_assoc, Int.mul_comm 1000 n]
    rw [h]; omega
  rw [e, Int.add_comm (f / n * 1000 * n), Int.add_mul_ediv_right _ _ (by omega), Int.add_comm]

set_option maxHeartbeats 1000000 in
theorem perMille_any (f n : Int) (w : World) (h1 : 0 ≤ f) (h2 : f ≤ 1000000000000000000) (h3 : 1000000 ≤ n) (h4 : n ≤ 20000000000000) :
    Calls Try.prog 77 #[.int .i64 f, .int .i64 n] w fun e w' => e = .returned (.int .i64 (f * 1000 / n)) ∧ Below w.heap.size w w' := by
  have hq := perMille_eq f n h1 (by omega)
  have HQ := hid hq; clear hq
  have k0 : 0 ≤ f / n := Int.ediv_nonneg h1 (by omega)
  have k1 : f / n ≤ 1000000000000 := Int.ediv_le_of_le_mul (by omega) (by omega)
  have k2 : 0 ≤ f % n := Int.emod_nonneg _ (by omega)
  have k3 : f % n < n := Int.emod_lt_of_pos _ (by omega)
  have k4 : 0 ≤ f % n * 1000 / n := Int.ediv_nonneg (by omega) (by omega)
  have k5 : f % n * 1000 / n ≤ 1000 := by
    have := Int.ediv_le_ediv (show 0 < n by omega) (show f % n * 1000 ≤ 1000 * n by omega)
    rw [Int.mul_ediv_cancel _ (by omega)] at this; exact this
  go_enter Try.func77, Try.ntmps77
  go_wp2
  go_quiet (fail)
  go_wp2
  go_ret
  exact ⟨ret_int HQ.out, bdrewN (Below.refl _ _)⟩

set_option maxHeartbeats 1000000 in
theorem checkF_any (s : ByteArray) (r z d g : Int) (w : World) (hs : s.size ≤ maxLen) (f : Int) :
    Calls Try.prog 76 #[.agg #[.string s, .int .i64 r, .int .i64 z, .int .i64 d, .int .i64 g], .int .i64 f] w fun e w' => e = .returned (.int .i64 (chkF (validB s.data.toList r z d g) f)) ∧ Below w.heap.size w w' := by
  cases hv : validB s.data.toList r z d g
  · go_enter Try.func76, Try.ntmps76
    go_wp2_with (first | (go_at_call 17; refine (lvalid_any _ _ _ _ _ _ hs).mono ?_; rintro e w1 ⟨rfl, hb⟩; obtain ⟨b0, b1, b2, b3, b4, hz, hB⟩ := box5_below hb; clear hb) | (go_at_call 57; refine (within_any _ _ _ _).mono ?_; rintro e w' ⟨rfl, rfl⟩))
    go_ret
    exact ⟨rfl, hB⟩
  · cases hf : (decide (0 ≤ f) && decide (f ≤ 1000000000000000000))
    · have h7 : chkF true f = 7 := by unfold chkF; simp at hf; simp; omega
      have H7 := hid h7; clear h7
      go_enter Try.func76, Try.ntmps76
      go_wp2_with (first | (go_at_call 17; refine (lvalid_any _ _ _ _ _ _ hs).mono ?_; rintro e w1 ⟨rfl, hb⟩; obtain ⟨b0, b1, b2, b3, b4, hz, hB⟩ := box5_below hb; clear hb) | (go_at_call 57; refine (within_any _ _ _ _).mono ?_; rintro e w' ⟨rfl, rfl⟩))
      go_ret
      exact ⟨ret_int H7.out.symm, hB⟩
    · have h7 : chkF true f = 0 := by unfold chkF; simp at hf; simp; omega
      have H7 := hid h7; clear h7
      go_enter Try.func76, Try.ntmps76
      go_wp2_with (first | (go_at_call 17; refine (lvalid_any _ _ _ _ _ _ hs).mono ?_; rintro e w1 ⟨rfl, hb⟩; obtain ⟨b0, b1, b2, b3, b4, hz, hB⟩ := box5_below hb; clear hb) | (go_at_call 57; refine (within_any _ _ _ _).mono ?_; rintro e w' ⟨rfl, rfl⟩))
      go_ret
      exact ⟨ret_int H7.out.symm, hB⟩
end Go.Proofs.Ytfngmpkceceomaa
