/- Walk of Least of package lethal: contracts. -/
import Derived.Test.YtfcngnoelmlakaaLs
namespace Go.Proofs.Ytfcngnoelmlakaa
open Go.RowKit Go.Lib Go.Maps

theorem box51 {w w1 : World} {c0 c1 c2 c3 c4 e : Value} {T U : TypeId} (hb : Below ((w.alloc (.cells #[c0, c1, c2, c3, c4] T)).alloc (.cells #[e] U)).heap.size ((w.alloc (.cells #[c0, c1, c2, c3, c4] T)).alloc (.cells #[e] U)) w1) :
    w1.cell? ⟨w.heap.size, 0, none⟩ = some c0 ∧ w1.cell? ⟨w.heap.size, 1, none⟩ = some c1 ∧ w1.cell? ⟨w.heap.size, 2, none⟩ = some c2 ∧ w1.cell? ⟨w.heap.size, 3, none⟩ = some c3 ∧ w1.cell? ⟨w.heap.size, 4, none⟩ = some c4 ∧ w1.cell? ⟨w.heap.size + 1, 0, none⟩ = some e ∧ w.heap.size + 1 < w1.heap.size ∧ Below w.heap.size w w1 := by
  obtain ⟨h0, h1, h2, h3, h4, h5, h6⟩ := box5_below (balloc hb)
  have e1 : (w.alloc (.cells #[c0, c1, c2, c3, c4] T)).heap.size = w.heap.size + 1 := by simp
  have e2 : ((w.alloc (.cells #[c0, c1, c2, c3, c4] T)).alloc (.cells #[e] U)).heap.size = w.heap.size + 2 := by simp
  have hc := cell_alloc_new (w.alloc (.cells #[c0, c1, c2, c3, c4] T)) #[e] U (0, 0) 0
  rw [e1] at hc
  have hs := hb.size
  rw [e2] at hs
  exact ⟨h0, h1, h2, h3, h4, keep_cell hb hc, by omega, h6⟩
theorem box51_keep {b : Nat} {w W w2 : World} {c0 c1 c2 c3 c4 e : Value} (hb : Below W.heap.size W w2)
    (h : W.cell? ⟨b, 0, none⟩ = some c0 ∧ W.cell? ⟨b, 1, none⟩ = some c1 ∧ W.cell? ⟨b, 2, none⟩ = some c2 ∧ W.cell? ⟨b, 3, none⟩ = some c3 ∧ W.cell? ⟨b, 4, none⟩ = some c4 ∧ W.cell? ⟨b + 1, 0, none⟩ = some e ∧ b + 1 < W.heap.size ∧ Below w.heap.size w W) :
    w2.cell? ⟨b, 0, none⟩ = some c0 ∧ w2.cell? ⟨b, 1, none⟩ = some c1 ∧ w2.cell? ⟨b, 2, none⟩ = some c2 ∧ w2.cell? ⟨b, 3, none⟩ = some c3 ∧ w2.cell? ⟨b, 4, none⟩ = some c4 ∧ w2.cell? ⟨b + 1, 0, none⟩ = some e ∧ b + 1 < w2.heap.size ∧ Below w.heap.size w w2 := by
  obtain ⟨h0, h1, h2, h3, h4, h5, h6, h7⟩ := h
  exact ⟨keep_cell hb h0, keep_cell hb h1, keep_cell hb h2, keep_cell hb h3, keep_cell hb h4, keep_cell hb h5, Nat.lt_of_lt_of_le h6 hb.size, h7.trans (hb.mono h7.size)⟩
theorem ls_start {w2 : World} {s : ByteArray} {r : Int} {Z : Nat} {d g q : Int} {Q mb : Nat} {T : TypeId} (hq : w2.cell? ⟨Q, 0, none⟩ = some (.int .i64 q)) (hQ : Q < w2.heap.size) (hm : MapI r Z w2 mb 0) (hmb : mb ≠ Q) :
    LsS s r Z d g q w2.heap.size Q mb w2 0 (w2.alloc (.cells #[.string s, .int .i64 r, .int .i64 Z, .int .i64 d, .int .i64 g, .map (some mb)] T)) := by
  have hb : Below w2.heap.size w2 (w2.alloc (.cells #[.string s, .int .i64 r, .int .i64 Z, .int .i64 d, .int .i64 g, .map (some mb)] T)) := (Below.refl _ _).alloc (Nat.le_refl _) _
  have hlt := hm.lt
  refine ⟨⟨?_, ?_, ?_, ?_, ?_, ?_, by simp⟩, keep_cell hb hq, Nat.lt_of_lt_of_le hQ hb.size, by omega, hmb, hm.below hb, gbelow hb⟩ <;> rw [cell_alloc_new] <;> rfl

set_option maxHeartbeats 2000000 in
theorem lLeast_inv (s : ByteArray) (r z d g : Int) (w : World) (hs : s.size ≤ maxLen) (q : Int) (hv : validB s.data.toList r z d g = false) :
    Calls Try.prog 51 #[.agg #[.string s, .int .i64 r, .int .i64 z, .int .i64 d, .int .i64 g], .int .i64 q] w fun e w' => e = .returned (.tuple #[.int .i64 0, .int .i64 1]) ∧ Below w.heap.size w w' := by
  go_enter Try.func51, Try.ntmps51
  go_wp2_with (first | (go_at_call 17; refine (lvalid_any _ _ _ _ _ _ hs).mono ?_; rintro e w1 ⟨rfl, hb⟩) | (go_at_call 57; refine (within_any _ _ _ _).mono ?_; rintro e w1 ⟨rfl, rfl⟩))
  go_ret2
  exact ⟨rfl, balloc (balloc hb)⟩
set_option maxHeartbeats 2000000 in
theorem lLeast_out (s : ByteArray) (r z d g : Int) (w : World) (hs : s.size ≤ maxLen) (q : Int) (hv : validB s.data.toList r z d g = true) (hq : (decide (0 ≤ q) && decide (q ≤ 10000000000000000)) = false) :
    Calls Try.prog 51 #[.agg #[.string s, .int .i64 r, .int .i64 z, .int .i64 d, .int .i64 g], .int .i64 q] w fun e w' => e = .returned (.tuple #[.int .i64 0, .int .i64 7]) ∧ Below w.heap.size w w' := by
  go_enter Try.func51, Try.ntmps51
  go_wp2_with (first | (go_at_call 17; refine (lvalid_any _ _ _ _ _ _ hs).mono ?_; rintro e w1 ⟨rfl, hb⟩; obtain ⟨b0, b1, b2, b3, b4, bq, hz, hB⟩ := box51 hb; clear hb) | (go_at_call 57; refine (within_any _ _ _ _).mono ?_; rintro e w1 ⟨rfl, rfl⟩))
  go_ret2
  exact ⟨rfl, hB⟩

set_option maxHeartbeats 4000000 in
theorem lLeast_yes (s : ByteArray) (r d g q : Int) (Z : Nat) (w : World) (hs : s.size ≤ maxLen) (hv : validB s.data.toList r Z d g = true) (hq : (decide (0 ≤ q) && decide (q ≤ 10000000000000000)) = true) :
    Calls Try.prog 51 #[.agg #[.string s, .int .i64 r, .int .i64 Z, .int .i64 d, .int .i64 g], .int .i64 q] w fun e w' => (∃ T, e = .returned (.tuple #[.int .i64 T, .int .i64 0]) ∧ IsLeast r Z q T) ∧ Below w.heap.size w w' := by
  obtain ⟨_, ⟨r1, r2⟩, ⟨z1, z2⟩, _, _⟩ := validB_iff.1 hv
  have hq' : 0 ≤ q ∧ q ≤ 10000000000000000 := by simpa using hq
  obtain ⟨q1, q2⟩ := hq'
  go_enter Try.func51, Try.ntmps51
  go_wp2_with (first
    | (go_at_call 17; refine (lvalid_any _ _ _ _ _ _ hs).mono ?_; rintro e w1 ⟨rfl, hb⟩; obtain ⟨b0, b1, b2, b3, b4, bq, hz, hB⟩ := box51 hb; clear hb; have hz0 : w.heap.size < w1.heap.size := (by omega))
    | (go_at_call 57; refine (within_any _ _ _ _).mono ?_; rintro e w1 ⟨rfl, rfl⟩)
    | (go_at_call 63; refine (ratesOf_any _ _ _ _ _ _ hs).mono ?_; rintro e w2 ⟨mb, rfl, hmb, hb2, hM⟩; have HS0 := hid (ls_start (T := 60) (s := s) (d := d) (g := g) (keep_cell hb2 bq) (Nat.lt_of_lt_of_le hz hb2.size) (hM Z) (show mb ≠ w.heap.size + 1 by omega)); have HB2 := hid hb2; clear hM)
    | (go_at_call 78; refine (search_least 3000 (testB r Z q) (fun c w' => LsS s r Z d g q w2.heap.size (w.heap.size + 1) mb w2 c w') _ _ _ (by decide) HS0.out (fun m c wr hm hc h => ltest_any s r d g q Z _ _ mb c m _ wr r1 r2 (by omega) (by omega) (by omega) (by omega) h)).mono ?_; rintro e w5 ⟨n, rfl, hfnd, c5, hS5⟩; have HF := hid hfnd; have hn := hfnd.1; clear hfnd))
  go_ret2
  exact ⟨⟨_, rfl, least_found r2 (by omega) (by omega) q2 HF.out⟩, (hB.trans (HB2.out.mono (by omega))).grown hS5.2.2.2.2.2.2 (Nat.le_trans (Nat.le_of_lt hz0) HB2.out.size) (fun k hk => by cases hk; omega)⟩
end Go.Proofs.Ytfcngnoelmlakaa
