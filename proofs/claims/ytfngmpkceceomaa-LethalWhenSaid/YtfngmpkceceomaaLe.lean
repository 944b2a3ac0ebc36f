/- Walks of Reached and Reductions of both: contracts. -/
import Derived.Test.YtfngmpkceceomaaLd
namespace Go.Proofs.Ytfngmpkceceomaa
open Go.RowKit

theorem chkF_no (f : Int) : chkF false f = 1 := rfl
theorem chkF_out (f : Int) (h : (decide (0 ≤ f) && decide (f ≤ 1000000000000000000)) = false) : chkF true f = 7 := by
  unfold chkF; simp at h; simp; omega
theorem chkF_in (f : Int) (h : (decide (0 ≤ f) && decide (f ≤ 1000000000000000000)) = true) : chkF true f = 0 := by
  unfold chkF; simp at h; simp; omega
def shareV (v : Bool) (f n : Int) : Int := if v && (decide (0 ≤ f) && decide (f ≤ 1000000000000000000)) then f * 1000 / n else 0
theorem shareV_no (f n : Int) : shareV false f n = 0 := rfl
theorem shareV_out (f n : Int) (h : (decide (0 ≤ f) && decide (f ≤ 1000000000000000000)) = false) : shareV true f n = 0 := by
  unfold shareV; rw [h]; rfl
theorem shareV_in (f n : Int) (h : (decide (0 ≤ f) && decide (f ≤ 1000000000000000000)) = true) : shareV true f n = f * 1000 / n := by
  unfold shareV; rw [h]; rfl
theorem third (v b : Bool) : v = false ∨ (v = true ∧ b = false) ∨ (v = true ∧ b = true) := by cases v <;> cases b <;> simp

set_option maxHeartbeats 1000000 in
theorem reached_any (s : ByteArray) (r z d g : Int) (w : World) (hs : s.size ≤ maxLen) (f : Int) :
    Calls Try.prog 45 #[.agg #[.string s, .int .i64 r, .int .i64 z, .int .i64 d, .int .i64 g], .int .i64 f] w fun e w' => e = .returned (.tuple #[.int .i64 (shareV (validB s.data.toList r z d g) f (g * (d * 1000000))), .int .i64 (chkF (validB s.data.toList r z d g) f)]) ∧ Below w.heap.size w w' := by
  rcases third (validB s.data.toList r z d g) (decide (0 ≤ f) && decide (f ≤ 1000000000000000000)) with hv | ⟨hv, hf⟩ | ⟨hv, hf⟩
  · have c1 := chkF_no f
    go_enter Try.func45, Try.ntmps45
    go_wp2_with (first | (go_at_call 76; refine (checkF_any _ _ _ _ _ _ hs _).mono ?_; rintro e w1 ⟨rfl, hb⟩; obtain ⟨b0, b1, b2, b3, b4, hz, hB⟩ := box5_below hb; clear hb))
    go_ret2
    exact ⟨by rw [hv, c1]; rfl, hB⟩
  · have c1 := chkF_out f hf
    have c2 := hid (shareV_out f (g * (d * 1000000)) hf)
    go_enter Try.func45, Try.ntmps45
    go_wp2_with (first | (go_at_call 76; refine (checkF_any _ _ _ _ _ _ hs _).mono ?_; rintro e w1 ⟨rfl, hb⟩; obtain ⟨b0, b1, b2, b3, b4, hz, hB⟩ := box5_below hb; clear hb))
    go_ret2
    exact ⟨by rw [hv, c1, c2.out]; rfl, hB⟩
  · have c1 := chkF_in f hf
    have c2 := hid (shareV_in f (g * (d * 1000000)) hf)
    obtain ⟨m1, m2⟩ := needs_bd hv
    have hf' : 0 ≤ f ∧ f ≤ 1000000000000000000 := by simpa using hf
    obtain ⟨f1, f2⟩ := hf'
    clear hf
    go_enter Try.func45, Try.ntmps45
    go_wp2_with (first | (go_at_call 76; refine (checkF_any _ _ _ _ _ _ hs _).mono ?_; rintro e w1 ⟨rfl, hb⟩; obtain ⟨b0, b1, b2, b3, b4, hz, hB⟩ := box5_below hb; clear hb) | (go_at_call 19; refine (needs_yes _ _ _ _ _ _ hs hv).mono ?_; rintro e w2 ⟨rfl, hb2⟩) | (go_at_call 77; refine (perMille_any _ _ _ f1 f2 m1 m2).mono ?_; rintro e w3 ⟨rfl, hb3⟩))
    go_ret2
    exact ⟨by rw [hv, c1, c2.out]; rfl, (hB.trans (hb2.mono (by omega))).trans (hb3.mono (Nat.le_trans (by omega) hb2.size))⟩

set_option maxHeartbeats 1000000 in
theorem reductions_any (s : ByteArray) (r z d g : Int) (w : World) (hs : s.size ≤ maxLen) (f : Int) :
    Calls Try.prog 47 #[.agg #[.string s, .int .i64 r, .int .i64 z, .int .i64 d, .int .i64 g], .int .i64 f] w fun e w' => e = .returned (.tuple #[.int .i64 (shareV (validB s.data.toList r z d g) f (d * 1000000)), .int .i64 (chkF (validB s.data.toList r z d g) f)]) ∧ Below w.heap.size w w' := by
  rcases third (validB s.data.toList r z d g) (decide (0 ≤ f) && decide (f ≤ 1000000000000000000)) with hv | ⟨hv, hf⟩ | ⟨hv, hf⟩
  · have c1 := chkF_no f
    go_enter Try.func47, Try.ntmps47
    go_wp2_with (first | (go_at_call 76; refine (checkF_any _ _ _ _ _ _ hs _).mono ?_; rintro e w1 ⟨rfl, hb⟩; obtain ⟨b0, b1, b2, b3, b4, hz, hB⟩ := box5_below hb; clear hb))
    go_ret2
    exact ⟨by rw [hv, c1]; rfl, hB⟩
  · have c1 := chkF_out f hf
    have c2 := hid (shareV_out f (d * 1000000) hf)
    go_enter Try.func47, Try.ntmps47
    go_wp2_with (first | (go_at_call 76; refine (checkF_any _ _ _ _ _ _ hs _).mono ?_; rintro e w1 ⟨rfl, hb⟩; obtain ⟨b0, b1, b2, b3, b4, hz, hB⟩ := box5_below hb; clear hb))
    go_ret2
    exact ⟨by rw [hv, c1, c2.out]; rfl, hB⟩
  · have c1 := chkF_in f hf
    have c2 := hid (shareV_in f (d * 1000000) hf)
    obtain ⟨_, _, _, ⟨d1, d2⟩, _, _⟩ := validB_iff.1 hv
    have hf' : 0 ≤ f ∧ f ≤ 1000000000000000000 := by simpa using hf
    obtain ⟨f1, f2⟩ := hf'
    clear hf
    go_enter Try.func47, Try.ntmps47
    go_wp2_with (first | (go_at_call 76; refine (checkF_any _ _ _ _ _ _ hs _).mono ?_; rintro e w1 ⟨rfl, hb⟩; obtain ⟨b0, b1, b2, b3, b4, hz, hB⟩ := box5_below hb; clear hb) | (go_at_call 59; refine (reduction_any _ _ _ _ _ _ hs d1 d2).mono ?_; rintro e w2 ⟨rfl, hb2⟩) | (go_at_call 77; refine (perMille_any _ _ _ f1 f2 (by omega) (by omega)).mono ?_; rintro e w3 ⟨rfl, hb3⟩))
    go_ret2
    exact ⟨by rw [hv, c1, c2.out]; rfl, (hB.trans (hb2.mono (by omega))).trans (hb3.mono (Nat.le_trans (by omega) hb2.size))⟩

theorem div_mill (f n : Int) (m : Int) (h : m = n * 1000) : f * 1000 / m = f / n := by
  subst h
  rw [Int.mul_comm f, Int.mul_comm n]; exact Int.mul_ediv_mul_of_pos _ _ (by decide)

set_option maxHeartbeats 1000000 in
theorem rreached_any (s : ByteArray) (r z d g : Int) (w : World) (hs : s.size ≤ maxLen) (f : Int) :
    Calls Try.prog 46 #[.agg #[.string s, .int .i64 r, .int .i64 z, .int .i64 d, .int .i64 g], .int .i64 f] w fun e w' => e = .returned (.tuple #[.int .i64 (shareV (validB s.data.toList r z d g) f (g * (d * 1000000))), .int .i64 (chkF (validB s.data.toList r z d g) f)]) ∧ Below w.heap.size w w' := by
  rcases third (validB s.data.toList r z d g) (decide (0 ≤ f) && decide (f ≤ 1000000000000000000)) with hv | ⟨hv, hf⟩ | ⟨hv, hf⟩
  · go_enter Try.func46, Try.ntmps46
    go_wp2_with (first | (go_at_call 18; refine (rvalid_any _ _ _ _ _ _ hs).mono ?_; rintro e w1 ⟨rfl, hb⟩; obtain ⟨b0, b1, b2, b3, b4, hz, hB⟩ := box5_below hb; clear hb) | (go_at_call 58; refine (rwithin_any _ _ _ _).mono ?_; rintro e w' ⟨rfl, rfl⟩))
    go_ret2
    exact ⟨by rw [hv]; rfl, hB⟩
  · have c1 := hid (chkF_out f hf)
    have c2 := hid (shareV_out f (g * (d * 1000000)) hf)
    go_enter Try.func46, Try.ntmps46
    go_wp2_with (first | (go_at_call 18; refine (rvalid_any _ _ _ _ _ _ hs).mono ?_; rintro e w1 ⟨rfl, hb⟩; obtain ⟨b0, b1, b2, b3, b4, hz, hB⟩ := box5_below hb; clear hb) | (go_at_call 58; refine (rwithin_any _ _ _ _).mono ?_; rintro e w' ⟨rfl, rfl⟩))
    go_ret2
    exact ⟨by rw [hv, c1.out, c2.out]; rfl, hB⟩
  · have c1 := hid (chkF_in f hf)
    have c2 := hid ((shareV_in f (g * (d * 1000000)) hf).trans (div_mill f (g * d * 1000) _ (by rw [← Int.mul_assoc, Int.mul_assoc (g * d)]; rfl)))
    obtain ⟨m1, m2⟩ := needs_bd hv
    rw [← Int.mul_assoc] at m1 m2
    have hf' : 0 ≤ f ∧ f ≤ 1000000000000000000 := by simpa using hf
    obtain ⟨f1, f2⟩ := hf'
    go_enter Try.func46, Try.ntmps46
    go_wp2_with (first | (go_at_call 18; refine (rvalid_any _ _ _ _ _ _ hs).mono ?_; rintro e w1 ⟨rfl, hb⟩; obtain ⟨b0, b1, b2, b3, b4, hz, hB⟩ := box5_below hb; clear hb) | (go_at_call 58; refine (rwithin_any _ _ _ _).mono ?_; rintro e w' ⟨rfl, rfl⟩))
    go_ret2
    exact ⟨by rw [hv, c1.out, c2.out]; rfl, hB⟩

set_option maxHeartbeats 1000000 in
theorem rreductions_any (s : ByteArray) (r z d g : Int) (w : World) (hs : s.size ≤ maxLen) (f : Int) :
    Calls Try.prog 48 #[.agg #[.string s, .int .i64 r, .int .i64 z, .int .i64 d, .int .i64 g], .int .i64 f] w fun e w' => e = .returned (.tuple #[.int .i64 (shareV (validB s.data.toList r z d g) f (d * 1000000)), .int .i64 (chkF (validB s.data.toList r z d g) f)]) ∧ Below w.heap.size w w' := by
  rcases third (validB s.data.toList r z d g) (decide (0 ≤ f) && decide (f ≤ 1000000000000000000)) with hv | ⟨hv, hf⟩ | ⟨hv, hf⟩
  · go_enter Try.func48, Try.ntmps48
    go_wp2_with (first | (go_at_call 18; refine (rvalid_any _ _ _ _ _ _ hs).mono ?_; rintro e w1 ⟨rfl, hb⟩; obtain ⟨b0, b1, b2, b3, b4, hz, hB⟩ := box5_below hb; clear hb) | (go_at_call 58; refine (rwithin_any _ _ _ _).mono ?_; rintro e w' ⟨rfl, rfl⟩))
    go_ret2
    exact ⟨by rw [hv]; rfl, hB⟩
  · have c1 := hid (chkF_out f hf)
    have c2 := hid (shareV_out f (d * 1000000) hf)
    go_enter Try.func48, Try.ntmps48
    go_wp2_with (first | (go_at_call 18; refine (rvalid_any _ _ _ _ _ _ hs).mono ?_; rintro e w1 ⟨rfl, hb⟩; obtain ⟨b0, b1, b2, b3, b4, hz, hB⟩ := box5_below hb; clear hb) | (go_at_call 58; refine (rwithin_any _ _ _ _).mono ?_; rintro e w' ⟨rfl, rfl⟩))
    go_ret2
    exact ⟨by rw [hv, c1.out, c2.out]; rfl, hB⟩
  · have c1 := hid (chkF_in f hf)
    have c2 := hid ((shareV_in f (d * 1000000) hf).trans (div_mill f (d * 1000) _ (by omega)))
    obtain ⟨_, _, _, ⟨d1, d2⟩, _, _⟩ := validB_iff.1 hv
    have hf' : 0 ≤ f ∧ f ≤ 1000000000000000000 := by simpa using hf
    obtain ⟨f1, f2⟩ := hf'
    go_enter Try.func48, Try.ntmps48
    go_wp2_with (first | (go_at_call 18; refine (rvalid_any _ _ _ _ _ _ hs).mono ?_; rintro e w1 ⟨rfl, hb⟩; obtain ⟨b0, b1, b2, b3, b4, hz, hB⟩ := box5_below hb; clear hb) | (go_at_call 58; refine (rwithin_any _ _ _ _).mono ?_; rintro e w' ⟨rfl, rfl⟩))
    go_ret2
    exact ⟨by rw [hv, c1.out, c2.out]; rfl, hB⟩
end Go.Proofs.Ytfngmpkceceomaa
