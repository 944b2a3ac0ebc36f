/- Walks of checkTemperature, Rate, RateUp of package lethal: contracts. -/
import Derived.Test.YtfngmpkceceomaaRb
import Derived.Test.YtfngmpkceceomaaLe
namespace Go.Proofs.Ytfngmpkceceomaa
open Go.RowKit Go.Lib Go.Maps

def chkT (v : Bool) (t : Int) : Int := if v then (if -1000 ≤ t ∧ t ≤ 2000 then 0 else 7) else 1
theorem chkT_no (t : Int) : chkT false t = 1 := rfl
theorem chkT_out (t : Int) (h : (decide (-1000 ≤ t) && decide (t ≤ 2000)) = false) : chkT true t = 7 := by
  unfold chkT; simp at h; simp; omega
theorem chkT_in (t : Int) (h : (decide (-1000 ≤ t) && decide (t ≤ 2000)) = true) : chkT true t = 0 := by
  unfold chkT; simp at h; simp; omega

set_option maxHeartbeats 1000000 in
theorem checkT_any (s : ByteArray) (r z d g : Int) (w : World) (hs : s.size ≤ maxLen) (t : Int) :
    Calls Try.prog 62 #[.agg #[.string s, .int .i64 r, .int .i64 z, .int .i64 d, .int .i64 g], .int .i64 t] w fun e w' => e = .returned (.int .i64 (chkT (validB s.data.toList r z d g) t)) ∧ Below w.heap.size w w' := by
  rcases third (validB s.data.toList r z d g) (decide (-1000 ≤ t) && decide (t ≤ 2000)) with hv | ⟨hv, ht⟩ | ⟨hv, ht⟩
  · go_enter Try.func62, Try.ntmps62
    go_wp2_with (first | (go_at_call 17; refine (lvalid_any _ _ _ _ _ _ hs).mono ?_; rintro e w1 ⟨rfl, hb⟩; obtain ⟨b0, b1, b2, b3, b4, hz, hB⟩ := box5_below hb; clear hb) | (go_at_call 57; refine (within_any _ _ _ _).mono ?_; rintro e w' ⟨rfl, rfl⟩))
    go_ret
    exact ⟨by rw [hv]; rfl, hB⟩
  · have c := hid (chkT_out t ht)
    go_enter Try.func62, Try.ntmps62
    go_wp2_with (first | (go_at_call 17; refine (lvalid_any _ _ _ _ _ _ hs).mono ?_; rintro e w1 ⟨rfl, hb⟩; obtain ⟨b0, b1, b2, b3, b4, hz, hB⟩ := box5_below hb; clear hb) | (go_at_call 57; refine (within_any _ _ _ _).mono ?_; rintro e w' ⟨rfl, rfl⟩))
    go_ret
    exact ⟨by rw [hv, c.out]; rfl, hB⟩
  · have c := hid (chkT_in t ht)
    go_enter Try.func62, Try.ntmps62
    go_wp2_with (first | (go_at_call 17; refine (lvalid_any _ _ _ _ _ _ hs).mono ?_; rintro e w1 ⟨rfl, hb⟩; obtain ⟨b0, b1, b2, b3, b4, hz, hB⟩ := box5_below hb; clear hb) | (go_at_call 57; refine (within_any _ _ _ _).mono ?_; rintro e w' ⟨rfl, rfl⟩))
    go_ret
    exact ⟨by rw [hv, c.out]; rfl, hB⟩

/-- What Rate and RateUp answer: the rate where the killer and the temperature are good. -/
def rateA (v : Bool) (x : Nat) (t : Int) : Int := if v && (decide (-1000 ≤ t) && decide (t ≤ 2000)) then x else 0
theorem rateA_no (x : Nat) (t : Int) : rateA false x t = 0 := rfl
theorem rateA_out (x : Nat) (t : Int) (h : (decide (-1000 ≤ t) && decide (t ≤ 2000)) = false) : rateA true x t = 0 := by unfold rateA; rw [h]; rfl
theorem rateA_in (x : Nat) (t : Int) (h : (decide (-1000 ≤ t) && decide (t ≤ 2000)) = true) : rateA true x t = x := by unfold rateA; rw [h]; rfl

set_option maxHeartbeats 2000000 in
theorem lRate_any (s : ByteArray) (r z d g : Int) (w : World) (hs : s.size ≤ maxLen) (t : Int) :
    Calls Try.prog 27 #[.agg #[.string s, .int .i64 r, .int .i64 z, .int .i64 d, .int .i64 g], .int .i64 t] w fun e w' => e = .returned (.tuple #[.int .i64 (rateA (validB s.data.toList r z d g) (Pm.rateD r z t) t), .int .i64 (chkT (validB s.data.toList r z d g) t)]) ∧ Below w.heap.size w w' := by
  rcases third (validB s.data.toList r z d g) (decide (-1000 ≤ t) && decide (t ≤ 2000)) with hv | ⟨hv, ht⟩ | ⟨hv, ht⟩
  · have c := hid (chkT_no t)
    go_enter Try.func27, Try.ntmps27
    go_wp2_with (first | (go_at_call 62; refine (checkT_any _ _ _ _ _ _ hs t).mono ?_; rintro e w1 ⟨rfl, hb⟩; rw [hv, c.out]; obtain ⟨b0, b1, b2, b3, b4, hz, hB⟩ := box5_below hb; clear hb))
    go_ret2
    exact ⟨by rw [hv, c.out]; rfl, hB⟩
  · have c := hid (chkT_out t ht)
    have c2 := hid (rateA_out (Pm.rateD r z t) t ht)
    go_enter Try.func27, Try.ntmps27
    go_wp2_with (first | (go_at_call 62; refine (checkT_any _ _ _ _ _ _ hs t).mono ?_; rintro e w1 ⟨rfl, hb⟩; rw [hv, c.out]; obtain ⟨b0, b1, b2, b3, b4, hz, hB⟩ := box5_below hb; clear hb))
    go_ret2
    exact ⟨by rw [hv, c.out, c2.out]; rfl, hB⟩
  · have c := hid (chkT_in t ht)
    have c2 := hid (rateA_in (Pm.rateD r z t) t ht)
    obtain ⟨_, ⟨r1, r2⟩, ⟨z1, z2⟩, _, _⟩ := validB_iff.1 hv
    obtain ⟨Z, rfl⟩ := Int.eq_ofNat_of_zero_le (show 0 ≤ z by omega)
    have ht' : -1000 ≤ t ∧ t ≤ 2000 := by simpa using ht
    obtain ⟨t1, t2⟩ := ht'
    go_enter Try.func27, Try.ntmps27
    go_wp2_with (first
      | (go_at_call 62; refine (checkT_any _ _ _ _ _ _ hs t).mono ?_; rintro e w1 ⟨rfl, hb⟩; rw [hv, c.out]; obtain ⟨b0, b1, b2, b3, b4, hz, hB⟩ := box5_below hb; clear hb)
      | (go_at_call 63; refine (ratesOf_any _ _ _ _ _ _ hs).mono ?_; rintro e w2 ⟨mb, rfl, hmb, hb2, hM⟩; have HM := hid (hM Z); have HB2 := hid hb2; clear hM)
      | (go_at_call 64; refine (down_any _ _ _ _ t Z mb 0 _ r1 r2 (by omega) (by omega) (by omega) (by omega) (by omega) HM.out).mono ?_; rintro e w3 ⟨rfl, hg3, _⟩))
    go_ret2
    exact ⟨by rw [hv, c.out, c2.out]; rfl, (hB.trans (HB2.out.mono (by omega))).grown hg3 (Nat.le_trans (Nat.le_of_lt hz) HB2.out.size) (fun k hk => by cases hk; omega)⟩

set_option maxHeartbeats 2000000 in
theorem lRateUp_any (s : ByteArray) (r z d g : Int) (w : World) (hs : s.size ≤ maxLen) (t : Int) :
    Calls Try.prog 29 #[.agg #[.string s, .int .i64 r, .int .i64 z, .int .i64 d, .int .i64 g], .int .i64 t] w fun e w' => e = .returned (.tuple #[.int .i64 (rateA (validB s.data.toList r z d g) (Pm.rateU r z t) t), .int .i64 (chkT (validB s.data.toList r z d g) t)]) ∧ Below w.heap.size w w' := by
  rcases third (validB s.data.toList r z d g) (decide (-1000 ≤ t) && decide (t ≤ 2000)) with hv | ⟨hv, ht⟩ | ⟨hv, ht⟩
  · have c := hid (chkT_no t)
    go_enter Try.func29, Try.ntmps29
    go_wp2_with (first | (go_at_call 62; refine (checkT_any _ _ _ _ _ _ hs t).mono ?_; rintro e w1 ⟨rfl, hb⟩; rw [hv, c.out]; obtain ⟨b0, b1, b2, b3, b4, hz, hB⟩ := box5_below hb; clear hb))
    go_ret2
    exact ⟨by rw [hv, c.out]; rfl, hB⟩
  · have c := hid (chkT_out t ht)
    have c2 := hid (rateA_out (Pm.rateU r z t) t ht)
    go_enter Try.func29, Try.ntmps29
    go_wp2_with (first | (go_at_call 62; refine (checkT_any _ _ _ _ _ _ hs t).mono ?_; rintro e w1 ⟨rfl, hb⟩; rw [hv, c.out]; obtain ⟨b0, b1, b2, b3, b4, hz, hB⟩ := box5_below hb; clear hb))
    go_ret2
    exact ⟨by rw [hv, c.out, c2.out]; rfl, hB⟩
  · have c := hid (chkT_in t ht)
    have c2 := hid (rateA_in (Pm.rateU r z t) t ht)
    obtain ⟨_, ⟨r1, r2⟩, ⟨z1, z2⟩, _, _⟩ := validB_iff.1 hv
    obtain ⟨Z, rfl⟩ := Int.eq_ofNat_of_zero_le (show 0 ≤ z by omega)
    have ht' : -1000 ≤ t ∧ t ≤ 2000 := by simpa using ht
    obtain ⟨t1, t2⟩ := ht'
    go_enter Try.func29, Try.ntmps29
    go_wp2_with (first
      | (go_at_call 62; refine (checkT_any _ _ _ _ _ _ hs t).mono ?_; rintro e w1 ⟨rfl, hb⟩; rw [hv, c.out]; obtain ⟨b0, b1, b2, b3, b4, hz, hB⟩ := box5_below hb; clear hb)
      | (go_at_call 63; refine (ratesOf_any _ _ _ _ _ _ hs).mono ?_; rintro e w2 ⟨mb, rfl, hmb, hb2, hM⟩; have HM := hid (hM Z); have HB2 := hid hb2; clear hM)
      | (go_at_call 67; refine (up_any _ _ _ _ t Z mb 0 _ r1 r2 (by omega) (by omega) (by omega) (by omega) (by omega) HM.out).mono ?_; rintro e w3 ⟨rfl, hg3, _⟩))
    go_ret2
    exact ⟨by rw [hv, c.out, c2.out]; rfl, (hB.trans (HB2.out.mono (by omega))).grown hg3 (Nat.le_trans (Nat.le_of_lt hz) HB2.out.size) (fun k hk => by cases hk; omega)⟩
end Go.Proofs.Ytfngmpkceceomaa
