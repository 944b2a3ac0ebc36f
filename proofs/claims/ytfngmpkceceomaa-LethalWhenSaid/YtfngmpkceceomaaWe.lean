/- Walks of the reference's Root, rates, told, Rate and RateUp: contracts. -/
import Derived.Test.YtfngmpkceceomaaWd
import Derived.Test.YtfngmpkceceomaaRc
namespace Go.Proofs.Ytfngmpkceceomaa
open Go.RowKit Go.Lib

set_option maxHeartbeats 1000000 in
theorem rRoot_no (e z : Int) (w : World) (h : rootOk e z = false) :
    Calls Try.prog 23 #[.int .i64 e, .int .i64 z] w fun r w' => r = .returned (.tuple #[.int .i64 0, .int .i64 7]) ∧ Below w.heap.size w w' := by
  cases hz : (decide (1 ≤ z) && decide (z ≤ 60))
  · go_enter Try.func23, Try.ntmps23
    go_wp2_with (go_at_call 58; refine (rwithin_any _ _ _ _).mono ?_; rintro e w' ⟨rfl, rfl⟩)
    go_ret2
    exact ⟨rfl, Below.refl _ _⟩
  · have he : (decide (0 ≤ e) && decide (e ≤ 16 * z)) = false := by unfold rootOk at h; rw [hz] at h; exact h
    have hz' : 1 ≤ z ∧ z ≤ 60 := by simpa using hz
    obtain ⟨z1, z2⟩ := hz'
    clear h
    go_enter Try.func23, Try.ntmps23
    go_wp2_with (go_at_call 58; refine (rwithin_any _ _ _ _).mono ?_; rintro e w' ⟨rfl, rfl⟩)
    go_ret2
    exact ⟨rfl, Below.refl _ _⟩
set_option maxHeartbeats 1000000 in
theorem rRoot_yes (e z : Nat) (w : World) (hz : 1 ≤ z) (hz2 : z ≤ 60) (he : e ≤ 16 * z) :
    Calls Try.prog 23 #[.int .i64 e, .int .i64 z] w fun r w' => r = .returned (.tuple #[.int .i64 (Pm.rootN e z : Nat), .int .i64 0]) ∧ Below w.heap.size w w' := by
  have h1 : (decide (1 ≤ (z : Int)) && decide ((z : Int) ≤ 60)) = true := by simp; omega
  have h2 : decide ((e : Int) ≤ 16 * z) = true := by simp; omega
  go_enter Try.func23, Try.ntmps23
  go_wp2_with (first | (go_at_call 58; refine (rwithin_any _ _ _ _).mono ?_; rintro e w' ⟨rfl, rfl⟩) | (go_at_call 61; refine (rroot_any e z _ hz hz2 he).mono ?_; rintro e w1 ⟨rfl, hb⟩))
  go_ret2
  exact ⟨rfl, hb⟩

set_option maxHeartbeats 1000000 in
theorem told_any (t : Int) (w : World) : Calls Try.prog 65 #[.int .i64 t] w fun e w' => e = .returned (.bool (decide (-1000 ≤ t) && decide (t ≤ 2000))) ∧ w = w' := by
  go_enter Try.func65, Try.ntmps65
  go_wp2_with (go_at_call 58; refine (rwithin_any _ _ _ _).mono ?_; rintro e w' ⟨rfl, rfl⟩)
  go_ret
  exact ⟨rfl, rfl⟩

set_option maxHeartbeats 2000000 in
theorem rrates_any (s : ByteArray) (r d g t : Int) (Z : Nat) (w : World) (hr1 : -200 ≤ r) (hr2 : r ≤ 800) (hz1 : 1 ≤ Z) (hz2 : Z ≤ 60) (ht1 : -100000 ≤ t) (ht2 : t ≤ 100000) :
    Calls Try.prog 66 #[.agg #[.string s, .int .i64 r, .int .i64 Z, .int .i64 d, .int .i64 g], .int .i64 t] w fun e w' => e = .returned (.tuple #[.int .i64 (Pm.rateD r Z t : Nat), .int .i64 (Pm.rateU r Z t : Nat)]) ∧ Below w.heap.size w w' := by
  have hu := Pm.rateU_eq r Z t
  have hle := Pm.expo_le r Z t
  obtain ⟨E, hE⟩ : ∃ E, E = Pm.expo r Z t := ⟨_, rfl⟩
  have hE' := hE
  rw [← hE] at hu hle
  unfold Pm.expo at hE'
  have HE := hid hE
  clear hE
  by_cases h0 : E < 0
  · have hD := hid (Pm.rateD_neg (r := r) (z := Z) (t := t) (by rw [← HE.out]; exact h0))
    have hU : Hid (Pm.rateU r Z t = 1) := by unfold Hid; rw [hu, if_neg (fun h => absurd h.1 (by omega)), hD.out]
    clear hu
    by_cases hc : t - r ≤ 10 * Z
    · have hx : ¬ (10 * (Z : Int) < t - r) := by omega
      have hEE : E = 6 * Z + (t - r) := by omega
      subst hEE
      go_enter Try.func66, Try.ntmps66
      go_wp2
      go_ret2
      exact ⟨by rw [hD.out, hU.out]; rfl, (Below.refl _ _).alloc (Nat.le_refl _) _⟩
    · exact absurd h0 (by omega)
  · obtain ⟨N, rfl⟩ := Int.eq_ofNat_of_zero_le (show 0 ≤ E by omega)
    have hD : Hid (Pm.rateD r Z t = Pm.rootN N Z) := by
      unfold Hid
      rw [Pm.rateD_pos (by rw [← HE.out]; exact h0), ← HE.out]; simp
    have hN : N ≤ 16 * Z := by omega
    have hrle := Pm.root_le16 N Z hz1 hN
    by_cases hp : N % Z = 0
    · have hU : Hid (Pm.rateU r Z t = Pm.rootN N Z) := by
        unfold Hid
        rw [hu, if_pos ⟨by omega, by simpa using hp⟩, hD.out]
      have hb := decide_eq_true hp
      clear hu hp
      by_cases hc : t - r ≤ 10 * Z
      · have hEE : Hid (6 * (Z : Int) + (t - r) = N) := by unfold Hid; omega
        have hge : 0 ≤ 6 * (Z : Int) + (t - r) := by omega
        clear hE'
        go_enter Try.func66, Try.ntmps66
        go_wp2_with (go_at_call 61; rw [hEE.out]; refine (rroot_any N Z _ hz1 hz2 hN).mono ?_; rintro r w1 ⟨rfl, hb1⟩)
        go_ret2
        exact ⟨by rw [hD.out, hU.out]; rfl, balloc hb1⟩
      · have hEE : Hid (6 * (Z : Int) + 10 * Z = N) := by unfold Hid; omega
        clear hE'
        go_enter Try.func66, Try.ntmps66
        go_wp2_with (go_at_call 61; rw [hEE.out]; refine (rroot_any N Z _ hz1 hz2 hN).mono ?_; rintro r w1 ⟨rfl, hb1⟩)
        go_ret2
        exact ⟨by rw [hD.out, hU.out]; rfl, balloc hb1⟩
    · have hU : Hid (Pm.rateU r Z t = Pm.rootN N Z + 1) := by
        unfold Hid
        rw [hu, if_neg (fun h => hp (by simpa using h.2)), hD.out]
      have hb := decide_eq_false hp
      clear hu hp
      by_cases hc : t - r ≤ 10 * Z
      · have hEE : Hid (6 * (Z : Int) + (t - r) = N) := by unfold Hid; omega
        have hge : 0 ≤ 6 * (Z : Int) + (t - r) := by omega
        clear hE'
        go_enter Try.func66, Try.ntmps66
        go_wp2_with (go_at_call 61; rw [hEE.out]; refine (rroot_any N Z _ hz1 hz2 hN).mono ?_; rintro r w1 ⟨rfl, hb1⟩)
        go_ret2
        exact ⟨by rw [hD.out, hU.out]; rfl, balloc hb1⟩
      · have hEE : Hid (6 * (Z : Int) + 10 * Z = N) := by unfold Hid; omega
        clear hE'
        go_enter Try.func66, Try.ntmps66
        go_wp2_with (go_at_call 61; rw [hEE.out]; refine (rroot_any N Z _ hz1 hz2 hN).mono ?_; rintro r w1 ⟨rfl, hb1⟩)
        go_ret2
        exact ⟨by rw [hD.out, hU.out]; rfl, balloc hb1⟩

set_option maxHeartbeats 2000000 in
theorem rRate_any (s : ByteArray) (r z d g : Int) (w : World) (hs : s.size ≤ maxLen) (t : Int) :
    Calls Try.prog 28 #[.agg #[.string s, .int .i64 r, .int .i64 z, .int .i64 d, .int .i64 g], .int .i64 t] w fun e w' => e = .returned (.tuple #[.int .i64 (rateA (validB s.data.toList r z d g) (Pm.rateD r z t) t), .int .i64 (chkT (validB s.data.toList r z d g) t)]) ∧ Below w.heap.size w w' := by
  rcases third (validB s.data.toList r z d g) (decide (-1000 ≤ t) && decide (t ≤ 2000)) with hv | ⟨hv, ht⟩ | ⟨hv, ht⟩
  · go_enter Try.func28, Try.ntmps28
    go_wp2_with (first | (go_at_call 18; refine (rvalid_any _ _ _ _ _ _ hs).mono ?_; rintro e w1 ⟨rfl, hb⟩; obtain ⟨b0, b1, b2, b3, b4, hz, hB⟩ := box5_below hb; clear hb) | (go_at_call 65; refine (told_any _ _).mono ?_; rintro e w1 ⟨rfl, rfl⟩))
    go_ret2
    exact ⟨by rw [hv]; rfl, hB⟩
  · have c := hid (chkT_out t ht)
    have c2 := hid (rateA_out (Pm.rateD r z t) t ht)
    go_enter Try.func28, Try.ntmps28
    go_wp2_with (first | (go_at_call 18; refine (rvalid_any _ _ _ _ _ _ hs).mono ?_; rintro e w1 ⟨rfl, hb⟩; obtain ⟨b0, b1, b2, b3, b4, hz, hB⟩ := box5_below hb; clear hb) | (go_at_call 65; refine (told_any _ _).mono ?_; rintro e w1 ⟨rfl, rfl⟩))
    go_ret2
    exact ⟨by rw [hv, c.out, c2.out]; rfl, hB⟩
  · have c := hid (chkT_in t ht)
    have c2 := hid (rateA_in (Pm.rateD r z t) t ht)
    obtain ⟨_, ⟨r1, r2⟩, ⟨z1, z2⟩, _, _⟩ := validB_iff.1 hv
    obtain ⟨Z, rfl⟩ := Int.eq_ofNat_of_zero_le (show 0 ≤ z by omega)
    have ht' : -1000 ≤ t ∧ t ≤ 2000 := by simpa using ht
    obtain ⟨t1, t2⟩ := ht'
    go_enter Try.func28, Try.ntmps28
    go_wp2_with (first | (go_at_call 18; refine (rvalid_any _ _ _ _ _ _ hs).mono ?_; rintro e w1 ⟨rfl, hb⟩; obtain ⟨b0, b1, b2, b3, b4, hz, hB⟩ := box5_below hb; clear hb) | (go_at_call 65; refine (told_any _ _).mono ?_; rintro e w1 ⟨rfl, rfl⟩) | (go_at_call 66; refine (rrates_any _ _ _ _ t Z _ r1 r2 (by omega) (by omega) (by omega) (by omega)).mono ?_; rintro e w2 ⟨rfl, hb2⟩))
    go_ret2
    exact ⟨by rw [hv, c.out, c2.out]; rfl, hB.trans (hb2.mono (by omega))⟩

set_option maxHeartbeats 2000000 in
theorem rRateUp_any (s : ByteArray) (r z d g : Int) (w : World) (hs : s.size ≤ maxLen) (t : Int) :
    Calls Try.prog 30 #[.agg #[.string s, .int .i64 r, .int .i64 z, .int .i64 d, .int .i64 g], .int .i64 t] w fun e w' => e = .returned (.tuple #[.int .i64 (rateA (validB s.data.toList r z d g) (Pm.rateU r z t) t), .int .i64 (chkT (validB s.data.toList r z d g) t)]) ∧ Below w.heap.size w w' := by
  rcases third (validB s.data.toList r z d g) (decide (-1000 ≤ t) && decide (t ≤ 2000)) with hv | ⟨hv, ht⟩ | ⟨hv, ht⟩
  · go_enter Try.func30, Try.ntmps30
    go_wp2_with (first | (go_at_call 18; refine (rvalid_any _ _ _ _ _ _ hs).mono ?_; rintro e w1 ⟨rfl, hb⟩; obtain ⟨b0, b1, b2, b3, b4, hz, hB⟩ := box5_below hb; clear hb) | (go_at_call 65; refine (told_any _ _).mono ?_; rintro e w1 ⟨rfl, rfl⟩))
    go_ret2
    exact ⟨by rw [hv]; rfl, hB⟩
  · have c := hid (chkT_out t ht)
    have c2 := hid (rateA_out (Pm.rateU r z t) t ht)
    go_enter Try.func30, Try.ntmps30
    go_wp2_with (first | (go_at_call 18; refine (rvalid_any _ _ _ _ _ _ hs).mono ?_; rintro e w1 ⟨rfl, hb⟩; obtain ⟨b0, b1, b2, b3, b4, hz, hB⟩ := box5_below hb; clear hb) | (go_at_call 65; refine (told_any _ _).mono ?_; rintro e w1 ⟨rfl, rfl⟩))
    go_ret2
    exact ⟨by rw [hv, c.out, c2.out]; rfl, hB⟩
  · have c := hid (chkT_in t ht)
    have c2 := hid (rateA_in (Pm.rateU r z t) t ht)
    obtain ⟨_, ⟨r1, r2⟩, ⟨z1, z2⟩, _, _⟩ := validB_iff.1 hv
    obtain ⟨Z, rfl⟩ := Int.eq_ofNat_of_zero_le (show 0 ≤ z by omega)
    have ht' : -1000 ≤ t ∧ t ≤ 2000 := by simpa using ht
    obtain ⟨t1, t2⟩ := ht'
    go_enter Try.func30, Try.ntmps30
    go_wp2_with (first | (go_at_call 18; refine (rvalid_any _ _ _ _ _ _ hs).mono ?_; rintro e w1 ⟨rfl, hb⟩; obtain ⟨b0, b1, b2, b3, b4, hz, hB⟩ := box5_below hb; clear hb) | (go_at_call 65; refine (told_any _ _).mono ?_; rintro e w1 ⟨rfl, rfl⟩) | (go_at_call 66; refine (rrates_any _ _ _ _ t Z _ r1 r2 (by omega) (by omega) (by omega) (by omega)).mono ?_; rintro e w2 ⟨rfl, hb2⟩))
    go_ret2
    exact ⟨by rw [hv, c.out, c2.out]; rfl, hB.trans (hb2.mono (by omega))⟩
end Go.Proofs.Ytfngmpkceceomaa
