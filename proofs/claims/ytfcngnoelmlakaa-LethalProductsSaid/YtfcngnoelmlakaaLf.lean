/- Walk of free, of the statements on decades and products: contract. -/
import Derived.Test.YtfcngnoelmlakaaFr
namespace Go.Proofs.Ytfcngnoelmlakaa
open Go.RowKit Go.Lib Go.Maps

def freeB (v : Bool) (r z t : Int) : Bool := v && decide (-1000 ≤ t) && decide (t ≤ 2000) && decide (t - r ≤ 10 * z)
theorem four (a b c d : Bool) : a = false ∨ (a = true ∧ b = false) ∨ (a = true ∧ b = true ∧ c = false) ∨ (a = true ∧ b = true ∧ c = true ∧ d = false) ∨ (a = true ∧ b = true ∧ c = true ∧ d = true) := by
  cases a <;> cases b <;> cases c <;> cases d <;> simp

set_option maxHeartbeats 2000000 in
theorem free_any (s : ByteArray) (r z d g : Int) (w : World) (hs : s.size ≤ maxLen) (t : Int) :
    Calls Try.prog 34 #[.agg #[.string s, .int .i64 r, .int .i64 z, .int .i64 d, .int .i64 g], .int .i64 t] w fun e w' => e = .returned (.bool (freeB (validB s.data.toList r z d g) r z t)) ∧ Below w.heap.size w w' := by
  have hf : freeB (validB s.data.toList r z d g) r z t = (validB s.data.toList r z d g && decide (-1000 ≤ t) && decide (t ≤ 2000) && decide (t - r ≤ 10 * z)) := rfl
  have Hf := hid hf; clear hf
  rcases four (validB s.data.toList r z d g) (decide (-1000 ≤ t)) (decide (t ≤ 2000)) (decide (t - r ≤ 10 * z)) with h1 | ⟨h1, h2⟩ | ⟨h1, h2, h3⟩ | ⟨h1, h2, h3, h4⟩ | ⟨h1, h2, h3, h4⟩
  · go_enter Try.func34, Try.ntmps34
    go_wp2_with (go_at_call 18; refine (rvalid_any _ _ _ _ _ _ hs).mono ?_; rintro e w1 ⟨rfl, hb⟩; obtain ⟨b0, b1, b2, b3, b4, hz, hB⟩ := box5_below hb; clear hb)
    go_ret
    exact ⟨ret_bool (by rw [Hf.out, h1]; rfl), hB⟩
  · go_enter Try.func34, Try.ntmps34
    go_wp2_with (go_at_call 18; refine (rvalid_any _ _ _ _ _ _ hs).mono ?_; rintro e w1 ⟨rfl, hb⟩; obtain ⟨b0, b1, b2, b3, b4, hz, hB⟩ := box5_below hb; clear hb)
    go_ret
    exact ⟨ret_bool (by rw [Hf.out, h1, h2]; rfl), hB⟩
  · go_enter Try.func34, Try.ntmps34
    go_wp2_with (go_at_call 18; refine (rvalid_any _ _ _ _ _ _ hs).mono ?_; rintro e w1 ⟨rfl, hb⟩; obtain ⟨b0, b1, b2, b3, b4, hz, hB⟩ := box5_below hb; clear hb)
    go_ret
    exact ⟨ret_bool (by rw [Hf.out, h1, h2, h3]; rfl), hB⟩
  · obtain ⟨_, ⟨r1, r2⟩, ⟨z1, z2⟩, _, _⟩ := validB_iff.1 h1
    have t1 : -1000 ≤ t := by simpa using h2
    have t2 : t ≤ 2000 := by simpa using h3
    go_enter Try.func34, Try.ntmps34
    go_wp2_with (go_at_call 18; refine (rvalid_any _ _ _ _ _ _ hs).mono ?_; rintro e w1 ⟨rfl, hb⟩; obtain ⟨b0, b1, b2, b3, b4, hz, hB⟩ := box5_below hb; clear hb)
    go_ret
    exact ⟨ret_bool (by rw [Hf.out, h1, h2, h3, h4]; rfl), hB⟩
  · obtain ⟨_, ⟨r1, r2⟩, ⟨z1, z2⟩, _, _⟩ := validB_iff.1 h1
    have t1 : -1000 ≤ t := by simpa using h2
    have t2 : t ≤ 2000 := by simpa using h3
    go_enter Try.func34, Try.ntmps34
    go_wp2_with (go_at_call 18; refine (rvalid_any _ _ _ _ _ _ hs).mono ?_; rintro e w1 ⟨rfl, hb⟩; obtain ⟨b0, b1, b2, b3, b4, hz, hB⟩ := box5_below hb; clear hb)
    go_ret
    exact ⟨ret_bool (by rw [Hf.out, h1, h2, h3, h4]; rfl), hB⟩
theorem freeB_iff {v : Bool} {r z t : Int} : freeB v r z t = true ↔ v = true ∧ -1000 ≤ t ∧ t ≤ 2000 ∧ t - r ≤ 10 * z := by
  unfold freeB; simp [and_assoc]

/-- Z quarters more, ten times as great. -/
theorem decades {r z t : Int} (hz : 1 ≤ z) (h : t + z - r ≤ 10 * z) : 10 * Pm.rateD r z t ≤ Pm.rateD r z (t + z) ∧ Pm.rateD r z (t + z) ≤ 10 * Pm.rateD r z t + 9 := by
  have e1 : Pm.expo r z t = 6 * z + (t - r) := by unfold Pm.expo; omega
  have e2 : Pm.expo r z (t + z) = Pm.expo r z t + z := by rw [e1]; unfold Pm.expo; omega
  by_cases h0 : Pm.expo r z t < 0
  · rw [Pm.rateD_neg h0]
    by_cases h1 : Pm.expo r z (t + z) < 0
    · rw [Pm.rateD_neg h1]; omega
    · rw [Pm.rateD_pos h1]
      have := (Pm.root_bd (Pm.expo r z (t + z)).toNat z.toNat (by omega)).2
      rw [Nat.div_eq_of_lt (by omega)] at this
      omega
  · rw [Pm.rateD_pos h0, Pm.rateD_pos (by omega)]
    have e3 : (Pm.expo r z (t + z)).toNat = (Pm.expo r z t).toNat + 1 * z.toNat := by omega
    rw [e3]
    have := Pm.root_shift (Pm.expo r z t).toNat z.toNat 1 (by omega)
    rw [Nat.pow_one] at this
    omega
end Go.Proofs.Ytfcngnoelmlakaa
