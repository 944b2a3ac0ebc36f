/- Walk of awake: the chapter's example has its rates. -/
import Derived.Test.YtfngmpkceceomaaRc
namespace Go.Proofs.Ytfngmpkceceomaa
open Go.RowKit Go.Lib Go.Maps

theorem aw_rate : Pm.rateD 484 40 464 = 316227 := by
  rw [Pm.rateD_pos (by decide)]
  exact Pm.rootN_eq (by decide) (by unfold Pm.IsRoot; decide +kernel)
theorem aw_up : Pm.rateU 484 40 484 = 1000000 := by
  rw [Pm.rateU_eq, if_pos (by decide), Pm.rateD_pos (by decide)]
  exact Pm.rootN_eq (by decide) (by unfold Pm.IsRoot; decide +kernel)
theorem aw_valid : validB (⟨#[97]⟩ : ByteArray).data.toList 484 40 13 12 = true := by decide +kernel

/-- The example's rates as the walk meets them. -/
theorem aw_a : rateA (validB (⟨#[97]⟩ : ByteArray).data.toList 484 40 13 12) (Pm.rateD 484 40 464) 464 = 316227 := by
  rw [aw_valid, aw_rate]; rfl
theorem aw_b : rateA (validB (⟨#[97]⟩ : ByteArray).data.toList 484 40 13 12) (Pm.rateU 484 40 484) 484 = 1000000 := by
  rw [aw_valid, aw_up]; rfl
theorem aw_c : chkT (validB (⟨#[97]⟩ : ByteArray).data.toList 484 40 13 12) 464 = 0 := by rw [aw_valid]; rfl
theorem aw_d : chkT (validB (⟨#[97]⟩ : ByteArray).data.toList 484 40 13 12) 484 = 0 := by rw [aw_valid]; rfl

theorem aw_Rate (w : World) : Calls Try.prog 27 #[.agg #[.string ⟨#[97]⟩, .int .i64 484, .int .i64 40, .int .i64 13, .int .i64 12], .int .i64 464] w fun e w' => e = .returned (.tuple #[.int .i64 316227, .int .i64 0]) ∧ Below w.heap.size w w' :=
  (lRate_any ⟨#[97]⟩ 484 40 13 12 w (by decide) 464).mono fun e w' ⟨he, hb⟩ => ⟨by rw [he, aw_a, aw_c], hb⟩
theorem aw_RateUp (w : World) : Calls Try.prog 29 #[.agg #[.string ⟨#[97]⟩, .int .i64 484, .int .i64 40, .int .i64 13, .int .i64 12], .int .i64 484] w fun e w' => e = .returned (.tuple #[.int .i64 1000000, .int .i64 0]) ∧ Below w.heap.size w w' :=
  (lRateUp_any ⟨#[97]⟩ 484 40 13 12 w (by decide) 484).mono fun e w' ⟨he, hb⟩ => ⟨by rw [he, aw_b, aw_d], hb⟩
theorem aw_Needs (w : World) : Calls Try.prog 19 #[.agg #[.string ⟨#[97]⟩, .int .i64 484, .int .i64 40, .int .i64 13, .int .i64 12]] w fun e w' => e = .returned (.int .i64 156000000) ∧ Below w.heap.size w w' :=
  (needs_yes ⟨#[97]⟩ 484 40 13 12 w (by decide) aw_valid).mono fun e w' ⟨he, hb⟩ => ⟨he, hb⟩

set_option maxHeartbeats 1000000 in
theorem awake_any (w : World) : Calls Try.prog 21 #[] w fun e w' => e = .returned (.bool true) ∧ Below w.heap.size w w' := by
  go_enter Try.func21, Try.ntmps21
  go_wp2_with (first
    | (go_at_call 27; refine (aw_Rate _).mono ?_; rintro e w1 ⟨rfl, hb⟩; obtain ⟨b0, b1, b2, b3, b4, hz, hB⟩ := box5_below hb; clear hb)
    | (go_at_call 29; refine (aw_RateUp _).mono ?_; rintro e w2 ⟨rfl, hb2⟩; have c0 := keep_cell hb2 b0; have c1 := keep_cell hb2 b1; have c2 := keep_cell hb2 b2; have c3 := keep_cell hb2 b3; have c4 := keep_cell hb2 b4)
    | (go_at_call 19; refine (aw_Needs _).mono ?_; rintro e w3 ⟨rfl, hb3⟩))
  go_ret
  exact ⟨rfl, (hB.trans (hb2.mono (by omega))).trans (hb3.mono (Nat.le_trans (by omega) hb2.size))⟩
end Go.Proofs.Ytfngmpkceceomaa
