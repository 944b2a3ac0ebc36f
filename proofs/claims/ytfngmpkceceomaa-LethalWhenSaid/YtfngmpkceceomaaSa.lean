/- Walks of Quarter of both, quarterAbove, Cut: contracts. -/
import Derived.Test.YtfngmpkceceomaaTb
namespace Go.Proofs.Ytfngmpkceceomaa
open Go.RowKit Go.Lib Go.Maps

theorem q_pos {t : Int} (h : 0 ≤ t) : t.tdiv 250 = t / 250 ∧ t.tmod 250 = t % 250 := ⟨Int.tdiv_eq_ediv_of_nonneg h, Int.tmod_eq_emod_of_nonneg h⟩
theorem q_neg0 {t : Int} (hd : t % 250 = 0) : t.tdiv 250 = t / 250 ∧ t.tmod 250 = 0 := by
  have hdvd : (250 : Int) ∣ t := Int.dvd_of_emod_eq_zero hd
  rw [Int.tdiv_eq_ediv, Int.tmod_eq_emod, if_pos (.inr hdvd), if_pos (.inr hdvd)]
  omega
theorem q_neg1 {t : Int} (h : t < 0) (hd : t % 250 ≠ 0) : t.tdiv 250 = t / 250 + 1 ∧ t.tmod 250 = t % 250 - 250 := by
  have hn : ¬ (0 ≤ t ∨ (250 : Int) ∣ t) := by
    rintro (h1 | h1)
    · omega
    · exact hd (Int.emod_eq_zero_of_dvd h1)
  rw [Int.tdiv_eq_ediv, Int.tmod_eq_emod, if_neg hn, if_neg hn]
  exact ⟨rfl, rfl⟩

set_option maxHeartbeats 1000000 in
theorem lQuarter_any (t : Int) (w : World) (h1 : -9223372036854775808 ≤ t) (h2 : t ≤ 9223372036854775807) : Calls Try.prog 36 #[.int .i64 t] w fun e w' => e = .returned (.int .i64 (t / 250)) ∧ w = w' := by
  rcases Int.lt_or_le t 0 with h | h
  · by_cases hd : t % 250 = 0
    · obtain ⟨e1, e2⟩ := q_neg0 hd
      go_enter Try.func36, Try.ntmps36
      go_wp2
      go_ret
      exact ⟨rfl, rfl⟩
    · obtain ⟨e1, e2⟩ := q_neg1 h hd
      have d : decide (t % 250 - 250 < 0) = true := by simp; omega
      go_enter Try.func36, Try.ntmps36
      go_wp2
      go_ret
      exact ⟨ret_int (by omega), rfl⟩
  · obtain ⟨e1, e2⟩ := q_pos h
    have d : decide (t % 250 < 0) = false := by simp; omega
    go_enter Try.func36, Try.ntmps36
    go_wp2
    go_ret
    exact ⟨rfl, rfl⟩
set_option maxHeartbeats 1000000 in
theorem rQuarter_any (t : Int) (w : World) (h1 : -9223372036854775808 ≤ t) (h2 : t ≤ 9223372036854775807) : Calls Try.prog 37 #[.int .i64 t] w fun e w' => e = .returned (.int .i64 (t / 250)) ∧ w = w' := by
  rcases Int.lt_or_le t 0 with h | h
  · by_cases hd : t % 250 = 0
    · obtain ⟨e1, e2⟩ := q_neg0 hd
      go_enter Try.func37, Try.ntmps37
      go_wp2
      go_ret
      exact ⟨rfl, rfl⟩
    · obtain ⟨e1, e2⟩ := q_neg1 h hd
      have d : (t % 250 - 250 == 0) = false := by simp; omega
      go_enter Try.func37, Try.ntmps37
      go_wp2
      go_ret
      exact ⟨ret_int (by omega), rfl⟩
  · obtain ⟨e1, e2⟩ := q_pos h
    have d : decide (t < 0) = false := by simp; omega
    go_enter Try.func37, Try.ntmps37
    go_wp2
    go_ret
    exact ⟨rfl, rfl⟩
/-- The quarter that is not below. -/
def qUp (t : Int) : Int := if t % 250 = 0 then t / 250 else t / 250 + 1
set_option maxHeartbeats 1000000 in
theorem lAbove_any (t : Int) (w : World) (h1 : -50000 ≤ t) (h2 : t ≤ 200000) : Calls Try.prog 89 #[.int .i64 t] w fun e w' => e = .returned (.int .i64 (qUp t)) ∧ w = w' := by
  have hq1 : -1000 ≤ t / 250 := by omega
  have hq2 : t / 250 ≤ 1000 := by omega
  by_cases hd : t % 250 = 0
  · obtain ⟨e1, e2⟩ := q_neg0 hd
    have hu := hid (show qUp t = t / 250 by unfold qUp; rw [if_pos hd])
    go_enter Try.func89, Try.ntmps89
    go_wp2_with (go_at_call 36; refine (lQuarter_any t _ (by omega) (by omega)).mono ?_; rintro e w1 ⟨rfl, rfl⟩)
    go_ret
    exact ⟨by rw [hu.out]; rfl, rfl⟩
  · have hm : Hid (t.tmod 250 ≠ 0) := by
      rcases Int.lt_or_le t 0 with h | h
      · rw [(q_neg1 h hd).2]; unfold Hid; omega
      · rw [(q_pos h).2]; exact hd
    have hb : (t.tmod 250 == 0) = false := by simpa using hm.out
    have hu := hid (show qUp t = t / 250 + 1 by unfold qUp; rw [if_neg hd])
    go_enter Try.func89, Try.ntmps89
    go_wp2_with (go_at_call 36; refine (lQuarter_any t _ (by omega) (by omega)).mono ?_; rintro e w1 ⟨rfl, rfl⟩)
    go_ret
    exact ⟨by rw [hu.out]; rfl, rfl⟩
/-- A sum, cut. -/
def cutN (a b : Nat) : Nat := min (a + b) 1000000000000000000
set_option maxHeartbeats 1000000 in
theorem cut_any (a b : Nat) (w : World) (h1 : a ≤ 1000000000000000000) (h2 : b ≤ 1000000000000000000) : Calls Try.prog 44 #[.int .i64 a, .int .i64 b] w fun e w' => e = .returned (.int .i64 (cutN a b : Nat)) ∧ w = w' := by
  by_cases h : a + b < 1000000000000000000
  · have hc : Hid (((cutN a b : Nat) : Int) = (a : Int) + b) := by unfold Hid cutN; omega
    have d1 : ¬ 1000000000000000000 ≤ (a : Int) := by omega
    have d2 : ¬ 1000000000000000000 ≤ (b : Int) := by omega
    have d3 : ¬ 1000000000000000000 ≤ (a : Int) + b := by omega
    go_enter Try.func44, Try.ntmps44
    go_wp2
    go_ret
    exact ⟨ret_int hc.out.symm, rfl⟩
  · have hc : Hid (cutN a b = 1000000000000000000) := by unfold Hid cutN; omega
    have d3 : 1000000000000000000 ≤ (a : Int) + b := by omega
    by_cases d1 : 1000000000000000000 ≤ (a : Int)
    · go_enter Try.func44, Try.ntmps44
      go_wp2
      go_ret
      exact ⟨by rw [hc.out]; rfl, rfl⟩
    by_cases d2 : 1000000000000000000 ≤ (b : Int)
    · go_enter Try.func44, Try.ntmps44
      go_wp2
      go_ret
      exact ⟨by rw [hc.out]; rfl, rfl⟩
    · go_enter Try.func44, Try.ntmps44
      go_wp2
      go_ret
      exact ⟨by rw [hc.out]; rfl, rfl⟩
end Go.Proofs.Ytfngmpkceceomaa
