/- Walks of within, Leap, startOf, daysBefore and of the reference's days and year: contracts. -/
import Derived.Test.YtmhkgpcnefcjaaaDoorDa
import Derived.ProofKit
import Derived.OpenShut
import Derived.Deep.RegionHeld3
import Derived.Laws.OwnMore
namespace Go.Proofs.YtmhkgpcnefcjaaaDoor
open Go.RowKit

set_option maxHeartbeats 400000 in
theorem cwithin_any (a b c : Int) (w : World) :
    Calls Tryd.prog 56 #[.int .i64 a, .int .i64 b, .int .i64 c] w fun e w' => e = .returned (.bool (inB a b c)) ∧ w = w' := by
  by_cases h : b ≤ a
  · have hd : decide (b ≤ a) = true := by simpa using h
    go_enter Tryd.func56, Tryd.ntmps56
    go_wp2
    go_ret
    exact ⟨ret_bool (by unfold inB; rw [hd]; rfl), rfl⟩
  · have hd : decide (b ≤ a) = false := by simpa using h
    go_enter Tryd.func56, Tryd.ntmps56
    go_wp2
    go_ret
    exact ⟨ret_bool (by unfold inB; rw [hd]; rfl), rfl⟩
set_option maxHeartbeats 400000 in
theorem xwithin_any (a b c : Int) (w : World) :
    Calls Tryd.prog 52 #[.int .i64 a, .int .i64 b, .int .i64 c] w fun e w' => e = .returned (.bool (inB a b c)) ∧ w = w' := by
  by_cases h : b ≤ a
  · have hd : decide (b ≤ a) = true := by simpa using h
    go_enter Tryd.func52, Tryd.ntmps52
    go_wp2
    go_ret
    exact ⟨ret_bool (by unfold inB; rw [hd]; rfl), rfl⟩
  · have hd : decide (b ≤ a) = false := by simpa using h
    go_enter Tryd.func52, Tryd.ntmps52
    go_wp2
    go_ret
    exact ⟨ret_bool (by unfold inB; rw [hd]; rfl), rfl⟩
theorem tmod_0 (y k : Int) : (y.tmod k == 0) = decide (y % k = 0) := by
  have h1 : y.tmod k = 0 ↔ y % k = 0 := by
    rw [← Int.dvd_iff_tmod_eq_zero, Int.dvd_iff_emod_eq_zero]
  by_cases h : y % k = 0
  · simp [h1.2 h, h]
  · have : ¬ y.tmod k = 0 := fun g => h (h1.1 g)
    simp [this, h]
theorem leap_t (y : Int) : leapB y = ((y.tmod 4 == 0) && ((y.tmod 100 != 0) || (y.tmod 400 == 0))) := by
  unfold leapB bne
  rw [tmod_0, tmod_0, tmod_0]
set_option maxHeartbeats 1000000 in
theorem cleap_any (y : Int) (w : World) : Calls Tryd.prog 78 #[.int .i64 y] w fun e w' => e = .returned (.bool (leapB y)) ∧ w = w' := by
  have HL := hid (leap_t y)
  cases h1 : (y.tmod 4 == 0) <;> cases h2 : (y.tmod 100 != 0) <;> cases h3 : (y.tmod 400 == 0)
  all_goals
    have H1 := hid h1
    have H2 := hid h2
    have H3 := hid h3
    go_enter Tryd.func78, Tryd.ntmps78
    go_wp2
    go_ret
    exact ⟨ret_bool (by rw [HL.out, H1.out, H2.out, H3.out]; rfl), rfl⟩
theorem leap_x (y : Int) : leapB y = (if (y.tmod 100 == 0) = true then (y.tmod 400 == 0) else (y.tmod 4 == 0)) := by
  rw [tmod_0, tmod_0, tmod_0]
  have h := leapB_iff y
  by_cases h1 : y % 100 = 0
  · have h4 : y % 4 = 0 := by omega
    by_cases h2 : y % 400 = 0
    · simp [h1, h2]; exact h.2 ⟨h4, .inr h2⟩
    · simp [h1, h2]; rw [Bool.eq_false_iff]; intro g; have := h.1 g; omega
  · by_cases h2 : y % 4 = 0
    · simp [h1, h2]; exact h.2 ⟨h2, .inl h1⟩
    · simp [h1, h2]; rw [Bool.eq_false_iff]; intro g; have := h.1 g; omega
set_option maxHeartbeats 1000000 in
theorem xleap_any (y : Int) (w : World) : Calls Tryd.prog 109 #[.int .i64 y] w fun e w' => e = .returned (.bool (leapB y)) ∧ w = w' := by
  have HL := hid (leap_x y)
  cases h1 : (y.tmod 4 == 0) <;> cases h2 : (y.tmod 100 == 0) <;> cases h3 : (y.tmod 400 == 0)
  all_goals
    have H1 := hid h1
    have H2 := hid h2
    have H3 := hid h3
    go_enter Tryd.func109, Tryd.ntmps109
    go_wp2
    go_ret
    exact ⟨ret_bool (by rw [HL.out, H1.out, H2.out, H3.out]; rfl), rfl⟩
set_option maxHeartbeats 1000000 in
theorem start_any (y : Int) (w : World) (h1 : 2000 ≤ y) (h2 : y ≤ 2200) : Calls Tryd.prog 77 #[.int .i64 y] w fun e w' => e = .returned (.int .i64 (soY y)) ∧ w = w' := by
  have e1 : (y - 2000 + 3).tdiv 4 = (y - 2000 + 3) / 4 := Int.tdiv_eq_ediv_of_nonneg (by omega)
  have e2 : (y - 2000 + 99).tdiv 100 = (y - 2000 + 99) / 100 := Int.tdiv_eq_ediv_of_nonneg (by omega)
  have e3 : (y - 2000 + 399).tdiv 400 = (y - 2000 + 399) / 400 := Int.tdiv_eq_ediv_of_nonneg (by omega)
  go_enter Tryd.func77, Tryd.ntmps77
  go_wp2
  go_ret
  exact ⟨rfl, rfl⟩
set_option maxHeartbeats 1000000 in
theorem year_any (y : Int) (w : World) : Calls Tryd.prog 96 #[.int .i64 y] w fun e w' => e = .returned (.int .i64 (ylen y)) ∧ w = w' := by
  cases hp : leapB y
  all_goals
    have HP := hid hp
    clear hp
    go_enter Tryd.func96, Tryd.ntmps96
    go_wp2_with (go_at_call 109; refine (xleap_any _ _).mono ?_; rintro e w' ⟨rfl, rfl⟩; rw [HP.out])
    go_ret
    exact ⟨ret_int (by simp [ylen, HP.out]), rfl⟩
set_option maxHeartbeats 400000 in
theorem isday_any (n : Int) (w : World) : Calls Tryd.prog 58 #[.int .i64 n] w fun e w' => e = .returned (.bool (inB n 0 73048)) ∧ w = w' := by
  go_enter Tryd.func58, Tryd.ntmps58
  go_wp2_with (go_at_call 56; refine (cwithin_any _ _ _ _).mono ?_; rintro e w' ⟨rfl, rfl⟩)
  go_ret
  exact ⟨rfl, rfl⟩
set_option maxHeartbeats 400000 in
theorem xday_any (n : Int) (w : World) : Calls Tryd.prog 76 #[.int .i64 n] w fun e w' => e = .returned (.bool (inB n 0 73048)) ∧ w = w' := by
  go_enter Tryd.func76, Tryd.ntmps76
  go_wp2_with (go_at_call 52; refine (xwithin_any _ _ _ _).mono ?_; rintro e w' ⟨rfl, rfl⟩)
  go_ret
  exact ⟨rfl, rfl⟩
end Go.Proofs.YtmhkgpcnefcjaaaDoor
