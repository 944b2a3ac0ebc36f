/- Walks of daysBefore and of the reference's days, month by month: contracts. -/
import Derived.Test.YtmhkgpcnefcjaaaDoorDb
namespace Go.Proofs.YtmhkgpcnefcjaaaDoor
open Go.RowKit

set_option maxHeartbeats 1000000 in
theorem before_1 (y : Int) (w : World) : Calls Tryd.prog 61 #[.int .i64 y, .int .i64 1] w fun e w' => e = .returned (.int .i64 (dB y 1)) ∧ w = w' := by
  go_enter Tryd.func61, Tryd.ntmps61
  go_wp2
  go_ret
  exact ⟨ret_int (by simp [dB]), rfl⟩
set_option maxHeartbeats 1000000 in
theorem before_2 (y : Int) (w : World) : Calls Tryd.prog 61 #[.int .i64 y, .int .i64 2] w fun e w' => e = .returned (.int .i64 (dB y 2)) ∧ w = w' := by
  go_enter Tryd.func61, Tryd.ntmps61
  go_wp2
  go_ret
  exact ⟨ret_int (by simp [dB]), rfl⟩
set_option maxHeartbeats 1000000 in
theorem before_3 (y : Int) (w : World) : Calls Tryd.prog 61 #[.int .i64 y, .int .i64 3] w fun e w' => e = .returned (.int .i64 (dB y 3)) ∧ w = w' := by
  rcases lp_01 y with ⟨p1, p2⟩ | ⟨p1, p2⟩
  all_goals
    have HP := hid p1
    have HQ := hid p2
    clear p1 p2
    go_enter Tryd.func61, Tryd.ntmps61
    go_wp2_with (go_at_call 78; refine (cleap_any _ _).mono ?_; rintro e w' ⟨rfl, rfl⟩; rw [HP.out])
    go_ret
    exact ⟨ret_int (by simp [dB, HQ.out]), rfl⟩
set_option maxHeartbeats 1000000 in
theorem before_4 (y : Int) (w : World) : Calls Tryd.prog 61 #[.int .i64 y, .int .i64 4] w fun e w' => e = .returned (.int .i64 (dB y 4)) ∧ w = w' := by
  rcases lp_01 y with ⟨p1, p2⟩ | ⟨p1, p2⟩
  all_goals
    have HP := hid p1
    have HQ := hid p2
    clear p1 p2
    go_enter Tryd.func61, Tryd.ntmps61
    go_wp2_with (go_at_call 78; refine (cleap_any _ _).mono ?_; rintro e w' ⟨rfl, rfl⟩; rw [HP.out])
    go_ret
    exact ⟨ret_int (by simp [dB, HQ.out]), rfl⟩
set_option maxHeartbeats 1000000 in
theorem before_5 (y : Int) (w : World) : Calls Tryd.prog 61 #[.int .i64 y, .int .i64 5] w fun e w' => e = .returned (.int .i64 (dB y 5)) ∧ w = w' := by
  rcases lp_01 y with ⟨p1, p2⟩ | ⟨p1, p2⟩
  all_goals
    have HP := hid p1
    have HQ := hid p2
    clear p1 p2
    go_enter Tryd.func61, Tryd.ntmps61
    go_wp2_with (go_at_call 78; refine (cleap_any _ _).mono ?_; rintro e w' ⟨rfl, rfl⟩; rw [HP.out])
    go_ret
    exact ⟨ret_int (by simp [dB, HQ.out]), rfl⟩
set_option maxHeartbeats 1000000 in
theorem before_6 (y : Int) (w : World) : Calls Tryd.prog 61 #[.int .i64 y, .int .i64 6] w fun e w' => e = .returned (.int .i64 (dB y 6)) ∧ w = w' := by
  rcases lp_01 y with ⟨p1, p2⟩ | ⟨p1, p2⟩
  all_goals
    have HP := hid p1
    have HQ := hid p2
    clear p1 p2
    go_enter Tryd.func61, Tryd.ntmps61
    go_wp2_with (go_at_call 78; refine (cleap_any _ _).mono ?_; rintro e w' ⟨rfl, rfl⟩; rw [HP.out])
    go_ret
    exact ⟨ret_int (by simp [dB, HQ.out]), rfl⟩
set_option maxHeartbeats 1000000 in
theorem before_7 (y : Int) (w : World) : Calls Tryd.prog 61 #[.int .i64 y, .int .i64 7] w fun e w' => e = .returned (.int .i64 (dB y 7)) ∧ w = w' := by
  rcases lp_01 y with ⟨p1, p2⟩ | ⟨p1, p2⟩
  all_goals
    have HP := hid p1
    have HQ := hid p2
    clear p1 p2
    go_enter Tryd.func61, Tryd.ntmps61
    go_wp2_with (go_at_call 78; refine (cleap_any _ _).mono ?_; rintro e w' ⟨rfl, rfl⟩; rw [HP.out])
    go_ret
    exact ⟨ret_int (by simp [dB, HQ.out]), rfl⟩
set_option maxHeartbeats 1000000 in
theorem before_8 (y : Int) (w : World) : Calls Tryd.prog 61 #[.int .i64 y, .int .i64 8] w fun e w' => e = .returned (.int .i64 (dB y 8)) ∧ w = w' := by
  rcases lp_01 y with ⟨p1, p2⟩ | ⟨p1, p2⟩
  all_goals
    have HP := hid p1
    have HQ := hid p2
    clear p1 p2
    go_enter Tryd.func61, Tryd.ntmps61
    go_wp2_with (go_at_call 78; refine (cleap_any _ _).mono ?_; rintro e w' ⟨rfl, rfl⟩; rw [HP.out])
    go_ret
    exact ⟨ret_int (by simp [dB, HQ.out]), rfl⟩
set_option maxHeartbeats 1000000 in
theorem before_9 (y : Int) (w : World) : Calls Tryd.prog 61 #[.int .i64 y, .int .i64 9] w fun e w' => e = .returned (.int .i64 (dB y 9)) ∧ w = w' := by
  rcases lp_01 y with ⟨p1, p2⟩ | ⟨p1, p2⟩
  all_goals
    have HP := hid p1
    have HQ := hid p2
    clear p1 p2
    go_enter Tryd.func61, Tryd.ntmps61
    go_wp2_with (go_at_call 78; refine (cleap_any _ _).mono ?_; rintro e w' ⟨rfl, rfl⟩; rw [HP.out])
    go_ret
    exact ⟨ret_int (by simp [dB, HQ.out]), rfl⟩
set_option maxHeartbeats 1000000 in
theorem before_10 (y : Int) (w : World) : Calls Tryd.prog 61 #[.int .i64 y, .int .i64 10] w fun e w' => e = .returned (.int .i64 (dB y 10)) ∧ w = w' := by
  rcases lp_01 y with ⟨p1, p2⟩ | ⟨p1, p2⟩
  all_goals
    have HP := hid p1
    have HQ := hid p2
    clear p1 p2
    go_enter Tryd.func61, Tryd.ntmps61
    go_wp2_with (go_at_call 78; refine (cleap_any _ _).mono ?_; rintro e w' ⟨rfl, rfl⟩; rw [HP.out])
    go_ret
    exact ⟨ret_int (by simp [dB, HQ.out]), rfl⟩
set_option maxHeartbeats 1000000 in
theorem before_11 (y : Int) (w : World) : Calls Tryd.prog 61 #[.int .i64 y, .int .i64 11] w fun e w' => e = .returned (.int .i64 (dB y 11)) ∧ w = w' := by
  rcases lp_01 y with ⟨p1, p2⟩ | ⟨p1, p2⟩
  all_goals
    have HP := hid p1
    have HQ := hid p2
    clear p1 p2
    go_enter Tryd.func61, Tryd.ntmps61
    go_wp2_with (go_at_call 78; refine (cleap_any _ _).mono ?_; rintro e w' ⟨rfl, rfl⟩; rw [HP.out])
    go_ret
    exact ⟨ret_int (by simp [dB, HQ.out]), rfl⟩
set_option maxHeartbeats 1000000 in
theorem before_12 (y : Int) (w : World) : Calls Tryd.prog 61 #[.int .i64 y, .int .i64 12] w fun e w' => e = .returned (.int .i64 (dB y 12)) ∧ w = w' := by
  rcases lp_01 y with ⟨p1, p2⟩ | ⟨p1, p2⟩
  all_goals
    have HP := hid p1
    have HQ := hid p2
    clear p1 p2
    go_enter Tryd.func61, Tryd.ntmps61
    go_wp2_with (go_at_call 78; refine (cleap_any _ _).mono ?_; rintro e w' ⟨rfl, rfl⟩; rw [HP.out])
    go_ret
    exact ⟨ret_int (by simp [dB, HQ.out]), rfl⟩
set_option maxHeartbeats 1000000 in
theorem before_13 (y : Int) (w : World) : Calls Tryd.prog 61 #[.int .i64 y, .int .i64 13] w fun e w' => e = .returned (.int .i64 (dB y 13)) ∧ w = w' := by
  rcases lp_01 y with ⟨p1, p2⟩ | ⟨p1, p2⟩
  all_goals
    have HP := hid p1
    have HQ := hid p2
    clear p1 p2
    go_enter Tryd.func61, Tryd.ntmps61
    go_wp2_with (go_at_call 78; refine (cleap_any _ _).mono ?_; rintro e w' ⟨rfl, rfl⟩; rw [HP.out])
    go_ret
    exact ⟨ret_int (by simp [dB, HQ.out]), rfl⟩
theorem before_any (y m : Int) (w : World) (h1 : 1 ≤ m) (h2 : m ≤ 13) : Calls Tryd.prog 61 #[.int .i64 y, .int .i64 m] w fun e w' => e = .returned (.int .i64 (dB y m)) ∧ w = w' := by
  have : m = 1 ∨ m = 2 ∨ m = 3 ∨ m = 4 ∨ m = 5 ∨ m = 6 ∨ m = 7 ∨ m = 8 ∨ m = 9 ∨ m = 10 ∨ m = 11 ∨ m = 12 ∨ m = 13 := by omega
  rcases this with rfl | rfl | rfl | rfl | rfl | rfl | rfl | rfl | rfl | rfl | rfl | rfl | rfl
  · exact before_1 y w
  · exact before_2 y w
  · exact before_3 y w
  · exact before_4 y w
  · exact before_5 y w
  · exact before_6 y w
  · exact before_7 y w
  · exact before_8 y w
  · exact before_9 y w
  · exact before_10 y w
  · exact before_11 y w
  · exact before_12 y w
  · exact before_13 y w
set_option maxHeartbeats 1000000 in
theorem days_1 (y : Int) (w : World) : Calls Tryd.prog 97 #[.int .i64 y, .int .i64 1] w fun e w' => e = .returned (.int .i64 (mlen y 1)) ∧ w = w' := by
  go_enter Tryd.func97, Tryd.ntmps97
  go_wp2
  go_ret
  exact ⟨ret_int (by simp [mlen]), rfl⟩
set_option maxHeartbeats 1000000 in
theorem days_2 (y : Int) (w : World) : Calls Tryd.prog 97 #[.int .i64 y, .int .i64 2] w fun e w' => e = .returned (.int .i64 (mlen y 2)) ∧ w = w' := by
  cases hp : leapB y
  all_goals
    have HP := hid hp
    clear hp
    go_enter Tryd.func97, Tryd.ntmps97
    go_wp2_with (go_at_call 109; refine (xleap_any _ _).mono ?_; rintro e w' ⟨rfl, rfl⟩; rw [HP.out])
    go_ret
    exact ⟨ret_int (by simp [mlen, HP.out]), rfl⟩
set_option maxHeartbeats 1000000 in
theorem days_3 (y : Int) (w : World) : Calls Tryd.prog 97 #[.int .i64 y, .int .i64 3] w fun e w' => e = .returned (.int .i64 (mlen y 3)) ∧ w = w' := by
  go_enter Tryd.func97, Tryd.ntmps97
  go_wp2
  go_ret
  exact ⟨ret_int (by simp [mlen]), rfl⟩
set_option maxHeartbeats 1000000 in
theorem days_4 (y : Int) (w : World) : Calls Tryd.prog 97 #[.int .i64 y, .int .i64 4] w fun e w' => e = .returned (.int .i64 (mlen y 4)) ∧ w = w' := by
  go_enter Tryd.func97, Tryd.ntmps97
  go_wp2
  go_ret
  exact ⟨ret_int (by simp [mlen]), rfl⟩
set_option maxHeartbeats 1000000 in
theorem days_5 (y : Int) (w : World) : Calls Tryd.prog 97 #[.int .i64 y, .int .i64 5] w fun e w' => e = .returned (.int .i64 (mlen y 5)) ∧ w = w' := by
  go_enter Tryd.func97, Tryd.ntmps97
  go_wp2
  go_ret
  exact ⟨ret_int (by simp [mlen]), rfl⟩
set_option maxHeartbeats 1000000 in
theorem days_6 (y : Int) (w : World) : Calls Tryd.prog 97 #[.int .i64 y, .int .i64 6] w fun e w' => e = .returned (.int .i64 (mlen y 6)) ∧ w = w' := by
  go_enter Tryd.func97, Tryd.ntmps97
  go_wp2
  go_ret
  exact ⟨ret_int (by simp [mlen]), rfl⟩
set_option maxHeartbeats 1000000 in
theorem days_7 (y : Int) (w : World) : Calls Tryd.prog 97 #[.int .i64 y, .int .i64 7] w fun e w' => e = .returned (.int .i64 (mlen y 7)) ∧ w = w' := by
  go_enter Tryd.func97, Tryd.ntmps97
  go_wp2
  go_ret
  exact ⟨ret_int (by simp [mlen]), rfl⟩
set_option maxHeartbeats 1000000 in
theorem days_8 (y : Int) (w : World) : Calls Tryd.prog 97 #[.int .i64 y, .int .i64 8] w fun e w' => e = .returned (.int .i64 (mlen y 8)) ∧ w = w' := by
  go_enter Tryd.func97, Tryd.ntmps97
  go_wp2
  go_ret
  exact ⟨ret_int (by simp [mlen]), rfl⟩
set_option maxHeartbeats 1000000 in
theorem days_9 (y : Int) (w : World) : Calls Tryd.prog 97 #[.int .i64 y, .int .i64 9] w fun e w' => e = .returned (.int .i64 (mlen y 9)) ∧ w = w' := by
  go_enter Tryd.func97, Tryd.ntmps97
  go_wp2
  go_ret
  exact ⟨ret_int (by simp [mlen]), rfl⟩
set_option maxHeartbeats 1000000 in
theorem days_10 (y : Int) (w : World) : Calls Tryd.prog 97 #[.int .i64 y, .int .i64 10] w fun e w' => e = .returned (.int .i64 (mlen y 10)) ∧ w = w' := by
  go_enter Tryd.func97, Tryd.ntmps97
  go_wp2
  go_ret
  exact ⟨ret_int (by simp [mlen]), rfl⟩
set_option maxHeartbeats 1000000 in
theorem days_11 (y : Int) (w : World) : Calls Tryd.prog 97 #[.int .i64 y, .int .i64 11] w fun e w' => e = .returned (.int .i64 (mlen y 11)) ∧ w = w' := by
  go_enter Tryd.func97, Tryd.ntmps97
  go_wp2
  go_ret
  exact ⟨ret_int (by simp [mlen]), rfl⟩
set_option maxHeartbeats 1000000 in
theorem days_12 (y : Int) (w : World) : Calls Tryd.prog 97 #[.int .i64 y, .int .i64 12] w fun e w' => e = .returned (.int .i64 (mlen y 12)) ∧ w = w' := by
  go_enter Tryd.func97, Tryd.ntmps97
  go_wp2
  go_ret
  exact ⟨ret_int (by simp [mlen]), rfl⟩
theorem days_any (y m : Int) (w : World) (h1 : 1 ≤ m) (h2 : m ≤ 12) : Calls Tryd.prog 97 #[.int .i64 y, .int .i64 m] w fun e w' => e = .returned (.int .i64 (mlen y m)) ∧ w = w' := by
  have : m = 1 ∨ m = 2 ∨ m = 3 ∨ m = 4 ∨ m = 5 ∨ m = 6 ∨ m = 7 ∨ m = 8 ∨ m = 9 ∨ m = 10 ∨ m = 11 ∨ m = 12 := by omega
  rcases this with rfl | rfl | rfl | rfl | rfl | rfl | rfl | rfl | rfl | rfl | rfl | rfl
  · exact days_1 y w
  · exact days_2 y w
  · exact days_3 y w
  · exact days_4 y w
  · exact days_5 y w
  · exact days_6 y w
  · exact days_7 y w
  · exact days_8 y w
  · exact days_9 y w
  · exact days_10 y w
  · exact days_11 y w
  · exact days_12 y w
end Go.Proofs.YtmhkgpcnefcjaaaDoor
