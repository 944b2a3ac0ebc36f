/- Walks of heat's small tests of a can, and of the reference's: contracts. -/
import Derived.Test.YtpkcnojcklmhmaaRows
import Derived.Test.YtpkcnojcklmhmaaHp
import Derived.Test.YtpkcnojcklmhmaaGt
import Derived.WalkKit
import Derived.WalkSpells
import Derived.WalkLawsBesides
import Derived.BigQuiet
namespace Go.Proofs.Ytpkcnojcklmhmaa
open Go.RowKit

set_option maxHeartbeats 400000 in
theorem within_any (a b c : Int) (w : World) :
    Calls Try.prog 56 #[.int .i64 a, .int .i64 b, .int .i64 c] w fun e w' => e = .returned (.bool (decide (b ≤ a) && decide (a ≤ c))) ∧ w = w' := by
  by_cases h : b ≤ a
  · have hd : decide (b ≤ a) = true := by simpa using h
    go_enter Try.func56, Try.ntmps56
    go_wp2
    go_ret
    exact ⟨by simp [h], rfl⟩
  · have hd : decide (b ≤ a) = false := by simpa using h
    go_enter Try.func56, Try.ntmps56
    go_wp2
    go_ret
    exact ⟨by simp, rfl⟩
set_option maxHeartbeats 400000 in
theorem rwithin_any (a b c : Int) (w : World) :
    Calls Try.prog 59 #[.int .i64 a, .int .i64 b, .int .i64 c] w fun e w' => e = .returned (.bool (decide (b ≤ a) && decide (a ≤ c))) ∧ w = w' := by
  by_cases h : b ≤ a
  · have hd : decide (b ≤ a) = true := by simpa using h
    go_enter Try.func59, Try.ntmps59
    go_wp2
    go_ret
    exact ⟨by simp [h], rfl⟩
  · have hd : decide (b ≤ a) = false := by simpa using h
    go_enter Try.func59, Try.ntmps59
    go_wp2
    go_ret
    exact ⟨by simp, rfl⟩
set_option maxHeartbeats 400000 in
theorem warm_any (a : Int) (w : World) :
    Calls Try.prog 63 #[.int .i64 a] w fun e w' => e = .returned (.bool (decide (-50000 ≤ a) && decide (a ≤ 200000))) ∧ w = w' := by
  go_enter Try.func63, Try.ntmps63
  go_wp2_with (go_at_call 59; refine (rwithin_any _ _ _ _).mono ?_; rintro e w' ⟨rfl, rfl⟩)
  go_ret
  exact ⟨rfl, rfl⟩
theorem con_no1 {a b : Int} (h : (decide (0 ≤ a) && decide (a ≤ 500)) = false) : conB a b = false := by unfold conB; rw [h]; rfl
theorem con_no2 {a b : Int} (h : (decide (0 ≤ b) && decide (b ≤ 500)) = false) : conB a b = false := by unfold conB; rw [h]; simp
theorem con_yes {a b : Int} (h : (decide (0 ≤ a) && decide (a ≤ 500)) = true) (g : (decide (0 ≤ b) && decide (b ≤ 500)) = true) : conB a b = (decide (1 ≤ a + b) && decide (a + b ≤ 500)) := by unfold conB; rw [h, g]; rfl
set_option maxHeartbeats 1000000 in
theorem conducts_any (a b : Int) (w : World) :
    Calls Try.prog 109 #[.int .i64 a, .int .i64 b] w fun e w' => e = .returned (.bool (conB a b)) ∧ w = w' := by
  cases h1 : (decide (0 ≤ a) && decide (a ≤ 500))
  · have hc := hid (con_no1 (b := b) h1)
    go_enter Try.func109, Try.ntmps109
    go_wp2_with (go_at_call 56; refine (within_any _ _ _ _).mono ?_; rintro e w' ⟨rfl, rfl⟩)
    go_ret
    exact ⟨ret_bool hc.out.symm, rfl⟩
  cases h2 : (decide (0 ≤ b) && decide (b ≤ 500))
  · have hc := hid (con_no2 (a := a) h2)
    go_enter Try.func109, Try.ntmps109
    go_wp2_with (go_at_call 56; refine (within_any _ _ _ _).mono ?_; rintro e w' ⟨rfl, rfl⟩)
    go_ret
    exact ⟨ret_bool hc.out.symm, rfl⟩
  have hc := hid (con_yes h1 h2)
  have ha : 0 ≤ a ∧ a ≤ 500 := by simpa using h1
  have hb : 0 ≤ b ∧ b ≤ 500 := by simpa using h2
  obtain ⟨a1, a2⟩ := ha
  obtain ⟨b1, b2⟩ := hb
  go_enter Try.func109, Try.ntmps109
  go_wp2_with (go_at_call 56; refine (within_any _ _ _ _).mono ?_; rintro e w' ⟨rfl, rfl⟩)
  go_ret
  exact ⟨ret_bool hc.out.symm, rfl⟩
set_option maxHeartbeats 1000000 in
theorem rconducts_any (a b : Int) (w : World) :
    Calls Try.prog 111 #[.int .i64 a, .int .i64 b] w fun e w' => e = .returned (.bool (conB a b)) ∧ w = w' := by
  cases h1 : (decide (0 ≤ a) && decide (a ≤ 500))
  · have hc := hid (con_no1 (b := b) h1)
    go_enter Try.func111, Try.ntmps111
    go_wp2_with (go_at_call 59; refine (rwithin_any _ _ _ _).mono ?_; rintro e w' ⟨rfl, rfl⟩)
    go_ret
    exact ⟨ret_bool hc.out.symm, rfl⟩
  cases h2 : (decide (0 ≤ b) && decide (b ≤ 500))
  · have hc := hid (con_no2 (a := a) h2)
    go_enter Try.func111, Try.ntmps111
    go_wp2_with (go_at_call 59; refine (rwithin_any _ _ _ _).mono ?_; rintro e w' ⟨rfl, rfl⟩)
    go_ret
    exact ⟨ret_bool hc.out.symm, rfl⟩
  have hc := hid (con_yes h1 h2)
  have ha : 0 ≤ a ∧ a ≤ 500 := by simpa using h1
  have hb : 0 ≤ b ∧ b ≤ 500 := by simpa using h2
  obtain ⟨a1, a2⟩ := ha
  obtain ⟨b1, b2⟩ := hb
  go_enter Try.func111, Try.ntmps111
  go_wp2_with (go_at_call 59; refine (rwithin_any _ _ _ _).mono ?_; rintro e w' ⟨rfl, rfl⟩)
  go_ret
  exact ⟨ret_bool hc.out.symm, rfl⟩

theorem brk_zero (a b : Int) : brkB 0 a b = (decide (a = 0) && decide (b = 0)) := rfl
theorem brk_some {k a b : Int} (h : k ≠ 0) : brkB k a b = ((decide (1 ≤ k) && decide (k ≤ 200000)) && conB a b) := by unfold brkB; rw [if_neg h]
theorem beq_dec (a : Int) : (a == 0) = decide (a = 0) := by by_cases h : a = 0 <;> simp [h]
set_option maxHeartbeats 1000000 in
theorem vbreak_any (r l a b k a2 b2 : Int) (w : World) : Calls Try.prog 110 #[.agg #[.int .i64 r, .int .i64 l, .int .i64 a, .int .i64 b, .int .i64 k, .int .i64 a2, .int .i64 b2]] w fun e w' => e = .returned (.bool (brkB k a2 b2)) ∧ Below w.heap.size w w' := by
  by_cases hk : k = 0
  · subst hk
    have hc := hid (brk_zero a2 b2)
    cases h1 : (a2 == 0)
    · rw [beq_dec] at h1
      have hc' := hid (show brkB 0 a2 b2 = false by rw [brk_zero, h1]; rfl)
      have h1' : (a2 == 0) = false := by rw [beq_dec]; exact h1
      go_enter Try.func110, Try.ntmps110
      go_wp2
      go_ret
      exact ⟨ret_bool hc'.out.symm, (Below.refl _ _).alloc (Nat.le_refl _) _⟩
    · have h2 := hid (show brkB 0 a2 b2 = (b2 == 0) by rw [brk_zero, ← beq_dec, ← beq_dec, h1]; rfl)
      go_enter Try.func110, Try.ntmps110
      go_wp2
      go_ret
      exact ⟨ret_bool h2.out.symm, (Below.refl _ _).alloc (Nat.le_refl _) _⟩
  · have hc := hid (brk_some (a := a2) (b := b2) hk)
    have hk' : (k == 0) = false := by simpa using hk
    cases h1 : (decide (1 ≤ k) && decide (k ≤ 200000))
    · go_enter Try.func110, Try.ntmps110
      go_wp2_with (first | (go_at_call 56; refine (within_any _ _ _ _).mono ?_; rintro e w' ⟨rfl, rfl⟩) | (go_at_call 109; refine (conducts_any _ _ _).mono ?_; rintro e w' ⟨rfl, rfl⟩))
      go_ret
      exact ⟨ret_bool (by rw [hc.out, h1]; rfl), (Below.refl _ _).alloc (Nat.le_refl _) _⟩
    · go_enter Try.func110, Try.ntmps110
      go_wp2_with (first | (go_at_call 56; refine (within_any _ _ _ _).mono ?_; rintro e w' ⟨rfl, rfl⟩) | (go_at_call 109; refine (conducts_any _ _ _).mono ?_; rintro e w' ⟨rfl, rfl⟩))
      go_ret
      exact ⟨ret_bool (by rw [hc.out, h1]; rfl), (Below.refl _ _).alloc (Nat.le_refl _) _⟩

theorem can_eq (r l a b k a2 b2 : Int) : canB r l a b k a2 b2 = ((decide (1 ≤ r) && decide (r ≤ 6)) && ((decide (1 ≤ l) && decide (l ≤ 8)) && (conB a b && brkB k a2 b2))) := rfl
theorem four (a b c d : Bool) : a = false ∨ (a = true ∧ b = false) ∨ (a = true ∧ b = true ∧ c = false) ∨ (a = true ∧ b = true ∧ c = true) := by
  cases a <;> cases b <;> cases c <;> simp
set_option maxHeartbeats 2000000 in
theorem vcan_any (r l a b k a2 b2 : Int) (w : World) : Calls Try.prog 89 #[.agg #[.int .i64 r, .int .i64 l, .int .i64 a, .int .i64 b, .int .i64 k, .int .i64 a2, .int .i64 b2]] w fun e w' => e = .returned (.bool (canB r l a b k a2 b2)) ∧ Below w.heap.size w w' := by
  have hc := hid (can_eq r l a b k a2 b2)
  rcases four (decide (1 ≤ r) && decide (r ≤ 6)) (decide (1 ≤ l) && decide (l ≤ 8)) (conB a b) true with h1 | ⟨h1, h2⟩ | ⟨h1, h2, h3⟩ | ⟨h1, h2, h3⟩
  all_goals
    go_enter Try.func89, Try.ntmps89
    go_wp2_with (first | (go_at_call 56; refine (within_any _ _ _ _).mono ?_; rintro e w' ⟨rfl, rfl⟩) | (go_at_call 109; refine (conducts_any _ _ _).mono ?_; rintro e w' ⟨rfl, rfl⟩) | (go_at_call 110; refine (vbreak_any _ _ _ _ _ _ _ _).mono ?_; rintro e w' ⟨rfl, hb⟩))
    go_ret
    exact ⟨ret_bool (by rw [hc.out]; simp only [Bool.false_and, Bool.true_and, *]), by first | exact (Below.refl _ _).alloc (Nat.le_refl _) _ | exact balloc hb⟩
set_option maxHeartbeats 2000000 in
theorem rvcan_any (r l a b k a2 b2 : Int) (w : World) : Calls Try.prog 90 #[.agg #[.int .i64 r, .int .i64 l, .int .i64 a, .int .i64 b, .int .i64 k, .int .i64 a2, .int .i64 b2]] w fun e w' => e = .returned (.bool (canB r l a b k a2 b2)) ∧ Below w.heap.size w w' := by
  have hc := hid (can_eq r l a b k a2 b2)
  rcases four (decide (1 ≤ r) && decide (r ≤ 6)) (decide (1 ≤ l) && decide (l ≤ 8)) (conB a b) true with h1 | ⟨h1, h2⟩ | ⟨h1, h2, h3⟩ | ⟨h1, h2, h3⟩
  all_goals skip
  rotate_left 3
  · by_cases hk : k = 0
    · subst hk
      have hz := hid (brk_zero a2 b2)
      by_cases ha2 : a2 = 0
      · subst ha2
        by_cases hb2 : b2 = 0
        · subst hb2
          go_enter Try.func90, Try.ntmps90
          go_wp2_with (first | (go_at_call 59; refine (rwithin_any _ _ _ _).mono ?_; rintro e w' ⟨rfl, rfl⟩) | (go_at_call 111; refine (rconducts_any _ _ _).mono ?_; rintro e w' ⟨rfl, rfl⟩))
          go_ret
          exact ⟨ret_bool (by rw [hc.out, h1, h2, h3]; rfl), (Below.refl _ _).alloc (Nat.le_refl _) _⟩
        · have hb2' : (b2 == 0) = false := by simpa using hb2
          have hz' := hid (show brkB 0 0 b2 = false by rw [brk_zero, ← beq_dec b2, hb2']; rfl)
          go_enter Try.func90, Try.ntmps90
          go_wp2_with (first | (go_at_call 59; refine (rwithin_any _ _ _ _).mono ?_; rintro e w' ⟨rfl, rfl⟩) | (go_at_call 111; refine (rconducts_any _ _ _).mono ?_; rintro e w' ⟨rfl, rfl⟩))
          go_ret
          exact ⟨ret_bool (by rw [hc.out, h1, h2, h3, hz'.out]; rfl), (Below.refl _ _).alloc (Nat.le_refl _) _⟩
      · have ha2' : (a2 == 0) = false := by simpa using ha2
        have hz' := hid (show brkB 0 a2 b2 = false by rw [brk_zero, ← beq_dec a2, ha2']; rfl)
        go_enter Try.func90, Try.ntmps90
        go_wp2_with (first | (go_at_call 59; refine (rwithin_any _ _ _ _).mono ?_; rintro e w' ⟨rfl, rfl⟩) | (go_at_call 111; refine (rconducts_any _ _ _).mono ?_; rintro e w' ⟨rfl, rfl⟩))
        go_ret
        exact ⟨ret_bool (by rw [hc.out, h1, h2, h3, hz'.out]; rfl), (Below.refl _ _).alloc (Nat.le_refl _) _⟩
    · have hk' : (k == 0) = false := by simpa using hk
      have hz := hid (brk_some (a := a2) (b := b2) hk)
      cases h4 : (decide (1 ≤ k) && decide (k ≤ 200000))
      all_goals
        go_enter Try.func90, Try.ntmps90
        go_wp2_with (first | (go_at_call 59; refine (rwithin_any _ _ _ _).mono ?_; rintro e w' ⟨rfl, rfl⟩) | (go_at_call 111; refine (rconducts_any _ _ _).mono ?_; rintro e w' ⟨rfl, rfl⟩))
        go_ret
        exact ⟨ret_bool (by rw [hc.out, h1, h2, h3, hz.out, h4]; rfl), (Below.refl _ _).alloc (Nat.le_refl _) _⟩
  all_goals
    go_enter Try.func90, Try.ntmps90
    go_wp2_with (first | (go_at_call 59; refine (rwithin_any _ _ _ _).mono ?_; rintro e w' ⟨rfl, rfl⟩) | (go_at_call 111; refine (rconducts_any _ _ _).mono ?_; rintro e w' ⟨rfl, rfl⟩))
    go_ret
    exact ⟨ret_bool (by rw [hc.out]; simp only [Bool.false_and, Bool.true_and, *]), (Below.refl _ _).alloc (Nat.le_refl _) _⟩
end Go.Proofs.Ytpkcnojcklmhmaa
