/- Plain math of days and dates. -/
import Derived.Test.YtmhkgpcnefcjaaaDoorGt
namespace Go.Proofs.YtmhkgpcnefcjaaaDoor

def inB (a b c : Int) : Bool := decide (b ≤ a) && decide (a ≤ c)
theorem inB_iff {a b c : Int} : inB a b c = true ↔ b ≤ a ∧ a ≤ c := by unfold inB; simp
def leapB (y : Int) : Bool := decide (y % 4 = 0) && (!decide (y % 100 = 0) || decide (y % 400 = 0))
def mlen (y m : Int) : Int := if m = 2 then (if leapB y then 29 else 28) else if m = 4 ∨ m = 6 ∨ m = 9 ∨ m = 11 then 30 else 31
def ylen (y : Int) : Int := if leapB y then 366 else 365
/-- The first day of a year. -/
def soY (y : Int) : Int := 365 * (y - 2000) + ((y - 2000 + 3) / 4 - (y - 2000 + 99) / 100 + (y - 2000 + 399) / 400)
def lp (y : Int) : Int := if leapB y then 1 else 0
/-- The days of a year before a month. -/
def dB (y m : Int) : Int :=
  if m ≤ 1 then 0 else if m = 2 then 31 else (if m = 3 then 59 else if m = 4 then 90 else if m = 5 then 120 else if m = 6 then 151 else if m = 7 then 181 else if m = 8 then 212 else if m = 9 then 243 else if m = 10 then 273 else if m = 11 then 304 else if m = 12 then 334 else 365) + lp y
theorem lp_01 (y : Int) : (leapB y = true ∧ lp y = 1) ∨ (leapB y = false ∧ lp y = 0) := by
  unfold lp; cases leapB y <;> simp
theorem leapB_iff (y : Int) : leapB y = true ↔ (y % 4 = 0 ∧ (¬ y % 100 = 0 ∨ y % 400 = 0)) := by
  unfold leapB; simp
theorem soY_succ {y : Int} (_h : 2000 ≤ y) : soY (y + 1) = soY y + ylen y := by
  have h := leapB_iff y
  unfold soY ylen
  cases hl : leapB y
  · rw [hl] at h
    simp only [Bool.false_eq_true, false_iff] at h
    simp only [Bool.false_eq_true, if_false]
    omega
  · rw [hl] at h
    simp only [true_iff] at h
    simp only [if_true]
    omega
theorem ylen_lp (y : Int) : ylen y = 365 + lp y := by
  unfold ylen lp; split <;> rfl
theorem dB_succ {y m : Int} (h : 1 ≤ m) (h2 : m ≤ 12) : dB y (m + 1) = dB y m + mlen y m := by
  have : m = 1 ∨ m = 2 ∨ m = 3 ∨ m = 4 ∨ m = 5 ∨ m = 6 ∨ m = 7 ∨ m = 8 ∨ m = 9 ∨ m = 10 ∨ m = 11 ∨ m = 12 := by omega
  rcases lp_01 y with ⟨p1, p2⟩ | ⟨p1, p2⟩ <;> rcases this with rfl | rfl | rfl | rfl | rfl | rfl | rfl | rfl | rfl | rfl | rfl | rfl <;> simp [dB, mlen, p1, p2]
theorem mlen_pos (y m : Int) : 28 ≤ mlen y m ∧ mlen y m ≤ 31 := by
  unfold mlen; repeat' split
  all_goals omega
theorem dB_13 (y : Int) : dB y 13 = ylen y := by
  rw [ylen_lp]; simp [dB]
theorem dB_1 (y : Int) : dB y 1 = 0 := by simp [dB]
theorem soY_mono {y z : Int} (_h : 2000 ≤ y) (hz : y < z) : soY y + 365 ≤ soY z := by
  unfold soY; omega
theorem dB_mono {y m n : Int} (h : 1 ≤ m) (hn : m < n) (h13 : n ≤ 13) : dB y m + 28 ≤ dB y n := by
  obtain ⟨k, hk⟩ : ∃ k : Nat, n = m + 1 + k := ⟨(n - m - 1).toNat, by omega⟩
  subst hk
  induction k with
  | zero => have := dB_succ (y := y) h (by omega : m ≤ 12); have := mlen_pos y m; simp; omega
  | succ k ih =>
    have h1 := ih (by omega) (by omega)
    have h2 := dB_succ (y := y) (m := m + 1 + k) (by omega) (by omega)
    have h3 := mlen_pos y (m + 1 + k)
    have e : m + 1 + ((k + 1 : Nat) : Int) = m + 1 + k + 1 := by omega
    rw [e]; omega
theorem soY_2000 : soY 2000 = 0 := by decide
theorem soY_2200 : soY 2200 = 73049 := by decide
/-- The date of a day. -/
def IsYear (n y : Int) : Prop := 2000 ≤ y ∧ y ≤ 2199 ∧ soY y ≤ n ∧ n < soY (y + 1)
theorem IsYear.uniq {n y z : Int} (h : IsYear n y) (g : IsYear n z) : y = z := by
  obtain ⟨a1, a2, a3, a4⟩ := h
  obtain ⟨b1, b2, b3, b4⟩ := g
  rcases Int.lt_trichotomy y z with h | h | h
  · by_cases e : y + 1 = z
    · subst e; omega
    · have := soY_mono (y := y + 1) (z := z) (by omega) (by omega); omega
  · exact h
  · by_cases e : z + 1 = y
    · subst e; omega
    · have := soY_mono (y := z + 1) (z := y) (by omega) (by omega); omega
def IsDate (n y m d : Int) : Prop := IsYear n y ∧ 1 ≤ m ∧ m ≤ 12 ∧ 1 ≤ d ∧ d ≤ mlen y m ∧ n = soY y + dB y m + d - 1
theorem IsDate.uniq {n y m d z k e : Int} (h : IsDate n y m d) (g : IsDate n z k e) : y = z ∧ m = k ∧ d = e := by
  obtain ⟨hy, a1, a2, a3, a4, a5⟩ := h
  obtain ⟨hz, b1, b2, b3, b4, b5⟩ := g
  have e1 := hy.uniq hz
  subst e1
  have s1 := dB_succ (y := y) a1 a2
  have s2 := dB_succ (y := y) b1 b2
  rcases Int.lt_trichotomy m k with h | h | h
  · by_cases e : m + 1 = k
    · subst e; omega
    · have := dB_mono (y := y) (m := m + 1) (n := k) (by omega) (by omega) (by omega); omega
  · subst h; exact ⟨rfl, rfl, by omega⟩
  · by_cases e : k + 1 = m
    · subst e; omega
    · have := dB_mono (y := y) (m := k + 1) (n := m) (by omega) (by omega) (by omega); omega
def dateB (y m d : Int) : Bool := decide (2000 ≤ y ∧ y ≤ 2199) && decide (1 ≤ m ∧ m ≤ 12) && decide (1 ≤ d ∧ d ≤ mlen y m)
def dayN (y m d : Int) : Int := soY y + dB y m + d - 1
theorem dayN_lt {y m d : Int} (hy : 2000 ≤ y) (h : 1 ≤ m ∧ m ≤ 12) (hd : 1 ≤ d ∧ d ≤ mlen y m) : soY y ≤ dayN y m d ∧ dayN y m d < soY (y + 1) := by
  have h1 := dB_succ (y := y) h.1 h.2
  have h2 := soY_succ hy
  have h3 : 0 ≤ dB y m := by
    by_cases e : m = 1
    · subst e; simp [dB]
    · have := dB_mono (y := y) (m := 1) (n := m) (by omega) (by omega) (by omega); rw [dB_1] at this; omega
  have h4 : dB y (m + 1) ≤ dB y 13 := by
    by_cases e : m = 12
    · subst e; exact Int.le_refl _
    · have := dB_mono (y := y) (m := m + 1) (n := 13) (by omega) (by omega) (by omega); omega
  rw [dB_13] at h4
  unfold dayN; omega
theorem soY_day {y : Int} (h1 : 2000 ≤ y) (h2 : y ≤ 2199) : 0 ≤ soY y ∧ soY y < 73049 := by
  unfold soY; omega
end Go.Proofs.YtmhkgpcnefcjaaaDoor
