/- Plain lemmas on whole roots of powers of ten: shifts by decades, whole exponents, growth, when a root is exact. No Go in sight. -/
import Derived.Test.YtfngmpkceceomaaPm
namespace Go.Proofs.Ytfngmpkceceomaa.Pm

theorem root_shift (e z k : Nat) (hz : 1 ≤ z) : rootN (e + k * z) z / 10 ^ k = rootN e z := by
  have h := rootN_is (e + k * z) z hz
  generalize rootN (e + k * z) z = N at h ⊢
  obtain ⟨h1, h2⟩ := h
  have hp : 0 < 10 ^ k := Nat.pow_pos (by decide)
  symm
  refine rootN_eq hz ⟨?_, ?_⟩
  · have a : (N / 10 ^ k * 10 ^ k) ^ z ≤ 10 ^ (e + k * z) := Nat.le_trans (Nat.pow_le_pow_left (Nat.div_mul_le_self _ _) _) h1
    rw [Nat.mul_pow, ← Nat.pow_mul, Nat.pow_add] at a
    exact Nat.le_of_mul_le_mul_right a (Nat.pow_pos (by decide))
  · have a : N + 1 ≤ (N / 10 ^ k + 1) * 10 ^ k := by
      have := Nat.div_add_mod N (10 ^ k)
      have := Nat.mod_lt N hp
      rw [Nat.add_mul, Nat.mul_comm]; omega
    have b := Nat.lt_of_lt_of_le h2 (Nat.pow_le_pow_left a z)
    rw [Nat.mul_pow, ← Nat.pow_mul, Nat.pow_add] at b
    exact Nat.lt_of_mul_lt_mul_right b

theorem root_whole (q z : Nat) (hz : 1 ≤ z) : rootN (q * z) z = 10 ^ q := by
  refine rootN_eq hz ⟨?_, ?_⟩
  · rw [← Nat.pow_mul]; exact Nat.le_refl _
  · rw [Nat.pow_mul]
    exact Nat.pow_lt_pow_left (Nat.lt_succ_self _) (by omega)

theorem root_mono {e e' z : Nat} (hz : 1 ≤ z) (h : e ≤ e') : rootN e z ≤ rootN e' z := by
  have h1 := rootN_is e z hz
  have h2 := rootN_is e' z hz
  rcases Nat.lt_or_ge (rootN e' z) (rootN e z) with h3 | h3
  · have a := Nat.pow_le_pow_left (show rootN e' z + 1 ≤ rootN e z from h3) z
    have b : 10 ^ e ≤ 10 ^ e' := Nat.pow_le_pow_right (by decide) h
    have := h1.1; have := h2.2
    omega
  · exact h3

theorem odd_pow {m : Nat} (h : m % 2 = 1) (k : Nat) : m ^ k % 2 = 1 := by
  induction k with
  | zero => rfl
  | succ k ih => rw [Nat.pow_succ, Nat.mul_mod, ih, h]
theorem two_part {a b m n : Nat} (hm : m % 2 = 1) (hn : n % 2 = 1) (h : 2 ^ a * m = 2 ^ b * n) : a = b := by
  induction a generalizing b with
  | zero =>
    cases b with
    | zero => rfl
    | succ b => rw [Nat.pow_succ, Nat.pow_zero, Nat.one_mul, Nat.mul_comm (2 ^ b) 2, Nat.mul_assoc] at h; omega
  | succ a ih =>
    cases b with
    | zero => rw [Nat.pow_succ, Nat.pow_zero, Nat.one_mul, Nat.mul_comm (2 ^ a) 2, Nat.mul_assoc] at h; omega
    | succ b =>
      rw [Nat.pow_succ, Nat.pow_succ, Nat.mul_comm (2 ^ a) 2, Nat.mul_comm (2 ^ b) 2, Nat.mul_assoc, Nat.mul_assoc] at h
      rw [ih (Nat.eq_of_mul_eq_mul_left (by decide) h)]
theorem two_split (n : Nat) (h : 0 < n) : ∃ a m, n = 2 ^ a * m ∧ m % 2 = 1 := by
  induction n using Nat.strongRecOn with
  | ind n ih =>
    rcases Nat.mod_two_eq_zero_or_one n with h2 | h2
    · obtain ⟨a, m, h3, h4⟩ := ih (n / 2) (by omega) (by omega)
      exact ⟨a + 1, m, by rw [Nat.pow_succ, Nat.mul_comm (2 ^ a) 2, Nat.mul_assoc, ← h3]; omega, h4⟩
    · exact ⟨0, n, by simp, h2⟩
/-- A power of ten is a z-th power only if z divides its exponent. -/
theorem exact_dvd {n z e : Nat} (h : n ^ z = 10 ^ e) : ∃ a, e = a * z := by
  have hn : 0 < n ∨ z = 0 := by
    rcases Nat.eq_zero_or_pos n with rfl | hn
    · right
      rcases Nat.eq_zero_or_pos z with hz | hz
      · exact hz
      · rw [Nat.zero_pow hz] at h
        have : 0 < 10 ^ e := Nat.pow_pos (by decide)
        omega
    · exact .inl hn
  rcases hn with hn | rfl
  · obtain ⟨a, m, rfl, hm⟩ := two_split n hn
    rw [Nat.mul_pow, ← Nat.pow_mul, show (10 : Nat) = 2 * 5 from rfl, Nat.mul_pow] at h
    exact ⟨a, (two_part (odd_pow hm z) (odd_pow (by decide) e) h).symm⟩
  · refine ⟨0, ?_⟩
    rw [Nat.pow_zero] at h
    rcases Nat.eq_zero_or_pos e with he | he
    · simp [he]
    · have : 10 ^ 1 ≤ 10 ^ e := Nat.pow_le_pow_right (by decide) he
      omega
theorem root_exact (e z : Nat) (hz : 1 ≤ z) : rootN e z ^ z = 10 ^ e ↔ e % z = 0 := by
  constructor
  · intro h
    obtain ⟨a, rfl⟩ := exact_dvd h
    exact Nat.mul_mod_left a z
  · intro h
    obtain ⟨q, rfl⟩ : ∃ q, e = q * z := ⟨e / z, by rw [Nat.mul_comm]; exact (Nat.mul_div_cancel' (Nat.dvd_of_mod_eq_zero h)).symm⟩
    rw [root_whole q z hz, ← Nat.pow_mul]
theorem root_le16 (e z : Nat) (hz : 1 ≤ z) (he : e ≤ 16 * z) : rootN e z ≤ 10000000000000000 := by
  have := root_mono hz he
  rw [root_whole 16 z hz] at this
  exact this
theorem root_pos (e z : Nat) (hz : 1 ≤ z) : 1 ≤ rootN e z := Nat.le_trans (Nat.pow_pos (by decide)) (root_bd e z hz).1

/-- The exponent of 10 (times z) in the rate, the rate down and up. -/
def expo (r z t : Int) : Int := 6 * z + min (t - r) (10 * z)
def rateD (r z t : Int) : Nat := if expo r z t < 0 then 0 else rootN (expo r z t).toNat z.toNat
def rateU (r z t : Int) : Nat := if expo r z t < 0 then 1 else if (expo r z t).toNat % z.toNat = 0 then rootN (expo r z t).toNat z.toNat else rootN (expo r z t).toNat z.toNat + 1
theorem expo_le (r z t : Int) : expo r z t ≤ 16 * z := by unfold expo; omega
theorem rateD_neg {r z t : Int} (h : expo r z t < 0) : rateD r z t = 0 := by unfold rateD; rw [if_pos h]
theorem rateD_pos {r z t : Int} (h : ¬ expo r z t < 0) : rateD r z t = rootN (expo r z t).toNat z.toNat := by unfold rateD; rw [if_neg h]
theorem rateD_le (r z t : Int) (hz : 1 ≤ z) : rateD r z t ≤ 10000000000000000 := by
  unfold rateD
  split
  · omega
  · have := expo_le r z t
    exact root_le16 _ _ (by omega) (by omega)
theorem rateU_eq (r z t : Int) : rateU r z t = if 0 ≤ expo r z t ∧ (expo r z t).toNat % z.toNat = 0 then rateD r z t else rateD r z t + 1 := by
  unfold rateU rateD
  by_cases h : expo r z t < 0
  · rw [if_pos h, if_pos h, if_neg (by omega)]
  · rw [if_neg h, if_neg h]
    by_cases h2 : (expo r z t).toNat % z.toNat = 0
    · rw [if_pos h2, if_pos ⟨by omega, h2⟩]
    · rw [if_neg h2, if_neg (by omega)]
/-- The rate out of the decade below the cut. -/
theorem rateD_digits {r z t : Int} (hz : 1 ≤ z) (h : ¬ expo r z t < 0) (hp : (expo r z t).toNat % z.toNat ≠ 0) :
    (expo r z t).toNat / z.toNat ≤ 15 ∧ rateD r z t = rootN (15 * z.toNat + (expo r z t).toNat % z.toNat) z.toNat / 10 ^ (15 - (expo r z t).toNat / z.toNat) := by
  have hle := expo_le r z t
  rw [rateD_pos h]
  have hZ : 1 ≤ z.toNat := by omega
  have hE : (expo r z t).toNat ≤ 16 * z.toNat := by omega
  generalize (expo r z t).toNat = E at *
  generalize z.toNat = Z at *
  have hdm := Nat.div_add_mod E Z
  have hq : E / Z ≤ 15 := by
    rcases Nat.lt_or_ge 15 (E / Z) with h16 | h16
    · have : Z * 16 ≤ Z * (E / Z) := Nat.mul_le_mul_left _ h16
      omega
    · exact h16
  refine ⟨hq, ?_⟩
  rw [← root_shift E Z (15 - E / Z) hZ]
  congr 2
  have : (15 - E / Z) * Z + Z * (E / Z) = 15 * Z := by
    rw [Nat.mul_comm Z, ← Nat.add_mul]; congr 1; omega
  omega
theorem rateD_whole {r z t : Int} (hz : 1 ≤ z) (h : ¬ expo r z t < 0) (hp : (expo r z t).toNat % z.toNat = 0) : rateD r z t = 10 ^ ((expo r z t).toNat / z.toNat) := by
  rw [rateD_pos h]
  conv => lhs; rw [← Nat.div_add_mod (expo r z t).toNat z.toNat, hp, Nat.add_zero, Nat.mul_comm]
  exact root_whole _ _ (by omega)
theorem rateD_mono {r z t u : Int} (hz : 1 ≤ z) (h : t ≤ u) : rateD r z t ≤ rateD r z u := by
  have he : expo r z t ≤ expo r z u := by unfold expo; omega
  by_cases h1 : expo r z t < 0
  · rw [rateD_neg h1]; exact Nat.zero_le _
  · rw [rateD_pos h1, rateD_pos (by omega)]
    exact root_mono (by omega) (by omega)
end Go.Proofs.Ytfngmpkceceomaa.Pm
