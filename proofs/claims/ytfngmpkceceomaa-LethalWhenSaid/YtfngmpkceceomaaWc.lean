/- Walks of the reference's Power and root: contracts. -/
import Derived.Test.YtfngmpkceceomaaWb
namespace Go.Proofs.Ytfngmpkceceomaa
open Go.RowKit Go.Lib

theorem Wh.base {w : World} {B B' : Nat} {v : Value} {x : Nat} (h : Wh w B v x) (hB : B' ≤ B) : Wh w B' v x := by
  obtain ⟨l, ⟨h1, h2⟩, h3⟩ := h
  refine ⟨l, ⟨h1, ?_⟩, h3⟩
  rcases h2 with h2 | ⟨g, cap, cur, hv, hg, r⟩
  · exact .inl h2
  · exact .inr ⟨g, cap, cur, hv, Nat.le_trans hB hg, r⟩
theorem WhP.after {x : Nat} {w w1 w' : World} {e : Ending} (hB : Below w.heap.size w w1) (h : WhP x w1 e w') : WhP x w e w' := by
  obtain ⟨v, he, hv, hb⟩ := h
  exact ⟨v, he, hv.base hB.size, hB.trans (hb.mono hB.size)⟩

/-- x and all its powers up to n are small enough to be reckoned. -/
def PowOk (x n : Nat) : Prop := ∀ m, m ≤ n → x ^ m < 1000000 ^ 1000
theorem PowOk.le {x n m : Nat} (h : PowOk x n) (hm : m ≤ n) : PowOk x m := fun k hk => h k (Nat.le_trans hk hm)
theorem PowOk.of {x n : Nat} (hx : 1 ≤ x) (h : x ^ n < 1000000 ^ 1000) : PowOk x n := fun m hm => Nat.lt_of_le_of_lt (Nat.pow_le_pow_right hx hm) h
attribute [irreducible] PowOk
theorem PowOk.at' {x n m : Nat} (h : PowOk x n) (hm : m ≤ n) : x ^ m < 1000000 ^ 1000 := by unfold PowOk at h; exact h m hm

theorem PowOk.self {x n : Nat} (h : PowOk x n) (hm : 1 ≤ n) : x < 1000000 ^ 1000 := by have := h.at' hm; rwa [Nat.pow_one] at this

theorem wpower_zero (va : Value) (x : Nat) (w : World) : Calls Try.prog 24 #[va, .int .i64 0] w (WhP (x ^ 0) w) := by
  go_enter Try.func24, Try.ntmps24
  go_wp2_with (go_at_call 25; refine (of_any 1 _ (by decide)).mono ?_; rintro e w1 ⟨v1, rfl, h1, hb1⟩)
  go_ret
  exact ⟨v1, rfl, h1, hb1⟩

set_option maxHeartbeats 1000000 in
theorem wpower_any (k : Nat) : ∀ (n : Nat) (va : Value) (x : Nat) (w : World), n ≤ k → n ≤ 100000 → WhR w va x → PowOk x n → Calls Try.prog 24 #[va, .int .i64 n] w (WhP (x ^ n) w) := by
  induction k with
  | zero =>
    intro n va x w hk _ _ _
    obtain rfl : n = 0 := by omega
    exact wpower_zero va x w
  | succ k ih =>
    intro n va x w hk hn ra hok
    by_cases h0 : n = 0
    · subst h0; exact wpower_zero va x w
    have IH := hid ih; clear ih
    have RA := hid ra; clear ra
    have OK := hid hok; clear hok
    have hb0 : ((n : Int) == 0) = false := by simp; omega
    by_cases h2 : n % 2 = 1
    · obtain ⟨m, rfl⟩ : ∃ m, n = m + 1 := ⟨n - 1, by omega⟩
      have hb1 : (((m + 1 : Nat) : Int) % 2 == 1) = true := by simp; omega
      have hb1' : (((m : Int) + 1) % 2 == 1) = true := by simp; omega
      have hb0' : (((m : Int) + 1) == 0) = false := by simp; omega
      clear h2
      go_enter Try.func24, Try.ntmps24
      go_wp2_with (first
        | (go_at_call 24; refine (IH.out m va x _ (by omega) (by omega) RA.out (OK.out.le (by omega))).mono ?_; rintro e w1 ⟨v1, rfl, h1, hb1⟩; have H1 := hid h1; clear h1)
        | (go_at_call 35; refine (wtimes_any _ _ x (x ^ m) _ (RA.out.keep hb1) H1.out.reads (OK.out.self (by omega)) (OK.out.at' (by omega))).mono ?_; rintro e w2 ⟨v2, rfl, h2, hb2⟩))
      go_ret
      refine WhP.after hb1 ⟨v2, rfl, ?_, hb2⟩
      rw [Nat.pow_succ, Nat.mul_comm]; exact h2
    · obtain ⟨m, rfl⟩ : ∃ m, n = 2 * m := ⟨n / 2, by omega⟩
      have hb1 : (((2 * m : Nat) : Int) % 2 == 1) = false := by simp
      have hb1' : ((2 * (m : Int)) % 2 == 1) = false := by simp
      have HH : Hid ((2 * (m : Int)) / 2 = m) := by unfold Hid; omega
      have HH' : Hid (((2 * m : Nat) : Int) / 2 = m) := by unfold Hid; omega
      clear h2
      go_enter Try.func24, Try.ntmps24
      go_wp2_with (first
        | (go_at_call 24; (first | rw [HH.out] | rw [HH'.out] | skip); refine (IH.out m va x _ (by omega) (by omega) RA.out (OK.out.le (by omega))).mono ?_; rintro e w1 ⟨v1, rfl, h1, hb1⟩; have H1 := hid h1; clear h1)
        | (go_at_call 35; refine (wtimes_any _ _ (x ^ m) (x ^ m) _ H1.out.reads H1.out.reads (OK.out.at' (by omega)) (OK.out.at' (by omega))).mono ?_; rintro e w2 ⟨v2, rfl, h2, hb2⟩))
      go_ret
      refine WhP.after hb1 ⟨v2, rfl, ?_, hb2⟩
      rw [Nat.two_mul, Nat.pow_add]; exact h2
end Go.Proofs.Ytfngmpkceceomaa
