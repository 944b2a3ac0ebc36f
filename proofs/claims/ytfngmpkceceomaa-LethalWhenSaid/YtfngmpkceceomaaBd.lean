/- Walks of sort.Search over the root's test, and root, Root of package lethal: contracts. -/
import Derived.Test.YtfngmpkceceomaaBc
namespace Go.Proofs.Ytfngmpkceceomaa
open Go.RowKit Go.Lib

/-- What sort.Search finds, whatever the test. -/
def Found (n : Nat) (p : Nat → Bool) (r : Nat) : Prop := r ≤ n ∧ (r = 0 ∨ p (r - 1) = false) ∧ (r = n ∨ p r = true)
def SearchP (n : Nat) (p : Nat → Bool) (S : World → Prop) (e : Ending) (w' : World) : Prop := ∃ r : Nat, e = .returned (.int .i64 r) ∧ Found n p r ∧ S w'
structure Span (n : Nat) (p : Nat → Bool) (i j : Nat) : Prop where
  le : i ≤ j
  top : j ≤ n
  low : i = 0 ∨ p (i - 1) = false
  high : j = n ∨ p j = true
theorem Span.up {n : Nat} {p : Nat → Bool} {i j h : Nat} (s : Span n p i j) (h2 : h < j) (hp : p h = false) : Span n p (h + 1) j := ⟨h2, s.top, .inr hp, s.high⟩
theorem Span.down {n : Nat} {p : Nat → Bool} {i j h : Nat} (s : Span n p i j) (h1 : i ≤ h) (h2 : h < j) (hp : p h = true) : Span n p i h := ⟨h1, by have := s.top; omega, s.low, .inr hp⟩

set_option maxHeartbeats 1000000 in
theorem search_root (n : Nat) (p : Nat → Bool) (S : World → Prop) (c1 c2 c3 : Value) (w : World) (hn : n ≤ 4000000000000000000) (hS : S w)
    (hcall : ∀ (m : Nat) (wr : World), m < n → S wr → Calls Try.prog 83 #[.int .i64 m, c1, c2, c3] wr fun e w' => e = .returned (.bool (p m)) ∧ S w') :
    Calls Try.prog 78 #[.int .i64 n, .func (.func 83) #[] #[c1, c2, c3]] w (SearchP n p S) := by
  have HC := hid hcall; clear hcall
  have HS := hid hS; clear hS
  go_enter Try.func78, Try.ntmps78
  go_wp2
  go_loopw [5, 6] (fun a b wr => ∃ i j : Nat, a = .int .i64 i ∧ b = .int .i64 j ∧ Hid (Span n p i j) ∧ Hid (S wr)) (fun a b _ => (intOf b - intOf a).toNat)
  case atStart => exact ⟨0, n, rfl, rfl, ⟨Nat.zero_le _, Nat.le_refl _, .inl rfl, .inl rfl⟩, HS⟩
  case round =>
    obtain ⟨i, j, rfl, rfl, hs, hS⟩ := hrel
    have hij := hs.out.le
    have hjn := hs.out.top
    by_cases hlt : i < j
    · obtain ⟨m, hm⟩ : ∃ m, m = (i + j) / 2 := ⟨_, rfl⟩
      have hm1 : i ≤ m := by omega
      have hm2 : m < j := by omega
      have HM : Hid (((i : Int) + j) / 2 = (m : Int)) := by unfold Hid; omega
      clear hm
      cases hp : p m
      · have HP := hid hp
        go_wp2_with (go_at_call 83; rw [HM.out]; refine (HC.out m _ (by omega) hS.out).mono ?_; rintro e w2 ⟨rfl, hS2⟩)
        go_roundw
        case rel => exact ⟨m + 1, j, by go_num, rfl, hs.out.up hm2 HP.out, hS2⟩
        case measure => simp [intOf]; omega
      · have HP := hid hp
        go_wp2_with (go_at_call 83; rw [HM.out]; refine (HC.out m _ (by omega) hS.out).mono ?_; rintro e w2 ⟨rfl, hS2⟩)
        go_roundw
        case rel => exact ⟨i, m, rfl, rfl, hs.out.down hm1 hm2 HP.out, hS2⟩
        case measure => simp [intOf]; omega
    · obtain rfl : i = j := by omega
      go_wp2
      go_ret
      exact ⟨i, rfl, ⟨hs.out.top, hs.out.low, hs.out.high⟩, hS.out⟩
end Go.Proofs.Ytfngmpkceceomaa
