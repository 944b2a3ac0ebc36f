/- Walk of the reference's Least: contracts. -/
import Derived.Test.YtfcngnoelmlakaaLs
import Derived.Test.YtfcngnoelmlakaaWe
namespace Go.Proofs.Ytfcngnoelmlakaa
open Go.RowKit Go.Lib Go.Maps

def qInB (q : Int) : Bool := decide (0 ≤ q) && decide (q ≤ 10000000000000000)
/-- Where the reference looks. -/
structure Rl (r : Int) (Z : Nat) (q lo hi : Int) : Prop where
  bl : -1001 ≤ lo
  bh : hi ≤ 2001
  lt : lo < hi
  low : lo = -1001 ∨ ((Pm.rateD r Z lo : Nat) : Int) < q
  high : hi = 2001 ∨ q ≤ (Pm.rateD r Z hi : Nat)
theorem Rl.start (r : Int) (Z : Nat) (q : Int) : Rl r Z q (-1001) 2001 := ⟨by omega, by omega, by omega, .inl rfl, .inl rfl⟩
theorem Rl.done {r : Int} {Z : Nat} {q lo hi : Int} (h : Rl r Z q lo hi) (hr : r ≤ 800) (hz1 : 1 ≤ Z) (hz2 : Z ≤ 60) (hq : q ≤ 10000000000000000) (he : hi = lo + 1) : IsLeast r Z q hi := by
  have h1 := h.bl; have h2 := h.bh; have h0 := h.lt
  have htop : hi ≤ 2000 := by
    rcases h.low with h3 | h3
    · omega
    · have := Pm.rateD_mono (r := r) (z := Z) (t := 2000) (u := lo) (by omega)
      rcases Int.lt_or_le lo 2000 with h4 | h4
      · omega
      · have h5 := this h4
        rw [rate_top hr hz1 hz2] at h5
        omega
  refine ⟨by omega, htop, ?_, ?_⟩
  · rcases h.high with h3 | h3
    · omega
    · exact h3
  · rcases h.low with h3 | h3
    · exact .inl (by omega)
    · exact .inr (by rw [show hi - 1 = lo by omega]; exact h3)

set_option maxHeartbeats 2000000 in
theorem rLeast_inv (s : ByteArray) (r z d g : Int) (w : World) (hs : s.size ≤ maxLen) (q : Int) (hv : validB s.data.toList r z d g = false) :
    Calls Try.prog 52 #[.agg #[.string s, .int .i64 r, .int .i64 z, .int .i64 d, .int .i64 g], .int .i64 q] w fun e w' => e = .returned (.tuple #[.int .i64 0, .int .i64 1]) ∧ Below w.heap.size w w' := by
  go_enter Try.func52, Try.ntmps52
  go_wp2_with (first | (go_at_call 18; refine (rvalid_any _ _ _ _ _ _ hs).mono ?_; rintro e w1 ⟨rfl, hb⟩; obtain ⟨b0, b1, b2, b3, b4, hz, hB⟩ := box5_below hb; clear hb) | (go_at_call 58; refine (rwithin_any _ _ _ _).mono ?_; rintro e w1 ⟨rfl, rfl⟩))
  go_ret2
  exact ⟨rfl, hB⟩
set_option maxHeartbeats 2000000 in
theorem rLeast_out (s : ByteArray) (r z d g : Int) (w : World) (hs : s.size ≤ maxLen) (q : Int) (hv : validB s.data.toList r z d g = true) (hq : (decide (0 ≤ q) && decide (q ≤ 10000000000000000)) = false) :
    Calls Try.prog 52 #[.agg #[.string s, .int .i64 r, .int .i64 z, .int .i64 d, .int .i64 g], .int .i64 q] w fun e w' => e = .returned (.tuple #[.int .i64 0, .int .i64 7]) ∧ Below w.heap.size w w' := by
  go_enter Try.func52, Try.ntmps52
  go_wp2_with (first | (go_at_call 18; refine (rvalid_any _ _ _ _ _ _ hs).mono ?_; rintro e w1 ⟨rfl, hb⟩; obtain ⟨b0, b1, b2, b3, b4, hz, hB⟩ := box5_below hb; clear hb) | (go_at_call 58; refine (rwithin_any _ _ _ _).mono ?_; rintro e w1 ⟨rfl, rfl⟩))
  go_ret2
  exact ⟨rfl, hB⟩

set_option maxHeartbeats 4000000 in
theorem rLeast_yes (s : ByteArray) (r d g q : Int) (Z : Nat) (w : World) (hs : s.size ≤ maxLen) (hv : validB s.data.toList r Z d g = true) (hq : (decide (0 ≤ q) && decide (q ≤ 10000000000000000)) = true) :
    Calls Try.prog 52 #[.agg #[.string s, .int .i64 r, .int .i64 Z, .int .i64 d, .int .i64 g], .int .i64 q] w fun e w' => (∃ T, e = .returned (.tuple #[.int .i64 T, .int .i64 0]) ∧ IsLeast r Z q T) ∧ Below w.heap.size w w' := by
  obtain ⟨_, ⟨r1, r2⟩, ⟨z1, z2⟩, _, _⟩ := validB_iff.1 hv
  have hq' : 0 ≤ q ∧ q ≤ 10000000000000000 := by simpa using hq
  obtain ⟨q1, q2⟩ := hq'
  go_enter Try.func52, Try.ntmps52
  go_wp2_with (first | (go_at_call 18; refine (rvalid_any _ _ _ _ _ _ hs).mono ?_; rintro e w1 ⟨rfl, hb⟩; obtain ⟨b0, b1, b2, b3, b4, hz, hB⟩ := box5_below hb; clear hb) | (go_at_call 58; refine (rwithin_any _ _ _ _).mono ?_; rintro e w1 ⟨rfl, rfl⟩))
  have HK := hid (And.intro b0 (And.intro b1 (And.intro b2 (And.intro b3 (And.intro b4 (And.intro hz hB))))))
  clear b0 b1 b2 b3 b4 hz hB
  go_loopw [6, 7] (fun a b wr => ∃ lo hi : Int, a = .int .i64 lo ∧ b = .int .i64 hi ∧ Hid (Rl r Z q lo hi) ∧ Hid (wr.cell? ⟨w.heap.size, 0, none⟩ = some (.string s) ∧ wr.cell? ⟨w.heap.size, 1, none⟩ = some (.int .i64 r) ∧ wr.cell? ⟨w.heap.size, 2, none⟩ = some (.int .i64 Z) ∧ wr.cell? ⟨w.heap.size, 3, none⟩ = some (.int .i64 d) ∧ wr.cell? ⟨w.heap.size, 4, none⟩ = some (.int .i64 g) ∧ w.heap.size < wr.heap.size ∧ Below w.heap.size w wr)) (fun a b _ => (intOf b - intOf a).toNat)
  case atStart => exact ⟨-1001, 2001, rfl, rfl, Rl.start r Z q, HK⟩
  case round =>
    obtain ⟨lo, hi, rfl, rfl, hR, hK⟩ := hrel
    have l1 := hR.out.bl
    have l2 := hR.out.bh
    have l3 := hR.out.lt
    obtain ⟨b0, b1, b2, b3, b4, hz, hB⟩ := hK.out
    by_cases hgt : 1 < hi - lo
    · obtain ⟨m, hm⟩ : ∃ m, m = (lo + hi + 4000) / 2 - 2000 := ⟨_, rfl⟩
      have HM := hid hm.symm
      have m1 : lo < m := by omega
      have m2 : m < hi := by omega
      clear hm
      by_cases hle : q ≤ (Pm.rateD r Z m : Nat)
      · have hb' := hid (decide_eq_true hle)
        have hst : Hid (Rl r Z q lo m) := ⟨l1, by omega, m1, hR.out.low, .inr hle⟩
        obtain ⟨x, hx⟩ : ∃ x, x = Pm.rateD r Z m := ⟨_, rfl⟩
        rw [← hx] at hle
        have HX := hid hx
        clear hx
        go_wp2_with (go_at_call 66; rw [HM.out]; refine (rrates_any _ _ _ _ m Z _ r1 r2 (by omega) (by omega) (by omega) (by omega)).mono ?_; rintro e w2 ⟨rfl, hb⟩; rw [← HX.out])
        go_roundw
        case rel => exact ⟨lo, m, rfl, by first | rfl | rw [HM.out], hst, kbox_keep hb hK.out⟩
        case measure => simp [intOf]; omega
      · have hst : Hid (Rl r Z q m hi) := ⟨by omega, l2, m2, .inr (by omega), hR.out.high⟩
        obtain ⟨x, hx⟩ : ∃ x, x = Pm.rateD r Z m := ⟨_, rfl⟩
        rw [← hx] at hle
        have HX := hid hx
        clear hx
        go_wp2_with (go_at_call 66; rw [HM.out]; refine (rrates_any _ _ _ _ m Z _ r1 r2 (by omega) (by omega) (by omega) (by omega)).mono ?_; rintro e w2 ⟨rfl, hb⟩; rw [← HX.out])
        go_roundw
        case rel => exact ⟨m, hi, by first | rfl | rw [HM.out], rfl, hst, kbox_keep hb hK.out⟩
        case measure => simp [intOf]; omega
    · have hL := hid (hR.out.done r2 (by omega) (by omega) q2 (by omega))
      have hh := hL.out.hi
      go_wp2
      go_ret2
      exact ⟨⟨hi, rfl, hL.out⟩, hB⟩
end Go.Proofs.Ytfcngnoelmlakaa
