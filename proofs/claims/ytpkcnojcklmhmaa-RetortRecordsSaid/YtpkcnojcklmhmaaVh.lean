/- Walks of the reference's validStep, of ValidProgram of both: contracts. -/
import Derived.Test.YtpkcnojcklmhmaaVg
namespace Go.Proofs.Ytpkcnojcklmhmaa
open Go.RowKit

theorem stepB_no {k s n : Int} (h : inB s 0 200000 = false) : stepB ⟨k, s, n⟩ = false := by rw [stepB_eq, h, Bool.and_false]; rfl
theorem stepB_1 {s n : Int} (h : inB s 0 200000 = true) : stepB ⟨1, s, n⟩ = inB n 0 2000 := by rw [stepB_eq, h]; rfl
theorem stepB_2 {s n : Int} (h : inB s 0 200000 = true) : stepB ⟨2, s, n⟩ = (n == 0) := by
  rw [stepB_eq, h, (loK_at 2).2.1 rfl |>.1, (loK_at 2).2.1 rfl |>.2]
  show inB n 0 0 = _
  rw [Bool.eq_iff_iff, inB_iff]
  simp only [beq_iff_eq]
  omega
theorem stepB_3 {s n : Int} (h : inB s 0 200000 = true) : stepB ⟨3, s, n⟩ = inB n 1 2000 := by rw [stepB_eq, h]; rfl
theorem stepB_4 {s n : Int} (h : inB s 0 200000 = true) : stepB ⟨4, s, n⟩ = inB n 1 2000 := by rw [stepB_eq, h]; rfl
theorem stepB_5 {k s n : Int} (h : inB k 1 4 = false) : stepB ⟨k, s, n⟩ = false := by rw [stepB_eq, h]; rfl
set_option maxHeartbeats 4000000 in
theorem xstep_any (k s n : Int) (w : World) : Calls Try.prog 121 #[.agg #[.int .i64 k, .int .i64 s, .int .i64 n]] w fun e w' => e = .returned (.bool (stepB ⟨k, s, n⟩)) ∧ Below w.heap.size w w' := by
  obtain ⟨b0, b1, b2, hz, hB⟩ := tri3_start (w := w) (c0 := .int .i64 k) (c1 := .int .i64 s) (c2 := .int .i64 n) (T := 76)
  cases h2 : inB s 0 200000
  · have hE := hid (stepB_no (k := k) (n := n) h2)
    go_enter Try.func121, Try.ntmps121
    go_wp2_with (go_at_call 120; refine (xwithin_any _ _ _ _).mono ?_; rintro e w' ⟨rfl, rfl⟩; rw [h2])
    go_ret
    exact ⟨ret_bool hE.out.symm, hB⟩
  by_cases k1 : k = 1
  · subst k1
    have hE := hid (stepB_1 (n := n) h2)
    go_enter Try.func121, Try.ntmps121
    go_wp2_with (go_at_call 120; refine (xwithin_any _ _ _ _).mono ?_; rintro e w' ⟨rfl, rfl⟩; (first | rw [h2] | skip))
    go_ret
    exact ⟨ret_bool hE.out.symm, hB⟩
  have k1' : (k == 1) = false := by simpa using k1
  by_cases k2 : k = 2
  · subst k2
    have hE := hid (stepB_2 (n := n) h2)
    go_enter Try.func121, Try.ntmps121
    go_wp2_with (go_at_call 120; refine (xwithin_any _ _ _ _).mono ?_; rintro e w' ⟨rfl, rfl⟩; (first | rw [h2] | skip))
    go_ret
    exact ⟨ret_bool hE.out.symm, hB⟩
  have k2' : (k == 2) = false := by simpa using k2
  by_cases k3 : k = 3
  · subst k3
    have hE := hid (stepB_3 (n := n) h2)
    go_enter Try.func121, Try.ntmps121
    go_wp2_with (go_at_call 120; refine (xwithin_any _ _ _ _).mono ?_; rintro e w' ⟨rfl, rfl⟩; (first | rw [h2] | skip))
    go_ret
    exact ⟨ret_bool hE.out.symm, hB⟩
  have k3' : (k == 3) = false := by simpa using k3
  by_cases k4 : k = 4
  · subst k4
    have hE := hid (stepB_4 (n := n) h2)
    go_enter Try.func121, Try.ntmps121
    go_wp2_with (go_at_call 120; refine (xwithin_any _ _ _ _).mono ?_; rintro e w' ⟨rfl, rfl⟩; (first | rw [h2] | skip))
    go_ret
    exact ⟨ret_bool hE.out.symm, hB⟩
  have k4' : (k == 4) = false := by simpa using k4
  have hE := hid (stepB_5 (s := s) (n := n) (inB_not.2 (show ¬ (1 ≤ k ∧ k ≤ 4) by omega)))
  clear k1 k2 k3 k4
  go_enter Try.func121, Try.ntmps121
  go_wp2_with (go_at_call 120; refine (xwithin_any _ _ _ _).mono ?_; rintro e w' ⟨rfl, rfl⟩; rw [h2])
  go_ret
  exact ⟨ret_bool hE.out.symm, hB⟩

theorem progB_short {m : Nat} {p : Nat → St} (h : inB m 1 16 = false) : progB m p = false := by unfold progB; rw [h]; rfl
theorem progB_bad {m i : Nat} {p : Nat → St} (hi : i < m) (h : stepB (p i) = false) : progB m p = false := by
  unfold progB
  rw [allB_bad (p := fun i => stepB (p i)) hi h, Bool.and_false]
theorem progB_end {m : Nat} {p : Nat → St} (h : inB m 1 16 = true) (g : ∀ j, j < m → stepB (p j) = true) : progB m p = true := by
  unfold progB
  rw [h, allB_end (p := fun i => stepB (p i)) g]; rfl
set_option maxHeartbeats 4000000 in
theorem vprog_any (v : Value) (m : Nat) (p : Nat → St) (w : World) (hr : RowP w v m p) : Calls Try.prog 81 #[v] w fun e w' => e = .returned (.bool (progB m p)) ∧ Below w.heap.size w w' := by
  have HK := hid (fun w1 (g : Below w.heap.size w w1) => hr.keep g)
  obtain ⟨a, b, o, cap, rfl, hc, hm, ha, _⟩ := hr
  have HA := hid ha
  have hnm : m ≤ 9223372036854775807 := by unfold maxLen at hm; omega
  clear ha hm
  cases h1 : inB m 1 16
  · have hE := hid (progB_short (p := p) h1)
    go_enter Try.func81, Try.ntmps81
    go_wp2_with (go_at_call 78; refine (vwithin_any _ _ _ _).mono ?_; rintro e w' ⟨rfl, rfl⟩; rw [h1])
    go_ret
    exact ⟨ret_bool hE.out.symm, Below.refl _ _⟩
  have H1 := hid h1
  go_enter Try.func81, Try.ntmps81
  go_wp2_with (go_at_call 78; refine (vwithin_any _ _ _ _).mono ?_; rintro e w' ⟨rfl, rfl⟩; rw [h1])
  clear h1
  go_loopw [11] (fun t wr => ∃ k : Nat, k ≤ m ∧ t = .int .i64 (k : Int) ∧ Hid (∀ j, j < k → stepB (p j) = true) ∧ Hid (Below w.heap.size w wr)) (fun t _ => m - (intOf t).toNat)
  case atStart => exact ⟨0, Nat.zero_le _, rfl, fun j h => absurd h (Nat.not_lt_zero _), Below.refl _ _⟩
  case round =>
    obtain ⟨k, hk, rfl, hok, hB⟩ := hrel
    by_cases hlt : k < m
    · have hlt' : (k : Int) < m := by omega
      obtain ⟨a', b', o', cap', hv, _, _, ha', hcell⟩ := HK.out _ hB.out
      injection hv with hv1 hv2 hv3
      subst hv1 hv3
      rcases ha' with h0 | rfl
      · omega
      obtain ⟨c0, c1, c2⟩ := hcell k hlt
      have HB2 := hid (hB.out.alloc hB.out.size (.cells #[.int .i64 (p k).k, .int .i64 (p k).s, .int .i64 (p k).n] 76))
      clear hcell hv2
      simp only at c0 c1 c2
      have HE := hid (show stepB ⟨(p k).k, (p k).s, (p k).n⟩ = stepB (p k) from rfl)
      cases hs : stepB (p k)
      · have hE := hid (progB_bad hlt hs)
        have HS := hid (HE.out.trans hs)
        clear HE hs hlt
        generalize (p k).k = x at c0 HB2 HS
        generalize (p k).s = y at c1 HB2 HS
        generalize (p k).n = z at c2 HB2 HS
        go_wp2_with (go_at_call 107; refine (vstep_any _ _ _ _).mono ?_; rintro e w3 ⟨rfl, hb⟩; rw [HS.out])
        go_ret
        exact ⟨ret_bool hE.out.symm, bstep HB2.out HB2.out.size hb⟩
      · have hst := hid (all_step (p := fun j => stepB (p j)) hok.out hs)
        have HS := hid (HE.out.trans hs)
        clear HE hs hlt
        generalize (p k).k = x at c0 HB2 HS
        generalize (p k).s = y at c1 HB2 HS
        generalize (p k).n = z at c2 HB2 HS
        go_wp2_with (go_at_call 107; refine (vstep_any _ _ _ _).mono ?_; rintro e w3 ⟨rfl, hb⟩; rw [HS.out]; have HB3 := hid (bstep HB2.out HB2.out.size hb); clear hb)
        go_roundw
        case rel => exact ⟨k + 1, by omega, by go_num, hst, HB3⟩
        case measure => simp [intOf]; omega
    · obtain rfl : k = m := by omega
      have hE := hid (progB_end H1.out hok.out)
      go_wp2
      go_ret
      exact ⟨ret_bool hE.out.symm, hB.out⟩
set_option maxHeartbeats 4000000 in
theorem xprog_any (v : Value) (m : Nat) (p : Nat → St) (w : World) (hr : RowP w v m p) : Calls Try.prog 101 #[v] w fun e w' => e = .returned (.bool (progB m p)) ∧ Below w.heap.size w w' := by
  have HK := hid (fun w1 (g : Below w.heap.size w w1) => hr.keep g)
  obtain ⟨a, b, o, cap, rfl, hc, hm, ha, _⟩ := hr
  have HA := hid ha
  have hnm : m ≤ 9223372036854775807 := by unfold maxLen at hm; omega
  clear ha hm
  cases h1 : inB m 1 16
  · have hE := hid (progB_short (p := p) h1)
    go_enter Try.func101, Try.ntmps101
    go_wp2_with (go_at_call 120; refine (xwithin_any _ _ _ _).mono ?_; rintro e w' ⟨rfl, rfl⟩; rw [h1])
    go_ret
    exact ⟨ret_bool hE.out.symm, Below.refl _ _⟩
  have H1 := hid h1
  go_enter Try.func101, Try.ntmps101
  go_wp2_with (go_at_call 120; refine (xwithin_any _ _ _ _).mono ?_; rintro e w' ⟨rfl, rfl⟩; rw [h1])
  clear h1
  go_loopw [3] (fun t wr => ∃ k : Nat, k ≤ m ∧ t = .int .i64 (k : Int) ∧ Hid (∀ j, j < k → stepB (p j) = true) ∧ Hid (Below w.heap.size w wr)) (fun t _ => m - (intOf t).toNat)
  case atStart => exact ⟨0, Nat.zero_le _, rfl, fun j h => absurd h (Nat.not_lt_zero _), Below.refl _ _⟩
  case round =>
    obtain ⟨k, hk, rfl, hok, hB⟩ := hrel
    by_cases hlt : k < m
    · have hlt' : (k : Int) < m := by omega
      obtain ⟨a', b', o', cap', hv, _, _, ha', hcell⟩ := HK.out _ hB.out
      injection hv with hv1 hv2 hv3
      subst hv1 hv3
      rcases ha' with h0 | rfl
      · omega
      obtain ⟨c0, c1, c2⟩ := hcell k hlt
      clear hcell hv2
      simp only at c0 c1 c2
      have HE := hid (show stepB ⟨(p k).k, (p k).s, (p k).n⟩ = stepB (p k) from rfl)
      cases hs : stepB (p k)
      · have hE := hid (progB_bad hlt hs)
        have HS := hid (HE.out.trans hs)
        clear HE hs hlt
        generalize (p k).k = x at c0 HS
        generalize (p k).s = y at c1 HS
        generalize (p k).n = z at c2 HS
        go_wp2_with (go_at_call 121; refine (xstep_any _ _ _ _).mono ?_; rintro e w3 ⟨rfl, hb⟩; rw [HS.out])
        go_ret
        exact ⟨ret_bool hE.out.symm, bstep hB.out hB.out.size hb⟩
      · have hst := hid (all_step (p := fun j => stepB (p j)) hok.out hs)
        have HS := hid (HE.out.trans hs)
        clear HE hs hlt
        generalize (p k).k = x at c0 HS
        generalize (p k).s = y at c1 HS
        generalize (p k).n = z at c2 HS
        go_wp2_with (go_at_call 121; refine (xstep_any _ _ _ _).mono ?_; rintro e w3 ⟨rfl, hb⟩; rw [HS.out]; have HB3 := hid (bstep hB.out hB.out.size hb); clear hb)
        go_roundw
        case rel => exact ⟨k + 1, by omega, by go_num, hst, HB3⟩
        case measure => simp [intOf]; omega
    · obtain rfl : k = m := by omega
      have hE := hid (progB_end H1.out hok.out)
      go_wp2
      go_ret
      exact ⟨ret_bool hE.out.symm, hB.out⟩
end Go.Proofs.Ytpkcnojcklmhmaa
