/- Walks of the reference's ValidFaults and ValidLoad, of Done and Begin of both: contracts. -/
import Derived.Test.YtpkcnojcklmhmaaVo
namespace Go.Proofs.Ytpkcnojcklmhmaa
open Go.RowKit

theorem xwithin_q (a b c : Int) (w : World) : Calls Try.prog 120 #[.int .i64 a, .int .i64 b, .int .i64 c] w fun e w' => e = .returned (.bool (inB a b c)) ∧ w' = w :=
  (xwithin_any a b c w).mono fun _ _ ⟨h, g⟩ => ⟨h, g.symm⟩
theorem fB_xy {x y z : Int} (h : fB ⟨x, y, z⟩ = true) : 0 ≤ x ∧ x < y ∧ y ≤ 100000000 ∧ inB z 0 200000 = true := by
  rw [fB_eq] at h
  simp only [Bool.and_eq_true, inB_iff] at h
  exact ⟨h.2.1.1, by omega, h.1.2, inB_iff.2 h.2.2⟩
theorem fB_yes {x y z : Int} (h1 : 0 ≤ x) (h2 : x < y) (h3 : y ≤ 100000000) (h4 : inB z 0 200000 = true) : fB ⟨x, y, z⟩ = true := by
  rw [fB_eq, h4]
  simp only [Bool.and_eq_true, inB_iff, and_true]
  omega
theorem fB_no {x y z : Int} (h : ¬ (0 ≤ x ∧ x < y ∧ y ≤ 100000000 ∧ inB z 0 200000 = true)) : fB ⟨x, y, z⟩ = false := by
  cases hb : fB ⟨x, y, z⟩
  · rfl
  · exact absurd (fB_xy hb) h
set_option maxRecDepth 20000 in
set_option maxHeartbeats 4000000 in
theorem xflt_any (v : Value) (n : Nat) (q : Nat → Tri) (w : World) (hr : RowT w v n q) : Calls Try.prog 102 #[v] w fun e w' => e = .returned (.bool (fltB n q)) ∧ Below w.heap.size w w' := by
  have HK := hid (fun w1 (g : Below w.heap.size w w1) => hr.keep g)
  have hnm := hr.most
  unfold maxLen at hnm
  obtain ⟨a, b, o, cap, rfl, hc, hm, ha, hcell⟩ := hr
  have HA := hid ha
  clear hcell
  clear ha hm hc
  by_cases h1 : 16 < n
  · have hd : decide (16 < (n : Int)) = true := by simp; omega
    have hE := hid (fltB_long (q := q) h1)
    go_enter Try.func102, Try.ntmps102
    go_wp2
    go_ret
    exact ⟨ret_bool hE.out.symm, Below.refl _ _⟩
  have hd : decide (16 < (n : Int)) = false := by simp; omega
  have H1 := hid (show n ≤ 16 by omega)
  clear h1
  go_enter Try.func102, Try.ntmps102
  go_wp2
  go_loopw [3] (fun t wr => ∃ k : Nat, k ≤ n ∧ t = .int .i64 (k : Int) ∧ Hid (∀ j, j < k → fB (q j) = true) ∧ Hid (Below w.heap.size w wr)) (fun t _ => n - (intOf t).toNat)
  case atStart => exact ⟨0, Nat.zero_le _, rfl, fun j h => absurd h (Nat.not_lt_zero _), Below.refl _ _⟩
  case round =>
    obtain ⟨k, hk, rfl, hok, hB⟩ := hrel
    by_cases hlt : k < n
    · have hlt' : (k : Int) < n := by omega
      obtain ⟨a', b', o', cap', hv, _, _, ha', hcell⟩ := HK.out _ hB.out
      injection hv with hv1 hv2 hv3
      subst hv1 hv3
      rcases ha' with h0 | rfl
      · omega
      obtain ⟨c0, c1, c2⟩ := hcell k hlt
      clear hcell hv2
      have HST := hid (fun h => all_step (p := fun j => fB (q j)) hok.out (k := k) h)
      have HBAD := hid (fun h => fltB_bad (q := q) hlt h)
      have HQ := hid (show q k = ⟨(q k).x, (q k).y, (q k).z⟩ from rfl)
      rw [HQ.out] at HST HBAD
      clear hlt HQ
      generalize (q k).x = x at c0 HST HBAD
      generalize (q k).y = y at c1 HST HBAD
      generalize (q k).z = z at c2 HST HBAD
      by_cases e1 : 0 ≤ x
      case neg =>
        have HF := hid (HBAD.out (fB_no (fun h => e1 h.1)))
        have f1 : decide (x < 0) = true := by simp; omega
        go_wp2
        go_quiet (fail)
        go_wp2
        go_ret
        exact ⟨ret_bool HF.out.symm, by first | exact hB.out | exact bdrewN hB.out | exact hid (bdrewN hB.out)⟩
      have f1 : decide (x < 0) = false := by simp; omega
      by_cases e2 : x < y
      case neg =>
        have HF := hid (HBAD.out (fB_no (fun h => e2 h.2.1)))
        have f2 : decide (y ≤ x) = true := by simp; omega
        go_wp2
        go_quiet (fail)
        go_wp2
        go_ret
        exact ⟨ret_bool HF.out.symm, by first | exact hB.out | exact bdrewN hB.out | exact hid (bdrewN hB.out)⟩
      have f2 : decide (y ≤ x) = false := by simp; omega
      by_cases e3 : y ≤ 100000000
      case neg =>
        have HF := hid (HBAD.out (fB_no (fun h => e3 h.2.2.1)))
        have f3 : decide (100000000 < y) = true := by simp; omega
        go_wp2
        go_quiet (fail)
        go_wp2
        go_ret
        exact ⟨ret_bool HF.out.symm, by first | exact hB.out | exact bdrewN hB.out | exact hid (bdrewN hB.out)⟩
      have f3 : decide (100000000 < y) = false := by simp; omega
      cases e4 : inB z 0 200000
      · have HF := hid (HBAD.out (fB_no (fun h => by rw [e4] at h; cases h.2.2.2)))
        go_wp2
        go_quiet ((go_at_call 120; exact Calls.quiet_of_same (xwithin_q _ _ _ _)))
        go_wp2
        go_ret
        exact ⟨ret_bool HF.out.symm, by first | exact hB.out | exact bdrewN hB.out | exact hid (bdrewN hB.out)⟩
      · have HF := hid (HST.out (fB_yes e1 e2 e3 e4))
        go_wp2
        go_quiet ((go_at_call 120; exact Calls.quiet_of_same (xwithin_q _ _ _ _)))
        go_wp2
        go_roundw
        case rel => exact ⟨k + 1, by omega, by go_num, HF, by first | exact hB.out | exact bdrewN hB.out | exact hid (bdrewN hB.out)⟩
        case measure => simp [intOf]; omega
    · obtain rfl : k = n := by omega
      have hE := hid (fltB_end H1.out hok.out)
      go_wp2
      go_ret
      exact ⟨ret_bool hE.out.symm, hB.out⟩

theorem ldB_eq2 (m : Nat) (p : Nat → St) (t s g c a : Int) : ldB m p ⟨t, s, g, c, a⟩ = (progB m p && (inB t 0 100000000 && (inB s 0 m && (inB g 0 t && ((decide (s < m) || g == 0) && (inB c (-50000) 200000 && inB a 0 1000)))))) := by
  rw [ldB_eq]
  cases progB m p
  · rfl
  rw [Bool.true_and, Bool.true_and, Bool.eq_iff_iff]
  unfold topG
  simp only [Bool.and_eq_true, Bool.or_eq_true, inB_iff, decide_eq_true_iff, beq_iff_eq]
  by_cases h : s = m
  · rw [if_pos h]
    constructor
    · rintro ⟨h1, h2, h3, h4, h5⟩
      exact ⟨h2, h1, by omega, .inr (by omega), h4, h5⟩
    · rintro ⟨h1, h2, h3, h4, h5, h6⟩
      exact ⟨h2, h1, by omega, h5, h6⟩
  · rw [if_neg h]
    constructor
    · rintro ⟨h1, h2, h3, h4, h5⟩
      exact ⟨h2, h1, h3, .inl (by omega), h4, h5⟩
    · rintro ⟨h1, h2, h3, h4, h5, h6⟩
      exact ⟨h2, h1, h3, h5, h6⟩
set_option maxHeartbeats 4000000 in
theorem xld_any (v : Value) (m : Nat) (p : Nat → St) (t s g c a : Int) (w : World) (hr : RowP w v m p) :
    Calls Try.prog 103 #[v, .agg #[.int .i64 t, .int .i64 s, .int .i64 g, .int .i64 c, .int .i64 a]] w fun e w' => e = .returned (.bool (ldB m p ⟨t, s, g, c, a⟩)) ∧ Below w.heap.size w w' := by
  have HK := hid (fun w1 (g : Below w.heap.size w w1) => hr.keep g)
  have hnm := hr.most
  unfold maxLen at hnm
  obtain ⟨a0, cap, rfl⟩ := hr.shape
  clear hr
  have hc := hid (ldB_eq2 m p t s g c a)
  have BX := hid (box1_start (w := w) (A := #[.int .i64 t, .int .i64 s, .int .i64 g, .int .i64 c, .int .i64 a]) (T := 57) (fz := (0, 0)))
  cases hs : decide (s < (m : Int))
  · cases hg : (g == 0)
    · rcases six (progB m p) (inB t 0 100000000) (inB s 0 m) (inB g 0 t) false false with h1 | ⟨h1, h2⟩ | ⟨h1, h2, h3⟩ | ⟨h1, h2, h3, h4⟩ | ⟨h1, h2, h3, h4, _⟩ | ⟨_, _, _, _, h, _⟩ | ⟨_, _, _, _, h, _⟩
      rotate_left 5
      · cases h
      · cases h
      all_goals
        have hE := hid (show ldB m p ⟨t, s, g, c, a⟩ = false by rw [hc.out, hs, hg]; simp only [Bool.false_and, Bool.and_false, Bool.true_and, Bool.or_false, *])
        go_enter Try.func103, Try.ntmps103
        go_wp2_with (first | (go_at_call 120; refine (xwithin_any _ _ _ _).mono ?_; rintro e w' ⟨rfl, rfl⟩) | (go_at_call 101; refine (xprog_any _ _ _ _ (HK.out _ BX.out.low)).mono ?_; rintro e w1 ⟨rfl, hb⟩; have BX := hid (BX.out.keep hb); obtain ⟨b0, b1, b2, b3, b4⟩ := BX.out.five; clear hb))
        go_ret
        exact ⟨ret_bool hE.out.symm, BX.out.low⟩
    · have hg0 : g = 0 := by simpa using hg
      rcases six (progB m p) (inB t 0 100000000) (inB s 0 m) (inB g 0 t) (inB c (-50000) 200000) (inB a 0 1000) with h1 | ⟨h1, h2⟩ | ⟨h1, h2, h3⟩ | ⟨h1, h2, h3, h4⟩ | ⟨h1, h2, h3, h4, h5⟩ | ⟨h1, h2, h3, h4, h5, h6⟩ | ⟨h1, h2, h3, h4, h5, h6⟩
      all_goals
        have hE := hid (show ldB m p ⟨t, s, g, c, a⟩ = (progB m p && (inB t 0 100000000 && (inB s 0 m && (inB g 0 t && (inB c (-50000) 200000 && inB a 0 1000))))) by rw [hc.out, hs, hg, Bool.or_true, Bool.true_and])
        clear hg0
        go_enter Try.func103, Try.ntmps103
        go_wp2_with (first | (go_at_call 120; refine (xwithin_any _ _ _ _).mono ?_; rintro e w' ⟨rfl, rfl⟩) | (go_at_call 101; refine (xprog_any _ _ _ _ (HK.out _ BX.out.low)).mono ?_; rintro e w1 ⟨rfl, hb⟩; have BX := hid (BX.out.keep hb); obtain ⟨b0, b1, b2, b3, b4⟩ := BX.out.five; clear hb))
        go_ret
        exact ⟨ret_bool (by rw [hE.out]; simp only [Bool.false_and, Bool.true_and, *]), BX.out.low⟩
  · rcases six (progB m p) (inB t 0 100000000) (inB s 0 m) (inB g 0 t) (inB c (-50000) 200000) (inB a 0 1000) with h1 | ⟨h1, h2⟩ | ⟨h1, h2, h3⟩ | ⟨h1, h2, h3, h4⟩ | ⟨h1, h2, h3, h4, h5⟩ | ⟨h1, h2, h3, h4, h5, h6⟩ | ⟨h1, h2, h3, h4, h5, h6⟩
    all_goals
      have hE := hid (show ldB m p ⟨t, s, g, c, a⟩ = (progB m p && (inB t 0 100000000 && (inB s 0 m && (inB g 0 t && (inB c (-50000) 200000 && inB a 0 1000))))) by rw [hc.out, hs, Bool.true_or, Bool.true_and])
      go_enter Try.func103, Try.ntmps103
      go_wp2_with (first | (go_at_call 120; refine (xwithin_any _ _ _ _).mono ?_; rintro e w' ⟨rfl, rfl⟩) | (go_at_call 101; refine (xprog_any _ _ _ _ (HK.out _ BX.out.low)).mono ?_; rintro e w1 ⟨rfl, hb⟩; have BX := hid (BX.out.keep hb); obtain ⟨b0, b1, b2, b3, b4⟩ := BX.out.five; clear hb))
      go_ret
      exact ⟨ret_bool (by rw [hE.out]; simp only [Bool.false_and, Bool.true_and, *]), BX.out.low⟩
end Go.Proofs.Ytpkcnojcklmhmaa
