/- Walks of the reference's High and of Whole of both: contracts. -/
import Derived.Test.YtpkdainpmgohiaaVy
namespace Go.Proofs.Ytpkdainpmgohiaa
open Go.RowKit

def wholeB (m : Nat) (p : Nat → St) (n : Nat) (r : Nat → Rd) : Bool := recB m p n r && (decide (0 < n) && decide ((r (n - 1)).s = (m : Int) - 1))
set_option maxRecDepth 20000 in
set_option maxHeartbeats 4000000 in
theorem xhigh_any (v : Value) (n : Nat) (r : Nat → Rd) (w : World) (hr : RowR w v n r) : Calls Try.prog 57 #[v] w fun e w' => e = .returned (.int .i64 (highN n r)) ∧ Below w.heap.size w w' := by
  have HK := hid (fun w1 (g : Below w.heap.size w w1) => hr.keep g)
  have hnm := hr.most
  unfold maxLen at hnm
  obtain ⟨a, c, rfl⟩ := hr.shape
  clear hr
  go_enter Try.func57, Try.ntmps57
  go_wp2
  go_loopw [3] (fun t wr => ∃ k : Nat, k ≤ n ∧ t = .int .i64 (k : Int) ∧ Hid (∀ j, j < k → highB r j = false) ∧ Hid (Below w.heap.size w wr)) (fun t _ => n - (intOf t).toNat)
  case atStart => exact ⟨0, Nat.zero_le _, rfl, fun j h => absurd h (Nat.not_lt_zero _), Below.refl _ _⟩
  case round =>
    obtain ⟨k, hk, rfl, hok, hB⟩ := hrel
    by_cases hlt : k < n
    · have hlt' : (k : Int) < n := by omega
      obtain ⟨a', b', o', cap', hv, _, _, ha', hcell⟩ := HK.out _ hB.out
      injection hv with hv1 hv2 hv3
      subst hv1 hv3
      rcases ha' with h0 | rfl
      · omega
      obtain ⟨c0, c1, c2, c3⟩ := hcell k hlt
      clear hcell hv2
      have HSOME := hid (fun h => highN_some (r := r) hlt hok.out h)
      have HST := hid (fun (h : highB r k = false) => show ∀ j, j < k + 1 → highB r j = false from fun j hj => by
        rcases Nat.lt_succ_iff_lt_or_eq.1 hj with h1 | h1
        · exact hok.out j h1
        · rw [h1]; exact h)
      have HH := hid (show highB r k = decide ((r k).t < (r k).c) from rfl)
      clear hlt
      generalize (r k).s = x0 at c0
      generalize (r k).t = x1 at c1 HH
      generalize (r k).c = x2 at c2 HH
      generalize (r k).b = x3 at c3
      by_cases e1 : x1 < x2
      · have f1 : decide (x1 < x2) = true := by simpa using e1
        have HF := hid (HSOME.out (by rw [HH.out, f1]))
        go_wp2
        go_quiet (fail)
        go_wp2
        go_ret
        exact ⟨ret_int HF.out.symm, by first | exact hB.out | exact bdrewN hB.out⟩
      · have f1 : decide (x1 < x2) = false := by simpa using e1
        have HF := hid (HST.out (by rw [HH.out, f1]))
        go_wp2
        go_quiet (fail)
        go_wp2
        go_roundw
        case rel => exact ⟨k + 1, by omega, by go_num, HF, by first | exact hB | exact hid (bdrewN hB.out)⟩
        case measure => simp [intOf]; omega
    · obtain rfl : k = n := by omega
      have hE := hid (highN_none hok.out)
      go_wp2
      go_ret
      exact ⟨ret_int hE.out.symm, hB.out⟩
theorem wholeB_eq (m : Nat) (p : Nat → St) (n : Nat) (r : Nat → Rd) : wholeB m p n r = (recB m p n r && (decide (0 < n) && decide ((r (n - 1)).s = (m : Int) - 1))) := rfl
set_option maxRecDepth 20000 in
set_option maxHeartbeats 4000000 in
theorem vwhole_any (u : Value) (m : Nat) (p : Nat → St) (v : Value) (n : Nat) (r : Nat → Rd) (w : World) (hp : RowP w u m p) (hr : RowR w v n r) :
    Calls Try.prog 49 #[u, v] w fun e w' => e = .returned (.bool (wholeB m p n r)) ∧ Below w.heap.size w w' := by
  have HK := hid (fun w1 (g : Below w.heap.size w w1) => hr.keep g)
  have HP := hid hp
  have HR := hid hr
  have hnm := hr.most
  have hmm := RowT.most hp
  unfold maxLen at hnm hmm
  have HE := hid (wholeB_eq m p n r)
  obtain ⟨pa, pc, rfl⟩ := RowT.shape hp
  obtain ⟨va, vc, rfl⟩ := hr.shape
  clear hp hr
  obtain ⟨br, hbr⟩ : ∃ b, b = recB m p n r := ⟨_, rfl⟩
  have HBR := hid hbr
  clear hbr
  cases br
  · go_enter Try.func49, Try.ntmps49
    go_wp2_with (go_at_call 48; refine (vrec_any _ _ _ _ _ _ _ HP.out HR.out).mono ?_; rintro e w1 ⟨rfl, hb⟩; rw [← HBR.out]; have HB := hid hb; clear hb)
    go_ret
    exact ⟨ret_bool (by rw [HE.out, ← HBR.out]; rfl), HB.out⟩
  by_cases hn : 0 < n
  · obtain ⟨k, rfl⟩ : ∃ k, n = k + 1 := ⟨n - 1, by omega⟩
    have HE2 := hid (show wholeB m p (k + 1) r = (recB m p (k + 1) r && ((r k).s == (m : Int) - 1)) by rw [HE.out, decide_eq_true hn, Bool.true_and]; rfl)
    have hk1 : (0 : Int) < (k : Int) + 1 := by omega
    clear hn
    go_enter Try.func49, Try.ntmps49
    go_wp2_with (go_at_call 48; refine (vrec_any _ _ _ _ _ _ _ HP.out HR.out).mono ?_; rintro e w1 ⟨rfl, hb⟩; rw [← HBR.out]; have HB := hid hb; clear hb; obtain ⟨a', b', o', cap', hv, _, _, ha', hcell⟩ := HK.out _ HB.out; injection hv with hv1 hv2 hv3; subst hv1 hv3; rcases ha' with h0 | rfl; (· omega); obtain ⟨c0, c1, c2, c3⟩ := hcell k (Nat.lt_succ_self k); clear hcell hv2; generalize (r k).s = x0 at c0 HE2; generalize (r k).t = x1 at c1; generalize (r k).c = x2 at c2; generalize (r k).b = x3 at c3)
    go_ret
    exact ⟨ret_bool (by rw [HE2.out, ← HBR.out]; rfl), HB.out⟩
  · have f1 : decide ((0 : Int) < (n : Int)) = false := by simp; omega
    go_enter Try.func49, Try.ntmps49
    go_wp2_with (go_at_call 48; refine (vrec_any _ _ _ _ _ _ _ HP.out HR.out).mono ?_; rintro e w1 ⟨rfl, hb⟩; rw [← HBR.out]; have HB := hid hb; clear hb)
    go_ret
    exact ⟨ret_bool (by rw [HE.out, ← HBR.out, decide_eq_false hn]; rfl), HB.out⟩
set_option maxRecDepth 20000 in
set_option maxHeartbeats 4000000 in
theorem xwhole_any (u : Value) (m : Nat) (p : Nat → St) (v : Value) (n : Nat) (r : Nat → Rd) (w : World) (hp : RowP w u m p) (hr : RowR w v n r) :
    Calls Try.prog 53 #[u, v] w fun e w' => e = .returned (.bool (wholeB m p n r)) ∧ Below w.heap.size w w' := by
  have HK := hid (fun w1 (g : Below w.heap.size w w1) => hr.keep g)
  have HP := hid hp
  have HR := hid hr
  have hnm := hr.most
  have hmm := RowT.most hp
  unfold maxLen at hnm hmm
  have HE := hid (wholeB_eq m p n r)
  obtain ⟨pa, pc, rfl⟩ := RowT.shape hp
  obtain ⟨va, vc, rfl⟩ := hr.shape
  clear hp hr
  obtain ⟨br, hbr⟩ : ∃ b, b = recB m p n r := ⟨_, rfl⟩
  have HBR := hid hbr
  clear hbr
  cases br
  · go_enter Try.func53, Try.ntmps53
    go_wp2_with (go_at_call 52; refine (xrec_any _ _ _ _ _ _ _ HP.out HR.out).mono ?_; rintro e w1 ⟨rfl, hb⟩; rw [← HBR.out]; have HB := hid hb; clear hb)
    go_ret
    exact ⟨ret_bool (by rw [HE.out, ← HBR.out]; rfl), HB.out⟩
  by_cases hn : 0 < n
  · obtain ⟨k, rfl⟩ : ∃ k, n = k + 1 := ⟨n - 1, by omega⟩
    have HE2 := hid (show wholeB m p (k + 1) r = (recB m p (k + 1) r && ((r k).s == (m : Int) - 1)) by rw [HE.out, decide_eq_true hn, Bool.true_and]; rfl)
    have hk1 : (0 : Int) < (k : Int) + 1 := by omega
    clear hn
    go_enter Try.func53, Try.ntmps53
    go_wp2_with (go_at_call 52; refine (xrec_any _ _ _ _ _ _ _ HP.out HR.out).mono ?_; rintro e w1 ⟨rfl, hb⟩; rw [← HBR.out]; have HB := hid hb; clear hb; obtain ⟨a', b', o', cap', hv, _, _, ha', hcell⟩ := HK.out _ HB.out; injection hv with hv1 hv2 hv3; subst hv1 hv3; rcases ha' with h0 | rfl; (· omega); obtain ⟨c0, c1, c2, c3⟩ := hcell k (Nat.lt_succ_self k); clear hcell hv2; generalize (r k).s = x0 at c0 HE2; generalize (r k).t = x1 at c1; generalize (r k).c = x2 at c2; generalize (r k).b = x3 at c3)
    go_ret
    exact ⟨ret_bool (by rw [HE2.out, ← HBR.out]; rfl), HB.out⟩
  · have f1 : decide ((0 : Int) < (n : Int)) = false := by simp; omega
    go_enter Try.func53, Try.ntmps53
    go_wp2_with (go_at_call 52; refine (xrec_any _ _ _ _ _ _ _ HP.out HR.out).mono ?_; rintro e w1 ⟨rfl, hb⟩; rw [← HBR.out]; have HB := hid hb; clear hb)
    go_ret
    exact ⟨ret_bool (by rw [HE.out, ← HBR.out, decide_eq_false hn]; rfl), HB.out⟩
end Go.Proofs.Ytpkdainpmgohiaa
