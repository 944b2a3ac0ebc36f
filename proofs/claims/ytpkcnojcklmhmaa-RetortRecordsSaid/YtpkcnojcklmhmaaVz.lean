/- Walks of the reference's High and of Whole of both: contracts. -/
import Derived.Test.YtpkcnojcklmhmaaVy
namespace Go.Proofs.Ytpkcnojcklmhmaa
open Go.RowKit

def wholeB (m : Nat) (p : Nat → St) (n : Nat) (r : Nat → Rd) : Bool := recB m p n r && (decide (0 < n) && decide ((r (n - 1)).s = (m : Int) - 1))
theorem wholeB_eq (m : Nat) (p : Nat → St) (n : Nat) (r : Nat → Rd) : wholeB m p n r = (recB m p n r && (decide (0 < n) && decide ((r (n - 1)).s = (m : Int) - 1))) := rfl
set_option maxRecDepth 20000 in
set_option maxHeartbeats 4000000 in
theorem vwhole_any (u : Value) (m : Nat) (p : Nat → St) (v : Value) (n : Nat) (r : Nat → Rd) (w : World) (hp : RowP w u m p) (hr : RowR w v n r) :
    Calls Try.prog 44 #[u, v] w fun e w' => e = .returned (.bool (wholeB m p n r)) ∧ Below w.heap.size w w' := by
  have HK := hid (fun w1 (g : Below w.heap.size w w1) => hr.keep g)
  have HP := hid hp
  have HR := hid hr
  have hnm := hr.most
  have hmm := RowT.most hp
  unfold maxLen at hnm hmm
  have HE := hid (wholeB_eq m p n r)
  obtain ⟨pa, pc, rfl⟩ := RowT.shape hp
  obtain ⟨va, vc, rfl⟩ := hr.shape
  clear hp hr
  obtain ⟨br, hbr⟩ : ∃ b, b = recB m p n r := ⟨_, rfl⟩
  have HBR := hid hbr
  clear hbr
  cases br
  · go_enter Try.func44, Try.ntmps44
    go_wp2_with (go_at_call 43; refine (vrec_any _ _ _ _ _ _ _ HP.out HR.out).mono ?_; rintro e w1 ⟨rfl, hb⟩; rw [← HBR.out]; have HB := hid hb; clear hb)
    go_ret
    exact ⟨ret_bool (by rw [HE.out, ← HBR.out]; rfl), HB.out⟩
  by_cases hn : 0 < n
  · obtain ⟨k, rfl⟩ : ∃ k, n = k + 1 := ⟨n - 1, by omega⟩
    have HE2 := hid (show wholeB m p (k + 1) r = (recB m p (k + 1) r && ((r k).s == (m : Int) - 1)) by rw [HE.out, decide_eq_true hn, Bool.true_and]; rfl)
    have hk1 : (0 : Int) < (k : Int) + 1 := by omega
    clear hn
    go_enter Try.func44, Try.ntmps44
    go_wp2_with (go_at_call 43; refine (vrec_any _ _ _ _ _ _ _ HP.out HR.out).mono ?_; rintro e w1 ⟨rfl, hb⟩; rw [← HBR.out]; have HB := hid hb; clear hb; obtain ⟨a', b', o', cap', hv, _, _, ha', hcell⟩ := HK.out _ HB.out; injection hv with hv1 hv2 hv3; subst hv1 hv3; rcases ha' with h0 | rfl; (· omega); obtain ⟨c0, c1, c2, c3⟩ := hcell k (Nat.lt_succ_self k); clear hcell hv2; generalize (r k).s = x0 at c0 HE2; generalize (r k).t = x1 at c1; generalize (r k).c = x2 at c2; generalize (r k).b = x3 at c3)
    go_ret
    exact ⟨ret_bool (by rw [HE2.out, ← HBR.out]; rfl), HB.out⟩
  · have f1 : decide ((0 : Int) < (n : Int)) = false := by simp; omega
    go_enter Try.func44, Try.ntmps44
    go_wp2_with (go_at_call 43; refine (vrec_any _ _ _ _ _ _ _ HP.out HR.out).mono ?_; rintro e w1 ⟨rfl, hb⟩; rw [← HBR.out]; have HB := hid hb; clear hb)
    go_ret
    exact ⟨ret_bool (by rw [HE.out, ← HBR.out, decide_eq_false hn]; rfl), HB.out⟩
end Go.Proofs.Ytpkcnojcklmhmaa
