/- Walks of retort's High (slices.IndexFunc over its test): contracts. -/
import Derived.Test.YtpkdainpmgohiaaVz
namespace Go.Proofs.Ytpkdainpmgohiaa
open Go.RowKit

theorem vhighat_any (s t c b : Int) (w : World) : Calls Try.prog 109 #[.agg #[.int .i64 s, .int .i64 t, .int .i64 c, .int .i64 b]] w fun e w' => e = .returned (.bool (decide (t < c))) ∧ Below w.heap.size w w' := by
  go_enter Try.func109, Try.ntmps109
  go_wp2
  go_ret
  exact ⟨rfl, (Below.refl _ _).alloc (Nat.le_refl _) _⟩
set_option maxRecDepth 20000 in
set_option maxHeartbeats 4000000 in
theorem idxhigh_any (v : Value) (n : Nat) (r : Nat → Rd) (w : World) (hr : RowR w v n r) :
    Calls Try.prog 108 #[v, .func (.func 109) #[] #[]] w fun e w' => e = .returned (.int .i64 (highN n r)) ∧ Below w.heap.size w w' := by
  have HK := hid (fun w1 (g : Below w.heap.size w w1) => hr.keep g)
  have hnm := hr.most
  unfold maxLen at hnm
  obtain ⟨a, c, rfl⟩ := hr.shape
  clear hr
  go_enter Try.func108, Try.ntmps108
  go_wp2
  go_loopw [8] (fun t wr => ∃ k : Nat, k ≤ n ∧ t = .int .i64 (k : Int) ∧ Hid (∀ j, j < k → highB r j = false) ∧ Hid (Below w.heap.size w wr)) (fun t _ => n - (intOf t).toNat)
  case atStart => exact ⟨0, Nat.zero_le _, rfl, fun j h => absurd h (Nat.not_lt_zero _), Below.refl _ _⟩
  case round =>
    obtain ⟨k, hk, rfl, hok, hB⟩ := hrel
    by_cases hlt : k < n
    · have hlt' : (k : Int) < n := by omega
      obtain ⟨a', b', o', cap', hv, _, _, ha', hcell⟩ := HK.out _ hB.out
      injection hv with hv1 hv2 hv3
      subst hv1 hv3
      rcases ha' with h0 | rfl
      · omega
      obtain ⟨c0, c1, c2, c3⟩ := hcell k hlt
      clear hcell hv2
      have HSOME := hid (fun h => highN_some (r := r) hlt hok.out h)
      have HST := hid (fun (h : highB r k = false) => show ∀ j, j < k + 1 → highB r j = false from fun j hj => by
        rcases Nat.lt_succ_iff_lt_or_eq.1 hj with h1 | h1
        · exact hok.out j h1
        · rw [h1]; exact h)
      have HH := hid (show highB r k = decide ((r k).t < (r k).c) from rfl)
      clear hlt
      generalize (r k).s = x0 at c0
      generalize (r k).t = x1 at c1 HH
      generalize (r k).c = x2 at c2 HH
      generalize (r k).b = x3 at c3
      cases f1 : decide (x1 < x2)
      · have HF := hid (HST.out (by rw [HH.out, f1]))
        go_wp2_with (go_at_call 109; refine (vhighat_any _ _ _ _ _).mono ?_; rintro e w2 ⟨rfl, hb⟩; rw [f1])
        go_roundw
        case rel => exact ⟨k + 1, by omega, by go_num, HF, hid (bstep hB.out hB.out.size hb)⟩
        case measure => simp [intOf]; omega
      · have HF := hid (HSOME.out (by rw [HH.out, f1]))
        go_wp2_with (go_at_call 109; refine (vhighat_any _ _ _ _ _).mono ?_; rintro e w2 ⟨rfl, hb⟩; rw [f1])
        go_ret
        exact ⟨ret_int HF.out.symm, bstep hB.out hB.out.size hb⟩
    · obtain rfl : k = n := by omega
      have hE := hid (highN_none hok.out)
      go_wp2
      go_ret
      exact ⟨ret_int hE.out.symm, hB.out⟩
theorem vhigh_any (v : Value) (n : Nat) (r : Nat → Rd) (w : World) (hr : RowR w v n r) : Calls Try.prog 56 #[v] w fun e w' => e = .returned (.int .i64 (highN n r)) ∧ Below w.heap.size w w' := by
  have HR := hid hr
  clear hr
  go_enter Try.func56, Try.ntmps56
  go_wp2_with (go_at_call 108; refine (idxhigh_any _ _ _ _ HR.out).mono ?_; rintro e w2 ⟨rfl, hb⟩)
  go_ret
  exact ⟨rfl, hb⟩
end Go.Proofs.Ytpkdainpmgohiaa
