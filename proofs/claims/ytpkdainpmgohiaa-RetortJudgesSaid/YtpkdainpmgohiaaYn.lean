/- Walk of the reference's Vented: contract. -/
import Derived.Test.YtpkdainpmgohiaaYm
namespace Go.Proofs.Ytpkdainpmgohiaa
open Go.RowKit

set_option maxRecDepth 20000 in
set_option maxHeartbeats 4000000 in
theorem xvent_any (u : Value) (m : Nat) (p : Nat → St) (v : Value) (n : Nat) (r : Nat → Rd) (w : World) (hp : RowP w u m p) (hr : RowR w v n r) :
    Calls Try.prog 58 #[u, v] w (VentP m p n r w) := by
  have HK := hid (fun w1 (g : Below w.heap.size w w1) => hr.keep g)
  have HQ := hid (fun w1 (g : Below w.heap.size w w1) => (show RowP w1 u m p from RowT.keep hp g))
  have HP := hid hp
  have HR := hid hr
  have hnm := hr.most
  have hmm := RowT.most hp
  unfold maxLen at hnm hmm
  obtain ⟨pa, pc, rfl⟩ := RowT.shape hp
  obtain ⟨va, vc, rfl⟩ := hr.shape
  clear hp hr
  cases hrec : recB m p n r
  · have HREC := hid hrec
    go_enter Try.func58, Try.ntmps58
    go_wp2_with (go_at_call 52; refine (xrec_any _ _ _ _ _ _ _ HP.out HR.out).mono ?_; rintro e w1 ⟨rfl, hb⟩; rw [hrec]; have HB := hid hb; clear hb)
    refine bodyPost_ret (v := .tuple #[.bool false, .int .i64 1]) (by simp [results, Try.results58, go_sem]) rfl ?_
    exact ⟨_, _, rfl, .inl ⟨HREC.out, rfl, rfl⟩, HB.out⟩
  obtain ⟨hn, hm1, hm16, hst⟩ := rec_step hrec
  have HREC := hid hrec
  clear hst
  go_enter Try.func58, Try.ntmps58
  go_wp2_with (go_at_call 52; refine (xrec_any _ _ _ _ _ _ _ HP.out HR.out).mono ?_; rintro e w1 ⟨rfl, hb⟩; rw [hrec]; have HB := hid hb; clear hb)
  clear hrec
  go_loopw [6] (fun i wr => ∃ k : Nat, k ≤ m ∧ i = .int .i64 (k : Int) ∧ Hid (∀ i, i < k → VentOk p n r i) ∧ Hid (Below w.heap.size w wr)) (fun i _ => m - (intOf i).toNat)
  case atStart => exact ⟨0, Nat.zero_le _, rfl, fun i h => absurd h (Nat.not_lt_zero i), HB⟩
  case round =>
    obtain ⟨k, hk, rfl, hok, hB⟩ := hrel
    by_cases hlt : k < m
    · have hlt' : (k : Int) < m := by omega
      have HLT := hid hlt
      clear hlt
      go_wp2_with fail
      refine (xpart_any _ _ _ _ _ (HK.out _ hB.out)).mono ?_
      rintro e w2 ⟨f, t, hpp, rfl, hb⟩
      have HB2 := hid (bstep hB.out hB.out.size hb)
      have htop := hpp.top
      have hle := hpp.le
      have HPP := hid hpp
      clear hpp hb
      obtain ⟨a2, b2, o2, cap2, hv, _, _, ha2, hcell2⟩ := HQ.out _ HB2.out
      injection hv with hv1 hv2 hv3
      subst hv1 hv3
      rcases ha2 with h0 | rfl
      · have := HLT.out; omega
      obtain ⟨d0, d1, d2⟩ := hcell2 k HLT.out
      simp only at d0 d1 d2
      have HVO := hid (show VentOk p n r k = ((p k).k = 1 → ∃ f t : Nat, PartP n r k f t ∧ f < t ∧ (p k).n ≤ (t : Int) - f ∧ (p k).s ≤ (r (t - 1)).t) from rfl)
      generalize (p k).k = yk at d0 HVO
      generalize (p k).s = ys at d1 HVO
      generalize (p k).n = yn at d2 HVO
      clear hcell2 hv2
      by_cases hc1 : yk = 1
      case neg =>
        have g1 : (yk == 1) = false := by simpa using hc1
        have HV := hid (vent_all hok.out (by rw [HVO.out]; exact fun h => absurd h hc1))
        clear hc1 htop hle
        go_wp2
        go_quiet (fail)
        go_wp2
        go_roundw
        case rel => exact ⟨k + 1, by have := HLT.out; omega, by go_num, HV, hid (bdrewN HB2.out)⟩
        case measure => have := HLT.out; simp [intOf]; omega
      subst hc1
      by_cases hft : f = t
      · subst hft
        have HV : Hid (¬ VentOk p n r k) := by
          show ¬ VentOk p n r k
          rw [HVO.out]
          intro h
          obtain ⟨f2, t2, h1, h2, _⟩ := h rfl
          obtain ⟨rfl, rfl⟩ := HPP.out.one h1
          omega
        clear htop hle
        go_wp2
        go_quiet (fail)
        go_wp2
        refine bodyPost_ret (v := .tuple #[.bool false, .int .i64 0]) (by simp [results, Try.results58, go_sem]) rfl ?_
        exact ⟨_, _, rfl, .inr (.inr ⟨HREC.out, rfl, rfl, _, HLT.out, HV.out⟩), bdrewN HB2.out⟩
      obtain ⟨j, rfl⟩ : ∃ j, t = j + 1 := ⟨t - 1, by omega⟩
      have HIFF : VentOk p n r k ↔ (yn ≤ (j : Int) + 1 - f ∧ ys ≤ (r j).t) := by
        rw [HVO.out]
        constructor
        · intro h
          obtain ⟨f2, t2, h1, h2, h3, h4⟩ := h rfl
          obtain ⟨rfl, rfl⟩ := HPP.out.one h1
          rw [Nat.add_sub_cancel] at h4
          exact ⟨by omega, h4⟩
        · intro ⟨h1, h2⟩ _
          exact ⟨f, j + 1, HPP.out, by omega, by omega, by rwa [Nat.add_sub_cancel]⟩
      have HIFF := hid HIFF
      obtain ⟨a3, b3, o3, cap3, hv, _, _, ha3, hcell3⟩ := HK.out _ HB2.out
      injection hv with hv1 hv2 hv3
      subst hv1 hv3
      rcases ha3 with h0 | rfl
      · omega
      obtain ⟨c0, c1, c2, c3⟩ := hcell3 j (by omega)
      clear hcell3 hv2 c0 c2 c3
      generalize (r j).t = x at c1 HIFF
      have g2 : ((f : Int) == (j : Int) + 1) = false := by simp; omega
      have hjn : (j : Int) < n := by omega
      have hfj : f ≤ j := by omega
      have hw1 : IntKind.i64.wrap ((j : Int) + 1 - (f : Int)) = (j : Int) + 1 - (f : Int) := IntWalk.i64_in _ ⟨by omega, by omega⟩
      have hw2 : IntKind.i64.wrap (j : Int) = (j : Int) := IntWalk.i64_in _ ⟨by omega, by omega⟩
      clear htop hle hft
      by_cases h1 : (j : Int) + 1 - f < yn
      · have HV : Hid (¬ VentOk p n r k) := by
          show ¬ VentOk p n r k
          rw [HIFF.out]
          intro ⟨h2, h3⟩
          omega
        go_wp2
        go_quiet (fail)
        go_wp2
        refine bodyPost_ret (v := .tuple #[.bool false, .int .i64 0]) (by simp [results, Try.results58, go_sem]) rfl ?_
        exact ⟨_, _, rfl, .inr (.inr ⟨HREC.out, rfl, rfl, _, HLT.out, HV.out⟩), bdrewN HB2.out⟩
      have h1' : decide ((j : Int) + 1 - f < yn) = false := decide_eq_false h1
      by_cases h2 : x < ys
      · have HV : Hid (¬ VentOk p n r k) := by
          show ¬ VentOk p n r k
          rw [HIFF.out]
          intro ⟨h3, h4⟩
          omega
        clear h1
        go_wp2
        go_quiet (fail)
        go_wp2
        refine bodyPost_ret (v := .tuple #[.bool false, .int .i64 0]) (by simp [results, Try.results58, go_sem]) rfl ?_
        exact ⟨_, _, rfl, .inr (.inr ⟨HREC.out, rfl, rfl, _, HLT.out, HV.out⟩), bdrewN HB2.out⟩
      · have h2' : decide (x < ys) = false := decide_eq_false h2
        have HV := hid (vent_all hok.out (HIFF.out.2 ⟨by omega, by omega⟩))
        clear h1 h2
        go_wp2
        go_quiet (fail)
        go_wp2
        go_roundw
        case rel => exact ⟨k + 1, by have := HLT.out; omega, by go_num, HV, hid (bdrewN HB2.out)⟩
        case measure => have := HLT.out; simp [intOf]; omega
    · obtain rfl : k = m := by omega
      go_wp2
      refine bodyPost_ret (v := .tuple #[.bool true, .int .i64 0]) (by simp [results, Try.results58, go_sem]) rfl ?_
      exact ⟨_, _, rfl, .inr (.inl ⟨HREC.out, rfl, rfl, hok.out⟩), hB.out⟩
end Go.Proofs.Ytpkdainpmgohiaa
