/- Walk of RetortReads. -/
import Derived.Test.YtpkdainpmgohiaaYd
import Derived.Test.YtpkdainpmgohiaaVs
import Derived.Test.YtpkdainpmgohiaaVb
import Derived.Test.YtpkdainpmgohiaaVo
namespace Go.Proofs.Ytpkdainpmgohiaa
open Go.RowKit

theorem below_k {w w' : World} (h : ∃ n, w' = w.drewN n) : Below w.heap.size w w' := by obtain ⟨n, rfl⟩ := h; exact bdrewN (Below.refl _ _)
theorem bath_len (r : Nat → Rd) (n : Nat) : (bathsL r n).length = n := by unfold bathsL; simp
set_option maxRecDepth 20000 in
set_option maxHeartbeats 4000000 in
theorem reads_walk (u : Value) (m : Nat) (p : Nat → St) (v : Value) (n : Nat) (r : Nat → Rd) (st : Int) (w : World) (hp : RowP w u m p) (hr : RowR w v n r) (we : (Lit.int .i64 st).wf = true) :
    Calls Try.prog 10 #[u, v, .int .i64 st] w fun x w' => x = .returned (.bool true) ∧ Below w.heap.size w w' := by
  have hst : -9223372036854775808 ≤ st ∧ st ≤ 9223372036854775807 := by
    first
      | (simp [Lit.wf, IntKind.holds, IntKind.min, IntKind.max] at we; omega)
      | (simp [Lit.wf] at we; omega)
      | (have h : IntKind.i64.min ≤ st ∧ st ≤ IntKind.i64.max := by simpa [Lit.wf] using we
         exact h)
  have HST := hid hst
  clear we hst
  have HP := hid (fun w1 (g : Below w.heap.size w w1) => (show RowP w1 u m p from RowT.keep hp g))
  have HR := hid (fun w1 (g : Below w.heap.size w w1) => hr.keep g)
  have hn := hr.most
  have hm := RowT.most hp
  unfold maxLen at hn hm
  obtain ⟨pa, pc, rfl⟩ := RowT.shape hp
  obtain ⟨va, vc, rfl⟩ := hr.shape
  clear hr hp
  by_cases h1 : m ≤ 40
  case neg =>
    have d1 : decide (40 < (m : Int)) = true := by simp; omega
    go_enter Try.func10, Try.ntmps10
    go_wp2_with (go_at_call 41; refine (vawake_any _).mono ?_; rintro e w9 ⟨rfl, hb⟩)
    go_ret
    exact ⟨rfl, hb⟩
  have d1 : decide (40 < (m : Int)) = false := by simp; omega
  by_cases h2 : n ≤ 2100
  case neg =>
    have d2 : decide (2100 < (n : Int)) = true := by simp; omega
    go_enter Try.func10, Try.ntmps10
    go_wp2_with (go_at_call 41; refine (vawake_any _).mono ?_; rintro e w9 ⟨rfl, hb⟩)
    go_ret
    exact ⟨rfl, hb⟩
  have d2 : decide (2100 < (n : Int)) = false := by simp; omega
  have H2 := hid h2
  have HB := hid (Below.refl w.heap.size w)
  obtain ⟨b1, hb1⟩ : ∃ b, b = recB m p n r := ⟨_, rfl⟩
  obtain ⟨b2, hb2⟩ : ∃ b, b = wholeB m p n r := ⟨_, rfl⟩
  obtain ⟨b3, hb3⟩ : ∃ b, b = highN n r := ⟨_, rfl⟩
  have H3 := hid hb1; have H4 := hid hb2; have H5 := hid hb3
  have s1 : (b1 == b1) = true := by cases b1 <;> rfl
  have s2 : (b2 == b2) = true := by cases b2 <;> rfl
  have s3 : (b3 == b3) = true := by simp
  clear hb1 hb2 hb3 h1 h2
  go_enter Try.func10, Try.ntmps10
  go_wp2_with fail
  refine (vpart_any _ _ _ _ _ _ _ _ (HP.out _ HB.out) (HR.out _ HB.out) HST.out).mono ?_
  rintro e w1 ⟨a, b, c, rfl, hv, hb⟩
  have HB := hid (bstep HB.out HB.out.size hb)
  have HV1 := hid hv
  clear hb hv
  go_wp2_with fail
  refine (xPart_any _ _ _ _ _ _ _ _ (HP.out _ HB.out) (HR.out _ HB.out) HST.out).mono ?_
  rintro e w2 ⟨a2, b2', c2, rfl, hv, hb⟩
  have HB := hid (bstep HB.out HB.out.size hb)
  obtain ⟨ha, hb', hc⟩ := HV1.out.one hv
  subst ha hb' hc
  clear hb hv HV1
  have s4 : (a == a) = true := by simp
  have s5 : (b == b) = true := by simp
  have s6 : (c == c) = true := by simp
  go_wp2_with fail
  refine (vrec_any _ _ _ _ _ _ _ (HP.out _ HB.out) (HR.out _ HB.out)).mono ?_
  rintro e w3 ⟨rfl, hb⟩
  rw [← H3.out]
  have HB := hid (bstep HB.out HB.out.size hb)
  clear hb
  go_wp2_with fail
  refine (xrec_any _ _ _ _ _ _ _ (HP.out _ HB.out) (HR.out _ HB.out)).mono ?_
  rintro e w4 ⟨rfl, hb⟩
  rw [← H3.out]
  have HB := hid (bstep HB.out HB.out.size hb)
  clear hb
  go_wp2_with fail
  refine (vwhole_any _ _ _ _ _ _ _ (HP.out _ HB.out) (HR.out _ HB.out)).mono ?_
  rintro e w5 ⟨rfl, hb⟩
  rw [← H4.out]
  have HB := hid (bstep HB.out HB.out.size hb)
  clear hb
  go_wp2_with fail
  refine (xwhole_any _ _ _ _ _ _ _ (HP.out _ HB.out) (HR.out _ HB.out)).mono ?_
  rintro e w6 ⟨rfl, hb⟩
  rw [← H4.out]
  have HB := hid (bstep HB.out HB.out.size hb)
  clear hb
  go_wp2_with fail
  refine (baths_any _ _ _ _ (HR.out _ HB.out) H2.out).mono ?_
  rintro e w7 ⟨l1, rfl, hl, hb⟩
  have HB := hid (bstep HB.out HB.out.size hb)
  have R1 := hid (hl.rowI (by rw [bath_len]; have := H2.out; omega))
  clear hb hl
  go_wp2_with fail
  refine (xbaths_any _ _ _ _ (HR.out _ HB.out) H2.out).mono ?_
  rintro e w8 ⟨l2, rfl, hl, hb⟩
  have HB := hid (bstep HB.out HB.out.size hb)
  have R2 := hid (hl.rowI (by rw [bath_len]; have := H2.out; omega))
  have R1 := hid (R1.out.keep hb)
  clear hb hl
  go_wp2_with fail
  refine (sameI_any _ _ _ _ _ R1.out R2.out).mono ?_
  rintro e w9 ⟨rfl, hd⟩
  rw [decide_eq_true (rfl : bathsL r n = bathsL r n)]
  have HB := hid (bstep HB.out HB.out.size (below_k hd))
  clear hd R1 R2
  go_wp2_with fail
  refine (vhigh_any _ _ _ _ (HR.out _ HB.out)).mono ?_
  rintro e w10 ⟨rfl, hb⟩
  rw [← H5.out]
  have HB := hid (bstep HB.out HB.out.size hb)
  clear hb
  go_wp2_with fail
  refine (xhigh_any _ _ _ _ (HR.out _ HB.out)).mono ?_
  rintro e w11 ⟨rfl, hb⟩
  rw [← H5.out]
  have HB := hid (bstep HB.out HB.out.size hb)
  clear hb
  go_wp2_with fail
  refine (vawake_any _).mono ?_
  rintro e w12 ⟨rfl, hb⟩
  have HB := hid (bstep HB.out HB.out.size hb)
  clear hb
  go_wp2_with fail
  go_ret
  exact ⟨rfl, HB.out⟩
end Go.Proofs.Ytpkdainpmgohiaa
