/- Walk of RetortJudges. -/
import Derived.Test.YtpkdainpmgohiaaYn
import Derived.Test.YtpkdainpmgohiaaYj
import Derived.Test.YtpkdainpmgohiaaVo
namespace Go.Proofs.Ytpkdainpmgohiaa
open Go.RowKit

theorem RowD.keep {W w2 : World} {v : Value} {l : List Tri} (h : RowD W v l) (hb : Below W.heap.size W w2) : RowD w2 v l := RowT.keep h hb
theorem RowD.shape {w : World} {v : Value} {l : List Tri} (h : RowD w v l) : ∃ a c, v = .slice a l.length c := RowT.shape h
set_option maxRecDepth 20000 in
set_option maxHeartbeats 4000000 in
theorem judges_walk (u : Value) (m : Nat) (p : Nat → St) (v : Value) (n : Nat) (r : Nat → Rd) (t : Int) (w : World) (hp : RowP w u m p) (hr : RowR w v n r) (we : (Lit.int .i64 t).wf = true) :
    Calls Try.prog 11 #[u, v, .int .i64 t] w fun x w' => x = .returned (.bool true) ∧ Below w.heap.size w w' := by
  clear we
  have HP := hid (fun w1 (g : Below w.heap.size w w1) => (show RowP w1 u m p from RowT.keep hp g))
  have HR := hid (fun w1 (g : Below w.heap.size w w1) => hr.keep g)
  have hn := hr.most
  have hm := RowT.most hp
  unfold maxLen at hn hm
  obtain ⟨pa, pc, rfl⟩ := RowT.shape hp
  obtain ⟨va, vc, rfl⟩ := hr.shape
  clear hr hp
  by_cases h1 : m ≤ 40
  case neg =>
    have d1 : decide (40 < (m : Int)) = true := by simp; omega
    go_enter Try.func11, Try.ntmps11
    go_wp2_with (go_at_call 41; refine (vawake_any _).mono ?_; rintro e w9 ⟨rfl, hb⟩)
    go_ret
    exact ⟨rfl, hb⟩
  have d1 : decide (40 < (m : Int)) = false := by simp; omega
  by_cases h2 : n ≤ 2100
  case neg =>
    have d2 : decide (2100 < (n : Int)) = true := by simp; omega
    go_enter Try.func11, Try.ntmps11
    go_wp2_with (go_at_call 41; refine (vawake_any _).mono ?_; rintro e w9 ⟨rfl, hb⟩)
    go_ret
    exact ⟨rfl, hb⟩
  have d2 : decide (2100 < (n : Int)) = false := by simp; omega
  have HN := hid h2
  have HB := hid (Below.refl w.heap.size w)
  clear h1 h2
  go_enter Try.func11, Try.ntmps11
  go_wp2_with fail
  refine (vvent_any _ _ _ _ _ _ _ (HP.out _ HB.out) (HR.out _ HB.out)).mono ?_
  rintro e w1 ⟨a, c, rfl, hv, hb⟩
  have HB := hid (bstep HB.out HB.out.size hb)
  have HV1 := hid hv
  clear hb hv
  go_wp2_with fail
  refine (xvent_any _ _ _ _ _ _ _ (HP.out _ HB.out) (HR.out _ HB.out)).mono ?_
  rintro e w2 ⟨a2, c2, rfl, hv, hb⟩
  have HB := hid (bstep HB.out HB.out.size hb)
  obtain ⟨ha, hc⟩ := HV1.out.one hv
  subst ha hc
  clear hb hv HV1
  have s1 : (a != a) = false := by cases a <;> rfl
  have s2 : (c != c) = false := by simp
  go_wp2_with fail
  refine (cook_any _ _ _ _ _ _ _ _ (HP.out _ HB.out) (HR.out _ HB.out)).mono ?_
  rintro e w3 ⟨a3, c3, rfl, hv, hb⟩
  have HB := hid (bstep HB.out HB.out.size hb)
  have HV1 := hid hv
  clear hb hv
  go_wp2_with fail
  refine (xcook_any _ _ _ _ _ _ _ _ (HP.out _ HB.out) (HR.out _ HB.out)).mono ?_
  rintro e w4 ⟨a4, c4, rfl, hv, hb⟩
  have HB := hid (bstep HB.out HB.out.size hb)
  obtain ⟨ha, hc⟩ : a3 = a4 ∧ c3 = c4 := by
    rcases HV1.out with ⟨h1, rfl, rfl⟩ | ⟨h1, rfl, rfl⟩ <;> rcases hv with ⟨g1, rfl, rfl⟩ | ⟨g1, rfl, rfl⟩
    all_goals first
      | exact ⟨rfl, rfl⟩
      | (rw [h1] at g1; cases g1; done)
  subst ha hc
  clear hb hv HV1
  have s3 : (a3 != a3) = false := by simp
  have s4 : (c3 != c3) = false := by simp
  go_wp2_with fail
  refine (dev_any _ _ _ _ _ _ _ (HP.out _ HB.out) (HR.out _ HB.out)).mono ?_
  rintro e w5 ⟨lv, l, c5, rfl, hv, hd, hb⟩
  have HB := hid (bstep HB.out HB.out.size hb)
  have HV1 := hid hv
  have HD0 := hid hd
  clear hb hv hd
  go_wp2_with fail
  refine (xdev_any _ _ _ _ _ _ _ (HP.out _ HB.out) (HR.out _ HB.out)).mono ?_
  rintro e w6 ⟨kv, l2, c6, rfl, hv, hd, hb⟩
  have HB := hid (bstep HB.out HB.out.size hb)
  have HD0 := hid (HD0.out.keep hb)
  obtain ⟨ha, hc⟩ : l = l2 ∧ c5 = c6 := by
    rcases HV1.out with ⟨h1, rfl, rfl⟩ | ⟨h1, rfl, rfl⟩ <;> rcases hv with ⟨g1, rfl, rfl⟩ | ⟨g1, rfl, rfl⟩
    all_goals first
      | exact ⟨rfl, rfl⟩
      | (rw [h1] at g1; cases g1; done)
  subst ha hc
  have hfew : l.length ≤ n := by
    rcases hv with ⟨h1, rfl, rfl⟩ | ⟨h1, rfl, rfl⟩
    · exact (dev_ok p r n).few
    · exact Nat.zero_le _
  have HX1 := hid (fun w1 (g : Below w6.heap.size w6 w1) => HD0.out.keep g)
  have HX2 := hid (fun w1 (g : Below w6.heap.size w6 w1) => hd.keep g)
  obtain ⟨la, lc, rfl⟩ := HD0.out.shape
  obtain ⟨ka, kc, rfl⟩ := hd.shape
  obtain ⟨L, hL⟩ : ∃ L, L = l.length := ⟨_, rfl⟩
  have HL := hid hL
  rw [← hL] at hfew ⊢
  have s5 : (c5 != c5) = false := by simp
  have s6 : ((L : Int) != (L : Int)) = false := by simp
  clear hb hv HV1 hd hL HD0
  go_wp2
  go_loopw [15] (fun i wr => ∃ k : Nat, k ≤ L ∧ i = .int .i64 (k : Int) ∧ Hid (Below w6.heap.size w6 wr)) (fun i _ => L - (intOf i).toNat)
  case atStart => exact ⟨0, Nat.zero_le _, rfl, Below.refl _ _⟩
  case round =>
    obtain ⟨k, hk, rfl, hB⟩ := hrel
    by_cases hlt : k < L
    · have hlt' : (k : Int) < L := by omega
      obtain ⟨a', b', o', cap', hv, _, _, ha', hcell⟩ := HX1.out _ hB.out
      rw [← HL.out] at hv ha' hcell
      injection hv with hv1 hv2 hv3
      subst hv1 hv3
      obtain ⟨a2, b2, o2, cap2, hv, _, _, ha2, hcell2⟩ := HX2.out _ hB.out
      rw [← HL.out] at hv ha2 hcell2
      injection hv with hv1 hv2 hv3
      subst hv1 hv3
      rcases ha' with h0 | rfl
      · omega
      rcases ha2 with h0 | rfl
      · omega
      obtain ⟨c0, c1, c2⟩ := hcell k hlt
      obtain ⟨e0, e1, e2⟩ := hcell2 k hlt
      simp only at c0 c1 c2 e0 e1 e2
      clear hcell hcell2 hv2
      obtain ⟨⟨x, y, z⟩, hd⟩ : ∃ d, d = l.getD k ⟨0, 0, 0⟩ := ⟨_, rfl⟩
      rw [← hd] at c0 c1 c2 e0 e1 e2
      simp only at c0 c1 c2 e0 e1 e2
      clear hd
      have HLT := hid hlt
      clear hlt
      go_wp2
      go_quiet (fail)
      go_wp2
      go_roundw
      case rel => exact ⟨k + 1, HLT.out, by go_num, hid (bdrewN hB.out)⟩
      case measure => have := HLT.out; simp [intOf]; omega
    · obtain rfl : k = L := by omega
      have HB9 := hid (bstep HB.out HB.out.size hB.out)
      go_wp2_with (go_at_call 41; refine (vawake_any _).mono ?_; rintro e w9 ⟨rfl, hb⟩; have HB3 := hid (bstep HB9.out HB9.out.size hb); clear hb)
      go_ret
      exact ⟨rfl, HB3.out⟩
end Go.Proofs.Ytpkdainpmgohiaa
