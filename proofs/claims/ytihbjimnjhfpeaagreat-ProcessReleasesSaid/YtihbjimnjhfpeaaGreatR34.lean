/- Texts of this seat, one behind the other. -/
import Derived.Test.YtihbjimnjhfpeaaGreatR33
/- Walk of the reference's ValidRecord: contract. -/
namespace Go.Proofs.YtihbjimnjhfpeaaGreat.Rt
open Go.RowKit

theorem in_lo_hi {s L Hh : Int} (h1 : L ≤ s) (h2 : s ≤ Hh) : inB s L Hh = true := inB_iff.2 ⟨h1, h2⟩
theorem in_no {s L Hh : Int} (h : ¬ (L ≤ s ∧ s ≤ Hh)) : inB s L Hh = false := inB_not.2 h
set_option maxRecDepth 20000 in
set_option maxHeartbeats 8000000 in
theorem xrec_any (u : Value) (m : Nat) (p : Nat → St) (v : Value) (n : Nat) (r : Nat → Rd) (w : World) (hp : RowP w u m p) (hr : RowR w v n r) :
    Calls Tryz.prog 47 #[u, v] w fun e w' => e = .returned (.bool (recB m p n r)) ∧ Below w.heap.size w w' := by
  have HK := hid (fun w1 (g : Below w.heap.size w w1) => hr.keep g)
  have HP := hid hp
  have hnm := hr.most
  have hmm := RowT.most hp
  unfold maxLen at hnm hmm
  obtain ⟨pa, pc, rfl⟩ := RowT.shape hp
  obtain ⟨va, vc, rfl⟩ := hr.shape
  clear hp hr
  cases hpr : progB m p
  · have hE := hid (recB_prog (n := n) (r := r) hpr)
    go_enter Tryz.func47, Tryz.ntmps47
    go_wp2_with (go_at_call 90; refine (xprog_any _ _ _ _ HP.out).mono ?_; rintro e w1 ⟨rfl, hb⟩; rw [hpr])
    go_ret
    exact ⟨ret_bool hE.out.symm, hb⟩
  by_cases hn : 2000 < n
  · have hE := hid (recB_long (m := m) (p := p) (r := r) hn)
    have hd : decide (2000 < (n : Int)) = true := by simp; omega
    go_enter Tryz.func47, Tryz.ntmps47
    go_wp2_with (go_at_call 90; refine (xprog_any _ _ _ _ HP.out).mono ?_; rintro e w1 ⟨rfl, hb⟩; rw [hpr])
    go_ret
    exact ⟨ret_bool hE.out.symm, hb⟩
  have hd : decide (2000 < (n : Int)) = false := by simp; omega
  obtain ⟨hm1, hm16⟩ := progB_one hpr
  have HN := hid (show n ≤ 2000 by omega)
  have HPR := hid hpr
  clear hn
  go_enter Tryz.func47, Tryz.ntmps47
  go_wp2_with (go_at_call 90; refine (xprog_any _ _ _ _ HP.out).mono ?_; rintro e w1 ⟨rfl, hb⟩; rw [hpr]; have HB := hid hb; clear hb)
  clear hpr
  go_loopw [5, 6] (fun lo t wr => ∃ k : Nat, k ≤ n ∧ t = .int .i64 (k : Int) ∧ lo = .int .i64 (loS r k) ∧ Hid (∀ j, j < k → recAt m r j = true) ∧ Hid (Below w.heap.size w wr)) (fun _ t _ => n - (intOf t).toNat)
  case atStart => exact ⟨0, Nat.zero_le _, rfl, rfl, fun j h => absurd h (Nat.not_lt_zero _), HB⟩
  case round =>
    obtain ⟨k, hk, rfl, rfl, hok, hB⟩ := hrel
    by_cases hlt : k < n
    · have hlt' : (k : Int) < n := by omega
      obtain ⟨a', b', o', cap', hv, _, _, ha', hcell⟩ := HK.out _ hB.out
      injection hv with hv1 hv2 hv3
      subst hv1 hv3
      rcases ha' with h0 | rfl
      · omega
      obtain ⟨c0, c1, c2, c3⟩ := hcell k hlt
      have HB2 := hid (hB.out.alloc hB.out.size (.cells #[.int .i64 (r k).s, .int .i64 (r k).t, .int .i64 (r k).c, .int .i64 (r k).b] 56))
      have HST := hid (fun h => all_step hok.out (k := k) h)
      have HBAD := hid (fun h => recB_bad (m := m) (p := p) (r := r) hlt h)
      have HRE := hid (recAt_eq m r k)
      have hbd := rec_bd hm1 hok.out
      have HL1 := hid (show loS r (k + 1) = (r k).s from rfl)
      have hz : (k = 0 → loS r k = 0 ∧ hiS m r k = 0) ∧ (k ≠ 0 → hiS m r k = min (loS r k + 1) ((m : Int) - 1)) := by
        cases k with
        | zero => exact ⟨fun _ => ⟨rfl, rfl⟩, fun h => absurd rfl h⟩
        | succ j => exact ⟨fun h => by omega, fun _ => rfl⟩
      obtain ⟨x, hX⟩ : ∃ x, x = r k := ⟨_, rfl⟩
      rw [← hX] at c0 c1 c2 c3 HB2 HRE HL1
      clear hX hcell hv2 hlt
      obtain ⟨s, t, c, b⟩ := x
      simp only at c0 c1 c2 c3 HB2
      have HL1 := hid (show loS r (k + 1) = s from HL1.out)
      have HRE := hid (show recAt m r k = (inB s (loS r k) (hiS m r k) && readB ⟨s, t, c, b⟩) from HRE.out)
      obtain ⟨L, hL⟩ : ∃ L, L = loS r k := ⟨_, rfl⟩
      obtain ⟨Hh, hH⟩ : ∃ L, L = hiS m r k := ⟨_, rfl⟩
      rw [← hL, ← hH] at hbd HRE hz
      rw [← hL]
      clear hL hH
      obtain ⟨hb1, hb2, hb3, hb4⟩ := hbd
      obtain ⟨hz1, hz2⟩ := hz
      have hin : (k = 0 ∧ s ≠ 0 ∨ k ≠ 0 ∧ s < L ∨ k ≠ 0 ∧ L ≤ s ∧ L + 1 < s ∨ k ≠ 0 ∧ L ≤ s ∧ s ≤ L + 1 ∧ (m : Int) ≤ s) ∧ inB s L Hh = false ∨ ((k ≠ 0 ∨ k = 0 ∧ s = 0) ∧ L ≤ s ∧ s ≤ L + 1 ∧ s < (m : Int)) ∧ inB s L Hh = true := by
        by_cases hk0 : k = 0
        · obtain ⟨z1, z2⟩ := hz1 hk0
          by_cases hs0 : s = 0
          · exact .inr ⟨⟨.inr ⟨hk0, hs0⟩, by omega, by omega, by omega⟩, in_lo_hi (by omega) (by omega)⟩
          · exact .inl ⟨.inl ⟨hk0, hs0⟩, in_no (by omega)⟩
        · have z2 := hz2 hk0
          by_cases q1 : s < L
          · exact .inl ⟨.inr (.inl ⟨hk0, q1⟩), in_no (by omega)⟩
          · by_cases q2 : L + 1 < s
            · exact .inl ⟨.inr (.inr (.inl ⟨hk0, by omega, q2⟩)), in_no (by omega)⟩
            · by_cases q3 : (m : Int) ≤ s
              · exact .inl ⟨.inr (.inr (.inr ⟨hk0, by omega, by omega, q3⟩)), in_no (by omega)⟩
              · exact .inr ⟨⟨.inl hk0, by omega, by omega, by omega⟩, in_lo_hi (by omega) (by omega)⟩
      clear hz1 hz2
      rcases hin with ⟨h | ⟨h, h5⟩ | ⟨h, h4, h5⟩ | ⟨h, h4, h5, h6⟩, e1⟩ | ⟨⟨h, h4, h5, h6⟩, e1⟩
      · have HF := hid (HBAD.out (by rw [HRE.out, e1]; rfl))
        have f1 : ((k : Int) == 0) = true := by rw [h.1]; rfl
        have f2 : (s != 0) = true := by simpa using h.2
        clear h
        go_wp2_with fail
        go_ret
        exact ⟨ret_bool HF.out.symm, HB2.out⟩
      · have HF := hid (HBAD.out (by rw [HRE.out, e1]; rfl))
        have f3 : decide (s < L) = true := by simpa using h5
        have f1 : ((k : Int) == 0) = false := by simp; omega
        clear h
        go_wp2_with fail
        go_ret
        exact ⟨ret_bool HF.out.symm, HB2.out⟩
      · have HF := hid (HBAD.out (by rw [HRE.out, e1]; rfl))
        have f3 : decide (s < L) = false := by simp; omega
        have f4 : decide (L + 1 < s) = true := by simpa using h5
        have f1 : ((k : Int) == 0) = false := by simp; omega
        clear h
        go_wp2_with fail
        go_ret
        exact ⟨ret_bool HF.out.symm, HB2.out⟩
      · have HF := hid (HBAD.out (by rw [HRE.out, e1]; rfl))
        have f3 : decide (s < L) = false := by simp; omega
        have f4 : decide (L + 1 < s) = false := by simp; omega
        have f5 : decide ((m : Int) ≤ s) = true := by simpa using h6
        have f1 : ((k : Int) == 0) = false := by simp; omega
        clear h
        go_wp2_with fail
        go_ret
        exact ⟨ret_bool HF.out.symm, HB2.out⟩
      · have f3 : decide (s < L) = false := by simp; omega
        have f4 : decide (L + 1 < s) = false := by simp; omega
        have f5 : decide ((m : Int) ≤ s) = false := by simp; omega
        have HE := hid (readB_eq s t c b)
        have hz : ((k : Int) == 0) = false ∨ ((k : Int) == 0) = true ∧ s = 0 := by
          rcases h with h | ⟨h, h'⟩
          · exact .inl (by simp; omega)
          · exact .inr ⟨by rw [h]; rfl, h'⟩
        clear h
        rcases hz with f1 | ⟨f1, rfl⟩
        all_goals
          rcases threeR (inB t (-1000000) 1000000) (inB c (-1000000) 1000000) (inB b (-1000000) 1000000) with g1 | ⟨g1, g2⟩ | ⟨g1, g2, g3⟩ | ⟨g1, g2, g3⟩
          · have HF := hid (HBAD.out (by rw [HRE.out, e1, HE.out, g1]; rfl))
            go_wp2_with (go_at_call 91; refine (xwithin_any _ _ _ _).mono ?_; rintro e w' ⟨rfl, rfl⟩)
            go_ret
            exact ⟨ret_bool HF.out.symm, HB2.out⟩
          · have HF := hid (HBAD.out (by rw [HRE.out, e1, HE.out, g1, g2]; rfl))
            go_wp2_with (go_at_call 91; refine (xwithin_any _ _ _ _).mono ?_; rintro e w' ⟨rfl, rfl⟩)
            go_ret
            exact ⟨ret_bool HF.out.symm, HB2.out⟩
          · have HF := hid (HBAD.out (by rw [HRE.out, e1, HE.out, g1, g2, g3]; rfl))
            go_wp2_with (go_at_call 91; refine (xwithin_any _ _ _ _).mono ?_; rintro e w' ⟨rfl, rfl⟩)
            go_ret
            exact ⟨ret_bool HF.out.symm, HB2.out⟩
          · have HF := hid (HST.out (by rw [HRE.out, e1, HE.out, g1, g2, g3]; rfl))
            go_wp2_with (go_at_call 91; refine (xwithin_any _ _ _ _).mono ?_; rintro e w' ⟨rfl, rfl⟩)
            go_roundw
            case rel => exact ⟨k + 1, by omega, by go_num, int_eq HL1.out.symm, HF, HB2⟩
            case measure => simp [intOf]; omega
    · obtain rfl : k = n := by omega
      have hE := hid (recB_end HPR.out HN.out hok.out)
      go_wp2
      go_ret
      exact ⟨ret_bool hE.out.symm, hB.out⟩
end Go.Proofs.YtihbjimnjhfpeaaGreat.Rt

/- Walks of the reference's High and of Whole of both: contracts. -/
namespace Go.Proofs.YtihbjimnjhfpeaaGreat.Rt
open Go.RowKit

def wholeB (m : Nat) (p : Nat → St) (n : Nat) (r : Nat → Rd) : Bool := recB m p n r && (decide (0 < n) && decide ((r (n - 1)).s = (m : Int) - 1))
set_option maxRecDepth 20000 in
set_option maxHeartbeats 4000000 in
theorem xhigh_any (v : Value) (n : Nat) (r : Nat → Rd) (w : World) (hr : RowR w v n r) : Calls Tryz.prog 15 #[v] w fun e w' => e = .returned (.int .i64 (highN n r)) ∧ Below w.heap.size w w' := by
  have HK := hid (fun w1 (g : Below w.heap.size w w1) => hr.keep g)
  have hnm := hr.most
  unfold maxLen at hnm
  obtain ⟨a, c, rfl⟩ := hr.shape
  clear hr
  go_enter Tryz.func15, Tryz.ntmps15
  go_wp2
  go_loopw [3] (fun t wr => ∃ k : Nat, k ≤ n ∧ t = .int .i64 (k : Int) ∧ Hid (∀ j, j < k → highB r j = false) ∧ Hid (Below w.heap.size w wr)) (fun t _ => n - (intOf t).toNat)
  case atStart => exact ⟨0, Nat.zero_le _, rfl, fun j h => absurd h (Nat.not_lt_zero _), Below.refl _ _⟩
  case round =>
    obtain ⟨k, hk, rfl, hok, hB⟩ := hrel
    by_cases hlt : k < n
    · have hlt' : (k : Int) < n := by omega
      obtain ⟨a', b', o', cap', hv, _, _, ha', hcell⟩ := HK.out _ hB.out
      injection hv with hv1 hv2 hv3
      subst hv1 hv3
      rcases ha' with h0 | rfl
      · omega
      obtain ⟨c0, c1, c2, c3⟩ := hcell k hlt
      clear hcell hv2
      have HSOME := hid (fun h => highN_some (r := r) hlt hok.out h)
      have HST := hid (fun (h : highB r k = false) => show ∀ j, j < k + 1 → highB r j = false from fun j hj => by
        rcases Nat.lt_succ_iff_lt_or_eq.1 hj with h1 | h1
        · exact hok.out j h1
        · rw [h1]; exact h)
      have HH := hid (show highB r k = decide ((r k).t < (r k).c) from rfl)
      clear hlt
      generalize (r k).s = x0 at c0
      generalize (r k).t = x1 at c1 HH
      generalize (r k).c = x2 at c2 HH
      generalize (r k).b = x3 at c3
      by_cases e1 : x1 < x2
      · have f1 : decide (x1 < x2) = true := by simpa using e1
        have HF := hid (HSOME.out (by rw [HH.out, f1]))
        go_wp2
        go_quiet (fail)
        go_wp2
        go_ret
        exact ⟨ret_int HF.out.symm, by first | exact hB.out | exact bdrewN hB.out⟩
      · have f1 : decide (x1 < x2) = false := by simpa using e1
        have HF := hid (HST.out (by rw [HH.out, f1]))
        go_wp2
        go_quiet (fail)
        go_wp2
        go_roundw
        case rel => exact ⟨k + 1, by omega, by go_num, HF, by first | exact hB | exact hid (bdrewN hB.out)⟩
        case measure => simp [intOf]; omega
    · obtain rfl : k = n := by omega
      have hE := hid (highN_none hok.out)
      go_wp2
      go_ret
      exact ⟨ret_int hE.out.symm, hB.out⟩
theorem wholeB_eq (m : Nat) (p : Nat → St) (n : Nat) (r : Nat → Rd) : wholeB m p n r = (recB m p n r && (decide (0 < n) && decide ((r (n - 1)).s = (m : Int) - 1))) := rfl
set_option maxRecDepth 20000 in
set_option maxHeartbeats 4000000 in
theorem vwhole_any (u : Value) (m : Nat) (p : Nat → St) (v : Value) (n : Nat) (r : Nat → Rd) (w : World) (hp : RowP w u m p) (hr : RowR w v n r) :
    Calls Tryz.prog 132 #[u, v] w fun e w' => e = .returned (.bool (wholeB m p n r)) ∧ Below w.heap.size w w' := by
  have HK := hid (fun w1 (g : Below w.heap.size w w1) => hr.keep g)
  have HP := hid hp
  have HR := hid hr
  have hnm := hr.most
  have hmm := RowT.most hp
  unfold maxLen at hnm hmm
  have HE := hid (wholeB_eq m p n r)
  obtain ⟨pa, pc, rfl⟩ := RowT.shape hp
  obtain ⟨va, vc, rfl⟩ := hr.shape
  clear hp hr
  obtain ⟨br, hbr⟩ : ∃ b, b = recB m p n r := ⟨_, rfl⟩
  have HBR := hid hbr
  clear hbr
  cases br
  · go_enter Tryz.func132, Tryz.ntmps132
    go_wp2_with (go_at_call 41; refine (vrec_any _ _ _ _ _ _ _ HP.out HR.out).mono ?_; rintro e w1 ⟨rfl, hb⟩; rw [← HBR.out]; have HB := hid hb; clear hb)
    go_ret
    exact ⟨ret_bool (by rw [HE.out, ← HBR.out]; rfl), HB.out⟩
  by_cases hn : 0 < n
  · obtain ⟨k, rfl⟩ : ∃ k, n = k + 1 := ⟨n - 1, by omega⟩
    have HE2 := hid (show wholeB m p (k + 1) r = (recB m p (k + 1) r && ((r k).s == (m : Int) - 1)) by rw [HE.out, decide_eq_true hn, Bool.true_and]; rfl)
    have hk1 : (0 : Int) < (k : Int) + 1 := by omega
    clear hn
    go_enter Tryz.func132, Tryz.ntmps132
    go_wp2_with (go_at_call 41; refine (vrec_any _ _ _ _ _ _ _ HP.out HR.out).mono ?_; rintro e w1 ⟨rfl, hb⟩; rw [← HBR.out]; have HB := hid hb; clear hb; obtain ⟨a', b', o', cap', hv, _, _, ha', hcell⟩ := HK.out _ HB.out; injection hv with hv1 hv2 hv3; subst hv1 hv3; rcases ha' with h0 | rfl; (· omega); obtain ⟨c0, c1, c2, c3⟩ := hcell k (Nat.lt_succ_self k); clear hcell hv2; generalize (r k).s = x0 at c0 HE2; generalize (r k).t = x1 at c1; generalize (r k).c = x2 at c2; generalize (r k).b = x3 at c3)
    go_ret
    exact ⟨ret_bool (by rw [HE2.out, ← HBR.out]; rfl), HB.out⟩
  · have f1 : decide ((0 : Int) < (n : Int)) = false := by simp; omega
    go_enter Tryz.func132, Tryz.ntmps132
    go_wp2_with (go_at_call 41; refine (vrec_any _ _ _ _ _ _ _ HP.out HR.out).mono ?_; rintro e w1 ⟨rfl, hb⟩; rw [← HBR.out]; have HB := hid hb; clear hb)
    go_ret
    exact ⟨ret_bool (by rw [HE.out, ← HBR.out, decide_eq_false hn]; rfl), HB.out⟩
set_option maxRecDepth 20000 in
set_option maxHeartbeats 4000000 in
theorem xwhole_any (u : Value) (m : Nat) (p : Nat → St) (v : Value) (n : Nat) (r : Nat → Rd) (w : World) (hp : RowP w u m p) (hr : RowR w v n r) :
    Calls Tryz.prog 14 #[u, v] w fun e w' => e = .returned (.bool (wholeB m p n r)) ∧ Below w.heap.size w w' := by
  have HK := hid (fun w1 (g : Below w.heap.size w w1) => hr.keep g)
  have HP := hid hp
  have HR := hid hr
  have hnm := hr.most
  have hmm := RowT.most hp
  unfold maxLen at hnm hmm
  have HE := hid (wholeB_eq m p n r)
  obtain ⟨pa, pc, rfl⟩ := RowT.shape hp
  obtain ⟨va, vc, rfl⟩ := hr.shape
  clear hp hr
  obtain ⟨br, hbr⟩ : ∃ b, b = recB m p n r := ⟨_, rfl⟩
  have HBR := hid hbr
  clear hbr
  cases br
  · go_enter Tryz.func14, Tryz.ntmps14
    go_wp2_with (go_at_call 47; refine (xrec_any _ _ _ _ _ _ _ HP.out HR.out).mono ?_; rintro e w1 ⟨rfl, hb⟩; rw [← HBR.out]; have HB := hid hb; clear hb)
    go_ret
    exact ⟨ret_bool (by rw [HE.out, ← HBR.out]; rfl), HB.out⟩
  by_cases hn : 0 < n
  · obtain ⟨k, rfl⟩ : ∃ k, n = k + 1 := ⟨n - 1, by omega⟩
    have HE2 := hid (show wholeB m p (k + 1) r = (recB m p (k + 1) r && ((r k).s == (m : Int) - 1)) by rw [HE.out, decide_eq_true hn, Bool.true_and]; rfl)
    have hk1 : (0 : Int) < (k : Int) + 1 := by omega
    clear hn
    go_enter Tryz.func14, Tryz.ntmps14
    go_wp2_with (go_at_call 47; refine (xrec_any _ _ _ _ _ _ _ HP.out HR.out).mono ?_; rintro e w1 ⟨rfl, hb⟩; rw [← HBR.out]; have HB := hid hb; clear hb; obtain ⟨a', b', o', cap', hv, _, _, ha', hcell⟩ := HK.out _ HB.out; injection hv with hv1 hv2 hv3; subst hv1 hv3; rcases ha' with h0 | rfl; (· omega); obtain ⟨c0, c1, c2, c3⟩ := hcell k (Nat.lt_succ_self k); clear hcell hv2; generalize (r k).s = x0 at c0 HE2; generalize (r k).t = x1 at c1; generalize (r k).c = x2 at c2; generalize (r k).b = x3 at c3)
    go_ret
    exact ⟨ret_bool (by rw [HE2.out, ← HBR.out]; rfl), HB.out⟩
  · have f1 : decide ((0 : Int) < (n : Int)) = false := by simp; omega
    go_enter Tryz.func14, Tryz.ntmps14
    go_wp2_with (go_at_call 47; refine (xrec_any _ _ _ _ _ _ _ HP.out HR.out).mono ?_; rintro e w1 ⟨rfl, hb⟩; rw [← HBR.out]; have HB := hid hb; clear hb)
    go_ret
    exact ⟨ret_bool (by rw [HE.out, ← HBR.out, decide_eq_false hn]; rfl), HB.out⟩
end Go.Proofs.YtihbjimnjhfpeaaGreat.Rt

/- Walks of retort's High (slices.IndexFunc over its test): contracts. -/
namespace Go.Proofs.YtihbjimnjhfpeaaGreat.Rt
open Go.RowKit

theorem vhighat_any (s t c b : Int) (w : World) : Calls Tryz.prog 158 #[.agg #[.int .i64 s, .int .i64 t, .int .i64 c, .int .i64 b]] w fun e w' => e = .returned (.bool (decide (t < c))) ∧ Below w.heap.size w w' := by
  go_enter Tryz.func158, Tryz.ntmps158
  go_wp2
  go_ret
  exact ⟨rfl, (Below.refl _ _).alloc (Nat.le_refl _) _⟩
set_option maxRecDepth 20000 in
set_option maxHeartbeats 4000000 in
theorem idxhigh_any (v : Value) (n : Nat) (r : Nat → Rd) (w : World) (hr : RowR w v n r) :
    Calls Tryz.prog 157 #[v, .func (.func 158) #[] #[]] w fun e w' => e = .returned (.int .i64 (highN n r)) ∧ Below w.heap.size w w' := by
  have HK := hid (fun w1 (g : Below w.heap.size w w1) => hr.keep g)
  have hnm := hr.most
  unfold maxLen at hnm
  obtain ⟨a, c, rfl⟩ := hr.shape
  clear hr
  go_enter Tryz.func157, Tryz.ntmps157
  go_wp2
  go_loopw [8] (fun t wr => ∃ k : Nat, k ≤ n ∧ t = .int .i64 (k : Int) ∧ Hid (∀ j, j < k → highB r j = false) ∧ Hid (Below w.heap.size w wr)) (fun t _ => n - (intOf t).toNat)
  case atStart => exact ⟨0, Nat.zero_le _, rfl, fun j h => absurd h (Nat.not_lt_zero _), Below.refl _ _⟩
  case round =>
    obtain ⟨k, hk, rfl, hok, hB⟩ := hrel
    by_cases hlt : k < n
    · have hlt' : (k : Int) < n := by omega
      obtain ⟨a', b', o', cap', hv, _, _, ha', hcell⟩ := HK.out _ hB.out
      injection hv with hv1 hv2 hv3
      subst hv1 hv3
      rcases ha' with h0 | rfl
      · omega
      obtain ⟨c0, c1, c2, c3⟩ := hcell k hlt
      clear hcell hv2
      have HSOME := hid (fun h => highN_some (r := r) hlt hok.out h)
      have HST := hid (fun (h : highB r k = false) => show ∀ j, j < k + 1 → highB r j = false from fun j hj => by
        rcases Nat.lt_succ_iff_lt_or_eq.1 hj with h1 | h1
        · exact hok.out j h1
        · rw [h1]; exact h)
      have HH := hid (show highB r k = decide ((r k).t < (r k).c) from rfl)
      clear hlt
      generalize (r k).s = x0 at c0
      generalize (r k).t = x1 at c1 HH
      generalize (r k).c = x2 at c2 HH
      generalize (r k).b = x3 at c3
      cases f1 : decide (x1 < x2)
      · have HF := hid (HST.out (by rw [HH.out, f1]))
        go_wp2_with (go_at_call 158; refine (vhighat_any _ _ _ _ _).mono ?_; rintro e w2 ⟨rfl, hb⟩; rw [f1])
        go_roundw
        case rel => exact ⟨k + 1, by omega, by go_num, HF, hid (bstep hB.out hB.out.size hb)⟩
        case measure => simp [intOf]; omega
      · have HF := hid (HSOME.out (by rw [HH.out, f1]))
        go_wp2_with (go_at_call 158; refine (vhighat_any _ _ _ _ _).mono ?_; rintro e w2 ⟨rfl, hb⟩; rw [f1])
        go_ret
        exact ⟨ret_int HF.out.symm, bstep hB.out hB.out.size hb⟩
    · obtain rfl : k = n := by omega
      have hE := hid (highN_none hok.out)
      go_wp2
      go_ret
      exact ⟨ret_int hE.out.symm, hB.out⟩
theorem vhigh_any (v : Value) (n : Nat) (r : Nat → Rd) (w : World) (hr : RowR w v n r) : Calls Tryz.prog 133 #[v] w fun e w' => e = .returned (.int .i64 (highN n r)) ∧ Below w.heap.size w w' := by
  have HR := hid hr
  clear hr
  go_enter Tryz.func133, Tryz.ntmps133
  go_wp2_with (go_at_call 157; refine (idxhigh_any _ _ _ _ HR.out).mono ?_; rintro e w2 ⟨rfl, hb⟩)
  go_ret
  exact ⟨rfl, hb⟩
end Go.Proofs.YtihbjimnjhfpeaaGreat.Rt

/- Walks of retort's before (sort.Search over its test): contracts. -/
namespace Go.Proofs.YtihbjimnjhfpeaaGreat.Rt
open Go.RowKit

/-- What sort.Search finds, whatever the test. -/
def FoundB (n : Nat) (p : Nat → Bool) (r : Nat) : Prop := r ≤ n ∧ (r = 0 ∨ p (r - 1) = false) ∧ (r = n ∨ p r = true)
def SearchB (n : Nat) (p : Nat → Bool) (S : World → Prop) (e : Ending) (w' : World) : Prop := ∃ r : Nat, e = .returned (.int .i64 r) ∧ FoundB n p r ∧ S w'
structure SpanB (n : Nat) (p : Nat → Bool) (i j : Nat) : Prop where
  le : i ≤ j
  top : j ≤ n
  low : i = 0 ∨ p (i - 1) = false
  high : j = n ∨ p j = true
theorem SpanB.up {n : Nat} {p : Nat → Bool} {i j h : Nat} (s : SpanB n p i j) (h2 : h < j) (hp : p h = false) : SpanB n p (h + 1) j := ⟨h2, s.top, .inr hp, s.high⟩
theorem SpanB.down {n : Nat} {p : Nat → Bool} {i j h : Nat} (s : SpanB n p i j) (h1 : i ≤ h) (h2 : h < j) (hp : p h = true) : SpanB n p i h := ⟨h1, by have := s.top; omega, s.low, .inr hp⟩
set_option maxHeartbeats 1000000 in
theorem search_bef (n : Nat) (p : Nat → Bool) (S : World → Prop) (c1 c2 : Value) (w : World) (hn : n ≤ 4000000000000000000) (hS : S w)
    (hcall : ∀ (m : Nat) (wr : World), m < n → S wr → Calls Tryz.prog 174 #[.int .i64 m, c1, c2] wr fun e w' => e = .returned (.bool (p m)) ∧ S w') :
    Calls Tryz.prog 173 #[.int .i64 n, .func (.func 174) #[] #[c1, c2]] w (SearchB n p S) := by
  have HC := hid hcall; clear hcall
  have HS := hid hS; clear hS
  go_enter Tryz.func173, Tryz.ntmps173
  go_wp2
  go_loopw [5, 6] (fun a b wr => ∃ i j : Nat, a = .int .i64 i ∧ b = .int .i64 j ∧ Hid (SpanB n p i j) ∧ Hid (S wr)) (fun a b _ => (intOf b - intOf a).toNat)
  case atStart => exact ⟨0, n, rfl, rfl, ⟨Nat.zero_le _, Nat.le_refl _, .inl rfl, .inl rfl⟩, HS⟩
  case round =>
    obtain ⟨i, j, rfl, rfl, hs, hS⟩ := hrel
    have hij := hs.out.le
    have hjn := hs.out.top
    by_cases hlt : i < j
    · obtain ⟨m, hm⟩ : ∃ m, m = (i + j) / 2 := ⟨_, rfl⟩
      have hm1 : i ≤ m := by omega
      have hm2 : m < j := by omega
      have HM : Hid (((i : Int) + j) / 2 = (m : Int)) := by unfold Hid; omega
      clear hm
      cases hp : p m
      · have HP := hid hp
        go_wp2_with (go_at_call 174; rw [HM.out]; refine (HC.out m _ (by omega) hS.out).mono ?_; rintro e w2 ⟨rfl, hS2⟩)
        go_roundw
        case rel => exact ⟨m + 1, j, by go_num, rfl, hs.out.up hm2 HP.out, hS2⟩
        case measure => simp [intOf]; omega
      · have HP := hid hp
        go_wp2_with (go_at_call 174; rw [HM.out]; refine (HC.out m _ (by omega) hS.out).mono ?_; rintro e w2 ⟨rfl, hS2⟩)
        go_roundw
        case rel => exact ⟨i, m, rfl, rfl, hs.out.down hm1 hm2 HP.out, hS2⟩
        case measure => simp [intOf]; omega
    · obtain rfl : i = j := by omega
      go_wp2
      go_ret
      refine ⟨i, rfl, ⟨hs.out.top, hs.out.low, hs.out.high⟩, hS.out⟩
set_option maxHeartbeats 1000000 in
theorem befat_any (va : Option Addr) (n vc : Nat) (r : Nat → Rd) (m : Nat) (st : Int) (b1 b2 : Nat) (w : World) (hr : RowR w (.slice va n vc) n r) (hm : m < n)
    (h1 : w.cell? ⟨b1, 0, none⟩ = some (.slice va n vc)) (h2 : w.cell? ⟨b2, 0, none⟩ = some (.int .i64 st)) :
    Calls Tryz.prog 174 #[.int .i64 m, .pointer (some ⟨b1, 0, none⟩), .pointer (some ⟨b2, 0, none⟩)] w fun e w' => e = .returned (.bool (decide (st ≤ (r m).s))) ∧ Below w.heap.size w w' := by
  have hnm := hr.most
  unfold maxLen at hnm
  obtain ⟨a', b', o', cap', hv, _, _, ha', hcell⟩ := hr
  injection hv with hv1 hv2 hv3
  subst hv1 hv3
  rcases ha' with h0 | rfl
  · omega
  obtain ⟨c0, c1, c2, c3⟩ := hcell m hm
  clear hcell hv2 c1 c2 c3
  have hm' : (m : Int) < n := by omega
  clear hm
  generalize (r m).s = x at c0
  go_enter Tryz.func174, Tryz.ntmps174
  go_wp2
  go_quiet (fail)
  go_wp2
  go_ret
  exact ⟨rfl, by first | exact Below.refl _ _ | exact bdrewN (Below.refl _ _)⟩
theorem lt_blkB {w : World} {b : Nat} {o : Obj} (h : w.heap[b]? = some o) : b < w.heap.size := (Array.getElem?_eq_some_iff.1 h).1
theorem bx1 (w : World) (A B : Array Value) (t u : TypeId) : ((w.alloc (.cells A t)).alloc (.cells B u)).heap[w.heap.size]? = some (.cells A t (0, 0)) := by
  have ha := heap_alloc_new w (.cells A t)
  exact (Below.heap_alloc _ _ _ (lt_blkB ha)).trans ha
theorem bx2 (w : World) (A B : Array Value) (t u : TypeId) : ((w.alloc (.cells A t)).alloc (.cells B u)).heap[w.heap.size + 1]? = some (.cells B u (0, 0)) := by
  have h := heap_alloc_new (w.alloc (.cells A t)) (.cells B u)
  rwa [show (w.alloc (.cells A t)).heap.size = w.heap.size + 1 by simp] at h
theorem bef_search (va : Option Addr) (n vc : Nat) (r : Nat → Rd) (st : Int) (w W : World) (b1 b2 : Nat) (hn : n ≤ 4000000000000000000)
    (hr : ∀ w1, Below w.heap.size w w1 → RowR w1 (.slice va n vc) n r) (hW : Below w.heap.size w W)
    (h1 : W.heap[b1]? = some (.cells #[.slice va n vc] 40 (0, 0))) (h2 : W.heap[b2]? = some (.cells #[.int .i64 st] 3 (0, 0))) :
    Calls Tryz.prog 173 #[.int .i64 n, .func (.func 174) #[] #[.pointer (some ⟨b1, 0, none⟩), .pointer (some ⟨b2, 0, none⟩)]] W (SearchB n (fun m => decide (st ≤ (r m).s)) (Below W.heap.size W)) := by
  refine search_bef n _ _ _ _ W hn (Below.refl _ _) ?_
  intro m wr hm hS
  refine (befat_any va n vc r m st b1 b2 wr (hr _ (bstep hW hW.size hS)) hm (cell_of_row _ _ 0 _ _ _ ((hS.block _ (lt_blkB h1)).trans h1)) (cell_of_row _ _ 0 _ _ _ ((hS.block _ (lt_blkB h2)).trans h2))).mono ?_
  rintro e w2 ⟨rfl, hb⟩
  exact ⟨rfl, bstep hS hS.size hb⟩
set_option maxHeartbeats 1000000 in
theorem before_any (v : Value) (n : Nat) (r : Nat → Rd) (st : Int) (w : World) (hr : RowR w v n r) (hn : n ≤ 4000000000000000000) :
    Calls Tryz.prog 156 #[v, .int .i64 st] w fun e w' => ∃ q : Nat, e = .returned (.int .i64 q) ∧ FoundB n (fun m => decide (st ≤ (r m).s)) q ∧ Below w.heap.size w w' := by
  have HK := hid (fun w1 (g : Below w.heap.size w w1) => hr.keep g)
  have hnm := hr.most
  unfold maxLen at hnm
  obtain ⟨va, vc, rfl⟩ := hr.shape
  clear hr
  have HN := hid hn
  go_enter Tryz.func156, Tryz.ntmps156
  go_wp2_with (go_at_call 173; refine (bef_search va n vc r st w _ w.heap.size (w.heap.size + 1) HN.out HK.out (((Below.refl _ _).alloc (Nat.le_refl _) _).alloc (by simp) _) (bx1 _ _ _ _ _) (bx2 _ _ _ _ _)).mono ?_; rintro e w2 ⟨q, rfl, hf, hb⟩; have HF := hid hf; have HB := hid hb; clear hf hb)
  go_ret
  exact ⟨q, rfl, HF.out, bstep (((Below.refl _ _).alloc (Nat.le_refl _) _).alloc (by simp) _) (by simp; omega) HB.out⟩
end Go.Proofs.YtihbjimnjhfpeaaGreat.Rt

/- Walk of the reference's part: contract. -/
namespace Go.Proofs.YtihbjimnjhfpeaaGreat.Rt
open Go.RowKit

/-- A step's first and last stretch of readings. -/
structure PartP (n : Nat) (r : Nat → Rd) (st : Int) (f t : Nat) : Prop where
  le : f ≤ t
  top : t ≤ n
  before : ∀ j, j < f → (r j).s ≠ st
  at_f : f = n ∨ (r f).s = st
  mid : ∀ j, f ≤ j → j < t → (r j).s = st
  at_t : t = n ∨ (r t).s ≠ st
theorem PartP.one {n : Nat} {r : Nat → Rd} {st : Int} {f t f2 t2 : Nat} (h : PartP n r st f t) (g : PartP n r st f2 t2) : f = f2 ∧ t = t2 := by
  have hf : f = f2 := by
    rcases Nat.lt_trichotomy f f2 with h1 | h1 | h1
    · rcases h.at_f with h2 | h2
      · have := g.le; have := g.top; omega
      · exact absurd h2 (g.before f h1)
    · exact h1
    · rcases g.at_f with h2 | h2
      · have := h.le; have := h.top; omega
      · exact absurd h2 (h.before f2 h1)
  subst hf
  refine ⟨rfl, ?_⟩
  rcases Nat.lt_trichotomy t t2 with h1 | h1 | h1
  · rcases h.at_t with h2 | h2
    · have := g.top; omega
    · exact absurd (g.mid t h.le h1) h2
  · exact h1
  · rcases g.at_t with h2 | h2
    · have := h.top; omega
    · exact absurd (h.mid t2 g.le h1) h2
set_option maxRecDepth 20000 in
set_option maxHeartbeats 4000000 in
theorem xpart_any (v : Value) (n : Nat) (r : Nat → Rd) (st : Int) (w : World) (hr : RowR w v n r) :
    Calls Tryz.prog 52 #[v, .int .i64 st] w fun e w' => ∃ f t : Nat, PartP n r st f t ∧ e = .returned (.tuple #[.int .i64 f, .int .i64 t]) ∧ Below w.heap.size w w' := by
  have HK := hid (fun w1 (g : Below w.heap.size w w1) => hr.keep g)
  have hnm := hr.most
  unfold maxLen at hnm
  obtain ⟨a, c, rfl⟩ := hr.shape
  clear hr
  go_enter Tryz.func52, Tryz.ntmps52
  go_wp2
  go_loopw [6] (fun t wr => ∃ k : Nat, k ≤ n ∧ t = .int .i64 (k : Int) ∧ Hid (∀ j, j < k → (r j).s ≠ st) ∧ Hid (Below w.heap.size w wr)) (fun t _ => n - (intOf t).toNat)
  case atStart => exact ⟨0, Nat.zero_le _, rfl, fun j h => absurd h (Nat.not_lt_zero _), Below.refl _ _⟩
  case round =>
    obtain ⟨k, hk, rfl, hok, hB⟩ := hrel
    by_cases hlt : k < n
    · have hlt' : (k : Int) < n := by omega
      obtain ⟨a', b', o', cap', hv, _, _, ha', hcell⟩ := HK.out _ hB.out
      injection hv with hv1 hv2 hv3
      subst hv1 hv3
      rcases ha' with h0 | rfl
      · omega
      obtain ⟨c0, c1, c2, c3⟩ := hcell k hlt
      clear hcell hv2 c1 c2 c3
      obtain ⟨x, hx⟩ : ∃ x, x = (r k).s := ⟨_, rfl⟩
      have HX := hid hx
      rw [← hx] at c0
      clear hx
      have HI := hid hlt
      clear hlt
      by_cases e1 : x = st
      · have f1 : (x != st) = false := by rw [e1]; simp
        have hf : k = n ∨ (r k).s = st := .inr (by rw [← HX.out]; exact e1)
        clear e1
        have HF := hid hf
        clear hf
        go_wp2
        go_loopw [7] (fun t w2 => ∃ j : Nat, k ≤ j ∧ j ≤ n ∧ t = .int .i64 (j : Int) ∧ Hid (∀ i, k ≤ i → i < j → (r i).s = st) ∧ Hid (Below w.heap.size w w2)) (fun t _ => n - (intOf t).toNat)
        case atStart => exact ⟨k, Nat.le_refl _, hk, rfl, fun i h1 h2 => absurd h1 (Nat.not_le.2 h2), by first | exact hB | exact hid (bdrewN hB.out)⟩
        case round =>
          obtain ⟨j, hkj, hj, rfl, hok2, hB2⟩ := hrel
          by_cases hlt2 : j < n
          · have hlt2' : (j : Int) < n := by omega
            obtain ⟨a2, b2, o2, cap2, hv, _, _, ha2, hcell2⟩ := HK.out _ hB2.out
            injection hv with hv1 hv2 hv3
            subst hv1 hv3
            rcases ha2 with h0 | h0
            · omega
            cases h0
            obtain ⟨d0, d1, d2, d3⟩ := hcell2 j hlt2
            clear hcell2 hv2 d1 d2 d3
            obtain ⟨y, hy⟩ : ∃ y, y = (r j).s := ⟨_, rfl⟩
            have HY := hid hy
            rw [← hy] at d0
            clear hy
            have HJ := hid hlt2
            clear hlt2
            by_cases e2 : y = st
            · have g1 : (y == st) = true := by rw [e2]; simp
              have HS := hid (show ∀ i, k ≤ i → i < j + 1 → (r i).s = st from fun i h1 h2 => by
                rcases Nat.lt_succ_iff_lt_or_eq.1 h2 with h3 | h3
                · exact hok2.out i h1 h3
                · rw [h3, ← HY.out]; exact e2)
              go_wp2
              go_roundw
              case rel => exact ⟨j + 1, by omega, by have := HJ.out; omega, by go_num, HS, hB2⟩
              case measure => have := HJ.out; simp [intOf]; omega
            · have g1 : (y == st) = false := by simpa using e2
              have HE := hid (show PartP n r st k j from ⟨hkj, hj, hok.out, HF.out, hok2.out, .inr (by rw [← HY.out]; exact e2)⟩)
              go_wp2
              refine bodyPost_ret (v := .tuple #[.int .i64 (k : Int), .int .i64 (j : Int)]) (by simp [results, Tryz.results52, go_sem]) rfl ?_
              exact ⟨k, j, HE.out, rfl, hB2.out⟩
          · obtain rfl : j = n := by omega
            have HE := hid (show PartP j r st k j from ⟨hkj, hj, hok.out, HF.out, hok2.out, .inl rfl⟩)
            go_wp2
            refine bodyPost_ret (v := .tuple #[.int .i64 (k : Int), .int .i64 (j : Int)]) (by simp [results, Tryz.results52, go_sem]) rfl ?_
            exact ⟨k, j, HE.out, rfl, hB2.out⟩
      · have f1 : (x != st) = true := by simpa using e1
        have HS := hid (show ∀ j, j < k + 1 → (r j).s ≠ st from fun j hj => by
          rcases Nat.lt_succ_iff_lt_or_eq.1 hj with h3 | h3
          · exact hok.out j h3
          · rw [h3, ← HX.out]; exact e1)
        go_wp2
        go_roundw
        case rel => exact ⟨k + 1, by have := HI.out; omega, by go_num, HS, hB⟩
        case measure => have := HI.out; simp [intOf]; omega
    · have hf : k = n ∨ (r k).s = st := .inl (by omega)
      have hlt' : ¬ (k : Int) < n := by omega
      have HF := hid hf
      clear hf
      go_wp2
      go_loopw [7] (fun t w2 => ∃ j : Nat, k ≤ j ∧ j ≤ n ∧ t = .int .i64 (j : Int) ∧ Hid (∀ i, k ≤ i → i < j → (r i).s = st) ∧ Hid (Below w.heap.size w w2)) (fun t _ => n - (intOf t).toNat)
      case atStart => exact ⟨k, Nat.le_refl _, hk, rfl, fun i h1 h2 => absurd h1 (Nat.not_le.2 h2), by first | exact hB | exact hid (bdrewN hB.out)⟩
      case round =>
        obtain ⟨j, hkj, hj, rfl, hok2, hB2⟩ := hrel
        by_cases hlt2 : j < n
        · exfalso; omega
        · obtain rfl : j = n := by omega
          have HE := hid (show PartP j r st k j from ⟨hkj, hj, hok.out, HF.out, hok2.out, .inl rfl⟩)
          go_wp2
          refine bodyPost_ret (v := .tuple #[.int .i64 (k : Int), .int .i64 (j : Int)]) (by simp [results, Tryz.results52, go_sem]) rfl ?_
          exact ⟨k, j, HE.out, rfl, hB2.out⟩
end Go.Proofs.YtihbjimnjhfpeaaGreat.Rt

/- Walks of Part of both: contracts. -/
namespace Go.Proofs.YtihbjimnjhfpeaaGreat.Rt
open Go.RowKit

/-- What Part answers. -/
def PartV (m : Nat) (p : Nat → St) (n : Nat) (r : Nat → Rd) (st a b c : Int) : Prop :=
  (recB m p n r = false ∧ a = 0 ∧ b = 0 ∧ c = 1) ∨ (recB m p n r = true ∧ inB st 0 ((m : Int) - 1) = false ∧ a = 0 ∧ b = 0 ∧ c = 7) ∨
  (recB m p n r = true ∧ inB st 0 ((m : Int) - 1) = true ∧ ∃ f t : Nat, PartP n r st f t ∧ (f = t ∧ a = 0 ∧ b = 0 ∧ c = 8 ∨ f ≠ t ∧ a = f ∧ b = t ∧ c = 0))
def PartE (m : Nat) (p : Nat → St) (n : Nat) (r : Nat → Rd) (st : Int) (w : World) (e : Ending) (w' : World) : Prop :=
  ∃ a b c : Int, e = .returned (.tuple #[.int .i64 a, .int .i64 b, .int .i64 c]) ∧ PartV m p n r st a b c ∧ Below w.heap.size w w'
theorem PartV.one {m : Nat} {p : Nat → St} {n : Nat} {r : Nat → Rd} {st a b c a2 b2 c2 : Int} (h : PartV m p n r st a b c) (g : PartV m p n r st a2 b2 c2) : a = a2 ∧ b = b2 ∧ c = c2 := by
  rcases h with ⟨h1, rfl, rfl, rfl⟩ | ⟨h1, h2, rfl, rfl, rfl⟩ | ⟨h1, h2, f, t, h3, h4⟩ <;> rcases g with ⟨g1, rfl, rfl, rfl⟩ | ⟨g1, g2, rfl, rfl, rfl⟩ | ⟨g1, g2, f2, t2, g3, g4⟩
  all_goals first
    | exact ⟨rfl, rfl, rfl⟩
    | (rw [h1] at g1; cases g1; done)
    | (rw [h2] at g2; cases g2; done)
    | skip
  obtain ⟨rfl, rfl⟩ := h3.one g3
  rcases h4 with ⟨h5, rfl, rfl, rfl⟩ | ⟨h5, rfl, rfl, rfl⟩ <;> rcases g4 with ⟨g5, rfl, rfl, rfl⟩ | ⟨g5, rfl, rfl, rfl⟩
  · exact ⟨rfl, rfl, rfl⟩
  · exact absurd h5 g5
  · exact absurd g5 h5
  · exact ⟨rfl, rfl, rfl⟩
theorem mono_of {n : Nat} {s : Nat → Int} (h : ∀ j, j + 1 < n → s j ≤ s (j + 1)) : ∀ i j, i ≤ j → j < n → s i ≤ s j := by
  intro i j
  induction j with
  | zero => intro h1 _; have : i = 0 := by omega
            subst this; omega
  | succ j ih =>
    intro h1 h2
    rcases Nat.lt_or_ge i (j + 1) with h3 | h3
    · have := ih (by omega) (by omega); have := h j h2; omega
    · have : i = j + 1 := by omega
      subst this; omega
theorem rec_mono {m : Nat} {p : Nat → St} {n : Nat} {r : Nat → Rd} (h : recB m p n r = true) : n ≤ 2000 ∧ ∀ i j, i ≤ j → j < n → (r i).s ≤ (r j).s := by
  unfold recB at h
  simp only [Bool.and_eq_true, decide_eq_true_eq] at h
  refine ⟨h.1.2, mono_of (s := fun j => (r j).s) fun j hj => ?_⟩
  have h1 := allB_iff.1 h.2 (j + 1) hj
  rw [recAt_eq, Bool.and_eq_true, inB_iff] at h1
  exact h1.1.1
theorem found_low {n : Nat} {r : Nat → Rd} {st : Int} {q : Nat} (hm : ∀ i j, i ≤ j → j < n → (r i).s ≤ (r j).s) (h : FoundB n (fun m => decide (st ≤ (r m).s)) q) : ∀ j, j < q → (r j).s < st := by
  intro j hj
  obtain ⟨h1, h2, _⟩ := h
  rcases h2 with h2 | h2
  · omega
  · have := hm j (q - 1) (by omega) (by omega)
    simp only [decide_eq_false_iff_not] at h2
    omega
theorem found_high {n : Nat} {r : Nat → Rd} {st : Int} {q : Nat} (hm : ∀ i j, i ≤ j → j < n → (r i).s ≤ (r j).s) (h : FoundB n (fun m => decide (st ≤ (r m).s)) q) : ∀ j, q ≤ j → j < n → st ≤ (r j).s := by
  intro j hj hn
  obtain ⟨h1, _, h3⟩ := h
  rcases h3 with h3 | h3
  · omega
  · have := hm q j hj hn
    simp only [decide_eq_true_eq] at h3
    omega
theorem part_none {n : Nat} {r : Nat → Rd} {st : Int} {q1 q2 : Nat} (hm : ∀ i j, i ≤ j → j < n → (r i).s ≤ (r j).s) (h : FoundB n (fun m => decide (st ≤ (r m).s)) q1) (g : FoundB n (fun m => decide (st + 1 ≤ (r m).s)) q2) (e : q1 = q2) : PartP n r st n n := by
  subst e
  refine ⟨Nat.le_refl _, Nat.le_refl _, fun j hj => ?_, .inl rfl, fun j h1 h2 => absurd h1 (Nat.not_le.2 h2), .inl rfl⟩
  rcases Nat.lt_or_ge j q1 with h1 | h1
  · have := found_low hm h j h1; omega
  · have := found_high hm g j h1 hj; omega
theorem part_some {n : Nat} {r : Nat → Rd} {st : Int} {q1 q2 : Nat} (hm : ∀ i j, i ≤ j → j < n → (r i).s ≤ (r j).s) (h : FoundB n (fun m => decide (st ≤ (r m).s)) q1) (g : FoundB n (fun m => decide (st + 1 ≤ (r m).s)) q2) (e : q1 ≠ q2) : PartP n r st q1 q2 := by
  have h1 := h.1
  have g1 := g.1
  have hle : q1 < q2 := by
    rcases Nat.lt_trichotomy q1 q2 with h3 | h3 | h3
    · exact h3
    · exact absurd h3 e
    · have := found_low hm h q2 h3
      have := found_high hm g q2 (Nat.le_refl _) (by omega)
      omega
  have hmid : ∀ j, q1 ≤ j → j < q2 → (r j).s = st := fun j h3 h4 => by
    have := found_high hm h j h3 (by omega)
    have := found_low hm g j h4
    omega
  refine ⟨by omega, g1, fun j hj => ?_, .inr (hmid q1 (Nat.le_refl _) hle), hmid, ?_⟩
  · have := found_low hm h j hj; omega
  · rcases Nat.lt_or_ge q2 n with h3 | h3
    · refine .inr ?_
      have := found_high hm g q2 (Nat.le_refl _) h3
      omega
    · exact .inl (by omega)
end Go.Proofs.YtihbjimnjhfpeaaGreat.Rt
