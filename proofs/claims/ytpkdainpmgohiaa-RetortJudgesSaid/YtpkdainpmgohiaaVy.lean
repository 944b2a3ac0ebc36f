/- Walk of the reference's ValidRecord: contract. -/
import Derived.Test.YtpkdainpmgohiaaVx
namespace Go.Proofs.Ytpkdainpmgohiaa
open Go.RowKit

theorem in_lo_hi {s L Hh : Int} (h1 : L ≤ s) (h2 : s ≤ Hh) : inB s L Hh = true := inB_iff.2 ⟨h1, h2⟩
theorem in_no {s L Hh : Int} (h : ¬ (L ≤ s ∧ s ≤ Hh)) : inB s L Hh = false := inB_not.2 h
set_option maxRecDepth 20000 in
set_option maxHeartbeats 8000000 in
theorem xrec_any (u : Value) (m : Nat) (p : Nat → St) (v : Value) (n : Nat) (r : Nat → Rd) (w : World) (hp : RowP w u m p) (hr : RowR w v n r) :
    Calls Try.prog 52 #[u, v] w fun e w' => e = .returned (.bool (recB m p n r)) ∧ Below w.heap.size w w' := by
  have HK := hid (fun w1 (g : Below w.heap.size w w1) => hr.keep g)
  have HP := hid hp
  have hnm := hr.most
  have hmm := RowT.most hp
  unfold maxLen at hnm hmm
  obtain ⟨pa, pc, rfl⟩ := RowT.shape hp
  obtain ⟨va, vc, rfl⟩ := hr.shape
  clear hp hr
  cases hpr : progB m p
  · have hE := hid (recB_prog (n := n) (r := r) hpr)
    go_enter Try.func52, Try.ntmps52
    go_wp2_with (go_at_call 107; refine (xprog_any _ _ _ _ HP.out).mono ?_; rintro e w1 ⟨rfl, hb⟩; rw [hpr])
    go_ret
    exact ⟨ret_bool hE.out.symm, hb⟩
  by_cases hn : 2000 < n
  · have hE := hid (recB_long (m := m) (p := p) (r := r) hn)
    have hd : decide (2000 < (n : Int)) = true := by simp; omega
    go_enter Try.func52, Try.ntmps52
    go_wp2_with (go_at_call 107; refine (xprog_any _ _ _ _ HP.out).mono ?_; rintro e w1 ⟨rfl, hb⟩; rw [hpr])
    go_ret
    exact ⟨ret_bool hE.out.symm, hb⟩
  have hd : decide (2000 < (n : Int)) = false := by simp; omega
  obtain ⟨hm1, hm16⟩ := progB_one hpr
  have HN := hid (show n ≤ 2000 by omega)
  have HPR := hid hpr
  clear hn
  go_enter Try.func52, Try.ntmps52
  go_wp2_with (go_at_call 107; refine (xprog_any _ _ _ _ HP.out).mono ?_; rintro e w1 ⟨rfl, hb⟩; rw [hpr]; have HB := hid hb; clear hb)
  clear hpr
  go_loopw [5, 6] (fun lo t wr => ∃ k : Nat, k ≤ n ∧ t = .int .i64 (k : Int) ∧ lo = .int .i64 (loS r k) ∧ Hid (∀ j, j < k → recAt m r j = true) ∧ Hid (Below w.heap.size w wr)) (fun _ t _ => n - (intOf t).toNat)
  case atStart => exact ⟨0, Nat.zero_le _, rfl, rfl, fun j h => absurd h (Nat.not_lt_zero _), HB⟩
  case round =>
    obtain ⟨k, hk, rfl, rfl, hok, hB⟩ := hrel
    by_cases hlt : k < n
    · have hlt' : (k : Int) < n := by omega
      obtain ⟨a', b', o', cap', hv, _, _, ha', hcell⟩ := HK.out _ hB.out
      injection hv with hv1 hv2 hv3
      subst hv1 hv3
      rcases ha' with h0 | rfl
      · omega
      obtain ⟨c0, c1, c2, c3⟩ := hcell k hlt
      have HB2 := hid (hB.out.alloc hB.out.size (.cells #[.int .i64 (r k).s, .int .i64 (r k).t, .int .i64 (r k).c, .int .i64 (r k).b] 74))
      have HST := hid (fun h => all_step hok.out (k := k) h)
      have HBAD := hid (fun h => recB_bad (m := m) (p := p) (r := r) hlt h)
      have HRE := hid (recAt_eq m r k)
      have hbd := rec_bd hm1 hok.out
      have HL1 := hid (show loS r (k + 1) = (r k).s from rfl)
      have hz : (k = 0 → loS r k = 0 ∧ hiS m r k = 0) ∧ (k ≠ 0 → hiS m r k = min (loS r k + 1) ((m : Int) - 1)) := by
        cases k with
        | zero => exact ⟨fun _ => ⟨rfl, rfl⟩, fun h => absurd rfl h⟩
        | succ j => exact ⟨fun h => by omega, fun _ => rfl⟩
      obtain ⟨x, hX⟩ : ∃ x, x = r k := ⟨_, rfl⟩
      rw [← hX] at c0 c1 c2 c3 HB2 HRE HL1
      clear hX hcell hv2 hlt
      obtain ⟨s, t, c, b⟩ := x
      simp only at c0 c1 c2 c3 HB2
      have HL1 := hid (show loS r (k + 1) = s from HL1.out)
      have HRE := hid (show recAt m r k = (inB s (loS r k) (hiS m r k) && readB ⟨s, t, c, b⟩) from HRE.out)
      obtain ⟨L, hL⟩ : ∃ L, L = loS r k := ⟨_, rfl⟩
      obtain ⟨Hh, hH⟩ : ∃ L, L = hiS m r k := ⟨_, rfl⟩
      rw [← hL, ← hH] at hbd HRE hz
      rw [← hL]
      clear hL hH
      obtain ⟨hb1, hb2, hb3, hb4⟩ := hbd
      obtain ⟨hz1, hz2⟩ := hz
      have hin : (k = 0 ∧ s ≠ 0 ∨ k ≠ 0 ∧ s < L ∨ k ≠ 0 ∧ L ≤ s ∧ L + 1 < s ∨ k ≠ 0 ∧ L ≤ s ∧ s ≤ L + 1 ∧ (m : Int) ≤ s) ∧ inB s L Hh = false ∨ ((k ≠ 0 ∨ k = 0 ∧ s = 0) ∧ L ≤ s ∧ s ≤ L + 1 ∧ s < (m : Int)) ∧ inB s L Hh = true := by
        by_cases hk0 : k = 0
        · obtain ⟨z1, z2⟩ := hz1 hk0
          by_cases hs0 : s = 0
          · exact .inr ⟨⟨.inr ⟨hk0, hs0⟩, by omega, by omega, by omega⟩, in_lo_hi (by omega) (by omega)⟩
          · exact .inl ⟨.inl ⟨hk0, hs0⟩, in_no (by omega)⟩
        · have z2 := hz2 hk0
          by_cases q1 : s < L
          · exact .inl ⟨.inr (.inl ⟨hk0, q1⟩), in_no (by omega)⟩
          · by_cases q2 : L + 1 < s
            · exact .inl ⟨.inr (.inr (.inl ⟨hk0, by omega, q2⟩)), in_no (by omega)⟩
            · by_cases q3 : (m : Int) ≤ s
              · exact .inl ⟨.inr (.inr (.inr ⟨hk0, by omega, by omega, q3⟩)), in_no (by omega)⟩
              · exact .inr ⟨⟨.inl hk0, by omega, by omega, by omega⟩, in_lo_hi (by omega) (by omega)⟩
      clear hz1 hz2
      rcases hin with ⟨h | ⟨h, h5⟩ | ⟨h, h4, h5⟩ | ⟨h, h4, h5, h6⟩, e1⟩ | ⟨⟨h, h4, h5, h6⟩, e1⟩
      · have HF := hid (HBAD.out (by rw [HRE.out, e1]; rfl))
        have f1 : ((k : Int) == 0) = true := by rw [h.1]; rfl
        have f2 : (s != 0) = true := by simpa using h.2
        clear h
        go_wp2_with fail
        go_ret
        exact ⟨ret_bool HF.out.symm, HB2.out⟩
      · have HF := hid (HBAD.out (by rw [HRE.out, e1]; rfl))
        have f3 : decide (s < L) = true := by simpa using h5
        have f1 : ((k : Int) == 0) = false := by simp; omega
        clear h
        go_wp2_with fail
        go_ret
        exact ⟨ret_bool HF.out.symm, HB2.out⟩
      · have HF := hid (HBAD.out (by rw [HRE.out, e1]; rfl))
        have f3 : decide (s < L) = false := by simp; omega
        have f4 : decide (L + 1 < s) = true := by simpa using h5
        have f1 : ((k : Int) == 0) = false := by simp; omega
        clear h
        go_wp2_with fail
        go_ret
        exact ⟨ret_bool HF.out.symm, HB2.out⟩
      · have HF := hid (HBAD.out (by rw [HRE.out, e1]; rfl))
        have f3 : decide (s < L) = false := by simp; omega
        have f4 : decide (L + 1 < s) = false := by simp; omega
        have f5 : decide ((m : Int) ≤ s) = true := by simpa using h6
        have f1 : ((k : Int) == 0) = false := by simp; omega
        clear h
        go_wp2_with fail
        go_ret
        exact ⟨ret_bool HF.out.symm, HB2.out⟩
      · have f3 : decide (s < L) = false := by simp; omega
        have f4 : decide (L + 1 < s) = false := by simp; omega
        have f5 : decide ((m : Int) ≤ s) = false := by simp; omega
        have HE := hid (readB_eq s t c b)
        have hz : ((k : Int) == 0) = false ∨ ((k : Int) == 0) = true ∧ s = 0 := by
          rcases h with h | ⟨h, h'⟩
          · exact .inl (by simp; omega)
          · exact .inr ⟨by rw [h]; rfl, h'⟩
        clear h
        rcases hz with f1 | ⟨f1, rfl⟩
        all_goals
          rcases threeR (inB t (-1000000) 1000000) (inB c (-1000000) 1000000) (inB b (-1000000) 1000000) with g1 | ⟨g1, g2⟩ | ⟨g1, g2, g3⟩ | ⟨g1, g2, g3⟩
          · have HF := hid (HBAD.out (by rw [HRE.out, e1, HE.out, g1]; rfl))
            go_wp2_with (go_at_call 105; refine (xwithin_any _ _ _ _).mono ?_; rintro e w' ⟨rfl, rfl⟩)
            go_ret
            exact ⟨ret_bool HF.out.symm, HB2.out⟩
          · have HF := hid (HBAD.out (by rw [HRE.out, e1, HE.out, g1, g2]; rfl))
            go_wp2_with (go_at_call 105; refine (xwithin_any _ _ _ _).mono ?_; rintro e w' ⟨rfl, rfl⟩)
            go_ret
            exact ⟨ret_bool HF.out.symm, HB2.out⟩
          · have HF := hid (HBAD.out (by rw [HRE.out, e1, HE.out, g1, g2, g3]; rfl))
            go_wp2_with (go_at_call 105; refine (xwithin_any _ _ _ _).mono ?_; rintro e w' ⟨rfl, rfl⟩)
            go_ret
            exact ⟨ret_bool HF.out.symm, HB2.out⟩
          · have HF := hid (HST.out (by rw [HRE.out, e1, HE.out, g1, g2, g3]; rfl))
            go_wp2_with (go_at_call 105; refine (xwithin_any _ _ _ _).mono ?_; rintro e w' ⟨rfl, rfl⟩)
            go_roundw
            case rel => exact ⟨k + 1, by omega, by go_num, int_eq HL1.out.symm, HF, HB2⟩
            case measure => simp [intOf]; omega
    · obtain rfl : k = n := by omega
      have hE := hid (recB_end HPR.out HN.out hok.out)
      go_wp2
      go_ret
      exact ⟨ret_bool hE.out.symm, hB.out⟩
end Go.Proofs.Ytpkdainpmgohiaa
