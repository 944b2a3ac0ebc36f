/- Walks of ValidRecord of both: contracts. -/
import Derived.Test.YtpkcnojcklmhmaaVh
namespace Go.Proofs.Ytpkcnojcklmhmaa
open Go.RowKit

theorem readB_eq (s t c b : Int) : readB ⟨s, t, c, b⟩ = (inB t (-1000000) 1000000 && inB c (-1000000) 1000000 && inB b (-1000000) 1000000) := rfl
theorem threeR (a b c : Bool) : a = false ∨ (a = true ∧ b = false) ∨ (a = true ∧ b = true ∧ c = false) ∨ (a = true ∧ b = true ∧ c = true) := by cases a <;> cases b <;> cases c <;> simp
set_option maxHeartbeats 2000000 in
theorem vreading_any (s t c b : Int) (w : World) : Calls Try.prog 82 #[.agg #[.int .i64 s, .int .i64 t, .int .i64 c, .int .i64 b]] w fun e w' => e = .returned (.bool (readB ⟨s, t, c, b⟩)) ∧ Below w.heap.size w w' := by
  have hc := hid (readB_eq s t c b)
  rcases threeR (inB t (-1000000) 1000000) (inB c (-1000000) 1000000) (inB b (-1000000) 1000000) with h1 | ⟨h1, h2⟩ | ⟨h1, h2, h3⟩ | ⟨h1, h2, h3⟩
  all_goals
    go_enter Try.func82, Try.ntmps82
    go_wp2_with (go_at_call 78; refine (vwithin_any _ _ _ _).mono ?_; rintro e w' ⟨rfl, rfl⟩)
    go_ret
    exact ⟨ret_bool (by rw [hc.out]; simp only [Bool.false_and, Bool.true_and, Bool.and_false, *]), (Below.refl _ _).alloc (Nat.le_refl _) _⟩

theorem rec_bd {m : Nat} {r : Nat → Rd} (hm : 1 ≤ m) : ∀ {k : Nat}, (∀ j, j < k → recAt m r j = true) → 0 ≤ loS r k ∧ loS r k ≤ (m : Int) - 1 ∧ 0 ≤ hiS m r k ∧ hiS m r k ≤ (m : Int) - 1
  | 0, _ => by simp only [loS, hiS]; omega
  | k + 1, h => by
    obtain ⟨h1, h2, h3, h4⟩ := rec_bd hm (k := k) (fun j hj => h j (by omega))
    have hk := h k (by omega)
    simp only [recAt, Bool.and_eq_true, inB_iff] at hk
    have e1 : loS r (k + 1) = (r k).s := rfl
    have e2 : hiS m r (k + 1) = min ((r k).s + 1) ((m : Int) - 1) := rfl
    rw [e1, e2]
    omega
theorem recAt_eq (m : Nat) (r : Nat → Rd) (k : Nat) : recAt m r k = (inB (r k).s (loS r k) (hiS m r k) && readB (r k)) := rfl
theorem recB_prog {m : Nat} {p : Nat → St} {n : Nat} {r : Nat → Rd} (h : progB m p = false) : recB m p n r = false := by unfold recB; rw [h]; rfl
theorem recB_long {m : Nat} {p : Nat → St} {n : Nat} {r : Nat → Rd} (h : 2000 < n) : recB m p n r = false := by unfold recB; rw [decide_eq_false (by omega), Bool.and_false]; rfl
theorem recB_bad {m : Nat} {p : Nat → St} {n k : Nat} {r : Nat → Rd} (hk : k < n) (h : recAt m r k = false) : recB m p n r = false := by unfold recB; rw [allB_bad hk h, Bool.and_false]
theorem recB_end {m : Nat} {p : Nat → St} {n : Nat} {r : Nat → Rd} (h : progB m p = true) (hn : n ≤ 2000) (g : ∀ j, j < n → recAt m r j = true) : recB m p n r = true := by unfold recB; rw [h, decide_eq_true hn, allB_end g]; rfl
theorem progB_one {m : Nat} {p : Nat → St} (h : progB m p = true) : 1 ≤ m ∧ m ≤ 16 := by have := (progB_iff.1 h).1; omega
set_option maxRecDepth 20000 in
set_option maxHeartbeats 4000000 in
theorem vrec_any (u : Value) (m : Nat) (p : Nat → St) (v : Value) (n : Nat) (r : Nat → Rd) (w : World) (hp : RowP w u m p) (hr : RowR w v n r) :
    Calls Try.prog 43 #[u, v] w fun e w' => e = .returned (.bool (recB m p n r)) ∧ Below w.heap.size w w' := by
  have HK := hid (fun w1 (g : Below w.heap.size w w1) => hr.keep g)
  have HP := hid hp
  have hnm := hr.most
  have hmm := RowT.most hp
  unfold maxLen at hnm hmm
  obtain ⟨pa, pc, rfl⟩ := RowT.shape hp
  obtain ⟨va, vc, rfl⟩ := hr.shape
  clear hp hr
  cases hpr : progB m p
  · have hE := hid (recB_prog (n := n) (r := r) hpr)
    go_enter Try.func43, Try.ntmps43
    go_wp2_with (go_at_call 81; refine (vprog_any _ _ _ _ HP.out).mono ?_; rintro e w1 ⟨rfl, hb⟩; rw [hpr])
    go_ret
    exact ⟨ret_bool hE.out.symm, hb⟩
  by_cases hn : 2000 < n
  · have hE := hid (recB_long (m := m) (p := p) (r := r) hn)
    have hd : decide (2000 < (n : Int)) = true := by simp; omega
    go_enter Try.func43, Try.ntmps43
    go_wp2_with (go_at_call 81; refine (vprog_any _ _ _ _ HP.out).mono ?_; rintro e w1 ⟨rfl, hb⟩; rw [hpr])
    go_ret
    exact ⟨ret_bool hE.out.symm, hb⟩
  have hd : decide (2000 < (n : Int)) = false := by simp; omega
  obtain ⟨hm1, hm16⟩ := progB_one hpr
  have HN := hid (show n ≤ 2000 by omega)
  have HPR := hid hpr
  clear hn
  go_enter Try.func43, Try.ntmps43
  go_wp2_with (go_at_call 81; refine (vprog_any _ _ _ _ HP.out).mono ?_; rintro e w1 ⟨rfl, hb⟩; rw [hpr]; have HB := hid hb; clear hb)
  clear hpr
  go_loopw [5, 6, 19] (fun lo hi t wr => ∃ k : Nat, k ≤ n ∧ t = .int .i64 (k : Int) ∧ lo = .int .i64 (loS r k) ∧ hi = .int .i64 (hiS m r k) ∧ Hid (∀ j, j < k → recAt m r j = true) ∧ Hid (Below w.heap.size w wr)) (fun _ _ t _ => n - (intOf t).toNat)
  case atStart => exact ⟨0, Nat.zero_le _, rfl, rfl, rfl, fun j h => absurd h (Nat.not_lt_zero _), HB⟩
  case round =>
    obtain ⟨k, hk, rfl, rfl, rfl, hok, hB⟩ := hrel
    by_cases hlt : k < n
    · have hlt' : (k : Int) < n := by omega
      obtain ⟨a', b', o', cap', hv, _, _, ha', hcell⟩ := HK.out _ hB.out
      injection hv with hv1 hv2 hv3
      subst hv1 hv3
      rcases ha' with h0 | rfl
      · omega
      obtain ⟨c0, c1, c2, c3⟩ := hcell k hlt
      have HB2 := hid (hB.out.alloc hB.out.size (.cells #[.int .i64 (r k).s, .int .i64 (r k).t, .int .i64 (r k).c, .int .i64 (r k).b] 74))
      have HST := hid (fun h => all_step hok.out (k := k) h)
      have HBAD := hid (fun h => recB_bad (m := m) (p := p) (r := r) hlt h)
      have HRE := hid (recAt_eq m r k)
      have hbd := rec_bd hm1 hok.out
      have HL1 := hid (show loS r (k + 1) = (r k).s from rfl)
      have HL2 := hid (show hiS m r (k + 1) = min ((r k).s + 1) ((m : Int) - 1) from rfl)
      obtain ⟨x, hX⟩ : ∃ x, x = r k := ⟨_, rfl⟩
      rw [← hX] at c0 c1 c2 c3 HB2 HRE HL1 HL2
      clear hX hcell hv2 hlt
      obtain ⟨s, t, c, b⟩ := x
      simp only at c0 c1 c2 c3 HB2
      have HL1 := hid (show loS r (k + 1) = s from HL1.out)
      have HL2 := hid (show hiS m r (k + 1) = min (s + 1) ((m : Int) - 1) from HL2.out)
      have HRE := hid (show recAt m r k = (inB s (loS r k) (hiS m r k) && readB ⟨s, t, c, b⟩) from HRE.out)
      obtain ⟨L, hL⟩ : ∃ L, L = loS r k := ⟨_, rfl⟩
      obtain ⟨Hh, hH⟩ : ∃ L, L = hiS m r k := ⟨_, rfl⟩
      rw [← hL, ← hH] at hbd HRE
      rw [← hL, ← hH]
      clear hL hH
      obtain ⟨hb1, hb2, hb3, hb4⟩ := hbd
      cases e1 : inB s L Hh
      · have HF := hid (HBAD.out (by rw [HRE.out, e1]; rfl))
        go_wp2_with (first | (go_at_call 78; refine (vwithin_any _ _ _ _).mono ?_; rintro e w' ⟨rfl, rfl⟩) | (go_at_call 82; refine (vreading_any _ _ _ _ _).mono ?_; rintro e w4 ⟨rfl, hb⟩))
        go_ret
        exact ⟨ret_bool HF.out.symm, HB2.out⟩
      have hs := inB_iff.1 e1
      obtain ⟨hs1, hs2⟩ := hs
      cases e2 : readB ⟨s, t, c, b⟩
      · have HF := hid (HBAD.out (by rw [HRE.out, e2, Bool.and_false]))
        go_wp2_with (first | (go_at_call 78; refine (vwithin_any _ _ _ _).mono ?_; rintro e w' ⟨rfl, rfl⟩) | (go_at_call 82; refine (vreading_any _ _ _ _ _).mono ?_; rintro e w4 ⟨rfl, hb⟩; rw [e2]; have HB3 := hid (bstep HB2.out HB2.out.size hb); clear hb))
        go_ret
        exact ⟨ret_bool HF.out.symm, HB3.out⟩
      · have HF := hid (HST.out (by rw [HRE.out, e1, e2]; rfl))
        have hK0 : ∀ w4, Below (wr.alloc (.cells #[.int .i64 s, .int .i64 t, .int .i64 c, .int .i64 b] 74)).heap.size (wr.alloc (.cells #[.int .i64 s, .int .i64 t, .int .i64 c, .int .i64 b] 74)) w4 → w4.cell? ⟨wr.heap.size, 0, none⟩ = some (.int .i64 s) := fun w4 hb => keep_cell hb (cell_alloc_new wr _ _ _ 0)
        have HK0 := hid hK0
        clear hK0
        rcases (show s + 1 ≤ (m : Int) - 1 ∧ min (s + 1) ((m : Int) - 1) = s + 1 ∨ (m : Int) - 1 < s + 1 ∧ min (s + 1) ((m : Int) - 1) = (m : Int) - 1 by omega) with ⟨h7, h8⟩ | ⟨h7, h8⟩
        · rw [h8] at HL2
          clear h8
          go_wp2_with (first | (go_at_call 78; refine (vwithin_any _ _ _ _).mono ?_; rintro e w' ⟨rfl, rfl⟩) | (go_at_call 82; refine (vreading_any _ _ _ _ _).mono ?_; rintro e w4 ⟨rfl, hb⟩; rw [e2]; have k0 := HK0.out _ hb; have HB3 := hid (bstep HB2.out HB2.out.size hb); clear hb))
          go_region
          go_wp2
          go_roundw
          case rel => exact ⟨k + 1, by omega, by go_num, int_eq HL1.out.symm, int_eq HL2.out.symm, HF, by first | exact HB3 | exact hid HB3.out.drew⟩
          case measure => simp [intOf]; omega
        · rw [h8] at HL2
          clear h8
          go_wp2_with (first | (go_at_call 78; refine (vwithin_any _ _ _ _).mono ?_; rintro e w' ⟨rfl, rfl⟩) | (go_at_call 82; refine (vreading_any _ _ _ _ _).mono ?_; rintro e w4 ⟨rfl, hb⟩; rw [e2]; have k0 := HK0.out _ hb; have HB3 := hid (bstep HB2.out HB2.out.size hb); clear hb))
          go_region
          go_wp2
          go_roundw
          case rel => exact ⟨k + 1, by omega, by go_num, int_eq HL1.out.symm, int_eq HL2.out.symm, HF, by first | exact HB3 | exact hid HB3.out.drew⟩
          case measure => simp [intOf]; omega
    · obtain rfl : k = n := by omega
      have hE := hid (recB_end HPR.out HN.out hok.out)
      go_wp2
      go_ret
      exact ⟨ret_bool hE.out.symm, hB.out⟩
end Go.Proofs.Ytpkcnojcklmhmaa
