/- Walk of RetortCredits. -/
import Derived.Test.YtpkdainpmgohiaaYp
import Derived.Deep.DeepCutAuto
namespace Go.Proofs.Ytpkdainpmgohiaa
open Go.RowKit

set_option maxRecDepth 100000 in
set_option maxHeartbeats 4000000 in
theorem credits_walk (v : Value) (n : Nat) (r : Nat → Rd) (ev nv : Int) (w : World) (hr : RowR w v n r) (we : (Lit.int .i64 ev).wf = true) (wn : (Lit.int .i64 nv).wf = true) :
    Calls Try.prog 14 #[v, .int .i64 ev, .int .i64 nv] w fun x w' => x = .returned (.bool true) ∧ Below w.heap.size w w' := by
  clear we wn
  have HR := hid (fun w1 (g : Below w.heap.size w w1) => hr.keep g)
  have hnm := hr.most
  unfold maxLen at hnm
  obtain ⟨va, vc, rfl⟩ := hr.shape
  have HSL := hid (fun N (hN : N ≤ n) => slice_beg hr hN)
  clear hr
  by_cases h1 : n ≤ 300
  case neg =>
    have d1 : decide (300 < (n : Int)) = true := by simp; omega
    go_enter Try.func14, Try.ntmps14
    go_wp2_with (go_at_call 41; refine (vawake_any _).mono ?_; rintro e w9 ⟨rfl, hb⟩)
    go_ret
    exact ⟨rfl, hb⟩
  have d1 : decide (300 < (n : Int)) = false := by simp; omega
  by_cases h2 : nv < 0
  · go_enter Try.func14, Try.ntmps14
    go_wp2_with (go_at_call 41; refine (vawake_any _).mono ?_; rintro e w9 ⟨rfl, hb⟩)
    go_ret
    exact ⟨rfl, hb⟩
  obtain ⟨N, rfl⟩ : ∃ N : Nat, nv = N := ⟨nv.toNat, by omega⟩
  have d2 : decide ((N : Int) < 0) = false := by simp
  by_cases h3 : N ≤ n
  case neg =>
    have d3 : decide ((n : Int) < (N : Int)) = true := by simp; omega
    have d4 : decide (n < N) = true := by simp; omega
    go_enter Try.func14, Try.ntmps14
    go_wp2_with (go_at_call 41; refine (vawake_any _).mono ?_; rintro e w9 ⟨rfl, hb⟩)
    go_ret
    exact ⟨rfl, hb⟩
  have d3 : decide ((n : Int) < (N : Int)) = false := by simp; omega
  have d4 : decide (n < N) = false := by simp; omega
  have HNN := hid h3
  have HN3 := hid h1
  have HRN := hid (fun w1 (g : Below w.heap.size w w1) => rowR_beg (HR.out w1 g) h3)
  have HSN := hid (HSL.out N h3)
  have HB := hid (Below.refl w.heap.size w)
  have HE : Hid (markE N ev = markE n ev) := by unfold Hid markE; rw [if_neg (show ¬ 2000 < N by omega), if_neg (show ¬ 2000 < n by omega)]
  obtain ⟨E, hE⟩ : ∃ E, E = markE n ev := ⟨_, rfl⟩
  have HE1 := hid hE
  clear h1 h2 h3 hE HSL
  by_cases hE0 : E = 0
  case neg =>
    have s1 : (E != 0) = true := by simpa using hE0
    clear hE0
    go_enter Try.func14, Try.ntmps14
    go_wp2_with fail
    refine (credit_any _ _ _ _ _ (HR.out _ HB.out)).mono ?_
    rintro x w1 ⟨lv, rfl, hl, hb⟩
    rw [← HE1.out]
    have HB := hid (bstep HB.out HB.out.size hb)
    clear hl hb
    go_wp2_with fail
    refine (marks_any _ _ _ _ _ (HR.out _ HB.out)).mono ?_
    rintro x w2 ⟨mv, rfl, hl, hb⟩
    rw [← HE1.out]
    have HB := hid (bstep HB.out HB.out.size hb)
    clear hl hb
    have hsl := HSN.out
    go_wp2_with fail
    clear hsl
    refine (marks_any _ _ _ _ _ (HRN.out _ HB.out)).mono ?_
    rintro x w3 ⟨kv, rfl, hl, hb⟩
    rw [HE.out, ← HE1.out]
    have HB := hid (bstep HB.out HB.out.size hb)
    clear hl hb
    go_wp2_with (go_at_call 41; refine (vawake_any _).mono ?_; rintro e w9 ⟨rfl, hb⟩; have HB3 := hid (bstep HB.out HB.out.size hb); clear hb)
    go_ret
    exact ⟨rfl, HB3.out⟩
  subst hE0
  obtain ⟨hn20, he1, he2⟩ := markE_zero HE1.out.symm
  obtain ⟨e, rfl⟩ : ∃ e : Nat, ev = e := ⟨ev.toNat, by omega⟩
  have HC := hid (show credO r n (e : Int) = credL r n e n by unfold credO; rw [if_pos HE1.out.symm]; rfl)
  have HM := hid (show marksO r n (e : Int) = marksL r n e n by unfold marksO; rw [if_pos HE1.out.symm]; rfl)
  have HMN := hid (show marksO r N (e : Int) = marksL r N e N by unfold marksO; rw [if_pos (HE.out.trans HE1.out.symm)]; rfl)
  have HE3 := hid (show 1 ≤ e by omega)
  clear hn20 he1 he2
  go_enter Try.func14, Try.ntmps14
  go_wp2_with fail
  refine (credit_any _ _ _ _ _ (HR.out _ HB.out)).mono ?_
  rintro x w1 ⟨lv, rfl, hl, hb⟩
  rw [← HE1.out]
  have HB := hid (bstep HB.out HB.out.size hb)
  rw [HC.out] at hl
  have HL := hid hl
  clear hl hb
  go_wp2_with fail
  refine (marks_any _ _ _ _ _ (HR.out _ HB.out)).mono ?_
  rintro x w2 ⟨mv, rfl, hl, hb⟩
  rw [← HE1.out]
  have HB := hid (bstep HB.out HB.out.size hb)
  rw [HM.out] at hl
  have HL := hid (HL.out.keep hb)
  have HML := hid hl
  clear hl hb
  have hsl := HSN.out
  go_wp2_with fail
  clear hsl
  refine (marks_any _ _ _ _ _ (HRN.out _ HB.out)).mono ?_
  rintro x w3 ⟨kv, rfl, hl, hb⟩
  rw [HE.out, ← HE1.out]
  have HB := hid (bstep HB.out HB.out.size hb)
  rw [HMN.out] at hl
  have HL := hid (HL.out.keep hb)
  have HML := hid (HML.out.keep hb)
  have HKL := hid hl
  clear hl hb
  obtain ⟨la, lc, hlv⟩ := rowI_shape HL.out
  rw [credL_len] at hlv
  subst hlv
  obtain ⟨ma, mc, hmv⟩ := rowI_shape HML.out
  subst hmv
  obtain ⟨ka, kc, hkv⟩ := rowI_shape HKL.out
  subst hkv
  obtain ⟨Lm, hLm⟩ : ∃ L, L = (marksL r n e n).length := ⟨_, rfl⟩
  obtain ⟨Lk, hLk⟩ : ∃ L, L = (marksL r N e N).length := ⟨_, rfl⟩
  have hlm : Lm ≤ 300 := by have := marksL_len r n e n; have := HN3.out; omega
  have hlk : Lk ≤ 300 := by have := marksL_len r N e N; have := HN3.out; have := HNN.out; omega
  have HLm := hid hLm
  have HLk := hid hLk
  rw [← hLm, ← hLk]
  clear hLm hLk
  have hn300 := HN3.out
  have s0 : ((n : Int) != (n : Int)) = false := by simp
  have HE300 := hid (markE_zero HE1.out.symm)
  go_upto_region 8 with (fail)
  go_cut [79] (fun s wx => s = .bool false ∧ Hid (Below w3.heap.size w3 wx))
  case first =>
    by_cases h1 : e = 1
    · subst h1
      have HL1 := hid HL.out
      rw [cred_one] at HL1
      have s1 : (((1 : Nat) : Int) == 1) = true := rfl
      go_wp2_with fail
      refine (xbaths_any _ _ _ _ (HR.out _ HB.out) (by have := HN3.out; omega)).mono ?_
      rintro x w4 ⟨bv, rfl, hl, hb⟩
      have HB4 := hid hb
      have HL4 := hid (HL1.out.keep hb)
      have HR4 := hid (hl.rowI (by rw [bathsL_len]; have := HN3.out; omega))
      clear hb hl
      go_wp2_with fail
      refine (sameI_any _ _ _ _ _ HL4.out HR4.out).mono ?_
      rintro x w5 ⟨rfl, hd⟩
      rw [decide_eq_true (rfl : bathsL r n = bathsL r n)]
      have HB5 := hid (bstep HB4.out HB4.out.size (below_k2 hd))
      clear hd
      go_wp2_with fail
      go_meet
      exact ⟨rfl, HB5⟩
    · have s1 : ((e : Int) == 1) = false := by simp; omega
      clear h1
      go_wp2_with fail
      go_meet
      exact ⟨rfl, hid (Below.refl _ _)⟩
  case rest =>
    obtain ⟨rfl, HB5⟩ := hcut
    go_wp2_with fail
    go_loopw [13] (fun t wr => ∃ k : Nat, k ≤ n ∧ t = .int .i64 (k : Int) ∧ Hid (Below w3.heap.size w3 wr)) (fun t _ => n - (intOf t).toNat)
    case atStart => exact ⟨0, Nat.zero_le _, rfl, HB5⟩
    case round =>
      obtain ⟨k, hk, rfl, hB⟩ := hrel
      by_cases hlt : k < n
      · have hlt' : (k : Int) < n := by omega
        obtain ⟨a', b', o', cap', hv, _, _, ha', hcell⟩ := HR.out _ (bstep HB.out HB.out.size hB.out)
        injection hv with hv1 hv2 hv3
        subst hv1 hv3
        rcases ha' with h0 | rfl
        · omega
        obtain ⟨lb, lo, lc', hlv, hlc⟩ := rowI_at (HL.out.keep hB.out) (k := k) (by rw [credL_len]; exact hlt)
        rw [credL_get, credL_len] at *
        injection hlv with hl1 hl2 hl3
        subst hl1 hl3
        clear hl2 hv2
        have he3 := HE3.out
        have he2k := HE300.out.2.2
        obtain ⟨m1, hm1⟩ : ∃ m, m = k - k % e := ⟨_, rfl⟩
        obtain ⟨m2, hm2⟩ : ∃ m, m = nextM n e k := ⟨_, rfl⟩
        have hle := Nat.mod_le k e
        have hlt2 := Nat.mod_lt k he3
        obtain ⟨q, hq⟩ : ∃ q, q = k % e := ⟨_, rfl⟩
        have hq' : (k : Int) % (e : Int) = (q : Int) := by rw [hq]; omega
        have hm1' : (k : Int) - (q : Int) = (m1 : Int) := by omega
        have hm1n : m1 < n := by omega
        have hm2n : m2 < n := by unfold nextM at hm2; omega
        have hm2c : ((m1 : Int) + (e : Int) = (m2 : Int) ∧ (m2 : Int) ≤ (n : Int) - 1) ∨ ((n : Int) - 1 = (m2 : Int) ∧ (m2 : Int) < (m1 : Int) + (e : Int)) := by unfold nextM at hm2; omega
        obtain ⟨c0, c1, c2, c3⟩ := hcell m1 hm1n
        obtain ⟨d0, d1, d2', d3⟩ := hcell m2 hm2n
        obtain ⟨f0, f1, f2, f3⟩ := hcell k hlt
        clear c0 c1 c2 d0 d1 d2' f0 f1 f2 hcell
        have HCM := hid (fun h => cred_mod (r := r) (n := n) (e := e) (k := k) h)
        have HCL := hid (fun h => cred_last (r := r) (n := n) (e := e) (k := k) h)
        have HCN := hid (fun h g => cred_mid (r := r) (n := n) (e := e) (k := k) h g)
        rw [← hq, ← hm2] at HCN
        rw [← hq] at HCM
        have HM1 := hid (show k - q = m1 by omega)
        rw [HM1.out] at HCN
        have HLT := hid hlt
        clear hm1 hm2 hlt
        by_cases hq0 : q = 0
        · have hcr := HCM.out hq0
          obtain rfl : m1 = k := by omega
          rw [hcr] at hlc
          subst hq0
          clear hcr c3 d3 hq HCM HCL HCN HM1 hle hlt2 hm1n
          generalize (r m1).b = z at f3 hlc
          have hq1 : (m1 : Int) % (e : Int) = 0 := hq'
          clear hq' hm1'
          by_cases hkn : m1 + 1 = n
          · have hk1 : ((m1 : Int) == (n : Int) - 1) = true := by simp; omega
            clear hkn
            rcases hm2c with ⟨e1, e2⟩ | ⟨e1, e2⟩
            · have e3 : ¬ ((n : Int) - 1 < (m1 : Int) + (e : Int)) := by omega
              go_wp2
              go_quiet (fail)
              go_wp2
              go_quiet (fail)
              go_wp2
              go_roundw
              case rel => exact ⟨m1 + 1, by have := HLT.out; omega, by go_num, hid (bdrewN hB.out)⟩
              case measure => have := HLT.out; simp [intOf]; omega
            · have e3 : (n : Int) - 1 < (m1 : Int) + (e : Int) := by omega
              obtain rfl : m2 = n - 1 := by omega
              clear e1 e2 hm2n
              go_wp2
              go_quiet (fail)
              go_wp2
              go_quiet (fail)
              go_wp2
              go_roundw
              case rel => exact ⟨m1 + 1, by have := HLT.out; omega, by go_num, hid (bdrewN hB.out)⟩
              case measure => have := HLT.out; simp [intOf]; omega
          · have hk1 : ((m1 : Int) == (n : Int) - 1) = false := by simp; omega
            clear hkn
            rcases hm2c with ⟨e1, e2⟩ | ⟨e1, e2⟩
            · have e3 : ¬ ((n : Int) - 1 < (m1 : Int) + (e : Int)) := by omega
              go_wp2
              go_quiet (fail)
              go_wp2
              go_quiet (fail)
              go_wp2
              go_roundw
              case rel => exact ⟨m1 + 1, by have := HLT.out; omega, by go_num, hid (bdrewN hB.out)⟩
              case measure => have := HLT.out; simp [intOf]; omega
            · have e3 : (n : Int) - 1 < (m1 : Int) + (e : Int) := by omega
              obtain rfl : m2 = n - 1 := by omega
              clear e1 e2 hm2n
              go_wp2
              go_quiet (fail)
              go_wp2
              go_quiet (fail)
              go_wp2
              go_roundw
              case rel => exact ⟨m1 + 1, by have := HLT.out; omega, by go_num, hid (bdrewN hB.out)⟩
              case measure => have := HLT.out; simp [intOf]; omega
        by_cases hkn : k + 1 = n
        · have hcr := HCL.out hkn
          have hk1 : ((k : Int) == (n : Int) - 1) = true := by simp; omega
          have hk2 : ((k : Int) == (m1 : Int)) = false := by simp; omega
          have e3 : (n : Int) - 1 < (m1 : Int) + (e : Int) := by omega
          have e4 : (n : Int) - 1 = (k : Int) := by omega
          rw [hcr] at hlc
          clear hcr d3 hq HCM HCL HCN HM1 hle hlt2 hm2c hm2n hkn
          generalize (r k).b = z at f3 hlc
          generalize (r m1).b = x at c3
          by_cases hzx : z < x
          · have HE4 := hid e4
            have hk5 : (n : Int) - 1 < n := by omega
            go_wp2
            go_quiet (fail)
            go_wp2
            go_quiet (fail)
            go_wp2
            go_roundw
            case rel => exact ⟨k + 1, by have := HLT.out; omega, by go_num, hid (bdrewN hB.out)⟩
            case measure => have := HLT.out; simp [intOf]; omega
          · have HE4 := hid e4
            go_wp2
            go_quiet (fail)
            go_wp2
            go_quiet (fail)
            go_wp2
            go_roundw
            case rel => exact ⟨k + 1, by have := HLT.out; omega, by go_num, hid (bdrewN hB.out)⟩
            case measure => have := HLT.out; simp [intOf]; omega
        have hcr := HCN.out hq0 hkn
        have hk1 : ((k : Int) == (n : Int) - 1) = false := by simp; omega
        have hk2 : ((k : Int) == (m1 : Int)) = false := by simp; omega
        rw [hcr] at hlc
        clear hcr hq HCM HCL HCN HM1 hle hlt2 hkn
        generalize (r k).b = z at f3
        generalize (r m1).b = x at c3 hlc
        generalize (r m2).b = y at d3 hlc
        obtain ⟨mn, hmn⟩ : ∃ mn, mn = min x y := ⟨_, rfl⟩
        rw [← hmn] at hlc
        rcases (show (y < x ∧ mn = y) ∨ (¬ y < x ∧ mn = x) by omega) with ⟨hxy, rfl⟩ | ⟨hxy, rfl⟩
        · clear hmn
          by_cases hzm : mn ≤ z
          · have hzm2 : decide (z < mn) = false := by simp; omega
            rcases hm2c with ⟨e1, e2⟩ | ⟨e1, e2⟩
            · have e3 : ¬ ((n : Int) - 1 < (m1 : Int) + (e : Int)) := by omega
              go_wp2
              go_quiet (fail)
              go_wp2
              go_quiet (fail)
              go_wp2
              go_roundw
              case rel => exact ⟨k + 1, by have := HLT.out; omega, by go_num, hid (bdrewN hB.out)⟩
              case measure => have := HLT.out; simp [intOf]; omega
            · have e3 : (n : Int) - 1 < (m1 : Int) + (e : Int) := by omega
              obtain rfl : m2 = n - 1 := by omega
              clear e1 e2 hm2n
              go_wp2
              go_quiet (fail)
              go_wp2
              go_quiet (fail)
              go_wp2
              go_roundw
              case rel => exact ⟨k + 1, by have := HLT.out; omega, by go_num, hid (bdrewN hB.out)⟩
              case measure => have := HLT.out; simp [intOf]; omega
          · have hzm2 : decide (mn ≤ z) = false := by simpa using hzm
            clear hzm
            rcases hm2c with ⟨e1, e2⟩ | ⟨e1, e2⟩
            · have e3 : ¬ ((n : Int) - 1 < (m1 : Int) + (e : Int)) := by omega
              go_wp2
              go_quiet (fail)
              go_wp2
              go_quiet (fail)
              go_wp2
              go_roundw
              case rel => exact ⟨k + 1, by have := HLT.out; omega, by go_num, hid (bdrewN hB.out)⟩
              case measure => have := HLT.out; simp [intOf]; omega
            · have e3 : (n : Int) - 1 < (m1 : Int) + (e : Int) := by omega
              obtain rfl : m2 = n - 1 := by omega
              clear e1 e2 hm2n
              go_wp2
              go_quiet (fail)
              go_wp2
              go_quiet (fail)
              go_wp2
              go_roundw
              case rel => exact ⟨k + 1, by have := HLT.out; omega, by go_num, hid (bdrewN hB.out)⟩
              case measure => have := HLT.out; simp [intOf]; omega
        · clear hmn
          by_cases hzm : mn ≤ z
          · have hzm2 : decide (z < mn) = false := by simp; omega
            rcases hm2c with ⟨e1, e2⟩ | ⟨e1, e2⟩
            · have e3 : ¬ ((n : Int) - 1 < (m1 : Int) + (e : Int)) := by omega
              go_wp2
              go_quiet (fail)
              go_wp2
              go_quiet (fail)
              go_wp2
              go_roundw
              case rel => exact ⟨k + 1, by have := HLT.out; omega, by go_num, hid (bdrewN hB.out)⟩
              case measure => have := HLT.out; simp [intOf]; omega
            · have e3 : (n : Int) - 1 < (m1 : Int) + (e : Int) := by omega
              obtain rfl : m2 = n - 1 := by omega
              clear e1 e2 hm2n
              go_wp2
              go_quiet (fail)
              go_wp2
              go_quiet (fail)
              go_wp2
              go_roundw
              case rel => exact ⟨k + 1, by have := HLT.out; omega, by go_num, hid (bdrewN hB.out)⟩
              case measure => have := HLT.out; simp [intOf]; omega
          · have hzm2 : decide (mn ≤ z) = false := by simpa using hzm
            clear hzm
            rcases hm2c with ⟨e1, e2⟩ | ⟨e1, e2⟩
            · have e3 : ¬ ((n : Int) - 1 < (m1 : Int) + (e : Int)) := by omega
              go_wp2
              go_quiet (fail)
              go_wp2
              go_quiet (fail)
              go_wp2
              go_roundw
              case rel => exact ⟨k + 1, by have := HLT.out; omega, by go_num, hid (bdrewN hB.out)⟩
              case measure => have := HLT.out; simp [intOf]; omega
            · have e3 : (n : Int) - 1 < (m1 : Int) + (e : Int) := by omega
              obtain rfl : m2 = n - 1 := by omega
              clear e1 e2 hm2n
              go_wp2
              go_quiet (fail)
              go_wp2
              go_quiet (fail)
              go_wp2
              go_roundw
              case rel => exact ⟨k + 1, by have := HLT.out; omega, by go_num, hid (bdrewN hB.out)⟩
              case measure => have := HLT.out; simp [intOf]; omega
      · obtain rfl : k = n := by omega
        have HBK := hB
        have HAT := hid (fun i hi => marks_beg_at r k N e HNN.out (i := i) hi)
        go_wp2_with fail
        go_loopw [17] (fun t wr => ∃ i : Nat, (i = 0 ∨ i + 1 ≤ Lk) ∧ t = .int .i64 (i : Int) ∧ Hid (Below w3.heap.size w3 wr)) (fun t _ => Lk - (intOf t).toNat)
        case atStart => exact ⟨0, .inl rfl, rfl, HBK⟩
        case round =>
          obtain ⟨i, hi, rfl, hB⟩ := hrel
          by_cases hlt : i + 1 < Lk
          · have hlt' : (i : Int) + 1 < Lk := by omega
            have hi' : (i : Int) < Lk := by omega
            obtain ⟨hm2, heq⟩ := HAT.out i (by rw [← HLk.out]; exact hlt)
            obtain ⟨kb, ko, kc', hkv, hkc⟩ := rowI_at (HKL.out.keep hB.out) (k := i) (by rw [← HLk.out]; omega)
            obtain ⟨mb, mo, mc', hmv, hmc⟩ := rowI_at (HML.out.keep hB.out) (k := i) hm2
            rw [heq] at hkc
            rw [← HLk.out] at hkv
            rw [← HLm.out] at hmv hm2
            injection hkv with hk1 hk2 hk3
            injection hmv with hl1 hl2 hl3
            subst hk1 hk3 hl1 hl3
            have hmi : (i : Int) < Lm := by omega
            have hmi2 : ¬ (Lm : Int) ≤ (i : Int) := by omega
            have hmi3 : ¬ Lm ≤ i := by omega
            have HLT := hid hlt
            clear hk2 hl2 hlt heq
            generalize (marksL r k e k)[i] = x at hkc hmc
            go_wp2
            go_quiet (fail)
            go_wp2
            go_roundw
            case rel => exact ⟨i + 1, .inr (by have := HLT.out; omega), by go_num, hid (bdrewN hB.out)⟩
            case measure => have := HLT.out; simp [intOf]; omega
          · have hlt' : ¬ (i : Int) + 1 < Lk := by omega
            have HB9 := hid (bstep HB.out HB.out.size hB.out)
            have hib : (i : Int) ≤ 300 := by omega
            clear hlt hi
            go_wp2_with (go_at_call 41; refine (vawake_any _).mono ?_; rintro e w9 ⟨rfl, hb⟩; have HB3 := hid (bstep HB9.out HB9.out.size hb); clear hb)
            go_ret
            exact ⟨rfl, HB3.out⟩
end Go.Proofs.Ytpkdainpmgohiaa
