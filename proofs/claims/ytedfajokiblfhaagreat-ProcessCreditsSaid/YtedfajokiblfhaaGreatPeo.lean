/- Walk of ProcessCredits. -/
import Derived.Test.YtedfajokiblfhaaGreatN1
import Derived.Test.YtedfajokiblfhaaGreatE2
import Derived.Test.YtedfajokiblfhaaGreatW1
namespace Go.Proofs.YtedfajokiblfhaaGreat
open Go.RowKit Go.Lib

theorem leq_dish0 {c : Cn} {t : Int} (hK : c.K = 0) (h : okT t = true) : LeQ c (dish0 c t) (dish0 c t) := leq_refl (dish0_good h) (.inl hK)
theorem cutT_le {x y : Int} (h : x ≤ y) (hy : okT y = true) : cutT x ≤ y := by
  simp only [okT, Bool.and_eq_true, decide_eq_true_eq] at hy
  unfold cutT
  split <;> split <;> omega
/-- What is credited is at most what the baths do, where no credit is above its bath. -/
theorem cred_le {r l a b a2 b2 : Int} {q : Kl} {t : Int} {n : Nat} {r' : Nat → Rt.Rd} {e : Int} (he : crdE (canB r l a b 0 a2 b2) q.vB t n e = 0)
    (h : ∀ i, i < n → Rt.credAt r' n e.toNat i ≤ (r' i).b ∧ okT (r' i).b = true) :
    chk4 (canB r l a b 0 a2 b2) q.vB t (Rt.bathsL r' n) = 0 ∧ lowO (sumsO r l a b 0 a2 b2 q t (crdL r' n e)) ≤ lowO (sumsO r l a b 0 a2 b2 q t (Rt.bathsL r' n)) := by
  unfold crdE at he
  split at he
  case isFalse h0 => exact absurd he h0
  rename_i h0
  obtain ⟨hn, _, _⟩ := Rt.markE_zero he
  have hob : okL (Rt.bathsL r' n) = true := by
    refine List.all_eq_true.2 fun x hx => ?_
    unfold Rt.bathsL at hx
    obtain ⟨i, hi, rfl⟩ := List.mem_map.1 hx
    exact (h i (List.mem_range.1 hi)).2
  have hcr : Rt.credO r' n e = Rt.credL r' n e.toNat n := by unfold Rt.credO; rw [if_pos he]
  have hlc : (crdL r' n e).length = n := by unfold crdL; rw [cutL_len, hcr, Rt.credL_len]
  have hlb : (Rt.bathsL r' n).length = n := Rt.bathsL_len r' n
  obtain ⟨hc, hk, ho, _, _⟩ := chk4_zero h0
  have h1 : chk4 (canB r l a b 0 a2 b2) q.vB t (Rt.bathsL r' n) = 0 := chk4_ok (by rw [hc, hk]; rfl) (by rw [ho, hob]; rfl) (by rw [hlb]; omega)
  have h2 : chk4 (canB r l a b 0 a2 b2) q.vB t (crdL r' n e) = 0 := chk4_ok (by rw [hc, hk]; rfl) (by rw [ho]; unfold crdL; rw [cutL_ok]; rfl) (by rw [hlc]; omega)
  refine ⟨h1, ?_⟩
  obtain ⟨e1, p1, _⟩ := sumsO_len h1
  obtain ⟨e2, _, _⟩ := sumsO_len h2
  rw [lowO_min (by omega), lowO_min (by omega)]
  obtain ⟨c, hcv, rfl, rfl, rfl, rfl, hK, rfl, rfl⟩ := canB_cn hc
  obtain ⟨Z, hz, hv⟩ := kl_of hk
  have hcn : cnOf (c.R : Int) c.L c.A c.B 0 c.A2 c.B2 = c := by rw [hK]; exact cnOf_cn c
  have hf : ∀ x y : Int, x ≤ y → Lt.Pm.rateD q.r q.z (x / 250) ≤ Lt.Pm.rateD q.r q.z (y / 250) := fun x y hxy => by
    have hz1 := (Lt.validB_iff.1 hv).2.2.1.1
    exact Lt.Pm.rateD_mono (by rw [hz]; exact hz1) (by omega)
  unfold sumsO
  rw [if_pos h1, if_pos h2, hcn]
  have hle : leL (crdL r' n e) (Rt.bathsL r' n) := fun i a d => by
    have hi : i < n := by omega
    have e3 : (crdL r' n e)[i] = cutT (Rt.credAt r' n e.toNat i) := by simp [crdL, cutL, hcr, Rt.credL]
    have e4 : (Rt.bathsL r' n)[i] = (r' i).b := by simp [Rt.bathsL]
    rw [e3, e4]
    exact cutT_le (h i hi).1 (h i hi).2
  exact (LeQ.run (f := fun x => Lt.Pm.rateD q.r q.z (x / 250)) hcv.ok hf _ _ _ _ (by omega) hle (cutL_ok _) hob (leq_dish0 hK.symm ho)).low hcv.ok
-- the walk
set_option maxRecDepth 100000 in
set_option maxHeartbeats 8000000 in
theorem pcredits_walk (r l a b k a2 b2 : Int) (q : Kl) (t : Int) (v : Value) (n : Nat) (r' : Nat → Rt.Rd) (e : Int) (w : World) (hs : q.s.size ≤ maxLen) (_ht : (Lit.int .i64 t).wf = true) (hl : Rt.RowR w v n r') (_he : (Lit.int .i64 e).wf = true) :
    Calls Tryz.prog 8 #[.agg #[.int .i64 r, .int .i64 l, .int .i64 a, .int .i64 b, .int .i64 k, .int .i64 a2, .int .i64 b2, .string q.s, .int .i64 q.r, .int .i64 q.z, .int .i64 q.d, .int .i64 q.g, .int .i64 t], v, .int .i64 e] w fun x w' => x = .returned (.bool true) ∧ Below w.heap.size w w' := by
  have BX := hid (box1_start (w := w) (A := #[.int .i64 r, .int .i64 l, .int .i64 a, .int .i64 b, .int .i64 k, .int .i64 a2, .int .i64 b2, .string q.s, .int .i64 q.r, .int .i64 q.z, .int .i64 q.d, .int .i64 q.g, .int .i64 t]) (T := 27) (fz := (0, 0)))
  have HL := hid (fun w1 (g : Below w.heap.size w w1) => hl.keep g)
  have hnm := hl.most
  unfold maxLen at hnm
  obtain ⟨a0, cap, rfl⟩ := hl.shape
  have HSM := hid (fun W => small04_any r l a b k a2 b2 W none 0 0 (by decide))
  have HCR := hid (fun W h => cred_any r l a b k a2 b2 W q t (.slice a0 n cap) n r' e hs h)
  have HXC := hid (fun W h => xcred_any r l a b k a2 b2 W q t (.slice a0 n cap) n r' e hs h)
  have HCE := hid (fun W h => Rt.xcredit_any (.slice a0 n cap) n e r' W h)
  have HLE := hid (fun (p : List Int) W u (h : RowI W u p) => leth_any r l a b k a2 b2 W q t u p hs h h.most)
  clear hl hs
  go_enter Tryz.func8, Tryz.ntmps8
  obtain ⟨t0, t1, t2, t3, t4, t5, t6, t7, t8, t9, t10, t11, t12⟩ := BX.out.thirteen
  have hz := BX.out.sz
  go_wp2_with fail
  refine (HSM.out _).mono ?_
  rintro x w1 ⟨rfl, hb⟩
  have BX := hid (BX.out.keep hb); clear hb t0 t1 t2 t3 t4 t5 t6 t7 t8 t9 t10 t11 t12; obtain ⟨t0, t1, t2, t3, t4, t5, t6, t7, t8, t9, t10, t11, t12⟩ := BX.out.thirteen; have hz := BX.out.sz
  cases hsm : smallB r l 0 80
  · skip
    go_wp2_with fail
    refine (lawake_any _).mono ?_
    rintro x9 w9 ⟨rfl, hb⟩
    have BX := hid (BX.out.keep hb)
    clear hb
    go_wp2_with fail
    go_ret
    exact ⟨rfl, BX.out.low⟩
  cases h1 : decide (n ≤ 80)
  case false =>
    have h1' : decide (80 < (n : Int)) = true := by simp at h1 ⊢; omega
    cases h2 : decide ((n : Int) ≤ 2000)
    case true =>
      go_wp2_with fail
      refine (lawake_any _).mono ?_
      rintro x9 w9 ⟨rfl, hb⟩
      have BX := hid (BX.out.keep hb)
      clear hb
      go_wp2_with fail
      go_ret
      exact ⟨rfl, BX.out.low⟩
    case false =>
      have hn2 : 2000 < n := by simp at h2; omega
      have hce : crdE (canB r l a b k a2 b2) q.vB t n e ≠ 0 := fun h => by
        unfold crdE at h
        split at h
        · have := (Rt.markE_zero h).1; omega
        · rename_i h0; exact h0 h
      rw [if_neg hce] at HCR HXC
      generalize crdE (canB r l a b k a2 b2) q.vB t n e = ce at *
      have hc1 : (ce != 0) = true := by simpa using hce
      go_wp2_with fail
      refine (HCR.out _ (HL.out _ BX.out.low)).mono ?_
      rintro x w2 ⟨rfl, hb⟩
      have BX := hid (BX.out.keep hb); clear hb t0 t1 t2 t3 t4 t5 t6 t7 t8 t9 t10 t11 t12; obtain ⟨t0, t1, t2, t3, t4, t5, t6, t7, t8, t9, t10, t11, t12⟩ := BX.out.thirteen; have hz := BX.out.sz
      go_wp2_with fail
      refine (HXC.out _ (HL.out _ BX.out.low)).mono ?_
      rintro x w3 ⟨rfl, hb⟩
      have BX := hid (BX.out.keep hb); clear hb t0 t1 t2 t3 t4 t5 t6 t7 t8 t9 t10 t11 t12; obtain ⟨t0, t1, t2, t3, t4, t5, t6, t7, t8, t9, t10, t11, t12⟩ := BX.out.thirteen; have hz := BX.out.sz
      go_wp2_with fail
      refine (lawake_any _).mono ?_
      rintro x9 w9 ⟨rfl, hb⟩
      have BX := hid (BX.out.keep hb)
      clear hb
      go_wp2_with fail
      go_ret
      exact ⟨rfl, BX.out.low⟩
  have h1' : decide (80 < (n : Int)) = false := by simp at h1 ⊢; omega
  have hn80 : n ≤ 80 := by simpa using h1
  by_cases hce : crdE (canB r l a b k a2 b2) q.vB t n e = 0
  case neg =>
    rw [if_neg hce] at HCR HXC
    generalize crdE (canB r l a b k a2 b2) q.vB t n e = ce at *
    have hc1 : (ce != 0) = true := by simpa using hce
    go_wp2_with fail
    refine (HCR.out _ (HL.out _ BX.out.low)).mono ?_
    rintro x w2 ⟨rfl, hb⟩
    have BX := hid (BX.out.keep hb); clear hb t0 t1 t2 t3 t4 t5 t6 t7 t8 t9 t10 t11 t12; obtain ⟨t0, t1, t2, t3, t4, t5, t6, t7, t8, t9, t10, t11, t12⟩ := BX.out.thirteen; have hz := BX.out.sz
    go_wp2_with fail
    refine (HXC.out _ (HL.out _ BX.out.low)).mono ?_
    rintro x w3 ⟨rfl, hb⟩
    have BX := hid (BX.out.keep hb); clear hb t0 t1 t2 t3 t4 t5 t6 t7 t8 t9 t10 t11 t12; obtain ⟨t0, t1, t2, t3, t4, t5, t6, t7, t8, t9, t10, t11, t12⟩ := BX.out.thirteen; have hz := BX.out.sz
    go_wp2_with fail
    refine (lawake_any _).mono ?_
    rintro x9 w9 ⟨rfl, hb⟩
    have BX := hid (BX.out.keep hb)
    clear hb
    go_wp2_with fail
    go_ret
    exact ⟨rfl, BX.out.low⟩
  have HCE0 := hid hce
  rw [if_pos hce] at HCR HXC
  rw [hce] at HCR HXC
  by_cases hk : k = 0
  case neg =>
    have hk1 : (k != 0) = true := by simpa using hk
    generalize lowO (sumsO r l a b k a2 b2 q t (crdL r' n e)) = lw at *
    go_wp2_with fail
    refine (HCR.out _ (HL.out _ BX.out.low)).mono ?_
    rintro x w2 ⟨rfl, hb⟩
    have BX := hid (BX.out.keep hb); clear hb t0 t1 t2 t3 t4 t5 t6 t7 t8 t9 t10 t11 t12; obtain ⟨t0, t1, t2, t3, t4, t5, t6, t7, t8, t9, t10, t11, t12⟩ := BX.out.thirteen; have hz := BX.out.sz
    go_wp2_with fail
    refine (HXC.out _ (HL.out _ BX.out.low)).mono ?_
    rintro x w3 ⟨rfl, hb⟩
    have BX := hid (BX.out.keep hb); clear hb t0 t1 t2 t3 t4 t5 t6 t7 t8 t9 t10 t11 t12; obtain ⟨t0, t1, t2, t3, t4, t5, t6, t7, t8, t9, t10, t11, t12⟩ := BX.out.thirteen; have hz := BX.out.sz
    go_wp2_with fail
    refine (lawake_any _).mono ?_
    rintro x9 w9 ⟨rfl, hb⟩
    have BX := hid (BX.out.keep hb)
    clear hb
    go_wp2_with fail
    go_ret
    exact ⟨rfl, BX.out.low⟩
  subst hk
  have HCQ := hid (fun h => cred_le (r' := r') hce h)
  have hme : Rt.markE n e = 0 := by
    unfold crdE at hce
    split at hce
    · exact hce
    · rename_i h0; exact absurd hce h0
  have HCO := hid (show Rt.credO r' n e = Rt.credL r' n e.toNat n by unfold Rt.credO; rw [if_pos hme])
  rw [hme, HCO.out] at HCE
  generalize lowO (sumsO r l a b 0 a2 b2 q t (crdL r' n e)) = lw at *
  clear hce hme
  go_wp2_with fail
  refine (HCR.out _ (HL.out _ BX.out.low)).mono ?_
  rintro x w2 ⟨rfl, hb⟩
  have BX := hid (BX.out.keep hb); clear hb t0 t1 t2 t3 t4 t5 t6 t7 t8 t9 t10 t11 t12; obtain ⟨t0, t1, t2, t3, t4, t5, t6, t7, t8, t9, t10, t11, t12⟩ := BX.out.thirteen; have hz := BX.out.sz
  go_wp2_with fail
  refine (HXC.out _ (HL.out _ BX.out.low)).mono ?_
  rintro x w3 ⟨rfl, hb⟩
  have BX := hid (BX.out.keep hb); clear hb t0 t1 t2 t3 t4 t5 t6 t7 t8 t9 t10 t11 t12; obtain ⟨t0, t1, t2, t3, t4, t5, t6, t7, t8, t9, t10, t11, t12⟩ := BX.out.thirteen; have hz := BX.out.sz
  go_wp2_with fail
  refine (HCE.out _ (HL.out _ BX.out.low)).mono ?_
  rintro x w4 ⟨u4, rfl, hr4, hb⟩
  have BX := hid (BX.out.keep hb); clear hb t0 t1 t2 t3 t4 t5 t6 t7 t8 t9 t10 t11 t12; obtain ⟨t0, t1, t2, t3, t4, t5, t6, t7, t8, t9, t10, t11, t12⟩ := BX.out.thirteen; have hz := BX.out.sz
  have HCRD := hid hr4
  obtain ⟨ua, uc, rfl⟩ := hr4.shape
  rw [Rt.credL_len] at HCRD ⊢
  clear hr4
  go_wp2_with fail
  go_loopw [13] (fun i wr => ∃ j : Nat, j ≤ n ∧ i = .int .i64 (j : Int) ∧ Hid (∀ i, i < j → Rt.credAt r' n e.toNat i ≤ (r' i).b ∧ okT (r' i).b = true) ∧ Hid (RowI wr (.slice ua n uc) (Rt.credL r' n e.toNat n)) ∧ Hid (Box1 w wr #[.int .i64 r, .int .i64 l, .int .i64 a, .int .i64 b, .int .i64 0, .int .i64 a2, .int .i64 b2, .string q.s, .int .i64 q.r, .int .i64 q.z, .int .i64 q.d, .int .i64 q.g, .int .i64 t])) (fun i _ => n - (intOf i).toNat)
  case atStart => exact ⟨0, Nat.zero_le _, rfl, fun i hi => by omega, HCRD, BX⟩
  case round =>
    obtain ⟨j, hj, rfl, HAL, HIr, BXr⟩ := hrel
    clear t0 t1 t2 t3 t4 t5 t6 t7 t8 t9 t10 t11 t12
    by_cases hlt : j < n
    · have hlt' : (j : Int) < n := by omega
      obtain ⟨gb, go, gc, hv, hcc⟩ := HIr.out.some (by rw [Rt.credL_len]; omega)
      injection hv with e1 e2 e3
      subst e1
      have ex := hcc j (by rw [Rt.credL_len]; exact hlt)
      have e4 : (Rt.credL r' n e.toNat n)[j]'(by rw [Rt.credL_len]; exact hlt) = Rt.credAt r' n e.toNat j := by simp [Rt.credL]
      rw [e4] at ex
      obtain ⟨a', b', o', cap', hv2, _, _, ha', hcell⟩ := HL.out wr BXr.out.low
      injection hv2 with hv1 hv3 hv4
      subst hv1
      rcases ha' with h0 | rfl
      · omega
      obtain ⟨_, _, _, c3⟩ := hcell j hlt
      have HNX := hid (fun (h : Rt.credAt r' n e.toNat j ≤ (r' j).b ∧ okT (r' j).b = true) => show ∀ i, i < j + 1 → Rt.credAt r' n e.toNat i ≤ (r' i).b ∧ okT (r' i).b = true from fun i hi => by
        rcases Nat.lt_or_ge i j with h1 | h1
        · exact HAL.out i h1
        · obtain rfl : i = j := by omega
          exact h)
      have m0 := fun p : LowBy wr => low_cell ex p
      have m1 := fun p : LowBy wr => low_cell c3 p
      have HLT := hid hlt
      clear hcc hcell hv3 hv4 e2 e3 e4 ex c3 hlt
      generalize Rt.credAt r' n e.toNat j = cx at *
      generalize (r' j).b = bx at *
      cases d1 : decide (bx < cx)
      case true =>
        go_wp2_with fail
        refine wp_region_low (by kernel_rfl) (by kernel_rfl) (fun R hR => ?_)
        (refine low_step (by assumption) ?_; intro R hR K hK; go_simp; first | (refine hK _ ?_; clear hK K) | (apply Exists.intro; refine ⟨fun _ => ?_, hK _ ?_⟩; (first | fail); clear hK K))
        (refine low_step (by assumption) ?_; intro R hR K hK; go_simp; first | (refine hK _ ?_; clear hK K) | (apply Exists.intro; refine ⟨fun _ => ?_, hK _ ?_⟩; (first | fail); clear hK K))
        (refine low_step (by assumption) ?_; intro R hR K hK; go_simp; first | (refine hK _ ?_; clear hK K) | (apply Exists.intro; refine ⟨fun _ => ?_, hK _ ?_⟩; (first | fail); clear hK K))
        (refine low_step (by assumption) ?_; intro R hR K hK; go_simp; first | (refine hK _ ?_; clear hK K) | (apply Exists.intro; refine ⟨fun _ => ?_, hK _ ?_⟩; (first | fail); clear hK K))
        (refine low_step (by assumption) ?_; intro R hR K hK; go_simp; first | (refine hK _ ?_; clear hK K) | (apply Exists.intro; refine ⟨fun _ => ?_, hK _ ?_⟩; (first | fail); clear hK K))
        (refine low_step (by assumption) ?_; intro R hR K hK; go_simp; first | (refine hK _ ?_; clear hK K) | (apply Exists.intro; refine ⟨fun _ => ?_, hK _ ?_⟩; (first | fail); clear hK K))
        (refine low_step (by assumption) ?_; intro R hR K hK; go_simp; first | (refine hK _ ?_; clear hK K) | (apply Exists.intro; refine ⟨fun _ => ?_, hK _ ?_⟩; (first | fail); clear hK K))
        (refine low_step (by assumption) ?_; intro R hR K hK; go_simp; first | (refine hK _ ?_; clear hK K) | (apply Exists.intro; refine ⟨fun _ => ?_, hK _ ?_⟩; (first | fail); clear hK K))
        (refine low_step (by assumption) ?_; intro R hR K hK; go_simp; first | (refine hK _ ?_; clear hK K) | (apply Exists.intro; refine ⟨fun _ => ?_, hK _ ?_⟩; (first | fail); clear hK K))
        (refine low_step (by assumption) ?_; intro R hR K hK; go_simp; first | (refine hK _ ?_; clear hK K) | (apply Exists.intro; refine ⟨fun _ => ?_, hK _ ?_⟩; (first | fail); clear hK K))
        (refine low_step (by assumption) ?_; intro R hR K hK; go_simp; first | (refine hK _ ?_; clear hK K) | (apply Exists.intro; refine ⟨fun _ => ?_, hK _ ?_⟩; (first | fail); clear hK K))
        (refine low_step (by assumption) ?_; intro R hR K hK; go_simp; first | (refine hK _ ?_; clear hK K) | (apply Exists.intro; refine ⟨fun _ => ?_, hK _ ?_⟩; (first | fail); clear hK K))
        (refine low_step (by assumption) ?_; intro R hR K hK; go_simp; first | (refine hK _ ?_; clear hK K) | (apply Exists.intro; refine ⟨fun _ => ?_, hK _ ?_⟩; (first | fail); clear hK K))
        (refine low_step (by assumption) ?_; intro R hR K hK; go_simp; first | (refine hK _ ?_; clear hK K) | (apply Exists.intro; refine ⟨fun _ => ?_, hK _ ?_⟩; (first | fail); clear hK K))
        (refine low_step (by assumption) ?_; intro R hR K hK; go_simp; first | (refine hK _ ?_; clear hK K) | (apply Exists.intro; refine ⟨fun _ => ?_, hK _ ?_⟩; (first | fail); clear hK K))
        (refine low_step (by assumption) ?_; intro R hR K hK; go_simp; first | (refine hK _ ?_; clear hK K) | (apply Exists.intro; refine ⟨fun _ => ?_, hK _ ?_⟩; (first | fail); clear hK K))
        (refine low_step (by assumption) ?_; intro R hR K hK; go_simp; first | (refine hK _ ?_; clear hK K) | (apply Exists.intro; refine ⟨fun _ => ?_, hK _ ?_⟩; (first | fail); clear hK K))
        (refine low_step (by assumption) ?_; intro R hR K hK; go_simp; first | (refine hK _ ?_; clear hK K) | (apply Exists.intro; refine ⟨fun _ => ?_, hK _ ?_⟩; (first | fail); clear hK K))
        (refine low_step (by assumption) ?_; intro R hR K hK; go_simp; first | (refine hK _ ?_; clear hK K) | (apply Exists.intro; refine ⟨fun _ => ?_, hK _ ?_⟩; (first | fail); clear hK K))
        (refine low_step (by assumption) ?_; intro R hR K hK; go_simp; first | (refine hK _ ?_; clear hK K) | (apply Exists.intro; refine ⟨fun _ => ?_, hK _ ?_⟩; (first | fail); clear hK K))
        (refine low_step (by assumption) ?_; intro R hR K hK; go_simp; first | (refine hK _ ?_; clear hK K) | (apply Exists.intro; refine ⟨fun _ => ?_, hK _ ?_⟩; (first | fail); clear hK K))
        (refine low_step (by assumption) ?_; intro R hR K hK; go_simp; first | (refine hK _ ?_; clear hK K) | (apply Exists.intro; refine ⟨fun _ => ?_, hK _ ?_⟩; (first | fail); clear hK K))
        (refine low_step (by assumption) ?_; intro R hR K hK; go_simp; first | (refine hK _ ?_; clear hK K) | (apply Exists.intro; refine ⟨fun _ => ?_, hK _ ?_⟩; (first | fail); clear hK K))
        (refine low_step (by assumption) ?_; intro R hR K hK; go_simp; first | (refine hK _ ?_; clear hK K) | (apply Exists.intro; refine ⟨fun _ => ?_, hK _ ?_⟩; (first | fail); clear hK K))
        (refine low_step (by assumption) ?_; intro R hR K hK; go_simp; first | (refine hK _ ?_; clear hK K) | (apply Exists.intro; refine ⟨fun _ => ?_, hK _ ?_⟩; (first | fail); clear hK K))
        (refine low_step (by assumption) ?_; intro R hR K hK; go_simp; first | (refine hK _ ?_; clear hK K) | (apply Exists.intro; refine ⟨fun _ => ?_, hK _ ?_⟩; (first | fail); clear hK K))
        refine low_nil (by assumption) ?_; intro _ hw'; obtain ⟨⟨wq, hlow⟩, hw''⟩ := hw'; subst hw''; have HLOW := hid hlow; clear hlow; (try simp only)
        have BX := hid (BXr.out.keep HLOW.out)
        go_wp2_with fail
        refine (lawake_any _).mono ?_
        rintro x9 w9 ⟨rfl, hb⟩
        have BX := hid (BX.out.keep hb)
        clear hb
        go_wp2_with fail
        go_ret
        exact ⟨rfl, BX.out.low⟩
      cases d2 : decide (bx < -50000)
      case true =>
        go_wp2_with fail
        refine wp_region_low (by kernel_rfl) (by kernel_rfl) (fun R hR => ?_)
        (refine low_step (by assumption) ?_; intro R hR K hK; go_simp; first | (refine hK _ ?_; clear hK K) | (apply Exists.intro; refine ⟨fun _ => ?_, hK _ ?_⟩; (first | fail); clear hK K))
        (refine low_step (by assumption) ?_; intro R hR K hK; go_simp; first | (refine hK _ ?_; clear hK K) | (apply Exists.intro; refine ⟨fun _ => ?_, hK _ ?_⟩; (first | fail); clear hK K))
        (refine low_step (by assumption) ?_; intro R hR K hK; go_simp; first | (refine hK _ ?_; clear hK K) | (apply Exists.intro; refine ⟨fun _ => ?_, hK _ ?_⟩; (first | fail); clear hK K))
        (refine low_step (by assumption) ?_; intro R hR K hK; go_simp; first | (refine hK _ ?_; clear hK K) | (apply Exists.intro; refine ⟨fun _ => ?_, hK _ ?_⟩; (first | fail); clear hK K))
        (refine low_step (by assumption) ?_; intro R hR K hK; go_simp; first | (refine hK _ ?_; clear hK K) | (apply Exists.intro; refine ⟨fun _ => ?_, hK _ ?_⟩; (first | fail); clear hK K))
        (refine low_step (by assumption) ?_; intro R hR K hK; go_simp; first | (refine hK _ ?_; clear hK K) | (apply Exists.intro; refine ⟨fun _ => ?_, hK _ ?_⟩; (first | fail); clear hK K))
        (refine low_step (by assumption) ?_; intro R hR K hK; go_simp; first | (refine hK _ ?_; clear hK K) | (apply Exists.intro; refine ⟨fun _ => ?_, hK _ ?_⟩; (first | fail); clear hK K))
        (refine low_step (by assumption) ?_; intro R hR K hK; go_simp; first | (refine hK _ ?_; clear hK K) | (apply Exists.intro; refine ⟨fun _ => ?_, hK _ ?_⟩; (first | fail); clear hK K))
        (refine low_step (by assumption) ?_; intro R hR K hK; go_simp; first | (refine hK _ ?_; clear hK K) | (apply Exists.intro; refine ⟨fun _ => ?_, hK _ ?_⟩; (first | fail); clear hK K))
        (refine low_step (by assumption) ?_; intro R hR K hK; go_simp; first | (refine hK _ ?_; clear hK K) | (apply Exists.intro; refine ⟨fun _ => ?_, hK _ ?_⟩; (first | fail); clear hK K))
        (refine low_step (by assumption) ?_; intro R hR K hK; go_simp; first | (refine hK _ ?_; clear hK K) | (apply Exists.intro; refine ⟨fun _ => ?_, hK _ ?_⟩; (first | fail); clear hK K))
        (refine low_step (by assumption) ?_; intro R hR K hK; go_simp; first | (refine hK _ ?_; clear hK K) | (apply Exists.intro; refine ⟨fun _ => ?_, hK _ ?_⟩; (first | fail); clear hK K))
        (refine low_step (by assumption) ?_; intro R hR K hK; go_simp; first | (refine hK _ ?_; clear hK K) | (apply Exists.intro; refine ⟨fun _ => ?_, hK _ ?_⟩; (first | fail); clear hK K))
        (refine low_step (by assumption) ?_; intro R hR K hK; go_simp; first | (refine hK _ ?_; clear hK K) | (apply Exists.intro; refine ⟨fun _ => ?_, hK _ ?_⟩; (first | fail); clear hK K))
        (refine low_step (by assumption) ?_; intro R hR K hK; go_simp; first | (refine hK _ ?_; clear hK K) | (apply Exists.intro; refine ⟨fun _ => ?_, hK _ ?_⟩; (first | fail); clear hK K))
        (refine low_step (by assumption) ?_; intro R hR K hK; go_simp; first | (refine hK _ ?_; clear hK K) | (apply Exists.intro; refine ⟨fun _ => ?_, hK _ ?_⟩; (first | fail); clear hK K))
        (refine low_step (by assumption) ?_; intro R hR K hK; go_simp; first | (refine hK _ ?_; clear hK K) | (apply Exists.intro; refine ⟨fun _ => ?_, hK _ ?_⟩; (first | fail); clear hK K))
        (refine low_step (by assumption) ?_; intro R hR K hK; go_simp; first | (refine hK _ ?_; clear hK K) | (apply Exists.intro; refine ⟨fun _ => ?_, hK _ ?_⟩; (first | fail); clear hK K))
        (refine low_step (by assumption) ?_; intro R hR K hK; go_simp; first | (refine hK _ ?_; clear hK K) | (apply Exists.intro; refine ⟨fun _ => ?_, hK _ ?_⟩; (first | fail); clear hK K))
        (refine low_step (by assumption) ?_; intro R hR K hK; go_simp; first | (refine hK _ ?_; clear hK K) | (apply Exists.intro; refine ⟨fun _ => ?_, hK _ ?_⟩; (first | fail); clear hK K))
        (refine low_step (by assumption) ?_; intro R hR K hK; go_simp; first | (refine hK _ ?_; clear hK K) | (apply Exists.intro; refine ⟨fun _ => ?_, hK _ ?_⟩; (first | fail); clear hK K))
        (refine low_step (by assumption) ?_; intro R hR K hK; go_simp; first | (refine hK _ ?_; clear hK K) | (apply Exists.intro; refine ⟨fun _ => ?_, hK _ ?_⟩; (first | fail); clear hK K))
        (refine low_step (by assumption) ?_; intro R hR K hK; go_simp; first | (refine hK _ ?_; clear hK K) | (apply Exists.intro; refine ⟨fun _ => ?_, hK _ ?_⟩; (first | fail); clear hK K))
        (refine low_step (by assumption) ?_; intro R hR K hK; go_simp; first | (refine hK _ ?_; clear hK K) | (apply Exists.intro; refine ⟨fun _ => ?_, hK _ ?_⟩; (first | fail); clear hK K))
        (refine low_step (by assumption) ?_; intro R hR K hK; go_simp; first | (refine hK _ ?_; clear hK K) | (apply Exists.intro; refine ⟨fun _ => ?_, hK _ ?_⟩; (first | fail); clear hK K))
        (refine low_step (by assumption) ?_; intro R hR K hK; go_simp; first | (refine hK _ ?_; clear hK K) | (apply Exists.intro; refine ⟨fun _ => ?_, hK _ ?_⟩; (first | fail); clear hK K))
        refine low_nil (by assumption) ?_; intro _ hw'; obtain ⟨⟨wq, hlow⟩, hw''⟩ := hw'; subst hw''; have HLOW := hid hlow; clear hlow; (try simp only)
        have BX := hid (BXr.out.keep HLOW.out)
        go_wp2_with fail
        refine (lawake_any _).mono ?_
        rintro x9 w9 ⟨rfl, hb⟩
        have BX := hid (BX.out.keep hb)
        clear hb
        go_wp2_with fail
        go_ret
        exact ⟨rfl, BX.out.low⟩
      cases d3 : decide (200000 < bx)
      case true =>
        go_wp2_with fail
        refine wp_region_low (by kernel_rfl) (by kernel_rfl) (fun R hR => ?_)
        (refine low_step (by assumption) ?_; intro R hR K hK; go_simp; first | (refine hK _ ?_; clear hK K) | (apply Exists.intro; refine ⟨fun _ => ?_, hK _ ?_⟩; (first | fail); clear hK K))
        (refine low_step (by assumption) ?_; intro R hR K hK; go_simp; first | (refine hK _ ?_; clear hK K) | (apply Exists.intro; refine ⟨fun _ => ?_, hK _ ?_⟩; (first | fail); clear hK K))
        (refine low_step (by assumption) ?_; intro R hR K hK; go_simp; first | (refine hK _ ?_; clear hK K) | (apply Exists.intro; refine ⟨fun _ => ?_, hK _ ?_⟩; (first | fail); clear hK K))
        (refine low_step (by assumption) ?_; intro R hR K hK; go_simp; first | (refine hK _ ?_; clear hK K) | (apply Exists.intro; refine ⟨fun _ => ?_, hK _ ?_⟩; (first | fail); clear hK K))
        (refine low_step (by assumption) ?_; intro R hR K hK; go_simp; first | (refine hK _ ?_; clear hK K) | (apply Exists.intro; refine ⟨fun _ => ?_, hK _ ?_⟩; (first | fail); clear hK K))
        (refine low_step (by assumption) ?_; intro R hR K hK; go_simp; first | (refine hK _ ?_; clear hK K) | (apply Exists.intro; refine ⟨fun _ => ?_, hK _ ?_⟩; (first | fail); clear hK K))
        (refine low_step (by assumption) ?_; intro R hR K hK; go_simp; first | (refine hK _ ?_; clear hK K) | (apply Exists.intro; refine ⟨fun _ => ?_, hK _ ?_⟩; (first | fail); clear hK K))
        (refine low_step (by assumption) ?_; intro R hR K hK; go_simp; first | (refine hK _ ?_; clear hK K) | (apply Exists.intro; refine ⟨fun _ => ?_, hK _ ?_⟩; (first | fail); clear hK K))
        (refine low_step (by assumption) ?_; intro R hR K hK; go_simp; first | (refine hK _ ?_; clear hK K) | (apply Exists.intro; refine ⟨fun _ => ?_, hK _ ?_⟩; (first | fail); clear hK K))
        (refine low_step (by assumption) ?_; intro R hR K hK; go_simp; first | (refine hK _ ?_; clear hK K) | (apply Exists.intro; refine ⟨fun _ => ?_, hK _ ?_⟩; (first | fail); clear hK K))
        (refine low_step (by assumption) ?_; intro R hR K hK; go_simp; first | (refine hK _ ?_; clear hK K) | (apply Exists.intro; refine ⟨fun _ => ?_, hK _ ?_⟩; (first | fail); clear hK K))
        (refine low_step (by assumption) ?_; intro R hR K hK; go_simp; first | (refine hK _ ?_; clear hK K) | (apply Exists.intro; refine ⟨fun _ => ?_, hK _ ?_⟩; (first | fail); clear hK K))
        (refine low_step (by assumption) ?_; intro R hR K hK; go_simp; first | (refine hK _ ?_; clear hK K) | (apply Exists.intro; refine ⟨fun _ => ?_, hK _ ?_⟩; (first | fail); clear hK K))
        (refine low_step (by assumption) ?_; intro R hR K hK; go_simp; first | (refine hK _ ?_; clear hK K) | (apply Exists.intro; refine ⟨fun _ => ?_, hK _ ?_⟩; (first | fail); clear hK K))
        (refine low_step (by assumption) ?_; intro R hR K hK; go_simp; first | (refine hK _ ?_; clear hK K) | (apply Exists.intro; refine ⟨fun _ => ?_, hK _ ?_⟩; (first | fail); clear hK K))
        (refine low_step (by assumption) ?_; intro R hR K hK; go_simp; first | (refine hK _ ?_; clear hK K) | (apply Exists.intro; refine ⟨fun _ => ?_, hK _ ?_⟩; (first | fail); clear hK K))
        (refine low_step (by assumption) ?_; intro R hR K hK; go_simp; first | (refine hK _ ?_; clear hK K) | (apply Exists.intro; refine ⟨fun _ => ?_, hK _ ?_⟩; (first | fail); clear hK K))
        (refine low_step (by assumption) ?_; intro R hR K hK; go_simp; first | (refine hK _ ?_; clear hK K) | (apply Exists.intro; refine ⟨fun _ => ?_, hK _ ?_⟩; (first | fail); clear hK K))
        (refine low_step (by assumption) ?_; intro R hR K hK; go_simp; first | (refine hK _ ?_; clear hK K) | (apply Exists.intro; refine ⟨fun _ => ?_, hK _ ?_⟩; (first | fail); clear hK K))
        (refine low_step (by assumption) ?_; intro R hR K hK; go_simp; first | (refine hK _ ?_; clear hK K) | (apply Exists.intro; refine ⟨fun _ => ?_, hK _ ?_⟩; (first | fail); clear hK K))
        (refine low_step (by assumption) ?_; intro R hR K hK; go_simp; first | (refine hK _ ?_; clear hK K) | (apply Exists.intro; refine ⟨fun _ => ?_, hK _ ?_⟩; (first | fail); clear hK K))
        (refine low_step (by assumption) ?_; intro R hR K hK; go_simp; first | (refine hK _ ?_; clear hK K) | (apply Exists.intro; refine ⟨fun _ => ?_, hK _ ?_⟩; (first | fail); clear hK K))
        (refine low_step (by assumption) ?_; intro R hR K hK; go_simp; first | (refine hK _ ?_; clear hK K) | (apply Exists.intro; refine ⟨fun _ => ?_, hK _ ?_⟩; (first | fail); clear hK K))
        (refine low_step (by assumption) ?_; intro R hR K hK; go_simp; first | (refine hK _ ?_; clear hK K) | (apply Exists.intro; refine ⟨fun _ => ?_, hK _ ?_⟩; (first | fail); clear hK K))
        (refine low_step (by assumption) ?_; intro R hR K hK; go_simp; first | (refine hK _ ?_; clear hK K) | (apply Exists.intro; refine ⟨fun _ => ?_, hK _ ?_⟩; (first | fail); clear hK K))
        (refine low_step (by assumption) ?_; intro R hR K hK; go_simp; first | (refine hK _ ?_; clear hK K) | (apply Exists.intro; refine ⟨fun _ => ?_, hK _ ?_⟩; (first | fail); clear hK K))
        refine low_nil (by assumption) ?_; intro _ hw'; obtain ⟨⟨wq, hlow⟩, hw''⟩ := hw'; subst hw''; have HLOW := hid hlow; clear hlow; (try simp only)
        have BX := hid (BXr.out.keep HLOW.out)
        go_wp2_with fail
        refine (lawake_any _).mono ?_
        rintro x9 w9 ⟨rfl, hb⟩
        have BX := hid (BX.out.keep hb)
        clear hb
        go_wp2_with fail
        go_ret
        exact ⟨rfl, BX.out.low⟩
      · go_wp2_with fail
        refine wp_region_low (by kernel_rfl) (by kernel_rfl) (fun R hR => ?_)
        (refine low_step (by assumption) ?_; intro R hR K hK; go_simp; first | (refine hK _ ?_; clear hK K) | (apply Exists.intro; refine ⟨fun _ => ?_, hK _ ?_⟩; (first | fail); clear hK K))
        (refine low_step (by assumption) ?_; intro R hR K hK; go_simp; first | (refine hK _ ?_; clear hK K) | (apply Exists.intro; refine ⟨fun _ => ?_, hK _ ?_⟩; (first | fail); clear hK K))
        (refine low_step (by assumption) ?_; intro R hR K hK; go_simp; first | (refine hK _ ?_; clear hK K) | (apply Exists.intro; refine ⟨fun _ => ?_, hK _ ?_⟩; (first | fail); clear hK K))
        (refine low_step (by assumption) ?_; intro R hR K hK; go_simp; first | (refine hK _ ?_; clear hK K) | (apply Exists.intro; refine ⟨fun _ => ?_, hK _ ?_⟩; (first | fail); clear hK K))
        (refine low_step (by assumption) ?_; intro R hR K hK; go_simp; first | (refine hK _ ?_; clear hK K) | (apply Exists.intro; refine ⟨fun _ => ?_, hK _ ?_⟩; (first | fail); clear hK K))
        (refine low_step (by assumption) ?_; intro R hR K hK; go_simp; first | (refine hK _ ?_; clear hK K) | (apply Exists.intro; refine ⟨fun _ => ?_, hK _ ?_⟩; (first | fail); clear hK K))
        (refine low_step (by assumption) ?_; intro R hR K hK; go_simp; first | (refine hK _ ?_; clear hK K) | (apply Exists.intro; refine ⟨fun _ => ?_, hK _ ?_⟩; (first | fail); clear hK K))
        (refine low_step (by assumption) ?_; intro R hR K hK; go_simp; first | (refine hK _ ?_; clear hK K) | (apply Exists.intro; refine ⟨fun _ => ?_, hK _ ?_⟩; (first | fail); clear hK K))
        (refine low_step (by assumption) ?_; intro R hR K hK; go_simp; first | (refine hK _ ?_; clear hK K) | (apply Exists.intro; refine ⟨fun _ => ?_, hK _ ?_⟩; (first | fail); clear hK K))
        (refine low_step (by assumption) ?_; intro R hR K hK; go_simp; first | (refine hK _ ?_; clear hK K) | (apply Exists.intro; refine ⟨fun _ => ?_, hK _ ?_⟩; (first | fail); clear hK K))
        (refine low_step (by assumption) ?_; intro R hR K hK; go_simp; first | (refine hK _ ?_; clear hK K) | (apply Exists.intro; refine ⟨fun _ => ?_, hK _ ?_⟩; (first | fail); clear hK K))
        (refine low_step (by assumption) ?_; intro R hR K hK; go_simp; first | (refine hK _ ?_; clear hK K) | (apply Exists.intro; refine ⟨fun _ => ?_, hK _ ?_⟩; (first | fail); clear hK K))
        (refine low_step (by assumption) ?_; intro R hR K hK; go_simp; first | (refine hK _ ?_; clear hK K) | (apply Exists.intro; refine ⟨fun _ => ?_, hK _ ?_⟩; (first | fail); clear hK K))
        (refine low_step (by assumption) ?_; intro R hR K hK; go_simp; first | (refine hK _ ?_; clear hK K) | (apply Exists.intro; refine ⟨fun _ => ?_, hK _ ?_⟩; (first | fail); clear hK K))
        (refine low_step (by assumption) ?_; intro R hR K hK; go_simp; first | (refine hK _ ?_; clear hK K) | (apply Exists.intro; refine ⟨fun _ => ?_, hK _ ?_⟩; (first | fail); clear hK K))
        (refine low_step (by assumption) ?_; intro R hR K hK; go_simp; first | (refine hK _ ?_; clear hK K) | (apply Exists.intro; refine ⟨fun _ => ?_, hK _ ?_⟩; (first | fail); clear hK K))
        (refine low_step (by assumption) ?_; intro R hR K hK; go_simp; first | (refine hK _ ?_; clear hK K) | (apply Exists.intro; refine ⟨fun _ => ?_, hK _ ?_⟩; (first | fail); clear hK K))
        (refine low_step (by assumption) ?_; intro R hR K hK; go_simp; first | (refine hK _ ?_; clear hK K) | (apply Exists.intro; refine ⟨fun _ => ?_, hK _ ?_⟩; (first | fail); clear hK K))
        (refine low_step (by assumption) ?_; intro R hR K hK; go_simp; first | (refine hK _ ?_; clear hK K) | (apply Exists.intro; refine ⟨fun _ => ?_, hK _ ?_⟩; (first | fail); clear hK K))
        (refine low_step (by assumption) ?_; intro R hR K hK; go_simp; first | (refine hK _ ?_; clear hK K) | (apply Exists.intro; refine ⟨fun _ => ?_, hK _ ?_⟩; (first | fail); clear hK K))
        (refine low_step (by assumption) ?_; intro R hR K hK; go_simp; first | (refine hK _ ?_; clear hK K) | (apply Exists.intro; refine ⟨fun _ => ?_, hK _ ?_⟩; (first | fail); clear hK K))
        (refine low_step (by assumption) ?_; intro R hR K hK; go_simp; first | (refine hK _ ?_; clear hK K) | (apply Exists.intro; refine ⟨fun _ => ?_, hK _ ?_⟩; (first | fail); clear hK K))
        (refine low_step (by assumption) ?_; intro R hR K hK; go_simp; first | (refine hK _ ?_; clear hK K) | (apply Exists.intro; refine ⟨fun _ => ?_, hK _ ?_⟩; (first | fail); clear hK K))
        (refine low_step (by assumption) ?_; intro R hR K hK; go_simp; first | (refine hK _ ?_; clear hK K) | (apply Exists.intro; refine ⟨fun _ => ?_, hK _ ?_⟩; (first | fail); clear hK K))
        (refine low_step (by assumption) ?_; intro R hR K hK; go_simp; first | (refine hK _ ?_; clear hK K) | (apply Exists.intro; refine ⟨fun _ => ?_, hK _ ?_⟩; (first | fail); clear hK K))
        (refine low_step (by assumption) ?_; intro R hR K hK; go_simp; first | (refine hK _ ?_; clear hK K) | (apply Exists.intro; refine ⟨fun _ => ?_, hK _ ?_⟩; (first | fail); clear hK K))
        refine low_nil (by assumption) ?_; intro _ hw'; obtain ⟨⟨wq, hlow⟩, hw''⟩ := hw'; subst hw''; have HLOW := hid hlow; clear hlow; (try simp only)
        have HN := hid (HNX.out (by simp at d1 d2 d3; simp [okT]; omega))
        have HI9 := hid (HIr.out.keep HLOW.out)
        have BX9 := hid (BXr.out.keep HLOW.out)
        go_wp2_with fail
        go_roundw
        case rel => exact ⟨j + 1, HLT.out, by go_num, HN, HI9, BX9⟩
        case measure => have := HLT.out; simp [intOf]; omega
    · obtain rfl : j = n := by omega
      obtain ⟨hch, hle⟩ := HCQ.out HAL.out
      have HLEB := hid (HLE.out (Rt.bathsL r' j))
      rw [hch] at HLEB
      have HBA := hid (fun W h => Rt.xbaths_any (.slice a0 j cap) j r' W h (by omega))
      have HBL := hid (show (Rt.bathsL r' j).length ≤ 1000000 by rw [Rt.bathsL_len]; omega)
      generalize slowO (sumsO r l a b 0 a2 b2 q t (Rt.bathsL r' j)) = sl at *
      generalize lowO (sumsO r l a b 0 a2 b2 q t (Rt.bathsL r' j)) = lb at *
      have hle2 : lw ≤ lb := hle
      have BX := BXr
      clear hch hle HAL HCQ HLE HIr HCRD BXr
      obtain ⟨w8, hw8⟩ : ∃ w8, w8 = wr := ⟨_, rfl⟩
      rw [← hw8] at BX ⊢
      clear hw8
      go_wp2_with fail
      have hmd : Hid (Below w8.heap.size w8 w8.drew) := (Below.refl _ w8).drew
      have BX := hid (BX.out.keep hmd.out)
      refine wp_region_held_drew (S := (fun w1 => w1.cell? ⟨w.heap.size, 0, none⟩ = some (.int .i64 r) ∧ w1.cell? ⟨w.heap.size, 1, none⟩ = some (.int .i64 l) ∧ w1.cell? ⟨w.heap.size, 2, none⟩ = some (.int .i64 a) ∧ w1.cell? ⟨w.heap.size, 3, none⟩ = some (.int .i64 b) ∧ w1.cell? ⟨w.heap.size, 4, none⟩ = some (.int .i64 0) ∧ w1.cell? ⟨w.heap.size, 5, none⟩ = some (.int .i64 a2) ∧ w1.cell? ⟨w.heap.size, 6, none⟩ = some (.int .i64 b2) ∧ w1.cell? ⟨w.heap.size, 7, none⟩ = some (.string q.s) ∧ w1.cell? ⟨w.heap.size, 8, none⟩ = some (.int .i64 q.r) ∧ w1.cell? ⟨w.heap.size, 9, none⟩ = some (.int .i64 q.z) ∧ w1.cell? ⟨w.heap.size, 10, none⟩ = some (.int .i64 q.d) ∧ w1.cell? ⟨w.heap.size, 11, none⟩ = some (.int .i64 q.g) ∧ w1.cell? ⟨w.heap.size, 12, none⟩ = some (.int .i64 t))) (by kernel_rfl) ⟨BX.out.fst 0, BX.out.fst 1, BX.out.fst 2, BX.out.fst 3, BX.out.fst 4, BX.out.fst 5, BX.out.fst 6, BX.out.fst 7, BX.out.fst 8, BX.out.fst 9, BX.out.fst 10, BX.out.fst 11, BX.out.fst 12⟩ (fun hS0 => ?_)
      generalize w8.drew = W0 at *
      clear hmd
      refine wpAnyH_take (i := 0) (v := ?_) rfl (by kernel_rfl) (by kernel_rfl) (by kernel_rfl) (fun _ _ _ h => h) (Or.inl ⟨by rfl, ?_⟩) hS0 ?_
      rotate_left
      · intro w' hSw
        obtain _ := hSw
        go_simp
        try with_reducible rfl
      try simp only [Act.put]
      try simp only [List.setIfInBounds_toArray]
      try simp only [List.set_cons_zero, List.set_cons_succ]
      refine wpAnyH_take (i := 1) (v := ?_) rfl (by kernel_rfl) (by kernel_rfl) (by kernel_rfl) (fun _ _ _ h => h) (Or.inl ⟨by rfl, ?_⟩) hS0 ?_
      rotate_left
      · intro w' hSw
        obtain ⟨q0, q1, q2, q3, q4, q5, q6, _⟩ := hSw
        go_simp
        try with_reducible rfl
      try simp only [Act.put]
      try simp only [List.setIfInBounds_toArray]
      try simp only [List.set_cons_zero, List.set_cons_succ]
      refine wpAnyH_take (i := 2) (v := ?_) rfl (by kernel_rfl) (by kernel_rfl) (by kernel_rfl) (fun _ _ _ h => h) (Or.inl ⟨by rfl, ?_⟩) hS0 ?_
      rotate_left
      · intro w' hSw
        obtain _ := hSw
        go_simp
        try with_reducible rfl
      try simp only [Act.put]
      try simp only [List.setIfInBounds_toArray]
      try simp only [List.set_cons_zero, List.set_cons_succ]
      refine wpAnyH_take (i := 3) (v := ?_) rfl (by kernel_rfl) (by kernel_rfl) (by kernel_rfl) (fun _ _ _ h => h) (Or.inl ⟨by rfl, ?_⟩) hS0 ?_
      rotate_left
      · intro w' hSw
        obtain ⟨_, _, _, _, _, _, _, q0, q1, q2, q3, q4, _⟩ := hSw
        go_simp
        try with_reducible rfl
      try simp only [Act.put]
      try simp only [List.setIfInBounds_toArray]
      try simp only [List.set_cons_zero, List.set_cons_succ]
      refine wpAnyH_take (i := 4) (v := ?_) rfl (by kernel_rfl) (by kernel_rfl) (by kernel_rfl) (fun _ _ _ h => h) (Or.inl ⟨by rfl, ?_⟩) hS0 ?_
      rotate_left
      · intro w' hSw
        obtain _ := hSw
        go_simp
        try with_reducible rfl
      try simp only [Act.put]
      try simp only [List.setIfInBounds_toArray]
      try simp only [List.set_cons_zero, List.set_cons_succ]
      refine wpAnyH_take (i := 5) (v := ?_) rfl (by kernel_rfl) (by kernel_rfl) (by kernel_rfl) (fun _ _ _ h => h) (Or.inl ⟨by rfl, ?_⟩) hS0 ?_
      rotate_left
      · intro w' hSw
        obtain ⟨_, _, _, _, _, _, _, _, _, _, _, _, q0⟩ := hSw
        go_simp
        try with_reducible rfl
      try simp only [Act.put]
      try simp only [List.setIfInBounds_toArray]
      try simp only [List.set_cons_zero, List.set_cons_succ]
      refine wpAnyH_take (i := 6) (v := ?_) rfl (by kernel_rfl) (by kernel_rfl) (by kernel_rfl) (fun _ _ _ h => h) (Or.inl ⟨by rfl, ?_⟩) hS0 ?_
      rotate_left
      · intro w' hSw
        obtain _ := hSw
        go_simp
        try with_reducible rfl
      try simp only [Act.put]
      try simp only [List.setIfInBounds_toArray]
      try simp only [List.set_cons_zero, List.set_cons_succ]
      (refine wpAnyH_ready (rs := [7]) (by kernel_rfl) (by simp) ?_)
      refine AllReadyH.cons rfl (fun K hK => ?_) AllReadyH.nil
      go_simp
      refine (HBA.out _ (HL.out _ BX.out.low)).mono ?_
      rintro x w4 ⟨u4, rfl, ho, hb⟩
      have HR4 := hid (ho.rowI HBL.out)
      have BX := hid (BX.out.keep hb)
      clear ho hb
      refine hK.out _ _ ⟨BX.out.fst 0, BX.out.fst 1, BX.out.fst 2, BX.out.fst 3, BX.out.fst 4, BX.out.fst 5, BX.out.fst 6, BX.out.fst 7, BX.out.fst 8, BX.out.fst 9, BX.out.fst 10, BX.out.fst 11, BX.out.fst 12⟩ (fun hS1 => ?_)
      clear hK K hS0
      (refine wpAnyH_ready (rs := [8]) (by kernel_rfl) (by simp) ?_)
      refine AllReadyH.cons rfl (fun K hK => ?_) AllReadyH.nil
      go_simp
      refine (HLEB.out _ _ HR4.out).mono ?_
      rintro x w6 ⟨rfl, hb⟩
      have BX := hid (BX.out.keep hb)
      clear hb
      refine hK.out _ _ ⟨BX.out.fst 0, BX.out.fst 1, BX.out.fst 2, BX.out.fst 3, BX.out.fst 4, BX.out.fst 5, BX.out.fst 6, BX.out.fst 7, BX.out.fst 8, BX.out.fst 9, BX.out.fst 10, BX.out.fst 11, BX.out.fst 12⟩ (fun hS2 => ?_)
      clear hK K hS1
      refine wpAnyH_take (i := 9) (v := ?_) rfl (by kernel_rfl) (by kernel_rfl) (by kernel_rfl) (fun _ _ _ h => h) (Or.inl ⟨by rfl, ?_⟩) hS2 ?_
      rotate_left
      · intro w' hSw
        obtain _ := hSw
        go_simp
        try with_reducible rfl
      try simp only [Act.put]
      try simp only [List.setIfInBounds_toArray]
      try simp only [List.set_cons_zero, List.set_cons_succ]
      refine wpAnyH_take (i := 10) (v := ?_) rfl (by kernel_rfl) (by kernel_rfl) (by kernel_rfl) (fun _ _ _ h => h) (Or.inl ⟨by rfl, ?_⟩) hS2 ?_
      rotate_left
      · intro w' hSw
        obtain _ := hSw
        go_simp
        try with_reducible rfl
      try simp only [Act.put]
      try simp only [List.setIfInBounds_toArray]
      try simp only [List.set_cons_zero, List.set_cons_succ]
      refine wpAnyH_take (i := 11) (v := ?_) rfl (by kernel_rfl) (by kernel_rfl) (by kernel_rfl) (fun _ _ _ h => h) (Or.inl ⟨by rfl, ?_⟩) hS2 ?_
      rotate_left
      · intro w' hSw
        obtain _ := hSw
        go_simp
        try with_reducible rfl
      try simp only [Act.put]
      try simp only [List.setIfInBounds_toArray]
      try simp only [List.set_cons_zero, List.set_cons_succ]
      refine wpAnyH_take (i := 12) (v := ?_) rfl (by kernel_rfl) (by kernel_rfl) (by kernel_rfl) (fun _ _ _ h => h) (Or.inl ⟨by rfl, ?_⟩) hS2 ?_
      rotate_left
      · intro w' hSw
        obtain _ := hSw
        go_simp
        try with_reducible rfl
      try simp only [Act.put]
      try simp only [List.setIfInBounds_toArray]
      try simp only [List.set_cons_zero, List.set_cons_succ]
      refine wpAnyH_take (i := 13) (v := ?_) rfl (by kernel_rfl) (by kernel_rfl) (by kernel_rfl) (fun _ _ _ h => h) (Or.inl ⟨by rfl, ?_⟩) hS2 ?_
      rotate_left
      · intro w' hSw
        obtain _ := hSw
        go_simp
        try with_reducible rfl
      try simp only [Act.put]
      try simp only [List.setIfInBounds_toArray]
      try simp only [List.set_cons_zero, List.set_cons_succ]
      refine wpAnyH_take (i := 14) (v := ?_) rfl (by kernel_rfl) (by kernel_rfl) (by kernel_rfl) (fun _ _ _ h => h) (Or.inl ⟨by rfl, ?_⟩) hS2 ?_
      rotate_left
      · intro w' hSw
        obtain _ := hSw
        go_simp
        try with_reducible rfl
      try simp only [Act.put]
      try simp only [List.setIfInBounds_toArray]
      try simp only [List.set_cons_zero, List.set_cons_succ]
      refine wpAnyH_take (i := 15) (v := ?_) rfl (by kernel_rfl) (by kernel_rfl) (by kernel_rfl) (fun _ _ _ h => h) (Or.inl ⟨by rfl, ?_⟩) hS2 ?_
      rotate_left
      · intro w' hSw
        obtain _ := hSw
        go_simp
        try with_reducible rfl
      try simp only [Act.put]
      try simp only [List.setIfInBounds_toArray]
      try simp only [List.set_cons_zero, List.set_cons_succ]
      refine wpAnyH_done (by kernel_rfl) ?_ _
      go_wp2_with fail
      refine (lawake_any _).mono ?_
      rintro x9 w9 ⟨rfl, hb⟩
      have BX := hid (BX.out.keep hb)
      clear hb
      go_wp2_with fail
      go_ret
      exact ⟨rfl, BX.out.low⟩
end Go.Proofs.YtedfajokiblfhaaGreat
