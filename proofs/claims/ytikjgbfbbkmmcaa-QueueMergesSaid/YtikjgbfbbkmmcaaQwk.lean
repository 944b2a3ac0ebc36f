/- Walk of the reference's Merge: contract (written by wip/tools/gen_qwk.py). -/
import Derived.Test.YtikjgbfbbkmmcaaQwj
import Derived.Test.YtikjgbfbbkmmcaaQwg
import Derived.Test.YtikjgbfbbkmmcaaQwe
namespace Go.Proofs.Ytikjgbfbbkmmcaa
open Go.RowKit

theorem mrg_left {a b : List Bsk} {i j : Nat} (hi : i < a.length) (h : j = b.length ∨ ∃ hj : j < b.length, befK a[i] b[j] = true) : mrgK (a.drop i) (b.drop j) = a[i] :: mrgK (a.drop (i + 1)) (b.drop j) := by
  rw [List.drop_eq_getElem_cons hi]
  rcases h with rfl | ⟨hj, h⟩
  · rw [List.drop_length, mrgK]
    cases a.drop (i + 1) <;> rw [mrgK]
  · rw [List.drop_eq_getElem_cons hj, mrgK, if_pos h]
theorem mrg_right {a b : List Bsk} {i j : Nat} (hj : j < b.length) (h : i = a.length ∨ ∃ hi : i < a.length, befK a[i] b[j] = false) : mrgK (a.drop i) (b.drop j) = b[j] :: mrgK (a.drop i) (b.drop (j + 1)) := by
  rw [List.drop_eq_getElem_cons hj]
  rcases h with rfl | ⟨hi, h⟩
  · rw [List.drop_length, mrgK, mrgK]
  · rw [List.drop_eq_getElem_cons hi, mrgK, if_neg (by rw [h]; decide)]
theorem dst_app {a b : List Bsk} (h1 : bskQ a = true) (h2 : bskQ b = true) (h : ∀ i (hi : i < a.length) j (hj : j < b.length), a[i].nu ≠ b[j].nu) : dstQ (a ++ b) = true := by
  rw [dstQ_iff, List.pairwise_append]
  refine ⟨(bskQ_iff.1 h1).2.2.1, (bskQ_iff.1 h2).2.2.1, fun x hx y hy => ?_⟩
  obtain ⟨i, hi, rfl⟩ := List.getElem_of_mem hx
  obtain ⟨j, hj, rfl⟩ := List.getElem_of_mem hy
  exact h i hi j hj
theorem dst_app_not {a b : List Bsk} {i j : Nat} (hi : i < a.length) (hj : j < b.length) (h : a[i].nu = b[j].nu) : dstQ (a ++ b) = false := by
  cases hd : dstQ (a ++ b)
  · rfl
  · exact absurd h (dst_two hd _ (List.getElem_mem hi) _ (List.getElem_mem hj))
set_option maxRecDepth 20000 in
set_option maxHeartbeats 8000000 in
theorem xmerge_any (va vb : Value) (a b : List Bsk) (w : World) (ha : RowE encB w va a) (hb : RowE encB w vb b) (hsa : ∀ x ∈ a, x.pr.size ≤ maxLen) (hsb : ∀ x ∈ b, x.pr.size ≤ maxLen) : Calls Try.prog 11 #[va, vb] w (MrgP a b w) := by
  have HA := hid (fun w1 (g : Below w.heap.size w w1) => xvalid_any _ a w1 (ha.keep g) hsa)
  have HB := hid (fun w1 (g : Below w.heap.size w w1) => xvalid_any _ b w1 (hb.keep g) hsb)
  have HRA := hid (fun w1 (g : Below w.heap.size w w1) => ha.keep g)
  have HRB0 := hid (fun w1 (g : Below w.heap.size w w1) => hb.keep g)
  obtain ⟨aa, ac, rfl⟩ := ha.shape
  obtain ⟨ba, bc, rfl⟩ := hb.shape
  clear ha hb hsa hsb
  cases h1 : bskQ a
  · rw [h1] at HA
    have HE := hid (show mrgE a b = 1 by unfold mrgE; rw [if_pos h1])
    clear h1
    go_enter Try.func11, Try.ntmps11
    go_wp2_with fail
    refine (HA.out w (Below.refl _ _)).mono ?_
    rintro e w1 ⟨rfl, hb1⟩
    have HB1 := hid hb1
    clear hb1
    go_wp2
    go_ret2
    exact mrg_none HE.out (by decide) HB1.out
  rw [h1] at HA
  cases h2 : bskQ b
  · rw [h2] at HB
    have HE := hid (show mrgE a b = 1 by unfold mrgE; rw [if_neg (by rw [h1]; decide), if_pos h2])
    clear h1 h2
    go_enter Try.func11, Try.ntmps11
    go_wp2_with fail
    refine (HA.out w (Below.refl _ _)).mono ?_
    rintro e w1 ⟨rfl, hb1⟩
    have HB1 := hid hb1
    clear hb1
    go_wp2_with fail
    refine (HB.out _ HB1.out).mono ?_
    rintro e w2 ⟨rfl, hb2⟩
    have HB2 := hid (bstep HB1.out HB1.out.size hb2)
    clear hb2
    go_wp2
    go_ret2
    exact mrg_none HE.out (by decide) HB2.out
  rw [h2] at HB
  have HL := hid (And.intro (bskQ_iff.1 h1).1 (bskQ_iff.1 h2).1)
  have HE := hid (show mrgE a b = if dstQ (a ++ b) = false then 6 else if 500 < a.length + b.length then 4 else 0 by unfold mrgE; rw [if_neg (by rw [h1]; decide), if_neg (by rw [h2]; decide)])
  have HDS := hid (fun h => dst_app h1 h2 h)
  clear h1 h2
  have HLK := hid (mrgK_len a b)
  obtain ⟨n, hn⟩ : ∃ n, n = a.length := ⟨_, rfl⟩
  obtain ⟨m, hm⟩ : ∃ m, m = b.length := ⟨_, rfl⟩
  have HN := hid hn
  have HM := hid hm
  rw [← hn] at HA HRA HL HE HLK ⊢
  rw [← hm] at HB HRB0 HL HE HLK ⊢
  have hn5 := HL.out.1
  have hm5 := HL.out.2
  clear hn hm
  go_enter Try.func11, Try.ntmps11
  go_wp2_with fail
  refine (HA.out w (Below.refl _ _)).mono ?_
  rintro e w1 ⟨rfl, hb1⟩
  have HB1 := hid hb1
  clear hb1
  go_wp2_with fail
  refine (HB.out _ HB1.out).mono ?_
  rintro e w2 ⟨rfl, hb2⟩
  have HB2 := hid (bstep HB1.out HB1.out.size hb2)
  clear hb2 HA HB
  go_wp2_with fail
  go_loopw [6] (fun t wr => ∃ i : Nat, i ≤ n ∧ t = .int .i64 (i : Int) ∧ Hid (∀ k (hk : k < a.length) j (hj : j < b.length), k < i → a[k].nu ≠ b[j].nu) ∧ Hid (Below w.heap.size w wr)) (fun t _ => n - (intOf t).toNat)
  case atStart => exact ⟨0, Nat.zero_le _, rfl, fun _ _ _ _ h => absurd h (Nat.not_lt_zero _), HB2⟩
  case round =>
    obtain ⟨i, hi, rfl, hdf, hB⟩ := hrel
    by_cases hlt : i < n
    · have hlt' : (i : Int) < n := by omega
      have HIS := hid (show i < a.length by rw [← HN.out]; exact hlt)
      have HLT := hid hlt
      clear hlt hi
      go_wp2
      go_loopw [7] (fun t wr => ∃ j : Nat, j ≤ m ∧ t = .int .i64 (j : Int) ∧ Hid (∀ k (hk : k < b.length), k < j → (a[i]'HIS.out).nu ≠ b[k].nu) ∧ Hid (Below w.heap.size w wr)) (fun t _ => m - (intOf t).toNat)
      case atStart => exact ⟨0, Nat.zero_le _, rfl, fun _ _ h => absurd h (Nat.not_lt_zero _), hB⟩
      case round =>
        obtain ⟨j, hj, rfl, hdj, hB3⟩ := hrel
        by_cases hjm : j < m
        · have hjm' : (j : Int) < m := by omega
          have HJS := hid (show j < b.length by rw [← HM.out]; exact hjm)
          have HJM := hid hjm
          obtain ⟨b1, o1, hv1, c0, c1, c2, c3⟩ := (HRA.out _ hB3.out).bsk HIS.out
          obtain ⟨b2, o2, hv2, d0, d1, d2, d3⟩ := (HRB0.out _ hB3.out).bsk HJS.out
          cases hv1
          cases hv2
          by_cases he : (a[i]'HIS.out).nu = (b[j]'HJS.out).nu
          · have he2 : ((a[i]'HIS.out).nu == (b[j]'HJS.out).nu) = true := by simpa using he
            have HE6 := hid (show mrgE a b = 6 by rw [HE.out, if_pos (dst_app_not HIS.out HJS.out he)])
            clear he hjm hj c1 c2 c3 d1 d2 d3
            generalize (a[i]'HIS.out).nu = X at *
            generalize (b[j]'HJS.out).nu = Y at *
            go_wp2
            go_quiet (fail)
            have HB4 := hid (bdrewN (n := nq) hB3.out)
            go_wp2
            go_ret2
            exact mrg_none HE6.out (by decide) HB4.out
          · have he2 : ((a[i]'HIS.out).nu == (b[j]'HJS.out).nu) = false := by simpa using he
            have HNE := hid (fun k (hk : k < b.length) (hkj : k < j + 1) => show (a[i]'HIS.out).nu ≠ b[k].nu from by
              rcases Nat.lt_succ_iff_lt_or_eq.1 hkj with g | rfl
              · exact hdj.out k hk g
              · exact he)
            clear he hjm hj c1 c2 c3 d1 d2 d3
            generalize (a[i]'HIS.out).nu = X at *
            generalize (b[j]'HJS.out).nu = Y at *
            go_wp2
            go_quiet (fail)
            have HB4 := hid (bdrewN (n := nq) hB3.out)
            go_wp2
            go_roundw
            case rel => exact ⟨j + 1, HJM.out, by go_num, HNE, HB4⟩
            case measure => have := HJM.out; simp [intOf]; omega
        · obtain rfl : j = m := by omega
          have HNX := hid (fun k (hk : k < a.length) q (hq : q < b.length) (hki : k < i + 1) => show a[k].nu ≠ b[q].nu from by
            rcases Nat.lt_succ_iff_lt_or_eq.1 hki with g | rfl
            · exact hdf.out k hk q hq g
            · exact hdj.out q hq (by rw [HM.out]; exact hq))
          clear hjm hj
          go_wp2
          go_roundw
          case rel => exact ⟨i + 1, HLT.out, by go_num, HNX, hB3⟩
          case measure => have := HLT.out; simp [intOf]; omega
    · obtain rfl : n = i := by omega
      have hd := HDS.out (fun k hk j hj => hdf.out k hk j hj (by rw [HN.out]; exact hk))
      have HE3 := hid (show mrgE a b = if 500 < n + m then 4 else 0 by rw [HE.out, if_neg (by rw [hd]; decide)])
      have HBX := hid hB.out
      clear hd hlt hi hB hdf HDS HE
      by_cases h5 : 500 < n + m
      · have h5' : ((n : Int) + (m : Int) > 500) := by omega
        have HE4 := hid (show mrgE a b = 4 by rw [HE3.out, if_pos h5])
        clear h5
        go_wp2
        go_ret2
        exact mrg_none HE4.out (by decide) HBX.out
      have h5' : ¬ ((n : Int) + (m : Int) > 500) := by omega
      have HE4 := hid (show mrgE a b = 0 by rw [HE3.out, if_neg h5])
      clear h5 HE3
      go_wp2
      go_loopw [8, 9, 10] (fun u s t wr => ∃ (i j : Nat) (pre : List Bsk), i ≤ n ∧ j ≤ m ∧ s = .int .i64 (i : Int) ∧ t = .int .i64 (j : Int) ∧ u = u ∧ Hid (OwnE encB wr w.heap.size 55 u pre) ∧ Hid (pre ++ mrgK (a.drop i) (b.drop j) = mrgK a b) ∧ Hid (Below w.heap.size w wr)) (fun _ s t _ => (n - (intOf s).toNat) + (m - (intOf t).toNat))
      case atStart => exact ⟨0, 0, [], Nat.zero_le _, Nat.zero_le _, rfl, rfl, rfl, ownE_nil _ _ _ _, rfl, HBX⟩
      case round =>
        obtain ⟨i, j, pre, hin, hjm, rfl, rfl, _, hO, hE, hB⟩ := hrel
        have HLP := hid (show pre.length ≤ n + m by have := congrArg List.length hE.out; rw [List.length_append, HLK.out] at this; omega)
        have HIN := hid hin
        have HJM := hid hjm
        obtain ⟨ua, uc, rfl⟩ := hO.out.shape
        have HRB := HRB0
        clear HRB
        by_cases hi : i < n
        · have hi' : (i : Int) < n := by omega
          have HXA := hid (show i < a.length by rw [← HN.out]; exact hi)
          obtain ⟨b1, o1, hv1, c0, c1, c2, c3⟩ := (HRA.out _ hB.out).bsk HXA.out
          cases hv1
          have r0 := low_cell c0
          have r1 := low_cell c1
          have r2 := low_cell c2
          have r3 := low_cell c3
          by_cases hj : j < m
          · have hj' : (j : Int) < m := by omega
            have hje : ((j : Int) == (m : Int)) = false := by simp; omega
            have HXB := hid (show j < b.length by rw [← HM.out]; exact hj)
            obtain ⟨b2, o2, hv2, d0, d1, d2, d3⟩ := (HRB0.out _ hB.out).bsk HXB.out
            cases hv2
            have s0 := low_cell d0
            have s1 := low_cell d1
            have s2 := low_cell d2
            have s3 := low_cell d3
            obtain ⟨D, hd⟩ : ∃ D, befK (a[i]'HXA.out) (b[j]'HXB.out) = D := ⟨_, rfl⟩
            have hc5 := fun p : LowBy wr => low_of (xbefore_any (a[i]'HXA.out) (b[j]'HXB.out) p.W)
            rw [hd] at hc5
            cases D
            · have HEQ := hid (mrg_right HXB.out (.inr ⟨HXA.out, hd⟩))
              clear hd hi hj c0 c1 c2 c3 d0 d1 d2 d3 hin hjm
              go_wp2
              refine wp_region_low (by kernel_rfl) (by kernel_rfl) (fun R hR => ?_)
              repeat (refine low_step (by assumption) ?_; intro R hR K hK; go_simp; first | (refine hK _ ?_; clear hK K) | (apply Exists.intro; refine ⟨fun _ => ?_, hK _ ?_⟩; (go_at_call 39; with_reducible exact hc5 _); clear hK K))
              refine low_nil (by assumption) ?_
              intro wq hw'
              obtain ⟨⟨wz, hlow⟩, hw''⟩ := hw'
              subst hw''
              have HLOW := hid hlow
              clear hlow
              (try simp only)
              have HB2 := hid (bstep hB.out hB.out.size HLOW.out)
              have HO2 := hid (hO.out.keep HLOW.out)
              clear HLOW
              have HRB := hid (HRB0.out _ HB2.out)
              obtain ⟨xb, xo, hxv, f0, f1, f2, f3⟩ := HRB.out.bsk HXB.out
              cases hxv
              have HBD := hid (show pre.length + [b[j]'HXB.out].length ≤ 1000000 by have := HLP.out; simp only [List.length_singleton]; omega)
              generalize b[j]'HXB.out = z at *
              have HNW := hid (rowE_new (C := encB) (W := wq) (T := 55) (l := [z]) (cs := #[.int .i64 z.nu, .int .i64 z.ca, .string z.pr, .int .i64 z.cn]) rfl (by show 1 ≤ maxLen; unfold maxLen; omega))
              have HBA := hid ((Below.refl wq.heap.size wq).alloc (Nat.le_refl _) (.cells #[.int .i64 z.nu, .int .i64 z.ca, .string z.pr, .int .i64 z.cn] 55))
              have HOA := hid (HO2.out.keep HBA.out)
              have HBW := hid (bstep HB2.out HB2.out.size HBA.out)
              clear HO2 HB2 HRB hO hB
              obtain ⟨i0, hi, hz0, hz1, hz2⟩ := infoBsk
              go_wp2_with (at_builtin; (refine wpList_appE encB rfl (.tmp 88) (.tmp 93) 22 rfl w.heap.size 55 40 i0 _ Try.underlying22 hi hz0 hz1 hz2 rfl (by decide) (by decide) _ pre rfl HOA.out _ [z] rfl HNW.out HBD.out HBW.out.size ?_); intro v3 w6 hA1; have HB6 := hid (hA1.low HBW.out HOA.out); have HO6 := hid hA1.1; obtain ⟨a3, c3, rfl⟩ := HO6.out.shape; clear hA1)
              go_roundw
              case rel =>
                have hO7 := HO6.out
                rw [List.length_append] at hO7
                refine ⟨i, j + 1, pre ++ [z], by exact HIN.out, by have := HXB.out; have := HM.out; omega, ?_, ?_, ?_, hO7, ?_, HB6⟩
                · first | rfl | trivial | go_num
                · first | rfl | trivial | go_num
                · first | rfl | trivial | go_num
                · show (pre ++ [z]) ++ _ = _
                  rw [List.append_assoc, List.singleton_append, ← HEQ.out]
                  exact hE.out
              case measure => have := HXB.out; have := HN.out; have := HM.out; simp [intOf]; omega
            · have HEQ := hid (mrg_left HXA.out (.inr ⟨HXB.out, hd⟩))
              clear hd hi hj c0 c1 c2 c3 d0 d1 d2 d3 hin hjm
              go_wp2
              refine wp_region_low (by kernel_rfl) (by kernel_rfl) (fun R hR => ?_)
              repeat (refine low_step (by assumption) ?_; intro R hR K hK; go_simp; first | (refine hK _ ?_; clear hK K) | (apply Exists.intro; refine ⟨fun _ => ?_, hK _ ?_⟩; (go_at_call 39; with_reducible exact hc5 _); clear hK K))
              refine low_nil (by assumption) ?_
              intro wq hw'
              obtain ⟨⟨wz, hlow⟩, hw''⟩ := hw'
              subst hw''
              have HLOW := hid hlow
              clear hlow
              (try simp only)
              have HB2 := hid (bstep hB.out hB.out.size HLOW.out)
              have HO2 := hid (hO.out.keep HLOW.out)
              clear HLOW
              have HRB := hid (HRA.out _ HB2.out)
              obtain ⟨xb, xo, hxv, f0, f1, f2, f3⟩ := HRB.out.bsk HXA.out
              cases hxv
              have HBD := hid (show pre.length + [a[i]'HXA.out].length ≤ 1000000 by have := HLP.out; simp only [List.length_singleton]; omega)
              generalize a[i]'HXA.out = z at *
              have HNW := hid (rowE_new (C := encB) (W := wq) (T := 55) (l := [z]) (cs := #[.int .i64 z.nu, .int .i64 z.ca, .string z.pr, .int .i64 z.cn]) rfl (by show 1 ≤ maxLen; unfold maxLen; omega))
              have HBA := hid ((Below.refl wq.heap.size wq).alloc (Nat.le_refl _) (.cells #[.int .i64 z.nu, .int .i64 z.ca, .string z.pr, .int .i64 z.cn] 55))
              have HOA := hid (HO2.out.keep HBA.out)
              have HBW := hid (bstep HB2.out HB2.out.size HBA.out)
              clear HO2 HB2 HRB hO hB
              obtain ⟨i0, hi, hz0, hz1, hz2⟩ := infoBsk
              go_wp2_with (at_builtin; (refine wpList_appE encB rfl (.tmp 79) (.tmp 84) 22 rfl w.heap.size 55 40 i0 _ Try.underlying22 hi hz0 hz1 hz2 rfl (by decide) (by decide) _ pre rfl HOA.out _ [z] rfl HNW.out HBD.out HBW.out.size ?_); intro v3 w6 hA1; have HB6 := hid (hA1.low HBW.out HOA.out); have HO6 := hid hA1.1; obtain ⟨a3, c3, rfl⟩ := HO6.out.shape; clear hA1)
              go_roundw
              case rel =>
                have hO7 := HO6.out
                rw [List.length_append] at hO7
                refine ⟨i + 1, j, pre ++ [z], by have := HXA.out; have := HN.out; omega, by exact HJM.out, ?_, ?_, ?_, hO7, ?_, HB6⟩
                · first | rfl | trivial | go_num
                · first | rfl | trivial | go_num
                · first | rfl | trivial | go_num
                · show (pre ++ [z]) ++ _ = _
                  rw [List.append_assoc, List.singleton_append, ← HEQ.out]
                  exact hE.out
              case measure => have := HXA.out; have := HN.out; have := HM.out; simp [intOf]; omega
          · obtain rfl : j = m := by omega
            have HEQ := hid (mrg_left (b := b) HXA.out (.inl HM.out))
            clear hi hj c0 c1 c2 c3 hin hjm
            go_wp2
            refine wp_region_low (by kernel_rfl) (by kernel_rfl) (fun R hR => ?_)
            repeat (refine low_step (by assumption) ?_; intro R hR K hK; go_simp; first | (refine hK _ ?_; clear hK K) | (apply Exists.intro; refine ⟨fun _ => ?_, hK _ ?_⟩; (go_at_call 39; with_reducible exact hc5 _); clear hK K))
            refine low_nil (by assumption) ?_
            intro wq hw'
            obtain ⟨⟨wz, hlow⟩, hw''⟩ := hw'
            subst hw''
            have HLOW := hid hlow
            clear hlow
            (try simp only)
            have HB2 := hid (bstep hB.out hB.out.size HLOW.out)
            have HO2 := hid (hO.out.keep HLOW.out)
            clear HLOW
            have HRB := hid (HRA.out _ HB2.out)
            obtain ⟨xb, xo, hxv, f0, f1, f2, f3⟩ := HRB.out.bsk HXA.out
            cases hxv
            have HBD := hid (show pre.length + [a[i]'HXA.out].length ≤ 1000000 by have := HLP.out; simp only [List.length_singleton]; omega)
            generalize a[i]'HXA.out = z at *
            have HNW := hid (rowE_new (C := encB) (W := wq) (T := 55) (l := [z]) (cs := #[.int .i64 z.nu, .int .i64 z.ca, .string z.pr, .int .i64 z.cn]) rfl (by show 1 ≤ maxLen; unfold maxLen; omega))
            have HBA := hid ((Below.refl wq.heap.size wq).alloc (Nat.le_refl _) (.cells #[.int .i64 z.nu, .int .i64 z.ca, .string z.pr, .int .i64 z.cn] 55))
            have HOA := hid (HO2.out.keep HBA.out)
            have HBW := hid (bstep HB2.out HB2.out.size HBA.out)
            clear HO2 HB2 HRB hO hB
            obtain ⟨i0, hi, hz0, hz1, hz2⟩ := infoBsk
            go_wp2_with (at_builtin; (refine wpList_appE encB rfl (.tmp 79) (.tmp 84) 22 rfl w.heap.size 55 40 i0 _ Try.underlying22 hi hz0 hz1 hz2 rfl (by decide) (by decide) _ pre rfl HOA.out _ [z] rfl HNW.out HBD.out HBW.out.size ?_); intro v3 w6 hA1; have HB6 := hid (hA1.low HBW.out HOA.out); have HO6 := hid hA1.1; obtain ⟨a3, c3, rfl⟩ := HO6.out.shape; clear hA1)
            go_roundw
            case rel =>
              have hO7 := HO6.out
              rw [List.length_append] at hO7
              refine ⟨i + 1, j, pre ++ [z], by have := HXA.out; have := HN.out; omega, by exact HJM.out, ?_, ?_, ?_, hO7, ?_, HB6⟩
              · first | rfl | trivial | go_num
              · first | rfl | trivial | go_num
              · first | rfl | trivial | go_num
              · show (pre ++ [z]) ++ _ = _
                rw [List.append_assoc, List.singleton_append, ← HEQ.out]
                exact hE.out
            case measure => have := HXA.out; have := HN.out; have := HM.out; simp [intOf]; omega
        · obtain rfl : n = i := by omega
          by_cases hj : j < m
          · have hj' : (j : Int) < m := by omega
            have hje : ((j : Int) == (m : Int)) = false := by simp; omega
            have HXB := hid (show j < b.length by rw [← HM.out]; exact hj)
            obtain ⟨b2, o2, hv2, d0, d1, d2, d3⟩ := (HRB0.out _ hB.out).bsk HXB.out
            cases hv2
            have HEQ := hid (mrg_right (a := a) HXB.out (.inl HN.out))
            clear hi hj d0 d1 d2 d3 hin hjm
            go_wp2
            refine wp_region_low (by kernel_rfl) (by kernel_rfl) (fun R hR => ?_)
            repeat (refine low_step (by assumption) ?_; intro R hR K hK; go_simp; first | (refine hK _ ?_; clear hK K) | (apply Exists.intro; refine ⟨fun _ => ?_, hK _ ?_⟩; (go_at_call 39; with_reducible exact hc5 _); clear hK K))
            refine low_nil (by assumption) ?_
            intro wq hw'
            obtain ⟨⟨wz, hlow⟩, hw''⟩ := hw'
            subst hw''
            have HLOW := hid hlow
            clear hlow
            (try simp only)
            have HB2 := hid (bstep hB.out hB.out.size HLOW.out)
            have HO2 := hid (hO.out.keep HLOW.out)
            clear HLOW
            have HRB := hid (HRB0.out _ HB2.out)
            obtain ⟨xb, xo, hxv, f0, f1, f2, f3⟩ := HRB.out.bsk HXB.out
            cases hxv
            have HBD := hid (show pre.length + [b[j]'HXB.out].length ≤ 1000000 by have := HLP.out; simp only [List.length_singleton]; omega)
            generalize b[j]'HXB.out = z at *
            have HNW := hid (rowE_new (C := encB) (W := wq) (T := 55) (l := [z]) (cs := #[.int .i64 z.nu, .int .i64 z.ca, .string z.pr, .int .i64 z.cn]) rfl (by show 1 ≤ maxLen; unfold maxLen; omega))
            have HBA := hid ((Below.refl wq.heap.size wq).alloc (Nat.le_refl _) (.cells #[.int .i64 z.nu, .int .i64 z.ca, .string z.pr, .int .i64 z.cn] 55))
            have HOA := hid (HO2.out.keep HBA.out)
            have HBW := hid (bstep HB2.out HB2.out.size HBA.out)
            clear HO2 HB2 HRB hO hB
            obtain ⟨i0, hi, hz0, hz1, hz2⟩ := infoBsk
            go_wp2_with (at_builtin; (refine wpList_appE encB rfl (.tmp 88) (.tmp 93) 22 rfl w.heap.size 55 40 i0 _ Try.underlying22 hi hz0 hz1 hz2 rfl (by decide) (by decide) _ pre rfl HOA.out _ [z] rfl HNW.out HBD.out HBW.out.size ?_); intro v3 w6 hA1; have HB6 := hid (hA1.low HBW.out HOA.out); have HO6 := hid hA1.1; obtain ⟨a3, c3, rfl⟩ := HO6.out.shape; clear hA1)
            go_roundw
            case rel =>
              have hO7 := HO6.out
              rw [List.length_append] at hO7
              refine ⟨n, j + 1, pre ++ [z], by exact HIN.out, by have := HXB.out; have := HM.out; omega, ?_, ?_, ?_, hO7, ?_, HB6⟩
              · first | rfl | trivial | go_num
              · first | rfl | trivial | go_num
              · first | rfl | trivial | go_num
              · show (pre ++ [z]) ++ _ = _
                rw [List.append_assoc, List.singleton_append, ← HEQ.out]
                exact hE.out
            case measure => have := HXB.out; have := HN.out; have := HM.out; simp [intOf]; omega
          · obtain rfl : j = m := by omega
            have HFIN := hid (show pre = mrgL a b by
              have h := hE.out
              rw [HN.out, HM.out, List.drop_length, List.drop_length, mrgK, List.append_nil] at h
              unfold mrgL
              rw [if_pos HE4.out]
              exact h)
            clear hi hj hin hjm
            go_wp2
            go_ret2
            refine ⟨.slice ua pre.length uc, ?_, ?_, hB.out⟩
            · rw [HE4.out]; rfl
            · have h := hO.out.row
              rw [← HFIN.out]
              exact h
end Go.Proofs.Ytikjgbfbbkmmcaa
