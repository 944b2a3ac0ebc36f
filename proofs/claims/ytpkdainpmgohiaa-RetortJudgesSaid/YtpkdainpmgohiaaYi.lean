/- Walk of the reference's Deviations: contract. -/
import Derived.Test.YtpkdainpmgohiaaYh
import Derived.Test.YtpkdainpmgohiaaVy
namespace Go.Proofs.Ytpkdainpmgohiaa
open Go.RowKit

theorem below_dev2 {W W2 w1 : World} {base nq : Nat} {v : Value} {l : List Tri} {o : Obj} (hW : Below W.heap.size W W2) (h : OwnT W2 base v l) (hb : W.heap.size ≤ base) (hg : ((W2.drewN nq).alloc o).grownBy w1 v.ownBlock) : Below W.heap.size W w1 := below_dev hW h hb hg
set_option maxRecDepth 20000 in
set_option maxHeartbeats 4000000 in
theorem xdev_any (u : Value) (m : Nat) (p : Nat → St) (v : Value) (n : Nat) (r : Nat → Rd) (w : World) (hp : RowP w u m p) (hr : RowR w v n r) :
    Calls Try.prog 61 #[u, v] w (DevP m p n r w) := by
  have HK := hid (fun w1 (g : Below w.heap.size w w1) => hr.keep g)
  have HQ := hid (fun w1 (g : Below w.heap.size w w1) => (show RowP w1 u m p from RowT.keep hp g))
  have HP := hid hp
  have HR := hid hr
  have hnm := hr.most
  have hmm := RowT.most hp
  unfold maxLen at hnm hmm
  obtain ⟨pa, pc, rfl⟩ := RowT.shape hp
  obtain ⟨va, vc, rfl⟩ := hr.shape
  clear hp hr
  obtain ⟨i0, hi, hz0, hz1, hz2⟩ := info_parts infoT
  cases hrec : recB m p n r
  · have HREC := hid hrec
    go_enter Try.func61, Try.ntmps61
    go_wp2_with (go_at_call 52; refine (xrec_any _ _ _ _ _ _ _ HP.out HR.out).mono ?_; rintro e w1 ⟨rfl, hb⟩; rw [hrec]; have HB := hid hb; clear hb)
    refine bodyPost_ret (v := .tuple #[.slice none 0 0, .int .i64 1]) (by simp [results, Try.results61, go_sem]) rfl ?_
    exact ⟨_, _, _, rfl, .inr ⟨HREC.out, rfl, rfl⟩, OwnT.row (World.ownsRow_nil w1 0 _ _), HB.out⟩
  obtain ⟨hn, hm1, hm16, hst⟩ := rec_step hrec
  have HREC := hid hrec
  have HST := hid hst
  clear hst
  go_enter Try.func61, Try.ntmps61
  go_wp2_with (go_at_call 52; refine (xrec_any _ _ _ _ _ _ _ HP.out HR.out).mono ?_; rintro e w1 ⟨rfl, hb⟩; rw [hrec]; have HB := hid hb; clear hb)
  clear hrec
  go_loopw [6, 7] (fun v t wr => ∃ k : Nat, k ≤ n ∧ t = .int .i64 (k : Int) ∧ Hid (OwnT wr w.heap.size v (devL p r k)) ∧ Hid (Below w.heap.size w wr)) (fun _ t _ => n - (intOf t).toNat)
  case atStart => exact ⟨0, Nat.zero_le _, rfl, World.ownsRow_nil _ _ _ _, HB⟩
  case round =>
    obtain ⟨k, hk, rfl, hrow, hB⟩ := hrel
    by_cases hlt : k < n
    · have hlt' : (k : Int) < n := by omega
      obtain ⟨a', b', o', cap', hv, _, _, ha', hcell⟩ := HK.out _ hB.out
      injection hv with hv1 hv2 hv3
      subst hv1 hv3
      rcases ha' with h0 | rfl
      · omega
      obtain ⟨c0, c1, c2, c3⟩ := hcell k hlt
      obtain ⟨hs0, hs1⟩ := HST.out k hlt
      obtain ⟨x, hX⟩ : ∃ x, x = r k := ⟨_, rfl⟩
      rw [← hX] at c0 c1 c2 c3 hs0 hs1
      have HX := hid hX
      clear hcell hX hv2
      obtain ⟨xs, xt, xc, xb⟩ := x
      simp only at c0 c1 c2 c3 hs0 hs1
      obtain ⟨q, rfl⟩ : ∃ q : Nat, xs = q := ⟨xs.toNat, by omega⟩
      have HQM := hid (show q < m by omega)
      have HPk := hid (HQ.out _ hB.out)
      have HCB := hid (show coldB p ⟨q, xt, xc, xb⟩ = (decide ((p q).k = 3) && decide (xt < (p q).s)) from rfl)
      rw [HX.out] at HCB
      have HLT := hid hlt
      clear hlt
      have hr4 : ∀ wA, Below w.heap.size w wA → ∀ j, j < n → RdAt wA b' (o' + j * 4) (r j) := by
        intro wA hA j hj
        obtain ⟨a3, b3, o3, cap3, hv, _, _, ha3, hc3⟩ := HK.out _ hA
        injection hv with hv1 hv2 hv3
        rcases ha3 with h0 | h0
        · omega
        · rw [h0] at hv1
          cases hv1
          exact hc3 j hj
      have HR4 := hid hr4
      clear hr4
      cases hcb : coldB p (r k)
      · have HN := hid (dev_no hcb)
        go_wp2_with (go_at_call 110; refine (xcold_any _ _ _ _ _ _ _ _ _ HPk.out HQM.out).mono ?_; rintro e w4 ⟨rfl, hb⟩; rw [← HCB.out, hcb]; have HB4 := hid (bstep hB.out hB.out.size hb); have HO2 := hid (OwnT.keep hrow.out hb); clear hb)
        go_roundw
        case rel => exact ⟨k + 1, by have := HLT.out; omega, by go_num, by rw [HN.out]; exact HO2, HB4⟩
        case measure => have := HLT.out; simp [intOf]; omega
      have HCT := hid hcb
      have HXT := hid (show (r k).t = xt by rw [← HX.out])
      have HFEW := hid (dev_ok p r k).few
      rcases last_or (devL p r k) with hl | ⟨l0, d, hl⟩
      · have HE := hid (dev_first HCT.out hl)
        rw [HXT.out] at HE
        obtain ⟨ua, uc, hu⟩ := ownT_shape hrow.out
        rw [hl] at hu
        simp only [List.length_nil] at hu
        subst hu
        replace hrow : Hid (OwnT wr w.heap.size (.slice ua ([] : List Tri).length uc) []) := by
          have h := hrow.out
          rw [hl] at h
          exact h
        clear hl
        go_wp2_with (go_at_call 110; refine (xcold_any _ _ _ _ _ _ _ _ _ HPk.out HQM.out).mono ?_; rintro e w4 ⟨rfl, hb⟩; rw [← HCB.out, hcb]; have HB4 := hid (bstep hB.out hB.out.size hb); have HO2 := hid (OwnT.keep hrow.out hb); clear hb)
        obtain ⟨c0, c1, c2, c3⟩ := HR4.out _ HB4.out k HLT.out
        rw [HXT.out] at c1
        have HO4 := HO2
        go_quiet (fail)
        go_wp2_with (at_builtin; refine wpList_append_own _ rfl _ _ 69 rfl w.heap.size 84 i0 (.agg #[.int .i64 0, .int .i64 0, .int .i64 0]) 3 24 Try.underlying69 hi hz0 hz1 hz2 rfl (by decide) _ _ _ rfl (World.ownsRow.alloc HO4.out _) ⟨w4.heap.size, 0, none⟩ 1 1 [.int .i64 k, .int .i64 ((k : Int) + 1), .int .i64 xt] rfl rfl (cell_three_new (by simp)) three_cell1 (by have := HFEW.out; unfold maxLen; simp only [List.length_nil] at *; omega) (by have := HFEW.out; simp only [List.length_nil] at *; omega) (by have := HB4.out.size; simp at this ⊢; omega) ?_; intro v1 w3 hown3 hgrow3 _)
        have HB3 := hid (below_dev HB4.out HO2.out (Nat.le_refl _) hgrow3)
        have HR3 : Hid (OwnT w3 w.heap.size v1 (devL p r (k + 1))) := by rw [HE.out]; exact OwnT.app (l := []) (d := ⟨k, (k : Int) + 1, xt⟩) hown3
        clear hown3 hgrow3
        go_roundw
        case rel => exact ⟨k + 1, by have := HLT.out; omega, by go_num, HR3, HB3⟩
        case measure => have := HLT.out; simp [intOf]; omega
      obtain ⟨dx, dy, dz⟩ := d
      obtain ⟨g, uc, hu, _⟩ := ownT_some (l := l0) (d := ⟨dx, dy, dz⟩) (by have h := hrow.out; rw [hl] at h; exact h)
      subst hu
      replace hrow : Hid (OwnT wr w.heap.size (.slice (some ⟨g, 0, none⟩) (l0.length + 1) uc) (l0 ++ [⟨dx, dy, dz⟩])) := by
        have h := hrow.out
        rw [hl] at h
        exact h
      have HFEW := hid (show l0.length + 1 ≤ k by have := HFEW.out; rw [hl] at this; simpa using this)
      have HL := hid hl
      clear hl
      obtain ⟨M, hM⟩ : ∃ M, M = l0.length := ⟨_, rfl⟩
      rw [← hM] at HFEW
      have hMi : (M : Int) < (M : Int) + 1 := by omega
      have HM := hid hM
      rw [← hM] at hrow
      rw [← hM]
      clear hM
      have hMk := HFEW.out
      have hO4 : ∀ wA, OwnT wA w.heap.size (.slice (some ⟨g, 0, none⟩) (M + 1) uc) (l0 ++ [⟨dx, dy, dz⟩]) → World.ownsRow wA w.heap.size 84 3 (.slice (some ⟨g, 0, none⟩) (M + 1) uc) (M + 1) (tvs (l0 ++ [⟨dx, dy, dz⟩])) := by
        intro wA h
        unfold OwnT at h
        rw [List.length_append, ← HM.out] at h
        exact h
      have HO5 := hid hO4
      clear hO4
      have hlast : ∀ wA (d : Tri), OwnT wA w.heap.size (.slice (some ⟨g, 0, none⟩) (M + 1) uc) (l0 ++ [d]) → wA.cell? ⟨g, M * 3 + 1, none⟩ = some (.int .i64 d.y) ∧ wA.cell? ⟨g, M * 3 + 2, none⟩ = some (.int .i64 d.z) ∧ wA.frozen? ⟨g, M * 3 + 1, none⟩ = false ∧ wA.frozen? ⟨g, M * 3 + 2, none⟩ = false := by
        intro wA d h
        rw [HM.out] at h ⊢
        exact h.last
      have HLS := hid hlast
      clear hlast
      by_cases h1 : dy = (k : Int)
      case neg =>
        have HE := hid (dev_next HCT.out HL.out (fun h => h1 h.1))
        rw [HXT.out] at HE
        have g2 : (dy == (k : Int)) = false := by simpa using h1
        go_wp2_with (go_at_call 110; refine (xcold_any _ _ _ _ _ _ _ _ _ HPk.out HQM.out).mono ?_; rintro e w4 ⟨rfl, hb⟩; rw [← HCB.out, hcb]; have HB4 := hid (bstep hB.out hB.out.size hb); have HO2 := hid (OwnT.keep hrow.out hb); clear hb)
        obtain ⟨c0, c1, c2, c3⟩ := HR4.out _ HB4.out k HLT.out
        rw [HXT.out] at c1
        obtain ⟨e1, e2, e3, e4⟩ := HLS.out _ _ HO2.out
        simp only at e1 e2
        have HO4 := hid (HO5.out _ HO2.out)
        go_quiet (fail)
        go_wp2_with (at_builtin; refine wpList_append_own _ rfl _ _ 69 rfl w.heap.size 84 i0 (.agg #[.int .i64 0, .int .i64 0, .int .i64 0]) 3 24 Try.underlying69 hi hz0 hz1 hz2 rfl (by decide) _ _ _ rfl (World.ownsRow.alloc HO4.out _) ⟨w4.heap.size, 0, none⟩ 1 1 [.int .i64 k, .int .i64 ((k : Int) + 1), .int .i64 xt] rfl rfl (cell_three_new (by simp)) three_cell1 (by have := HFEW.out; unfold maxLen; omega) (by have := HFEW.out; omega) (by have := HB4.out.size; simp at this ⊢; omega) ?_; intro v1 w3 hown3 hgrow3 _)
        have HB3 := hid (below_dev HB4.out HO2.out (Nat.le_refl _) hgrow3)
        have HR3 : Hid (OwnT w3 w.heap.size v1 (devL p r (k + 1))) := by rw [HE.out]; exact OwnT.app (d := ⟨_, _, _⟩) (by rw [List.length_append, ← HM.out]; exact hown3)
        clear hown3 hgrow3
        go_roundw
        case rel => exact ⟨k + 1, by have := HLT.out; omega, by go_num, HR3, HB3⟩
        case measure => have := HLT.out; simp [intOf]; omega
      obtain ⟨j, rfl⟩ : ∃ j, k = j + 1 := ⟨k - 1, by omega⟩
      have hj1 : (j : Int) + 1 < n := by have := HLT.out; omega
      have hj2 : (j : Int) < n := by omega
      have hj3 : IntKind.i64.wrap (j : Int) = (j : Int) := IntWalk.i64_in _ ⟨by omega, by omega⟩
      have hjM : M ≤ j := by omega
      clear hlt' hMk
      have HXS := hid (show (r (j + 1)).s = (q : Int) by rw [← HX.out])
      by_cases h2 : (r j).s = q
      case neg =>
        have HE := hid (dev_next HCT.out HL.out (fun h => h2 (by rw [Nat.add_sub_cancel] at h; rw [h.2, HXS.out])))
        rw [HXT.out] at HE
        have g3 : ((r j).s == (q : Int)) = false := by simpa using h2
        have g2 : (dy == ((j : Int) + 1)) = true := by rw [h1]; simp
        have hf : dy = (j : Int) + 1 := by rw [h1]; simp
        clear h1 h2
        go_wp2_with (go_at_call 110; refine (xcold_any _ _ _ _ _ _ _ _ _ HPk.out HQM.out).mono ?_; rintro e w4 ⟨rfl, hb⟩; rw [← HCB.out, hcb]; have HB4 := hid (bstep hB.out hB.out.size hb); have HO2 := hid (OwnT.keep hrow.out hb); clear hb)
        obtain ⟨c0, c1, c2, c3⟩ := HR4.out _ HB4.out (j + 1) HLT.out
        rw [HXT.out] at c1
        rw [HXS.out] at c0
        obtain ⟨f0, _, _, _⟩ := HR4.out _ HB4.out j (by have := HLT.out; omega)
        obtain ⟨e1, e2, e3, e4⟩ := HLS.out _ _ HO2.out
        simp only at e1 e2
        generalize (r j).s = s0 at f0 g3
        have HO4 := hid (HO5.out _ HO2.out)
        go_quiet (fail)
        go_wp2_with (at_builtin; refine wpList_append_own _ rfl _ _ 69 rfl w.heap.size 84 i0 (.agg #[.int .i64 0, .int .i64 0, .int .i64 0]) 3 24 Try.underlying69 hi hz0 hz1 hz2 rfl (by decide) _ _ _ rfl (World.ownsRow.alloc HO4.out _) ⟨w4.heap.size, 0, none⟩ 1 1 [.int .i64 ((j : Int) + 1), .int .i64 ((j : Int) + 1 + 1), .int .i64 xt] rfl rfl (cell_three_new (by simp)) three_cell1 (by have := HFEW.out; unfold maxLen; omega) (by have := HFEW.out; omega) (by have := HB4.out.size; simp at this ⊢; omega) ?_; intro v1 w3 hown3 hgrow3 _)
        have HB3 := hid (below_dev HB4.out HO2.out (Nat.le_refl _) hgrow3)
        have HR3 : Hid (OwnT w3 w.heap.size v1 (devL p r (j + 1 + 1))) := by rw [HE.out]; exact OwnT.app (d := ⟨_, _, _⟩) (by rw [List.length_append, ← HM.out]; exact hown3)
        clear hown3 hgrow3
        go_roundw
        case rel => exact ⟨j + 1 + 1, by have := HLT.out; omega, by go_num, HR3, HB3⟩
        case measure => have := HLT.out; simp [intOf]; omega
      have HE := hid (dev_more HCT.out HL.out h1 (by rw [Nat.add_sub_cancel, h2, HXS.out]))
      rw [HXT.out] at HE
      have HS : ∀ wA i W3, OwnT wA w.heap.size (.slice (some ⟨g, 0, none⟩) (M + 1) uc) (l0 ++ [⟨dx, dy, dz⟩]) → Below w.heap.size w wA → (wA.drewN i).setCell ⟨g, M * 3 + 1, none⟩ (.int .i64 ((j : Int) + 1 + 1)) = W3 → OwnT W3 w.heap.size (.slice (some ⟨g, 0, none⟩) (M + 1) uc) (l0 ++ [⟨dx, (j : Int) + 1 + 1, dz⟩]) ∧ Below w.heap.size w W3 := by
        rintro wA i W3 hA hBA rfl
        have h3 : OwnT (wA.drewN i) w.heap.size (.slice (some ⟨g, 0, none⟩) (l0.length + 1) uc) (l0 ++ [⟨dx, dy, dz⟩]) := by rw [← HM.out]; exact hA
        have q1 := h3.set1 ((j : Int) + 1 + 1)
        have q3 := OwnT.below (j := M * 3 + 1) (x := .int .i64 ((j : Int) + 1 + 1)) (bdrewN (n := i) hBA) h3 (Nat.le_refl _)
        rw [← HM.out] at q1
        exact ⟨q1, q3⟩
      have HS := hid HS
      have HS2 : ∀ wA i, OwnT wA w.heap.size (.slice (some ⟨g, 0, none⟩) (M + 1) uc) (l0 ++ [⟨dx, (j : Int) + 1 + 1, dz⟩]) → Below w.heap.size w wA → OwnT ((wA.drewN i).setCell ⟨g, M * 3 + 2, none⟩ (.int .i64 xt)) w.heap.size (.slice (some ⟨g, 0, none⟩) (M + 1) uc) (l0 ++ [⟨dx, (j : Int) + 1 + 1, xt⟩]) ∧ Below w.heap.size w ((wA.drewN i).setCell ⟨g, M * 3 + 2, none⟩ (.int .i64 xt)) := by
        intro wA i hA hBA
        have h3 : OwnT (wA.drewN i) w.heap.size (.slice (some ⟨g, 0, none⟩) (l0.length + 1) uc) (l0 ++ [⟨dx, (j : Int) + 1 + 1, dz⟩]) := by rw [← HM.out]; exact hA
        have q1 := h3.set2 xt
        have q3 := OwnT.below (j := M * 3 + 2) (x := .int .i64 xt) (bdrewN (n := i) hBA) h3 (Nat.le_refl _)
        rw [← HM.out] at q1
        exact ⟨q1, q3⟩
      have HS2 := hid HS2
      have HRJ := hid h2
      have g2 : (dy == ((j : Int) + 1)) = true := by rw [h1]; simp
      have hf : dy = (j : Int) + 1 := by rw [h1]; simp
      clear h1 h2
      go_wp2_with (go_at_call 110; refine (xcold_any _ _ _ _ _ _ _ _ _ HPk.out HQM.out).mono ?_; rintro e w4 ⟨rfl, hb⟩; rw [← HCB.out, hcb]; have HB4 := hid (bstep hB.out hB.out.size hb); have HO2 := hid (OwnT.keep hrow.out hb); clear hb)
      obtain ⟨c0, c1, c2, c3⟩ := HR4.out _ HB4.out (j + 1) HLT.out
      rw [HXT.out] at c1
      rw [HXS.out] at c0
      obtain ⟨f0, _, _, _⟩ := HR4.out _ HB4.out j (by have := HLT.out; omega)
      rw [HRJ.out] at f0
      obtain ⟨e1, e2, e3, e4⟩ := HLS.out _ _ HO2.out
      simp only at e1 e2
      go_quiet (fail)
      clear c0 c1 c2 c3
      go_wp2
      generalize hW : World.setCell _ _ _ = W3
      obtain ⟨k1, k2⟩ := HS.out _ _ _ HO2.out HB4.out hW
      have HK1 := hid k1
      have HK2 := hid k2
      clear hW HS k1 k2 e1 e2 e3 e4 f0
      obtain ⟨e1, e2, e3, e4⟩ := HLS.out _ _ HK1.out
      simp only at e1 e2
      obtain ⟨c0, c1, c2, c3⟩ := HR4.out _ HK2.out (j + 1) HLT.out
      rw [HXT.out] at c1
      rcases (show (dz ≤ xt ∧ min dz xt = dz) ∨ (xt < dz ∧ min dz xt = xt) by omega) with ⟨hxy, hmn⟩ | ⟨hxy, hmn⟩
      · rw [hmn] at HE
        clear hmn
        go_quiet (fail)
        go_wp2
        go_roundw
        case rel => exact ⟨j + 1 + 1, by have := HLT.out; omega, by go_num, by rw [HE.out]; exact HK1, hid (bdrewN HK2.out)⟩
        case measure => have := HLT.out; simp [intOf]; omega
      · rw [hmn] at HE
        clear hmn
        go_quiet (fail)
        go_wp2
        go_roundw
        case rel => exact ⟨j + 1 + 1, by have := HLT.out; omega, by go_num, by rw [HE.out]; exact hid (HS2.out _ _ HK1.out HK2.out).1, hid (HS2.out _ _ HK1.out HK2.out).2⟩
        case measure => have := HLT.out; simp [intOf]; omega
    · obtain rfl : k = n := by omega
      go_wp2
      refine bodyPost_ret (v := .tuple #[u6, .int .i64 0]) (by simp [results, Try.results61, go_sem]) rfl ?_
      exact ⟨_, _, _, rfl, .inl ⟨HREC.out, rfl, rfl⟩, hrow.out.row, hB.out⟩
end Go.Proofs.Ytpkdainpmgohiaa
