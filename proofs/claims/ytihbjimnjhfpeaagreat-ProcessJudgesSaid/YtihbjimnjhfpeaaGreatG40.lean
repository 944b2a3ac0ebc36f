/- Texts of this seat, one behind the other. -/
import Derived.Test.YtihbjimnjhfpeaaGreatG39
import Derived.Test.YtihbjimnjhfpeaaGreatG37
/- Walk of the reference's Vented: contract. -/
namespace Go.Proofs.YtihbjimnjhfpeaaGreat.Rt
open Go.RowKit

set_option maxRecDepth 20000 in
set_option maxHeartbeats 4000000 in
theorem xvent_any (u : Value) (m : Nat) (p : Nat → St) (v : Value) (n : Nat) (r : Nat → Rd) (w : World) (hp : RowP w u m p) (hr : RowR w v n r) :
    Calls Tryz.prog 13 #[u, v] w (VentP m p n r w) := by
  have HK := hid (fun w1 (g : Below w.heap.size w w1) => hr.keep g)
  have HQ := hid (fun w1 (g : Below w.heap.size w w1) => (show RowP w1 u m p from RowT.keep hp g))
  have HP := hid hp
  have HR := hid hr
  have hnm := hr.most
  have hmm := RowT.most hp
  unfold maxLen at hnm hmm
  obtain ⟨pa, pc, rfl⟩ := RowT.shape hp
  obtain ⟨va, vc, rfl⟩ := hr.shape
  clear hp hr
  cases hrec : recB m p n r
  · have HREC := hid hrec
    go_enter Tryz.func13, Tryz.ntmps13
    go_wp2_with (go_at_call 47; refine (xrec_any _ _ _ _ _ _ _ HP.out HR.out).mono ?_; rintro e w1 ⟨rfl, hb⟩; rw [hrec]; have HB := hid hb; clear hb)
    refine bodyPost_ret (v := .tuple #[.bool false, .int .i64 1]) (by simp [results, Tryz.results13, go_sem]) rfl ?_
    exact ⟨_, _, rfl, .inl ⟨HREC.out, rfl, rfl⟩, HB.out⟩
  obtain ⟨hn, hm1, hm16, hst⟩ := rec_step hrec
  have HREC := hid hrec
  clear hst
  go_enter Tryz.func13, Tryz.ntmps13
  go_wp2_with (go_at_call 47; refine (xrec_any _ _ _ _ _ _ _ HP.out HR.out).mono ?_; rintro e w1 ⟨rfl, hb⟩; rw [hrec]; have HB := hid hb; clear hb)
  clear hrec
  go_loopw [6] (fun i wr => ∃ k : Nat, k ≤ m ∧ i = .int .i64 (k : Int) ∧ Hid (∀ i, i < k → VentOk p n r i) ∧ Hid (Below w.heap.size w wr)) (fun i _ => m - (intOf i).toNat)
  case atStart => exact ⟨0, Nat.zero_le _, rfl, fun i h => absurd h (Nat.not_lt_zero i), HB⟩
  case round =>
    obtain ⟨k, hk, rfl, hok, hB⟩ := hrel
    by_cases hlt : k < m
    · have hlt' : (k : Int) < m := by omega
      have HLT := hid hlt
      clear hlt
      go_wp2_with fail
      refine (xpart_any _ _ _ _ _ (HK.out _ hB.out)).mono ?_
      rintro e w2 ⟨f, t, hpp, rfl, hb⟩
      have HB2 := hid (bstep hB.out hB.out.size hb)
      have htop := hpp.top
      have hle := hpp.le
      have HPP := hid hpp
      clear hpp hb
      obtain ⟨a2, b2, o2, cap2, hv, _, _, ha2, hcell2⟩ := HQ.out _ HB2.out
      injection hv with hv1 hv2 hv3
      subst hv1 hv3
      rcases ha2 with h0 | rfl
      · have := HLT.out; omega
      obtain ⟨d0, d1, d2⟩ := hcell2 k HLT.out
      simp only at d0 d1 d2
      have HVO := hid (show VentOk p n r k = ((p k).k = 1 → ∃ f t : Nat, PartP n r k f t ∧ f < t ∧ (p k).n ≤ (t : Int) - f ∧ (p k).s ≤ (r (t - 1)).t) from rfl)
      generalize (p k).k = yk at d0 HVO
      generalize (p k).s = ys at d1 HVO
      generalize (p k).n = yn at d2 HVO
      clear hcell2 hv2
      by_cases hc1 : yk = 1
      case neg =>
        have g1 : (yk == 1) = false := by simpa using hc1
        have HV := hid (vent_all hok.out (by rw [HVO.out]; exact fun h => absurd h hc1))
        clear hc1 htop hle
        go_wp2
        go_quiet (fail)
        go_wp2
        go_roundw
        case rel => exact ⟨k + 1, by have := HLT.out; omega, by go_num, HV, hid (bdrewN HB2.out)⟩
        case measure => have := HLT.out; simp [intOf]; omega
      subst hc1
      by_cases hft : f = t
      · subst hft
        have HV : Hid (¬ VentOk p n r k) := by
          show ¬ VentOk p n r k
          rw [HVO.out]
          intro h
          obtain ⟨f2, t2, h1, h2, _⟩ := h rfl
          obtain ⟨rfl, rfl⟩ := HPP.out.one h1
          omega
        clear htop hle
        go_wp2
        go_quiet (fail)
        go_wp2
        refine bodyPost_ret (v := .tuple #[.bool false, .int .i64 0]) (by simp [results, Tryz.results13, go_sem]) rfl ?_
        exact ⟨_, _, rfl, .inr (.inr ⟨HREC.out, rfl, rfl, _, HLT.out, HV.out⟩), bdrewN HB2.out⟩
      obtain ⟨j, rfl⟩ : ∃ j, t = j + 1 := ⟨t - 1, by omega⟩
      have HIFF : VentOk p n r k ↔ (yn ≤ (j : Int) + 1 - f ∧ ys ≤ (r j).t) := by
        rw [HVO.out]
        constructor
        · intro h
          obtain ⟨f2, t2, h1, h2, h3, h4⟩ := h rfl
          obtain ⟨rfl, rfl⟩ := HPP.out.one h1
          rw [Nat.add_sub_cancel] at h4
          exact ⟨by omega, h4⟩
        · intro ⟨h1, h2⟩ _
          exact ⟨f, j + 1, HPP.out, by omega, by omega, by rwa [Nat.add_sub_cancel]⟩
      have HIFF := hid HIFF
      obtain ⟨a3, b3, o3, cap3, hv, _, _, ha3, hcell3⟩ := HK.out _ HB2.out
      injection hv with hv1 hv2 hv3
      subst hv1 hv3
      rcases ha3 with h0 | rfl
      · omega
      obtain ⟨c0, c1, c2, c3⟩ := hcell3 j (by omega)
      clear hcell3 hv2 c0 c2 c3
      generalize (r j).t = x at c1 HIFF
      have g2 : ((f : Int) == (j : Int) + 1) = false := by simp; omega
      have hjn : (j : Int) < n := by omega
      have hfj : f ≤ j := by omega
      have hw1 : IntKind.i64.wrap ((j : Int) + 1 - (f : Int)) = (j : Int) + 1 - (f : Int) := IntWalk.i64_in _ ⟨by omega, by omega⟩
      have hw2 : IntKind.i64.wrap (j : Int) = (j : Int) := IntWalk.i64_in _ ⟨by omega, by omega⟩
      clear htop hle hft
      by_cases h1 : (j : Int) + 1 - f < yn
      · have HV : Hid (¬ VentOk p n r k) := by
          show ¬ VentOk p n r k
          rw [HIFF.out]
          intro ⟨h2, h3⟩
          omega
        go_wp2
        go_quiet (fail)
        go_wp2
        refine bodyPost_ret (v := .tuple #[.bool false, .int .i64 0]) (by simp [results, Tryz.results13, go_sem]) rfl ?_
        exact ⟨_, _, rfl, .inr (.inr ⟨HREC.out, rfl, rfl, _, HLT.out, HV.out⟩), bdrewN HB2.out⟩
      have h1' : decide ((j : Int) + 1 - f < yn) = false := decide_eq_false h1
      by_cases h2 : x < ys
      · have HV : Hid (¬ VentOk p n r k) := by
          show ¬ VentOk p n r k
          rw [HIFF.out]
          intro ⟨h3, h4⟩
          omega
        clear h1
        go_wp2
        go_quiet (fail)
        go_wp2
        refine bodyPost_ret (v := .tuple #[.bool false, .int .i64 0]) (by simp [results, Tryz.results13, go_sem]) rfl ?_
        exact ⟨_, _, rfl, .inr (.inr ⟨HREC.out, rfl, rfl, _, HLT.out, HV.out⟩), bdrewN HB2.out⟩
      · have h2' : decide (x < ys) = false := decide_eq_false h2
        have HV := hid (vent_all hok.out (HIFF.out.2 ⟨by omega, by omega⟩))
        clear h1 h2
        go_wp2
        go_quiet (fail)
        go_wp2
        go_roundw
        case rel => exact ⟨k + 1, by have := HLT.out; omega, by go_num, HV, hid (bdrewN HB2.out)⟩
        case measure => have := HLT.out; simp [intOf]; omega
    · obtain rfl : k = m := by omega
      go_wp2
      refine bodyPost_ret (v := .tuple #[.bool true, .int .i64 0]) (by simp [results, Tryz.results13, go_sem]) rfl ?_
      exact ⟨_, _, rfl, .inr (.inl ⟨HREC.out, rfl, rfl, hok.out⟩), hB.out⟩
end Go.Proofs.YtihbjimnjhfpeaaGreat.Rt

/- Walks of the reference's cold and Deviations: contracts. -/
namespace Go.Proofs.YtihbjimnjhfpeaaGreat.Rt
open Go.RowKit

theorem OwnT.keep {W w2 : World} {base : Nat} {v : Value} {l : List Tri} (h : OwnT W base v l) (hb : Below W.heap.size W w2) : OwnT w2 base v l := by
  refine ⟨h.1, ?_⟩
  rcases h.2 with hn | ⟨g, cap, cur, rfl, hg, hgg, rest⟩
  · exact .inl hn
  · exact .inr ⟨g, cap, cur, rfl, hg, (hb.block g (Array.getElem?_eq_some_iff.1 hgg).1).trans hgg, rest⟩
set_option maxRecDepth 20000 in
set_option maxHeartbeats 4000000 in
theorem xcold_any (pa : Option Addr) (m pc : Nat) (p : Nat → St) (q : Nat) (t c b : Int) (w : World) (hp : RowP w (.slice pa m pc) m p) (hq : q < m) :
    Calls Tryz.prog 53 #[.slice pa m pc, .agg #[.int .i64 q, .int .i64 t, .int .i64 c, .int .i64 b]] w fun e w' => e = .returned (.bool (decide ((p q).k = 3) && decide (t < (p q).s))) ∧ Below w.heap.size w w' := by
  have hmm := RowT.most hp
  unfold maxLen at hmm
  have hq' : (q : Int) < m := by omega
  obtain ⟨a2, b2, o2, cap2, hv, _, _, ha2, hcell2⟩ := (show RowP _ _ _ _ from RowT.keep hp ((Below.refl w.heap.size w).alloc (Nat.le_refl _) (.cells #[.int .i64 q, .int .i64 t, .int .i64 c, .int .i64 b] 56)))
  injection hv with hv1 hv2 hv3
  subst hv1 hv3
  rcases ha2 with h0 | rfl
  · omega
  obtain ⟨d0, d1, d2⟩ := hcell2 q hq
  simp only at d0 d1 d2
  clear hcell2 hv2 hp hq d2
  generalize (p q).k = yk at d0
  generalize (p q).s = ys at d1
  have HB := hid ((Below.refl w.heap.size w).alloc (Nat.le_refl _) (.cells #[.int .i64 q, .int .i64 t, .int .i64 c, .int .i64 b] 56))
  by_cases h1 : yk = 3
  · have g1 : (yk == 3) = true := by simpa using h1
    have hE := hid (show decide (t < ys) = (decide (yk = 3) && decide (t < ys)) by rw [decide_eq_true h1]; rfl)
    go_enter Tryz.func53, Tryz.ntmps53
    go_wp2
    go_quiet (fail)
    go_wp2
    go_ret
    exact ⟨ret_bool hE.out, bdrewN HB.out⟩
  · have g1 : (yk == 3) = false := by simpa using h1
    have hE := hid (show false = (decide (yk = 3) && decide (t < ys)) by rw [decide_eq_false h1]; rfl)
    go_enter Tryz.func53, Tryz.ntmps53
    go_wp2
    go_quiet (fail)
    go_wp2
    go_ret
    exact ⟨ret_bool hE.out, bdrewN HB.out⟩
end Go.Proofs.YtihbjimnjhfpeaaGreat.Rt

/- Walk of the reference's Deviations: contract. -/
namespace Go.Proofs.YtihbjimnjhfpeaaGreat.Rt
open Go.RowKit

set_option maxRecDepth 20000 in
set_option maxHeartbeats 4000000 in
theorem xdev_any (u : Value) (m : Nat) (p : Nat → St) (v : Value) (n : Nat) (r : Nat → Rd) (w : World) (hp : RowP w u m p) (hr : RowR w v n r) :
    Calls Tryz.prog 16 #[u, v] w (DevP m p n r w) := by
  have HK := hid (fun w1 (g : Below w.heap.size w w1) => hr.keep g)
  have HQ := hid (fun w1 (g : Below w.heap.size w w1) => (show RowP w1 u m p from RowT.keep hp g))
  have HP := hid hp
  have HR := hid hr
  have hnm := hr.most
  have hmm := RowT.most hp
  unfold maxLen at hnm hmm
  obtain ⟨pa, pc, rfl⟩ := RowT.shape hp
  obtain ⟨va, vc, rfl⟩ := hr.shape
  clear hp hr
  obtain ⟨i0, hi, hz0, hz1, hz2⟩ := info_parts infoT
  cases hrec : recB m p n r
  · have HREC := hid hrec
    go_enter Tryz.func16, Tryz.ntmps16
    go_wp2_with (go_at_call 47; refine (xrec_any _ _ _ _ _ _ _ HP.out HR.out).mono ?_; rintro e w1 ⟨rfl, hb⟩; rw [hrec]; have HB := hid hb; clear hb)
    refine bodyPost_ret (v := .tuple #[.slice none 0 0, .int .i64 1]) (by simp [results, Tryz.results16, go_sem]) rfl ?_
    exact ⟨_, _, _, rfl, .inr ⟨HREC.out, rfl, rfl⟩, OwnT.row (World.ownsRow_nil w1 0 _ _), HB.out⟩
  obtain ⟨hn, hm1, hm16, hst⟩ := rec_step hrec
  have HREC := hid hrec
  have HST := hid hst
  clear hst
  go_enter Tryz.func16, Tryz.ntmps16
  go_wp2_with (go_at_call 47; refine (xrec_any _ _ _ _ _ _ _ HP.out HR.out).mono ?_; rintro e w1 ⟨rfl, hb⟩; rw [hrec]; have HB := hid hb; clear hb)
  clear hrec
  go_loopw [6, 7] (fun v t wr => ∃ k : Nat, k ≤ n ∧ t = .int .i64 (k : Int) ∧ Hid (OwnT wr w.heap.size v (devL p r k)) ∧ Hid (Below w.heap.size w wr)) (fun _ t _ => n - (intOf t).toNat)
  case atStart => exact ⟨0, Nat.zero_le _, rfl, World.ownsRow_nil _ _ _ _, HB⟩
  case round =>
    obtain ⟨k, hk, rfl, hrow, hB⟩ := hrel
    by_cases hlt : k < n
    · have hlt' : (k : Int) < n := by omega
      obtain ⟨a', b', o', cap', hv, _, _, ha', hcell⟩ := HK.out _ hB.out
      injection hv with hv1 hv2 hv3
      subst hv1 hv3
      rcases ha' with h0 | rfl
      · omega
      obtain ⟨c0, c1, c2, c3⟩ := hcell k hlt
      obtain ⟨hs0, hs1⟩ := HST.out k hlt
      obtain ⟨x, hX⟩ : ∃ x, x = r k := ⟨_, rfl⟩
      rw [← hX] at c0 c1 c2 c3 hs0 hs1
      have HX := hid hX
      clear hcell hX hv2
      obtain ⟨xs, xt, xc, xb⟩ := x
      simp only at c0 c1 c2 c3 hs0 hs1
      obtain ⟨q, rfl⟩ : ∃ q : Nat, xs = q := ⟨xs.toNat, by omega⟩
      have HQM := hid (show q < m by omega)
      have HPk := hid (HQ.out _ hB.out)
      have HCB := hid (show coldB p ⟨q, xt, xc, xb⟩ = (decide ((p q).k = 3) && decide (xt < (p q).s)) from rfl)
      rw [HX.out] at HCB
      have HLT := hid hlt
      clear hlt
      have hr4 : ∀ wA, Below w.heap.size w wA → ∀ j, j < n → RdAt wA b' (o' + j * 4) (r j) := by
        intro wA hA j hj
        obtain ⟨a3, b3, o3, cap3, hv, _, _, ha3, hc3⟩ := HK.out _ hA
        injection hv with hv1 hv2 hv3
        rcases ha3 with h0 | h0
        · omega
        · rw [h0] at hv1
          cases hv1
          exact hc3 j hj
      have HR4 := hid hr4
      clear hr4
      cases hcb : coldB p (r k)
      · have HN := hid (dev_no hcb)
        go_wp2_with (go_at_call 53; refine (xcold_any _ _ _ _ _ _ _ _ _ HPk.out HQM.out).mono ?_; rintro e w4 ⟨rfl, hb⟩; rw [← HCB.out, hcb]; have HB4 := hid (bstep hB.out hB.out.size hb); have HO2 := hid (OwnT.keep hrow.out hb); clear hb)
        go_roundw
        case rel => exact ⟨k + 1, by have := HLT.out; omega, by go_num, by rw [HN.out]; exact HO2, HB4⟩
        case measure => have := HLT.out; simp [intOf]; omega
      have HCT := hid hcb
      have HXT := hid (show (r k).t = xt by rw [← HX.out])
      have HFEW := hid (dev_ok p r k).few
      rcases last_or (devL p r k) with hl | ⟨l0, d, hl⟩
      · have HE := hid (dev_first HCT.out hl)
        rw [HXT.out] at HE
        obtain ⟨ua, uc, hu⟩ := ownT_shape hrow.out
        rw [hl] at hu
        simp only [List.length_nil] at hu
        subst hu
        replace hrow : Hid (OwnT wr w.heap.size (.slice ua ([] : List Tri).length uc) []) := by
          have h := hrow.out
          rw [hl] at h
          exact h
        clear hl
        go_wp2_with (go_at_call 53; refine (xcold_any _ _ _ _ _ _ _ _ _ HPk.out HQM.out).mono ?_; rintro e w4 ⟨rfl, hb⟩; rw [← HCB.out, hcb]; have HB4 := hid (bstep hB.out hB.out.size hb); have HO2 := hid (OwnT.keep hrow.out hb); clear hb)
        obtain ⟨c0, c1, c2, c3⟩ := HR4.out _ HB4.out k HLT.out
        rw [HXT.out] at c1
        have HO4 := HO2
        go_quiet (fail)
        go_wp2_with (at_builtin; refine wpList_append_own _ rfl _ _ 50 rfl w.heap.size 108 i0 (.agg #[.int .i64 0, .int .i64 0, .int .i64 0]) 3 24 Tryz.underlying50 hi hz0 hz1 hz2 rfl (by decide) _ _ _ rfl (World.ownsRow.alloc HO4.out _) ⟨w4.heap.size, 0, none⟩ 1 1 [.int .i64 k, .int .i64 ((k : Int) + 1), .int .i64 xt] rfl rfl (cell_three_new (by simp)) three_cell1 (by have := HFEW.out; unfold maxLen; simp only [List.length_nil] at *; omega) (by have := HFEW.out; simp only [List.length_nil] at *; omega) (by have := HB4.out.size; simp at this ⊢; omega) ?_; intro v1 w3 hown3 hgrow3 _)
        have HB3 := hid (below_dev HB4.out HO2.out (Nat.le_refl _) hgrow3)
        have HR3 : Hid (OwnT w3 w.heap.size v1 (devL p r (k + 1))) := by rw [HE.out]; exact OwnT.app (l := []) (d := ⟨k, (k : Int) + 1, xt⟩) hown3
        clear hown3 hgrow3
        go_roundw
        case rel => exact ⟨k + 1, by have := HLT.out; omega, by go_num, HR3, HB3⟩
        case measure => have := HLT.out; simp [intOf]; omega
      obtain ⟨dx, dy, dz⟩ := d
      obtain ⟨g, uc, hu, _⟩ := ownT_some (l := l0) (d := ⟨dx, dy, dz⟩) (by have h := hrow.out; rw [hl] at h; exact h)
      subst hu
      replace hrow : Hid (OwnT wr w.heap.size (.slice (some ⟨g, 0, none⟩) (l0.length + 1) uc) (l0 ++ [⟨dx, dy, dz⟩])) := by
        have h := hrow.out
        rw [hl] at h
        exact h
      have HFEW := hid (show l0.length + 1 ≤ k by have := HFEW.out; rw [hl] at this; simpa using this)
      have HL := hid hl
      clear hl
      obtain ⟨M, hM⟩ : ∃ M, M = l0.length := ⟨_, rfl⟩
      rw [← hM] at HFEW
      have hMi : (M : Int) < (M : Int) + 1 := by omega
      have HM := hid hM
      rw [← hM] at hrow
      rw [← hM]
      clear hM
      have hMk := HFEW.out
      have hO4 : ∀ wA, OwnT wA w.heap.size (.slice (some ⟨g, 0, none⟩) (M + 1) uc) (l0 ++ [⟨dx, dy, dz⟩]) → World.ownsRow wA w.heap.size 108 3 (.slice (some ⟨g, 0, none⟩) (M + 1) uc) (M + 1) (tvs (l0 ++ [⟨dx, dy, dz⟩])) := by
        intro wA h
        unfold OwnT at h
        rw [List.length_append, ← HM.out] at h
        exact h
      have HO5 := hid hO4
      clear hO4
      have hlast : ∀ wA (d : Tri), OwnT wA w.heap.size (.slice (some ⟨g, 0, none⟩) (M + 1) uc) (l0 ++ [d]) → wA.cell? ⟨g, M * 3 + 1, none⟩ = some (.int .i64 d.y) ∧ wA.cell? ⟨g, M * 3 + 2, none⟩ = some (.int .i64 d.z) ∧ wA.frozen? ⟨g, M * 3 + 1, none⟩ = false ∧ wA.frozen? ⟨g, M * 3 + 2, none⟩ = false := by
        intro wA d h
        rw [HM.out] at h ⊢
        exact h.last
      have HLS := hid hlast
      clear hlast
      by_cases h1 : dy = (k : Int)
      case neg =>
        have HE := hid (dev_next HCT.out HL.out (fun h => h1 h.1))
        rw [HXT.out] at HE
        have g2 : (dy == (k : Int)) = false := by simpa using h1
        go_wp2_with (go_at_call 53; refine (xcold_any _ _ _ _ _ _ _ _ _ HPk.out HQM.out).mono ?_; rintro e w4 ⟨rfl, hb⟩; rw [← HCB.out, hcb]; have HB4 := hid (bstep hB.out hB.out.size hb); have HO2 := hid (OwnT.keep hrow.out hb); clear hb)
        obtain ⟨c0, c1, c2, c3⟩ := HR4.out _ HB4.out k HLT.out
        rw [HXT.out] at c1
        obtain ⟨e1, e2, e3, e4⟩ := HLS.out _ _ HO2.out
        simp only at e1 e2
        have HO4 := hid (HO5.out _ HO2.out)
        go_quiet (fail)
        go_wp2_with (at_builtin; refine wpList_append_own _ rfl _ _ 50 rfl w.heap.size 108 i0 (.agg #[.int .i64 0, .int .i64 0, .int .i64 0]) 3 24 Tryz.underlying50 hi hz0 hz1 hz2 rfl (by decide) _ _ _ rfl (World.ownsRow.alloc HO4.out _) ⟨w4.heap.size, 0, none⟩ 1 1 [.int .i64 k, .int .i64 ((k : Int) + 1), .int .i64 xt] rfl rfl (cell_three_new (by simp)) three_cell1 (by have := HFEW.out; unfold maxLen; omega) (by have := HFEW.out; omega) (by have := HB4.out.size; simp at this ⊢; omega) ?_; intro v1 w3 hown3 hgrow3 _)
        have HB3 := hid (below_dev HB4.out HO2.out (Nat.le_refl _) hgrow3)
        have HR3 : Hid (OwnT w3 w.heap.size v1 (devL p r (k + 1))) := by rw [HE.out]; exact OwnT.app (d := ⟨_, _, _⟩) (by rw [List.length_append, ← HM.out]; exact hown3)
        clear hown3 hgrow3
        go_roundw
        case rel => exact ⟨k + 1, by have := HLT.out; omega, by go_num, HR3, HB3⟩
        case measure => have := HLT.out; simp [intOf]; omega
      obtain ⟨j, rfl⟩ : ∃ j, k = j + 1 := ⟨k - 1, by omega⟩
      have hj1 : (j : Int) + 1 < n := by have := HLT.out; omega
      have hj2 : (j : Int) < n := by omega
      have hj3 : IntKind.i64.wrap (j : Int) = (j : Int) := IntWalk.i64_in _ ⟨by omega, by omega⟩
      have hjM : M ≤ j := by omega
      clear hlt' hMk
      have HXS := hid (show (r (j + 1)).s = (q : Int) by rw [← HX.out])
      by_cases h2 : (r j).s = q
      case neg =>
        have HE := hid (dev_next HCT.out HL.out (fun h => h2 (by rw [Nat.add_sub_cancel] at h; rw [h.2, HXS.out])))
        rw [HXT.out] at HE
        have g3 : ((r j).s == (q : Int)) = false := by simpa using h2
        have g2 : (dy == ((j : Int) + 1)) = true := by rw [h1]; simp
        have hf : dy = (j : Int) + 1 := by rw [h1]; simp
        clear h1 h2
        go_wp2_with (go_at_call 53; refine (xcold_any _ _ _ _ _ _ _ _ _ HPk.out HQM.out).mono ?_; rintro e w4 ⟨rfl, hb⟩; rw [← HCB.out, hcb]; have HB4 := hid (bstep hB.out hB.out.size hb); have HO2 := hid (OwnT.keep hrow.out hb); clear hb)
        obtain ⟨c0, c1, c2, c3⟩ := HR4.out _ HB4.out (j + 1) HLT.out
        rw [HXT.out] at c1
        rw [HXS.out] at c0
        obtain ⟨f0, _, _, _⟩ := HR4.out _ HB4.out j (by have := HLT.out; omega)
        obtain ⟨e1, e2, e3, e4⟩ := HLS.out _ _ HO2.out
        simp only at e1 e2
        generalize (r j).s = s0 at f0 g3
        have HO4 := hid (HO5.out _ HO2.out)
        go_quiet (fail)
        go_wp2_with (at_builtin; refine wpList_append_own _ rfl _ _ 50 rfl w.heap.size 108 i0 (.agg #[.int .i64 0, .int .i64 0, .int .i64 0]) 3 24 Tryz.underlying50 hi hz0 hz1 hz2 rfl (by decide) _ _ _ rfl (World.ownsRow.alloc HO4.out _) ⟨w4.heap.size, 0, none⟩ 1 1 [.int .i64 ((j : Int) + 1), .int .i64 ((j : Int) + 1 + 1), .int .i64 xt] rfl rfl (cell_three_new (by simp)) three_cell1 (by have := HFEW.out; unfold maxLen; omega) (by have := HFEW.out; omega) (by have := HB4.out.size; simp at this ⊢; omega) ?_; intro v1 w3 hown3 hgrow3 _)
        have HB3 := hid (below_dev HB4.out HO2.out (Nat.le_refl _) hgrow3)
        have HR3 : Hid (OwnT w3 w.heap.size v1 (devL p r (j + 1 + 1))) := by rw [HE.out]; exact OwnT.app (d := ⟨_, _, _⟩) (by rw [List.length_append, ← HM.out]; exact hown3)
        clear hown3 hgrow3
        go_roundw
        case rel => exact ⟨j + 1 + 1, by have := HLT.out; omega, by go_num, HR3, HB3⟩
        case measure => have := HLT.out; simp [intOf]; omega
      have HE := hid (dev_more HCT.out HL.out h1 (by rw [Nat.add_sub_cancel, h2, HXS.out]))
      rw [HXT.out] at HE
      have HS : ∀ wA i W3, OwnT wA w.heap.size (.slice (some ⟨g, 0, none⟩) (M + 1) uc) (l0 ++ [⟨dx, dy, dz⟩]) → Below w.heap.size w wA → (wA.drewN i).setCell ⟨g, M * 3 + 1, none⟩ (.int .i64 ((j : Int) + 1 + 1)) = W3 → OwnT W3 w.heap.size (.slice (some ⟨g, 0, none⟩) (M + 1) uc) (l0 ++ [⟨dx, (j : Int) + 1 + 1, dz⟩]) ∧ Below w.heap.size w W3 := by
        rintro wA i W3 hA hBA rfl
        have h3 : OwnT (wA.drewN i) w.heap.size (.slice (some ⟨g, 0, none⟩) (l0.length + 1) uc) (l0 ++ [⟨dx, dy, dz⟩]) := by rw [← HM.out]; exact hA
        have q1 := h3.set1 ((j : Int) + 1 + 1)
        have q3 := OwnT.below (j := M * 3 + 1) (x := .int .i64 ((j : Int) + 1 + 1)) (bdrewN (n := i) hBA) h3 (Nat.le_refl _)
        rw [← HM.out] at q1
        exact ⟨q1, q3⟩
      have HS := hid HS
      have HS2 : ∀ wA i, OwnT wA w.heap.size (.slice (some ⟨g, 0, none⟩) (M + 1) uc) (l0 ++ [⟨dx, (j : Int) + 1 + 1, dz⟩]) → Below w.heap.size w wA → OwnT ((wA.drewN i).setCell ⟨g, M * 3 + 2, none⟩ (.int .i64 xt)) w.heap.size (.slice (some ⟨g, 0, none⟩) (M + 1) uc) (l0 ++ [⟨dx, (j : Int) + 1 + 1, xt⟩]) ∧ Below w.heap.size w ((wA.drewN i).setCell ⟨g, M * 3 + 2, none⟩ (.int .i64 xt)) := by
        intro wA i hA hBA
        have h3 : OwnT (wA.drewN i) w.heap.size (.slice (some ⟨g, 0, none⟩) (l0.length + 1) uc) (l0 ++ [⟨dx, (j : Int) + 1 + 1, dz⟩]) := by rw [← HM.out]; exact hA
        have q1 := h3.set2 xt
        have q3 := OwnT.below (j := M * 3 + 2) (x := .int .i64 xt) (bdrewN (n := i) hBA) h3 (Nat.le_refl _)
        rw [← HM.out] at q1
        exact ⟨q1, q3⟩
      have HS2 := hid HS2
      have HRJ := hid h2
      have g2 : (dy == ((j : Int) + 1)) = true := by rw [h1]; simp
      have hf : dy = (j : Int) + 1 := by rw [h1]; simp
      clear h1 h2
      go_wp2_with (go_at_call 53; refine (xcold_any _ _ _ _ _ _ _ _ _ HPk.out HQM.out).mono ?_; rintro e w4 ⟨rfl, hb⟩; rw [← HCB.out, hcb]; have HB4 := hid (bstep hB.out hB.out.size hb); have HO2 := hid (OwnT.keep hrow.out hb); clear hb)
      obtain ⟨c0, c1, c2, c3⟩ := HR4.out _ HB4.out (j + 1) HLT.out
      rw [HXT.out] at c1
      rw [HXS.out] at c0
      obtain ⟨f0, _, _, _⟩ := HR4.out _ HB4.out j (by have := HLT.out; omega)
      rw [HRJ.out] at f0
      obtain ⟨e1, e2, e3, e4⟩ := HLS.out _ _ HO2.out
      simp only at e1 e2
      go_quiet (fail)
      clear c0 c1 c2 c3
      go_wp2
      generalize hW : World.setCell _ _ _ = W3
      obtain ⟨k1, k2⟩ := HS.out _ _ _ HO2.out HB4.out hW
      have HK1 := hid k1
      have HK2 := hid k2
      clear hW HS k1 k2 e1 e2 e3 e4 f0
      obtain ⟨e1, e2, e3, e4⟩ := HLS.out _ _ HK1.out
      simp only at e1 e2
      obtain ⟨c0, c1, c2, c3⟩ := HR4.out _ HK2.out (j + 1) HLT.out
      rw [HXT.out] at c1
      rcases (show (dz ≤ xt ∧ min dz xt = dz) ∨ (xt < dz ∧ min dz xt = xt) by omega) with ⟨hxy, hmn⟩ | ⟨hxy, hmn⟩
      · rw [hmn] at HE
        clear hmn
        go_quiet (fail)
        go_wp2
        go_roundw
        case rel => exact ⟨j + 1 + 1, by have := HLT.out; omega, by go_num, by rw [HE.out]; exact HK1, hid (bdrewN HK2.out)⟩
        case measure => have := HLT.out; simp [intOf]; omega
      · rw [hmn] at HE
        clear hmn
        go_quiet (fail)
        go_wp2
        go_roundw
        case rel => exact ⟨j + 1 + 1, by have := HLT.out; omega, by go_num, by rw [HE.out]; exact hid (HS2.out _ _ HK1.out HK2.out).1, hid (HS2.out _ _ HK1.out HK2.out).2⟩
        case measure => have := HLT.out; simp [intOf]; omega
    · obtain rfl : k = n := by omega
      go_wp2
      refine bodyPost_ret (v := .tuple #[u6, .int .i64 0]) (by simp [results, Tryz.results16, go_sem]) rfl ?_
      exact ⟨_, _, _, rfl, .inl ⟨HREC.out, rfl, rfl⟩, hrow.out.row, hB.out⟩
end Go.Proofs.YtihbjimnjhfpeaaGreat.Rt

/- Walks of Cooked of both: contracts. -/
namespace Go.Proofs.YtihbjimnjhfpeaaGreat.Rt
open Go.RowKit

/-- A reading of a cook that was hot enough, and how many they are. -/
def cookB (p : Nat → St) (t : Int) (x : Rd) : Bool := decide ((p x.s.toNat).k = 3) && decide (t ≤ x.t)
def cookN (p : Nat → St) (r : Nat → Rd) (t : Int) : Nat → Nat
  | 0 => 0
  | k + 1 => if cookB p t (r k) then cookN p r t k + 1 else cookN p r t k
theorem cookN_yes {p : Nat → St} {r : Nat → Rd} {t : Int} {k : Nat} (h : cookB p t (r k) = true) : cookN p r t (k + 1) = cookN p r t k + 1 := by rw [cookN, h]; rfl
theorem cookN_no {p : Nat → St} {r : Nat → Rd} {t : Int} {k : Nat} (h : cookB p t (r k) = false) : cookN p r t (k + 1) = cookN p r t k := by rw [cookN, h]; rfl
theorem cookN_le (p : Nat → St) (r : Nat → Rd) (t : Int) : ∀ k, cookN p r t k ≤ k
  | 0 => Nat.le_refl _
  | k + 1 => by
    have := cookN_le p r t k
    cases h : cookB p t (r k)
    · rw [cookN_no h]; omega
    · rw [cookN_yes h]; omega
/-- What Cooked answers. -/
def CookP (m : Nat) (p : Nat → St) (n : Nat) (r : Nat → Rd) (t : Int) (w : World) (e : Ending) (w' : World) : Prop :=
  ∃ a c : Int, e = .returned (.tuple #[.int .i64 a, .int .i64 c]) ∧ (recB m p n r = true ∧ c = 0 ∧ a = cookN p r t n ∨ recB m p n r = false ∧ c = 1 ∧ a = 0) ∧ Below w.heap.size w w'
set_option maxRecDepth 20000 in
set_option maxHeartbeats 4000000 in
theorem cook_any (u : Value) (m : Nat) (p : Nat → St) (v : Value) (n : Nat) (r : Nat → Rd) (t : Int) (w : World) (hp : RowP w u m p) (hr : RowR w v n r) :
    Calls Tryz.prog 135 #[u, v, .int .i64 t] w (CookP m p n r t w) := by
  have HK := hid (fun w1 (g : Below w.heap.size w w1) => hr.keep g)
  have HQ := hid (fun w1 (g : Below w.heap.size w w1) => (show RowP w1 u m p from RowT.keep hp g))
  have HP := hid hp
  have HR := hid hr
  have hnm := hr.most
  have hmm := RowT.most hp
  unfold maxLen at hnm hmm
  obtain ⟨pa, pc, rfl⟩ := RowT.shape hp
  obtain ⟨va, vc, rfl⟩ := hr.shape
  clear hp hr
  cases hrec : recB m p n r
  · have HREC := hid hrec
    go_enter Tryz.func135, Tryz.ntmps135
    go_wp2_with (go_at_call 41; refine (vrec_any _ _ _ _ _ _ _ HP.out HR.out).mono ?_; rintro e w1 ⟨rfl, hb⟩; rw [hrec]; have HB := hid hb; clear hb)
    refine bodyPost_ret (v := .tuple #[.int .i64 0, .int .i64 1]) (by simp [results, Tryz.results135, go_sem]) rfl ?_
    exact ⟨0, 1, rfl, .inr ⟨HREC.out, rfl, rfl⟩, HB.out⟩
  obtain ⟨hn, hm1, hm16, hst⟩ := rec_step hrec
  have HREC := hid hrec
  have HST := hid hst
  clear hst
  go_enter Tryz.func135, Tryz.ntmps135
  go_wp2_with (go_at_call 41; refine (vrec_any _ _ _ _ _ _ _ HP.out HR.out).mono ?_; rintro e w1 ⟨rfl, hb⟩; rw [hrec]; have HB := hid hb; clear hb)
  clear hrec
  go_loopw [8, 17] (fun v i wr => ∃ k : Nat, k ≤ n ∧ i = .int .i64 (k : Int) ∧ v = .int .i64 (cookN p r t k : Int) ∧ Hid (Below w.heap.size w wr)) (fun _ i _ => n - (intOf i).toNat)
  case atStart => exact ⟨0, Nat.zero_le _, rfl, rfl, HB⟩
  case round =>
    obtain ⟨k, hk, rfl, rfl, hB⟩ := hrel
    by_cases hlt : k < n
    · have hlt' : (k : Int) < n := by omega
      obtain ⟨a', b', o', cap', hv, _, _, ha', hcell⟩ := HK.out _ hB.out
      injection hv with hv1 hv2 hv3
      subst hv1 hv3
      rcases ha' with h0 | rfl
      · omega
      obtain ⟨c0, c1, c2, c3⟩ := hcell k hlt
      obtain ⟨hs0, hs1⟩ := HST.out k hlt
      have HLE := hid (cookN_le p r t k)
      have hle := HLE.out
      have HYES := hid (cookN_yes (p := p) (r := r) (t := t) (k := k))
      have HNO := hid (cookN_no (p := p) (r := r) (t := t) (k := k))
      obtain ⟨x, hX⟩ : ∃ x, x = r k := ⟨_, rfl⟩
      rw [← hX] at c0 c1 c2 c3 hs0 hs1 HYES HNO
      clear hcell hX hv2
      obtain ⟨xs, xt, xc, xb⟩ := x
      simp only at c0 c1 c2 c3 hs0 hs1
      obtain ⟨q, rfl⟩ : ∃ q : Nat, xs = q := ⟨xs.toNat, by omega⟩
      have hq : q < m := by omega
      have HB1 := hid (hB.out.alloc hB.out.size (.cells #[.int .i64 q, .int .i64 xt, .int .i64 xc, .int .i64 xb] 56))
      obtain ⟨a2, b2, o2, cap2, hv, _, _, ha2, hcell2⟩ := HQ.out _ HB1.out
      injection hv with hv1 hv2 hv3
      subst hv1 hv3
      rcases ha2 with h0 | rfl
      · omega
      obtain ⟨d0, d1, d2⟩ := hcell2 q hq
      have HCB := hid (show cookB p t ⟨q, xt, xc, xb⟩ = (decide ((p q).k = 3) && decide (t ≤ xt)) from rfl)
      simp only at d0
      generalize (p q).k = yk at d0 HCB
      clear hcell2 hv2 d1 d2
      have HLT := hid hlt
      clear hlt
      by_cases hc1 : yk = 3
      case neg =>
        have g1 : (yk == 3) = false := by simpa using hc1
        have HN := hid (HNO.out (by rw [HCB.out, decide_eq_false hc1]; rfl))
        generalize hcn : cookN p r t k = cn at hle HN
        go_wp2
        go_roundw
        case rel => exact ⟨k + 1, by have := HLT.out; omega, by go_num, by rw [HN.out], HB1⟩
        case measure => have := HLT.out; simp [intOf]; omega
      subst hc1
      by_cases hc2 : t ≤ xt
      case neg =>
        have g1 : decide (t ≤ xt) = false := by simpa using hc2
        have HN := hid (HNO.out (by rw [HCB.out, g1, Bool.and_false]))
        generalize hcn : cookN p r t k = cn at hle HN
        go_wp2
        go_roundw
        case rel => exact ⟨k + 1, by have := HLT.out; omega, by go_num, by rw [HN.out], HB1⟩
        case measure => have := HLT.out; simp [intOf]; omega
      have g1 : decide (t ≤ xt) = true := by simpa using hc2
      have HN := hid (HYES.out (by rw [HCB.out, g1]; rfl))
      generalize hcn : cookN p r t k = cn at hle HN
      go_wp2
      go_roundw
      case rel => exact ⟨k + 1, by have := HLT.out; omega, by go_num, by rw [HN.out]; go_num, HB1⟩
      case measure => have := HLT.out; simp [intOf]; omega
    · obtain rfl : k = n := by omega
      have hle := cookN_le p r t k
      generalize hcn : cookN p r t k = cn at hle
      go_wp2
      refine bodyPost_ret (v := .tuple #[.int .i64 (cn : Int), .int .i64 0]) (by simp [results, Tryz.results135, go_sem]) rfl ?_
      exact ⟨_, _, rfl, .inl ⟨HREC.out, rfl, by rw [← hcn]⟩, hB.out⟩
set_option maxRecDepth 20000 in
set_option maxHeartbeats 4000000 in
theorem xcook_any (u : Value) (m : Nat) (p : Nat → St) (v : Value) (n : Nat) (r : Nat → Rd) (t : Int) (w : World) (hp : RowP w u m p) (hr : RowR w v n r) :
    Calls Tryz.prog 17 #[u, v, .int .i64 t] w (CookP m p n r t w) := by
  have HK := hid (fun w1 (g : Below w.heap.size w w1) => hr.keep g)
  have HQ := hid (fun w1 (g : Below w.heap.size w w1) => (show RowP w1 u m p from RowT.keep hp g))
  have HP := hid hp
  have HR := hid hr
  have hnm := hr.most
  have hmm := RowT.most hp
  unfold maxLen at hnm hmm
  obtain ⟨pa, pc, rfl⟩ := RowT.shape hp
  obtain ⟨va, vc, rfl⟩ := hr.shape
  clear hp hr
  cases hrec : recB m p n r
  · have HREC := hid hrec
    go_enter Tryz.func17, Tryz.ntmps17
    go_wp2_with (go_at_call 47; refine (xrec_any _ _ _ _ _ _ _ HP.out HR.out).mono ?_; rintro e w1 ⟨rfl, hb⟩; rw [hrec]; have HB := hid hb; clear hb)
    refine bodyPost_ret (v := .tuple #[.int .i64 0, .int .i64 1]) (by simp [results, Tryz.results17, go_sem]) rfl ?_
    exact ⟨0, 1, rfl, .inr ⟨HREC.out, rfl, rfl⟩, HB.out⟩
  obtain ⟨hn, hm1, hm16, hst⟩ := rec_step hrec
  have HREC := hid hrec
  have HST := hid hst
  clear hst
  go_enter Tryz.func17, Tryz.ntmps17
  go_wp2_with (go_at_call 47; refine (xrec_any _ _ _ _ _ _ _ HP.out HR.out).mono ?_; rintro e w1 ⟨rfl, hb⟩; rw [hrec]; have HB := hid hb; clear hb)
  clear hrec
  go_loopw [8, 9] (fun v i wr => ∃ k : Nat, k ≤ n ∧ i = .int .i64 (k : Int) ∧ v = .int .i64 (cookN p r t k : Int) ∧ Hid (Below w.heap.size w wr)) (fun _ i _ => n - (intOf i).toNat)
  case atStart => exact ⟨0, Nat.zero_le _, rfl, rfl, HB⟩
  case round =>
    obtain ⟨k, hk, rfl, rfl, hB⟩ := hrel
    by_cases hlt : k < n
    · have hlt' : (k : Int) < n := by omega
      obtain ⟨a', b', o', cap', hv, _, _, ha', hcell⟩ := HK.out _ hB.out
      injection hv with hv1 hv2 hv3
      subst hv1 hv3
      rcases ha' with h0 | rfl
      · omega
      obtain ⟨c0, c1, c2, c3⟩ := hcell k hlt
      obtain ⟨hs0, hs1⟩ := HST.out k hlt
      have HLE := hid (cookN_le p r t k)
      have hle := HLE.out
      have HYES := hid (cookN_yes (p := p) (r := r) (t := t) (k := k))
      have HNO := hid (cookN_no (p := p) (r := r) (t := t) (k := k))
      obtain ⟨x, hX⟩ : ∃ x, x = r k := ⟨_, rfl⟩
      rw [← hX] at c0 c1 c2 c3 hs0 hs1 HYES HNO
      clear hcell hX hv2
      obtain ⟨xs, xt, xc, xb⟩ := x
      simp only at c0 c1 c2 c3 hs0 hs1
      obtain ⟨q, rfl⟩ : ∃ q : Nat, xs = q := ⟨xs.toNat, by omega⟩
      have hq : q < m := by omega
      have HB1 := hid hB.out
      obtain ⟨a2, b2, o2, cap2, hv, _, _, ha2, hcell2⟩ := HQ.out _ HB1.out
      injection hv with hv1 hv2 hv3
      subst hv1 hv3
      rcases ha2 with h0 | rfl
      · omega
      obtain ⟨d0, d1, d2⟩ := hcell2 q hq
      have HCB := hid (show cookB p t ⟨q, xt, xc, xb⟩ = (decide ((p q).k = 3) && decide (t ≤ xt)) from rfl)
      simp only at d0
      generalize (p q).k = yk at d0 HCB
      clear hcell2 hv2 d1 d2
      have HLT := hid hlt
      clear hlt
      by_cases hc1 : yk = 3
      case neg =>
        have g1 : (yk == 3) = false := by simpa using hc1
        have HN := hid (HNO.out (by rw [HCB.out, decide_eq_false hc1]; rfl))
        generalize hcn : cookN p r t k = cn at hle HN
        go_wp2
        go_roundw
        case rel => exact ⟨k + 1, by have := HLT.out; omega, by go_num, by rw [HN.out], HB1⟩
        case measure => have := HLT.out; simp [intOf]; omega
      subst hc1
      by_cases hc2 : t ≤ xt
      case neg =>
        have g1 : decide (t ≤ xt) = false := by simpa using hc2
        have HN := hid (HNO.out (by rw [HCB.out, g1, Bool.and_false]))
        generalize hcn : cookN p r t k = cn at hle HN
        go_wp2
        go_roundw
        case rel => exact ⟨k + 1, by have := HLT.out; omega, by go_num, by rw [HN.out], HB1⟩
        case measure => have := HLT.out; simp [intOf]; omega
      have g1 : decide (t ≤ xt) = true := by simpa using hc2
      have HN := hid (HYES.out (by rw [HCB.out, g1]; rfl))
      generalize hcn : cookN p r t k = cn at hle HN
      go_wp2
      go_roundw
      case rel => exact ⟨k + 1, by have := HLT.out; omega, by go_num, by rw [HN.out]; go_num, HB1⟩
      case measure => have := HLT.out; simp [intOf]; omega
    · obtain rfl : k = n := by omega
      have hle := cookN_le p r t k
      generalize hcn : cookN p r t k = cn at hle
      go_wp2
      refine bodyPost_ret (v := .tuple #[.int .i64 (cn : Int), .int .i64 0]) (by simp [results, Tryz.results17, go_sem]) rfl ?_
      exact ⟨_, _, rfl, .inl ⟨HREC.out, rfl, by rw [← hcn]⟩, hB.out⟩
end Go.Proofs.YtihbjimnjhfpeaaGreat.Rt
