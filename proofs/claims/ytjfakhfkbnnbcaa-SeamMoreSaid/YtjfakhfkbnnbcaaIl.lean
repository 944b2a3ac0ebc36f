/- Walk of the reference's sorted: contract. -/
import Derived.Test.YtjfakhfkbnnbcaaP6
import Derived.StillTailTactics
namespace Go.Proofs.Ytjfakhfkbnnbcaa
open Go.RowKit

set_option maxRecDepth 20000 in
theorem RowX.back2 {w : World} {a : Option Addr} {n cap k : Nat} {l : List Pr} (h : RowX w (.slice a n cap) l) (h1 : k ≤ n) (hp : 0 < n) :
    ∃ a', RowX w (.slice a' (n - k) (cap - k)) (l.drop k) ∧ ∀ W : World, (Instr.sliceAt 28 (.slice a n cap) (some (.int .i64 (k : Int))) none none).run Try.prog W = .ok (.slice a' (n - k) (cap - k)) W := by
  obtain ⟨a0, b, o, cap', hv, g1, g2, g3, g4⟩ := h
  injection hv with hv1 hv2 hv3
  subst hv1 hv3
  rcases g3 with h0 | rfl
  · rw [h0] at hv2; simp at hv2; omega
  have e : (l.drop k).length = n - k := by rw [List.length_drop, hv2]
  have q1 : (n : Int) ≤ (cap : Int) := by omega
  have q2 : (k : Int) ≤ (n : Int) := by omega
  by_cases q3 : cap = k
  · subst q3
    refine ⟨some ⟨b, o, none⟩, ⟨_, b, o, cap - cap, by rw [e], by rw [e]; omega, by omega, .inr rfl, fun j hj => by rw [e] at hj; omega⟩, fun W => ?_⟩
    simp [go_sem, Try.underlying28, q2]
    try omega
  · refine ⟨some ⟨b, o + k * 2, none⟩, ⟨_, b, o + k * 2, cap - k, by rw [e], by rw [e]; omega, by omega, .inr rfl, fun j hj => ?_⟩, fun W => ?_⟩
    · rw [e] at hj
      have g := g4 (k + j) (by omega)
      rw [show o + k * 2 + j * 2 = o + (k + j) * 2 by omega, List.getElem_drop]
      exact g
    · simp [go_sem, Try.underlying28, q2, q3, Try.sizeOf68]
      try omega
set_option maxRecDepth 20000 in
theorem RowX.beg2 {w : World} {a : Option Addr} {n cap k : Nat} {l : List Pr} (h : RowX w (.slice a n cap) l) (h1 : k ≤ n) (hp : 0 < n) :
    RowX w (.slice a k cap) (l.take k) ∧ ∀ W : World, (Instr.sliceAt 28 (.slice a n cap) none (some (.int .i64 (k : Int))) none).run Try.prog W = .ok (.slice a k cap) W := by
  refine ⟨h.beg h1, fun W => ?_⟩
  obtain ⟨a0, b, o, cap', hv, g1, g2, g3, g4⟩ := h
  injection hv with hv1 hv2 hv3
  subst hv1 hv3
  rcases g3 with h0 | rfl
  · rw [h0] at hv2; simp at hv2; omega
  have q1 : (k : Int) ≤ (cap : Int) := by omega
  have q3 : ¬ cap = 0 := by omega
  simp [go_sem, Try.underlying28, q1, q3, Try.sizeOf68]
theorem bstep3 {w W w' : World} (hb : Below W.heap.size W w') (h : Hid (Below w.heap.size w W)) : Below w.heap.size w w' := bstep h.out h.out.size hb
def lenV : Value → Nat
  | .slice _ n _ => n
  | _ => 0
theorem own_two {w : World} {base E : Nat} {v : Value} {lo la lb : List Pr} (h : w.ownsRow base E 2 v (lo.length + la.length + lb.length) (pvs lo ++ pvs la ++ pvs lb)) : OwnX w base E v (lo ++ la ++ lb) := by
  unfold OwnX
  rw [List.length_append, List.length_append, pvs_app, pvs_app]
  exact h
/-- What sorted answers. -/
def SrtQ (l : List Pr) (w : World) (e : Ending) (w' : World) : Prop := ∃ u ss, e = .returned u ∧ ss.Perm l ∧ Asc ss ∧ RowX w' u ss ∧ Below w.heap.size w w'
set_option maxRecDepth 20000 in
set_option maxHeartbeats 8000000 in
theorem sorted_step (N : Nat) (IH : ∀ (v : Value) (l : List Pr) (w : World), RowX w v l → l.length < N → l.length ≤ 100000 → Calls Try.prog 61 #[v] w (SrtQ l w)) (v : Value) (l : List Pr) (w : World) (hr : RowX w v l) (hN : l.length = N) (hf : l.length ≤ 100000) : Calls Try.prog 61 #[v] w (SrtQ l w) := by
  obtain ⟨i0, hi, hz0, hz1, hz2⟩ := infoX_parts
  have HR := hid hr
  obtain ⟨va, vc, rfl⟩ := hr.shape
  by_cases h2 : l.length < 2
  · have HA := hid (asc_few h2)
    have h2' : (l.length : Int) < 2 := by omega
    clear hr IH h2
    go_enter Try.func61, Try.ntmps61
    go_wp2
    go_ret
    exact ⟨_, l, rfl, List.Perm.refl _, HA.out, HR.out, Below.refl _ _⟩
  obtain ⟨n, hn⟩ : ∃ n, n = l.length := ⟨_, rfl⟩
  have h2' : ¬ (n : Int) < 2 := by omega
  obtain ⟨h, hh⟩ : ∃ h : Nat, h = n / 2 := ⟨_, rfl⟩
  rw [← hn] at hr
  obtain ⟨hA, hS1⟩ := hr.beg2 (k := h) (by omega) (by omega)
  obtain ⟨a2, hB, hS2⟩ := hr.back2 (k := h) (by omega) (by omega)
  obtain ⟨n2, hn2⟩ : ∃ n2, n2 = n - h := ⟨_, rfl⟩
  obtain ⟨c2, hc2⟩ : ∃ c2, c2 = vc - h := ⟨_, rfl⟩
  rw [← hn2, ← hc2] at hB hS2
  have hvc : n ≤ vc := by
    obtain ⟨_, _, _, _, hv, q1, _⟩ := hr
    injection hv with e1 e2 e3
    omega
  have hq : (n : Int) / 2 = (h : Int) := by omega
  have hqt : Int.tdiv (n : Int) 2 = (h : Int) := by rw [Int.tdiv_eq_ediv_of_nonneg (by omega)]; omega
  have hqw : IntKind.i64.wrap (h : Int) = (h : Int) := IntWalk.i64_in _ ⟨by omega, by omega⟩
  have HI : Hid (∀ (X : Value) (W : World), Below w.heap.size w W → (X = .slice va h vc ∨ X = .slice a2 n2 c2) → Calls Try.prog 61 #[X] W fun e w' => ∃ u ss, e = .returned u ∧ ((X = .slice va h vc → ss.Perm (l.take h)) ∧ (X = .slice a2 n2 c2 → ss.Perm (l.drop h))) ∧ Asc ss ∧ RowX w' u ss ∧ Below W.heap.size W w') := by
    rintro X W g (rfl | rfl)
    · refine (IH _ _ W (hA.keep g) (by rw [List.length_take]; omega) (by rw [List.length_take]; omega)).mono ?_
      rintro e w' ⟨u, ss, h1, h3, h4, h5, h6⟩
      refine ⟨u, ss, h1, ⟨fun _ => h3, fun q => ?_⟩, h4, h5, h6⟩
      injection q with q1 q2 q3
      omega
    · refine (IH _ _ W (hB.keep g) (by rw [List.length_drop]; omega) (by rw [List.length_drop]; omega)).mono ?_
      rintro e w' ⟨u, ss, h1, h3, h4, h5, h6⟩
      refine ⟨u, ss, h1, ⟨fun q => ?_, fun _ => h3⟩, h4, h5, h6⟩
      injection q with q1 q2 q3
      omega
  have HP := hid (List.take_append_drop h l)
  have HF := hid hf
  have HN := hid hn
  have hf' : n ≤ 100000 := by omega
  rw [← hn]
  clear hA hB hr IH hN h2 hn2 hc2 hf hn hh hvc
  go_enter Try.func61, Try.ntmps61
  go_wp2
  go_region_held3 (fun w' => Hid (Below w.heap.size w w')) (first | exact hid ((Below.refl _ _).drew) | assumption)
    ((go_at_call 61; refine Calls.mono (HI.out _ _ (Hid.out (by assumption)) (by first | exact .inl rfl | exact .inr rfl)) ?_; rintro e wk ⟨u, ss, rfl, hp, ha, hr, hb⟩; (try have HRA := hid (HRA.out.keep hb)); (first | (have HPA := hid (hp.1 rfl); have HAA := hid ha; have HRA := hid hr) | (have HPB := hid (hp.2 rfl); have HAB := hid ha; have HRB := hid hr)); have HDD := hid (bstep3 (w := w) hb (by assumption)); clear hp ha hr hb))
  have HPM := hid (show _ from (HPA.out.append HPB.out).trans (by rw [HP.out]))
  go_wp2
  go_loopw [3, 4, 5] (fun a b o wr => ∃ LA LB lo sa sb, Hid (OwnX wr wk.heap.size 68 o lo) ∧ Hid (Mg lo LA LB sa sb) ∧ Hid (Asc LA) ∧ Hid (Asc LB) ∧ Hid ((sa ++ sb).Perm l) ∧ Hid (RowX wk a LA ∧ RowX wk b LB) ∧ Hid (Below wk.heap.size wk wr)) (fun a b _ _ => lenV a + lenV b)
  case atStart => exact ⟨_, _, [], _, _, ownX_nil _ _ _, mg_start _ _, HAA, HAB, HPM, ⟨HRA.out, HRB.out⟩, Below.refl _ _⟩
  case round =>
    clear HPM HRA HRB HPA HPB HAA HAB
    obtain ⟨LA, LB, lo, sa, sb, HO, HM, HAa, HAb, HPM, hR, HBZ⟩ := hrel
    have HWA := hid hR.out.1
    have HWB := hid hR.out.2
    obtain ⟨aa, ca, rfl⟩ := hR.out.1.shape
    obtain ⟨ab, cb, rfl⟩ := hR.out.2.shape
    clear hR
    obtain ⟨ox, oc, rfl⟩ := ownX_shape HO.out
    have HO : Hid (wr.ownsRow wk.heap.size 68 2 (.slice ox lo.length oc) lo.length (pvs lo)) := HO
    have HLN : Hid (lo.length + (LA.length + LB.length) = l.length) := by
      have h1 := HM.out.perm.length_eq
      have h3 := HPM.out.length_eq
      simp only [List.length_append] at h1 h3
      show _ = _
      omega
    obtain ⟨p, hp⟩ : ∃ p, p = LA.length := ⟨_, rfl⟩
    obtain ⟨q, hq1⟩ : ∃ q, q = LB.length := ⟨_, rfl⟩
    rw [← hp] at HWA
    rw [← hq1] at HWB
    rw [← hp, ← hq1]
    have HRA := hid (fun W (g : Below wk.heap.size wk W) => HWA.out.keep g)
    have HRB := hid (fun W (g : Below wk.heap.size wk W) => HWB.out.keep g)
    by_cases hz : p = 0 ∨ q = 0
    · have HE := hid (mg_end HM.out HAa.out HAb.out (hz.imp (fun h => List.length_eq_zero_iff.1 (by omega)) (fun h => List.length_eq_zero_iff.1 (by omega))))
      have HS1 := hid ((HRA.out _ HBZ.out).src)
      rcases (show p = 0 ∨ (0 < p ∧ q = 0) by omega) with h0 | ⟨h0, h1⟩
      · have e0 : ¬ (0 : Int) < (p : Int) := by omega
        clear hz h0 hp hq1
        go_wp2_with (at_builtin; first
          | (refine wpList_appX rfl _ _ 28 rfl wk.heap.size 68 i0 (.agg #[.int .i64 0, .int .i64 0]) Try.underlying28 hi hz0 hz1 hz2 rfl _ _ _ rfl HO.out _ LA rfl HS1.out (by have := HLN.out; have := HF.out; omega) HBZ.out.size ?_
             intro v1 w3 hown3 hgrow3
             obtain ⟨xa, xc, hsh⟩ := own_shape2 hown3
             subst hsh
             have HB3 := hid (HBZ.out.grown hgrow3 HBZ.out.size (fun k hk => (World.ownsRow.lt HO.out k hk).1))
             have HO3 := hid hown3
             have HS2 := hid ((HRB.out _ HB3.out).src)
             clear hown3 hgrow3)
          | (refine wpList_appX rfl _ _ 28 rfl wk.heap.size 68 i0 (.agg #[.int .i64 0, .int .i64 0]) Try.underlying28 hi hz0 hz1 hz2 rfl _ _ _ rfl HO3.out _ LB rfl HS2.out (by have := HLN.out; have := HF.out; omega) HB3.out.size ?_
             intro v2 w4 hown4 hgrow4
             have HB4 := hid (HB3.out.grown hgrow4 HB3.out.size (fun k hk => (World.ownsRow.lt HO3.out k hk).1))
             have HO4 := hid (own_two hown4)
             clear hown4 hgrow4))
        go_ret
        exact ⟨_, _, rfl, HE.out.1.trans HPM.out, HE.out.2, HO4.out.row, bstep HDD.out HDD.out.size HB4.out⟩
      · have e0 : (0 : Int) < (p : Int) := by omega
        have e1 : ¬ (0 : Int) < (q : Int) := by omega
        clear hz h0 h1 hp hq1
        go_wp2_with (at_builtin; first
          | (refine wpList_appX rfl _ _ 28 rfl wk.heap.size 68 i0 (.agg #[.int .i64 0, .int .i64 0]) Try.underlying28 hi hz0 hz1 hz2 rfl _ _ _ rfl HO.out _ LA rfl HS1.out (by have := HLN.out; have := HF.out; omega) HBZ.out.size ?_
             intro v1 w3 hown3 hgrow3
             obtain ⟨xa, xc, hsh⟩ := own_shape2 hown3
             subst hsh
             have HB3 := hid (HBZ.out.grown hgrow3 HBZ.out.size (fun k hk => (World.ownsRow.lt HO.out k hk).1))
             have HO3 := hid hown3
             have HS2 := hid ((HRB.out _ HB3.out).src)
             clear hown3 hgrow3)
          | (refine wpList_appX rfl _ _ 28 rfl wk.heap.size 68 i0 (.agg #[.int .i64 0, .int .i64 0]) Try.underlying28 hi hz0 hz1 hz2 rfl _ _ _ rfl HO3.out _ LB rfl HS2.out (by have := HLN.out; have := HF.out; omega) HB3.out.size ?_
             intro v2 w4 hown4 hgrow4
             have HB4 := hid (HB3.out.grown hgrow4 HB3.out.size (fun k hk => (World.ownsRow.lt HO3.out k hk).1))
             have HO4 := hid (own_two hown4)
             clear hown4 hgrow4))
        go_ret
        exact ⟨_, _, rfl, HE.out.1.trans HPM.out, HE.out.2, HO4.out.row, bstep HDD.out HDD.out.size HB4.out⟩
    · have e0 : (0 : Int) < (p : Int) := by omega
      have e1 : (0 : Int) < (q : Int) := by omega
      have HPQ := hid (show 0 < p ∧ 0 < q by omega)
      rcases LA with _ | ⟨⟨xa, ya⟩, la⟩
      · simp at hp; omega
      rcases LB with _ | ⟨⟨xb, yb⟩, lb⟩
      · simp at hq1; omega
      obtain ⟨a', hBA, hSA⟩ := HWA.out.back2 (k := 1) (by omega) (by omega)
      obtain ⟨b', hBB, hSB⟩ := HWB.out.back2 (k := 1) (by omega) (by omega)
      have HBA := hid hBA
      have HBB := hid hBB
      simp only [List.drop_succ_cons, List.drop_zero] at HBA HBB
      have hSA : ∀ W : World, (Instr.sliceAt 28 (.slice aa p ca) (some (.int .i64 1)) none none).run Try.prog W = .ok (.slice a' (p - 1) (ca - 1)) W := hSA
      have hSB : ∀ W : World, (Instr.sliceAt 28 (.slice ab q cb) (some (.int .i64 1)) none none).run Try.prog W = .ok (.slice b' (q - 1) (cb - 1)) W := hSB
      clear hBA hBB
      obtain ⟨b1, o1, hva, c0, c1⟩ := (HRA.out _ HBZ.out).get (k := 0) (by simp)
      obtain ⟨b2, o2, hvb, d0, d1⟩ := (HRB.out _ HBZ.out).get (k := 0) (by simp)
      subst hva hvb
      simp only [Nat.zero_mul, Nat.add_zero, List.getElem_cons_zero] at c0 c1 d0 d1
      clear hz hp
      by_cases hx : xb < xa
      · have HMG := hid (mg_b HM.out HAb.out (asc_first HAa.out (p := ⟨xb, yb⟩) (by show xb ≤ xa; omega)))
        have HHQ := hid hq1
        clear hq1
        go_wp2
        go_quiet (fail)
        have HBQ := hid (bdrewN (n := nq) HBZ.out)
        have HOQ := hid (show (World.drewN wr nq).ownsRow wk.heap.size 68 2 (.slice ox lo.length oc) lo.length (pvs lo) from HO.out)
        go_wp2_with (at_builtin; refine wpList_append_own _ rfl _ _ 28 rfl wk.heap.size 68 i0 (.agg #[.int .i64 0, .int .i64 0]) 2 16 Try.underlying28 hi hz0 hz1 hz2 rfl (by decide) _ _ _ rfl (World.ownsRow.alloc HOQ.out _) ⟨wr.heap.size, 0, none⟩ 1 1 [.int .i64 xb, .int .i64 yb] rfl rfl (cell_two_new (by simp)) two_cell1 (by have := HLN.out; have := HF.out; unfold maxLen; omega) (by have := HLN.out; have := HF.out; omega) (by have := HBQ.out.size; simp at this ⊢; omega) ?_; intro v1 w3 hown3 hgrow3 _; have HB3 := hid (below_prs HBQ.out (show OwnX _ _ _ _ lo from HOQ.out) (Nat.le_refl _) hgrow3); have HR3 := hid (OwnX.app (l := lo) (d := ⟨xb, yb⟩) hown3); clear hown3 hgrow3)
        go_roundw
        case rel => exact ⟨⟨xa, ya⟩ :: la, lb, lo ++ [⟨xb, yb⟩], sa, sb, HR3, HMG, HAa, hid (asc_drop HAb.out), HPM, ⟨HWA.out, HBB.out⟩, HB3⟩
        case measure => have := HPQ.out; simp [lenV]; omega
      · have hx' : xa ≤ xb := by omega
        have HMG := hid (mg_a HM.out HAa.out (asc_first HAb.out (p := ⟨xa, ya⟩) (by show xa ≤ xb; omega)))
        have HHQ := hid hq1
        clear hq1
        go_wp2
        go_quiet (fail)
        have HBQ := hid (bdrewN (n := nq) HBZ.out)
        have HOQ := hid (show (World.drewN wr nq).ownsRow wk.heap.size 68 2 (.slice ox lo.length oc) lo.length (pvs lo) from HO.out)
        go_wp2_with (at_builtin; refine wpList_append_own _ rfl _ _ 28 rfl wk.heap.size 68 i0 (.agg #[.int .i64 0, .int .i64 0]) 2 16 Try.underlying28 hi hz0 hz1 hz2 rfl (by decide) _ _ _ rfl (World.ownsRow.alloc HOQ.out _) ⟨wr.heap.size, 0, none⟩ 1 1 [.int .i64 xa, .int .i64 ya] rfl rfl (cell_two_new (by simp)) two_cell1 (by have := HLN.out; have := HF.out; unfold maxLen; omega) (by have := HLN.out; have := HF.out; omega) (by have := HBQ.out.size; simp at this ⊢; omega) ?_; intro v1 w3 hown3 hgrow3 _; have HB3 := hid (below_prs HBQ.out (show OwnX _ _ _ _ lo from HOQ.out) (Nat.le_refl _) hgrow3); have HR3 := hid (OwnX.app (l := lo) (d := ⟨xa, ya⟩) hown3); clear hown3 hgrow3)
        go_roundw
        case rel => exact ⟨la, ⟨xb, yb⟩ :: lb, lo ++ [⟨xa, ya⟩], sa, sb, HR3, HMG, hid (asc_drop HAa.out), HAb, HPM, ⟨HBA.out, HWB.out⟩, HB3⟩
        case measure => have := HPQ.out; simp [lenV]; omega
end Go.Proofs.Ytjfakhfkbnnbcaa
