/- Walk of TopMisread: contract. -/
import Derived.Test.YtmhkgpcnefcjaaaDoorAt
namespace Go.Proofs.YtmhkgpcnefcjaaaDoor
open Go.RowKit

theorem c5_low {W wx : World} {b : Nat} {x : Stp} (h : C5 W wx b x) : Below W.heap.size W wx := h.2
set_option maxRecDepth 100000 in
set_option maxHeartbeats 8000000 in
/-- The last part: behind the misread signs. -/
theorem tmis_walk (v : Value) (l : List Stp) (wh : Int) (va : Value) (la : List Int) (vb : Value) (lb : List Int) (w : World) (hr : RowU w v l) (ha : RowB w va la) (hb : RowB w vb lb) (hw : Wts w) :
    Calls Tryd.prog 6 #[v, .int .i64 wh, va, vb] w fun e w' => e = .returned (.bool true) ∧ Below w.heap.size w w' := by
  have HW := hid hw
  have HR := hid (fun w1 (g : Below w.heap.size w w1) => hr.keep g)
  have HA := hid (fun w1 (g : Below w.heap.size w w1) => ha.keep g)
  have HB0 := hid (fun w1 (g : Below w.heap.size w w1) => hb.keep g)
  have HAW := hid (fun w1 (g : Below w.heap.size w w1) => awake6t_any w1 (hw.keep g))
  have hm1 := hr.most
  have hm2 := ha.most
  have hm3 := hb.most
  unfold maxLen at hm1 hm2 hm3
  obtain ⟨xa, xc, rfl⟩ := hr.shape
  obtain ⟨ya, yc, rfl⟩ := ha.shape
  obtain ⟨za, zc, rfl⟩ := hb.shape
  obtain ⟨n, hn⟩ : ∃ n, n = l.length := ⟨_, rfl⟩
  obtain ⟨p, hp⟩ : ∃ n, n = la.length := ⟨_, rfl⟩
  obtain ⟨r, hrr⟩ : ∃ n, n = lb.length := ⟨_, rfl⟩
  have HN := hid hn
  have HP := hid hp
  have HRL := hid hrr
  rw [← hn] at hm1 HR ⊢
  rw [← hp] at hm2 HA ⊢
  rw [← hrr] at hm3 HB0 ⊢
  clear hr ha hb hw hn hp hrr
  by_cases hn30 : n ≤ 30
  case neg =>
    have hg : (30 : Int) < (n : Int) := by omega
    clear hn30
    go_enter Tryd.func6, Tryd.ntmps6
    go_wp2_with fail
    refine (HAW.out _ (Below.refl _ _)).mono ?_
    rintro e w1 ⟨rfl, hb⟩
    have HB1 := hid hb
    clear hb
    go_wp2_with fail
    go_ret
    exact ⟨rfl, HB1.out⟩
  have hg30 : ¬ (30 : Int) < (n : Int) := by omega
  by_cases hp9 : p ≤ 9
  case neg =>
    have hg : (9 : Int) < (p : Int) := by omega
    clear hn30 hp9
    go_enter Tryd.func6, Tryd.ntmps6
    go_wp2_with fail
    refine (HAW.out _ (Below.refl _ _)).mono ?_
    rintro e w1 ⟨rfl, hb⟩
    have HB1 := hid hb
    clear hb
    go_wp2_with fail
    go_ret
    exact ⟨rfl, HB1.out⟩
  have hg9 : ¬ (9 : Int) < (p : Int) := by omega
  obtain ⟨j0, hj, hy0, hy1, hy2⟩ := infoT
  obtain ⟨f, hf⟩ := code_ex
  have HF := hid hf
  obtain ⟨cs, hcs⟩ : ∃ cs, cs = l.map f := ⟨_, rfl⟩
  have HCL := hid (show cs.length = n by rw [hcs, List.length_map, HN.out])
  have HCA := hid (fun j (h1 : j < cs.length) (h2 : j < l.length) => show cs[j] = f l[j] by subst hcs; simp)
  have HN30 := hid hn30
  clear hcs hf
  go_enter Tryd.func6, Tryd.ntmps6
  go_wp2_with fail
  go_loopw [9, 10] (fun u t wr => ∃ k : Nat, k ≤ n ∧ t = .int .i64 (k : Int) ∧ Hid (OwnT wr w.heap.size u (cs.take k)) ∧ Hid (∀ j (hj : j < l.length), j < k → l[j].ok = true) ∧ Hid (Below w.heap.size w wr)) (fun _ t _ => n - (intOf t).toNat)
  case atStart => exact ⟨0, Nat.zero_le _, rfl, by rw [List.take_zero]; exact ownT_nil _ _, fun j _ h => absurd h (Nat.not_lt_zero j), Below.refl _ _⟩
  case round =>
    obtain ⟨k, hk, rfl, hO, hok, hB⟩ := hrel
    obtain ⟨ta, tc, hta⟩ := ownT_shape hO.out
    subst hta
    by_cases hlt : k < n
    · have hlt' : (k : Int) < n := by omega
      have hkl : k < l.length := by rw [← HN.out]; exact hlt
      have hkc : k < cs.length := by rw [HCL.out]; exact hlt
      obtain ⟨a', b', o', cap', hv, ha', _, hcell⟩ := HR.out _ hB.out
      injection hv with hv1 hv2 hv3
      subst hv1 hv3
      rcases ha' with h0 | rfl
      · rw [h0] at hkl; simp at hkl
      obtain ⟨c0, c1, c2, c3, c4⟩ := hcell k hkl
      have HST := hid (fun h => okU_step hkl h hok.out)
      have HCK := hid (HCA.out k hkc hkl)
      have HTK := hid (List.take_succ_eq_append_getElem hkc)
      have HLN := hid (show (cs.take k).length = k by rw [List.length_take]; omega)
      have HLT := hid hlt
      clear hcell hv2 hlt
      generalize cs[k]'hkc = c at *
      generalize l[k]'hkl = x at *
      generalize cs.take k = L0 at *
      cases hx : x.ok
      · have HC := hid (fun W => cprint_bad x.pl x.pr x.ln x.dy x.pe W hx)
        clear hx
        go_wp2_with fail
        refine (HC.out _).mono ?_
        rintro e w2 ⟨rfl, hb⟩
        have HB2 := hid (bstep hB.out hB.out.size hb)
        clear hb
        go_wp2_with fail
        refine (HAW.out _ HB2.out).mono ?_
        rintro e w3 ⟨rfl, hb⟩
        have HB3 := hid (bstep HB2.out HB2.out.size hb)
        clear hb
        go_wp2_with fail
        go_ret
        exact ⟨rfl, HB3.out⟩
      · have HS := hid (HST.out hx)
        have HC := hid (fun W g => cprint_f HF.out x W hx g)
        rw [← HCK.out] at HC
        clear hx
        go_wp2_with fail
        refine (HC.out _ (HW.out.keep hB.out)).mono ?_
        rintro e w2 ⟨rfl, hb⟩
        have HB2 := hid (bstep hB.out hB.out.size hb)
        have HO2 := hid (hO.out.keep hb)
        clear hb c0 c1 c2 c3 c4
        go_wp2_with (at_builtin; refine wpList_append_own _ rfl _ _ 26 rfl w.heap.size 9 j0 (.string ⟨#[]⟩) 1 16 Tryd.underlying26 hj hy0 hy1 hy2 rfl (by decide) _ _ _ rfl (World.ownsRow.alloc HO2.out _) ⟨w2.heap.size, 0, none⟩ 1 1 [.string c] rfl rfl (cellJ rfl) oneT (by have := HLN.out; unfold maxLen; omega) (by have := HLN.out; omega) (by have := HB2.out.size; simp; omega) ?_; intro v1 w3 hown3 hgrow3 _; have HB3 := hid (belowT HB2.out HO2.out (Nat.le_refl _) hgrow3); have HR3 := hid (OwnT.app hown3); clear hown3 hgrow3)
        go_roundw
        case rel => exact ⟨k + 1, HLT.out, by go_num, by rw [HTK.out]; exact HR3, HS, HB3⟩
        case measure => have := HLT.out; simp [intOf]; omega
    · obtain rfl : k = n := by omega
      have HOKK := hid (fun j (hj : j < l.length) => hok.out j hj (by rw [HN.out]; exact hj))
      have HTL : cs.take k = cs := List.take_of_length_le (by rw [HCL.out]; exact Nat.le_refl _)
      rw [HTL] at hO ⊢
      rw [HCL.out]
      clear hok hlt hk HTL
      have HRS0 := hid hO.out.rowS
      rw [HCL.out] at HRS0
      have HRS := hid (fun w1 (g : Below wr.heap.size wr w1) => HRS0.out.keep g)
      by_cases hw0 : 0 ≤ wh
      case neg =>
        have hneg : wh < 0 := by omega
        go_wp2_with fail
        refine (HAW.out _ hB.out).mono ?_
        rintro e w3 ⟨rfl, hb⟩
        have HB3 := hid (bstep hB.out hB.out.size hb)
        clear hb
        go_wp2_with fail
        go_ret
        exact ⟨rfl, HB3.out⟩
      obtain ⟨q, rfl⟩ : ∃ q : Nat, wh = (q : Int) := ⟨wh.toNat, by omega⟩
      have hneg : ¬ (q : Int) < 0 := by omega
      by_cases hqk : q < k
      case neg =>
        have hge : (k : Int) ≤ (q : Int) := by omega
        go_wp2_with fail
        refine (HAW.out _ hB.out).mono ?_
        rintro e w3 ⟨rfl, hb⟩
        have HB3 := hid (bstep hB.out hB.out.size hb)
        clear hb
        go_wp2_with fail
        go_ret
        exact ⟨rfl, HB3.out⟩
      have hge : ¬ (k : Int) ≤ (q : Int) := by omega
      have hqi : (q : Int) < k := by omega
      have hql : q < l.length := by rw [← HN.out]; exact hqk
      have hqc : q < cs.length := by rw [HCL.out]; exact hqk
      have HQC := hid hqc
      have HOKQ := hid (HOKK.out q hql)
      have HCQ := hid (HCA.out q hqc hql)
      have HALL := hid (show cs.all nineB = true by
        refine List.all_eq_true.2 fun y hy => ?_
        obtain ⟨j, hj1, rfl⟩ := List.getElem_of_mem hy
        have hj2 : j < l.length := by rw [← HN.out, ← HCL.out]; exact hj1
        rw [HCA.out j hj1 hj2]
        exact (code_nine (HOKK.out j hj2) (HF.out _ (HOKK.out j hj2))).1)
      obtain ⟨c, hc⟩ : ∃ c, cs[q]'hqc = c := ⟨_, rfl⟩
      have HCC := hid hc
      obtain ⟨x, hx⟩ : ∃ x, l[q]'hql = x := ⟨_, rfl⟩
      have HXX := hid hx
      rw [hc, hx] at HCQ
      rw [hx] at HOKQ
      have HIC := hid (HF.out x HOKQ.out)
      rw [← HCQ.out] at HIC
      have H9C := hid (code_nine HOKQ.out HIC.out)
      have h9 : c.size = 9 := H9C.out.2.2.2
      obtain ⟨tb0, tb, tf, tcc, hv, hta, _, hcc⟩ := HRS0.out
      injection hv with hv1 hv2 hv3
      subst hv1 hv3
      rcases hta with h0 | rfl
      · rw [h0] at hqc; simp at hqc
      have kc := hcc q hqc
      rw [hc] at kc
      have HKC := hid (fun w1 (g : Below wr.heap.size wr w1) => keep_cell g kc)
      have hne9 : ((c.size : Int) != 9) = false := by rw [h9]; rfl
      clear hc hx hcc hv2 hO HRS0
      go_wp2_with fail
      have HD0 := hid (show dist9 (vals c) (vals c) ≤ ((0 : Nat) : Int) by rw [dist9_self]; exact Int.le_refl _)
      obtain ⟨wz, hwz⟩ : ∃ wz, wz = wr := ⟨_, rfl⟩
      have HBZ := hid hB.out
      rw [← hwz] at HBZ HKC HRS
      have HWZ := hid hwz
      go_loopw [13, 14] (fun s t wr => ∃ (i : Nat) (S : ByteArray), i ≤ p ∧ i ≤ r ∧ s = .string S ∧ t = .int .i64 (i : Int) ∧ Hid (nineB S = true) ∧ Hid (dist9 (vals S) (vals c) ≤ (i : Int)) ∧ Hid (Below wz.heap.size wz wr)) (fun _ t _ => p - (intOf t).toNat)
      case atStart => exact ⟨0, c, Nat.zero_le _, Nat.zero_le _, rfl, rfl, H9C.out.1, HD0, by rw [← HWZ.out]; exact Below.refl _ _⟩
      case round =>
        clear hB kc hwz HWZ
        obtain ⟨i, S, hip, hir, rfl, rfl, HS9, HSD, hZ⟩ := hrel
        have HBW := hid (bstep HBZ.out HBZ.out.size hZ.out)
        by_cases hlt : i < p ∧ i < r
        · obtain ⟨hlt1, hlt2⟩ := hlt
          have hl1 : (i : Int) < p := by omega
          have hl2 : (i : Int) < r := by omega
          have hia : i < la.length := by rw [← HP.out]; exact hlt1
          have hib : i < lb.length := by rw [← HRL.out]; exact hlt2
          obtain ⟨a1, b1, o1, e1, hv, ha1, _, hc1⟩ := HA.out _ HBW.out
          injection hv with hv1 hv2 hv3
          subst hv1 hv3
          rcases ha1 with h0 | rfl
          · rw [h0] at hia; simp at hia
          obtain ⟨k1, g1, g2⟩ := hc1 i hia
          clear hv2 hc1
          obtain ⟨a2, b2, o2, e2, hv, ha2, _, hc2⟩ := HB0.out _ HBW.out
          injection hv with hv1 hv2 hv3
          subst hv1 hv3
          rcases ha2 with h0 | rfl
          · rw [h0] at hib; simp at hib
          obtain ⟨k2, g3, g4⟩ := hc2 i hib
          clear hv2 hc2
          have HLT1 := hid hlt1
          have HLT2 := hid hlt2
          generalize la[i]'hia = A at *
          generalize lb[i]'hib = B at *
          clear hia hib hlt1 hlt2
          have t1 : A.tmod 9 = A % 9 := Int.tmod_eq_emod_of_nonneg g1
          have t2 : B.tmod 31 = B % 31 := Int.tmod_eq_emod_of_nonneg g3
          have wA : IntKind.i64.wrap A = A := IntWalk.i64_in _ ⟨by omega, by omega⟩
          have wB : IntKind.i64.wrap B = B := IntWalk.i64_in _ ⟨by omega, by omega⟩
          have HSTEP := hid (setS_step (a := A % 9) (b := B % 31) HS9.out HSD.out (by omega) ⟨by omega, by omega⟩)
          have HSZ := hid (nineB_iff.1 HS9.out).1
          have HCH := hid (fun W => xchanged_i S (A % 9).toNat (sgn (B % 31)) (A % 9) (.int .u8 ((sgn (B % 31)).toNat : Int)) W (by rw [HSZ.out]; omega) (by omega) rfl)
          generalize setS S (A % 9).toNat (sgn (B % 31)) = S2 at *
          have hx1 := fun p : LowBy wr => low_cell k1 p
          have hx2 := fun p : LowBy wr => low_cell k2 p
          have hsg := fun p : LowBy wr => low_of_same ((xsign_any (B % 31) p.W).mono fun e w' h => (⟨h.1, h.2.symm⟩ : _ ∧ p.W = w'))
          have hch := fun p : LowBy wr => low_of (HCH.out p.W)
          go_wp2_with fail
          refine wp_region_low (by kernel_rfl) (by kernel_rfl) (fun R hR => ?_)
          repeat (refine low_step (by assumption) ?_; intro R hR K hK; go_simp; first | (refine hK _ ?_; clear hK K) | (apply Exists.intro; refine ⟨fun _ => ?_, hK _ ?_⟩; (first | (go_at_call 29; exact hsg _) | (go_at_call 28; exact hch _)); clear hK K))
          refine low_nil (by assumption) ?_; intro _ hw'; obtain ⟨⟨wq, hlow⟩, hw''⟩ := hw'; subst hw''; have HLOW := hid hlow; clear hlow; (try simp only)
          have HZ2 := hid (bstep hZ.out hZ.out.size HLOW.out)
          go_wp2_with fail
          go_roundw
          case rel => exact ⟨i + 1, S2, HLT1.out, HLT2.out, rfl, by go_num, HSTEP.out.1, HSTEP.out.2, HZ2⟩
          case measure => have := HLT1.out; simp [intOf]; omega
        · have HPD := hid (show dist9 (vals S) (vals c) ≤ (p : Int) by have := HSD.out; omega)
          obtain ⟨L, d, e0, hN⟩ := nr_ex S cs
          obtain ⟨D, hD⟩ : ∃ D, dist9 (vals S) (vals c) = D := ⟨_, rfl⟩
          obtain ⟨hM, rfl⟩ := mis_of HQC.out HCC.out HALL.out H9C.out.2.2.1 (by rw [HCL.out]; exact HN30.out) HS9.out HPD.out hN
          have hDO := dst_ok HS9.out H9C.out.1
          rw [hD] at hM hDO
          have HM := hid hM
          have HNR := hid (fun w1 (g : Below wz.heap.size wz w1) => cnear_any S _ cs L d 0 w1 (HRS.out _ g) hN)
          have HDS := hid (fun w1 => cdst_any S c w1)
          unfold DstP at HDS
          rw [hDO.1, hDO.2] at HDS
          have HDB := hid (fun w1 (g : Below wz.heap.size wz w1) => cdoubt_any S _ cs D w1 (HRS.out _ g))
          have HON := hid (fun w1 (g : Below wz.heap.size wz w1) => conly_any S _ cs D w1 (HRS.out _ g))
          rw [hM.c0, hM.db] at HDB HON
          have hU1 := hM.only
          have hU2 := hM.inn
          generalize upQ D (dsL S cs) = U at hU1 hU2 HDB HON
          obtain ⟨iO, hiO⟩ : ∃ z, onI U 0 = z := ⟨_, rfl⟩
          obtain ⟨bO, hbO⟩ : ∃ z, onB U 0 = z := ⟨_, rfl⟩
          rw [hiO, hbO] at HON hU1
          have HOI := hid hU1
          have HUI := hid hU2
          clear hU1 hU2 hiO hbO
          have hDp : ¬ (p : Int) < D := by have := hM.dp; omega
          have hdD : ¬ D < d := by have := hM.le; omega
          have k1 := HKC.out _ hZ.out
          have HI5 := hid (show (Wts wz) from HW.out.keep HBZ.out)
          have hstop : ∀ K : Prop, K → K := fun _ h => h
          have hfin : (¬ (i : Int) < p) ∨ ((i : Int) < p ∧ ¬ (i : Int) < r) := by omega
          have HEQ := hid (fun (h : d = D) => HM.out.near h)
          have HONE := hid HM.out.one
          clear hM hN hDO hstop hD
          go_upto_region 15 with fail
          go_cut [86] from 77 to 103 (fun s86 wx => s86 = .bool false ∧ wx = wr)
          case first =>
            rcases hfin with hf1 | ⟨hf1, hf2⟩
            all_goals
              go_wp2_with fail
              go_meet
              exact ⟨rfl, rfl⟩
          case rest =>
            obtain ⟨rfl, rfl⟩ := hcut
            go_wp2_with fail
            refine (HDS.out _).mono ?_
            rintro e w1 ⟨rfl, hb⟩
            have HZ1 := hid (bstep hZ.out hZ.out.size hb)
            clear hb k1
            go_wp2_with fail
            refine (HDB.out _ HZ1.out).mono ?_
            rintro e w2 ⟨u1, rfl, hu1, hb⟩
            obtain ⟨ua1, uc1, rfl⟩ := hu1.shape
            have HZ2 := hid (bstep HZ1.out HZ1.out.size hb)
            have HU1 := hid hu1
            clear hb hu1
            go_wp2_with fail
            refine (HNR.out _ HZ2.out).mono ?_
            rintro e w3 ⟨u2, rfl, hu2, hb⟩
            obtain ⟨ua2, uc2, rfl⟩ := hu2.shape
            have HZ3 := hid (bstep HZ2.out HZ2.out.size hb)
            have HU1 := hid (HU1.out.keep hb)
            have HU2 := hid hu2
            clear hb hu2
            have HH := hid (fun v (hv : v = Value.slice ua1 U.length uc1 ∨ (d = D ∧ v = Value.slice ua2 L.length uc2)) => show Calls Tryd.prog 30 #[v, .int .i64 (q : Int)] w3 fun e w' => e = .returned (.bool true) ∧ w3 = w' by
              rcases hv with rfl | ⟨h, rfl⟩
              · have g := has6_any _ U (q : Int) w3 HU1.out
                rw [HUI.out] at g
                exact g
              · have g := has6_any _ L (q : Int) w3 HU2.out
                rw [HEQ.out h] at g
                exact g)
            have hed : (d == D) = true ∨ (d == D) = false := by cases (d == D) <;> simp
            have HDQ := hid (show (d == D) = true → d = D from fun h => by simpa using h)
            go_upto_region 21 with fail
            go_cut [164] (fun s164 wx => s164 = .bool false ∧ wx = w3)
            case first =>
              rcases hed with hed | hed
              all_goals
                go_wp2_with (go_at_call 30; refine (HH.out _ (by first | exact .inl rfl | exact .inr ⟨HDQ.out hed, rfl⟩)).mono ?_; rintro e wk ⟨rfl, rfl⟩)
                go_meet
                exact ⟨by have e1 : ¬ (p : Int) < D := by omega
                          have e2 : ¬ D < d := by omega
                          simp only [decide_eq_false e1, decide_eq_false e2]; rfl, rfl⟩
            case rest =>
              obtain ⟨rfl, rfl⟩ := hcut
              go_wp2_with fail
              refine (HON.out _ HZ3.out).mono ?_
              rintro e w5 ⟨rfl, hb⟩
              have HZ5 := hid (bstep HZ3.out HZ3.out.size hb)
              clear hb
              have hbb : bO = true ∨ bO = false := by cases bO <;> simp
              have hit : bO = true → (iO != (q : Int)) = false := fun h => by rw [HOI.out h]; simp
              go_upto_region 24 with fail
              go_cut [182] (fun s182 wx => s182 = .bool false ∧ w5 = wx)
              case first =>
                rcases hbb with hbb | hbb
                all_goals
                  first | (have hit2 := hit hbb) | skip
                  subst hbb
                  go_wp2_with fail
                  go_meet
                  exact ⟨rfl, rfl⟩
              case rest =>
                obtain ⟨rfl, rfl⟩ := hcut
                go_wp2_with fail
                have HB5 := hid (bstep HBZ.out HBZ.out.size HZ5.out)
                have kc5 := HKC.out _ HZ5.out
                obtain ⟨a6, mb, mo, mc, hv, ha6, _, hc6⟩ := HR.out _ HB5.out
                injection hv with hv1 hv2 hv3
                subst hv1 hv3
                rcases ha6 with h0 | rfl
                · rw [h0] at hql; simp at hql
                obtain ⟨e0, e1, e2, e3, e4⟩ := hc6 q hql
                rw [HXX.out] at e0 e1 e2 e3 e4
                clear hv2 hc6
                have HRD := hid (fun w1 (g : Below w5.heap.size w5 w1) => cread_f x c w1 HOKQ.out HIC.out (HI5.out.keep (bstep HZ5.out HZ5.out.size g)))
                have HS := hid (fun w1 (g : Below w5.heap.size w5 w1) => show w1.cell? ⟨tb, tf + q, none⟩ = some (.string c) ∧ w1.cell? ⟨mb, mo + q * 5 + 3, none⟩ = some (.int .i64 x.dy) ∧ Hid (Below w5.heap.size w5 w1) from ⟨keep_cell g kc5, keep_cell g e3, g⟩)
                (try clear HH); (try clear HDQ); (try clear HEQ); (try clear HUI); (try clear HOI); (try clear HON); (try clear HDB); (try clear HDS); (try clear HNR); (try clear HM); (try clear HRS); (try clear HU1); (try clear HU2); (try clear HA); (try clear HB0); (try clear HR); (try clear HALL); (try clear HCQ); (try clear HOKK); (try clear HN30); (try clear HCA); (try clear HCL); (try clear HN); (try clear HP); (try clear HRL); (try clear HZ1); (try clear HZ2); (try clear HZ3); (try clear HZ); (try clear HSD); (try clear HS9); (try clear HPD); (try clear HF); (try clear hU1); (try clear hU2); (try clear hed); (try clear hne9); (try clear hg9); (try clear hg30); (try clear hdD); (try clear hDp); (try clear hf1); (try clear hf2); (try clear hit); (try clear hip); (try clear hir); (try clear hm2); (try clear hm3); (try clear hlt); (try clear hw0); (try clear hp9); (try clear hn30); (try clear HCC); (try clear HQC); (try clear HD0); (try clear H9C); (try clear j0); (try clear hj); (try clear hy0); (try clear hy1); (try clear hy2)
                go_cut [16, 25] (fun s16 s25 wx => ∃ nb : Nat, s16 = .int .i64 0 ∧ s25 = .pointer (some ⟨nb, 0, none⟩) ∧ Hid (C5 w5 wx nb x))
                case first =>
                  go_region_held3 (fun w1 => w1.cell? ⟨tb, tf + q, none⟩ = some (.string c) ∧ w1.cell? ⟨mb, mo + q * 5 + 3, none⟩ = some (.int .i64 x.dy) ∧ Hid (Below w5.heap.size w5 w1))
                    (first | with_reducible exact HS.out _ (Below.refl _ _).drew | with_reducible exact HS.out _ ((Below.refl _ _).alloc (Nat.le_refl _) _).drew | with_reducible exact HS.out _ HBK.out | with_reducible exact HS.out _ (HBK.out.alloc HBK.out.size _) | with_reducible exact HS.out _ (c5_low (c5_put HBX.out)))
                    ((go_at_call 31; refine (HRD.out _ (by first | with_reducible exact (Below.refl _ _).drew | with_reducible exact ((Below.refl _ _).alloc (Nat.le_refl _) _).drew)).mono ?_; rintro e wk ⟨rfl, hb⟩; have HBK := hid (show Below w5.heap.size w5 wk from bst (by first | with_reducible exact (Below.refl _ _).drew | with_reducible exact ((Below.refl _ _).alloc (Nat.le_refl _) _).drew) hb); (first | (have hbx : Bx w5 wk w5.heap.size 48 #[.string ⟨#[]⟩, .string ⟨#[]⟩, .string ⟨#[]⟩, .int .i64 0, .int .i64 0] := (by with_reducible exact ⟨row_keep hb (row_dr (heap_alloc_new w5 _)), Nat.le_refl _, HBK.out⟩); have HBX := hid hbx; obtain ⟨z0, z1, z2, z3, z4⟩ := hbx.five; obtain ⟨y0, y1, y2, y3, y4⟩ := hbx.fr5; clear hbx) | skip); clear hb))
                  all_goals
                    go_wp2_with fail
                    go_meet
                    first
                      | with_reducible exact ⟨_, rfl, rfl, hid (c5_put HBX.out)⟩
                      | with_reducible exact ⟨_, rfl, rfl, hid (c5_new HBK.out)⟩
                case rest =>
                  obtain ⟨nb, rfl, rfl, HC⟩ := hcut
                  obtain ⟨⟨b0, b1, b2, b3, b4⟩, hwx⟩ := HC.out
                  have HWX := hid (bstep HB5.out HB5.out.size hwx)
                  have m0 := fun p : LowBy wc => low_cell b0 p
                  have m1 := fun p : LowBy wc => low_cell b1 p
                  have m2 := fun p : LowBy wc => low_cell b2 p
                  have m3 := fun p : LowBy wc => low_cell b3 p
                  have m4 := fun p : LowBy wc => low_cell b4 p
                  have n0 := fun p : LowBy wc => low_cell (keep_cell hwx e0) p
                  have n1 := fun p : LowBy wc => low_cell (keep_cell hwx e1) p
                  have n2 := fun p : LowBy wc => low_cell (keep_cell hwx e2) p
                  have n3 := fun p : LowBy wc => low_cell (keep_cell hwx e3) p
                  have n4 := fun p : LowBy wc => low_cell (keep_cell hwx e4) p
                  have hq5 := fun p : LowBy wc => eqZ3 x p.W
                  have haw := fun p : LowBy wc => low_of (HAW.out p.W (bstep HWX.out HWX.out.size p.low))
                  have hsn := fun p : LowBy wc => low_of (csound_any S p.W (HI5.out.keep (bstep HZ5.out HZ5.out.size (bstep hwx hwx.size p.low))))
                  have hd1 : D = 1 ∨ ¬ D = 1 := by omega
                  rcases hd1 with hd1 | hd1
                  · have hso := HONE.out hd1
                    rw [hso] at hsn
                    subst hd1
                    clear hwx b0 b1 b2 b3 b4 HC hso e0 e1 e2 e3 e4
                    go_wp2_with fail
                    refine wp_region_low (by kernel_rfl) (by kernel_rfl) (fun R hR => ?_)
                    repeat (refine low_step (by assumption) ?_; intro R hR K hK; go_simp; first | (refine hK _ ?_; clear hK K) | (apply Exists.intro; refine ⟨fun _ => ?_, hK _ ?_⟩; (first | (go_at_call 32; exact hsn _) | (go_at_call 26; exact haw _)); clear hK K))
                    refine low_nil (by assumption) ?_; intro _ hw'; obtain ⟨⟨wq, hlow⟩, hw''⟩ := hw'; subst hw''; have HLOW := hid hlow; clear hlow; (try simp only)
                    go_wp2_with fail
                    go_ret
                    exact ⟨rfl, bstep HWX.out HWX.out.size HLOW.out⟩
                  · have hd2 : (D != 1) = true := by simpa using hd1
                    clear hwx b0 b1 b2 b3 b4 HC e0 e1 e2 e3 e4 hsn
                    go_wp2_with fail
                    refine wp_region_low (by kernel_rfl) (by kernel_rfl) (fun R hR => ?_)
                    repeat (refine low_step (by assumption) ?_; intro R hR K hK; go_simp; first | (refine hK _ ?_; clear hK K) | (apply Exists.intro; refine ⟨fun _ => ?_, hK _ ?_⟩; (first | (go_at_call 26; exact haw _)); clear hK K))
                    refine low_nil (by assumption) ?_; intro _ hw'; obtain ⟨⟨wq, hlow⟩, hw''⟩ := hw'; subst hw''; have HLOW := hid hlow; clear hlow; (try simp only)
                    go_wp2_with fail
                    go_ret
                    exact ⟨rfl, bstep HWX.out HWX.out.size HLOW.out⟩
end Go.Proofs.YtmhkgpcnefcjaaaDoor
