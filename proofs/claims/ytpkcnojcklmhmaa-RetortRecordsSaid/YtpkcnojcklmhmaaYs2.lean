/- Walk of the reference's after: contract. -/
import Derived.Test.YtpkcnojcklmhmaaYr
import Derived.StillTailTactics
namespace Go.Proofs.Ytpkcnojcklmhmaa
open Go.RowKit

theorem ch_plain2 {r1 r2 D : Int} (hr2 : r2 = if r1 = 0 ∧ 0 < D then 1 else r1) : (if r1 ≠ 0 then r1 else if D < 0 then -1 else if 0 < D then 1 else 0) = if r2 = 0 ∧ D < 0 then -1 else r2 := by
  subst hr2
  by_cases h0 : r1 = 0
  · by_cases h1 : 0 < D
    · rw [if_neg (show ¬ r1 ≠ 0 by omega), if_neg (show ¬ D < 0 by omega), if_pos h1, if_pos (show r1 = 0 ∧ 0 < D from ⟨h0, h1⟩), if_neg (show ¬ ((1 : Int) = 0 ∧ D < 0) by omega)]
    · by_cases h2 : D < 0
      · rw [if_neg (show ¬ r1 ≠ 0 by omega), if_pos h2, if_neg (show ¬ (r1 = 0 ∧ 0 < D) by omega), if_pos (show r1 = 0 ∧ D < 0 from ⟨h0, h2⟩)]
      · rw [if_neg (show ¬ r1 ≠ 0 by omega), if_neg h2, if_neg h1, if_neg (show ¬ (r1 = 0 ∧ 0 < D) by omega), if_neg (show ¬ (r1 = 0 ∧ D < 0) by omega), h0]
  · rw [if_pos h0, if_neg (show ¬ (r1 = 0 ∧ 0 < D) by omega), if_neg (show ¬ (r1 = 0 ∧ D < 0) by omega)]
set_option maxRecDepth 100000 in
set_option maxHeartbeats 8000000 in
theorem xafter_k2 (s : ByteArray) (h c v p ch : Int) (u : Value) (m : Nat) (P : Nat → St) (z : Value) (n : Nat) (q : Nat → Tri) (t : Int) (st : Nat) (g tc ai : Int) (w : World) (hp : RowP w u m P) (hq : RowT w z n q) (hst : st < m)
    (h1 : 1 ≤ h) (h2 : h ≤ 1000) (c1 : 1 ≤ c) (c2 : c ≤ 1000) (tc1 : -50000 ≤ tc) (tc2 : tc ≤ 200000) (a1 : 0 ≤ aimK q t (P st).s n) (a2 : aimK q t (P st).s n ≤ 200000)
    (v1 : 1 ≤ v) (v2 : v ≤ 1000) (p1 : 0 ≤ p) (p2 : p ≤ 50000) (ch1 : -5000 ≤ ch) (ch2 : ch ≤ 5000) (ai1 : 0 ≤ ai) (ai2 : ai ≤ 1000) (g1 : 0 ≤ g) (g2 : g ≤ 100000000) (t1 : 0 ≤ t) (t2 : t ≤ 100000000) (hkk : (P st).k = 2) :
    Calls Try.prog 77 #[.agg #[.string s, .int .i64 h, .int .i64 c, .int .i64 v, .int .i64 p, .int .i64 ch], u, z, .agg #[.int .i64 t, .int .i64 st, .int .i64 g, .int .i64 tc, .int .i64 ai]] w (TickP (P st).k (P st).s (P st).n v p ch t st g (tc + chN h c (aimK q t (P st).s n - tc)) ai w) := by
  have HQ := hid (fun w1 (g : Below w.heap.size w w1) => hq.keep g)
  have HP := hid (fun w1 (g : Below w.heap.size w w1) => RowT.keep hp g)
  have hnm := hq.most
  have hmm := RowT.most hp
  unfold maxLen at hnm hmm
  obtain ⟨qa, qc, rfl⟩ := hq.shape
  obtain ⟨pa, pc, rfl⟩ := RowT.shape hp
  clear hp hq
  have hst' : (st : Int) < m := by omega
  have HB4 := hid (((((Below.refl w.heap.size w).alloc (Nat.le_refl _) (.cells #[.string s, .int .i64 h, .int .i64 c, .int .i64 v, .int .i64 p, .int .i64 ch] 53)).alloc (by simp) (.cells #[.int .i64 t, .int .i64 st, .int .i64 g, .int .i64 tc, .int .i64 ai] 57)).alloc (by simp; omega) (.cells #[.int .i64 0, .int .i64 0, .int .i64 0, .int .i64 0, .int .i64 0] 57)).alloc (by simp; omega) (.cells #[.int .i64 0, .int .i64 0, .int .i64 0, .int .i64 0] 74))
  obtain ⟨a', b', o', cap', hv, _, _, ha', hcell⟩ := HP.out _ HB4.out
  injection hv with hv1 hv2 hv3
  subst hv1 hv3
  rcases ha' with h0 | rfl
  · omega
  obtain ⟨d0, d1, d2⟩ := hcell st hst
  simp only at d0 d1 d2
  obtain ⟨K, hK⟩ : ∃ K, K = (P st).k := ⟨_, rfl⟩
  obtain ⟨S, hS⟩ : ∃ K, K = (P st).s := ⟨_, rfl⟩
  obtain ⟨N, hN⟩ : ∃ K, K = (P st).n := ⟨_, rfl⟩
  rw [← hS] at a1 a2
  have HKK := hid (show K = 2 by rw [hK]; exact hkk)
  clear hkk
  rw [← hK, ← hS, ← hN]
  rw [← hK] at d0
  rw [← hS] at d1
  rw [← hN] at d2
  obtain ⟨A, hA⟩ : ∃ A, A = aimK q t S n := ⟨_, rfl⟩
  have HA := hid hA
  rw [← hA] at a1 a2 ⊢
  clear hcell hv2 hK hS hN hA hst
  go_enter Try.func77, Try.ntmps77
  go_wp2
  generalize hW : World.alloc (World.alloc (World.alloc (World.alloc (World.alloc w _) _) _) _) _ = W0
  have HF0 := hid (show AfB w W0 #[.string s, .int .i64 h, .int .i64 c, .int .i64 v, .int .i64 p, .int .i64 ch] #[.int .i64 t, .int .i64 st, .int .i64 g, .int .i64 tc, .int .i64 ai] #[.int .i64 K, .int .i64 S, .int .i64 N] by rw [← hW]; exact af_start w _ _ _)
  clear hW d0 d1 d2
  go_loopw [12, 11] (fun i a wr => ∃ k : Nat, k ≤ n ∧ i = .int .i64 (k : Int) ∧ a = .int .i64 (aimK q t S k) ∧ Hid (AfB w wr #[.string s, .int .i64 h, .int .i64 c, .int .i64 v, .int .i64 p, .int .i64 ch] #[.int .i64 t, .int .i64 st, .int .i64 g, .int .i64 tc, .int .i64 ai] #[.int .i64 K, .int .i64 S, .int .i64 N])) (fun i _ _ => n - (intOf i).toNat)
  case atStart => exact ⟨0, Nat.zero_le _, rfl, rfl, HF0⟩
  case round =>
    obtain ⟨k, hk, rfl, rfl, hF⟩ := hrel
    by_cases hlt : k < n
    · have hlt' : (k : Int) < n := by omega
      obtain ⟨a2', b2, o2, cap2, hv, _, _, ha2, hcell2⟩ := HQ.out _ hF.out.low
      injection hv with hv1 hv2 hv3
      subst hv1 hv3
      rcases ha2 with h0 | rfl
      · omega
      obtain ⟨d0, d1, d2⟩ := hcell2 k hlt
      have x0 := cell_of_row _ _ 0 _ _ _ hF.out.x
      simp only [List.getElem?_toArray, List.getElem?_cons_zero] at x0
      have HY := hid (fun h1 h2 => aimK_yes (q := q) (t := t) (set := S) (k := k) h1 h2)
      have HNO := hid (fun h => aimK_no (q := q) (t := t) (set := S) (k := k) h)
      obtain ⟨B, hB⟩ : ∃ B, B = aimK q t S k := ⟨_, rfl⟩
      rw [← hB] at HY HNO ⊢
      generalize (q k).x = qx at *
      generalize (q k).y = qy at *
      generalize (q k).z = qz at *
      have HLT := hid hlt
      clear hcell2 hv2 hlt hB
      by_cases e1 : qx ≤ t
      case neg =>
        have e1' : decide (qx ≤ t) = false := decide_eq_false e1
        have HE := hid (HNO.out (fun hh => e1 hh.1))
        clear e1
        go_wp2
        go_quiet (fail)
        go_wp2
        go_roundw
        case rel => exact ⟨k + 1, HLT.out, by go_num, by rw [HE.out], hid (hF.out.drewN _)⟩
        case measure => have := HLT.out; simp [intOf]; omega
      by_cases e2 : t < qy
      case neg =>
        have e2' : decide (t < qy) = false := decide_eq_false e2
        have HE := hid (HNO.out (fun hh => e2 hh.2))
        clear e2
        go_wp2
        go_quiet (fail)
        go_wp2
        go_roundw
        case rel => exact ⟨k + 1, HLT.out, by go_num, by rw [HE.out], hid (hF.out.drewN _)⟩
        case measure => have := HLT.out; simp [intOf]; omega
      have HE := hid (HY.out e1 e2)
      by_cases e3 : qz < B
      · have HE2 := hid (show min B qz = qz by omega)
        go_wp2
        go_quiet (fail)
        go_wp2
        go_roundw
        case rel => exact ⟨k + 1, HLT.out, by go_num, by rw [HE.out, HE2.out], hid (hF.out.drewN _)⟩
        case measure => have := HLT.out; simp [intOf]; omega
      · have e3' : decide (qz < B) = false := decide_eq_false e3
        have HE2 := hid (show min B qz = B by omega)
        go_wp2
        go_quiet (fail)
        go_wp2
        go_roundw
        case rel => exact ⟨k + 1, HLT.out, by go_num, by rw [HE.out, HE2.out], hid (hF.out.drewN _)⟩
        case measure => have := HLT.out; simp [intOf]; omega
    · obtain rfl : k = n := by omega
      rw [← HA.out]
      obtain ⟨D, hD⟩ : ∃ D, A - tc = D := ⟨_, rfl⟩
      rw [hD]
      have hDb : -300000 ≤ D ∧ D ≤ 300000 := by omega
      obtain ⟨mc, hmc⟩ : ∃ x, D * c = x := ⟨_, rfl⟩
      obtain ⟨mh, hmh⟩ : ∃ x, D * h = x := ⟨_, rfl⟩
      have hmcb : -300000000 ≤ mc ∧ mc ≤ 300000000 := by have := prod_bd hDb.1 hDb.2 c1 c2; rw [hmc] at this; exact ⟨this.1, this.2.1⟩
      have hmhb : -300000000 ≤ mh ∧ mh ≤ 300000000 := by have := prod_bd hDb.1 hDb.2 h1 h2; rw [hmh] at this; exact ⟨this.1, this.2.1⟩
      obtain ⟨mcl, mcu⟩ := hmcb
      obtain ⟨mhl, mhu⟩ := hmhb
      obtain ⟨rc, hrc⟩ : ∃ x, mc.tdiv 1000 = x := ⟨_, rfl⟩
      obtain ⟨rh, hrh⟩ : ∃ x, mh.tdiv 1000 = x := ⟨_, rfl⟩
      have hrcb : -300000 ≤ rc ∧ rc ≤ 300000 := by
        have h9 := prod_bd hDb.1 hDb.2 c1 c2
        rw [hmc] at h9
        have := tdiv_bd (x := mc) D h9.2.2.1 h9.2.2.2
        rw [hrc] at this
        omega
      have hrhb : -300000 ≤ rh ∧ rh ≤ 300000 := by
        have h9 := prod_bd hDb.1 hDb.2 h1 h2
        rw [hmh] at h9
        have := tdiv_bd (x := mh) D h9.2.2.1 h9.2.2.2
        rw [hrh] at this
        omega
      obtain ⟨rcl, rcu⟩ := hrcb
      obtain ⟨rhl, rhu⟩ := hrhb
      obtain ⟨r1, hr1⟩ : ∃ x, x = (if 0 < D then rh else rc) := ⟨_, rfl⟩
      have hr1b : -300000 ≤ r1 ∧ r1 ≤ 300000 := by rw [hr1]; by_cases h0 : 0 < D <;> simp only [h0, if_true, if_false] <;> omega
      obtain ⟨r1l, r1u⟩ := hr1b
      obtain ⟨r2, hr2⟩ : ∃ x, x = (if r1 = 0 ∧ 0 < D then 1 else r1) := ⟨_, rfl⟩
      obtain ⟨M, hM⟩ : ∃ x, x = chN h c D := ⟨_, rfl⟩
      have hM2 : M = if r2 = 0 ∧ D < 0 then -1 else r2 := by
        rw [hM]
        unfold chN
        have e : (D * (if 0 < D then h else c)).tdiv 1000 = r1 := by
          rw [hr1]
          by_cases h0 : 0 < D
          · rw [if_pos h0, if_pos h0, hmh, hrh]
          · rw [if_neg h0, if_neg h0, hmc, hrc]
        rw [e]
        exact ch_plain2 hr2
      have hMb : (0 ≤ D → 0 ≤ M ∧ M ≤ D) ∧ (D ≤ 0 → M ≤ 0 ∧ D ≤ M) := by rw [hM]; exact chN_bd hDb.1 hDb.2 h1 h2 c1 c2
      have HM2 := hid hM2
      have HMM := hid hM
      have HR2 := hid hr2
      have HR1 := hid hr1
      have hTb : -50000 ≤ tc + M ∧ tc + M ≤ 200000 := by omega
      have HMB := hid (show -300000 ≤ M ∧ M ≤ 300000 by omega)
      have HDB := hid hDb
      rw [← hM]
      have HF := hF
      obtain ⟨⟨y1, y2, y3, y4, y5⟩, ⟨x0, x1, x2, x3, x4⟩, ⟨z0, z1, z2⟩⟩ := hF.out.all
      clear hM hM2 hr2 hr1 hMb hlt
      go_upto_if 72 with (fail)
      go_cut [14] (fun s wx => s = .int .i64 r1 ∧ wx = wr)
      case first =>
        by_cases h0 : 0 < D
        · have HE := hid (show rh = r1 by rw [HR1.out, if_pos h0])
          go_wp2_with fail
          go_meet
          exact ⟨by rw [HE.out], rfl⟩
        · have HE := hid (show rc = r1 by rw [HR1.out, if_neg h0])
          go_wp2_with fail
          go_meet
          exact ⟨by rw [HE.out], rfl⟩
      case rest =>
        obtain ⟨rfl, rfl⟩ := hcut
        clear hmc hmh mcl mcu mhl mhu hrc hrh HR1 rcl rcu rhl rhu
        have hr2b : -300000 ≤ r2 ∧ r2 ≤ 300000 := by rw [HR2.out]; by_cases h0 : r1 = 0 ∧ 0 < D <;> simp only [h0, if_true, if_false] <;> omega
        obtain ⟨r2l, r2u⟩ := hr2b
        obtain ⟨B1, hB1⟩ : ∃ b, b = decide (r1 = 0 ∧ 0 < D) := ⟨_, rfl⟩
        have HB1 := hid hB1
        obtain ⟨B2, hB2⟩ : ∃ b, b = decide (r2 = 0 ∧ D < 0) := ⟨_, rfl⟩
        have HB2 := hid hB2
        clear hB1 hB2
        go_upto_region 12 with (fail)
        go_cut [83] (fun s wx => s = .bool B1 ∧ wx = wc)
        case first =>
          by_cases h0 : r1 = 0
          · have g1 : (r1 == 0) = true := by simpa using h0
            by_cases h1' : 0 < D
            · have HE := hid (show B1 = true by rw [HB1.out]; exact decide_eq_true ⟨h0, h1'⟩)
              clear h0
              go_wp2_with fail
              go_meet
              exact ⟨by rw [HE.out], rfl⟩
            · have HE := hid (show B1 = false by rw [HB1.out]; exact decide_eq_false (fun hh => h1' hh.2))
              have h2' : decide (0 < D) = false := decide_eq_false h1'
              clear h0
              go_wp2_with fail
              go_meet
              exact ⟨by rw [HE.out], rfl⟩
          · have g1 : (r1 == 0) = false := by simpa using h0
            have HE := hid (show B1 = false by rw [HB1.out]; exact decide_eq_false (fun hh => h0 hh.1))
            clear h0
            go_wp2_with fail
            go_meet
            exact ⟨by rw [HE.out], rfl⟩
        case rest =>
          obtain ⟨rfl, rfl⟩ := hcut
          go_upto_if 83 with (fail)
          go_cut [14] (fun s wx => s = .int .i64 r2 ∧ wx = wc)
          case first =>
            cases hb : B1
            · have HE := hid (show r2 = r1 by rw [HR2.out, if_neg (of_decide_eq_false (HB1.out.symm.trans hb))])
              subst hb
              go_wp2_with fail
              go_meet
              exact ⟨by rw [HE.out], rfl⟩
            · have HE := hid (show r2 = 1 by rw [HR2.out, if_pos (of_decide_eq_true (HB1.out.symm.trans hb))])
              subst hb
              go_wp2_with fail
              go_meet
              exact ⟨by rw [HE.out], rfl⟩
          case rest =>
            obtain ⟨rfl, rfl⟩ := hcut
            clear HR2 HB1 r1l r1u
            go_upto_region 14 with (fail)
            go_cut [89] (fun s wx => s = .bool B2 ∧ wx = wc)
            case first =>
              by_cases h0 : r2 = 0
              · have g1 : (r2 == 0) = true := by simpa using h0
                by_cases h1' : D < 0
                · have HE := hid (show B2 = true by rw [HB2.out]; exact decide_eq_true ⟨h0, h1'⟩)
                  clear h0
                  go_wp2_with fail
                  go_meet
                  exact ⟨by rw [HE.out], rfl⟩
                · have HE := hid (show B2 = false by rw [HB2.out]; exact decide_eq_false (fun hh => h1' hh.2))
                  have h2' : decide (D < 0) = false := decide_eq_false h1'
                  clear h0
                  go_wp2_with fail
                  go_meet
                  exact ⟨by rw [HE.out], rfl⟩
              · have g1 : (r2 == 0) = false := by simpa using h0
                have HE := hid (show B2 = false by rw [HB2.out]; exact decide_eq_false (fun hh => h0 hh.1))
                clear h0
                go_wp2_with fail
                go_meet
                exact ⟨by rw [HE.out], rfl⟩
            case rest =>
              obtain ⟨rfl, rfl⟩ := hcut
              go_upto_if 89 with (fail)
              go_cut [14] (fun s wx => s = .int .i64 M ∧ wx = wc)
              case first =>
                cases hb : B2
                · have HE := hid (show M = r2 by rw [HM2.out, if_neg (of_decide_eq_false (HB2.out.symm.trans hb))])
                  subst hb
                  go_wp2_with fail
                  go_meet
                  exact ⟨by rw [HE.out], rfl⟩
                · have HE := hid (show M = -1 by rw [HM2.out, if_pos (of_decide_eq_true (HB2.out.symm.trans hb))])
                  subst hb
                  go_wp2_with fail
                  go_meet
                  exact ⟨by rw [HE.out], rfl⟩
              case rest =>
                obtain ⟨rfl, rfl⟩ := hcut
                clear HM2 HB2 r2l r2u
                obtain ⟨hMl, hMu⟩ := HMB.out
                obtain ⟨hTl, hTu⟩ := hTb
                have xf3 := frozen_of_row _ (w.heap.size + 1) 3 _ _ HF.out.x
                go_upto_if 97 with (fail)
                generalize hW : World.setCell _ _ _ = W1
                have HF1 := hid (show AfB w W1 #[.string s, .int .i64 h, .int .i64 c, .int .i64 v, .int .i64 p, .int .i64 ch] #[.int .i64 t, .int .i64 st, .int .i64 g, .int .i64 (tc + M), .int .i64 ai] #[.int .i64 K, .int .i64 S, .int .i64 N] by rw [← hW]; exact HF.out.setX 3 _)
                clear hW xf3 x0 x1 x2 x3 x4 y1 y2 y3 y4 y5 z0 z1 z2
                obtain ⟨T2, hT2⟩ : ∃ x, x = tc + M := ⟨_, rfl⟩
                rw [← hT2] at HF1 hTl hTu ⊢
                obtain ⟨A2, hA2⟩ : ∃ x, x = airN K v ai := ⟨_, rfl⟩
                have HA2 := hid hA2
                have HT2 := hid hT2
                have hub := upN_bd (a := ai) (b := v) (m := 1000) ai1 ai2 (by omega) v2
                have hA2b : 0 ≤ A2 ∧ A2 ≤ 1000 := by
                  have h7 := upN_bd (a := ai) (b := v) (m := ai) ai1 (Int.le_refl _) (by omega) v2
                  rw [hA2]; unfold airN
                  by_cases hk : K = 1
                  · rw [if_pos hk]; omega
                  · rw [if_neg hk]; omega
                obtain ⟨U, hU⟩ : ∃ x, x = upN ai v := ⟨_, rfl⟩
                have HU := hid hU
                rw [← hU] at hub
                obtain ⟨hU1, hU2⟩ := hub
                obtain ⟨⟨y1, y2, y3, y4, y5⟩, ⟨x0, x1, x2, x3, x4⟩, ⟨z0, z1, z2⟩⟩ := HF1.out.all
                have xf := frozen_of_row W1 (w.heap.size + 1) 4 _ _ HF1.out.x
                clear hA2 hU hT2 hMl hMu
                go_cut [] (fun wx => Hid (AfB w wx #[.string s, .int .i64 h, .int .i64 c, .int .i64 v, .int .i64 p, .int .i64 ch] #[.int .i64 t, .int .i64 st, .int .i64 g, .int .i64 T2, .int .i64 A2] #[.int .i64 K, .int .i64 S, .int .i64 N]))
                case first =>
                  by_cases hK1 : K = 1
                  · have g1 : (K == 1) = true := by simpa using hK1
                    have HE := hid (show A2 = ai - U by rw [HA2.out, HU.out]; unfold airN; rw [if_pos hK1])
                    have hw : IntKind.i64.wrap (ai - U) = ai - U := IntWalk.i64_in _ ⟨by omega, by omega⟩
                    clear hK1
                    have HUP := hid (show ∀ W, Calls Try.prog 104 #[.int .i64 ai, .int .i64 v] W fun e w' => e = .returned (.int .i64 U) ∧ w' = W from fun W => by rw [HU.out]; exact (xup_any ai v W ai1 (by omega) (by omega) v2).mono fun e w' hh => ⟨hh.1, hh.2.symm⟩)
                    go_wp2_with fail
                    refine wp_region_still_tail 9 (by kernel_rfl) (by kernel_rfl) ?_
                    simp only [List.take_succ_cons, List.take_zero, List.drop_succ_cons, List.drop_zero]
                    iterate 6 still_step
                    still_call (HUP.out _)
                    iterate 2 still_step
                    refine wpStill_nil ?_
                    go_wp2_with fail
                    go_meet
                    exact hid (by rw [HE.out]; exact (HF1.out.drewN 1).setX 4 _)
                  · have g1 : (K == 1) = false := by simpa using hK1
                    have HE := hid (show A2 = ai by rw [HA2.out]; unfold airN; rw [if_neg hK1])
                    clear hK1
                    go_wp2_with fail
                    go_meet
                    exact hid (by rw [HE.out]; exact HF1.out)
                case rest =>
                  have HF2 := hcut
                  clear hcut x0 x1 x2 x3 x4 y1 y2 y3 y4 y5 z0 z1 z2 xf hU1 hU2 HU
                  obtain ⟨hA2l, hA2u⟩ := hA2b
                  obtain ⟨C2, hC2⟩ : ∃ x, T2 + ch = x := ⟨_, rfl⟩
                  obtain ⟨U2, hU2⟩ : ∃ x, x = upN A2 p := ⟨_, rfl⟩
                  obtain ⟨B2, hB2⟩ : ∃ x, T2 - U2 = x := ⟨_, rfl⟩
                  have hub2 := upN_bd (a := p) (b := A2) (m := 50000) p1 p2 hA2l hA2u
                  have hcomm : upN A2 p = upN p A2 := by unfold upN; rw [Int.mul_comm]
                  rw [← hcomm, ← hU2] at hub2
                  have hprod : 0 ≤ A2 * p ∧ A2 * p ≤ 50000000 := by
                    have e1 : 0 ≤ A2 * p := Int.mul_nonneg hA2l p1
                    have e2 : A2 * p ≤ 1000 * 50000 := Int.le_trans (Int.mul_le_mul_of_nonneg_right hA2u p1) (Int.mul_le_mul_of_nonneg_left p2 (by omega))
                    omega
                  have hwC : IntKind.i64.wrap C2 = C2 := IntWalk.i64_in _ ⟨by omega, by omega⟩
                  have hwB : IntKind.i64.wrap B2 = B2 := IntWalk.i64_in _ ⟨by omega, by omega⟩
                  have HRES := hid (show C2 = T2 + ch ∧ B2 = T2 - upN p A2 by rw [← hC2, ← hB2, hU2, hcomm]; exact ⟨rfl, rfl⟩)
                  have HUP := hid (show ∀ W, Calls Try.prog 104 #[.int .i64 A2, .int .i64 p] W fun e w' => e = .returned (.int .i64 U2) ∧ W = w' from fun W => by rw [hU2]; exact xup_bd A2 p W hprod.1 hprod.2)
                  have hlw : w.heap.size + 4 < wc.heap.size := lt_of_block HF2.out.s
                  clear hub2 hcomm hprod hU2
                  go_upto_region 19 with (fail)
                  go_cut [15] (fun sv wx => ∃ b : Nat, sv = .pointer (some ⟨b, 0, none⟩) ∧ Hid (AfB w wx #[.string s, .int .i64 h, .int .i64 c, .int .i64 v, .int .i64 p, .int .i64 ch] #[.int .i64 t, .int .i64 st, .int .i64 g, .int .i64 T2, .int .i64 A2] #[.int .i64 K, .int .i64 S, .int .i64 N]) ∧ Hid (wx.heap[b]? = some (.cells #[.int .i64 st, .int .i64 T2, .int .i64 C2, .int .i64 B2] 74 (0, 0))) ∧ Hid (w.heap.size + 4 < b))
                  case first =>
                    go_wp2_with fail
                    refine wp_region_held_drew (S := fun w1 => AfB w w1 #[.string s, .int .i64 h, .int .i64 c, .int .i64 v, .int .i64 p, .int .i64 ch] #[.int .i64 t, .int .i64 st, .int .i64 g, .int .i64 T2, .int .i64 A2] #[.int .i64 K, .int .i64 S, .int .i64 N]) (by kernel_rfl) (HF2.out.keep (Below.refl _ _).drew) (fun hS0 => ?_)
                    refine wpAnyH_take (i := 0) (v := ?_) rfl (by kernel_rfl) (by kernel_rfl) (by kernel_rfl) (fun _ _ _ h => h) (Or.inl ⟨by rfl, ?_⟩) hS0 ?_
                    rotate_left
                    · intro w' hSw
                      obtain ⟨⟨r1, r2, r3, r4, r5⟩, ⟨r6, r7, r8, r9, r10⟩, _⟩ := hSw.all
                      clear hSw
                      go_simp
                      try with_reducible rfl
                    simp only [Act.put, List.getElem_toArray, List.getElem_cons_succ, List.getElem_cons_zero, List.setIfInBounds_toArray, List.set_cons_zero, List.set_cons_succ]
                    refine wpAnyH_take (i := 1) (v := ?_) rfl (by kernel_rfl) (by kernel_rfl) (by kernel_rfl) (fun _ _ _ h => h) (Or.inl ⟨by rfl, ?_⟩) hS0 ?_
                    rotate_left
                    · intro w' hSw
                      obtain ⟨⟨r1, r2, r3, r4, r5⟩, ⟨r6, r7, r8, r9, r10⟩, _⟩ := hSw.all
                      clear hSw
                      go_simp
                      try with_reducible rfl
                    simp only [Act.put, List.getElem_toArray, List.getElem_cons_succ, List.getElem_cons_zero, List.setIfInBounds_toArray, List.set_cons_zero, List.set_cons_succ]
                    refine wpAnyH_take (i := 2) (v := ?_) rfl (by kernel_rfl) (by kernel_rfl) (by kernel_rfl) (fun _ _ _ h => h) (Or.inl ⟨by rfl, ?_⟩) hS0 ?_
                    rotate_left
                    · intro w' hSw
                      obtain ⟨⟨r1, r2, r3, r4, r5⟩, ⟨r6, r7, r8, r9, r10⟩, _⟩ := hSw.all
                      clear hSw
                      go_simp
                      try with_reducible rfl
                    simp only [Act.put, List.getElem_toArray, List.getElem_cons_succ, List.getElem_cons_zero, List.setIfInBounds_toArray, List.set_cons_zero, List.set_cons_succ]
                    refine wpAnyH_take (i := 3) (v := ?_) rfl (by kernel_rfl) (by kernel_rfl) (by kernel_rfl) (fun _ _ _ h => h) (Or.inl ⟨by rfl, ?_⟩) hS0 ?_
                    rotate_left
                    · intro w' hSw
                      obtain ⟨⟨r1, r2, r3, r4, r5⟩, ⟨r6, r7, r8, r9, r10⟩, _⟩ := hSw.all
                      clear hSw
                      go_simp
                      try with_reducible rfl
                    simp only [Act.put, List.getElem_toArray, List.getElem_cons_succ, List.getElem_cons_zero, List.setIfInBounds_toArray, List.set_cons_zero, List.set_cons_succ]
                    refine wpAnyH_take (i := 4) (v := ?_) rfl (by kernel_rfl) (by kernel_rfl) (by kernel_rfl) (fun _ _ _ h => h) (Or.inl ⟨by rfl, ?_⟩) hS0 ?_
                    rotate_left
                    · intro w' hSw
                      obtain ⟨⟨r1, r2, r3, r4, r5⟩, ⟨r6, r7, r8, r9, r10⟩, _⟩ := hSw.all
                      clear hSw
                      go_simp
                      try with_reducible rfl
                    simp only [Act.put, List.getElem_toArray, List.getElem_cons_succ, List.getElem_cons_zero, List.setIfInBounds_toArray, List.set_cons_zero, List.set_cons_succ]
                    refine wpAnyH_take (i := 5) (v := ?_) rfl (by kernel_rfl) (by kernel_rfl) (by kernel_rfl) (fun _ _ _ h => h) (Or.inl ⟨by rfl, ?_⟩) hS0 ?_
                    rotate_left
                    · intro w' hSw
                      obtain ⟨⟨r1, r2, r3, r4, r5⟩, ⟨r6, r7, r8, r9, r10⟩, _⟩ := hSw.all
                      clear hSw
                      go_simp
                      try with_reducible rfl
                    simp only [Act.put, List.getElem_toArray, List.getElem_cons_succ, List.getElem_cons_zero, List.setIfInBounds_toArray, List.set_cons_zero, List.set_cons_succ]
                    refine wpAnyH_take (i := 6) (v := ?_) rfl (by kernel_rfl) (by kernel_rfl) (by kernel_rfl) (fun _ _ _ h => h) (Or.inl ⟨by rfl, ?_⟩) hS0 ?_
                    rotate_left
                    · intro w' hSw
                      obtain ⟨⟨r1, r2, r3, r4, r5⟩, ⟨r6, r7, r8, r9, r10⟩, _⟩ := hSw.all
                      clear hSw
                      go_simp
                      try with_reducible rfl
                    simp only [Act.put, List.getElem_toArray, List.getElem_cons_succ, List.getElem_cons_zero, List.setIfInBounds_toArray, List.set_cons_zero, List.set_cons_succ]
                    refine wpAnyH_take (i := 7) (v := ?_) rfl (by kernel_rfl) (by kernel_rfl) (by kernel_rfl) (fun _ _ _ h => h) (Or.inl ⟨by rfl, ?_⟩) hS0 ?_
                    rotate_left
                    · intro w' hSw
                      obtain ⟨⟨r1, r2, r3, r4, r5⟩, ⟨r6, r7, r8, r9, r10⟩, _⟩ := hSw.all
                      clear hSw
                      go_simp
                      try with_reducible rfl
                    simp only [Act.put, List.getElem_toArray, List.getElem_cons_succ, List.getElem_cons_zero, List.setIfInBounds_toArray, List.set_cons_zero, List.set_cons_succ]
                    refine wpAnyH_take (i := 8) (v := .int .i64 C2) rfl (by kernel_rfl) (by kernel_rfl) (by kernel_rfl) (fun _ _ _ h => h) (Or.inl ⟨by rfl, ?_⟩) hS0 ?_
                    · intro w' hSw
                      obtain ⟨⟨r1, r2, r3, r4, r5⟩, ⟨r6, r7, r8, r9, r10⟩, _⟩ := hSw.all
                      clear hSw
                      go_simp
                    simp only [Act.put, List.getElem_toArray, List.getElem_cons_succ, List.getElem_cons_zero, List.setIfInBounds_toArray, List.set_cons_zero, List.set_cons_succ]
                    refine wpAnyH_take (i := 9) (v := ?_) rfl (by kernel_rfl) (by kernel_rfl) (by kernel_rfl) (fun _ _ _ h => h) (Or.inl ⟨by rfl, ?_⟩) hS0 ?_
                    rotate_left
                    · intro w' hSw
                      obtain ⟨⟨r1, r2, r3, r4, r5⟩, ⟨r6, r7, r8, r9, r10⟩, _⟩ := hSw.all
                      clear hSw
                      go_simp
                      try with_reducible rfl
                    simp only [Act.put, List.getElem_toArray, List.getElem_cons_succ, List.getElem_cons_zero, List.setIfInBounds_toArray, List.set_cons_zero, List.set_cons_succ]
                    refine wpAnyH_take (i := 10) (v := ?_) rfl (by kernel_rfl) (by kernel_rfl) (by kernel_rfl) (fun _ _ _ h => h) (Or.inl ⟨by rfl, ?_⟩) hS0 ?_
                    rotate_left
                    · intro w' hSw
                      obtain ⟨⟨r1, r2, r3, r4, r5⟩, ⟨r6, r7, r8, r9, r10⟩, _⟩ := hSw.all
                      clear hSw
                      go_simp
                      try with_reducible rfl
                    simp only [Act.put, List.getElem_toArray, List.getElem_cons_succ, List.getElem_cons_zero, List.setIfInBounds_toArray, List.set_cons_zero, List.set_cons_succ]
                    refine wpAnyH_take (i := 11) (v := ?_) rfl (by kernel_rfl) (by kernel_rfl) (by kernel_rfl) (fun _ _ _ h => h) (Or.inl ⟨by rfl, ?_⟩) hS0 ?_
                    rotate_left
                    · intro w' hSw
                      obtain ⟨⟨r1, r2, r3, r4, r5⟩, ⟨r6, r7, r8, r9, r10⟩, _⟩ := hSw.all
                      clear hSw
                      go_simp
                      try with_reducible rfl
                    simp only [Act.put, List.getElem_toArray, List.getElem_cons_succ, List.getElem_cons_zero, List.setIfInBounds_toArray, List.set_cons_zero, List.set_cons_succ]
                    refine wpAnyH_take (i := 12) (v := ?_) rfl (by kernel_rfl) (by kernel_rfl) (by kernel_rfl) (fun _ _ _ h => h) (Or.inl ⟨by rfl, ?_⟩) hS0 ?_
                    rotate_left
                    · intro w' hSw
                      obtain ⟨⟨r1, r2, r3, r4, r5⟩, ⟨r6, r7, r8, r9, r10⟩, _⟩ := hSw.all
                      clear hSw
                      go_simp
                      try with_reducible rfl
                    simp only [Act.put, List.getElem_toArray, List.getElem_cons_succ, List.getElem_cons_zero, List.setIfInBounds_toArray, List.set_cons_zero, List.set_cons_succ]
                    refine wpAnyH_take (i := 13) (v := ?_) rfl (by kernel_rfl) (by kernel_rfl) (by kernel_rfl) (fun _ _ _ h => h) (Or.inl ⟨by rfl, ?_⟩) hS0 ?_
                    rotate_left
                    · intro w' hSw
                      obtain ⟨⟨r1, r2, r3, r4, r5⟩, ⟨r6, r7, r8, r9, r10⟩, _⟩ := hSw.all
                      clear hSw
                      go_simp
                      try with_reducible rfl
                    simp only [Act.put, List.getElem_toArray, List.getElem_cons_succ, List.getElem_cons_zero, List.setIfInBounds_toArray, List.set_cons_zero, List.set_cons_succ]
                    refine wpAnyH_take (i := 14) (v := ?_) rfl (by kernel_rfl) (by kernel_rfl) (by kernel_rfl) (fun _ _ _ h => h) (Or.inl ⟨by rfl, ?_⟩) hS0 ?_
                    rotate_left
                    · intro w' hSw
                      obtain ⟨⟨r1, r2, r3, r4, r5⟩, ⟨r6, r7, r8, r9, r10⟩, _⟩ := hSw.all
                      clear hSw
                      go_simp
                      try with_reducible rfl
                    simp only [Act.put, List.getElem_toArray, List.getElem_cons_succ, List.getElem_cons_zero, List.setIfInBounds_toArray, List.set_cons_zero, List.set_cons_succ]
                    (refine wpAnyH_ready (rs := [15, 18]) (by kernel_rfl) (by simp) ?_)
                    refine AllReadyH.cons rfl (fun K hK => ?_) ?_
                    · go_simp
                      refine (HUP.out _).mono ?_
                      rintro e w3 ⟨rfl, rfl⟩
                      (refine hK.out _ _ (hS0) (fun hS1 => ?_); clear hK K)
                      refine wpAnyH_take (i := 16) (v := .int .i64 B2) rfl (by kernel_rfl) (by kernel_rfl) (by kernel_rfl) (fun _ _ _ h => h) (Or.inl ⟨by rfl, ?_⟩) hS1 ?_
                      · intro w' hSw
                        obtain ⟨⟨r1, r2, r3, r4, r5⟩, ⟨r6, r7, r8, r9, r10⟩, _⟩ := hSw.all
                        clear hSw
                        go_simp
                      simp only [Act.put, List.getElem_toArray, List.getElem_cons_succ, List.getElem_cons_zero, List.setIfInBounds_toArray, List.set_cons_zero, List.set_cons_succ]
                      refine wpAnyH_take (i := 17) (v := ?_) rfl (by kernel_rfl) (by kernel_rfl) (by kernel_rfl) (fun _ _ _ h => h) (Or.inl ⟨by rfl, ?_⟩) hS1 ?_
                      rotate_left
                      · intro w' hSw
                        obtain ⟨⟨r1, r2, r3, r4, r5⟩, ⟨r6, r7, r8, r9, r10⟩, _⟩ := hSw.all
                        clear hSw
                        go_simp
                        try with_reducible rfl
                      simp only [Act.put, List.getElem_toArray, List.getElem_cons_succ, List.getElem_cons_zero, List.setIfInBounds_toArray, List.set_cons_zero, List.set_cons_succ]
                      (refine wpAnyH_ready (rs := [18]) (by kernel_rfl) (by simp) ?_)
                      refine AllReadyH.cons rfl (fun K hK => ?_) AllReadyH.nil
                      go_simp
                      (refine hK.out _ _ (hS1.keep ((Below.refl _ _).alloc (Nat.le_refl _) _)) (fun hS2 => ?_); clear hK K)
                      (refine wpAnyH_ready (rs := [19]) (by kernel_rfl) (by simp) ?_)
                      refine AllReadyH.cons rfl (fun K hK => ?_) AllReadyH.nil
                      go_simp
                      (refine hK.out _ _ (hS1.keep ((Below.refl _ _).alloc (Nat.le_refl _) _)) (fun hS3 => ?_); clear hK K)
                      refine wpAnyH_done (by kernel_rfl) ?_ _
                      go_wp2_with fail
                      go_meet
                      exact ⟨wc.heap.size, rfl, hid (HF2.out.keep (((Below.refl _ _).drew).alloc (Nat.le_refl _) _)), hid (heap_alloc_new wc.drew _), hid hlw⟩
                    · refine AllReadyH.cons rfl (fun K hK => ?_) AllReadyH.nil
                      go_simp
                      (refine hK.out _ _ (hS0.keep ((Below.refl _ _).alloc (Nat.le_refl _) _)) (fun hS1 => ?_); clear hK K)
                      (refine wpAnyH_ready (rs := [15]) (by kernel_rfl) (by simp) ?_)
                      refine AllReadyH.cons rfl (fun K hK => ?_) AllReadyH.nil
                      go_simp
                      refine (HUP.out _).mono ?_
                      rintro e w3 ⟨rfl, rfl⟩
                      (refine hK.out _ _ (hS1) (fun hS2 => ?_); clear hK K)
                      refine wpAnyH_take (i := 16) (v := .int .i64 B2) rfl (by kernel_rfl) (by kernel_rfl) (by kernel_rfl) (fun _ _ _ h => h) (Or.inl ⟨by rfl, ?_⟩) hS2 ?_
                      · intro w' hSw
                        obtain ⟨⟨r1, r2, r3, r4, r5⟩, ⟨r6, r7, r8, r9, r10⟩, _⟩ := hSw.all
                        clear hSw
                        go_simp
                      simp only [Act.put, List.getElem_toArray, List.getElem_cons_succ, List.getElem_cons_zero, List.setIfInBounds_toArray, List.set_cons_zero, List.set_cons_succ]
                      refine wpAnyH_take (i := 17) (v := ?_) rfl (by kernel_rfl) (by kernel_rfl) (by kernel_rfl) (fun _ _ _ h => h) (Or.inl ⟨by rfl, ?_⟩) hS2 ?_
                      rotate_left
                      · intro w' hSw
                        obtain ⟨⟨r1, r2, r3, r4, r5⟩, ⟨r6, r7, r8, r9, r10⟩, _⟩ := hSw.all
                        clear hSw
                        go_simp
                        try with_reducible rfl
                      simp only [Act.put, List.getElem_toArray, List.getElem_cons_succ, List.getElem_cons_zero, List.setIfInBounds_toArray, List.set_cons_zero, List.set_cons_succ]
                      (refine wpAnyH_ready (rs := [19]) (by kernel_rfl) (by simp) ?_)
                      refine AllReadyH.cons rfl (fun K hK => ?_) AllReadyH.nil
                      go_simp
                      (refine hK.out _ _ (hS0.keep ((Below.refl _ _).alloc (Nat.le_refl _) _)) (fun hS3 => ?_); clear hK K)
                      refine wpAnyH_done (by kernel_rfl) ?_ _
                      go_wp2_with fail
                      go_meet
                      exact ⟨wc.heap.size, rfl, hid (HF2.out.keep (((Below.refl _ _).drew).alloc (Nat.le_refl _) _)), hid (heap_alloc_new wc.drew _), hid hlw⟩
                  case rest =>
                    obtain ⟨b, rfl, HF3, HBX, HLB⟩ := hcut
                    have HA0 := hid (HF3.out.two HBX.out HLB.out)
                    obtain ⟨_, ⟨x0, x1, x2, x3, x4⟩, ⟨z0, z1, z2⟩⟩ := HF3.out.all
                    have f0 := frozen_of_row _ _ 0 _ _ HF3.out.x
                    have f1 := frozen_of_row _ _ 1 _ _ HF3.out.x
                    have f2 := frozen_of_row _ _ 2 _ _ HF3.out.x
                    have hwT : IntKind.i64.wrap (t + 1) = t + 1 := IntWalk.i64_in _ ⟨by omega, by omega⟩
                    have hwG : IntKind.i64.wrap (g + 1) = g + 1 := IntWalk.i64_in _ ⟨by omega, by omega⟩
                    have hstm : (st : Int) + 1 ≤ 9223372036854775807 := by omega
                    clear HUP HF2 hC2 hB2
                    by_cases hK1 : K = 1
                    · subst hK1
                      have hK1 : (1 : Int) = 1 := rfl
                      have g1 : ((1 : Int) == 1) = true := rfl
                      by_cases hN1 : N ≤ g + 1
                      · by_cases hS1' : S ≤ T2
                        · exact absurd HKK.out (by decide)
                        · exact absurd HKK.out (by decide)
                      · exact absurd HKK.out (by decide)
                    · have g1 : (K == 1) = false := by simpa using hK1
                      by_cases hK2 : K = 2
                      · subst hK2
                        have hK2 : (2 : Int) = 2 := rfl
                        have g2 : ((2 : Int) == 2) = true := rfl
                        by_cases hS1' : S ≤ T2
                        · have HOV := hid (show ovB 2 S N (tc + M) (g + 1) = true by rw [← HT2.out]; unfold ovB; rw [if_neg hK1, if_pos hK2, decide_eq_true hS1'])
                          go_upto_region 31 with (fail)
                          have HA9 := hid (show Af2 w _ #[.int .i64 (t + 1), .int .i64 ((st : Int) + 1), .int .i64 0, .int .i64 T2, .int .i64 A2] #[.int .i64 0, .int .i64 0, .int .i64 0, .int .i64 0, .int .i64 0] #[.int .i64 0, .int .i64 0, .int .i64 0, .int .i64 0] b #[.int .i64 st, .int .i64 T2, .int .i64 C2, .int .i64 B2] from ((((HA0.out.setX 0 (.int .i64 (t + 1))).setX 2 (.int .i64 (g + 1))).setX 1 (.int .i64 ((st : Int) + 1))).setX 2 (.int .i64 0)))
                          clear x0 x1 x2 x3 x4 z0 z1 z2 f0 f1 f2
                          generalize (World.setCell (World.setCell (World.setCell (World.setCell _ _ _) _ _) _ _) _ _) = W9 at HA9 ⊢
                          have j0 := cell_of_row _ _ 0 _ _ _ HA9.out.r; have j1 := cell_of_row _ _ 1 _ _ _ HA9.out.r; have j2 := cell_of_row _ _ 2 _ _ _ HA9.out.r; have j3 := cell_of_row _ _ 3 _ _ _ HA9.out.r; have j4 := cell_of_row _ _ 4 _ _ _ HA9.out.r
                          have i0 := frozen_of_row _ _ 0 _ _ HA9.out.r; have i1 := frozen_of_row _ _ 1 _ _ HA9.out.r; have i2 := frozen_of_row _ _ 2 _ _ HA9.out.r; have i3 := frozen_of_row _ _ 3 _ _ HA9.out.r; have i4 := frozen_of_row _ _ 4 _ _ HA9.out.r
                          simp only [List.getElem?_toArray, List.getElem?_cons_zero, List.getElem?_cons_succ] at j0 j1 j2 j3 j4
                          refine wp_region_held_drew (S := fun w1 => ∃ cr ce, Af2 w w1 #[.int .i64 (t + 1), .int .i64 ((st : Int) + 1), .int .i64 0, .int .i64 T2, .int .i64 A2] cr ce b #[.int .i64 st, .int .i64 T2, .int .i64 C2, .int .i64 B2]) (by kernel_rfl) ⟨_, _, HA9.out.keep (Below.refl _ _).drew⟩ (fun hS0 => ?_)
                          refine wpAnyH_take (i := 0) (v := ?_) rfl (by kernel_rfl) (by kernel_rfl) (by kernel_rfl) (fun _ _ _ h => h) (Or.inl ⟨by rfl, ?_⟩) hS0 ?_
                          rotate_left
                          · intro w' hSw
                            obtain ⟨q1, q2, hq⟩ := hSw
                            have r0 := cell_of_row _ _ 0 _ _ _ hq.x; have r1 := cell_of_row _ _ 1 _ _ _ hq.x; have r2 := cell_of_row _ _ 2 _ _ _ hq.x; have r3 := cell_of_row _ _ 3 _ _ _ hq.x; have r4 := cell_of_row _ _ 4 _ _ _ hq.x
                            have r5 := cell_of_row _ _ 0 _ _ _ hq.bb; have r6 := cell_of_row _ _ 1 _ _ _ hq.bb; have r7 := cell_of_row _ _ 2 _ _ _ hq.bb; have r8 := cell_of_row _ _ 3 _ _ _ hq.bb
                            simp only [List.getElem?_toArray, List.getElem?_cons_zero, List.getElem?_cons_succ] at r0 r1 r2 r3 r4 r5 r6 r7 r8
                            clear hq
                            go_simp
                            try with_reducible rfl
                          simp only [Act.put, List.getElem_toArray, List.getElem_cons_succ, List.getElem_cons_zero, List.setIfInBounds_toArray, List.set_cons_zero, List.set_cons_succ]
                          refine wpAnyH_take (i := 1) (v := ?_) rfl (by kernel_rfl) (by kernel_rfl) (by kernel_rfl) (fun _ _ _ h => h) (Or.inl ⟨by rfl, ?_⟩) hS0 ?_
                          rotate_left
                          · intro w' hSw
                            obtain ⟨q1, q2, hq⟩ := hSw
                            have r0 := cell_of_row _ _ 0 _ _ _ hq.x; have r1 := cell_of_row _ _ 1 _ _ _ hq.x; have r2 := cell_of_row _ _ 2 _ _ _ hq.x; have r3 := cell_of_row _ _ 3 _ _ _ hq.x; have r4 := cell_of_row _ _ 4 _ _ _ hq.x
                            have r5 := cell_of_row _ _ 0 _ _ _ hq.bb; have r6 := cell_of_row _ _ 1 _ _ _ hq.bb; have r7 := cell_of_row _ _ 2 _ _ _ hq.bb; have r8 := cell_of_row _ _ 3 _ _ _ hq.bb
                            simp only [List.getElem?_toArray, List.getElem?_cons_zero, List.getElem?_cons_succ] at r0 r1 r2 r3 r4 r5 r6 r7 r8
                            clear hq
                            go_simp
                            try with_reducible rfl
                          simp only [Act.put, List.getElem_toArray, List.getElem_cons_succ, List.getElem_cons_zero, List.setIfInBounds_toArray, List.set_cons_zero, List.set_cons_succ]
                          (refine wpAnyH_ready (rs := [2]) (by kernel_rfl) (by simp) ?_)
                          refine AllReadyH.cons rfl (fun K hK => ?_) AllReadyH.nil
                          go_simp
                          have H31 := hid (show Af2 w _ #[.int .i64 (t + 1), .int .i64 ((st : Int) + 1), .int .i64 0, .int .i64 T2, .int .i64 A2] #[.int .i64 (t + 1), .int .i64 ((st : Int) + 1), .int .i64 0, .int .i64 T2, .int .i64 A2] #[.int .i64 0, .int .i64 0, .int .i64 0, .int .i64 0] b #[.int .i64 st, .int .i64 T2, .int .i64 C2, .int .i64 B2] from (((((HA9.out.setR 0 (.int .i64 (t + 1))).setR 1 (.int .i64 ((st : Int) + 1))).setR 2 (.int .i64 0)).setR 3 (.int .i64 T2)).setR 4 (.int .i64 A2)).keep (Below.refl _ _).drew)
                          (refine hK.out _ _ (⟨_, _, H31.out⟩) (fun hS1 => ?_); clear hK K)
                          clear hS0 j0 j1 j2 j3 j4 i0 i1 i2 i3 i4
                          generalize World.drew (World.setCell (World.setCell (World.setCell (World.setCell (World.setCell W9 _ _) _ _) _ _) _ _) _ _) = W10 at H31 hS1 ⊢
                          have j0 := cell_of_row _ _ 0 _ _ _ H31.out.e; have j1 := cell_of_row _ _ 1 _ _ _ H31.out.e; have j2 := cell_of_row _ _ 2 _ _ _ H31.out.e; have j3 := cell_of_row _ _ 3 _ _ _ H31.out.e
                          have i0 := frozen_of_row _ _ 0 _ _ H31.out.e; have i1 := frozen_of_row _ _ 1 _ _ H31.out.e; have i2 := frozen_of_row _ _ 2 _ _ H31.out.e; have i3 := frozen_of_row _ _ 3 _ _ H31.out.e
                          simp only [List.getElem?_toArray, List.getElem?_cons_zero, List.getElem?_cons_succ] at j0 j1 j2 j3
                          (refine wpAnyH_ready (rs := [3]) (by kernel_rfl) (by simp) ?_)
                          refine AllReadyH.cons rfl (fun K hK => ?_) AllReadyH.nil
                          go_simp
                          have H32 := hid (show Af2 w _ #[.int .i64 (t + 1), .int .i64 ((st : Int) + 1), .int .i64 0, .int .i64 T2, .int .i64 A2] #[.int .i64 (t + 1), .int .i64 ((st : Int) + 1), .int .i64 0, .int .i64 T2, .int .i64 A2] #[.int .i64 st, .int .i64 T2, .int .i64 C2, .int .i64 B2] b #[.int .i64 st, .int .i64 T2, .int .i64 C2, .int .i64 B2] from (((H31.out.setE 0 (.int .i64 st)).setE 1 (.int .i64 T2)).setE 2 (.int .i64 C2)).setE 3 (.int .i64 B2))
                          (refine hK.out _ _ (⟨_, _, H32.out⟩) (fun hS2 => ?_); clear hK K)
                          clear hS1 j0 j1 j2 j3 i0 i1 i2 i3
                          refine wpAnyH_done (by kernel_rfl) ?_ _
                          go_wp2_with fail
                          have k0 := cell_of_row _ _ 0 _ _ _ H32.out.r; have k1 := cell_of_row _ _ 1 _ _ _ H32.out.r; have k2 := cell_of_row _ _ 2 _ _ _ H32.out.r; have k3 := cell_of_row _ _ 3 _ _ _ H32.out.r; have k4 := cell_of_row _ _ 4 _ _ _ H32.out.r
                          have l0 := cell_of_row _ _ 0 _ _ _ H32.out.e; have l1 := cell_of_row _ _ 1 _ _ _ H32.out.e; have l2 := cell_of_row _ _ 2 _ _ _ H32.out.e; have l3 := cell_of_row _ _ 3 _ _ _ H32.out.e
                          simp only [List.getElem?_toArray, List.getElem?_cons_zero, List.getElem?_cons_succ] at k0 k1 k2 k3 k4 l0 l1 l2 l3
                          refine bodyPost_ret (v := .tuple #[.agg #[.int .i64 (t + 1), .int .i64 ((st : Int) + 1), .int .i64 0, .int .i64 T2, .int .i64 A2], .agg #[.int .i64 st, .int .i64 T2, .int .i64 C2, .int .i64 B2]]) (by simp [results, Try.results77, go_sem, k0, k1, k2, k3, k4, l0, l1, l2, l3]) rfl ⟨?_, H32.out.low⟩
                          (try rw [hD]); rw [← HMM.out, HOV.out, ← HT2.out, ← HA2.out, HRES.out.1, HRES.out.2]
                          rfl
                        · have HOV := hid (show ovB 2 S N (tc + M) (g + 1) = false by rw [← HT2.out]; unfold ovB; rw [if_neg hK1, if_pos hK2, decide_eq_false hS1'])
                          go_upto_region 31 with (fail)
                          have HA9 := hid (show Af2 w _ #[.int .i64 (t + 1), .int .i64 st, .int .i64 (g + 1), .int .i64 T2, .int .i64 A2] #[.int .i64 0, .int .i64 0, .int .i64 0, .int .i64 0, .int .i64 0] #[.int .i64 0, .int .i64 0, .int .i64 0, .int .i64 0] b #[.int .i64 st, .int .i64 T2, .int .i64 C2, .int .i64 B2] from ((HA0.out.setX 0 (.int .i64 (t + 1))).setX 2 (.int .i64 (g + 1))))
                          clear x0 x1 x2 x3 x4 z0 z1 z2 f0 f1 f2
                          generalize (World.setCell (World.setCell _ _ _) _ _) = W9 at HA9 ⊢
                          have j0 := cell_of_row _ _ 0 _ _ _ HA9.out.r; have j1 := cell_of_row _ _ 1 _ _ _ HA9.out.r; have j2 := cell_of_row _ _ 2 _ _ _ HA9.out.r; have j3 := cell_of_row _ _ 3 _ _ _ HA9.out.r; have j4 := cell_of_row _ _ 4 _ _ _ HA9.out.r
                          have i0 := frozen_of_row _ _ 0 _ _ HA9.out.r; have i1 := frozen_of_row _ _ 1 _ _ HA9.out.r; have i2 := frozen_of_row _ _ 2 _ _ HA9.out.r; have i3 := frozen_of_row _ _ 3 _ _ HA9.out.r; have i4 := frozen_of_row _ _ 4 _ _ HA9.out.r
                          simp only [List.getElem?_toArray, List.getElem?_cons_zero, List.getElem?_cons_succ] at j0 j1 j2 j3 j4
                          refine wp_region_held_drew (S := fun w1 => ∃ cr ce, Af2 w w1 #[.int .i64 (t + 1), .int .i64 st, .int .i64 (g + 1), .int .i64 T2, .int .i64 A2] cr ce b #[.int .i64 st, .int .i64 T2, .int .i64 C2, .int .i64 B2]) (by kernel_rfl) ⟨_, _, HA9.out.keep (Below.refl _ _).drew⟩ (fun hS0 => ?_)
                          refine wpAnyH_take (i := 0) (v := ?_) rfl (by kernel_rfl) (by kernel_rfl) (by kernel_rfl) (fun _ _ _ h => h) (Or.inl ⟨by rfl, ?_⟩) hS0 ?_
                          rotate_left
                          · intro w' hSw
                            obtain ⟨q1, q2, hq⟩ := hSw
                            have r0 := cell_of_row _ _ 0 _ _ _ hq.x; have r1 := cell_of_row _ _ 1 _ _ _ hq.x; have r2 := cell_of_row _ _ 2 _ _ _ hq.x; have r3 := cell_of_row _ _ 3 _ _ _ hq.x; have r4 := cell_of_row _ _ 4 _ _ _ hq.x
                            have r5 := cell_of_row _ _ 0 _ _ _ hq.bb; have r6 := cell_of_row _ _ 1 _ _ _ hq.bb; have r7 := cell_of_row _ _ 2 _ _ _ hq.bb; have r8 := cell_of_row _ _ 3 _ _ _ hq.bb
                            simp only [List.getElem?_toArray, List.getElem?_cons_zero, List.getElem?_cons_succ] at r0 r1 r2 r3 r4 r5 r6 r7 r8
                            clear hq
                            go_simp
                            try with_reducible rfl
                          simp only [Act.put, List.getElem_toArray, List.getElem_cons_succ, List.getElem_cons_zero, List.setIfInBounds_toArray, List.set_cons_zero, List.set_cons_succ]
                          refine wpAnyH_take (i := 1) (v := ?_) rfl (by kernel_rfl) (by kernel_rfl) (by kernel_rfl) (fun _ _ _ h => h) (Or.inl ⟨by rfl, ?_⟩) hS0 ?_
                          rotate_left
                          · intro w' hSw
                            obtain ⟨q1, q2, hq⟩ := hSw
                            have r0 := cell_of_row _ _ 0 _ _ _ hq.x; have r1 := cell_of_row _ _ 1 _ _ _ hq.x; have r2 := cell_of_row _ _ 2 _ _ _ hq.x; have r3 := cell_of_row _ _ 3 _ _ _ hq.x; have r4 := cell_of_row _ _ 4 _ _ _ hq.x
                            have r5 := cell_of_row _ _ 0 _ _ _ hq.bb; have r6 := cell_of_row _ _ 1 _ _ _ hq.bb; have r7 := cell_of_row _ _ 2 _ _ _ hq.bb; have r8 := cell_of_row _ _ 3 _ _ _ hq.bb
                            simp only [List.getElem?_toArray, List.getElem?_cons_zero, List.getElem?_cons_succ] at r0 r1 r2 r3 r4 r5 r6 r7 r8
                            clear hq
                            go_simp
                            try with_reducible rfl
                          simp only [Act.put, List.getElem_toArray, List.getElem_cons_succ, List.getElem_cons_zero, List.setIfInBounds_toArray, List.set_cons_zero, List.set_cons_succ]
                          (refine wpAnyH_ready (rs := [2]) (by kernel_rfl) (by simp) ?_)
                          refine AllReadyH.cons rfl (fun K hK => ?_) AllReadyH.nil
                          go_simp
                          have H31 := hid (show Af2 w _ #[.int .i64 (t + 1), .int .i64 st, .int .i64 (g + 1), .int .i64 T2, .int .i64 A2] #[.int .i64 (t + 1), .int .i64 st, .int .i64 (g + 1), .int .i64 T2, .int .i64 A2] #[.int .i64 0, .int .i64 0, .int .i64 0, .int .i64 0] b #[.int .i64 st, .int .i64 T2, .int .i64 C2, .int .i64 B2] from (((((HA9.out.setR 0 (.int .i64 (t + 1))).setR 1 (.int .i64 st)).setR 2 (.int .i64 (g + 1))).setR 3 (.int .i64 T2)).setR 4 (.int .i64 A2)).keep (Below.refl _ _).drew)
                          (refine hK.out _ _ (⟨_, _, H31.out⟩) (fun hS1 => ?_); clear hK K)
                          clear hS0 j0 j1 j2 j3 j4 i0 i1 i2 i3 i4
                          generalize World.drew (World.setCell (World.setCell (World.setCell (World.setCell (World.setCell W9 _ _) _ _) _ _) _ _) _ _) = W10 at H31 hS1 ⊢
                          have j0 := cell_of_row _ _ 0 _ _ _ H31.out.e; have j1 := cell_of_row _ _ 1 _ _ _ H31.out.e; have j2 := cell_of_row _ _ 2 _ _ _ H31.out.e; have j3 := cell_of_row _ _ 3 _ _ _ H31.out.e
                          have i0 := frozen_of_row _ _ 0 _ _ H31.out.e; have i1 := frozen_of_row _ _ 1 _ _ H31.out.e; have i2 := frozen_of_row _ _ 2 _ _ H31.out.e; have i3 := frozen_of_row _ _ 3 _ _ H31.out.e
                          simp only [List.getElem?_toArray, List.getElem?_cons_zero, List.getElem?_cons_succ] at j0 j1 j2 j3
                          (refine wpAnyH_ready (rs := [3]) (by kernel_rfl) (by simp) ?_)
                          refine AllReadyH.cons rfl (fun K hK => ?_) AllReadyH.nil
                          go_simp
                          have H32 := hid (show Af2 w _ #[.int .i64 (t + 1), .int .i64 st, .int .i64 (g + 1), .int .i64 T2, .int .i64 A2] #[.int .i64 (t + 1), .int .i64 st, .int .i64 (g + 1), .int .i64 T2, .int .i64 A2] #[.int .i64 st, .int .i64 T2, .int .i64 C2, .int .i64 B2] b #[.int .i64 st, .int .i64 T2, .int .i64 C2, .int .i64 B2] from (((H31.out.setE 0 (.int .i64 st)).setE 1 (.int .i64 T2)).setE 2 (.int .i64 C2)).setE 3 (.int .i64 B2))
                          (refine hK.out _ _ (⟨_, _, H32.out⟩) (fun hS2 => ?_); clear hK K)
                          clear hS1 j0 j1 j2 j3 i0 i1 i2 i3
                          refine wpAnyH_done (by kernel_rfl) ?_ _
                          go_wp2_with fail
                          have k0 := cell_of_row _ _ 0 _ _ _ H32.out.r; have k1 := cell_of_row _ _ 1 _ _ _ H32.out.r; have k2 := cell_of_row _ _ 2 _ _ _ H32.out.r; have k3 := cell_of_row _ _ 3 _ _ _ H32.out.r; have k4 := cell_of_row _ _ 4 _ _ _ H32.out.r
                          have l0 := cell_of_row _ _ 0 _ _ _ H32.out.e; have l1 := cell_of_row _ _ 1 _ _ _ H32.out.e; have l2 := cell_of_row _ _ 2 _ _ _ H32.out.e; have l3 := cell_of_row _ _ 3 _ _ _ H32.out.e
                          simp only [List.getElem?_toArray, List.getElem?_cons_zero, List.getElem?_cons_succ] at k0 k1 k2 k3 k4 l0 l1 l2 l3
                          refine bodyPost_ret (v := .tuple #[.agg #[.int .i64 (t + 1), .int .i64 st, .int .i64 (g + 1), .int .i64 T2, .int .i64 A2], .agg #[.int .i64 st, .int .i64 T2, .int .i64 C2, .int .i64 B2]]) (by simp [results, Try.results77, go_sem, k0, k1, k2, k3, k4, l0, l1, l2, l3]) rfl ⟨?_, H32.out.low⟩
                          (try rw [hD]); rw [← HMM.out, HOV.out, ← HT2.out, ← HA2.out, HRES.out.1, HRES.out.2]
                          rfl
                      · have g2 : (K == 2) = false := by simpa using hK2
                        by_cases hN1 : N ≤ g + 1
                        · exact absurd HKK.out hK2
                        · exact absurd HKK.out hK2
end Go.Proofs.Ytpkcnojcklmhmaa
