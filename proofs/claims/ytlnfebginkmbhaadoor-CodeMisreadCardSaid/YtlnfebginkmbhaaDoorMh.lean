/- Walk of CodeMisread: a sign changed to another. -/
import Derived.Test.YtlnfebginkmbhaaDoorMg
namespace Go.Proofs.YtlnfebginkmbhaaDoor
open Go.RowKit

theorem holds_keep {w w2 : World} {g : Nat} {d : Array (List UInt8)} (h : Go.Sort.Holds encStr w g 0 d) (hb : Below w.heap.size w w2) : Go.Sort.Holds encStr w2 g 0 d := fun j hj => by
  obtain ⟨h1, h2⟩ := h j hj
  exact ⟨keep_cell hb h1, ((bcell hb).2 _ _ (World.block_lt_of_cell? w ⟨g, 0 + j, none⟩ h1)).trans h2⟩
theorem holds_at {w : World} {g : Nat} {ss : List (List UInt8)} (h : Go.Sort.Holds encStr w g 0 ss.toArray) {j : Nat} (hj : j < ss.length) : w.cell? ⟨g, j, none⟩ = some (.string ⟨(ss[j]'hj).toArray⟩) := by
  have h1 := (h j (by simpa using hj)).1
  rw [Nat.zero_add] at h1
  rw [h1]
  simp [hj]
set_option maxRecDepth 100000 in
set_option maxHeartbeats 1000000 in
theorem misread_q (s T : ByteArray) (k : Nat) (x : Int) (w : World) (hw : Wts w) (h : soundS s = true) (hk : k < 9) (hx : 0 ≤ x ∧ x ≤ 30) (hsz : s.size = 9)
    (hT : T = setS s k (sgn x)) (hST : soundS T = false) (hTB : (T.toList == s.toList) = false) (hMEM : s.data.toList ∈ nearL (vals T) 9) (hBS : ∀ W, Wts W → Calls Tryd.prog 37 #[.string T] W fun e w' => ∃ (g cap : Nat) (ss : List (List UInt8)), e = .returned (.tuple #[.slice (some ⟨g, 0, none⟩) 9 cap, .int .i64 0]) ∧ ss.length = 9 ∧ (∀ x, x ∈ ss ↔ x ∈ nearL (vals T) 9) ∧ Hid (Go.Sort.Holds encStr w' g 0 ss.toArray) ∧ Below W.heap.size W w') (hSw : SwapB s k) :
    Calls Tryd.prog 7 #[.string s, .int .i64 (k : Int), .int .i64 x] w fun e w' => e = .returned (.bool true) ∧ Below w.heap.size w w' := by
  have HW := hid hw
  have h4 : decide ((k : Int) < 0) = false := by simp
  have h5 : decide (8 < (k : Int)) = false := by simp; omega
  have h7 : (((sgn x).toNat : Int) == 0) = false := sgn_nz hx
  have HS := hid h
  have HCH := hid (fun W => xchanged_any s k (sgn x) W (by omega))
  rw [← hT] at HCH
  have HST := hid hST
  have HBS := hid hBS
  have HMEM := hid hMEM
  clear hST hBS hMEM
  clear h hw hx hT
  rcases hSw with rfl | ⟨hk8, heq⟩ | ⟨hk8, hdif⟩
  · clear hk hsz
    go_enter Tryd.func7, Tryd.ntmps7
    go_wp2_with fail
    refine (awake6_any _ HW.out).mono ?_
    rintro e w1 ⟨rfl, hb⟩
    have HB1 := hid hb
    clear hb
    go_wp2_with fail
    refine (xsound_any s w1).mono ?_
    rintro e w2 ⟨rfl, rfl⟩
    rw [HS.out]
    go_wp2_with (go_at_call 27; refine (xsign_any _ _).mono ?_; rintro e w2 ⟨rfl, rfl⟩)
    go_quiet (fail)
    have HB2 := hid (bdrewN (n := nq) HB1.out)
    generalize World.drewN w2 nq = w3 at *
    go_wp2_with (go_at_call 27; refine (xsign_any _ _).mono ?_; rintro e w3 ⟨rfl, rfl⟩)
    refine (HCH.out _).mono ?_
    rintro e w4 ⟨rfl, hb⟩
    have HB4 := hid (bstep HB2.out HB2.out.size hb)
    clear hb
    go_wp2_with fail
    refine (HBS.out _ (HW.out.keep HB4.out)).mono ?_
    rintro e w5 ⟨g, cap, ss, rfl, hss, hmm, hH, hb⟩
    have HB5 := hid (bstep HB4.out HB4.out.size hb)
    have HSS := hid hss
    have HMM := hid ((hmm _).2 HMEM.out)
    clear hb hss hmm
    go_wp2_with fail
    refine (csound_any T _ (HW.out.keep HB5.out)).mono ?_
    rintro e w6 ⟨rfl, hb⟩
    rw [HST.out]
    have HH := hid (holds_keep hH.out hb)
    have HB6 := hid (bstep HB5.out HB5.out.size hb)
    clear hb hH
    go_wp2_with fail
    go_loopw [11] (fun t wr => ∃ j : Nat, j ≤ 9 ∧ t = .int .i64 (j : Int) ∧ Hid (wr = w6 ∧ ∀ i < j, ss[i]? ≠ some s.data.toList)) (fun t _ => 9 - (intOf t).toNat)
    case atStart => exact ⟨0, by omega, rfl, rfl, fun i hi => absurd hi (Nat.not_lt_zero i)⟩
    case round =>
      obtain ⟨j, hj, rfl, hR⟩ := hrel
      obtain ⟨rfl, hno⟩ := hR.out
      have HNO := hid hno
      clear hR hno
      by_cases hlt : j < 9
      · have hjl : j < ss.length := by rw [HSS.out]; exact hlt
        have hc := holds_at HH.out hjl
        have HYJ := hid (List.getElem?_eq_getElem hjl)
        generalize ss[j] = y at hc HYJ
        obtain ⟨Y, hY⟩ : ∃ Y : ByteArray, Y = ⟨y.toArray⟩ := ⟨_, rfl⟩
        rw [← hY] at hc
        have HYY := hid hY
        have HLT := hid hlt
        have hlt' : (j : Int) < 9 := by omega
        clear hjl hlt hY
        cases hq : (Y.toList == s.toList)
        · have HYN : Hid (y ≠ s.data.toList) := fun e => by
            have e2 : Y = s := by rw [HYY.out, e]
            rw [e2] at hq
            simp at hq
          go_wp2_with fail
          go_roundw
          case rel =>
            refine ⟨j + 1, HLT.out, by go_num, by simp, fun i hi e => ?_⟩
            rcases Nat.lt_succ_iff_lt_or_eq.1 hi with h1 | h1
            · exact HNO.out i h1 e
            · subst h1
              rw [HYJ.out] at e
              exact HYN (Option.some.inj e)
          case measure => have := HLT.out; simp [intOf]; omega
        · go_wp2_with fail
          go_ret
          exact ⟨rfl, HB6.out⟩
      · obtain ⟨i, hi⟩ := List.mem_iff_getElem?.1 HMM.out
        have h1 := (List.getElem?_eq_some_iff.1 hi).1
        rw [HSS.out] at h1
        exact absurd hi (HNO.out i (by omega))
  · have g0 : k < s.size := by omega
    have g1 : k + 1 < s.size := by omega
    have h6 : decide ((k : Int) < 8) = true := by simp; omega
    have hwr : IntKind.i64.wrap ((k : Int) + 1) = ((k + 1 : Nat) : Int) := by
      have e : (((k + 1 : Nat) : Int)) = (k : Int) + 1 := by omega
      rw [e, IntKind.wrap_i64]; omega
    have r1 := fun W => str_run s k g0 W
    have r2 : ∀ W, (Instr.index 9 (.string s) (.int .i64 (IntKind.i64.wrap ((k : Int) + 1)))).run Tryd.prog W = .ok (.int .u8 ((s[k + 1]'g1).toNat : Int)) W := by rw [hwr]; exact fun W => str_run s (k + 1) g1 W
    have e0 : s[k]'g0 = s[k + 1]'g1 := by
      rw [List.getElem?_eq_getElem (by exact g0), List.getElem?_eq_getElem (by exact g1)] at heq
      exact Option.some.inj heq
    rw [← e0] at r2
    clear heq hwr hk hk8 hsz e0
    generalize s[k]'g0 = c0 at *
    have hne : ((c0.toNat : Int) != (c0.toNat : Int)) = false := by simp
    clear g0 g1
    go_enter Tryd.func7, Tryd.ntmps7
    go_wp2_with fail
    refine (awake6_any _ HW.out).mono ?_
    rintro e w1 ⟨rfl, hb⟩
    have HB1 := hid hb
    clear hb
    go_wp2_with fail
    refine (xsound_any s w1).mono ?_
    rintro e w2 ⟨rfl, rfl⟩
    rw [HS.out]
    go_wp2_with (go_at_call 27; refine (xsign_any _ _).mono ?_; rintro e w2 ⟨rfl, rfl⟩)
    go_quiet (fail)
    have HB2 := hid (bdrewN (n := nq) HB1.out)
    generalize World.drewN w2 nq = w3 at *
    go_wp2_with (go_at_call 27; refine (xsign_any _ _).mono ?_; rintro e w3 ⟨rfl, rfl⟩)
    refine (HCH.out _).mono ?_
    rintro e w4 ⟨rfl, hb⟩
    have HB4 := hid (bstep HB2.out HB2.out.size hb)
    clear hb
    go_wp2_with fail
    refine (HBS.out _ (HW.out.keep HB4.out)).mono ?_
    rintro e w5 ⟨g, cap, ss, rfl, hss, hmm, hH, hb⟩
    have HB5 := hid (bstep HB4.out HB4.out.size hb)
    have HSS := hid hss
    have HMM := hid ((hmm _).2 HMEM.out)
    clear hb hss hmm
    go_wp2_with fail
    refine (csound_any T _ (HW.out.keep HB5.out)).mono ?_
    rintro e w6 ⟨rfl, hb⟩
    rw [HST.out]
    have HH := hid (holds_keep hH.out hb)
    have HB6 := hid (bstep HB5.out HB5.out.size hb)
    clear hb hH
    go_wp2_with fail
    go_loopw [11] (fun t wr => ∃ j : Nat, j ≤ 9 ∧ t = .int .i64 (j : Int) ∧ Hid (wr = w6 ∧ ∀ i < j, ss[i]? ≠ some s.data.toList)) (fun t _ => 9 - (intOf t).toNat)
    case atStart => exact ⟨0, by omega, rfl, rfl, fun i hi => absurd hi (Nat.not_lt_zero i)⟩
    case round =>
      obtain ⟨j, hj, rfl, hR⟩ := hrel
      obtain ⟨rfl, hno⟩ := hR.out
      have HNO := hid hno
      clear hR hno
      by_cases hlt : j < 9
      · have hjl : j < ss.length := by rw [HSS.out]; exact hlt
        have hc := holds_at HH.out hjl
        have HYJ := hid (List.getElem?_eq_getElem hjl)
        generalize ss[j] = y at hc HYJ
        obtain ⟨Y, hY⟩ : ∃ Y : ByteArray, Y = ⟨y.toArray⟩ := ⟨_, rfl⟩
        rw [← hY] at hc
        have HYY := hid hY
        have HLT := hid hlt
        have hlt' : (j : Int) < 9 := by omega
        clear hjl hlt hY
        cases hq : (Y.toList == s.toList)
        · have HYN : Hid (y ≠ s.data.toList) := fun e => by
            have e2 : Y = s := by rw [HYY.out, e]
            rw [e2] at hq
            simp at hq
          go_wp2_with fail
          go_roundw
          case rel =>
            refine ⟨j + 1, HLT.out, by go_num, by simp, fun i hi e => ?_⟩
            rcases Nat.lt_succ_iff_lt_or_eq.1 hi with h1 | h1
            · exact HNO.out i h1 e
            · subst h1
              rw [HYJ.out] at e
              exact HYN (Option.some.inj e)
          case measure => have := HLT.out; simp [intOf]; omega
        · go_wp2_with fail
          go_ret
          exact ⟨rfl, HB6.out⟩
      · obtain ⟨i, hi⟩ := List.mem_iff_getElem?.1 HMM.out
        have h1 := (List.getElem?_eq_some_iff.1 hi).1
        rw [HSS.out] at h1
        exact absurd hi (HNO.out i (by omega))
  · have g0 : k < s.size := by omega
    have g1 : k + 1 < s.size := by omega
    have h6 : decide ((k : Int) < 8) = true := by simp; omega
    have hwr : IntKind.i64.wrap ((k : Int) + 1) = ((k + 1 : Nat) : Int) := by
      have e : (((k + 1 : Nat) : Int)) = (k : Int) + 1 := by omega
      rw [e, IntKind.wrap_i64]; omega
    have r1 := fun W => str_run s k g0 W
    have r2 : ∀ W, (Instr.index 9 (.string s) (.int .i64 (IntKind.i64.wrap ((k : Int) + 1)))).run Tryd.prog W = .ok (.int .u8 ((s[k + 1]'g1).toNat : Int)) W := by rw [hwr]; exact fun W => str_run s (k + 1) g1 W
    obtain ⟨hne, hso⟩ := hdif (s[k]'g0) (s[k + 1]'g1) (List.getElem?_eq_getElem (by exact g0)) (List.getElem?_eq_getElem (by exact g1))
    have HTAB := hid (changed_two s k (s[k + 1]'g1) (s[k]'g0) (IntKind.i64.wrap ((k : Int) + 1)) g1 hwr)
    have HSO := hid hso
    clear hdif hwr hk hk8 hsz hso
    generalize s[k]'g0 = c0 at *
    generalize s[k + 1]'g1 = c1 at *
    generalize setS (setS s k c1) (k + 1) c0 = U at *
    generalize setS s k c1 = V at *
    have hne2 : ((c0.toNat : Int) != (c1.toNat : Int)) = true := by
      simp only [bne_iff_ne, ne_eq]
      intro e
      exact hne (UInt8.toNat_inj.1 (by omega))
    clear g0 g1 hne
    go_enter Tryd.func7, Tryd.ntmps7
    go_wp2_with fail
    refine (awake6_any _ HW.out).mono ?_
    rintro e w1 ⟨rfl, hb⟩
    have HB1 := hid hb
    clear hb
    go_wp2_with fail
    refine (xsound_any s w1).mono ?_
    rintro e w2 ⟨rfl, rfl⟩
    rw [HS.out]
    go_wp2_with (go_at_call 27; refine (xsign_any _ _).mono ?_; rintro e w2 ⟨rfl, rfl⟩)
    go_quiet (fail)
    have HB2 := hid (bdrewN (n := nq) HB1.out)
    generalize World.drewN w2 nq = w3 at *
    go_wp2_with fail
    go_region_held3 (fun w' => Hid (Below w.heap.size w w')) (first | exact hid (HB2.out.drew) | assumption)
      ((go_at_call 36; refine Calls.mono (HTAB.out _ _ _ _ _ (by first | exact .inl ⟨rfl, rfl, rfl, rfl⟩ | exact .inr ⟨rfl, rfl, rfl, rfl⟩)) ?_; rintro e wk ⟨rfl, hb⟩; have HDD := hid (bstep2 (w := w) hb (by assumption))))
    all_goals
      go_wp2_with fail
      refine (csound_any U _ (HW.out.keep HDD.out)).mono ?_
      rintro e w6 ⟨rfl, hb⟩
      rw [HSO.out]
      have HB2 := hid (bstep2 hb HDD)
      clear hb
      go_wp2_with (go_at_call 27; refine (xsign_any _ _).mono ?_; rintro e w3 ⟨rfl, rfl⟩)
      refine (HCH.out _).mono ?_
      rintro e w4 ⟨rfl, hb⟩
      have HB4 := hid (bstep HB2.out HB2.out.size hb)
      clear hb
      go_wp2_with fail
      refine (HBS.out _ (HW.out.keep HB4.out)).mono ?_
      rintro e w5 ⟨g, cap, ss, rfl, hss, hmm, hH, hb⟩
      have HB5 := hid (bstep HB4.out HB4.out.size hb)
      have HSS := hid hss
      have HMM := hid ((hmm _).2 HMEM.out)
      clear hb hss hmm
      go_wp2_with fail
      refine (csound_any T _ (HW.out.keep HB5.out)).mono ?_
      rintro e w6 ⟨rfl, hb⟩
      rw [HST.out]
      have HH := hid (holds_keep hH.out hb)
      have HB6 := hid (bstep HB5.out HB5.out.size hb)
      clear hb hH
      go_wp2_with fail
      go_loopw [11] (fun t wr => ∃ j : Nat, j ≤ 9 ∧ t = .int .i64 (j : Int) ∧ Hid (wr = w6 ∧ ∀ i < j, ss[i]? ≠ some s.data.toList)) (fun t _ => 9 - (intOf t).toNat)
      case atStart => exact ⟨0, by omega, rfl, rfl, fun i hi => absurd hi (Nat.not_lt_zero i)⟩
      case round =>
        obtain ⟨j, hj, rfl, hR⟩ := hrel
        obtain ⟨rfl, hno⟩ := hR.out
        have HNO := hid hno
        clear hR hno
        by_cases hlt : j < 9
        · have hjl : j < ss.length := by rw [HSS.out]; exact hlt
          have hc := holds_at HH.out hjl
          have HYJ := hid (List.getElem?_eq_getElem hjl)
          generalize ss[j] = y at hc HYJ
          obtain ⟨Y, hY⟩ : ∃ Y : ByteArray, Y = ⟨y.toArray⟩ := ⟨_, rfl⟩
          rw [← hY] at hc
          have HYY := hid hY
          have HLT := hid hlt
          have hlt' : (j : Int) < 9 := by omega
          clear hjl hlt hY
          cases hq : (Y.toList == s.toList)
          · have HYN : Hid (y ≠ s.data.toList) := fun e => by
              have e2 : Y = s := by rw [HYY.out, e]
              rw [e2] at hq
              simp at hq
            go_wp2_with fail
            go_roundw
            case rel =>
              refine ⟨j + 1, HLT.out, by go_num, by simp, fun i hi e => ?_⟩
              rcases Nat.lt_succ_iff_lt_or_eq.1 hi with h1 | h1
              · exact HNO.out i h1 e
              · subst h1
                rw [HYJ.out] at e
                exact HYN (Option.some.inj e)
            case measure => have := HLT.out; simp [intOf]; omega
          · go_wp2_with fail
            go_ret
            exact ⟨rfl, HB6.out⟩
        · obtain ⟨i, hi⟩ := List.mem_iff_getElem?.1 HMM.out
          have h1 := (List.getElem?_eq_some_iff.1 hi).1
          rw [HSS.out] at h1
          exact absurd hi (HNO.out i (by omega))
end Go.Proofs.YtlnfebginkmbhaaDoor
