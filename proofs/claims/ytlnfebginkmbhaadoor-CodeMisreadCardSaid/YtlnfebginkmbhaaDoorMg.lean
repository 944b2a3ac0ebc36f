/- Walk of CodeMisread: a sign changed, neighbours exchanged. -/
import Derived.Test.YtlnfebginkmbhaaDoorMf
namespace Go.Proofs.YtlnfebginkmbhaaDoor
open Go.RowKit

theorem sg_nz : ∀ v : Fin 31, ((sg.getD v.val 0).toNat == 0) = false := by decide
theorem sgn_nz {x : Int} (h : 0 ≤ x ∧ x ≤ 30) : (((sgn x).toNat : Int) == 0) = false := by
  have h1 := sg_nz ⟨x.toNat, by omega⟩
  unfold sgn
  rw [if_pos h]
  simp only [beq_eq_false_iff_ne] at h1 ⊢
  omega
theorem bstep2 {w w1 w2 : World} (k : Below w1.heap.size w1 w2) (h : Hid (Below w.heap.size w w1)) : Below w.heap.size w w2 := bstep h.out h.out.size k
theorem changed_two (s : ByteArray) (k : Nat) (c1 c0 : UInt8) (a1 : Int) (g1 : k + 1 < s.size) (ha : a1 = ((k + 1 : Nat) : Int)) : ∀ (S : ByteArray) (a : Int) (v : Value) (R : ByteArray) (W : World),
    ((S = s ∧ a = (k : Int) ∧ v = .int .u8 (c1.toNat : Int) ∧ R = setS s k c1) ∨ (S = setS s k c1 ∧ a = a1 ∧ v = .int .u8 (c0.toNat : Int) ∧ R = setS (setS s k c1) (k + 1) c0)) →
    Calls Tryd.prog 36 #[.string S, .int .i64 a, v] W fun e w' => e = .returned (.string R) ∧ Below W.heap.size W w' := by
  rintro S a v R W (⟨rfl, rfl, rfl, rfl⟩ | ⟨rfl, rfl, rfl, rfl⟩)
  · exact xchanged_any _ _ _ _ (by omega)
  · exact xchanged_at _ _ _ _ _ _ (by rw [setS_size]; exact g1) ha rfl
/-- Where the law asks of the neighbours: they differ, or not. -/
def SwapB (s : ByteArray) (k : Nat) : Prop := k = 8 ∨ (k < 8 ∧ s.data.toList[k]? = s.data.toList[k + 1]?) ∨ (k < 8 ∧ ∀ c0 c1, s.data.toList[k]? = some c0 → s.data.toList[k + 1]? = some c1 → c0 ≠ c1 ∧ soundS (setS (setS s k c1) (k + 1) c0) = false)
set_option maxRecDepth 100000 in
set_option maxHeartbeats 1000000 in
theorem misread_p (s T : ByteArray) (k : Nat) (x : Int) (w : World) (hw : Wts w) (h : soundS s = true) (hk : k < 9) (hx : 0 ≤ x ∧ x ≤ 30) (hsz : s.size = 9)
    (hT : T = setS s k (sgn x)) (hST : soundS T = true) (hTB : (T.toList == s.toList) = true) (hSw : SwapB s k) :
    Calls Tryd.prog 7 #[.string s, .int .i64 (k : Int), .int .i64 x] w fun e w' => e = .returned (.bool true) ∧ Below w.heap.size w w' := by
  have HW := hid hw
  have h4 : decide ((k : Int) < 0) = false := by simp
  have h5 : decide (8 < (k : Int)) = false := by simp; omega
  have h7 : (((sgn x).toNat : Int) == 0) = false := sgn_nz hx
  have HS := hid h
  have HCH := hid (fun W => xchanged_any s k (sgn x) W (by omega))
  rw [← hT] at HCH
  have HST := hid hST
  clear hST
  clear h hw hx hT
  rcases hSw with rfl | ⟨hk8, heq⟩ | ⟨hk8, hdif⟩
  · clear hk hsz
    go_enter Tryd.func7, Tryd.ntmps7
    go_wp2_with fail
    refine (awake6_any _ HW.out).mono ?_
    rintro e w1 ⟨rfl, hb⟩
    have HB1 := hid hb
    clear hb
    go_wp2_with fail
    refine (xsound_any s w1).mono ?_
    rintro e w2 ⟨rfl, rfl⟩
    rw [HS.out]
    go_wp2_with (go_at_call 27; refine (xsign_any _ _).mono ?_; rintro e w2 ⟨rfl, rfl⟩)
    go_quiet (fail)
    have HB2 := hid (bdrewN (n := nq) HB1.out)
    generalize World.drewN w2 nq = w3 at *
    go_wp2_with (go_at_call 27; refine (xsign_any _ _).mono ?_; rintro e w3 ⟨rfl, rfl⟩)
    refine (HCH.out _).mono ?_
    rintro e w4 ⟨rfl, hb⟩
    have HB4 := hid (bstep HB2.out HB2.out.size hb)
    clear hb
    go_wp2_with fail
    refine (csound_any T _ (HW.out.keep HB4.out)).mono ?_
    rintro e w5 ⟨rfl, hb⟩
    have HB5 := hid (bstep HB4.out HB4.out.size hb)
    clear hb
    go_wp2_with fail
    go_ret
    exact ⟨ret_bool HST.out, HB5.out⟩
  · have g0 : k < s.size := by omega
    have g1 : k + 1 < s.size := by omega
    have h6 : decide ((k : Int) < 8) = true := by simp; omega
    have hwr : IntKind.i64.wrap ((k : Int) + 1) = ((k + 1 : Nat) : Int) := by
      have e : (((k + 1 : Nat) : Int)) = (k : Int) + 1 := by omega
      rw [e, IntKind.wrap_i64]; omega
    have r1 := fun W => str_run s k g0 W
    have r2 : ∀ W, (Instr.index 9 (.string s) (.int .i64 (IntKind.i64.wrap ((k : Int) + 1)))).run Tryd.prog W = .ok (.int .u8 ((s[k + 1]'g1).toNat : Int)) W := by rw [hwr]; exact fun W => str_run s (k + 1) g1 W
    have e0 : s[k]'g0 = s[k + 1]'g1 := by
      rw [List.getElem?_eq_getElem (by exact g0), List.getElem?_eq_getElem (by exact g1)] at heq
      exact Option.some.inj heq
    rw [← e0] at r2
    clear heq hwr hk hk8 hsz e0
    generalize s[k]'g0 = c0 at *
    have hne : ((c0.toNat : Int) != (c0.toNat : Int)) = false := by simp
    clear g0 g1
    go_enter Tryd.func7, Tryd.ntmps7
    go_wp2_with fail
    refine (awake6_any _ HW.out).mono ?_
    rintro e w1 ⟨rfl, hb⟩
    have HB1 := hid hb
    clear hb
    go_wp2_with fail
    refine (xsound_any s w1).mono ?_
    rintro e w2 ⟨rfl, rfl⟩
    rw [HS.out]
    go_wp2_with (go_at_call 27; refine (xsign_any _ _).mono ?_; rintro e w2 ⟨rfl, rfl⟩)
    go_quiet (fail)
    have HB2 := hid (bdrewN (n := nq) HB1.out)
    generalize World.drewN w2 nq = w3 at *
    go_wp2_with (go_at_call 27; refine (xsign_any _ _).mono ?_; rintro e w3 ⟨rfl, rfl⟩)
    refine (HCH.out _).mono ?_
    rintro e w4 ⟨rfl, hb⟩
    have HB4 := hid (bstep HB2.out HB2.out.size hb)
    clear hb
    go_wp2_with fail
    refine (csound_any T _ (HW.out.keep HB4.out)).mono ?_
    rintro e w5 ⟨rfl, hb⟩
    have HB5 := hid (bstep HB4.out HB4.out.size hb)
    clear hb
    go_wp2_with fail
    go_ret
    exact ⟨ret_bool HST.out, HB5.out⟩
  · have g0 : k < s.size := by omega
    have g1 : k + 1 < s.size := by omega
    have h6 : decide ((k : Int) < 8) = true := by simp; omega
    have hwr : IntKind.i64.wrap ((k : Int) + 1) = ((k + 1 : Nat) : Int) := by
      have e : (((k + 1 : Nat) : Int)) = (k : Int) + 1 := by omega
      rw [e, IntKind.wrap_i64]; omega
    have r1 := fun W => str_run s k g0 W
    have r2 : ∀ W, (Instr.index 9 (.string s) (.int .i64 (IntKind.i64.wrap ((k : Int) + 1)))).run Tryd.prog W = .ok (.int .u8 ((s[k + 1]'g1).toNat : Int)) W := by rw [hwr]; exact fun W => str_run s (k + 1) g1 W
    obtain ⟨hne, hso⟩ := hdif (s[k]'g0) (s[k + 1]'g1) (List.getElem?_eq_getElem (by exact g0)) (List.getElem?_eq_getElem (by exact g1))
    have HTAB := hid (changed_two s k (s[k + 1]'g1) (s[k]'g0) (IntKind.i64.wrap ((k : Int) + 1)) g1 hwr)
    have HSO := hid hso
    clear hdif hwr hk hk8 hsz hso
    generalize s[k]'g0 = c0 at *
    generalize s[k + 1]'g1 = c1 at *
    generalize setS (setS s k c1) (k + 1) c0 = U at *
    generalize setS s k c1 = V at *
    have hne2 : ((c0.toNat : Int) != (c1.toNat : Int)) = true := by
      simp only [bne_iff_ne, ne_eq]
      intro e
      exact hne (UInt8.toNat_inj.1 (by omega))
    clear g0 g1 hne
    go_enter Tryd.func7, Tryd.ntmps7
    go_wp2_with fail
    refine (awake6_any _ HW.out).mono ?_
    rintro e w1 ⟨rfl, hb⟩
    have HB1 := hid hb
    clear hb
    go_wp2_with fail
    refine (xsound_any s w1).mono ?_
    rintro e w2 ⟨rfl, rfl⟩
    rw [HS.out]
    go_wp2_with (go_at_call 27; refine (xsign_any _ _).mono ?_; rintro e w2 ⟨rfl, rfl⟩)
    go_quiet (fail)
    have HB2 := hid (bdrewN (n := nq) HB1.out)
    generalize World.drewN w2 nq = w3 at *
    go_wp2_with fail
    go_region_held3 (fun w' => Hid (Below w.heap.size w w')) (first | exact hid (HB2.out.drew) | assumption)
      ((go_at_call 36; refine Calls.mono (HTAB.out _ _ _ _ _ (by first | exact .inl ⟨rfl, rfl, rfl, rfl⟩ | exact .inr ⟨rfl, rfl, rfl, rfl⟩)) ?_; rintro e wk ⟨rfl, hb⟩; have HDD := hid (bstep2 (w := w) hb (by assumption))))
    all_goals
      go_wp2_with fail
      refine (csound_any U _ (HW.out.keep HDD.out)).mono ?_
      rintro e w6 ⟨rfl, hb⟩
      rw [HSO.out]
      have HB2 := hid (bstep2 hb HDD)
      clear hb
      go_wp2_with (go_at_call 27; refine (xsign_any _ _).mono ?_; rintro e w3 ⟨rfl, rfl⟩)
      refine (HCH.out _).mono ?_
      rintro e w4 ⟨rfl, hb⟩
      have HB4 := hid (bstep HB2.out HB2.out.size hb)
      clear hb
      go_wp2_with fail
      refine (csound_any T _ (HW.out.keep HB4.out)).mono ?_
      rintro e w5 ⟨rfl, hb⟩
      have HB5 := hid (bstep HB4.out HB4.out.size hb)
      clear hb
      go_wp2_with fail
      go_ret
      exact ⟨ret_bool HST.out, HB5.out⟩
end Go.Proofs.YtlnfebginkmbhaaDoor
