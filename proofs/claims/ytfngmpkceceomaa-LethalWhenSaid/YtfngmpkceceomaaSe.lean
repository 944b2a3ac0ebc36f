/- Walk of At: contract. -/
import Derived.Test.YtfngmpkceceomaaSd
namespace Go.Proofs.Ytfngmpkceceomaa
open Go.RowKit Go.Lib Go.Maps

theorem ForS.known {s : ByteArray} {r z d g : Int} {w wr : World} {b gD gU cD cU q : Nat} {l1 l2 : List Int} (h : ForS s r z d g w b l1 l2 (.slice (some ⟨gD, 0, none⟩) 1003 cD) (.slice (some ⟨gU, 0, none⟩) 1003 cU) wr) (hR : RowsOk r z l1 l2) (hq : q < 1003) (hk : KnownAt r z l1 l2 q) :
    wr.cell? ⟨gD, q, none⟩ = some (.int .i64 ((Pm.rateD r z ((q : Int) - 200) : Nat) : Int)) ∧ wr.cell? ⟨gU, q, none⟩ = some (.int .i64 ((Pm.rateU r z ((q : Int) - 200) : Nat) : Int)) := by
  have hD := h.rowD
  have hU := h.rowU
  rw [hR.1] at hD
  rw [hR.2.1] at hU
  rw [World.ownsRow.cellAt hD q (by omega), World.ownsRow.cellAt hU q (by omega)]
  unfold ivI
  rw [List.getElem?_map, List.getElem?_map, hk.1, hk.2]
  exact ⟨rfl, rfl⟩
/-- What At hands back. -/
def AtP (s : ByteArray) (r : Int) (Z : Nat) (d g : Int) (w : World) (b gD gU : Nat) (x y : Nat) (wr : World) (e : Ending) (w' : World) : Prop :=
  e = .returned (.tuple #[.int .i64 x, .int .i64 y]) ∧ KeptS s r Z d g w b gD gU w' ∧ Still gD gU wr w'
theorem AskP.run {s : ByteArray} {r d g : Int} {Z : Nat} {w wr : World} {b gD gU cD cU q : Nat} {l1 l2 : List Int} {e : Ending} {w0 : World} (h : AskP s r Z d g w b gD gU cD cU l1 l2 q w0 e wr) : ∃ v m1 m2, e = .returned v ∧ Still gD gU w0 wr ∧ ForS s r Z d g w b m1 m2 (.slice (some ⟨gD, 0, none⟩) 1003 cD) (.slice (some ⟨gU, 0, none⟩) 1003 cU) wr ∧ RowsOk r Z m1 m2 ∧ KnownAt r Z m1 m2 q ∧ ∀ k, KnownAt r Z l1 l2 k → KnownAt r Z m1 m2 k := by
  obtain ⟨⟨v, hv⟩, hs, m1, m2, h⟩ := h
  exact ⟨v, m1, m2, hv, hs, h⟩

theorem KeptS.below {s : ByteArray} {r z d g : Int} {w wr w2 : World} {b gD gU : Nat} (h : KeptS s r z d g w b gD gU wr) (hb : Below wr.heap.size wr w2) : KeptS s r z d g w b gD gU w2 := by
  obtain ⟨l1, l2, cD, cU, hF, hR⟩ := h
  exact ⟨l1, l2, cD, cU, hF.below hb, hR⟩

set_option maxRecDepth 8000 in
set_option maxHeartbeats 2000000 in
theorem at_any (s : ByteArray) (r d g t : Int) (Z : Nat) (w : World) (b gD gU : Nat) (wr : World) (r1 : -200 ≤ r) (r2 : r ≤ 800) (z1 : 1 ≤ Z) (z2 : Z ≤ 60) (t1 : -50000 ≤ t) (t2 : t ≤ 200000) (hK : KeptS s r Z d g w b gD gU wr) :
    Calls Try.prog 74 #[.pointer (some ⟨b, 0, none⟩), .int .i64 t] wr (AtP s r Z d g w b gD gU (Pm.rateD r Z (t / 250)) (Pm.rateU r Z (qUp t)) wr) := by
  obtain ⟨l1, l2, cD, cU, hF, hR⟩ := hK
  have HF := hid hF; have HR := hid hR; clear hF hR
  obtain ⟨q, hq⟩ := Int.eq_ofNat_of_zero_le (show 0 ≤ t / 250 + 200 by omega)
  have hq1 : q ≤ 1000 := by omega
  have HQ := hid hq
  have hq2 : (q : Int) - 200 = t / 250 := by omega
  have HQ2 := hid hq2
  by_cases hd : t % 250 = 0
  · have hu : qUp t = (q : Int) - 200 := by unfold qUp; rw [if_pos hd]; omega
    have HU := hid hu
    have hm : Hid (t.tmod 250 = 0) := (q_neg0 hd).2
    have hb : (t.tmod 250 != 0) = false := by rw [hm.out]; rfl
    clear hq hq2 hu hd
    go_enter Try.func74, Try.ntmps74
    go_wp2_with (first
      | (go_at_call 37; refine (rQuarter_any t _ (by omega) (by omega)).mono ?_; rintro e w1 ⟨rfl, rfl⟩; rw [show t / 250 = (q : Int) - 200 from HQ2.out.symm]))
    refine (ask_any s r d g Z w b q gD gU cD cU l1 l2 _ r1 r2 (by omega) (by omega) HF.out (by omega) HR.out).mono ?_
    intro e w2 hP
    obtain ⟨v2, m1, m2, rfl, hs1, hF1, hR1, hk1, _⟩ := hP.run
    have HS1 := hid hs1; clear hs1
    have HF1 := hid hF1; have HR1 := hid hR1; have HK1 := hid hk1
    clear hF1 hR1 hk1 hP
    go_wp2_with fail
    refine (ask_any s r d g Z w b q gD gU cD cU m1 m2 _ r1 r2 (by omega) (by omega) HF1.out (by omega) HR1.out).mono ?_
    intro e w3 hP
    obtain ⟨v3, n1, n2, rfl, hs2, hF2, hR2, hk2, hkp⟩ := hP.run
    have HS2 := hid (HS1.out.trans hs2); clear hs2 HS1
    have c5 := hF2.cells7.2.2.2.2.2.1
    have c6 := hF2.cells7.2.2.2.2.2.2
    have dq := (hF2.known hR2 (by omega) (hkp q HK1.out)).1
    have du := (hF2.known hR2 (by omega) hk2).2
    have HKS := hid (show KeptS s r Z d g w b gD gU w3 from ⟨n1, n2, cD, cU, hF2, hR2⟩)
    clear hF2 hR2 hk2 hkp hP HK1
    rw [HQ2.out] at dq
    rw [← HU.out] at du
    obtain ⟨x, hX⟩ : ∃ x, x = Pm.rateD r Z (t / 250) := ⟨_, rfl⟩
    obtain ⟨y, hY⟩ : ∃ y, y = Pm.rateU r Z (qUp t) := ⟨_, rfl⟩
    rw [← hX] at dq
    rw [← hY] at du
    have HX := hid hX; have HY := hid hY
    clear hX hY
    have i1 : (q : Int) < 1003 := by omega
    have i2 : (q : Int) + 1 < 1003 := by omega
    have i3 : q < 1003 := by omega
    have i4 : q + 1 < 1003 := by omega
    go_wp2
    go_quiet (fail)
    go_wp2
    go_ret2
    exact ⟨by rw [← HX.out, ← HY.out]; rfl, HKS.out.below (bdrewN (Below.refl _ _)), HS2.out.trans (Still.below (bdrewN (Below.refl _ _)))⟩
  · have hu : qUp t = ((q + 1 : Nat) : Int) - 200 := by unfold qUp; rw [if_neg hd]; omega
    have hq3 : q ≤ 999 := by omega
    have HU := hid hu
    have hm : Hid (t.tmod 250 ≠ 0) := by
      rcases Int.lt_or_le t 0 with h | h
      · rw [(q_neg1 h hd).2]; unfold Hid; omega
      · rw [(q_pos h).2]; exact hd
    have hb : (t.tmod 250 != 0) = true := by simpa using hm.out
    clear hq hq2 hu hd
    go_enter Try.func74, Try.ntmps74
    go_wp2_with (first
      | (go_at_call 37; refine (rQuarter_any t _ (by omega) (by omega)).mono ?_; rintro e w1 ⟨rfl, rfl⟩; rw [show t / 250 = (q : Int) - 200 from HQ2.out.symm]))
    refine (ask_any s r d g Z w b q gD gU cD cU l1 l2 _ r1 r2 (by omega) (by omega) HF.out (by omega) HR.out).mono ?_
    intro e w2 hP
    obtain ⟨v2, m1, m2, rfl, hs1, hF1, hR1, hk1, _⟩ := hP.run
    have HS1 := hid hs1; clear hs1
    have HF1 := hid hF1; have HR1 := hid hR1; have HK1 := hid hk1
    clear hF1 hR1 hk1 hP
    go_wp2_with fail
    refine (ask_any s r d g Z w b (q + 1) gD gU cD cU m1 m2 _ r1 r2 (by omega) (by omega) HF1.out (by omega) HR1.out).mono ?_
    intro e w3 hP
    obtain ⟨v3, n1, n2, rfl, hs2, hF2, hR2, hk2, hkp⟩ := hP.run
    have HS2 := hid (HS1.out.trans hs2); clear hs2 HS1
    have c5 := hF2.cells7.2.2.2.2.2.1
    have c6 := hF2.cells7.2.2.2.2.2.2
    have dq := (hF2.known hR2 (by omega) (hkp q HK1.out)).1
    have du := (hF2.known hR2 (by omega) hk2).2
    have HKS := hid (show KeptS s r Z d g w b gD gU w3 from ⟨n1, n2, cD, cU, hF2, hR2⟩)
    clear hF2 hR2 hk2 hkp hP HK1
    rw [HQ2.out] at dq
    rw [← HU.out] at du
    obtain ⟨x, hX⟩ : ∃ x, x = Pm.rateD r Z (t / 250) := ⟨_, rfl⟩
    obtain ⟨y, hY⟩ : ∃ y, y = Pm.rateU r Z (qUp t) := ⟨_, rfl⟩
    rw [← hX] at dq
    rw [← hY] at du
    have HX := hid hX; have HY := hid hY
    clear hX hY
    have i1 : (q : Int) < 1003 := by omega
    have i2 : (q : Int) + 1 < 1003 := by omega
    have i3 : q < 1003 := by omega
    have i4 : q + 1 < 1003 := by omega
    go_wp2
    go_quiet (fail)
    go_wp2
    go_ret2
    exact ⟨by rw [← HX.out, ← HY.out]; rfl, HKS.out.below (bdrewN (Below.refl _ _)), HS2.out.trans (Still.below (bdrewN (Below.refl _ _)))⟩
end Go.Proofs.Ytfngmpkceceomaa
