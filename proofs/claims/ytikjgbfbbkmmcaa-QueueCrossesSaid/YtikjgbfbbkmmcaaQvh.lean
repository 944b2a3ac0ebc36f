/- Walk of the heap's up: contract. -/
import Derived.Test.YtikjgbfbbkmmcaaQvg
namespace Go.Proofs.Ytikjgbfbbkmmcaa
open Go.RowKit

/-- The pool as the heap's functions get it. -/
abbrev poolV (pb : Nat) : Value := .iface 96 (.pointer (some ⟨pb, 0, none⟩))
/-- What the heap's functions leave: the same vessels, as a heap. -/
def HeapP (pb base B : Nat) (l : List Pr) (w w' : World) : Prop := ∃ l', l'.Perm l ∧ HeapB l' l'.length ∧ PoolAt pb base l' w' ∧ Tn TV B w w'
set_option maxRecDepth 20000 in
set_option maxHeartbeats 4000000 in
theorem up_any (pb base B j : Nat) (l : List Pr) (w : World) (hP : PoolAt pb base l w) (hB : B ≤ base) (hU : UpOk l j) (hj : j < l.length) (hm : l.length ≤ 1000) :
    Calls Try.prog 115 #[poolV pb, .int .i64 (j : Nat)] w fun e w' => e = .returned (.tuple #[]) ∧ HeapP pb base B l w w' := by
  have HP := hid hP; have HU := hid hU
  clear hP hU
  go_enter Try.func115, Try.ntmps115
  go_wp2
  go_loopw [1] (fun i wr => ∃ (k : Nat) (m : List Pr), i = .int .i64 (k : Int) ∧ k ≤ j ∧ Hid (m.length = l.length) ∧ Hid (m.Perm l ∧ UpOk m k ∧ PoolAt pb base m wr ∧ Tn TV B w wr)) (fun i _ => (intOf i).toNat)
  case atStart => exact ⟨j, l, rfl, Nat.le_refl _, rfl, List.Perm.refl _, HU.out, HP.out, Tn.refl _ _ _⟩
  case round =>
    obtain ⟨k, m, rfl, hk, hlen, hR⟩ := hrel
    obtain ⟨g, cap, cur, hb, ho, hbg, hg, hne⟩ := PoolAt.open hR.out.2.2.1 (fun e => by have h := hlen.out; rw [e] at h; simp at h; omega)
    have hv := cell_of_row _ _ 0 _ _ _ hb
    simp only [List.getElem?_toArray, List.getElem?_cons_zero] at hv
    have q1 := fun n => meth_less n pb _ wr hv
    rcases Nat.eq_zero_or_pos k with rfl | hk0
    · have t0 : (((0 : Nat) : Int) - 1).tdiv 2 = 0 := by decide
      have HE := hid (upOk_end hR.out.2.1 (.inl rfl))
      go_wp2
      go_end0
      exact ⟨rfl, m, hR.out.1, HE.out, hR.out.2.2.1, hR.out.2.2.2⟩
    · have hkm : Hid (k < m.length) := by have h := hlen.out; show k < m.length; omega
      obtain ⟨p, hp⟩ : ∃ p, p = (k - 1) / 2 := ⟨_, rfl⟩
      have t1 : ((k : Int) - 1).tdiv 2 = (p : Nat) := by
        rw [hp, show (k : Int) - 1 = ((k - 1 : Nat) : Int) by omega]
        exact Int.tdiv_eq_ediv_of_nonneg (by omega)
      have t2 : ¬ (p : Int) = (k : Int) := by omega
      have hpk : p < k := by omega
      have HL := hid (less_any _ m k p wr ho.row hkm.out (Nat.lt_trans hpk hkm.out))
      have HP := hid hp
      have HO := hid ho; have HG := hid hg; have HBX := hid hb
      clear hp ho hb hg
      go_wp2_with fail
      refine HL.out.mono ?_
      rintro e w4 ⟨rfl, hb4⟩
      have HB4 := hid hb4
      clear hb4 q1 hv HL
      have hv4 := cell_of_row _ _ 0 _ _ _ ((HB4.out.block _ (Array.getElem?_eq_some_iff.1 HBX.out).1).trans HBX.out)
      simp only [List.getElem?_toArray, List.getElem?_cons_zero] at hv4
      have q2 := fun n => meth_swap n pb _ w4 hv4
      have HS := hid (swap_any g cap m p k base w4 (HO.out.keep HB4.out) (Nat.lt_trans hpk hkm.out) hkm.out)
      cases hlt : ltV (vat m k) (vat m p)
      · have HE := hid (upOk_end hR.out.2.1 (.inr (by rw [← HP.out]; exact hlt)))
        clear HS
        go_wp2
        go_end0
        exact ⟨rfl, m, hR.out.1, HE.out, hR.out.2.2.1.keep HB4.out, hR.out.2.2.2.trans (Tn.lay HB4.out)⟩
      · have HLT := hid hlt
        clear hlt
        go_wp2_with fail
        refine HS.out.mono ?_
        rintro e w5 ⟨rfl, hw5⟩
        have H5 := hid (pool_swapped (B := B) ((HB4.out.block _ (Array.getElem?_eq_some_iff.1 HBX.out).1).trans HBX.out) (HO.out.keep HB4.out) ((HB4.out.block _ (Array.getElem?_eq_some_iff.1 HG.out).1).trans HG.out) hne (Nat.le_trans hB hbg) (Nat.lt_trans hpk hkm.out) hkm.out hw5)
        clear hw5 HS q2 hv4
        go_wp2
        go_roundw
        case rel =>
          have hs := upOk_step hR.out.2.1 hk0 hkm.out (by rw [← HP.out]; exact HLT.out)
          rw [← HP.out] at hs
          exact ⟨p, swp m p k, rfl, by omega, by show (swp m p k).length = _; rw [swp_len]; exact hlen.out, (swp_perm (Nat.lt_trans hpk hkm.out) hkm.out).trans hR.out.1, hs, H5.out.1, (hR.out.2.2.2.trans (Tn.lay HB4.out)).trans H5.out.2⟩
        case measure => simp [intOf]; omega
end Go.Proofs.Ytikjgbfbbkmmcaa
