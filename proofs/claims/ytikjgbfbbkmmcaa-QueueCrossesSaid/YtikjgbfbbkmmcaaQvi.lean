/- Walk of the heap's down: contract (written by wip/tools/gen_qvi.py). -/
import Derived.Test.YtikjgbfbbkmmcaaQvh
namespace Go.Proofs.Ytikjgbfbbkmmcaa
open Go.RowKit

/-- A pool with its vessels in the block g. -/
structure PoolO (pb base g cap : Nat) (l : List Pr) (W : World) : Prop where
  box : W.heap[pb]? = some (.cells #[.slice (some ⟨g, 0, none⟩) l.length cap] 111 (0, 0))
  own : OwnE encV W base 99 (.slice (some ⟨g, 0, none⟩) l.length cap) l
/-- What stays but the pool's two blocks. -/
def StG (pb g : Nat) (W W' : World) : Prop := ∀ j, j < W.heap.size → j ≠ pb → j ≠ g → W'.heap[j]? = W.heap[j]?
section
variable {pb base g cap : Nat} {l : List Pr} {W W' W2 : World}
theorem poolO_of (h : PoolAt pb base l W) (hl : l ≠ []) : ∃ g cap, PoolO pb base g cap l W := by
  obtain ⟨g, cap, cur, h1, h2, _⟩ := h.open hl
  exact ⟨g, cap, h1, h2⟩
theorem PoolO.facts (h : PoolO pb base g cap l W) : ∃ cur, W.heap[pb]? = some (.cells #[.slice (some ⟨g, 0, none⟩) l.length cap] 111 (0, 0)) ∧ OwnE encV W base 99 (.slice (some ⟨g, 0, none⟩) l.length cap) l ∧ base ≤ g ∧ W.heap[g]? = some (.cells cur 99 (0, 0)) ∧ pb ≠ g := by
  have h1 := h.box
  rcases h.own.2 with ⟨hv, _⟩ | ⟨g', cap', cur, hv, hb, hg, _⟩
  · cases hv
  · cases hv
    refine ⟨cur, h1, h.own, hb, hg, ?_⟩
    rintro rfl
    rw [hg] at h1
    exact absurd (Obj.cells.inj (Option.some.inj h1)).2.1 (by decide)
theorem PoolO.keep (h : PoolO pb base g cap l W) (hb : Below W.heap.size W W') : PoolO pb base g cap l W' := ⟨(hb.block _ (Array.getElem?_eq_some_iff.1 h.box).1).trans h.box, h.own.keep hb⟩
theorem StG.trans (h : StG pb g W W') (k : StG pb g W' W2) (hs : W.heap.size ≤ W'.heap.size) : StG pb g W W2 := fun j h1 h2 h3 => (k j (by omega) h2 h3).trans (h j h1 h2 h3)
theorem StG.keep (h : StG pb g W W') (hs : W.heap.size ≤ W'.heap.size) (hb : Below W'.heap.size W' W2) : StG pb g W W2 := fun j h1 h2 h3 => (hb.block j (by omega)).trans (h j h1 h2 h3)
theorem pool_swappedO {i j B : Nat} {cur : Array Value} {w : World} (hb : w.heap[pb]? = some (.cells #[.slice (some ⟨g, 0, none⟩) l.length cap] 111 (0, 0))) (ho : OwnE encV w base 99 (.slice (some ⟨g, 0, none⟩) l.length cap) l)
    (hg : w.heap[g]? = some (.cells cur 99 (0, 0))) (hne : pb ≠ g) (hB : B ≤ g) (hi : i < l.length) (hj : j < l.length)
    (hW : W = (((((w.setCell ⟨g, i * 2, none⟩ (.int .i64 (vat l j).x)).setCell ⟨g, i * 2 + 1, none⟩ (.int .i64 (vat l j).y)).setCell ⟨g, j * 2, none⟩ (.int .i64 (vat l i).x)).setCell ⟨g, j * 2 + 1, none⟩ (.int .i64 (vat l i).y))).drew) :
    PoolO pb base g cap (swp l i j) W ∧ Tn TV B w W ∧ StG pb g w W := by
  have h2 := (pool_swapped hb ho hg hne hB hi hj hW).2
  subst hW
  have hgr := grown_swap (w := w) (g := g) (a := i * 2) (b := i * 2 + 1) (c := j * 2) (d := j * 2 + 1) (va := .int .i64 (vat l j).x) (vb := .int .i64 (vat l j).y) (vc := .int .i64 (vat l i).x) (vd := .int .i64 (vat l i).y)
  refine ⟨⟨?_, ?_⟩, h2, fun k h1 _ h3 => hgr.block k h1 (fun e => h3 (Option.some.inj e))⟩
  · rw [swp_len]
    exact (hgr.block pb (Array.getElem?_eq_some_iff.1 hb).1 (fun e => hne (Option.some.inj e))).trans hb
  · rw [swp_len]
    exact own_swap ho hi hj
end
/-- What down leaves: the same vessels, the first n as a heap, the last as it was. -/
def DownP (pb base B g cap n : Nat) (l : List Pr) (w w' : World) : Prop := ∃ l', l'.Perm l ∧ l'.length = l.length ∧ HeapB l' n ∧ vat l' n = vat l n ∧ PoolO pb base g cap l' w' ∧ Tn TV B w w' ∧ StG pb g w w'
set_option maxRecDepth 20000 in
set_option maxHeartbeats 8000000 in
theorem down_any (pb base B g cap n : Nat) (l : List Pr) (w : World) (hP : PoolO pb base g cap l w) (hB : B ≤ base) (hD : DnOk l n 0) (hn : l.length = n + 1) (hm : n ≤ 1000) :
    Calls Try.prog 114 #[poolV pb, .int .i64 0, .int .i64 (n : Nat)] w fun e w' => (∃ v, e = .returned v) ∧ DownP pb base B g cap n l w w' := by
  have HP := hid hP; have HD := hid hD; have HN := hid hn
  clear hP hD hn
  go_enter Try.func114, Try.ntmps114
  go_wp2
  go_loopw [7] (fun i wr => ∃ (k : Nat) (m : List Pr), i = .int .i64 (k : Int) ∧ k ≤ n ∧ Hid (m.length = l.length) ∧ Hid (m.Perm l ∧ DnOk m n k ∧ PoolO pb base g cap m wr ∧ Tn TV B w wr ∧ vat m n = vat l n ∧ StG pb g w wr)) (fun i _ => 2000 - (intOf i).toNat)
  case atStart => exact ⟨0, l, rfl, Nat.zero_le _, rfl, List.Perm.refl _, HD.out, HP.out, Tn.refl _ _ _, rfl, fun _ _ _ _ => rfl⟩
  case round =>
    obtain ⟨k, m, rfl, hk, hlen, hR⟩ := hrel
    obtain ⟨cur, hb, ho, hbg, hg, hne⟩ := hR.out.2.2.1.facts
    have hkm : Hid (k < m.length) := by have h := hlen.out; have h2 := HN.out; show k < m.length; omega
    obtain ⟨c1, hc1⟩ : ∃ c, c = 2 * k + 1 := ⟨_, rfl⟩
    have e1 : 2 * (k : Int) + 1 = (c1 : Nat) := by omega
    have HC1 := hid hc1
    have hc2 : ¬ (c1 : Int) < 0 := by omega
    have hcb : c1 ≤ 2001 := by omega
    have HO := hid ho; have HG := hid hg; have HBX := hid hb
    clear hc1 ho hb hg
    by_cases hn1 : c1 < n
    · have hn1' : ¬ (n : Int) ≤ c1 := by omega
      have HN1 := hid hn1
      have HM1 : Hid (c1 < m.length ∧ c1 ≤ n) := by have h := hlen.out; have h2 := HN.out; exact ⟨by omega, by omega⟩
      clear hn1
      have hv := cell_of_row _ _ 0 _ _ _ HBX.out
      simp only [List.getElem?_toArray, List.getElem?_cons_zero] at hv
      have q0 := fun n => meth_less n pb _ wr hv
      by_cases hn2 : c1 + 1 < n
      · have hn2' : (c1 : Int) + 1 < n := by omega
        obtain ⟨c2, hc2⟩ : ∃ c, c = c1 + 1 := ⟨_, rfl⟩
        have HC2 := hid hc2
        have e2 : (c1 : Int) + 1 = (c2 : Nat) := by omega
        have HM2 : Hid (c2 < m.length ∧ c2 ≤ n) := by have h := hlen.out; have h2 := HN.out; exact ⟨by omega, by omega⟩
        rw [e2] at hn2'
        have HL := hid (less_any _ m c2 c1 wr HO.out.row HM2.out.1 HM1.out.1)
        have HN2 := hid hn2
        clear hc2 hn2
        go_wp2_with fail
        refine HL.out.mono ?_
        rintro e w4 ⟨rfl, hb4⟩
        have HB4 := hid hb4
        clear hb4 q0 hv HL
        have hv4 := cell_of_row _ _ 0 _ _ _ ((HB4.out.block _ (Array.getElem?_eq_some_iff.1 HBX.out).1).trans HBX.out)
        simp only [List.getElem?_toArray, List.getElem?_cons_zero] at hv4
        have q1 := fun n => meth_less n pb _ w4 hv4
        cases hl2 : ltV (vat m c2) (vat m c1)
        · have HCH : Hid (chV m n k = c1) := by
            have h1 := HC1.out; have h2 := HC2.out
            unfold Hid chV
            rw [show 2 * k + 2 = c2 by omega, ← h1, hl2, if_neg (by simp)]
          have HGT : Hid (k < c1) := by have := HC1.out; show k < c1; omega
          have HLK : Hid (k < n) := by have := HC1.out; have := HN1.out; show k < n; omega
          clear hl2
          have HL2 := hid (less_any _ m c1 k w4 (HO.out.keep HB4.out).row (HM1.out).1 hkm.out)
          have HS := hid (fun W (hW : Below wr.heap.size wr W) => swap_any g cap m k c1 base W (HO.out.keep hW) hkm.out (HM1.out).1)
          go_wp2_with fail
          refine HL2.out.mono ?_
          rintro e w6 ⟨rfl, hb6⟩
          have HB6 := hid (bstep HB4.out (HB4.out).size hb6)
          clear hb6 hv4 HL2
          have hv6 := cell_of_row _ _ 0 _ _ _ ((HB6.out.block _ (Array.getElem?_eq_some_iff.1 HBX.out).1).trans HBX.out)
          simp only [List.getElem?_toArray, List.getElem?_cons_zero] at hv6
          have q2 := fun n => meth_swap n pb _ w6 hv6
          cases hlt : ltV (vat m c1) (vat m k)
          · have HE := hid (dnOk_end hR.out.2.1 (.inr (by rw [HCH.out]; exact hlt)))
            clear HS
            go_wp2
            go_ret
            exact ⟨⟨_, rfl⟩, m, hR.out.1, hlen.out, HE.out, hR.out.2.2.2.2.1, hR.out.2.2.1.keep HB6.out, hR.out.2.2.2.1.trans (Tn.lay HB6.out), hR.out.2.2.2.2.2.keep hR.out.2.2.2.1.size HB6.out⟩
          · have HLT := hid hlt
            clear hlt
            go_wp2_with fail
            refine (HS.out _ HB6.out).mono ?_
            rintro e w5 ⟨rfl, hw5⟩
            have H5 := hid (pool_swappedO (B := B) ((HB6.out.block _ (Array.getElem?_eq_some_iff.1 HBX.out).1).trans HBX.out) (HO.out.keep HB6.out) ((HB6.out.block _ (Array.getElem?_eq_some_iff.1 HG.out).1).trans HG.out) hne (Nat.le_trans hB hbg) hkm.out (HM1.out).1 hw5)
            clear hw5 HS q2 hv6
            go_wp2
            go_roundw
            case rel =>
              have hs := dnOk_step hR.out.2.1 (by have := hlen.out; have := HN.out; omega) (by have := HN1.out; have := HC1.out; omega) (by rw [HCH.out]; exact HLT.out)
              rw [HCH.out] at hs
              exact ⟨c1, swp m k c1, rfl, (HM1.out).2, by show (swp m k c1).length = _; rw [swp_len]; exact hlen.out, (swp_perm hkm.out (HM1.out).1).trans hR.out.1, hs, H5.out.1, (hR.out.2.2.2.1.trans (Tn.lay HB6.out)).trans H5.out.2.1, by
                rw [swp_at hkm.out (HM1.out).1, if_neg (by have := HN1.out; omega), if_neg (by have := HLK.out; omega)]
                exact hR.out.2.2.2.2.1, (hR.out.2.2.2.2.2.keep hR.out.2.2.2.1.size HB6.out).trans H5.out.2.2 (Nat.le_trans hR.out.2.2.2.1.size HB6.out.size)⟩
            case measure => have := HGT.out; simp [intOf]; omega
        · have HCH : Hid (chV m n k = c2) := by
            have h1 := HC1.out; have h2 := HC2.out
            unfold Hid chV
            rw [show 2 * k + 2 = c2 by omega, ← h1, hl2, if_pos ⟨by have := HN2.out; omega, rfl⟩]
          have HGT : Hid (k < c2) := by have := HC1.out; have := HC2.out; show k < c2; omega
          have HLK : Hid (k < n) := by have := HC1.out; have := HN1.out; show k < n; omega
          clear hl2
          have HL2 := hid (less_any _ m c2 k w4 (HO.out.keep HB4.out).row (HM2.out).1 hkm.out)
          have HS := hid (fun W (hW : Below wr.heap.size wr W) => swap_any g cap m k c2 base W (HO.out.keep hW) hkm.out (HM2.out).1)
          go_wp2_with fail
          refine HL2.out.mono ?_
          rintro e w6 ⟨rfl, hb6⟩
          have HB6 := hid (bstep HB4.out (HB4.out).size hb6)
          clear hb6 hv4 HL2
          have hv6 := cell_of_row _ _ 0 _ _ _ ((HB6.out.block _ (Array.getElem?_eq_some_iff.1 HBX.out).1).trans HBX.out)
          simp only [List.getElem?_toArray, List.getElem?_cons_zero] at hv6
          have q2 := fun n => meth_swap n pb _ w6 hv6
          cases hlt : ltV (vat m c2) (vat m k)
          · have HE := hid (dnOk_end hR.out.2.1 (.inr (by rw [HCH.out]; exact hlt)))
            clear HS
            go_wp2
            go_ret
            exact ⟨⟨_, rfl⟩, m, hR.out.1, hlen.out, HE.out, hR.out.2.2.2.2.1, hR.out.2.2.1.keep HB6.out, hR.out.2.2.2.1.trans (Tn.lay HB6.out), hR.out.2.2.2.2.2.keep hR.out.2.2.2.1.size HB6.out⟩
          · have HLT := hid hlt
            clear hlt
            go_wp2_with fail
            refine (HS.out _ HB6.out).mono ?_
            rintro e w5 ⟨rfl, hw5⟩
            have H5 := hid (pool_swappedO (B := B) ((HB6.out.block _ (Array.getElem?_eq_some_iff.1 HBX.out).1).trans HBX.out) (HO.out.keep HB6.out) ((HB6.out.block _ (Array.getElem?_eq_some_iff.1 HG.out).1).trans HG.out) hne (Nat.le_trans hB hbg) hkm.out (HM2.out).1 hw5)
            clear hw5 HS q2 hv6
            go_wp2
            go_roundw
            case rel =>
              have hs := dnOk_step hR.out.2.1 (by have := hlen.out; have := HN.out; omega) (by have := HN1.out; have := HC1.out; omega) (by rw [HCH.out]; exact HLT.out)
              rw [HCH.out] at hs
              exact ⟨c2, swp m k c2, rfl, (HM2.out).2, by show (swp m k c2).length = _; rw [swp_len]; exact hlen.out, (swp_perm hkm.out (HM2.out).1).trans hR.out.1, hs, H5.out.1, (hR.out.2.2.2.1.trans (Tn.lay HB6.out)).trans H5.out.2.1, by
                rw [swp_at hkm.out (HM2.out).1, if_neg (by have := HN2.out; have := HC2.out; omega), if_neg (by have := HLK.out; omega)]
                exact hR.out.2.2.2.2.1, (hR.out.2.2.2.2.2.keep hR.out.2.2.2.1.size HB6.out).trans H5.out.2.2 (Nat.le_trans hR.out.2.2.2.1.size HB6.out.size)⟩
            case measure => have := HGT.out; simp [intOf]; omega
      · have hn2' : ¬ (c1 : Int) + 1 < n := by omega
        have HCH : Hid (chV m n k = c1) := by
          have h1 := HC1.out
          unfold Hid chV
          rw [if_neg (by omega), ← h1]
        have HGT : Hid (k < c1) := by have := HC1.out; show k < c1; omega
        have HLK : Hid (k < n) := by have := HC1.out; have := HN1.out; show k < n; omega
        have hv4 := hv
        clear hn2 hv
        have HL2 := hid (less_any _ m c1 k wr (HO.out.keep (Below.refl wr.heap.size wr)).row (HM1.out).1 hkm.out)
        have HS := hid (fun W (hW : Below wr.heap.size wr W) => swap_any g cap m k c1 base W (HO.out.keep hW) hkm.out (HM1.out).1)
        go_wp2_with fail
        refine HL2.out.mono ?_
        rintro e w6 ⟨rfl, hb6⟩
        have HB6 := hid (bstep (Below.refl wr.heap.size wr) ((Below.refl wr.heap.size wr)).size hb6)
        clear hb6 hv4 HL2
        have hv6 := cell_of_row _ _ 0 _ _ _ ((HB6.out.block _ (Array.getElem?_eq_some_iff.1 HBX.out).1).trans HBX.out)
        simp only [List.getElem?_toArray, List.getElem?_cons_zero] at hv6
        have q2 := fun n => meth_swap n pb _ w6 hv6
        cases hlt : ltV (vat m c1) (vat m k)
        · have HE := hid (dnOk_end hR.out.2.1 (.inr (by rw [HCH.out]; exact hlt)))
          clear HS
          go_wp2
          go_ret
          exact ⟨⟨_, rfl⟩, m, hR.out.1, hlen.out, HE.out, hR.out.2.2.2.2.1, hR.out.2.2.1.keep HB6.out, hR.out.2.2.2.1.trans (Tn.lay HB6.out), hR.out.2.2.2.2.2.keep hR.out.2.2.2.1.size HB6.out⟩
        · have HLT := hid hlt
          clear hlt
          go_wp2_with fail
          refine (HS.out _ HB6.out).mono ?_
          rintro e w5 ⟨rfl, hw5⟩
          have H5 := hid (pool_swappedO (B := B) ((HB6.out.block _ (Array.getElem?_eq_some_iff.1 HBX.out).1).trans HBX.out) (HO.out.keep HB6.out) ((HB6.out.block _ (Array.getElem?_eq_some_iff.1 HG.out).1).trans HG.out) hne (Nat.le_trans hB hbg) hkm.out (HM1.out).1 hw5)
          clear hw5 HS q2 hv6
          go_wp2
          go_roundw
          case rel =>
            have hs := dnOk_step hR.out.2.1 (by have := hlen.out; have := HN.out; omega) (by have := HN1.out; have := HC1.out; omega) (by rw [HCH.out]; exact HLT.out)
            rw [HCH.out] at hs
            exact ⟨c1, swp m k c1, rfl, (HM1.out).2, by show (swp m k c1).length = _; rw [swp_len]; exact hlen.out, (swp_perm hkm.out (HM1.out).1).trans hR.out.1, hs, H5.out.1, (hR.out.2.2.2.1.trans (Tn.lay HB6.out)).trans H5.out.2.1, by
              rw [swp_at hkm.out (HM1.out).1, if_neg (by have := HN1.out; omega), if_neg (by have := HLK.out; omega)]
              exact hR.out.2.2.2.2.1, (hR.out.2.2.2.2.2.keep hR.out.2.2.2.1.size HB6.out).trans H5.out.2.2 (Nat.le_trans hR.out.2.2.2.1.size HB6.out.size)⟩
          case measure => have := HGT.out; simp [intOf]; omega
    · have hn1' : (n : Int) ≤ c1 := by omega
      have HE := hid (dnOk_end hR.out.2.1 (.inl (by have := HC1.out; omega)))
      clear hn1
      go_wp2
      go_ret
      exact ⟨⟨_, rfl⟩, m, hR.out.1, hlen.out, HE.out, hR.out.2.2.2.2.1, hR.out.2.2.1, hR.out.2.2.2.1, hR.out.2.2.2.2.2⟩
end Go.Proofs.Ytikjgbfbbkmmcaa
