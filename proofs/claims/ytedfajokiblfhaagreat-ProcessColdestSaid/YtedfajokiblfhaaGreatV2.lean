/- Texts of this seat, one behind the other. -/
import Derived.Test.YtedfajokiblfhaaGreatV1
/- Walks of Credit of both: contracts. -/
namespace Go.Proofs.YtedfajokiblfhaaGreat.Rt
open Go.RowKit

theorem ivs_set (l : List Int) (n : Nat) (x : Int) : (ivs l).set n (.int .i64 x) = ivs (l.set n x) := by simp [ivs, List.map_set]
theorem ivs_at {l : List Int} {n : Nat} {x : Int} (h : l[n]? = some x) : (ivs l)[n]? = some (.int .i64 x) := by simp [ivs, h]
theorem ownL_shape {w : World} {base : Nat} {v : Value} {l : List Int} (h : OwnL w base v l) : ∃ ua uc, v = .slice ua l.length uc := by
  rcases h.2 with ⟨rfl, h0⟩ | ⟨g, cap, cur, rfl, _⟩
  · exact ⟨_, _, by rw [h0]⟩
  · exact ⟨_, _, rfl⟩
set_option maxRecDepth 20000 in
set_option maxHeartbeats 4000000 in
theorem credit_ok (v : Value) (n e : Nat) (r : Nat → Rd) (w : World) (hr : RowR w v n r) (hn : n ≤ 2000) (he : 1 ≤ e) (he2 : e ≤ 2000) :
    Calls Tryz.prog 65 #[v, .int .i64 e] w (LstP (credL r n e n) 0 w) := by
  have HK := hid (fun w1 (g : Below w.heap.size w w1) => hr.keep g)
  have HR := hid hr
  obtain ⟨a, b, o, cap, rfl, hc, hm, ha, _⟩ := hr
  have hE : Hid (markE n e = 0) := by unfold Hid markE; rw [if_neg (by omega), if_pos (inB_iff.2 (by omega))]
  have HA := hid ha
  have hnm : n ≤ maxLen := by unfold maxLen; omega
  clear ha
  go_enter Tryz.func65, Tryz.ntmps65
  go_wp2_with (first
    | (go_at_call 108; refine (checkMarks_any _ _ _ _ _ hnm).mono ?_; rintro e w' ⟨rfl, rfl⟩; rw [hE.out])
    | (go_at_call 109; refine (baths_any _ _ _ _ HR.out (by omega)).mono ?_; rintro e w2 ⟨u, rfl, ho, hb⟩; obtain ⟨ua, uc, hu⟩ := ownL_shape ho; rw [bathsL_len] at hu; subst hu; have HO := hid ho; have HB := hid hb; clear ho hb))
  go_loopw [21] (fun t wr => ∃ k : Nat, k ≤ n ∧ t = .int .i64 (k : Int) ∧ Hid (OwnL wr w.heap.size (.slice ua n uc) (midC r n e k)) ∧ Hid (Below w.heap.size w wr)) (fun t _ => n - (intOf t).toNat)
  case atStart => exact ⟨0, Nat.zero_le _, rfl, by rw [midC_zero]; exact HO, HB⟩
  case round =>
    obtain ⟨k, hk, rfl, hrow, hB⟩ := hrel
    by_cases hlt : k < n
    · have hlt' : (k : Int) < n := by omega
      cases hmk : mkB n e k
      · obtain ⟨m1, hm1⟩ : ∃ m, m = k - k % e := ⟨_, rfl⟩
        obtain ⟨m2, hm2⟩ : ∃ m, m = nextM n e k := ⟨_, rfl⟩
        obtain ⟨hf1, hf2⟩ := mkB_false hmk
        have hle := Nat.mod_le k e
        have hlt2 := Nat.mod_lt k he
        obtain ⟨q, hq⟩ : ∃ q, q = k % e := ⟨_, rfl⟩
        have hq' : (k : Int) % (e : Int) = (q : Int) := by rw [hq]; omega
        have hv : Hid (min (r m1).b (r m2).b = credAt r n e k) := by unfold Hid credAt; rw [hmk, hm1, hm2]; rfl
        have hqk : q ≤ k := by omega
        have hm1' : (k : Int) - (q : Int) = (m1 : Int) := by omega
        have hm1n : m1 < n := by omega
        have hm2n : m2 < n := by unfold nextM at hm2; omega
        have hm2c : ((m1 : Int) + (e : Int) = (m2 : Int) ∧ (m2 : Int) ≤ (n : Int) - 1) ∨ ((n : Int) - 1 = (m2 : Int) ∧ (m2 : Int) < (m1 : Int) + (e : Int)) := by unfold nextM at hm2; omega
        have HST : Hid (∀ g, ua = some ⟨g, 0, none⟩ → OwnL (wr.setCell ⟨g, k, none⟩ (.int .i64 (min (r m1).b (r m2).b))) w.heap.size (.slice ua n uc) (midC r n e (k + 1)) ∧ wr.cell? ⟨g, k, none⟩ = some (.int .i64 (r k).b) ∧ wr.frozen? ⟨g, k, none⟩ = false ∧ Below w.heap.size w (wr.setCell ⟨g, k, none⟩ (.int .i64 (min (r m1).b (r m2).b)))) := by
          rintro g rfl
          have ho := hrow.out
          unfold OwnL at ho
          rw [midC_len] at ho
          refine ⟨?_, (ho.cellAt k (by omega)).trans (ivs_at (midC_at hlt)), ho.frozenAt k, ?_⟩
          · have hs := (ho.stored k (.int .i64 (min (r m1).b (r m2).b))).1
            rw [ivs_set, midC_set hlt hv.out] at hs
            unfold OwnL
            rw [midC_len]
            exact hs
          · exact hB.out.setCell (p := ⟨g, k, none⟩) (World.ownsRow.lt ho g rfl).1 _
        have HUA : Hid (∃ g, ua = some ⟨g, 0, none⟩) := by
          rcases hrow.out.2 with ⟨_, h0⟩ | ⟨g, cp, cur, hg, _⟩
          · rw [midC_len] at h0; omega
          · injection hg with hg1 _ _; exact ⟨g, hg1⟩
        obtain ⟨g, rfl⟩ := HUA.out
        obtain ⟨hst, ex, ef, hbl⟩ := HST.out g rfl
        have HS1 := hid hst
        have HS2 := hid hbl
        obtain ⟨a', b', o', cap', hvv, _, _, ha', hcell⟩ := HK.out _ hB.out
        injection hvv with hv1 hv2 hv3
        subst hv1 hv3
        rcases ha' with h0 | rfl
        · omega
        obtain ⟨c0, c1, c2, c3⟩ := hcell m1 hm1n
        obtain ⟨d0, d1, d2, d3⟩ := hcell m2 hm2n
        have HHI := hid hlt
        clear hm1 hm2 hq hf1 hf2 hle hlt2 hlt hcell HST HUA hst hbl hv2 hv
        generalize (r m1).b = x at c3 HS1 HS2
        generalize (r m2).b = y at d3 HS1 HS2
        generalize (r k).b = z at ex
        clear c0 c1 c2 d0 d1 d2
        have hxy : (x ≤ y ∧ min x y = x) ∨ (y < x ∧ min x y = y) := by omega
        rcases hxy with ⟨hxy, hmn⟩ | ⟨hxy, hmn⟩ <;> rw [hmn] at HS1 HS2 <;> clear hmn <;> rcases hm2c with ⟨e1, e2⟩ | ⟨e1, e2⟩
        · go_wp2_with (go_at_call 110; refine (marked_any _ _ _ _ _ _ he hnm (by omega)).mono ?_; rintro x' w' ⟨rfl, rfl⟩; rw [hmk])
          go_region
          go_wp2
          go_roundw
          case rel => exact ⟨k + 1, by omega, by go_num, HS1, hid HS2.out.drew⟩
          case measure => simp [intOf]; omega
        · have e3 : (n : Int) - 1 < (m1 : Int) + (e : Int) := by omega
          obtain rfl : m2 = n - 1 := by omega
          clear e1 e2 hm2n
          go_wp2_with (go_at_call 110; refine (marked_any _ _ _ _ _ _ he hnm (by omega)).mono ?_; rintro x' w' ⟨rfl, rfl⟩; rw [hmk])
          go_region
          go_wp2
          go_roundw
          case rel => exact ⟨k + 1, by omega, by go_num, HS1, hid HS2.out.drew⟩
          case measure => simp [intOf]; omega
        · go_wp2_with (go_at_call 110; refine (marked_any _ _ _ _ _ _ he hnm (by omega)).mono ?_; rintro x' w' ⟨rfl, rfl⟩; rw [hmk])
          go_region
          go_wp2
          go_roundw
          case rel => exact ⟨k + 1, by omega, by go_num, HS1, hid HS2.out.drew⟩
          case measure => simp [intOf]; omega
        · have e3 : (n : Int) - 1 < (m1 : Int) + (e : Int) := by omega
          obtain rfl : m2 = n - 1 := by omega
          clear e1 e2 hm2n
          go_wp2_with (go_at_call 110; refine (marked_any _ _ _ _ _ _ he hnm (by omega)).mono ?_; rintro x' w' ⟨rfl, rfl⟩; rw [hmk])
          go_region
          go_wp2
          go_roundw
          case rel => exact ⟨k + 1, by omega, by go_num, HS1, hid HS2.out.drew⟩
          case measure => simp [intOf]; omega
      · have HL := hid (midC_skip (r := r) hlt hmk)
        rw [HL.out] at hrow
        clear hlt HL
        go_wp2_with (go_at_call 110; refine (marked_any _ _ _ _ _ _ he hnm (by omega)).mono ?_; rintro x' w' ⟨rfl, rfl⟩; rw [hmk])
        go_roundw
        case rel => exact ⟨k + 1, by omega, by go_num, hrow, hB⟩
        case measure => simp [intOf]; omega
    · obtain rfl : k = n := by omega
      have HL := hid (midC_all r k e)
      rw [HL.out] at hrow
      go_wp2
      go_ret2
      exact ⟨_, rfl, hrow.out.rowI (by have := credL_len r k e k; omega), hB.out⟩
theorem OwnL.drewN {w : World} {base : Nat} {v : Value} {l : List Int} (h : OwnL w base v l) (k : Nat) : OwnL (w.drewN k) base v l := h
theorem marks_around {n e k : Nat} (r : Nat → Rd) (he : 1 ≤ e) (hk : k < n) : ∃ m1 m2 : Nat, m1 ≤ k ∧ k ≤ m2 ∧ m2 < n ∧ (∀ j, m1 ≤ j → j ≤ k → mkB n e j = decide (j = m1)) ∧ (∀ j, k ≤ j → j ≤ m2 → mkB n e j = decide (j = m2)) ∧ min (r m1).b (r m2).b = credAt r n e k := by
  cases hm : mkB n e k
  · obtain ⟨h1, h2⟩ := mkB_false hm
    have hle := Nat.mod_le k e
    have hlt2 := Nat.mod_lt k he
    refine ⟨k - k % e, nextM n e k, by omega, by unfold nextM; omega, by unfold nextM; omega, fun j h3 h4 => back_no he h3 h4 (by omega) hk, fun j h3 h4 => fore_no he hm h3 h4, by unfold credAt; rw [hm]; rfl⟩
  · refine ⟨k, k, Nat.le_refl _, Nat.le_refl _, hk, fun j h1 h2 => ?_, fun j h1 h2 => ?_, by unfold credAt; rw [if_pos hm]; omega⟩ <;>
    · obtain rfl : j = k := by omega
      rw [hm]; simp
set_option maxRecDepth 20000 in
set_option maxHeartbeats 4000000 in
theorem xcredit_ok (v : Value) (n e : Nat) (r : Nat → Rd) (w : World) (hr : RowR w v n r) (hn : n ≤ 2000) (he : 1 ≤ e) (he2 : e ≤ 2000) :
    Calls Tryz.prog 32 #[v, .int .i64 e] w (LstP (credL r n e n) 0 w) := by
  have HK := hid (fun w1 (g : Below w.heap.size w w1) => hr.keep g)
  obtain ⟨a, b, o, cap, rfl, hc, hm, ha, _⟩ := hr
  have hE : Hid (markE n e = 0) := by unfold Hid markE; rw [if_neg (by omega), if_pos (inB_iff.2 (by omega))]
  have HA := hid ha
  obtain ⟨i0, hi, hz0, hz1, hz2⟩ := info_parts infoI
  have hnm : n ≤ maxLen := by unfold maxLen; omega
  clear ha
  go_enter Tryz.func32, Tryz.ntmps32
  go_wp2_with (go_at_call 68; refine (everyError_any _ _ _ _ _ hnm).mono ?_; rintro e w' ⟨rfl, rfl⟩; rw [hE.out])
  go_loopw [7, 8] (fun v t wr => ∃ k : Nat, k ≤ n ∧ t = .int .i64 (k : Int) ∧ Hid (OwnL wr w.heap.size v (credL r n e k)) ∧ Hid (Below w.heap.size w wr)) (fun _ t _ => n - (intOf t).toNat)
  case atStart => exact ⟨0, Nat.zero_le _, rfl, World.ownsRow_nil _ _ _ _, Below.refl _ _⟩
  case round =>
    obtain ⟨k, hk, rfl, hrow, hB⟩ := hrel
    have hlen := credL_len r n e k
    by_cases hlt : k < n
    · have hlt' : (k : Int) < n := by omega
      obtain ⟨a', b', o', cap', hv, _, _, ha', hcell⟩ := HK.out _ hB.out
      injection hv with hv1 hv2 hv3
      subst hv1 hv3
      rcases ha' with h0 | rfl
      · omega
      obtain ⟨m1, m2, hm1, hm2, hm2n, hback, hfore, hcr⟩ := marks_around r he hlt
      have HBK := hid hback
      have HFR := hid hfore
      have HL := hid (credL_succ r n e k)
      rw [← hcr] at HL
      obtain ⟨c0, c1, c2, c3⟩ := hcell m1 (by omega)
      obtain ⟨d0, d1, d2, d3⟩ := hcell m2 hm2n
      generalize (r m1).b = x at c3 HL
      generalize (r m2).b = y at d3 HL
      clear hcell hv2 hback hfore hcr c0 c1 c2 d0 d1 d2
      go_wp2
      go_loop [9] (fun t => ∃ j : Nat, m1 ≤ j ∧ j ≤ k ∧ t = .int .i64 (j : Int)) (fun t => (intOf t).toNat)
      case atStart => exact ⟨k, hm1, Nat.le_refl _, rfl⟩
      case round =>
        obtain ⟨j, hj1, hj2, rfl⟩ := hrel
        by_cases hj : j = m1
        · have hmk := hid ((HBK.out j hj1 hj2).trans (decide_eq_true hj))
          subst hj
          go_wp2_with (go_at_call 69; refine (xmarked_any _ _ _ _ _ _ he hnm (by unfold maxLen; omega)).mono ?_; rintro x' w' ⟨rfl, rfl⟩; rw [hmk.out])
          go_loop [10] (fun t => ∃ i : Nat, k ≤ i ∧ i ≤ m2 ∧ t = .int .i64 (i : Int)) (fun t => m2 - (intOf t).toNat)
          case atStart => exact ⟨k, Nat.le_refl _, hm2, rfl⟩
          case round =>
            obtain ⟨i, hi1, hi2, rfl⟩ := hrel
            by_cases hi' : i = m2
            · have hmk2 := hid ((HFR.out i hi1 hi2).trans (decide_eq_true hi'))
              subst hi'
              have hxy : (y < x ∧ min x y = y) ∨ (¬ y < x ∧ min x y = x) := by omega
              rcases hxy with ⟨hxy, hmn⟩ | ⟨hxy, hmn⟩
              · rw [hmn] at HL
                clear hmn
                go_wp2_with (go_at_call 69; refine (xmarked_any _ _ _ _ _ _ he hnm (by unfold maxLen; omega)).mono ?_; rintro x' w' ⟨rfl, rfl⟩; rw [hmk2.out])
                go_quiet (fail)
                go_wp2_with (at_builtin; refine wpList_append_own _ rfl _ _ 28 rfl w.heap.size 3 i0 (.int .i64 0) 1 8 Tryz.underlying28 hi hz0 hz1 hz2 rfl (by decide) _ _ _ rfl (World.ownsRow.alloc (OwnL.drewN hrow.out _) _) ⟨wr.heap.size, 0, none⟩ 1 1 [.int .i64 y] rfl rfl (cell_one_new rfl) one_cell1 (by unfold maxLen; omega) (by omega) (by have := hB.out.size; simp; omega) ?_; intro v1 w3 hown3 hgrow3 _)
                have HB3 := hid (below_app1 (bdrewN hB.out) (OwnL.drewN hrow.out nq) (Nat.le_refl _) hgrow3)
                have HR3 : Hid (OwnL w3 w.heap.size v1 (credL r n e (k + 1))) := by rw [HL.out]; exact ownL_app hown3
                clear hown3 hgrow3
                go_roundw
                case rel => exact ⟨k + 1, by omega, by go_num, HR3, HB3⟩
                case measure => simp [intOf]; omega
              · rw [hmn] at HL
                clear hmn
                go_wp2_with (go_at_call 69; refine (xmarked_any _ _ _ _ _ _ he hnm (by unfold maxLen; omega)).mono ?_; rintro x' w' ⟨rfl, rfl⟩; rw [hmk2.out])
                go_quiet (fail)
                go_wp2_with (at_builtin; refine wpList_append_own _ rfl _ _ 28 rfl w.heap.size 3 i0 (.int .i64 0) 1 8 Tryz.underlying28 hi hz0 hz1 hz2 rfl (by decide) _ _ _ rfl (World.ownsRow.alloc (OwnL.drewN hrow.out _) _) ⟨wr.heap.size, 0, none⟩ 1 1 [.int .i64 x] rfl rfl (cell_one_new rfl) one_cell1 (by unfold maxLen; omega) (by omega) (by have := hB.out.size; simp; omega) ?_; intro v1 w3 hown3 hgrow3 _)
                have HB3 := hid (below_app1 (bdrewN hB.out) (OwnL.drewN hrow.out nq) (Nat.le_refl _) hgrow3)
                have HR3 : Hid (OwnL w3 w.heap.size v1 (credL r n e (k + 1))) := by rw [HL.out]; exact ownL_app hown3
                clear hown3 hgrow3
                go_roundw
                case rel => exact ⟨k + 1, by omega, by go_num, HR3, HB3⟩
                case measure => simp [intOf]; omega
            · have hmk2 := hid ((HFR.out i hi1 hi2).trans (decide_eq_false hi'))
              go_wp2_with (go_at_call 69; refine (xmarked_any _ _ _ _ _ _ he hnm (by unfold maxLen; omega)).mono ?_; rintro x' w' ⟨rfl, rfl⟩; rw [hmk2.out])
              go_round
              case rel => exact ⟨i + 1, by omega, by omega, by go_num⟩
              case measure => simp [intOf]; omega
        · have hmk := hid ((HBK.out j hj1 hj2).trans (decide_eq_false hj))
          go_wp2_with (go_at_call 69; refine (xmarked_any _ _ _ _ _ _ he hnm (by unfold maxLen; omega)).mono ?_; rintro x' w' ⟨rfl, rfl⟩; rw [hmk.out])
          go_round
          case rel => exact ⟨j - 1, by omega, by omega, int_eq (by omega)⟩
          case measure => simp [intOf]; omega
    · obtain rfl : k = n := by omega
      go_wp2
      go_ret2
      exact ⟨_, rfl, hrow.out.rowI (by omega), hB.out⟩
end Go.Proofs.YtedfajokiblfhaaGreat.Rt

/- Marks and Credit of both, whatever comes in: contracts. -/
namespace Go.Proofs.YtedfajokiblfhaaGreat.Rt
open Go.RowKit

theorem markE_zero {n : Nat} {e : Int} (h : markE n e = 0) : n ≤ 2000 ∧ 1 ≤ e ∧ e ≤ 2000 := by
  unfold markE at h
  by_cases h1 : 2000 < n
  · rw [if_pos h1] at h; cases h
  · rw [if_neg h1] at h
    cases h2 : inB e 1 2000
    · rw [h2] at h; cases h
    · exact ⟨by omega, inB_iff.1 h2⟩
def marksO (r : Nat → Rd) (n : Nat) (e : Int) : List Int := if markE n e = 0 then marksL r n e.toNat n else []
def credO (r : Nat → Rd) (n : Nat) (e : Int) : List Int := if markE n e = 0 then credL r n e.toNat n else []
set_option maxHeartbeats 1000000 in
theorem credit_any (v : Value) (n : Nat) (e : Int) (r : Nat → Rd) (w : World) (hr : RowR w v n r) :
    Calls Tryz.prog 65 #[v, .int .i64 e] w (LstP (credO r n e) (markE n e) w) := by
  by_cases h : markE n e = 0
  · obtain ⟨h1, h2, h3⟩ := markE_zero h
    obtain ⟨k, rfl⟩ : ∃ k : Nat, e = k := ⟨e.toNat, by omega⟩
    rw [h, show credO r n (k : Int) = credL r n k n by unfold credO; rw [if_pos h]; rfl]
    exact credit_ok v n k r w hr h1 (by omega) (by omega)
  · rw [show credO r n e = [] by unfold credO; rw [if_neg h]]
    obtain ⟨a, b, o, cap, rfl, _, _, _, _⟩ := hr
    have hnm : n ≤ maxLen := by omega
    have h' : (markE n e != 0) = true := by simpa using h
    generalize hE : markE n e = E at h'
    have HE := hid hE
    clear hE h
    go_enter Tryz.func65, Tryz.ntmps65
    go_wp2_with (go_at_call 108; refine (checkMarks_any _ _ _ _ _ hnm).mono ?_; rintro e w' ⟨rfl, rfl⟩; rw [HE.out])
    go_ret2
    exact ⟨_, rfl, rowI_nil _, Below.refl _ _⟩
set_option maxHeartbeats 1000000 in
theorem xcredit_any (v : Value) (n : Nat) (e : Int) (r : Nat → Rd) (w : World) (hr : RowR w v n r) :
    Calls Tryz.prog 32 #[v, .int .i64 e] w (LstP (credO r n e) (markE n e) w) := by
  by_cases h : markE n e = 0
  · obtain ⟨h1, h2, h3⟩ := markE_zero h
    obtain ⟨k, rfl⟩ : ∃ k : Nat, e = k := ⟨e.toNat, by omega⟩
    rw [h, show credO r n (k : Int) = credL r n k n by unfold credO; rw [if_pos h]; rfl]
    exact xcredit_ok v n k r w hr h1 (by omega) (by omega)
  · rw [show credO r n e = [] by unfold credO; rw [if_neg h]]
    obtain ⟨a, b, o, cap, rfl, _, _, _, _⟩ := hr
    have hnm : n ≤ maxLen := by omega
    have h' : (markE n e != 0) = true := by simpa using h
    generalize hE : markE n e = E at h'
    have HE := hid hE
    clear hE h
    go_enter Tryz.func32, Tryz.ntmps32
    go_wp2_with (go_at_call 68; refine (everyError_any _ _ _ _ _ hnm).mono ?_; rintro e w' ⟨rfl, rfl⟩; rw [HE.out])
    go_ret2
    exact ⟨_, rfl, rowI_nil _, Below.refl _ _⟩
end Go.Proofs.YtedfajokiblfhaaGreat.Rt
