/- Walks of Credit of both: contracts. -/
import Derived.Test.YtedfajokiblfhaaVb
namespace Go.Proofs.Ytedfajokiblfhaa.Rt
open Go.RowKit

theorem ivs_set (l : List Int) (n : Nat) (x : Int) : (ivs l).set n (.int .i64 x) = ivs (l.set n x) := by simp [ivs, List.map_set]
theorem ivs_at {l : List Int} {n : Nat} {x : Int} (h : l[n]? = some x) : (ivs l)[n]? = some (.int .i64 x) := by simp [ivs, h]
theorem ownL_shape {w : World} {base : Nat} {v : Value} {l : List Int} (h : OwnL w base v l) : ∃ ua uc, v = .slice ua l.length uc := by
  rcases h.2 with ⟨rfl, h0⟩ | ⟨g, cap, cur, rfl, _⟩
  · exact ⟨_, _, by rw [h0]⟩
  · exact ⟨_, _, rfl⟩
set_option maxRecDepth 20000 in
set_option maxHeartbeats 4000000 in
theorem credit_ok (v : Value) (n e : Nat) (r : Nat → Rd) (w : World) (hr : RowR w v n r) (hn : n ≤ 2000) (he : 1 ≤ e) (he2 : e ≤ 2000) :
    Calls Try.prog 53 #[v, .int .i64 e] w (LstP (credL r n e n) 0 w) := by
  have HK := hid (fun w1 (g : Below w.heap.size w w1) => hr.keep g)
  have HR := hid hr
  obtain ⟨a, b, o, cap, rfl, hc, hm, ha, _⟩ := hr
  have hE : Hid (markE n e = 0) := by unfold Hid markE; rw [if_neg (by omega), if_pos (inB_iff.2 (by omega))]
  have HA := hid ha
  have hnm : n ≤ maxLen := by unfold maxLen; omega
  clear ha
  go_enter Try.func53, Try.ntmps53
  go_wp2_with (first
    | (go_at_call 80; refine (checkMarks_any _ _ _ _ _ hnm).mono ?_; rintro e w' ⟨rfl, rfl⟩; rw [hE.out])
    | (go_at_call 27; refine (baths_any _ _ _ _ HR.out (by omega)).mono ?_; rintro e w2 ⟨u, rfl, ho, hb⟩; obtain ⟨ua, uc, hu⟩ := ownL_shape ho; rw [bathsL_len] at hu; subst hu; have HO := hid ho; have HB := hid hb; clear ho hb))
  go_loopw [21] (fun t wr => ∃ k : Nat, k ≤ n ∧ t = .int .i64 (k : Int) ∧ Hid (OwnL wr w.heap.size (.slice ua n uc) (midC r n e k)) ∧ Hid (Below w.heap.size w wr)) (fun t _ => n - (intOf t).toNat)
  case atStart => exact ⟨0, Nat.zero_le _, rfl, by rw [midC_zero]; exact HO, HB⟩
  case round =>
    obtain ⟨k, hk, rfl, hrow, hB⟩ := hrel
    by_cases hlt : k < n
    · have hlt' : (k : Int) < n := by omega
      cases hmk : mkB n e k
      · obtain ⟨m1, hm1⟩ : ∃ m, m = k - k % e := ⟨_, rfl⟩
        obtain ⟨m2, hm2⟩ : ∃ m, m = nextM n e k := ⟨_, rfl⟩
        obtain ⟨hf1, hf2⟩ := mkB_false hmk
        have hle := Nat.mod_le k e
        have hlt2 := Nat.mod_lt k he
        obtain ⟨q, hq⟩ : ∃ q, q = k % e := ⟨_, rfl⟩
        have hq' : (k : Int) % (e : Int) = (q : Int) := by rw [hq]; omega
        have hv : Hid (min (r m1).b (r m2).b = credAt r n e k) := by unfold Hid credAt; rw [hmk, hm1, hm2]; rfl
        have hqk : q ≤ k := by omega
        have hm1' : (k : Int) - (q : Int) = (m1 : Int) := by omega
        have hm1n : m1 < n := by omega
        have hm2n : m2 < n := by unfold nextM at hm2; omega
        have hm2c : ((m1 : Int) + (e : Int) = (m2 : Int) ∧ (m2 : Int) ≤ (n : Int) - 1) ∨ ((n : Int) - 1 = (m2 : Int) ∧ (m2 : Int) < (m1 : Int) + (e : Int)) := by unfold nextM at hm2; omega
        have HST : Hid (∀ g, ua = some ⟨g, 0, none⟩ → OwnL (wr.setCell ⟨g, k, none⟩ (.int .i64 (min (r m1).b (r m2).b))) w.heap.size (.slice ua n uc) (midC r n e (k + 1)) ∧ wr.cell? ⟨g, k, none⟩ = some (.int .i64 (r k).b) ∧ wr.frozen? ⟨g, k, none⟩ = false ∧ Below w.heap.size w (wr.setCell ⟨g, k, none⟩ (.int .i64 (min (r m1).b (r m2).b)))) := by
          rintro g rfl
          have ho := hrow.out
          unfold OwnL at ho
          rw [midC_len] at ho
          refine ⟨?_, (ho.cellAt k (by omega)).trans (ivs_at (midC_at hlt)), ho.frozenAt k, ?_⟩
          · have hs := (ho.stored k (.int .i64 (min (r m1).b (r m2).b))).1
            rw [ivs_set, midC_set hlt hv.out] at hs
            unfold OwnL
            rw [midC_len]
            exact hs
          · exact hB.out.setCell (p := ⟨g, k, none⟩) (World.ownsRow.lt ho g rfl).1 _
        have HUA : Hid (∃ g, ua = some ⟨g, 0, none⟩) := by
          rcases hrow.out.2 with ⟨_, h0⟩ | ⟨g, cp, cur, hg, _⟩
          · rw [midC_len] at h0; omega
          · injection hg with hg1 _ _; exact ⟨g, hg1⟩
        obtain ⟨g, rfl⟩ := HUA.out
        obtain ⟨hst, ex, ef, hbl⟩ := HST.out g rfl
        have HS1 := hid hst
        have HS2 := hid hbl
        obtain ⟨a', b', o', cap', hvv, _, _, ha', hcell⟩ := HK.out _ hB.out
        injection hvv with hv1 hv2 hv3
        subst hv1 hv3
        rcases ha' with h0 | rfl
        · omega
        obtain ⟨c0, c1, c2, c3⟩ := hcell m1 hm1n
        obtain ⟨d0, d1, d2, d3⟩ := hcell m2 hm2n
        have HHI := hid hlt
        clear hm1 hm2 hq hf1 hf2 hle hlt2 hlt hcell HST HUA hst hbl hv2 hv
        generalize (r m1).b = x at c3 HS1 HS2
        generalize (r m2).b = y at d3 HS1 HS2
        generalize (r k).b = z at ex
        clear c0 c1 c2 d0 d1 d2
        have hxy : (x ≤ y ∧ min x y = x) ∨ (y < x ∧ min x y = y) := by omega
        rcases hxy with ⟨hxy, hmn⟩ | ⟨hxy, hmn⟩ <;> rw [hmn] at HS1 HS2 <;> clear hmn <;> rcases hm2c with ⟨e1, e2⟩ | ⟨e1, e2⟩
        · go_wp2_with (go_at_call 81; refine (marked_any _ _ _ _ _ _ he hnm (by omega)).mono ?_; rintro x' w' ⟨rfl, rfl⟩; rw [hmk])
          go_region
          go_wp2
          go_roundw
          case rel => exact ⟨k + 1, by omega, by go_num, HS1, hid HS2.out.drew⟩
          case measure => simp [intOf]; omega
        · have e3 : (n : Int) - 1 < (m1 : Int) + (e : Int) := by omega
          obtain rfl : m2 = n - 1 := by omega
          clear e1 e2 hm2n
          go_wp2_with (go_at_call 81; refine (marked_any _ _ _ _ _ _ he hnm (by omega)).mono ?_; rintro x' w' ⟨rfl, rfl⟩; rw [hmk])
          go_region
          go_wp2
          go_roundw
          case rel => exact ⟨k + 1, by omega, by go_num, HS1, hid HS2.out.drew⟩
          case measure => simp [intOf]; omega
        · go_wp2_with (go_at_call 81; refine (marked_any _ _ _ _ _ _ he hnm (by omega)).mono ?_; rintro x' w' ⟨rfl, rfl⟩; rw [hmk])
          go_region
          go_wp2
          go_roundw
          case rel => exact ⟨k + 1, by omega, by go_num, HS1, hid HS2.out.drew⟩
          case measure => simp [intOf]; omega
        · have e3 : (n : Int) - 1 < (m1 : Int) + (e : Int) := by omega
          obtain rfl : m2 = n - 1 := by omega
          clear e1 e2 hm2n
          go_wp2_with (go_at_call 81; refine (marked_any _ _ _ _ _ _ he hnm (by omega)).mono ?_; rintro x' w' ⟨rfl, rfl⟩; rw [hmk])
          go_region
          go_wp2
          go_roundw
          case rel => exact ⟨k + 1, by omega, by go_num, HS1, hid HS2.out.drew⟩
          case measure => simp [intOf]; omega
      · have HL := hid (midC_skip (r := r) hlt hmk)
        rw [HL.out] at hrow
        clear hlt HL
        go_wp2_with (go_at_call 81; refine (marked_any _ _ _ _ _ _ he hnm (by omega)).mono ?_; rintro x' w' ⟨rfl, rfl⟩; rw [hmk])
        go_roundw
        case rel => exact ⟨k + 1, by omega, by go_num, hrow, hB⟩
        case measure => simp [intOf]; omega
    · obtain rfl : k = n := by omega
      have HL := hid (midC_all r k e)
      rw [HL.out] at hrow
      go_wp2
      go_ret2
      exact ⟨_, rfl, hrow.out.rowI (by have := credL_len r k e k; omega), hB.out⟩
theorem OwnL.drewN {w : World} {base : Nat} {v : Value} {l : List Int} (h : OwnL w base v l) (k : Nat) : OwnL (w.drewN k) base v l := h
theorem marks_around {n e k : Nat} (r : Nat → Rd) (he : 1 ≤ e) (hk : k < n) : ∃ m1 m2 : Nat, m1 ≤ k ∧ k ≤ m2 ∧ m2 < n ∧ (∀ j, m1 ≤ j → j ≤ k → mkB n e j = decide (j = m1)) ∧ (∀ j, k ≤ j → j ≤ m2 → mkB n e j = decide (j = m2)) ∧ min (r m1).b (r m2).b = credAt r n e k := by
  cases hm : mkB n e k
  · obtain ⟨h1, h2⟩ := mkB_false hm
    have hle := Nat.mod_le k e
    have hlt2 := Nat.mod_lt k he
    refine ⟨k - k % e, nextM n e k, by omega, by unfold nextM; omega, by unfold nextM; omega, fun j h3 h4 => back_no he h3 h4 (by omega) hk, fun j h3 h4 => fore_no he hm h3 h4, by unfold credAt; rw [hm]; rfl⟩
  · refine ⟨k, k, Nat.le_refl _, Nat.le_refl _, hk, fun j h1 h2 => ?_, fun j h1 h2 => ?_, by unfold credAt; rw [if_pos hm]; omega⟩ <;>
    · obtain rfl : j = k := by omega
      rw [hm]; simp
end Go.Proofs.Ytedfajokiblfhaa.Rt
