/- Walk of Union: contract. -/
import Derived.Test.YtjfakhfkbnnbcaaP5
namespace Go.Proofs.Ytjfakhfkbnnbcaa
open Go.RowKit

theorem OwnX.last {w : World} {base E g uc : Nat} {l : List Pr} {d : Pr} (h : OwnX w base E (.slice (some ⟨g, 0, none⟩) (l.length + 1) uc) (l ++ [d])) :
    w.cell? ⟨g, l.length * 2, none⟩ = some (.int .i64 d.x) ∧ w.cell? ⟨g, l.length * 2 + 1, none⟩ = some (.int .i64 d.y) ∧ w.frozen? ⟨g, l.length * 2 + 1, none⟩ = false := by
  have e : (l ++ [d]).length = l.length + 1 := by simp
  unfold OwnX at h
  rw [e] at h
  obtain ⟨h1, h2⟩ := pvs_at (l ++ [d]) l.length (by simp)
  have ed : (l ++ [d])[l.length]'(by simp) = d := by simp
  rw [ed] at h1 h2
  exact ⟨(h.cellAt _ (by omega)).trans h1, (h.cellAt _ (by omega)).trans h2, h.frozenAt _⟩
theorem OwnX.set1 {w : World} {base E g uc : Nat} {l : List Pr} {d : Pr} (h : OwnX w base E (.slice (some ⟨g, 0, none⟩) (l.length + 1) uc) (l ++ [d])) (y : Int) :
    OwnX (w.setCell ⟨g, l.length * 2 + 1, none⟩ (.int .i64 y)) base E (.slice (some ⟨g, 0, none⟩) (l.length + 1) uc) (l ++ [⟨d.x, y⟩]) := by
  have e : ∀ d : Pr, (l ++ [d]).length = l.length + 1 := by simp
  unfold OwnX at h ⊢
  rw [e] at h ⊢
  have := (h.stored (l.length * 2 + 1) (.int .i64 y)).1
  rwa [pvs_set1] at this
theorem OwnX.below {w w0 : World} {base E g uc n j : Nat} {l : List Pr} {x : Value} (hB : Below w0.heap.size w0 w) (h : OwnX w base E (.slice (some ⟨g, 0, none⟩) n uc) l) (hb : w0.heap.size ≤ base) : Below w0.heap.size w0 (w.setCell ⟨g, j, none⟩ x) :=
  hB.setCell (p := ⟨g, j, none⟩) (Nat.le_trans hb (World.ownsRow.lt h g rfl).1) _
theorem OwnX.low {w : World} {b1 b2 E : Nat} {v : Value} {l : List Pr} (h : OwnX w b1 E v l) (hb : b2 ≤ b1) : OwnX w b2 E v l := by
  refine ⟨h.1, ?_⟩
  rcases h.2 with hn | ⟨g, cap, cur, rfl, hb', rest⟩
  · exact .inl hn
  · exact .inr ⟨g, cap, cur, rfl, Nat.le_trans hb hb', rest⟩
theorem OwnX.drew {w : World} {base E n : Nat} {v : Value} {l : List Pr} (h : OwnX w base E v l) : OwnX (w.drewN n) base E v l := h
/-- What Union answers. -/
def UniP (l : List Pr) (w : World) (e : Ending) (w' : World) : Prop := ∃ u m, e = .returned u ∧ Uni m l ∧ OwnX w' w.heap.size 68 u m ∧ Below w.heap.size w w'
set_option maxRecDepth 20000 in
set_option maxHeartbeats 4000000 in
theorem union_any (v : Value) (l : List Pr) (w : World) (hr : RowX w v l) (hf : l.length ≤ 1000000) : Calls Try.prog 45 #[v] w (UniP l w) := by
  obtain ⟨i0, hi, hz0, hz1, hz2⟩ := infoX_parts
  have HCL := hid (clone_any v l w hr hf)
  have HF := hid hf
  clear hr hf
  go_enter Try.func45, Try.ntmps45
  go_wp2_with fail
  refine HCL.out.mono ?_
  rintro e w1 ⟨u, rfl, hu, hb1⟩
  have HSO := hid (sort_any l u w w1 hu hb1 HF.out)
  clear hu hb1 HCL
  go_wp2_with fail
  refine HSO.out.mono ?_
  rintro e w2 ⟨rfl, ss, hp, ha, hrow, hlen, hb2⟩
  have HU := hid (uni_of hp ha)
  have HB := hid hb2
  have hm := hrow.most
  unfold maxLen at hm
  obtain ⟨va, vc, rfl⟩ := hrow.shape
  have HR := hid (fun w1 (g : Below w2.heap.size w2 w1) => hrow.keep g)
  obtain ⟨n, hn⟩ : ∃ n, n = ss.length := ⟨_, rfl⟩
  have HN := hid hn
  have hF := HF.out
  rw [← hlen, ← hn] at hF
  have HF := hid hF
  rw [← hn] at hm HR ⊢
  clear hp ha hrow hlen hb2 HSO hn hF
  go_wp2
  go_loopw [4, 14] (fun v t wr => ∃ k : Nat, k ≤ n ∧ t = .int .i64 (k : Int) ∧ Hid (OwnX wr w2.heap.size 68 v (mrgL (ss.take k))) ∧ Hid (Below w2.heap.size w2 wr)) (fun _ t _ => n - (intOf t).toNat)
  case atStart => exact ⟨0, Nat.zero_le _, rfl, ownX_nil _ _ _, Below.refl _ _⟩
  case round =>
    obtain ⟨k, hk, rfl, hown, hB⟩ := hrel
    by_cases hlt : k < n
    · have hlt' : (k : Int) < n := by omega
      have hks : k < ss.length := by rw [← HN.out]; exact hlt
      obtain ⟨b, o, hva, c0, c1⟩ := (HR.out _ hB.out).get hks
      subst hva
      have HT : mrgL (ss.take (k + 1)) = mrg (mrgL (ss.take k)) ss[k] := by
        rw [List.take_succ_eq_append_getElem hks, mrgL_snoc]
      generalize ss[k] = s at c0 c1 HT
      obtain ⟨sx, sy⟩ := s
      simp only at c0 c1
      have HT := hid HT
      have HB1 := hid (hB.out.alloc hB.out.size (.cells #[.int .i64 sx, .int .i64 sy] 68))
      have HO1 := hid (show OwnX (wr.alloc (.cells #[.int .i64 sx, .int .i64 sy] 68)) w2.heap.size 68 u4 (mrgL (ss.take k)) from World.ownsRow.alloc hown.out _)
      have HFEW := hid (show (mrgL (ss.take k)).length ≤ k by
        have := mrgL_len _ (l := ss.take k) rfl
        rw [List.length_take] at this
        omega)
      have HLT := hid hlt
      clear hlt
      by_cases h1 : sy ≤ sx
      · have HN1 : Hid (OwnX (wr.alloc (.cells #[.int .i64 sx, .int .i64 sy] 68)) w2.heap.size 68 u4 (mrgL (ss.take (k + 1)))) := by
          rw [HT.out, mrg_empty h1]; exact HO1.out
        obtain ⟨ua, uc, hu⟩ := ownX_shape hown.out
        subst hu
        go_wp2
        go_roundw
        case rel => exact ⟨k + 1, HLT.out, by go_num, HN1, HB1⟩
        case measure => have := HLT.out; simp [intOf]; omega
      have HX1 := hid h1
      have h1' : ¬ (sy ≤ sx) := h1
      rcases pr_last (mrgL (ss.take k)) with hl | ⟨l0, d, hl⟩
      · have HE : Hid (mrgL (ss.take (k + 1)) = [⟨sx, sy⟩]) := by
          show mrgL _ = _
          rw [HT.out, hl, mrg_first h1]
        obtain ⟨ua, uc, hu⟩ := ownX_shape hown.out
        rw [hl] at hu
        simp only [List.length_nil] at hu
        have HO3 : Hid (OwnX (wr.alloc (.cells #[.int .i64 sx, .int .i64 sy] 68)) w2.heap.size 68 (.slice ua ([] : List Pr).length uc) []) := by
          have h := HO1.out
          rw [hl, hu] at h
          exact h
        subst hu
        clear hl h1
        go_wp2
        go_quiet (fail)
        go_wp2_with (at_builtin; refine wpList_append_own _ rfl _ _ 28 rfl w2.heap.size 68 i0 (.agg #[.int .i64 0, .int .i64 0]) 2 16 Try.underlying28 hi hz0 hz1 hz2 rfl (by decide) _ _ _ rfl (World.ownsRow.alloc HO3.out _) ⟨wr.heap.size + 1, 0, none⟩ 1 1 [.int .i64 sx, .int .i64 sy] rfl rfl (cell_two_new (by simp)) two_cell1 (by unfold maxLen; simp only [List.length_nil]; omega) (by simp only [List.length_nil]; omega) (by have := HB1.out.size; simp at this ⊢; omega) ?_; intro v1 w3 hown3 hgrow3 _)
        have HB3 := hid (below_prs (bdrewN HB1.out) HO3.out (Nat.le_refl _) hgrow3)
        have HR3 : Hid (OwnX w3 w2.heap.size 68 v1 (mrgL (ss.take (k + 1)))) := by rw [HE.out]; exact OwnX.app (l := []) (d := ⟨sx, sy⟩) hown3
        clear hown3 hgrow3
        go_roundw
        case rel => exact ⟨k + 1, HLT.out, by go_num, HR3, HB3⟩
        case measure => have := HLT.out; simp [intOf]; omega
      obtain ⟨dx, dy⟩ := d
      obtain ⟨g, uc, hu, _⟩ := ownX_some (l := l0) (d := ⟨dx, dy⟩) (by have h := hown.out; rw [hl] at h; exact h)
      have HO3 : Hid (OwnX (wr.alloc (.cells #[.int .i64 sx, .int .i64 sy] 68)) w2.heap.size 68 (.slice (some ⟨g, 0, none⟩) (l0.length + 1) uc) (l0 ++ [⟨dx, dy⟩])) := by
        have h := HO1.out
        rw [hl, hu] at h
        exact h
      obtain ⟨e1, e2, e3⟩ := HO3.out.last
      simp only at e1 e2
      have HFEW := hid (show l0.length + 1 ≤ k by have := HFEW.out; rw [hl] at this; simpa using this)
      have HL := hid hl
      subst hu
      clear hl
      obtain ⟨M, hM⟩ : ∃ M, M = l0.length := ⟨_, rfl⟩
      rw [← hM] at e1 e2 e3 HFEW
      have HO4 : Hid (World.ownsRow (wr.alloc (.cells #[.int .i64 sx, .int .i64 sy] 68)) w2.heap.size 68 2 (.slice (some ⟨g, 0, none⟩) (M + 1) uc) (M + 1) (pvs (l0 ++ [⟨dx, dy⟩]))) := by
        have h := HO3.out
        unfold OwnX at h
        rw [List.length_append, ← hM] at h
        exact h
      have hMk := HFEW.out
      have hMi : (M : Int) < (M : Int) + 1 := by omega
      have hMw : IntKind.i64.wrap (M : Int) = (M : Int) := IntWalk.i64_in _ ⟨by omega, by omega⟩
      rw [← hM]
      clear h1
      by_cases h2 : sx ≤ dy
      case neg =>
        have HE : Hid (mrgL (ss.take (k + 1)) = l0 ++ [⟨dx, dy⟩] ++ [⟨sx, sy⟩]) := by
          show mrgL _ = _
          rw [HT.out, HL.out, mrg_next HX1.out h2]
        have HM := hid hM
        clear hM
        go_wp2
        go_quiet (fail)
        go_wp2_with (at_builtin; refine wpList_append_own _ rfl _ _ 28 rfl w2.heap.size 68 i0 (.agg #[.int .i64 0, .int .i64 0]) 2 16 Try.underlying28 hi hz0 hz1 hz2 rfl (by decide) _ _ _ rfl (World.ownsRow.alloc HO4.out _) ⟨wr.heap.size + 1, 0, none⟩ 1 1 [.int .i64 sx, .int .i64 sy] rfl rfl (cell_two_new (by simp)) two_cell1 (by have := HFEW.out; have := HF.out; unfold maxLen; omega) (by have := HFEW.out; have := HF.out; omega) (by have := HB1.out.size; simp at this ⊢; omega) ?_; intro v1 w3 hown3 hgrow3 _)
        have HB3 := hid (below_prs (bdrewN HB1.out) (by rw [← HM.out] at HO3; exact HO3.out) (Nat.le_refl _) hgrow3)
        have HR3 : Hid (OwnX w3 w2.heap.size 68 v1 (mrgL (ss.take (k + 1)))) := by rw [HE.out]; exact OwnX.app (d := ⟨_, _⟩) (by rw [List.length_append, ← HM.out]; exact hown3)
        clear hown3 hgrow3
        go_roundw
        case rel => exact ⟨k + 1, HLT.out, by go_num, HR3, HB3⟩
        case measure => have := HLT.out; simp [intOf]; omega
      have HE : Hid (mrgL (ss.take (k + 1)) = l0 ++ [⟨dx, max dy sy⟩]) := by
        show mrgL _ = _
        rw [HT.out, HL.out, mrg_more HX1.out h2]
      have hgw : g ≠ wr.heap.size := by have := (World.ownsRow.lt hown.out g rfl).2; omega
      have HS : ∀ i z, max dy sy = z → Hid (OwnX (((wr.alloc (.cells #[.int .i64 sx, .int .i64 sy] 68)).drewN i).setCell ⟨g, M * 2 + 1, none⟩ (.int .i64 z)) w2.heap.size 68 (.slice (some ⟨g, 0, none⟩) (M + 1) uc) (mrgL (ss.take (k + 1)))) ∧ Hid (Below w2.heap.size w2 (((wr.alloc (.cells #[.int .i64 sx, .int .i64 sy] 68)).drewN i).setCell ⟨g, M * 2 + 1, none⟩ (.int .i64 z))) := by
        rintro i z rfl
        have h3 : OwnX ((wr.alloc (.cells #[.int .i64 sx, .int .i64 sy] 68)).drewN i) w2.heap.size 68 (.slice (some ⟨g, 0, none⟩) (l0.length + 1) uc) (l0 ++ [⟨dx, dy⟩]) := HO3.out
        have q1 := h3.set1 (max dy sy)
        rw [← hM] at q1
        refine ⟨?_, ?_⟩
        · show OwnX _ _ _ _ _
          rw [HE.out]
          exact q1
        · exact OwnX.below (bdrewN HB1.out) h3 (Nat.le_refl _)
      have HS := hid HS
      have HM := hid hM
      clear hM
      go_wp2
      go_quiet (fail)
      go_wp2
      go_region
      go_wp2
      go_roundw
      case rel => exact ⟨k + 1, HLT.out, by go_num, (HS.out _ _ rfl).1, (HS.out _ _ rfl).2⟩
      case measure => have := HLT.out; simp [intOf]; omega
    · obtain rfl : k = n := by omega
      have HFIN : Hid (mrgL (ss.take k) = mrgL ss) := by
        show mrgL _ = _
        rw [HN.out, List.take_length]
      go_wp2
      go_ret
      exact ⟨_, _, rfl, HU.out, OwnX.low (by rw [← HFIN.out]; exact hown.out) HB.out.size, bstep HB.out HB.out.size hB.out⟩
end Go.Proofs.Ytjfakhfkbnnbcaa
