/- Walks of the reference's Union, Length: contracts. -/
import Derived.Test.YtjfakhfkbnnbcaaIl
namespace Go.Proofs.Ytjfakhfkbnnbcaa
open Go.RowKit

theorem sorted_any (v : Value) (l : List Pr) (w : World) (hr : RowX w v l) (hf : l.length ≤ 100000) : Calls Try.prog 61 #[v] w (SrtQ l w) := by
  have : ∀ (N : Nat) (v : Value) (l : List Pr) (w : World), RowX w v l → l.length = N → l.length ≤ 100000 → Calls Try.prog 61 #[v] w (SrtQ l w) := by
    intro N
    induction N using Nat.strongRecOn with
    | _ N ih => exact fun v l w h1 h2 h3 => sorted_step N (fun v' l' w' g1 g2 g3 => ih _ g2 v' l' w' g1 rfl g3) v l w h1 h2 h3
  exact this _ v l w hr rfl hf
/-- Those that have ticks. -/
def neL (l : List Pr) : List Pr := l.filter fun p => decide (p.x < p.y)
theorem neL_mem {l : List Pr} {p : Pr} (h : p ∈ neL l) : p.x < p.y := by
  have := (List.mem_filter.1 h).2
  simpa using this
theorem neL_in {l : List Pr} {t : Int} : inP (neL l) t ↔ inP l t := by
  unfold inP neL
  constructor
  · rintro ⟨p, hp, g⟩
    exact ⟨p, (List.mem_filter.1 hp).1, g⟩
  · rintro ⟨p, hp, g⟩
    exact ⟨p, List.mem_filter.2 ⟨hp, by simp; omega⟩, g⟩
theorem neL_len (l : List Pr) : (neL l).length ≤ l.length := List.length_filter_le _ _
theorem neL_yes {l : List Pr} {k : Nat} (h : k < l.length) (g : l[k].x < l[k].y) : neL (l.take (k + 1)) = neL (l.take k) ++ [l[k]] := by
  unfold neL
  rw [List.take_succ_eq_append_getElem h, List.filter_append]
  simp [g]
theorem neL_no {l : List Pr} {k : Nat} (h : k < l.length) (g : ¬ l[k].x < l[k].y) : neL (l.take (k + 1)) = neL (l.take k) := by
  unfold neL
  rw [List.take_succ_eq_append_getElem h, List.filter_append]
  simp [g]
theorem uni_ne {ss l : List Pr} (hp : ss.Perm (neL l)) (ha : Asc ss) : Uni (mrgL ss) l := by
  have h := uni_of hp ha
  exact ⟨h.can, fun t => (h.same t).trans neL_in, Nat.le_trans h.few (neL_len l)⟩
theorem mrg_same {u : List Pr} {q s : Pr} (h : ¬ s.y ≤ s.x) (g : s.x ≤ q.y) (k : s.y ≤ q.y) : mrg (u ++ [q]) s = u ++ [q] := by
  rw [mrg_more h g, show max q.y s.y = q.y by omega]
theorem mrg_up {u : List Pr} {q s : Pr} (h : ¬ s.y ≤ s.x) (g : s.x ≤ q.y) (k : q.y < s.y) : mrg (u ++ [q]) s = u ++ [⟨q.x, s.y⟩] := by
  rw [mrg_more h g, show max q.y s.y = s.y by omega]
set_option maxRecDepth 20000 in
set_option maxHeartbeats 8000000 in
theorem xunion_any (v : Value) (l : List Pr) (w : World) (hr : RowX w v l) (hf : l.length ≤ 100000) : Calls Try.prog 40 #[v] w (UniP l w) := by
  obtain ⟨i0, hi, hz0, hz1, hz2⟩ := infoX_parts
  have HR := hid (fun w1 (g : Below w.heap.size w w1) => hr.keep g)
  have HF := hid hf
  obtain ⟨va, vc, rfl⟩ := hr.shape
  obtain ⟨n, hn⟩ : ∃ n, n = l.length := ⟨_, rfl⟩
  have HN := hid hn
  have hn3 : n ≤ 100000 := by omega
  rw [← hn] at HR ⊢
  clear hr hn hf
  go_enter Try.func40, Try.ntmps40
  go_wp2
  go_loopw [3, 4] (fun a t wr => ∃ k : Nat, k ≤ n ∧ t = .int .i64 (k : Int) ∧ Hid (OwnX wr w.heap.size 68 a (neL (l.take k))) ∧ Hid (Below w.heap.size w wr)) (fun _ t _ => n - (intOf t).toNat)
  case atStart => exact ⟨0, Nat.zero_le _, rfl, ownX_nil _ _ _, Below.refl _ _⟩
  case round =>
    obtain ⟨k, hk, rfl, hO, hB⟩ := hrel
    by_cases hlt : k < n
    · have hlt' : (k : Int) < n := by omega
      have hkl : k < l.length := by rw [← HN.out]; exact hlt
      obtain ⟨b, o, hva, c0, c1⟩ := (HR.out _ hB.out).get hkl
      subst hva
      have HY := hid (fun g => neL_yes hkl g)
      have HO := hid (fun g => neL_no hkl g)
      generalize l[k] = s at *
      obtain ⟨sx, sy⟩ := s
      simp only at c0 c1
      have HLT := hid hlt
      have HLN : Hid ((neL (l.take k)).length ≤ k) := by
        have := neL_len (l.take k)
        rw [List.length_take] at this
        show _ ≤ _
        omega
      clear hlt hkl
      by_cases hs : sx < sy
      · have HE := hid (HY.out hs)
        generalize neL (l.take k) = lo at *
        obtain ⟨ox, oc, rfl⟩ := ownX_shape hO.out
        go_wp2
        go_quiet (fail)
        have HBQ := hid (bdrewN (n := nq) hB.out)
        have HOQ := hid (show (World.drewN wr nq).ownsRow w.heap.size 68 2 (.slice ox lo.length oc) lo.length (pvs lo) from hO.out)
        go_wp2_with (at_builtin; refine wpList_append_own _ rfl _ _ 28 rfl w.heap.size 68 i0 (.agg #[.int .i64 0, .int .i64 0]) 2 16 Try.underlying28 hi hz0 hz1 hz2 rfl (by decide) _ _ _ rfl (World.ownsRow.alloc HOQ.out _) ⟨wr.heap.size, 0, none⟩ 1 1 [.int .i64 sx, .int .i64 sy] rfl rfl (cell_two_new (by simp)) two_cell1 (by have := HLN.out; unfold maxLen; omega) (by have := HLN.out; omega) (by have := HBQ.out.size; simp at this ⊢; omega) ?_; intro v1 w3 hown3 hgrow3 _; have HB3 := hid (below_prs HBQ.out (show OwnX _ _ _ _ lo from HOQ.out) (Nat.le_refl _) hgrow3); have HR3 := hid (OwnX.app (l := lo) (d := ⟨sx, sy⟩) hown3); clear hown3 hgrow3)
        go_roundw
        case rel => exact ⟨k + 1, HLT.out, by go_num, by rw [HE.out]; exact HR3, HB3⟩
        case measure => have := HLT.out; simp [intOf]; omega
      · have HE := hid (HO.out hs)
        have hs' : sy ≤ sx := by omega
        clear hs
        go_wp2
        go_quiet (fail)
        have HBQ := hid (bdrewN (n := nq) hB.out)
        have HOQ := hid (OwnX.drew (n := nq) hO.out)
        go_wp2
        go_roundw
        case rel => exact ⟨k + 1, HLT.out, by go_num, by rw [HE.out]; exact HOQ, HBQ⟩
        case measure => have := HLT.out; simp [intOf]; omega
    · obtain rfl : k = n := by omega
      have HLL : Hid (OwnX wr w.heap.size 68 u3 (neL l)) := by
        have h := hO.out
        rw [HN.out, List.take_length] at h
        exact h
      have HSO := hid (sorted_any u3 (neL l) wr HLL.out.row (Nat.le_trans (neL_len l) HF.out))
      clear hO hlt
      go_wp2_with fail
      refine HSO.out.mono ?_
      rintro e w2 ⟨u, ss, rfl, hp, ha, hrow, hb⟩
      have HU := hid (uni_ne hp ha)
      have HNE := hid (fun (j : Nat) (hj : j < ss.length) => neL_mem (hp.mem_iff.1 (List.getElem_mem hj)))
      have HB := hid (bstep hB.out hB.out.size hb)
      have hm : ss.length ≤ 100000 := by rw [hp.length_eq]; exact Nat.le_trans (neL_len l) HF.out
      obtain ⟨va, vc, rfl⟩ := hrow.shape
      have HR := hid (fun w1 (g : Below w2.heap.size w2 w1) => hrow.keep g)
      obtain ⟨n, hn⟩ : ∃ n, n = ss.length := ⟨_, rfl⟩
      have HN := hid hn
      rw [← hn] at hm HR ⊢
      clear hp ha hrow hb HSO hn hB HLL
      go_wp2
      go_loopw [5, 6] (fun v t wr => ∃ k : Nat, k ≤ n ∧ t = .int .i64 (k : Int) ∧ Hid (OwnX wr w2.heap.size 68 v (mrgL (ss.take k))) ∧ Hid (Below w2.heap.size w2 wr)) (fun _ t _ => n - (intOf t).toNat)
      case atStart => exact ⟨0, Nat.zero_le _, rfl, ownX_nil _ _ _, Below.refl _ _⟩
      case round =>
        obtain ⟨k, hk, rfl, hown, hB⟩ := hrel
        by_cases hlt : k < n
        · have hlt' : (k : Int) < n := by omega
          have hks : k < ss.length := by rw [← HN.out]; exact hlt
          obtain ⟨b, o, hva, c0, c1⟩ := (HR.out _ hB.out).get hks
          subst hva
          have hne := HNE.out k hks
          have HT : mrgL (ss.take (k + 1)) = mrg (mrgL (ss.take k)) ss[k] := by
            rw [List.take_succ_eq_append_getElem hks, mrgL_snoc]
          generalize ss[k] = s at c0 c1 HT hne
          obtain ⟨sx, sy⟩ := s
          simp only at c0 c1 hne
          have HT := hid HT
          have HFEW := hid (show (mrgL (ss.take k)).length ≤ k by
            have := mrgL_len _ (l := ss.take k) rfl
            rw [List.length_take] at this
            omega)
          have HLT := hid hlt
          have HX1 := hid (show ¬ sy ≤ sx by omega)
          clear hlt hne
          rcases pr_last (mrgL (ss.take k)) with hl | ⟨l0, d, hl⟩
          · have HE : Hid (mrgL (ss.take (k + 1)) = [⟨sx, sy⟩]) := by
              show mrgL _ = _
              rw [HT.out, hl, mrg_first HX1.out]
            obtain ⟨ua, uc, hu⟩ := ownX_shape hown.out
            rw [hl] at hu
            simp only [List.length_nil] at hu
            have HO3 : Hid (OwnX wr w2.heap.size 68 (.slice ua ([] : List Pr).length uc) []) := by
              have h := hown.out
              rw [hl, hu] at h
              exact h
            subst hu
            clear hl
            go_wp2
            go_quiet (fail)
            have HBQ := hid (bdrewN (n := nq) hB.out)
            have HOQ := hid (show (World.drewN wr nq).ownsRow w2.heap.size 68 2 (.slice ua ([] : List Pr).length uc) ([] : List Pr).length (pvs []) from HO3.out)
            go_wp2_with (at_builtin; refine wpList_append_own _ rfl _ _ 28 rfl w2.heap.size 68 i0 (.agg #[.int .i64 0, .int .i64 0]) 2 16 Try.underlying28 hi hz0 hz1 hz2 rfl (by decide) _ _ _ rfl (World.ownsRow.alloc HOQ.out _) ⟨wr.heap.size, 0, none⟩ 1 1 [.int .i64 sx, .int .i64 sy] rfl rfl (cell_two_new (by simp)) two_cell1 (by unfold maxLen; simp only [List.length_nil]; omega) (by simp only [List.length_nil]; omega) (by have := hB.out.size; simp at this ⊢; omega) ?_; intro v1 w3 hown3 hgrow3 _)
            have HB3 := hid (below_prs HBQ.out (show OwnX _ _ _ _ ([] : List Pr) from HOQ.out) (Nat.le_refl _) hgrow3)
            have HR3 : Hid (OwnX w3 w2.heap.size 68 v1 (mrgL (ss.take (k + 1)))) := by rw [HE.out]; exact OwnX.app (l := []) (d := ⟨sx, sy⟩) hown3
            clear hown3 hgrow3
            go_roundw
            case rel => exact ⟨k + 1, HLT.out, by go_num, HR3, HB3⟩
            case measure => have := HLT.out; simp [intOf]; omega
          obtain ⟨dx, dy⟩ := d
          obtain ⟨g, uc, hu, _⟩ := ownX_some (l := l0) (d := ⟨dx, dy⟩) (by have h := hown.out; rw [hl] at h; exact h)
          have HO3 : Hid (OwnX wr w2.heap.size 68 (.slice (some ⟨g, 0, none⟩) (l0.length + 1) uc) (l0 ++ [⟨dx, dy⟩])) := by
            have h := hown.out
            rw [hl, hu] at h
            exact h
          obtain ⟨e1, e2, e3⟩ := HO3.out.last
          simp only at e1 e2
          have HFEW := hid (show l0.length + 1 ≤ k by have := HFEW.out; rw [hl] at this; simpa using this)
          have HL := hid hl
          subst hu
          clear hl
          obtain ⟨M, hM⟩ : ∃ M, M = l0.length := ⟨_, rfl⟩
          rw [← hM] at e1 e2 e3 HFEW
          have HO4 : Hid (World.ownsRow wr w2.heap.size 68 2 (.slice (some ⟨g, 0, none⟩) (M + 1) uc) (M + 1) (pvs (l0 ++ [⟨dx, dy⟩]))) := by
            have h := HO3.out
            unfold OwnX at h
            rw [List.length_append, ← hM] at h
            exact h
          have hMk := HFEW.out
          have hMi : (M : Int) < (M : Int) + 1 := by omega
          have hMw : IntKind.i64.wrap (M : Int) = (M : Int) := IntWalk.i64_in _ ⟨by omega, by omega⟩
          have hM0 : ((M : Int) + 1 == 0) = false := by simp; omega
          rw [← hM]
          by_cases h2 : sx ≤ dy
          case neg =>
            have HE : Hid (mrgL (ss.take (k + 1)) = l0 ++ [⟨dx, dy⟩] ++ [⟨sx, sy⟩]) := by
              show mrgL _ = _
              rw [HT.out, HL.out, mrg_next HX1.out h2]
            have h2' : dy < sx := by omega
            have HM := hid hM
            clear hM h2
            go_wp2
            go_quiet (fail)
            have HBQ := hid (bdrewN (n := nq) hB.out)
            have HOQ := hid (show (World.drewN wr nq).ownsRow w2.heap.size 68 2 (.slice (some ⟨g, 0, none⟩) (M + 1) uc) (M + 1) (pvs (l0 ++ [⟨dx, dy⟩])) from HO4.out)
            go_wp2_with (at_builtin; refine wpList_append_own _ rfl _ _ 28 rfl w2.heap.size 68 i0 (.agg #[.int .i64 0, .int .i64 0]) 2 16 Try.underlying28 hi hz0 hz1 hz2 rfl (by decide) _ _ _ rfl (World.ownsRow.alloc HOQ.out _) ⟨wr.heap.size, 0, none⟩ 1 1 [.int .i64 sx, .int .i64 sy] rfl rfl (cell_two_new (by simp)) two_cell1 (by unfold maxLen; have := HFEW.out; omega) (by have := HFEW.out; omega) (by have := hB.out.size; simp at this ⊢; omega) ?_; intro v1 w3 hown3 hgrow3 _)
            have HB3 := hid (below_prs HBQ.out (show OwnX _ _ _ _ (l0 ++ [⟨dx, dy⟩]) from by unfold OwnX; rw [List.length_append, ← HM.out]; exact HOQ.out) (Nat.le_refl _) hgrow3)
            have HR3 : Hid (OwnX w3 w2.heap.size 68 v1 (mrgL (ss.take (k + 1)))) := by rw [HE.out]; exact OwnX.app (d := ⟨_, _⟩) (by rw [List.length_append, ← HM.out]; exact hown3)
            clear hown3 hgrow3
            go_roundw
            case rel => exact ⟨k + 1, HLT.out, by go_num, HR3, HB3⟩
            case measure => have := HLT.out; simp [intOf]; omega
          by_cases h3 : sy ≤ dy
          · have HE : Hid (mrgL (ss.take (k + 1)) = l0 ++ [⟨dx, dy⟩]) := by
              show mrgL _ = _
              rw [HT.out, HL.out, mrg_same HX1.out h2 h3]
            have HM := hid hM
            clear hM
            go_wp2
            go_quiet (fail)
            go_wp2
            go_quiet (fail)
            have HR3 : Hid (OwnX wr w2.heap.size 68 (.slice (some ⟨g, 0, none⟩) (M + 1) uc) (mrgL (ss.take (k + 1)))) := by
              show OwnX _ _ _ _ _
              rw [HE.out, HM.out]; exact HO3.out
            go_wp2
            go_roundw
            case rel => exact ⟨k + 1, HLT.out, by go_num, OwnX.drew HR3.out, bdrewN hB.out⟩
            case measure => have := HLT.out; simp [intOf]; omega
          · have h3' : dy < sy := by omega
            have HE : Hid (mrgL (ss.take (k + 1)) = l0 ++ [⟨dx, sy⟩]) := by
              show mrgL _ = _
              rw [HT.out, HL.out, mrg_up HX1.out h2 h3']
            have HS : ∀ W, Hid (OwnX W w2.heap.size 68 (.slice (some ⟨g, 0, none⟩) (M + 1) uc) (l0 ++ [⟨dx, dy⟩])) → Hid (Below w2.heap.size w2 W) → Hid (OwnX (W.setCell ⟨g, M * 2 + 1, none⟩ (.int .i64 sy)) w2.heap.size 68 (.slice (some ⟨g, 0, none⟩) (M + 1) uc) (mrgL (ss.take (k + 1)))) ∧ Hid (Below w2.heap.size w2 (W.setCell ⟨g, M * 2 + 1, none⟩ (.int .i64 sy))) := by
              intro W q1 q2
              rw [hM] at q1
              have q3 := OwnX.set1 q1.out sy
              rw [← hM] at q3 q1
              refine ⟨?_, OwnX.below q2.out q1.out (Nat.le_refl _)⟩
              show OwnX _ _ _ _ _
              rw [HE.out]
              exact q3
            have HS := hid HS
            have HO5 : Hid (OwnX wr w2.heap.size 68 (.slice (some ⟨g, 0, none⟩) (M + 1) uc) (l0 ++ [⟨dx, dy⟩])) := by
              have h := HO3
              rw [← hM] at h
              exact h
            clear h3 hM
            go_wp2
            go_quiet (fail)
            go_wp2
            go_quiet (fail)
            go_wp2
            go_roundw
            case rel => exact ⟨k + 1, HLT.out, by go_num, (HS.out _ (OwnX.drew HO5.out) (bdrewN hB.out)).1, (HS.out _ (OwnX.drew HO5.out) (bdrewN hB.out)).2⟩
            case measure => have := HLT.out; simp [intOf]; omega
        · obtain rfl : k = n := by omega
          have HFIN : Hid (mrgL (ss.take k) = mrgL ss) := by
            show mrgL _ = _
            rw [HN.out, List.take_length]
          go_wp2
          go_ret
          exact ⟨_, _, rfl, HU.out, OwnX.low (by rw [← HFIN.out]; exact hown.out) HB.out.size, bstep HB.out HB.out.size hB.out⟩
end Go.Proofs.Ytjfakhfkbnnbcaa
