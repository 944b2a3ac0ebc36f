/- Walk of Signals: contract, whatever comes in. -/
import Derived.Test.YtlhjiikbehmamaaDoorNd
import Derived.Deep.DeepCutAuto
namespace Go.Proofs.YtlhjiikbehmamaaDoor
open Go.RowKit

theorem Box1.two {w w1 : World} {x y : Int} (h : Box1 w w1 #[.int .i64 x, .int .i64 y]) : w1.cell? ⟨w.heap.size, 0, none⟩ = some (.int .i64 x) ∧ w1.cell? ⟨w.heap.size, 1, none⟩ = some (.int .i64 y) := ⟨h.fst 0, h.fst 1⟩
theorem Box1.grown2 {w wr w1 : World} {A : Array Value} {base E : Nat} {v : Value} {l : List Pr} {o : Obj} (h : Box1 w wr A) (hb : w.heap.size < base) (hv : OwnX wr base E v l) (hg : (wr.alloc o).grownBy w1 v.ownBlock) : Box1 w w1 A := by
  have hl : Below (w.heap.size + 1) wr w1 := ((Below.refl _ _).alloc h.sz _).grown hg (by have := h.sz; simp; omega) (fun k hk => by have := (World.ownsRow.lt hv k hk).1; omega)
  refine ⟨fun i => ?_, Nat.lt_of_lt_of_le h.sz hl.size, below_prs h.low hv (Nat.le_of_lt hb) hg⟩
  rw [hl.cell (p := ⟨w.heap.size, i, none⟩) (Nat.lt_succ_self _)]
  exact h.fst i
/-- The call of signalled in a round. -/
theorem sgn_round {M S : Int} {l : List Int} {b i j : Nat} {v : Value} {w w1 : World} (hM : -1000000000 ≤ M ∧ M ≤ 1000000000) (hS : 1 ≤ S ∧ S ≤ 1000000000) (hl : vlB l = true) (hj : j < 3) (hr : RowQ w v ((l.take (i + 1)).drop b)) (hb : Below w.heap.size w w1) {B : Bool} (hB : sgR M S l b i j = B) :
    Calls Tryd.prog 14 #[.agg #[.int .i64 M, .int .i64 S], v, .agg #[.int .i64 (rlC j : Nat), .int .i64 (rlD j : Nat), .int .i64 (rlE j)]] w1 fun e w' => e = .returned (.bool B) ∧ Below w1.heap.size w1 w' := by
  obtain ⟨h1, h2⟩ := vlB_iff.1 hl
  have hlen : ((l.take (i + 1)).drop b).length ≤ 10000 := by rw [List.length_drop, List.length_take]; omega
  have hmem : ∀ x ∈ (l.take (i + 1)).drop b, -1000000000 ≤ x ∧ x ≤ 1000000000 := fun x hx => h2 x (List.mem_of_mem_take (List.mem_of_mem_drop hx))
  rw [← hB]
  have hw : IntKind.i64.wrap (rlE j * S) = rlE j * S := by
    refine IntWalk.i64_in _ ?_
    rcases (show j = 0 ∨ j = 1 ∨ j = 2 by omega) with rfl | rfl | rfl <;> simp only [rlE] <;> omega
  refine sgn_any M S (rlE j * S) (rlE j) (rlC j) (rlD j) v _ w1 (hr.keep hb) hlen ?_ ?_ ?_ hw ?_ ?_ hM.1 hM.2 hmem
  all_goals rcases (show j = 0 ∨ j = 1 ∨ j = 2 by omega) with rfl | rfl | rfl <;> simp only [rlC, rlD, rlE] <;> omega
set_option maxRecDepth 20000 in
set_option maxHeartbeats 8000000 in
theorem signals_any (M S : Int) (v u : Value) (l adj : List Int) (w : World) (hr : RowQ w v l) (hu : RowQ w u adj) (hR : Rls w) :
    Calls Tryd.prog 6 #[.agg #[.int .i64 M, .int .i64 S], v, u] w (SigP M S l adj w) := by
  have HR := hid hr
  have HU := hid hu
  have HRL := hid hR
  have HBX := hid (fun w1 (g : Below (w.alloc (.cells #[.int .i64 M, .int .i64 S] 23)).heap.size (w.alloc (.cells #[.int .i64 M, .int .i64 S] 23)) w1) => box1_call g)
  have hm := hr.most
  unfold maxLen at hm
  obtain ⟨va, vc, rfl⟩ : ∃ a c, v = .slice a l.length c := hr.rowI.shape
  obtain ⟨ua, uc, rfl⟩ : ∃ a c, u = .slice a adj.length c := hu.rowI.shape
  obtain ⟨n, hn⟩ : ∃ n, n = l.length := ⟨_, rfl⟩
  obtain ⟨m, hm'⟩ : ∃ m, m = adj.length := ⟨_, rfl⟩
  have HN := hid hn
  have HM := hid hm'
  rw [← hn] at hm HR ⊢
  rw [← hm'] at HU ⊢
  have HE := hid (show sgE M S l adj = if chB M S then (if vlB l then (if ixB adj (n : Int) then 0 else 7) else 4) else 1 by rw [hn]; rfl)
  clear hr hu hR hn hm'
  cases hc : chB M S
  · have HE1 := hid (show sgE M S l adj = 1 by rw [HE.out, hc]; rfl)
    have HC := hid hc
    clear hc
    go_enter Tryd.func6, Tryd.ntmps6
    go_wp2_with fail
    refine (chart_any M S _).mono ?_
    rintro e w1 ⟨rfl, hb⟩
    rw [HC.out]
    have HX := hid (HBX.out _ hb)
    clear hb
    go_wp2_with fail
    refine bodyPost_ret (v := .tuple #[.slice none 0 0, .int .i64 1]) (by simp [results, Tryd.results6, go_sem]) rfl ?_
    exact sig_no HE1.out (by decide) HX.out.low
  have HC := hid hc
  obtain ⟨hM, hS⟩ := (by simpa only [chB, Bool.and_eq_true, inB_iff] using hc : (-1000000000 ≤ M ∧ M ≤ 1000000000) ∧ (1 ≤ S ∧ S ≤ 1000000000))
  have HMS := hid (And.intro hM hS)
  clear hc hM hS
  cases hv : vlB l
  · have HE1 := hid (show sgE M S l adj = 4 by rw [HE.out, HC.out, hv]; rfl)
    have HV := hid hv
    clear hv
    go_enter Tryd.func6, Tryd.ntmps6
    go_wp2_with fail
    refine (chart_any M S _).mono ?_
    rintro e w1 ⟨rfl, hb⟩
    rw [HC.out]
    have HX := hid (HBX.out _ hb)
    clear hb
    go_wp2_with fail
    refine (charted_any _ l _ (HR.out.keep HX.out.low).rowI).mono ?_
    rintro e w2 ⟨rfl, rfl⟩
    rw [HV.out]
    go_wp2_with fail
    refine bodyPost_ret (v := .tuple #[.slice none 0 0, .int .i64 4]) (by simp [results, Tryd.results6, go_sem]) rfl ?_
    exact sig_no HE1.out (by decide) HX.out.low
  have HV := hid hv
  have hn4 : n ≤ 10000 := by rw [HN.out]; exact (vlB_iff.1 hv).1
  clear hv
  cases hi : ixB adj (n : Int)
  · have HE1 := hid (show sgE M S l adj = 7 by rw [HE.out, HC.out, HV.out, hi]; rfl)
    have HI := hid hi
    clear hi
    go_enter Tryd.func6, Tryd.ntmps6
    go_wp2_with fail
    refine (chart_any M S _).mono ?_
    rintro e w1 ⟨rfl, hb⟩
    rw [HC.out]
    have HX := hid (HBX.out _ hb)
    clear hb
    go_wp2_with fail
    refine (charted_any _ l _ (HR.out.keep HX.out.low).rowI).mono ?_
    rintro e w2 ⟨rfl, rfl⟩
    rw [HV.out]
    go_wp2_with fail
    refine (indexes_any _ adj n _ (HU.out.keep HX.out.low).rowI hn4).mono ?_
    rintro e w3 ⟨rfl, rfl⟩
    rw [HI.out]
    go_wp2_with fail
    refine bodyPost_ret (v := .tuple #[.slice none 0 0, .int .i64 7]) (by simp [results, Tryd.results6, go_sem]) rfl ?_
    exact sig_no HE1.out (by decide) HX.out.low
  have HE1 := hid (show sgE M S l adj = 0 by rw [HE.out, HC.out, HV.out, hi]; rfl)
  have HI := hid hi
  clear hi
  obtain ⟨i0, hti, hz0, hz1, hz2⟩ := info_parts infoPr
  go_enter Tryd.func6, Tryd.ntmps6
  go_wp2_with fail
  refine (chart_any M S _).mono ?_
  rintro e w1 ⟨rfl, hb⟩
  rw [HC.out]
  have HX := hid (HBX.out _ hb)
  clear hb
  go_wp2_with fail
  refine (charted_any _ l _ (HR.out.keep HX.out.low).rowI).mono ?_
  rintro e w2 ⟨rfl, rfl⟩
  rw [HV.out]
  go_wp2_with fail
  refine (indexes_any _ adj n _ (HU.out.keep HX.out.low).rowI hn4).mono ?_
  rintro e w3 ⟨rfl, rfl⟩
  rw [HI.out]
  go_wp2_with fail
  go_loopw [2, 8, 9, 26] (fun q s b t wr => ∃ k : Nat, k ≤ n ∧ t = .int .i64 (k : Int) ∧ b = .int .i64 ((stA adj k).1 : Nat) ∧ Hid (RowQ w q (adj.drop (stA adj k).2)) ∧ Hid (OwnX wr (w.heap.size + 1) 32 s (sgL M S l adj k)) ∧ Hid (Box1 w wr #[.int .i64 M, .int .i64 S])) (fun _ _ _ t _ => n - (intOf t).toNat)
  case atStart => exact ⟨0, Nat.zero_le _, rfl, rfl, HU.out, ownX_nil _ _ _, HX⟩
  case round =>
    obtain ⟨k, hk, rfl, rfl, hq, hown, hbx⟩ := hrel
    by_cases hlt : k < n
    · have hlt' : (k : Int) < n := by omega
      have HLT := hid hlt
      have HKLE := hid (stA_le adj k)
      obtain ⟨A, hA⟩ : ∃ A, A = adj.drop (stA adj k).2 := ⟨_, rfl⟩
      have HA := hid hA
      rw [← hA] at hq
      clear hA
      obtain ⟨b0, hb0⟩ : ∃ b0, b0 = (stA adj k).1 := ⟨_, rfl⟩
      have HB0 := hid hb0
      rw [← hb0]
      clear hb0
      have hb0k : b0 ≤ k := by
        rw [HB0.out]
        rcases k with _ | k
        · exact Nat.le_refl _
        · have := stA_le adj k; omega
      rcases A with _ | ⟨x, A⟩
      · obtain ⟨qa, qc, rfl⟩ : ∃ a c, u2 = .slice a 0 c := hq.out.rowI.shape
        obtain ⟨W, hW⟩ : ∃ W, W = wr := ⟨_, rfl⟩
        obtain ⟨b', hb'⟩ : ∃ b', b' = b0 := ⟨_, rfl⟩
        have HST := hid (stA_no (adj := adj) (i := k) (by rw [drop_nil HA.out.symm]; exact fun h => by cases h))
        have HB := hid (show (stA adj (k + 1)).1 = b' by rw [HST.out, hb', HB0.out])
        have HQ := hid (show RowQ w (.slice qa 0 qc) (adj.drop (stA adj (k + 1)).2) by rw [HST.out, ← HA.out]; exact hq.out)
        rw [← hb']
        have hb'k : b' ≤ k := by omega
        have HOW := hown
        have HXW := hbx
        rw [← hW] at HOW HXW ⊢
        clear hown hbx hq hW hb'
        go_upto_region 14 with (fail)
        have hb1 : b' < k + 1 := by omega
        obtain ⟨vb, vo, hva, HQM, hs⟩ := HR.out.mid hb1 (show k + 1 ≤ n from HLT.out)
        have HQM := hid HQM
        obtain ⟨len, hlen⟩ : ∃ len, len = k + 1 - b' := ⟨_, rfl⟩
        rw [← hlen] at hs HQM
        rw [Int.natCast_add, Int.natCast_one] at hs
        have hw1 : IntKind.i64.wrap ((k : Int) + 1) = (k : Int) + 1 := IntWalk.i64_in _ ⟨by omega, by omega⟩
        have HLEN := hid hlen
        have HLO := hid (sgL_len M S l adj k)
        subst hva
        obtain ⟨r0, r1, r2, r3, r4, r5, r6, r7, r8⟩ := HRL.out.keep HXW.out.low
        clear hlen
        go_wp2_with fail
        clear r0 r1 r2 r3 r4 r5 r6 r7 r8
        obtain ⟨wo, hwo⟩ : ∃ wo : World, wo = W := ⟨_, rfl⟩
        go_loopw [8, 43] (fun s t w4 => ∃ j : Nat, j ≤ 3 ∧ t = .int .i64 (j : Int) ∧ Hid (OwnX w4 (w.heap.size + 1) 32 s (sgL M S l adj k ++ sgI M S l b' k j)) ∧ Hid (Box1 w w4 #[.int .i64 M, .int .i64 S])) (fun _ t _ => 3 - (intOf t).toNat)
        case atStart => exact ⟨0, by omega, rfl, by rw [sgI, List.append_nil]; exact HOW, HXW⟩
        case round =>
          obtain ⟨j, hj, rfl, hown4, hbx4⟩ := hrel
          by_cases hj3 : j < 3
          · have hix := ixR j hj3
            have HJ := hid hj3
            have hlt3 : (j : Int) < 3 := by omega
            have HIL := hid (sgI_len M S l b' k j)
            obtain ⟨p0, p1⟩ := (hbx4.out.keep ((Below.refl _ _).alloc (Nat.le_refl _) (.cells #[.int .i64 (rlC j : Nat), .int .i64 (rlD j : Nat), .int .i64 (rlE j)] 41))).two
            have HBW := hid (Below.drew ((Below.refl wr.heap.size wr).alloc (Nat.le_refl _) (.cells #[.int .i64 (rlC j : Nat), .int .i64 (rlD j : Nat), .int .i64 (rlE j)] 41)))
            have HBX5 := hid (fun w5 (g : Below wr.heap.size wr w5) => hbx4.out.keep g)
            have HOX5 := hid (fun w5 (g : Below wr.heap.size wr w5) => hown4.out.keep g)
            cases hsg : sgR M S l b' k j
            · have HSG := hid hsg
              have HNX := hid (sgI_no hsg)
              clear hsg hj3
              go_wp2_with fail
              have m0 := cell_alloc_new wr #[.int .i64 (rlC j : Nat), .int .i64 (rlD j : Nat), .int .i64 (rlE j)] 41 (0, 0) 0
              have m1 := cell_alloc_new wr #[.int .i64 (rlC j : Nat), .int .i64 (rlD j : Nat), .int .i64 (rlE j)] 41 (0, 0) 1
              have m2 := cell_alloc_new wr #[.int .i64 (rlC j : Nat), .int .i64 (rlD j : Nat), .int .i64 (rlE j)] 41 (0, 0) 2
              generalize World.alloc wr _ = W5 at *
              refine wp_region_still_tail 7 (by kernel_rfl) (by kernel_rfl) ?_
              simp only [List.take_succ_cons, List.take_zero, List.drop_succ_cons, List.drop_zero]
              iterate 7 still_step
              refine wpStill_nil ?_
              go_wp2_with fail
              refine (sgn_round HMS.out.1 HMS.out.2 HV.out HJ.out HQM.out (HBX5.out _ HBW.out).low HSG.out).mono ?_
              rintro e w5 ⟨rfl, hb⟩
              have HB5 := hid (bstep HBW.out HBW.out.size hb)
              clear hb
              have HX5 := hid (HBX5.out _ HB5.out)
              have HO5 : Hid (OwnX w5 (w.heap.size + 1) 32 u8 (sgL M S l adj k ++ sgI M S l b' k (j + 1))) := by rw [HNX.out]; exact HOX5.out _ HB5.out
              clear p0 p1
              go_wp2_with fail
              go_roundw
              case rel => exact ⟨j + 1, HJ.out, by go_num, HO5, HX5⟩
              case measure => have := HJ.out; simp [intOf]; omega
            · have HSG := hid hsg
              have HNX := hid (sgI_yes hsg)
              clear hsg hj3
              go_wp2_with fail
              have m0 := cell_alloc_new wr #[.int .i64 (rlC j : Nat), .int .i64 (rlD j : Nat), .int .i64 (rlE j)] 41 (0, 0) 0
              have m1 := cell_alloc_new wr #[.int .i64 (rlC j : Nat), .int .i64 (rlD j : Nat), .int .i64 (rlE j)] 41 (0, 0) 1
              have m2 := cell_alloc_new wr #[.int .i64 (rlC j : Nat), .int .i64 (rlD j : Nat), .int .i64 (rlE j)] 41 (0, 0) 2
              generalize World.alloc wr _ = W5 at *
              refine wp_region_still_tail 7 (by kernel_rfl) (by kernel_rfl) ?_
              simp only [List.take_succ_cons, List.take_zero, List.drop_succ_cons, List.drop_zero]
              iterate 7 still_step
              refine wpStill_nil ?_
              go_wp2_with fail
              refine (sgn_round HMS.out.1 HMS.out.2 HV.out HJ.out HQM.out (HBX5.out _ HBW.out).low HSG.out).mono ?_
              rintro e w5 ⟨rfl, hb⟩
              have HB5 := hid (bstep HBW.out HBW.out.size hb)
              clear hb
              have HX5 := hid (HBX5.out _ HB5.out)
              have HO5 := hid (HOX5.out _ HB5.out)
              obtain ⟨N, hN⟩ : ∃ N, N = (sgL M S l adj k ++ sgI M S l b' k j).length := ⟨_, rfl⟩
              have HO5r := hid (show w5.ownsRow (w.heap.size + 1) 32 2 u8 N (pvs (sgL M S l adj k ++ sgI M S l b' k j)) by rw [hN]; exact HO5.out)
              have hN5 : N ≤ 100000 := by have := HLO.out; have := HIL.out; have := HLT.out; rw [hN, List.length_append]; omega
              have HNN := hid hN
              clear p0 p1 hw1 hN
              go_wp2_with (at_builtin; refine wpList_append_own _ rfl _ _ 26 rfl (w.heap.size + 1) 32 i0 (.agg #[.int .i64 0, .int .i64 0]) 2 16 Tryd.underlying26 hti hz0 hz1 hz2 rfl (by decide) _ _ _ rfl (World.ownsRow.alloc HO5r.out _) ⟨w5.heap.size, 0, none⟩ 1 1 [.int .i64 k, .int .i64 ((j : Int) + 1)] rfl rfl (cell_two_new rfl) two_cell1 (by unfold maxLen; omega) (by omega) (by have := HX5.out.sz; simp; omega) ?_; intro v1 w6 hown6 hgrow6 _)
              have HX6 := hid (HX5.out.grown2 (Nat.lt_succ_self _) HO5.out hgrow6)
              have HO6 : Hid (OwnX w6 (w.heap.size + 1) 32 v1 (sgL M S l adj k ++ sgI M S l b' k (j + 1))) := by rw [HNX.out, ← List.append_assoc]; exact OwnX.app (d := ⟨_, _⟩) (by rw [← HNN.out]; exact hown6)
              clear hown6 hgrow6
              go_roundw
              case rel => exact ⟨j + 1, HJ.out, by go_num, HO6, HX6⟩
              case measure => have := HJ.out; simp [intOf]; omega
          · obtain rfl : j = 3 := by omega
            have HOE : Hid (OwnX wr (w.heap.size + 1) 32 u8 (sgL M S l adj (k + 1))) := by rw [sgL, HB.out]; exact hown4.out
            go_wp2_with fail
            go_roundw
            case rel => exact ⟨k + 1, HLT.out, by go_num, by rw [HB.out], HQ, HOE, hbx4⟩
            case measure => have := HLT.out; simp [intOf]; omega
      · obtain ⟨N2, hN2⟩ : ∃ N2, N2 = (x :: A).length := ⟨_, rfl⟩
        obtain ⟨qa, qc, rfl⟩ : ∃ a c, u2 = .slice a N2 c := by rw [hN2]; exact hq.out.rowI.shape
        have hN2p : 0 < N2 := by rw [hN2]; exact Nat.succ_pos _
        obtain ⟨tb, tq, hta, htc, v', hv', hts⟩ := RowQ.tail hq.out
        have htc2 := keep_cell hbx.out.low htc
        have HV' := hid hv'
        subst hta
        obtain ⟨hA1, hA2⟩ := drop_cons HA.out.symm
        have HA1 := hid hA1
        have HA2 := hid hA2
        clear hA1 hA2 htc hv' hN2
        by_cases hxk : x = (k : Int)
        · subst hxk
          have HST := hid (stA_yes HA1.out)
          have HB := hid (show (stA adj (k + 1)).1 = k by rw [HST.out])
          have HQ := hid (show RowQ w v' (adj.drop (stA adj (k + 1)).2) by rw [HST.out, HA2.out]; exact HV'.out)
          clear hq
          go_upto_region 13 with (fail)
          go_quiet (fail)
          have HOW := hid (hown.out.keep (bdrewN (Below.refl _ wr) (n := nq)))
          have HXW := hid (hbx.out.keep (bdrewN (Below.refl _ wr) (n := nq)))
          generalize World.drewN wr nq = W at *
          clear hown hbx hts htc2
          go_upto_region 14 with (fail)
          have hb1 : k < k + 1 := by omega
          obtain ⟨vb, vo, hva, HQM, hs⟩ := HR.out.mid hb1 (show k + 1 ≤ n from HLT.out)
          have HQM := hid HQM
          obtain ⟨len, hlen⟩ : ∃ len, len = k + 1 - k := ⟨_, rfl⟩
          rw [← hlen] at hs HQM
          rw [Int.natCast_add, Int.natCast_one] at hs
          have hw1 : IntKind.i64.wrap ((k : Int) + 1) = (k : Int) + 1 := IntWalk.i64_in _ ⟨by omega, by omega⟩
          have HLEN := hid hlen
          have HLO := hid (sgL_len M S l adj k)
          subst hva
          obtain ⟨r0, r1, r2, r3, r4, r5, r6, r7, r8⟩ := HRL.out.keep HXW.out.low
          clear hlen
          go_wp2_with fail
          clear r0 r1 r2 r3 r4 r5 r6 r7 r8
          obtain ⟨wo, hwo⟩ : ∃ wo : World, wo = W := ⟨_, rfl⟩
          go_loopw [8, 43] (fun s t w4 => ∃ j : Nat, j ≤ 3 ∧ t = .int .i64 (j : Int) ∧ Hid (OwnX w4 (w.heap.size + 1) 32 s (sgL M S l adj k ++ sgI M S l k k j)) ∧ Hid (Box1 w w4 #[.int .i64 M, .int .i64 S])) (fun _ t _ => 3 - (intOf t).toNat)
          case atStart => exact ⟨0, by omega, rfl, by rw [sgI, List.append_nil]; exact HOW, HXW⟩
          case round =>
            obtain ⟨j, hj, rfl, hown4, hbx4⟩ := hrel
            by_cases hj3 : j < 3
            · have hix := ixR j hj3
              have HJ := hid hj3
              have hlt3 : (j : Int) < 3 := by omega
              have HIL := hid (sgI_len M S l k k j)
              obtain ⟨p0, p1⟩ := (hbx4.out.keep ((Below.refl _ _).alloc (Nat.le_refl _) (.cells #[.int .i64 (rlC j : Nat), .int .i64 (rlD j : Nat), .int .i64 (rlE j)] 41))).two
              have HBW := hid (Below.drew ((Below.refl wr.heap.size wr).alloc (Nat.le_refl _) (.cells #[.int .i64 (rlC j : Nat), .int .i64 (rlD j : Nat), .int .i64 (rlE j)] 41)))
              have HBX5 := hid (fun w5 (g : Below wr.heap.size wr w5) => hbx4.out.keep g)
              have HOX5 := hid (fun w5 (g : Below wr.heap.size wr w5) => hown4.out.keep g)
              cases hsg : sgR M S l k k j
              · have HSG := hid hsg
                have HNX := hid (sgI_no hsg)
                clear hsg hj3
                go_wp2_with fail
                have m0 := cell_alloc_new wr #[.int .i64 (rlC j : Nat), .int .i64 (rlD j : Nat), .int .i64 (rlE j)] 41 (0, 0) 0
                have m1 := cell_alloc_new wr #[.int .i64 (rlC j : Nat), .int .i64 (rlD j : Nat), .int .i64 (rlE j)] 41 (0, 0) 1
                have m2 := cell_alloc_new wr #[.int .i64 (rlC j : Nat), .int .i64 (rlD j : Nat), .int .i64 (rlE j)] 41 (0, 0) 2
                generalize World.alloc wr _ = W5 at *
                refine wp_region_still_tail 7 (by kernel_rfl) (by kernel_rfl) ?_
                simp only [List.take_succ_cons, List.take_zero, List.drop_succ_cons, List.drop_zero]
                iterate 7 still_step
                refine wpStill_nil ?_
                go_wp2_with fail
                refine (sgn_round HMS.out.1 HMS.out.2 HV.out HJ.out HQM.out (HBX5.out _ HBW.out).low HSG.out).mono ?_
                rintro e w5 ⟨rfl, hb⟩
                have HB5 := hid (bstep HBW.out HBW.out.size hb)
                clear hb
                have HX5 := hid (HBX5.out _ HB5.out)
                have HO5 : Hid (OwnX w5 (w.heap.size + 1) 32 u8 (sgL M S l adj k ++ sgI M S l k k (j + 1))) := by rw [HNX.out]; exact HOX5.out _ HB5.out
                clear p0 p1
                go_wp2_with fail
                go_roundw
                case rel => exact ⟨j + 1, HJ.out, by go_num, HO5, HX5⟩
                case measure => have := HJ.out; simp [intOf]; omega
              · have HSG := hid hsg
                have HNX := hid (sgI_yes hsg)
                clear hsg hj3
                go_wp2_with fail
                have m0 := cell_alloc_new wr #[.int .i64 (rlC j : Nat), .int .i64 (rlD j : Nat), .int .i64 (rlE j)] 41 (0, 0) 0
                have m1 := cell_alloc_new wr #[.int .i64 (rlC j : Nat), .int .i64 (rlD j : Nat), .int .i64 (rlE j)] 41 (0, 0) 1
                have m2 := cell_alloc_new wr #[.int .i64 (rlC j : Nat), .int .i64 (rlD j : Nat), .int .i64 (rlE j)] 41 (0, 0) 2
                generalize World.alloc wr _ = W5 at *
                refine wp_region_still_tail 7 (by kernel_rfl) (by kernel_rfl) ?_
                simp only [List.take_succ_cons, List.take_zero, List.drop_succ_cons, List.drop_zero]
                iterate 7 still_step
                refine wpStill_nil ?_
                go_wp2_with fail
                refine (sgn_round HMS.out.1 HMS.out.2 HV.out HJ.out HQM.out (HBX5.out _ HBW.out).low HSG.out).mono ?_
                rintro e w5 ⟨rfl, hb⟩
                have HB5 := hid (bstep HBW.out HBW.out.size hb)
                clear hb
                have HX5 := hid (HBX5.out _ HB5.out)
                have HO5 := hid (HOX5.out _ HB5.out)
                obtain ⟨N, hN⟩ : ∃ N, N = (sgL M S l adj k ++ sgI M S l k k j).length := ⟨_, rfl⟩
                have HO5r := hid (show w5.ownsRow (w.heap.size + 1) 32 2 u8 N (pvs (sgL M S l adj k ++ sgI M S l k k j)) by rw [hN]; exact HO5.out)
                have hN5 : N ≤ 100000 := by have := HLO.out; have := HIL.out; have := HLT.out; rw [hN, List.length_append]; omega
                have HNN := hid hN
                clear p0 p1 hw1 hN
                go_wp2_with (at_builtin; refine wpList_append_own _ rfl _ _ 26 rfl (w.heap.size + 1) 32 i0 (.agg #[.int .i64 0, .int .i64 0]) 2 16 Tryd.underlying26 hti hz0 hz1 hz2 rfl (by decide) _ _ _ rfl (World.ownsRow.alloc HO5r.out _) ⟨w5.heap.size, 0, none⟩ 1 1 [.int .i64 k, .int .i64 ((j : Int) + 1)] rfl rfl (cell_two_new rfl) two_cell1 (by unfold maxLen; omega) (by omega) (by have := HX5.out.sz; simp; omega) ?_; intro v1 w6 hown6 hgrow6 _)
                have HX6 := hid (HX5.out.grown2 (Nat.lt_succ_self _) HO5.out hgrow6)
                have HO6 : Hid (OwnX w6 (w.heap.size + 1) 32 v1 (sgL M S l adj k ++ sgI M S l k k (j + 1))) := by rw [HNX.out, ← List.append_assoc]; exact OwnX.app (d := ⟨_, _⟩) (by rw [← HNN.out]; exact hown6)
                clear hown6 hgrow6
                go_roundw
                case rel => exact ⟨j + 1, HJ.out, by go_num, HO6, HX6⟩
                case measure => have := HJ.out; simp [intOf]; omega
            · obtain rfl : j = 3 := by omega
              have HOE : Hid (OwnX wr (w.heap.size + 1) 32 u8 (sgL M S l adj (k + 1))) := by rw [sgL, HB.out]; exact hown4.out
              go_wp2_with fail
              go_roundw
              case rel => exact ⟨k + 1, HLT.out, by go_num, by rw [HB.out], HQ, HOE, hbx4⟩
              case measure => have := HLT.out; simp [intOf]; omega
        · obtain ⟨W, hW⟩ : ∃ W, W = wr := ⟨_, rfl⟩
          obtain ⟨b', hb'⟩ : ∃ b', b' = b0 := ⟨_, rfl⟩
          have HST := hid (stA_no (adj := adj) (i := k) (by rw [HA1.out]; exact fun h => hxk (Option.some.inj h)))
          have HB := hid (show (stA adj (k + 1)).1 = b' by rw [HST.out, hb', HB0.out])
          have HQ := hid (show RowQ w (.slice (some ⟨tb, tq, none⟩) N2 qc) (adj.drop (stA adj (k + 1)).2) by rw [HST.out, ← HA.out]; exact hq.out)
          rw [← hb']
          have hb'k : b' ≤ k := by omega
          have HOW := hown
          have HXW := hbx
          rw [← hW] at HOW HXW htc2 ⊢
          have hxk2 : (x == (k : Int)) = false := by simpa using hxk
          clear hown hbx hq hW hb' hts hxk
          go_upto_region 14 with (fail)
          clear htc2 hxk2
          have hb1 : b' < k + 1 := by omega
          obtain ⟨vb, vo, hva, HQM, hs⟩ := HR.out.mid hb1 (show k + 1 ≤ n from HLT.out)
          have HQM := hid HQM
          obtain ⟨len, hlen⟩ : ∃ len, len = k + 1 - b' := ⟨_, rfl⟩
          rw [← hlen] at hs HQM
          rw [Int.natCast_add, Int.natCast_one] at hs
          have hw1 : IntKind.i64.wrap ((k : Int) + 1) = (k : Int) + 1 := IntWalk.i64_in _ ⟨by omega, by omega⟩
          have HLEN := hid hlen
          have HLO := hid (sgL_len M S l adj k)
          subst hva
          obtain ⟨r0, r1, r2, r3, r4, r5, r6, r7, r8⟩ := HRL.out.keep HXW.out.low
          clear hlen
          go_wp2_with fail
          clear r0 r1 r2 r3 r4 r5 r6 r7 r8
          obtain ⟨wo, hwo⟩ : ∃ wo : World, wo = W := ⟨_, rfl⟩
          go_loopw [8, 43] (fun s t w4 => ∃ j : Nat, j ≤ 3 ∧ t = .int .i64 (j : Int) ∧ Hid (OwnX w4 (w.heap.size + 1) 32 s (sgL M S l adj k ++ sgI M S l b' k j)) ∧ Hid (Box1 w w4 #[.int .i64 M, .int .i64 S])) (fun _ t _ => 3 - (intOf t).toNat)
          case atStart => exact ⟨0, by omega, rfl, by rw [sgI, List.append_nil]; exact HOW, HXW⟩
          case round =>
            obtain ⟨j, hj, rfl, hown4, hbx4⟩ := hrel
            by_cases hj3 : j < 3
            · have hix := ixR j hj3
              have HJ := hid hj3
              have hlt3 : (j : Int) < 3 := by omega
              have HIL := hid (sgI_len M S l b' k j)
              obtain ⟨p0, p1⟩ := (hbx4.out.keep ((Below.refl _ _).alloc (Nat.le_refl _) (.cells #[.int .i64 (rlC j : Nat), .int .i64 (rlD j : Nat), .int .i64 (rlE j)] 41))).two
              have HBW := hid (Below.drew ((Below.refl wr.heap.size wr).alloc (Nat.le_refl _) (.cells #[.int .i64 (rlC j : Nat), .int .i64 (rlD j : Nat), .int .i64 (rlE j)] 41)))
              have HBX5 := hid (fun w5 (g : Below wr.heap.size wr w5) => hbx4.out.keep g)
              have HOX5 := hid (fun w5 (g : Below wr.heap.size wr w5) => hown4.out.keep g)
              cases hsg : sgR M S l b' k j
              · have HSG := hid hsg
                have HNX := hid (sgI_no hsg)
                clear hsg hj3
                go_wp2_with fail
                have m0 := cell_alloc_new wr #[.int .i64 (rlC j : Nat), .int .i64 (rlD j : Nat), .int .i64 (rlE j)] 41 (0, 0) 0
                have m1 := cell_alloc_new wr #[.int .i64 (rlC j : Nat), .int .i64 (rlD j : Nat), .int .i64 (rlE j)] 41 (0, 0) 1
                have m2 := cell_alloc_new wr #[.int .i64 (rlC j : Nat), .int .i64 (rlD j : Nat), .int .i64 (rlE j)] 41 (0, 0) 2
                generalize World.alloc wr _ = W5 at *
                refine wp_region_still_tail 7 (by kernel_rfl) (by kernel_rfl) ?_
                simp only [List.take_succ_cons, List.take_zero, List.drop_succ_cons, List.drop_zero]
                iterate 7 still_step
                refine wpStill_nil ?_
                go_wp2_with fail
                refine (sgn_round HMS.out.1 HMS.out.2 HV.out HJ.out HQM.out (HBX5.out _ HBW.out).low HSG.out).mono ?_
                rintro e w5 ⟨rfl, hb⟩
                have HB5 := hid (bstep HBW.out HBW.out.size hb)
                clear hb
                have HX5 := hid (HBX5.out _ HB5.out)
                have HO5 : Hid (OwnX w5 (w.heap.size + 1) 32 u8 (sgL M S l adj k ++ sgI M S l b' k (j + 1))) := by rw [HNX.out]; exact HOX5.out _ HB5.out
                clear p0 p1
                go_wp2_with fail
                go_roundw
                case rel => exact ⟨j + 1, HJ.out, by go_num, HO5, HX5⟩
                case measure => have := HJ.out; simp [intOf]; omega
              · have HSG := hid hsg
                have HNX := hid (sgI_yes hsg)
                clear hsg hj3
                go_wp2_with fail
                have m0 := cell_alloc_new wr #[.int .i64 (rlC j : Nat), .int .i64 (rlD j : Nat), .int .i64 (rlE j)] 41 (0, 0) 0
                have m1 := cell_alloc_new wr #[.int .i64 (rlC j : Nat), .int .i64 (rlD j : Nat), .int .i64 (rlE j)] 41 (0, 0) 1
                have m2 := cell_alloc_new wr #[.int .i64 (rlC j : Nat), .int .i64 (rlD j : Nat), .int .i64 (rlE j)] 41 (0, 0) 2
                generalize World.alloc wr _ = W5 at *
                refine wp_region_still_tail 7 (by kernel_rfl) (by kernel_rfl) ?_
                simp only [List.take_succ_cons, List.take_zero, List.drop_succ_cons, List.drop_zero]
                iterate 7 still_step
                refine wpStill_nil ?_
                go_wp2_with fail
                refine (sgn_round HMS.out.1 HMS.out.2 HV.out HJ.out HQM.out (HBX5.out _ HBW.out).low HSG.out).mono ?_
                rintro e w5 ⟨rfl, hb⟩
                have HB5 := hid (bstep HBW.out HBW.out.size hb)
                clear hb
                have HX5 := hid (HBX5.out _ HB5.out)
                have HO5 := hid (HOX5.out _ HB5.out)
                obtain ⟨N, hN⟩ : ∃ N, N = (sgL M S l adj k ++ sgI M S l b' k j).length := ⟨_, rfl⟩
                have HO5r := hid (show w5.ownsRow (w.heap.size + 1) 32 2 u8 N (pvs (sgL M S l adj k ++ sgI M S l b' k j)) by rw [hN]; exact HO5.out)
                have hN5 : N ≤ 100000 := by have := HLO.out; have := HIL.out; have := HLT.out; rw [hN, List.length_append]; omega
                have HNN := hid hN
                clear p0 p1 hw1 hN
                go_wp2_with (at_builtin; refine wpList_append_own _ rfl _ _ 26 rfl (w.heap.size + 1) 32 i0 (.agg #[.int .i64 0, .int .i64 0]) 2 16 Tryd.underlying26 hti hz0 hz1 hz2 rfl (by decide) _ _ _ rfl (World.ownsRow.alloc HO5r.out _) ⟨w5.heap.size, 0, none⟩ 1 1 [.int .i64 k, .int .i64 ((j : Int) + 1)] rfl rfl (cell_two_new rfl) two_cell1 (by unfold maxLen; omega) (by omega) (by have := HX5.out.sz; simp; omega) ?_; intro v1 w6 hown6 hgrow6 _)
                have HX6 := hid (HX5.out.grown2 (Nat.lt_succ_self _) HO5.out hgrow6)
                have HO6 : Hid (OwnX w6 (w.heap.size + 1) 32 v1 (sgL M S l adj k ++ sgI M S l b' k (j + 1))) := by rw [HNX.out, ← List.append_assoc]; exact OwnX.app (d := ⟨_, _⟩) (by rw [← HNN.out]; exact hown6)
                clear hown6 hgrow6
                go_roundw
                case rel => exact ⟨j + 1, HJ.out, by go_num, HO6, HX6⟩
                case measure => have := HJ.out; simp [intOf]; omega
            · obtain rfl : j = 3 := by omega
              have HOE : Hid (OwnX wr (w.heap.size + 1) 32 u8 (sgL M S l adj (k + 1))) := by rw [sgL, HB.out]; exact hown4.out
              go_wp2_with fail
              go_roundw
              case rel => exact ⟨k + 1, HLT.out, by go_num, by rw [HB.out], HQ, HOE, hbx4⟩
              case measure => have := HLT.out; simp [intOf]; omega
    · obtain rfl : k = n := by omega
      have hx := HN.out
      have HROW : Hid (RowX wr u8 (sgL M S l adj l.length)) := by rw [← HN.out]; exact hown.out.row
      obtain ⟨xa, xc, hxs⟩ := ownX_shape hown.out
      go_wp2
      refine bodyPost_ret (v := .tuple #[u8, .int .i64 0]) (by simp [results, Tryd.results6, go_sem]) rfl ?_
      exact ⟨_, by rw [HE1.out], by rw [if_pos HE1.out]; exact HROW.out, hbx.out.low⟩
end Go.Proofs.YtlhjiikbehmamaaDoor
