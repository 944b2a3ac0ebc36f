/- Walk of the reference's Signals: contract. -/
import Derived.Test.YtlhjiikbehmamaaDoorNk
namespace Go.Proofs.YtlhjiikbehmamaaDoor
open Go.RowKit

theorem kxwithin_q (a b c : Int) (B : Bool) (w : World) (h : inB a b c = B) : Calls Tryd.prog 17 #[.int .i64 a, .int .i64 b, .int .i64 c] w fun e w' => e = .returned (.bool B) ∧ w' = w := by
  rw [← h]
  exact (kxwithin_any a b c w).mono fun _ _ ⟨h1, h2⟩ => ⟨h1, h2.symm⟩
/-- The call of side in a round. -/
theorem side_round {M S q : Int} {l : List Int} {v : Int} {w : World} {D : Int} (hMS : (-1000000000 ≤ M ∧ M ≤ 1000000000) ∧ 1 ≤ S ∧ S ≤ 1000000000) (hl : vlB l = true) (hv : v ∈ l) (hq : q = 0 ∨ q = 2 ∨ q = 3) (hD : sdI M S v q = D) :
    Calls Tryd.prog 18 #[.agg #[.int .i64 M, .int .i64 S], .int .i64 v, .int .i64 q] w fun e w' => e = .returned (.int .i64 D) ∧ Below w.heap.size w w' := by
  rw [← hD]
  exact side_any M S v q w hMS.1 hMS.2 ((vlB_iff.1 hl).2 v hv) hq
theorem sd_keep {W0 W w2 : World} {a b k : Nat} {M S x : Value} (hb : Below W.heap.size W w2) (h : W.cell? ⟨a, 0, none⟩ = some M ∧ W.cell? ⟨a, 1, none⟩ = some S ∧ W.cell? ⟨b, k, none⟩ = some x ∧ Below W0.heap.size W0 W) : w2.cell? ⟨a, 0, none⟩ = some M ∧ w2.cell? ⟨a, 1, none⟩ = some S ∧ w2.cell? ⟨b, k, none⟩ = some x ∧ Below W0.heap.size W0 w2 :=
  ⟨keep_cell hb h.1, keep_cell hb h.2.1, keep_cell hb h.2.2.1, bstep h.2.2.2 h.2.2.2.size hb⟩
theorem sd_new {W0 W : World} {a b k : Nat} {M S x : Value} (h : W.cell? ⟨a, 0, none⟩ = some M ∧ W.cell? ⟨a, 1, none⟩ = some S ∧ W.cell? ⟨b, k, none⟩ = some x ∧ Below W0.heap.size W0 W) : W.drew.cell? ⟨a, 0, none⟩ = some M ∧ W.drew.cell? ⟨a, 1, none⟩ = some S ∧ W.drew.cell? ⟨b, k, none⟩ = some x ∧ Below W0.heap.size W0 W.drew :=
  ⟨h.1, h.2.1, h.2.2.1, h.2.2.2.drew⟩
set_option maxRecDepth 20000 in
set_option maxHeartbeats 16000000 in
theorem xsignals_any (M S : Int) (v u : Value) (l adj : List Int) (w : World) (hr : RowI w v l) (hu : RowI w u adj) :
    Calls Tryd.prog 8 #[.agg #[.int .i64 M, .int .i64 S], v, u] w (SigP M S l adj w) := by
  have HR := hid (fun w1 (g : Below w.heap.size w w1) => hr.keep g)
  have HU := hid (fun w1 (g : Below w.heap.size w w1) => hu.keep g)
  have HBX := hid (fun w1 (g : Below (w.alloc (.cells #[.int .i64 M, .int .i64 S] 23)).heap.size (w.alloc (.cells #[.int .i64 M, .int .i64 S] 23)) w1) => box1_call g)
  have hm : l.length ≤ maxLen := by
    rcases hr with ⟨_, _, _, rfl⟩ | ⟨_, _, _, _, h, _⟩
    · exact Nat.zero_le _
    · exact h
  have hm2 : adj.length ≤ maxLen := by
    rcases hu with ⟨_, _, _, rfl⟩ | ⟨_, _, _, _, h, _⟩
    · exact Nat.zero_le _
    · exact h
  unfold maxLen at hm hm2
  obtain ⟨va, vc, rfl⟩ : ∃ a c, v = .slice a l.length c := hr.shape
  obtain ⟨ua, uc, rfl⟩ : ∃ a c, u = .slice a adj.length c := hu.shape
  obtain ⟨n, hn⟩ : ∃ n, n = l.length := ⟨_, rfl⟩
  obtain ⟨m, hm'⟩ : ∃ m, m = adj.length := ⟨_, rfl⟩
  have HN := hid hn
  have HM := hid hm'
  rw [← hn] at hm HR ⊢
  rw [← hm'] at hm2 HU ⊢
  have HE := hid (show sgE M S l adj = if chB M S then (if vlB l then (if ixB adj (n : Int) then 0 else 7) else 4) else 1 by rw [hn]; rfl)
  clear hr hu hn hm'
  cases hc : chB M S
  · have HE1 := hid (show sgE M S l adj = 1 by rw [HE.out, hc]; rfl)
    have HC := hid hc
    clear hc
    go_enter Tryd.func8, Tryd.ntmps8
    go_wp2_with fail
    refine (xchart_any M S _).mono ?_
    rintro e w1 ⟨rfl, hb⟩
    rw [HC.out]
    have HX := hid (HBX.out _ hb)
    clear hb
    go_wp2_with fail
    refine bodyPost_ret (v := .tuple #[.slice none 0 0, .int .i64 1]) (by simp [results, Tryd.results8, go_sem]) rfl ?_
    exact sig_no HE1.out (by decide) HX.out.low
  have HC := hid hc
  obtain ⟨hM, hS⟩ := (by simpa only [chB, Bool.and_eq_true, inB_iff] using hc : (-1000000000 ≤ M ∧ M ≤ 1000000000) ∧ (1 ≤ S ∧ S ≤ 1000000000))
  have HMS := hid (And.intro hM hS)
  clear hc hM hS
  cases hv : vlB l
  · have HE1 := hid (show sgE M S l adj = 4 by rw [HE.out, HC.out, hv]; rfl)
    have HV := hid hv
    clear hv
    go_enter Tryd.func8, Tryd.ntmps8
    go_wp2_with fail
    refine (xchart_any M S _).mono ?_
    rintro e w1 ⟨rfl, hb⟩
    rw [HC.out]
    have HX := hid (HBX.out _ hb)
    clear hb
    go_wp2_with fail
    refine (xnumbers_any _ l _ (HR.out _ HX.out.low)).mono ?_
    rintro e w2 ⟨rfl, rfl⟩
    rw [HV.out]
    go_wp2_with fail
    refine bodyPost_ret (v := .tuple #[.slice none 0 0, .int .i64 4]) (by simp [results, Tryd.results8, go_sem]) rfl ?_
    exact sig_no HE1.out (by decide) HX.out.low
  have HV := hid hv
  have hn4 : n ≤ 10000 := by rw [HN.out]; exact (vlB_iff.1 hv).1
  clear hv
  obtain ⟨i0, hti, hz0, hz1, hz2⟩ := info_parts infoPr
  have HEI := hid (show sgE M S l adj = if ixB adj (n : Int) then 0 else 7 by rw [HE.out, HC.out, HV.out]; rfl)
  clear HE
  go_enter Tryd.func8, Tryd.ntmps8
  go_wp2_with fail
  refine (xchart_any M S _).mono ?_
  rintro e w1 ⟨rfl, hb⟩
  rw [HC.out]
  have HX := hid (HBX.out _ hb)
  clear hb
  go_wp2_with fail
  refine (xnumbers_any _ l _ (HR.out _ HX.out.low)).mono ?_
  rintro e w2 ⟨rfl, rfl⟩
  rw [HV.out]
  go_wp2_with fail
  go_loopw [8] (fun t wr => ∃ k : Nat, k ≤ m ∧ t = .int .i64 (k : Int) ∧ Hid (∀ j, j < k → inB (adj.getD j 0) (loI adj j) ((n : Int) - 1) = true) ∧ Hid (Box1 w wr #[.int .i64 M, .int .i64 S])) (fun t _ => m - (intOf t).toNat)
  case atStart => exact ⟨0, Nat.zero_le _, rfl, fun j h => absurd h (Nat.not_lt_zero j), HX⟩
  case round =>
    obtain ⟨k, hk, rfl, hok, hbx⟩ := hrel
    by_cases hlt : k < m
    · have hlt' : (k : Int) < m := by omega
      have hkl : k < adj.length := by rw [← HM.out]; exact hlt
      have HIX := hid (ix_next hok.out (show (n : Int) ≤ 10000 by omega))
      have HBADJ := hid (fun (h : inB (adj.getD k 0) (loI adj k) ((n : Int) - 1) = false) => allB_bad (n := adj.length) (p := fun j => inB (adj.getD j 0) (loI adj j) ((n : Int) - 1)) hkl h)
      have HSTEP := hid (fun (h : inB (adj.getD k 0) (loI adj k) ((n : Int) - 1) = true) => all_step (p := fun j => inB (adj.getD j 0) (loI adj j) ((n : Int) - 1)) (k := k) hok.out h)
      obtain ⟨b, o, hva, hcell⟩ := rowI_get (HU.out _ hbx.out.low) HM.out hkl
      subst hva
      have hgx : adj.getD k 0 = adj[k] := by simp [List.getD, hkl]
      obtain ⟨x, hx⟩ : ∃ x, x = adj[k] := ⟨_, rfl⟩
      rw [← hx] at hcell hgx
      have hw : IntKind.i64.wrap ((n : Int) - 1) = (n : Int) - 1 := IntWalk.i64_in _ ⟨by omega, by omega⟩
      have HLT := hid hlt
      have HGX := hid hgx
      have HCE := hid (fun j (hj : j < adj.length) => show wr.cell? ⟨b, o + j, none⟩ = some (.int .i64 adj[j]) by
        obtain ⟨b', o', h1, h2⟩ := rowI_get (HU.out _ hbx.out.low) HM.out hj
        injection h1 with h1
        injection h1 with e1 e2
        subst e1 e2
        exact h2)
      clear hlt hx hgx
      cases h1 : inB x 0 ((n : Int) - 1)
      · have HE1 := hid (show sgE M S l adj = 7 by rw [HEI.out, show ixB adj n = false from HBADJ.out (by rw [HIX.out, HGX.out, h1]; rfl)]; rfl)
        have H1 := hid h1
        clear h1 hkl
        go_wp2
        go_quiet ((go_at_call 17; exact Calls.quiet_of_same (kxwithin_q _ _ _ _ _ H1.out)))
        have HB2 := hid (bdrewN (n := nq) hbx.out.low)
        go_wp2
        refine bodyPost_ret (v := .tuple #[.slice none 0 0, .int .i64 7]) (by simp [results, Tryd.results8, go_sem]) rfl ?_
        exact sig_no HE1.out (by decide) HB2.out
      · have H1 := hid h1
        clear h1
        rcases Nat.eq_zero_or_pos k with h0 | h0
        · have HE1 := hid (HSTEP.out (by rw [HIX.out, HGX.out, H1.out, h0]; rfl))
          have hk0 : decide (0 < (k : Int)) = false := decide_eq_false (by omega)
          have hk1 : decide (0 < k) = false := decide_eq_false (by omega)
          clear hkl h0
          go_wp2
          go_quiet ((go_at_call 17; exact Calls.quiet_of_same (kxwithin_q _ _ _ _ _ H1.out)))
          have HB2 := hid (hbx.out.keep (bdrewN (n := nq) (Below.refl _ _)))
          go_wp2
          go_roundw
          case rel => exact ⟨k + 1, HLT.out, by go_num, HE1, HB2⟩
          case measure => have := HLT.out; simp [intOf]; omega
        · obtain ⟨j, rfl⟩ : ∃ j, k = j + 1 := ⟨k - 1, by omega⟩
          have hjl : j < adj.length := by omega
          have hcell2 := HCE.out j hjl
          have HGY := hid (show adj.getD j 0 = adj[j] by simp [List.getD, hjl])
          generalize adj[j] = y at hcell2 HGY
          have hj1 : IntKind.i64.wrap (j : Int) = (j : Int) := IntWalk.i64_in _ ⟨by omega, by omega⟩
          have hj2 : (j : Int) < (m : Int) := by omega
          clear hkl hjl h0
          by_cases h2 : x ≤ y
          · have HE1 := hid (show sgE M S l adj = 7 by
              rw [HEI.out, show ixB adj n = false from HBADJ.out (by rw [HIX.out, Nat.add_sub_cancel, HGX.out, HGY.out, H1.out, decide_eq_true h2]; rfl)]; rfl)
            go_wp2
            go_quiet ((go_at_call 17; exact Calls.quiet_of_same (kxwithin_q _ _ _ _ _ H1.out)))
            have HB2 := hid (bdrewN (n := nq) hbx.out.low)
            go_wp2
            refine bodyPost_ret (v := .tuple #[.slice none 0 0, .int .i64 7]) (by simp [results, Tryd.results8, go_sem]) rfl ?_
            exact sig_no HE1.out (by decide) HB2.out
          · have HE1 := hid (HSTEP.out (by rw [HIX.out, Nat.add_sub_cancel, HGX.out, HGY.out, H1.out, decide_eq_false h2]; simp))
            have h2' : decide (x ≤ y) = false := decide_eq_false h2
            clear h2
            go_wp2
            go_quiet ((go_at_call 17; exact Calls.quiet_of_same (kxwithin_q _ _ _ _ _ H1.out)))
            have HB2 := hid (hbx.out.keep (bdrewN (n := nq) (Below.refl _ _)))
            go_wp2
            go_roundw
            case rel => exact ⟨j + 1 + 1, HLT.out, by go_num, HE1, HB2⟩
            case measure => have := HLT.out; simp [intOf]; omega
    · obtain rfl : m = k := by omega
      have HE1 := hid (show sgE M S l adj = 0 by rw [HEI.out, show ixB adj n = true from allB_end fun j hj => hok.out j (by rw [HM.out]; exact hj)]; rfl)
      clear hok HEI hlt
      clear hk
      go_wp2_with fail
      go_loopw [9, 10, 11, 12] (fun o f nx t w4 => ∃ i : Nat, i ≤ n ∧ t = .int .i64 (i : Int) ∧ f = .int .i64 ((stA adj i).1 : Nat) ∧ nx = .int .i64 ((stA adj i).2 : Nat) ∧ Hid (OwnX w4 (w.heap.size + 1) 32 o (sgL M S l adj i)) ∧ Hid (Box1 w w4 #[.int .i64 M, .int .i64 S])) (fun _ _ _ t _ => n - (intOf t).toNat)
      case atStart => exact ⟨0, Nat.zero_le _, rfl, rfl, rfl, ownX_nil _ _ _, hbx⟩
      case round =>
        obtain ⟨i, hi, rfl, rfl, rfl, hown, hbx⟩ := hrel
        by_cases hlt : i < n
        · have hlt' : (i : Int) < n := by omega
          have HLT := hid hlt
          have HLO := hid (sgL_len M S l adj i)
          have hil : i < l.length := by rw [← HN.out]; exact hlt
          have HIL := hid hil
          have hp0 : (stA adj i).2 ≤ i := stA_le2 adj i
          obtain ⟨b0, hb0⟩ : ∃ b0, b0 = (stA adj i).1 := ⟨_, rfl⟩
          obtain ⟨p0, hp0'⟩ : ∃ p0, p0 = (stA adj i).2 := ⟨_, rfl⟩
          obtain ⟨b', hb'⟩ : ∃ b', b' = (stA adj (i + 1)).1 := ⟨_, rfl⟩
          obtain ⟨p', hp'⟩ : ∃ p', p' = (stA adj (i + 1)).2 := ⟨_, rfl⟩
          have HB' := hid hb'
          have HP' := hid hp'
          have hbi : b' ≤ i := by rw [hb']; exact stA_le adj i
          obtain ⟨Q, hQ⟩ : ∃ Q, Q = decide (adj[p0]? = some (i : Int)) := ⟨_, rfl⟩
          have HYES := hid (fun (h : Q = true) => show b' = i ∧ p' = p0 + 1 by
            have := stA_yes (adj := adj) (i := i) (by rw [← hp0']; exact of_decide_eq_true (hQ.symm.trans h))
            rw [hb', hp', this, hp0']; exact ⟨rfl, rfl⟩)
          have HNO := hid (fun (h : Q = false) => show b' = b0 ∧ p' = p0 by
            have := stA_no (adj := adj) (i := i) (by rw [← hp0']; exact of_decide_eq_false (hQ.symm.trans h))
            rw [hb', hp', this, hb0, hp0']; exact ⟨rfl, rfl⟩)
          have HQ := hid hQ
          rw [← hb0, ← hp0'] 
          rw [← hp0'] at hp0
          clear hb0 hp0' hb' hp' hQ hlt hil
          go_upto_region 15 with (fail)
          go_cut [74] (fun s wx => s = .bool Q ∧ Hid (OwnX wx (w.heap.size + 1) 32 u9 (sgL M S l adj i)) ∧ Hid (Box1 w wx #[.int .i64 M, .int .i64 S]))
          case first =>
            by_cases hpm : p0 < m
            · have hpm' : (p0 : Int) < m := by omega
              have hpl : p0 < adj.length := by rw [← HM.out]; exact hpm
              obtain ⟨b, o, hua, hcell⟩ := rowI_get (HU.out _ hbx.out.low) HM.out hpl
              subst hua
              have hg : adj[p0]? = some adj[p0] := List.getElem?_eq_getElem hpl
              rw [hg] at HQ
              generalize adj[p0] = x at *
              clear hg hpl
              by_cases hxi : x = (i : Int)
              · have HE := hid (show Q = true by rw [HQ.out, hxi]; exact decide_eq_true rfl)
                have hxb : (x == (i : Int)) = true := by simpa using hxi
                clear hxi
                go_wp2_with fail
                go_meet
                exact ⟨by rw [HE.out], hown, hbx⟩
              · have HE := hid (show Q = false by rw [HQ.out]; exact decide_eq_false fun h => hxi (Option.some.inj h))
                have hxb : (x == (i : Int)) = false := by simpa using hxi
                clear hxi
                go_wp2_with fail
                go_meet
                exact ⟨by rw [HE.out], hown, hbx⟩
            · have HE := hid (show Q = false by rw [HQ.out, List.getElem?_eq_none (by rw [← HM.out]; omega)]; rfl)
              have hpm' : ¬ (p0 : Int) < m := by omega
              go_wp2_with fail
              go_meet
              exact ⟨by rw [HE.out], hown, hbx⟩
          case rest =>
            obtain ⟨rfl, hown, hbx⟩ := hcut
            go_upto_if 74 with (fail)
            go_cut [10, 11] (fun f nx wx => f = .int .i64 (b' : Int) ∧ nx = .int .i64 (p' : Int) ∧ Hid (OwnX wx (w.heap.size + 1) 32 u9 (sgL M S l adj i)) ∧ Hid (Box1 w wx #[.int .i64 M, .int .i64 S]))
            case first =>
              cases hq : Q
              · have HE := hid (HNO.out hq)
                subst hq
                go_wp2_with fail
                go_meet
                exact ⟨by rw [HE.out.1], by rw [HE.out.2], hown, hbx⟩
              · have HE := hid (HYES.out hq)
                subst hq
                go_wp2_with fail
                go_meet
                exact ⟨by rw [HE.out.1], by rw [HE.out.2]; rfl, hown, hbx⟩
            case rest =>
              obtain ⟨rfl, rfl, hown, hbx⟩ := hcut
              clear HYES HNO HQ hp0
              have HR1 := hid (fun w1 (g : Below w.heap.size w w1) k (hk : k < l.length) => rowI_get (HR.out w1 g) HN.out hk)

              go_upto_region 18 with (fail)
              obtain ⟨x0, hx0⟩ : ∃ x, x = l[i]'HIL.out := ⟨_, rfl⟩
              obtain ⟨D0, hD0⟩ : ∃ D, sdI M S x0 3 = D := ⟨_, rfl⟩
              obtain ⟨Q1, hQ1⟩ : ∃ Q, sgR M S l b' i 0 = Q := ⟨_, rfl⟩
              have hDQ : (D0 != 0) = Q1 := by
                rw [← hQ1, sg_first HMS.out.2.1 hbi HIL.out, ← hx0, hD0]
                by_cases h : D0 = 0 <;> simp [h]
              have HD := hid hD0
              have HQ1 := hid hQ1
              have HMEM := hid (show x0 ∈ l by rw [hx0]; exact List.getElem_mem _)
              have HX0 := hid hx0
              clear hx0 hD0 hQ1
              go_cut [84] (fun s wx => s = .bool Q1 ∧ Hid (OwnX wx (w.heap.size + 1) 32 u9 (sgL M S l adj i)) ∧ Hid (Box1 w wx #[.int .i64 M, .int .i64 S]))
              case first =>
                obtain ⟨b, o, hva, hcell⟩ := HR1.out _ hbx.out.low i HIL.out
                subst hva
                rw [← HX0.out] at hcell
                obtain ⟨c0, c1⟩ := hbx.out.two
                refine wp_region_still_tail 5 (by kernel_rfl) (by kernel_rfl) ?_
                simp only [List.take_succ_cons, List.take_zero, List.drop_succ_cons, List.drop_zero]
                iterate 5 still_step
                refine wpStill_nil ?_
                go_wp2_with fail
                refine (side_round HMS.out HV.out HMEM.out (by decide) HD.out).mono ?_
                rintro e w5 ⟨rfl, hb⟩
                have HB5 := hid (bstep (Below.drew (Below.refl wc.heap.size wc)) (Nat.le_refl _) hb)
                have HX5 := hid (hbx.out.keep HB5.out)
                have HO5 := hid (hown.out.keep HB5.out)
                clear hb
                go_wp2_with fail
                go_meet
                exact ⟨rfl, HO5, HX5⟩
              case rest =>
                obtain ⟨rfl, hown, hbx⟩ := hcut
                clear hDQ
                go_upto_if 84 with (fail)
                go_cut [9] (fun v9 wx => Hid (OwnX wx (w.heap.size + 1) 32 v9 (sgL M S l adj i ++ sgI M S l b' i 1)) ∧ Hid (Box1 w wx #[.int .i64 M, .int .i64 S]))
                case first =>
                  cases hq : Q1
                  · have HNX := hid (sgI_no (HQ1.out.trans hq))
                    subst hq
                    have HO6 : Hid (OwnX wc (w.heap.size + 1) 32 u9 (sgL M S l adj i ++ sgI M S l b' i 1)) := by rw [HNX.out, show sgI M S l b' i 0 = [] from rfl, List.append_nil]; exact hown.out
                    go_wp2_with fail
                    go_meet
                    exact ⟨HO6, hbx⟩
                  · have HNX := hid (sgI_yes (HQ1.out.trans hq))
                    subst hq
                    obtain ⟨N, hN⟩ : ∃ N, N = (sgL M S l adj i).length := ⟨_, rfl⟩
                    have HOr := hid (show wc.ownsRow (w.heap.size + 1) 32 2 u9 N (pvs (sgL M S l adj i)) by rw [hN]; exact hown.out)
                    have hN5 : N ≤ 100000 := by have := HLO.out; have := HLT.out; rw [hN]; omega
                    have HNN := hid hN
                    clear hN
                    go_wp2_with (at_builtin; refine wpList_append_own _ rfl _ _ 26 rfl (w.heap.size + 1) 32 i0 (.agg #[.int .i64 0, .int .i64 0]) 2 16 Tryd.underlying26 hti hz0 hz1 hz2 rfl (by decide) _ _ _ rfl (World.ownsRow.alloc HOr.out _) ⟨wc.heap.size, 0, none⟩ 1 1 [.int .i64 i, .int .i64 1] rfl rfl (cell_two_new rfl) two_cell1 (by unfold maxLen; omega) (by omega) (by have := hbx.out.sz; simp; omega) ?_; intro v1 w6 hown6 hgrow6 _)
                    have HX6 := hid (hbx.out.grown2 (Nat.lt_succ_self _) hown.out hgrow6)
                    have HO6 : Hid (OwnX w6 (w.heap.size + 1) 32 v1 (sgL M S l adj i ++ sgI M S l b' i 1)) := by rw [HNX.out, show sgI M S l b' i 0 = [] from rfl, List.nil_append]; exact OwnX.app (d := ⟨_, _⟩) (by rw [← HNN.out]; exact hown6)
                    clear hown6 hgrow6
                    go_wp2_with fail
                    go_meet
                    exact ⟨HO6, HX6⟩
                case rest =>
                  obtain ⟨hown, hbx⟩ := hcut
                  clear HQ1 HD HMEM HX0
                  obtain ⟨B2, hB2⟩ : ∃ B, decide ((2 : Int) ≤ (i : Int) - b') = B := ⟨_, rfl⟩
                  go_upto_if 93 with (fail)
                  have HB2 := hid hB2
                  clear hB2
                  go_cut [9] (fun v9 wx => Hid (OwnX wx (w.heap.size + 1) 32 v9 (sgL M S l adj i ++ sgI M S l b' i 2)) ∧ Hid (Box1 w wx #[.int .i64 M, .int .i64 S]))
                  case first =>
                    by_cases h2 : b' + 2 ≤ i
                    case neg =>
                      have HNX := hid (sgI_no (j := 1) (sg_few (M := M) (S := S) (l := l) (show i + 1 - b' < rlC 1 by simp only [rlC]; omega)))
                      obtain rfl : B2 = false := by rw [← HB2.out]; exact decide_eq_false (by omega)
                      have HO6 : Hid (OwnX wc (w.heap.size + 1) 32 u9 (sgL M S l adj i ++ sgI M S l b' i 2)) := by rw [HNX.out]; exact hown.out
                      go_wp2_with fail
                      go_meet
                      exact ⟨HO6, hbx⟩
                    obtain rfl : B2 = true := by rw [← HB2.out]; exact decide_eq_true (by omega)
                    obtain ⟨q, hq⟩ : ∃ q, q = i - 2 := ⟨_, rfl⟩
                    have hqi : (i : Int) - 2 = q := by omega
                    have HWL := hid (winL_len (c := 3) HIL.out (by omega))
                    have HQI := hid (show q + 2 = i by omega)
                    have HWA := hid (fun k (hk : k < (winL l i 3).length) (g : q + k < l.length) => show (winL l i 3)[k] = l[q + k] by
                      rw [winL_at hk (by have := HQI.out; omega)]
                      congr 1
                      have := HQI.out
                      omega)
                    have HSG := hid (sg_second (M := M) (S := S) hbi HIL.out (show 2 ≤ i - b' by omega))
                    generalize winL l i 3 = W at HWL HWA HSG
                    clear hq h2
                    go_wp2_with fail
                    go_loopw [13, 14, 15] (fun s13 s14 s15 w5 => ∃ j r : Nat, j ≤ 3 ∧ Hid (r = q + j) ∧ s15 = .int .i64 (r : Int) ∧ s13 = .int .i64 (hiN M (2 * S) (W.take j) : Nat) ∧ s14 = .int .i64 (loN M (2 * S) (W.take j) : Nat) ∧ Hid (OwnX w5 (w.heap.size + 1) 32 u9 (sgL M S l adj i ++ sgI M S l b' i 1)) ∧ Hid (Box1 w w5 #[.int .i64 M, .int .i64 S])) (fun _ _ s15 _ => i + 1 - (intOf s15).toNat)
                    case atStart => exact ⟨0, q, by omega, hid rfl, rfl, rfl, rfl, hown, hbx⟩
                    case round =>
                      obtain ⟨j, r, hj, hr, rfl, rfl, rfl, hown, hbx⟩ := hrel
                      by_cases hj3 : j < 3
                      · have hri : r ≤ i := by have := HQI.out; have := hr.out; omega
                        have hrn : (r : Int) < n := by omega
                        have hjW : j < W.length := by rw [HWL.out]; exact hj3
                        have hrl : r < l.length := by rw [← HN.out]; omega
                        obtain ⟨b, o, hva, hcell⟩ := HR1.out _ hbx.out.low r hrl
                        subst hva
                        have HWJ := hid (show W[j] = l[r] by have h := HWA.out j hjW (by rw [← hr.out]; exact hrl); rw [h]; congr 1; exact hr.out.symm)
                        have HMEM := hid (show W[j] ∈ l by rw [HWJ.out]; exact List.getElem_mem _)
                        have HS1 := hid (hiN_snoc (M := M) (L := 2 * S) hjW)
                        have HS2 := hid (loN_snoc (M := M) (L := 2 * S) hjW)
                        rw [← HWJ.out] at hcell
                        have hl1 := hiN_le M (2 * S) (W.take j)
                        have hl2 := loN_le M (2 * S) (W.take j)
                        rw [List.length_take] at hl1 hl2
                        obtain ⟨h, hh⟩ : ∃ h, h = hiN M (2 * S) (W.take j) := ⟨_, rfl⟩
                        obtain ⟨g, hg⟩ : ∃ g, g = loN M (2 * S) (W.take j) := ⟨_, rfl⟩
                        rw [← hh] at hl1 HS1 ⊢
                        rw [← hg] at hl2 HS2 ⊢
                        clear HWJ
                        generalize W[j] = x at *
                        have HJ := hid hj3
                        clear hj3 hjW hrl hh hg
                        obtain ⟨c0, c1⟩ := hbx.out.two
                        rcases sd_cases (M := M) (v := x) HMS.out.2.1 (show (0 : Int) ≤ 2 by omega) with ⟨t1, t2, hD⟩ | ⟨t1, t2, hD⟩ | ⟨t1, t2, hD⟩
                        all_goals
                          have HT1 := hid t1
                          have HT2 := hid t2
                          have HD := hid hD
                          clear t1 t2 hD
                          go_wp2_with fail
                          refine wp_region_still_tail 5 (by kernel_rfl) (by kernel_rfl) ?_
                          simp only [List.take_succ_cons, List.take_zero, List.drop_succ_cons, List.drop_zero]
                          iterate 5 still_step
                          refine wpStill_nil ?_
                          go_wp2_with fail
                          refine (side_round HMS.out HV.out HMEM.out (by decide) HD.out).mono ?_
                          rintro e w5 ⟨rfl, hb⟩
                          have HB5 := hid (bstep (Below.drew (Below.refl wr.heap.size wr)) (Nat.le_refl _) hb)
                          have HX5 := hid (hbx.out.keep HB5.out)
                          have hcell5 := keep_cell HB5.out hcell
                          obtain ⟨d0, d1⟩ := HX5.out.two
                          clear hb
                          go_wp2_with fail
                          refine wp_region_still_tail 5 (by kernel_rfl) (by kernel_rfl) ?_
                          simp only [List.take_succ_cons, List.take_zero, List.drop_succ_cons, List.drop_zero]
                          iterate 5 still_step
                          refine wpStill_nil ?_
                          go_wp2_with fail
                          refine (side_round HMS.out HV.out HMEM.out (by decide) HD.out).mono ?_
                          rintro e w6 ⟨rfl, hb⟩
                          have HB6 := hid (bstep HB5.out HB5.out.size (bstep (Below.drew (Below.refl w5.heap.size w5)) (Nat.le_refl _) hb))
                          have HX6 := hid (hbx.out.keep HB6.out)
                          have HO6 := hid (hown.out.keep HB6.out)
                          clear hb d0 d1 hcell5
                          go_wp2_with fail
                          go_roundw
                          case rel => exact ⟨j + 1, r + 1, HJ.out, hid (by have := hr.out; omega), by go_num, by rw [HS1.out]; first | rw [if_pos HT1.out] | (rw [if_neg (by have := HT1.out; omega)]; go_num), by rw [HS2.out]; first | rw [if_pos HT2.out] | (rw [if_neg (by have := HT2.out; omega)]; go_num), HO6, HX6⟩
                          case measure => simp [intOf]; omega
                      · obtain rfl : j = 3 := by omega
                        have hri : ¬ r ≤ i := by have := HQI.out; have := hr.out; omega
                        have hfull : W.take 3 = W := List.take_of_length_le (by rw [HWL.out]; exact Nat.le_refl _)
                        rw [hfull]
                        have hl1 := hiN_le M (2 * S) W
                        have hl2 := loN_le M (2 * S) W
                        rw [HWL.out] at hl1 hl2
                        obtain ⟨h, hh⟩ : ∃ h, h = hiN M (2 * S) W := ⟨_, rfl⟩
                        obtain ⟨g, hg⟩ : ∃ g, g = loN M (2 * S) W := ⟨_, rfl⟩
                        rw [← hh, ← hg] at HSG
                        rw [← hh] at hl1 ⊢
                        rw [← hg] at hl2 ⊢
                        clear hh hg hfull
                        rcases (show (2 ≤ h) ∨ (¬ 2 ≤ h ∧ 2 ≤ g) ∨ (¬ 2 ≤ h ∧ ¬ 2 ≤ g) by omega) with g1 | ⟨g1, g2⟩ | ⟨g1, g2⟩
                        · have HNX := hid (sgI_yes (show sgR M S l b' i 1 = true by rw [HSG.out, decide_eq_true g1]; rfl))
                          have g1' : (2 : Int) ≤ h := by omega
                          obtain ⟨N, hN⟩ : ∃ N, N = (sgL M S l adj i ++ sgI M S l b' i 1).length := ⟨_, rfl⟩
                          have HOr := hid (show wr.ownsRow (w.heap.size + 1) 32 2 u9 N (pvs (sgL M S l adj i ++ sgI M S l b' i 1)) by rw [hN]; exact hown.out)
                          have hN5 : N ≤ 100000 := by have := HLO.out; have := sgI_len M S l b' i 1; have := HLT.out; rw [hN, List.length_append]; omega
                          have HNN := hid hN
                          clear hN
                          go_wp2_with (at_builtin; refine wpList_append_own _ rfl _ _ 26 rfl (w.heap.size + 1) 32 i0 (.agg #[.int .i64 0, .int .i64 0]) 2 16 Tryd.underlying26 hti hz0 hz1 hz2 rfl (by decide) _ _ _ rfl (World.ownsRow.alloc HOr.out _) ⟨wr.heap.size, 0, none⟩ 1 1 [.int .i64 i, .int .i64 2] rfl rfl (cell_two_new rfl) two_cell1 (by unfold maxLen; omega) (by omega) (by have := hbx.out.sz; simp; omega) ?_; intro v1 w6 hown6 hgrow6 _)
                          have HX6 := hid (hbx.out.grown2 (Nat.lt_succ_self _) hown.out hgrow6)
                          have HO6 : Hid (OwnX w6 (w.heap.size + 1) 32 v1 (sgL M S l adj i ++ sgI M S l b' i 2)) := by rw [HNX.out, ← List.append_assoc]; exact OwnX.app (d := ⟨_, _⟩) (by rw [← HNN.out]; exact hown6)
                          clear hown6 hgrow6
                          go_wp2_with fail
                          go_meet
                          exact ⟨HO6, HX6⟩
                        · have HNX := hid (sgI_yes (show sgR M S l b' i 1 = true by rw [HSG.out, decide_eq_true g2, Bool.or_true]))
                          have g1' : ¬ (2 : Int) ≤ h := by omega
                          have g2' : (2 : Int) ≤ g := by omega
                          obtain ⟨N, hN⟩ : ∃ N, N = (sgL M S l adj i ++ sgI M S l b' i 1).length := ⟨_, rfl⟩
                          have HOr := hid (show wr.ownsRow (w.heap.size + 1) 32 2 u9 N (pvs (sgL M S l adj i ++ sgI M S l b' i 1)) by rw [hN]; exact hown.out)
                          have hN5 : N ≤ 100000 := by have := HLO.out; have := sgI_len M S l b' i 1; have := HLT.out; rw [hN, List.length_append]; omega
                          have HNN := hid hN
                          clear hN
                          go_wp2_with (at_builtin; refine wpList_append_own _ rfl _ _ 26 rfl (w.heap.size + 1) 32 i0 (.agg #[.int .i64 0, .int .i64 0]) 2 16 Tryd.underlying26 hti hz0 hz1 hz2 rfl (by decide) _ _ _ rfl (World.ownsRow.alloc HOr.out _) ⟨wr.heap.size, 0, none⟩ 1 1 [.int .i64 i, .int .i64 2] rfl rfl (cell_two_new rfl) two_cell1 (by unfold maxLen; omega) (by omega) (by have := hbx.out.sz; simp; omega) ?_; intro v1 w6 hown6 hgrow6 _)
                          have HX6 := hid (hbx.out.grown2 (Nat.lt_succ_self _) hown.out hgrow6)
                          have HO6 : Hid (OwnX w6 (w.heap.size + 1) 32 v1 (sgL M S l adj i ++ sgI M S l b' i 2)) := by rw [HNX.out, ← List.append_assoc]; exact OwnX.app (d := ⟨_, _⟩) (by rw [← HNN.out]; exact hown6)
                          clear hown6 hgrow6
                          go_wp2_with fail
                          go_meet
                          exact ⟨HO6, HX6⟩
                        · have HNX := hid (sgI_no (show sgR M S l b' i 1 = false by rw [HSG.out, decide_eq_false g1, decide_eq_false g2]; rfl))
                          have g1' : ¬ (2 : Int) ≤ h := by omega
                          have g2' : ¬ (2 : Int) ≤ g := by omega
                          have HO6 : Hid (OwnX wr (w.heap.size + 1) 32 u9 (sgL M S l adj i ++ sgI M S l b' i 2)) := by rw [HNX.out]; exact hown.out
                          go_wp2_with fail
                          go_meet
                          exact ⟨HO6, hbx⟩
                  case rest =>
                    obtain ⟨hown, hbx⟩ := hcut
                    obtain ⟨B2, hB2⟩ : ∃ B, decide ((6 : Int) ≤ (i : Int) - b') = B := ⟨_, rfl⟩
                    go_upto_if 133 with (fail)
                    have HB2 := hid hB2
                    clear hB2
                    by_cases h2 : b' + 6 ≤ i
                    case neg =>
                      have HNX := hid (sgI_no (j := 2) (sg_few (M := M) (S := S) (l := l) (show i + 1 - b' < rlC 2 by simp only [rlC]; omega)))
                      obtain rfl : B2 = false := by rw [← HB2.out]; exact decide_eq_false (by omega)
                      have HO6 : Hid (OwnX wc (w.heap.size + 1) 32 u9 (sgL M S l adj i ++ sgI M S l b' i 3)) := by rw [HNX.out]; exact hown.out
                      go_wp2_with fail
                      have HOE : Hid (OwnX wc (w.heap.size + 1) 32 u9 (sgL M S l adj (i + 1))) := by rw [sgL, ← HB'.out]; exact HO6.out
                      go_roundw
                      case rel => exact ⟨i + 1, HLT.out, by go_num, by rw [HB'.out], by rw [HP'.out], HOE, hbx⟩
                      case measure => have := HLT.out; simp [intOf]; omega
                    obtain rfl : B2 = true := by rw [← HB2.out]; exact decide_eq_true (by omega)
                    obtain ⟨q, hq⟩ : ∃ q, q = i - 6 := ⟨_, rfl⟩
                    have hqi : (i : Int) - 6 = q := by omega
                    have HWL := hid (winL_len (c := 7) HIL.out (by omega))
                    have HQI := hid (show q + 6 = i by omega)
                    have HWA := hid (fun k (hk : k < (winL l i 7).length) (g : q + k < l.length) => show (winL l i 7)[k] = l[q + k] by
                      rw [winL_at hk (by have := HQI.out; omega)]
                      congr 1
                      have := HQI.out
                      omega)
                    have HSG := hid (sg_third (M := M) (S := S) HMS.out.2.1 hbi HIL.out (show 6 ≤ i - b' by omega))
                    generalize winL l i 7 = W at HWL HWA HSG
                    clear hq h2
                    go_wp2_with fail
                    go_loopw [16, 17] (fun s16 s17 w5 => ∃ j r : Nat, j ≤ 7 ∧ Hid (r = q + j) ∧ s17 = .int .i64 (r : Int) ∧ s16 = .int .i64 ((hiN M 0 (W.take j) : Int) - (loN M 0 (W.take j) : Int)) ∧ Hid (OwnX w5 (w.heap.size + 1) 32 u9 (sgL M S l adj i ++ sgI M S l b' i 2)) ∧ Hid (Box1 w w5 #[.int .i64 M, .int .i64 S])) (fun _ s17 _ => i + 1 - (intOf s17).toNat)
                    case atStart => exact ⟨0, q, by omega, hid rfl, rfl, rfl, hown, hbx⟩
                    case round =>
                      obtain ⟨j, r, hj, hr, rfl, rfl, hown, hbx⟩ := hrel
                      by_cases hj3 : j < 7
                      · have hri : r ≤ i := by have := HQI.out; have := hr.out; omega
                        have hrn : (r : Int) < n := by omega
                        have hjW : j < W.length := by rw [HWL.out]; exact hj3
                        have hrl : r < l.length := by rw [← HN.out]; omega
                        obtain ⟨b, o, hva, hcell⟩ := HR1.out _ hbx.out.low r hrl
                        subst hva
                        have HWJ := hid (show W[j] = l[r] by have h := HWA.out j hjW (by rw [← hr.out]; exact hrl); rw [h]; congr 1; exact hr.out.symm)
                        have HMEM := hid (show W[j] ∈ l by rw [HWJ.out]; exact List.getElem_mem _)
                        have HS1 := hid (hiN_snoc (M := M) (L := 0) hjW)
                        have HS2 := hid (loN_snoc (M := M) (L := 0) hjW)
                        rw [← HWJ.out] at hcell
                        have hl1 := hiN_le M 0 (W.take j)
                        have hl2 := loN_le M 0 (W.take j)
                        rw [List.length_take] at hl1 hl2
                        obtain ⟨s0, hs0⟩ : ∃ s : Int, s = (hiN M 0 (W.take j) : Int) - (loN M 0 (W.take j) : Int) := ⟨_, rfl⟩
                        have hs1 : -7 ≤ s0 := by omega
                        have hs2 : s0 ≤ 7 := by omega
                        rw [← hs0]
                        have HS0 := hid hs0
                        clear HWJ
                        generalize W[j] = x at *
                        have HJ := hid hj3
                        clear hj3 hjW hrl hs0 hl1 hl2
                        obtain ⟨c0, c1⟩ := hbx.out.two
                        have HSD := hid (sd_cases (M := M) (v := x) HMS.out.2.1 (show (0 : Int) ≤ 0 by omega))
                        obtain ⟨D, hD⟩ : ∃ D, sdI M S x 0 = D := ⟨_, rfl⟩
                        have hD1 : -1 ≤ D := by have := HSD.out; rw [hD] at this; omega
                        have hD2 : D ≤ 1 := by have := HSD.out; rw [hD] at this; omega
                        have HD := hid hD
                        clear hD
                        have hwD : IntKind.i64.wrap (s0 + D) = s0 + D := IntWalk.i64_in _ ⟨by omega, by omega⟩
                        have HC0 := hid (show World.cell? wr ⟨w.heap.size, 0, none⟩ = some (.int .i64 M) ∧ World.cell? wr ⟨w.heap.size, 1, none⟩ = some (.int .i64 S) ∧ World.cell? wr ⟨b, o + r, none⟩ = some (.int .i64 x) ∧ Below wr.heap.size wr wr from ⟨c0, c1, hcell, Below.refl _ _⟩)
                        go_wp2_with fail
                        go_region_held3 (fun w' => World.cell? w' ⟨w.heap.size, 0, none⟩ = some (.int .i64 M) ∧ World.cell? w' ⟨w.heap.size, 1, none⟩ = some (.int .i64 S) ∧ World.cell? w' ⟨b, o + r, none⟩ = some (.int .i64 x) ∧ Below wr.heap.size wr w') (first | exact sd_new HC0.out | assumption | exact sd_keep (by assumption) (by assumption)) ((go_at_call 18; refine (side_round HMS.out HV.out HMEM.out (by decide) HD.out).mono ?_; rintro e w5 ⟨rfl, hb⟩))
                        rename_i hS5
                        have HB5 := hid hS5.2.2.2
                        clear hwD hS5
                        have HX5 := hid (hbx.out.keep HB5.out)
                        have HO5 := hid (hown.out.keep HB5.out)
                        go_wp2_with fail
                        go_roundw
                        case rel => exact ⟨j + 1, r + 1, HJ.out, hid (by have := hr.out; omega), by go_num, int_eq (by rw [HS1.out, HS2.out]; have h3 := HS0.out; have h4 := HSD.out; rw [HD.out, Int.zero_mul] at h4; clear HD HS0 HSD hr HS1 HS2; (repeat' split) <;> omega), HO5, HX5⟩
                        case measure => simp [intOf]; omega
                      · obtain rfl : j = 7 := by omega
                        have hri : ¬ r ≤ i := by have := HQI.out; have := hr.out; omega
                        have hfull : W.take 7 = W := List.take_of_length_le (by rw [HWL.out]; exact Nat.le_refl _)
                        rw [hfull]
                        obtain ⟨s0, hs0⟩ : ∃ s : Int, s = (hiN M 0 W : Int) - (loN M 0 W : Int) := ⟨_, rfl⟩
                        rw [← hs0] at HSG ⊢
                        clear hs0 hfull
                        rcases (show s0 = 7 ∨ (¬ s0 = 7 ∧ s0 = -7) ∨ (¬ s0 = 7 ∧ ¬ s0 = -7) by omega) with g1 | ⟨g1, g2⟩ | ⟨g1, g2⟩
                        · have HNX := hid (sgI_yes (show sgR M S l b' i 2 = true by rw [HSG.out, decide_eq_true g1]; rfl))
                          have g1' : (s0 == 7) = true := by simpa using g1
                          clear g1
                          obtain ⟨N, hN⟩ : ∃ N, N = (sgL M S l adj i ++ sgI M S l b' i 2).length := ⟨_, rfl⟩
                          have HOr := hid (show wr.ownsRow (w.heap.size + 1) 32 2 u9 N (pvs (sgL M S l adj i ++ sgI M S l b' i 2)) by rw [hN]; exact hown.out)
                          have hN5 : N ≤ 100000 := by have := HLO.out; have := sgI_len M S l b' i 2; have := HLT.out; rw [hN, List.length_append]; omega
                          have HNN := hid hN
                          clear hN
                          go_wp2_with (at_builtin; refine wpList_append_own _ rfl _ _ 26 rfl (w.heap.size + 1) 32 i0 (.agg #[.int .i64 0, .int .i64 0]) 2 16 Tryd.underlying26 hti hz0 hz1 hz2 rfl (by decide) _ _ _ rfl (World.ownsRow.alloc HOr.out _) ⟨wr.heap.size, 0, none⟩ 1 1 [.int .i64 i, .int .i64 3] rfl rfl (cell_two_new rfl) two_cell1 (by unfold maxLen; omega) (by omega) (by have := hbx.out.sz; simp; omega) ?_; intro v1 w6 hown6 hgrow6 _)
                          have HX6 := hid (hbx.out.grown2 (Nat.lt_succ_self _) hown.out hgrow6)
                          have HO6 : Hid (OwnX w6 (w.heap.size + 1) 32 v1 (sgL M S l adj i ++ sgI M S l b' i 3)) := by rw [HNX.out, ← List.append_assoc]; exact OwnX.app (d := ⟨_, _⟩) (by rw [← HNN.out]; exact hown6)
                          clear hown6 hgrow6
                          go_wp2_with fail
                          have HOE : Hid (OwnX w6 (w.heap.size + 1) 32 v1 (sgL M S l adj (i + 1))) := by rw [sgL, ← HB'.out]; exact HO6.out
                          go_roundw
                          case rel => exact ⟨i + 1, HLT.out, by go_num, by rw [HB'.out], by rw [HP'.out], HOE, HX6⟩
                          case measure => have := HLT.out; simp [intOf]; omega
                        · have HNX := hid (sgI_yes (show sgR M S l b' i 2 = true by rw [HSG.out, decide_eq_true g2, Bool.or_true]))
                          have g1' : (s0 == 7) = false := by simpa using g1
                          have g2' : (s0 == -7) = true := by simpa using g2
                          clear g1 g2
                          obtain ⟨N, hN⟩ : ∃ N, N = (sgL M S l adj i ++ sgI M S l b' i 2).length := ⟨_, rfl⟩
                          have HOr := hid (show wr.ownsRow (w.heap.size + 1) 32 2 u9 N (pvs (sgL M S l adj i ++ sgI M S l b' i 2)) by rw [hN]; exact hown.out)
                          have hN5 : N ≤ 100000 := by have := HLO.out; have := sgI_len M S l b' i 2; have := HLT.out; rw [hN, List.length_append]; omega
                          have HNN := hid hN
                          clear hN
                          go_wp2_with (at_builtin; refine wpList_append_own _ rfl _ _ 26 rfl (w.heap.size + 1) 32 i0 (.agg #[.int .i64 0, .int .i64 0]) 2 16 Tryd.underlying26 hti hz0 hz1 hz2 rfl (by decide) _ _ _ rfl (World.ownsRow.alloc HOr.out _) ⟨wr.heap.size, 0, none⟩ 1 1 [.int .i64 i, .int .i64 3] rfl rfl (cell_two_new rfl) two_cell1 (by unfold maxLen; omega) (by omega) (by have := hbx.out.sz; simp; omega) ?_; intro v1 w6 hown6 hgrow6 _)
                          have HX6 := hid (hbx.out.grown2 (Nat.lt_succ_self _) hown.out hgrow6)
                          have HO6 : Hid (OwnX w6 (w.heap.size + 1) 32 v1 (sgL M S l adj i ++ sgI M S l b' i 3)) := by rw [HNX.out, ← List.append_assoc]; exact OwnX.app (d := ⟨_, _⟩) (by rw [← HNN.out]; exact hown6)
                          clear hown6 hgrow6
                          go_wp2_with fail
                          have HOE : Hid (OwnX w6 (w.heap.size + 1) 32 v1 (sgL M S l adj (i + 1))) := by rw [sgL, ← HB'.out]; exact HO6.out
                          go_roundw
                          case rel => exact ⟨i + 1, HLT.out, by go_num, by rw [HB'.out], by rw [HP'.out], HOE, HX6⟩
                          case measure => have := HLT.out; simp [intOf]; omega
                        · have HNX := hid (sgI_no (show sgR M S l b' i 2 = false by rw [HSG.out, decide_eq_false g1, decide_eq_false g2]; rfl))
                          have g1' : (s0 == 7) = false := by simpa using g1
                          have g2' : (s0 == -7) = false := by simpa using g2
                          clear g1 g2
                          have HO6 : Hid (OwnX wr (w.heap.size + 1) 32 u9 (sgL M S l adj i ++ sgI M S l b' i 3)) := by rw [HNX.out]; exact hown.out
                          go_wp2_with fail
                          have HOE : Hid (OwnX wr (w.heap.size + 1) 32 u9 (sgL M S l adj (i + 1))) := by rw [sgL, ← HB'.out]; exact HO6.out
                          go_roundw
                          case rel => exact ⟨i + 1, HLT.out, by go_num, by rw [HB'.out], by rw [HP'.out], HOE, hbx⟩
                          case measure => have := HLT.out; simp [intOf]; omega
        · obtain rfl : i = n := by omega
          have HROW : Hid (RowX wr u9 (sgL M S l adj l.length)) := by rw [← HN.out]; exact hown.out.row
          go_wp2
          refine bodyPost_ret (v := .tuple #[u9, .int .i64 0]) (by simp [results, Tryd.results8, go_sem]) rfl ?_
          exact ⟨_, by rw [HE1.out], by rw [if_pos HE1.out]; exact HROW.out, hbx.out.low⟩
end Go.Proofs.YtlhjiikbehmamaaDoor
