/- Walk of the reference's ValidBaskets: contract (written by wip/tools/gen_qwg.py). -/
import Derived.Test.YtikjgbfbbkmmcaaG03
namespace Go.Proofs.Ytikjgbfbbkmmcaa
open Go.RowKit

set_option maxRecDepth 20000 in
set_option maxHeartbeats 16000000 in
theorem xvalid_any (v : Value) (l : List Bsk) (w : World) (hr : RowE encB w v l) (hs : ∀ b ∈ l, b.pr.size ≤ maxLen) : Calls Try.prog 14 #[v] w fun e w' => e = .returned (.bool (bskQ l)) ∧ Below w.heap.size w w' := by
  have HR := hid (fun w1 (g : Below w.heap.size w w1) => hr.keep g)
  have HSS := hid hs
  have hm := hr.most
  unfold maxLen at hm
  obtain ⟨va, vc, rfl⟩ := hr.shape
  obtain ⟨n, hn⟩ : ∃ n, n = l.length := ⟨_, rfl⟩
  have HN := hid hn
  rw [← hn] at hm HR ⊢
  clear hr hs hn
  go_enter Try.func14, Try.ntmps14
  go_wp2
  go_loopw [3] (fun t wr => ∃ k : Nat, k ≤ n ∧ t = .int .i64 (k : Int) ∧ Hid (PreQ l k) ∧ Hid (Below w.heap.size w wr)) (fun t _ => n - (intOf t).toNat)
  case atStart => exact ⟨0, Nat.zero_le _, rfl, ⟨fun j h => absurd h (Nat.not_lt_zero j), List.Pairwise.nil⟩, Below.refl _ _⟩
  case round =>
    obtain ⟨k, hk, rfl, HPR, hB⟩ := hrel
    by_cases hlt : k < n
    · have hlt' : (k : Int) < n := by omega
      have hks : k < l.length := by rw [← HN.out]; exact hlt
      have HKS := hid hks
      have HLT := hid hlt
      obtain ⟨b0, o0, hva, c0, c1, c2, c3⟩ := (HR.out _ hB.out).bsk hks
      subst hva
      have hsz := HSS.out _ (List.getElem_mem hks)
      have hgd : l.getD k default = l[k] := getD_at hks
      generalize hx : l[k] = x at c0 c1 c2 c3 hsz hgd
      have HXE := hid hx
      have HXD := hid hgd
      have HB1 := hid (hB.out.alloc hB.out.size (.cells #[.int .i64 x.nu, .int .i64 x.ca, .string x.pr, .int .i64 x.cn] 55))
      have hn0 := heap_alloc_new wr (.cells #[.int .i64 x.nu, .int .i64 x.ca, .string x.pr, .int .i64 x.cn] 55)
      clear hlt hx hks hgd
      go_wp2
      generalize World.alloc wr _ = W1 at *
      have p0 := cell_of_row _ _ 0 _ _ _ hn0
      have p1 := cell_of_row _ _ 1 _ _ _ hn0
      have p2 := cell_of_row _ _ 2 _ _ _ hn0
      have p3 := cell_of_row _ _ 3 _ _ _ hn0
      simp only [List.getElem?_toArray, List.getElem?_cons_zero, List.getElem?_cons_succ] at p0 p1 p2 p3
      have P0 := hid p0
      have r0 := low_cell p0
      have r1 := low_cell p1
      have r2 := low_cell p2
      have r3 := low_cell p3
      obtain ⟨q1, h1⟩ : ∃ q, inQ x.nu 1 1000000 = q := ⟨_, rfl⟩
      obtain ⟨q2, h2⟩ : ∃ q, inQ x.ca 0 100000000 = q := ⟨_, rfl⟩
      obtain ⟨q3, h3⟩ : ∃ q, Lt.nameB x.pr.data.toList = q := ⟨_, rfl⟩
      obtain ⟨q4, h4⟩ : ∃ q, inQ x.cn 1 1000000 = q := ⟨_, rfl⟩
      have hc1 := fun p : LowBy W1 => low_of_same (xwithin_q _ _ _ _ h1 p.W)
      have hc2 := fun p : LowBy W1 => low_of_same (xwithin_q _ _ _ _ h2 p.W)
      have hc3 := fun p : LowBy W1 => low_of_same (xname_q _ _ h3 hsz p.W)
      have hc4 := fun p : LowBy W1 => low_of_same (xwithin_q _ _ _ _ h4 p.W)
      have HON : Hid (oneQ x = (q1 && q2 && q3 && q4)) := by unfold Hid oneQ; rw [h1, h2, h3, h4]
      have HBAD := hid (fun (h : oneQ x = false) => bskQ_bad HKS.out (show stpQ l k = false by
        unfold stpQ
        cases k with
        | zero => rw [HXD.out]; exact h
        | succ j => dsimp only; rw [HXD.out, h]; rfl))
      clear h1 h2 h3 h4 p0 p1 p2 p3 c0 c1 c2 c3 hn0 hsz
      cases q1
      · have HE := hid (HBAD.out (by rw [HON.out]; rfl))
        refine wp_region_low (by kernel_rfl) (by kernel_rfl) (fun R hR => ?_)
        repeat (refine low_step (by assumption) ?_; intro R hR K hK; go_simp; first | (refine hK _ ?_; clear hK K) | (apply Exists.intro; refine ⟨fun _ => ?_, hK _ ?_⟩; (first | (go_at_call 44; with_reducible exact hc1 _) | (go_at_call 44; with_reducible exact hc2 _) | (go_at_call 45; with_reducible exact hc3 _) | (go_at_call 44; with_reducible exact hc4 _)); clear hK K))
        refine low_nil (by assumption) ?_; intro _ hw'; obtain ⟨⟨wq, hlow⟩, hw''⟩ := hw'; subst hw''; have HLOW := hid hlow; clear hlow; (try simp only)
        have HB2 := hid (HLOW.out)
        go_wp2
        go_ret
        exact ⟨ret_bool HE.out.symm, bstep HB1.out HB1.out.size HB2.out⟩
      cases q2
      · have HE := hid (HBAD.out (by rw [HON.out]; rfl))
        refine wp_region_low (by kernel_rfl) (by kernel_rfl) (fun R hR => ?_)
        repeat (refine low_step (by assumption) ?_; intro R hR K hK; go_simp; first | (refine hK _ ?_; clear hK K) | (apply Exists.intro; refine ⟨fun _ => ?_, hK _ ?_⟩; (first | (go_at_call 44; with_reducible exact hc1 _) | (go_at_call 44; with_reducible exact hc2 _) | (go_at_call 45; with_reducible exact hc3 _) | (go_at_call 44; with_reducible exact hc4 _)); clear hK K))
        refine low_nil (by assumption) ?_; intro _ hw'; obtain ⟨⟨wq, hlow⟩, hw''⟩ := hw'; subst hw''; have HLOW := hid hlow; clear hlow; (try simp only)
        have HB2 := hid (HLOW.out)
        go_wp2
        go_ret
        exact ⟨ret_bool HE.out.symm, bstep HB1.out HB1.out.size HB2.out⟩
      cases q3
      · have HE := hid (HBAD.out (by rw [HON.out]; rfl))
        refine wp_region_low (by kernel_rfl) (by kernel_rfl) (fun R hR => ?_)
        repeat (refine low_step (by assumption) ?_; intro R hR K hK; go_simp; first | (refine hK _ ?_; clear hK K) | (apply Exists.intro; refine ⟨fun _ => ?_, hK _ ?_⟩; (first | (go_at_call 44; with_reducible exact hc1 _) | (go_at_call 44; with_reducible exact hc2 _) | (go_at_call 45; with_reducible exact hc3 _) | (go_at_call 44; with_reducible exact hc4 _)); clear hK K))
        refine low_nil (by assumption) ?_; intro _ hw'; obtain ⟨⟨wq, hlow⟩, hw''⟩ := hw'; subst hw''; have HLOW := hid hlow; clear hlow; (try simp only)
        have HB2 := hid (HLOW.out)
        go_wp2
        go_ret
        exact ⟨ret_bool HE.out.symm, bstep HB1.out HB1.out.size HB2.out⟩
      cases q4
      · have HE := hid (HBAD.out (by rw [HON.out]; rfl))
        refine wp_region_low (by kernel_rfl) (by kernel_rfl) (fun R hR => ?_)
        repeat (refine low_step (by assumption) ?_; intro R hR K hK; go_simp; first | (refine hK _ ?_; clear hK K) | (apply Exists.intro; refine ⟨fun _ => ?_, hK _ ?_⟩; (first | (go_at_call 44; with_reducible exact hc1 _) | (go_at_call 44; with_reducible exact hc2 _) | (go_at_call 45; with_reducible exact hc3 _) | (go_at_call 44; with_reducible exact hc4 _)); clear hK K))
        refine low_nil (by assumption) ?_; intro _ hw'; obtain ⟨⟨wq, hlow⟩, hw''⟩ := hw'; subst hw''; have HLOW := hid hlow; clear hlow; (try simp only)
        have HB2 := hid (HLOW.out)
        go_wp2
        go_ret
        exact ⟨ret_bool HE.out.symm, bstep HB1.out HB1.out.size HB2.out⟩
      rcases k with _ | i
      · have HE := hid (show stpQ l 0 = true by unfold stpQ; rw [HXD.out, HON.out]; rfl)
        have hk := HLT.out
        refine wp_region_low (by kernel_rfl) (by kernel_rfl) (fun R hR => ?_)
        repeat (refine low_step (by assumption) ?_; intro R hR K hK; go_simp; first | (refine hK _ ?_; clear hK K) | (apply Exists.intro; refine ⟨fun _ => ?_, hK _ ?_⟩; (first | (go_at_call 44; with_reducible exact hc1 _) | (go_at_call 44; with_reducible exact hc2 _) | (go_at_call 45; with_reducible exact hc3 _) | (go_at_call 44; with_reducible exact hc4 _)); clear hK K))
        refine low_nil (by assumption) ?_; intro _ hw'; obtain ⟨⟨wq, hlow⟩, hw''⟩ := hw'; subst hw''; have HLOW := hid hlow; clear hlow; (try simp only)
        have HB2 := hid (HLOW.out)
        go_wp2
        go_loopw [5] (fun t wx => ∃ j : Nat, j ≤ 0 ∧ t = .int .i64 (j : Int) ∧ Hid (∀ i (hi : i < l.length), i < j → l[i].nu ≠ x.nu) ∧ Hid (Below W1.heap.size W1 wx)) (fun t _ => 0 - (intOf t).toNat)
        case atStart => exact ⟨0, Nat.zero_le _, rfl, fun _ _ h => absurd h (Nat.not_lt_zero _), HB2.out⟩
        case round =>
          obtain ⟨j, hj, rfl, hdf, hBx⟩ := hrel
          by_cases hjk : j < 0
          · have hjk' : (j : Int) < 0 := by omega
            have hjs : j < l.length := by have := HKS.out; omega
            have hjn : (j : Int) < n := by have := HLT.out; omega
            obtain ⟨b1, o1, hva1, e0, e1, e2, e3⟩ := (HR.out _ (bstep HB1.out HB1.out.size hBx.out)).bsk hjs
            cases hva1
            have g0 := keep_cell hBx.out P0.out
            have HDF := hid hdf.out
            by_cases he : l[j].nu = x.nu
            · have HE := hid (bskQ_two (l := l) hjk HKS.out (he.trans (congrArg Bsk.nu HXE.out.symm)))
              have he2 : (l[j].nu == x.nu) = true := by simpa using he
              clear he
              go_wp2
              go_quiet (fail)
              have HB3 := hid (bdrewN (n := nq) (bstep HB1.out HB1.out.size hBx.out))
              go_wp2
              go_ret
              exact ⟨ret_bool HE.out.symm, HB3.out⟩
            · have he2 : (l[j].nu == x.nu) = false := by simpa using he
              have HNE := hid he
              have HJK := hid hjk
              clear he hjk
              go_wp2
              go_quiet (fail)
              have HB3 := hid (bdrewN (n := nq) hBx.out)
              go_wp2
              go_roundw
              case rel =>
                refine ⟨j + 1, HJK.out, by go_num, fun i hi hij => ?_, HB3⟩
                rcases Nat.lt_succ_iff_lt_or_eq.1 hij with g | rfl
                · exact HDF.out i hi g
                · exact HNE.out
              case measure => have := HJK.out; simp [intOf]; omega
          · obtain rfl : j = 0 := by omega
            have HPN := hid (pre_next HKS.out HPR.out HE.out (fun a hi hik e => hdf.out a hi hik (e.trans (congrArg Bsk.nu HXE.out))))
            have HB3 := hid (bstep HB1.out HB1.out.size hBx.out)
            clear hjk
            go_wp2
            go_roundw
            case rel => exact ⟨0 + 1, HLT.out, by go_num, HPN, HB3⟩
            case measure => have := HLT.out; simp [intOf]; omega
      · have his : i < l.length := by have := HKS.out; omega
        obtain ⟨b2, o2, hva2, d0, d1, d2, d3⟩ := (HR.out _ HB1.out).bsk his
        cases hva2
        have hgy : l.getD i default = l[i] := getD_at his
        generalize hy : l[i] = y at d0 d1 d2 d3 hgy
        have HYD := hid hgy
        have s0 := low_cell d0
        have s1 := low_cell d1
        have s2 := low_cell d2
        have s3 := low_cell d3
        have hi1 : IntKind.i64.wrap (i : Int) = (i : Int) := IntWalk.i64_in _ ⟨by omega, by have := HLT.out; omega⟩
        have hi2 : (i : Int) < (n : Int) := by have := HLT.out; omega
        obtain ⟨D, hd⟩ : ∃ D, befK y x = D := ⟨_, rfl⟩
        have hc5 := fun p : LowBy W1 => low_of (xbefore_any y x p.W)
        rw [hd] at hc5
        have HST : Hid (stpQ l (i + 1) = D) := by
          show stpQ l (i + 1) = D
          unfold stpQ
          dsimp only
          rw [HXD.out, HYD.out, HON.out, hd]; rfl
        clear hd hy hgy his d0 d1 d2 d3
        cases D
        · have HE := hid (bskQ_bad HKS.out HST.out)
          refine wp_region_low (by kernel_rfl) (by kernel_rfl) (fun R hR => ?_)
          repeat (refine low_step (by assumption) ?_; intro R hR K hK; go_simp; first | (refine hK _ ?_; clear hK K) | (apply Exists.intro; refine ⟨fun _ => ?_, hK _ ?_⟩; (first | (go_at_call 44; with_reducible exact hc1 _) | (go_at_call 44; with_reducible exact hc2 _) | (go_at_call 45; with_reducible exact hc3 _) | (go_at_call 44; with_reducible exact hc4 _) | (go_at_call 39; with_reducible exact hc5 _)); clear hK K))
          refine low_nil (by assumption) ?_; intro _ hw'; obtain ⟨⟨wq, hlow⟩, hw''⟩ := hw'; subst hw''; have HLOW := hid hlow; clear hlow; (try simp only)
          have HB2 := hid (HLOW.out)
          go_wp2
          go_ret
          exact ⟨ret_bool HE.out.symm, bstep HB1.out HB1.out.size HB2.out⟩
        · have HE := hid HST.out
          refine wp_region_low (by kernel_rfl) (by kernel_rfl) (fun R hR => ?_)
          repeat (refine low_step (by assumption) ?_; intro R hR K hK; go_simp; first | (refine hK _ ?_; clear hK K) | (apply Exists.intro; refine ⟨fun _ => ?_, hK _ ?_⟩; (first | (go_at_call 44; with_reducible exact hc1 _) | (go_at_call 44; with_reducible exact hc2 _) | (go_at_call 45; with_reducible exact hc3 _) | (go_at_call 44; with_reducible exact hc4 _) | (go_at_call 39; with_reducible exact hc5 _)); clear hK K))
          refine low_nil (by assumption) ?_; intro _ hw'; obtain ⟨⟨wq, hlow⟩, hw''⟩ := hw'; subst hw''; have HLOW := hid hlow; clear hlow; (try simp only)
          have HB2 := hid (HLOW.out)
          go_wp2
          go_loopw [5] (fun t wx => ∃ j : Nat, j ≤ i + 1 ∧ t = .int .i64 (j : Int) ∧ Hid (∀ a (hi : a < l.length), a < j → l[a].nu ≠ x.nu) ∧ Hid (Below W1.heap.size W1 wx)) (fun t _ => i + 1 - (intOf t).toNat)
          case atStart => exact ⟨0, Nat.zero_le _, rfl, fun _ _ h => absurd h (Nat.not_lt_zero _), HB2.out⟩
          case round =>
            obtain ⟨j, hj, rfl, hdf, hBx⟩ := hrel
            by_cases hjk : j < i + 1
            · have hjk' : (j : Int) < ((i + 1 : Nat) : Int) := by omega
              have hjs : j < l.length := by have := HKS.out; omega
              have hjn : (j : Int) < n := by have := HLT.out; omega
              obtain ⟨b1, o1, hva1, e0, e1, e2, e3⟩ := (HR.out _ (bstep HB1.out HB1.out.size hBx.out)).bsk hjs
              cases hva1
              have g0 := keep_cell hBx.out P0.out
              have HDF := hid hdf.out
              by_cases he : l[j].nu = x.nu
              · have HE := hid (bskQ_two (l := l) hjk HKS.out (he.trans (congrArg Bsk.nu HXE.out.symm)))
                have he2 : (l[j].nu == x.nu) = true := by simpa using he
                clear he
                go_wp2
                go_quiet (fail)
                have HB3 := hid (bdrewN (n := nq) (bstep HB1.out HB1.out.size hBx.out))
                go_wp2
                go_ret
                exact ⟨ret_bool HE.out.symm, HB3.out⟩
              · have he2 : (l[j].nu == x.nu) = false := by simpa using he
                have HNE := hid he
                have HJK := hid hjk
                clear he hjk
                go_wp2
                go_quiet (fail)
                have HB3 := hid (bdrewN (n := nq) hBx.out)
                go_wp2
                go_roundw
                case rel =>
                  refine ⟨j + 1, HJK.out, by go_num, fun a hi hij => ?_, HB3⟩
                  rcases Nat.lt_succ_iff_lt_or_eq.1 hij with g | rfl
                  · exact HDF.out a hi g
                  · exact HNE.out
                case measure => have := HJK.out; simp [intOf]; omega
            · obtain rfl : j = i + 1 := by omega
              have HPN := hid (pre_next HKS.out HPR.out HE.out (fun a hi hik e => hdf.out a hi hik (e.trans (congrArg Bsk.nu HXE.out))))
              have HB3 := hid (bstep HB1.out HB1.out.size hBx.out)
              clear hjk
              go_wp2
              go_roundw
              case rel => exact ⟨i + 1 + 1, HLT.out, by go_num, HPN, HB3⟩
              case measure => have := HLT.out; simp [intOf]; omega
    · obtain rfl : k = n := by omega
      have HE : Hid (bskQ l = decide ((k : Int) ≤ 500)) := by
        have h := HPR.out
        rw [HN.out] at h
        show bskQ l = _
        rw [pre_bskQ h, ← HN.out, Bool.eq_iff_iff]
        simp only [decide_eq_true_iff]
        omega
      go_wp2
      go_ret
      exact ⟨ret_bool HE.out.symm, hB.out⟩
end Go.Proofs.Ytikjgbfbbkmmcaa
