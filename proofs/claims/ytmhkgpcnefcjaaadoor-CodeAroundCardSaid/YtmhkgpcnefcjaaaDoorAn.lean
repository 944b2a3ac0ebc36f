/- Walk of Clash of the code: contract. -/
import Derived.Test.YtmhkgpcnefcjaaaDoorAm
namespace Go.Proofs.YtmhkgpcnefcjaaaDoor
open Go.RowKit

set_option maxRecDepth 100000 in
set_option maxHeartbeats 8000000 in
theorem cclash_any {f : Stp → ByteArray} (hf : ∀ x, x.ok = true → IsCode x (f x)) (v : Value) (l : List Stp) (w : World) (hr : RowU w v l) (hlen : l.length ≤ 510) (hw : Wts w) : Calls Tryd.prog 22 #[v] w (ClP (clL f l) (clC l) w) := by
  have HW := hid hw
  have HF := hid hf
  have HR := hid (fun w1 (g : Below w.heap.size w w1) => hr.keep g)
  obtain ⟨va, vc, rfl⟩ := hr.shape
  obtain ⟨n, hn⟩ : ∃ n, n = l.length := ⟨_, rfl⟩
  have HN := hid hn
  rw [← hn] at hlen HR ⊢
  have HBAD := hid (fun (h : l.all Stp.ok = false) => show clL f l = [] ∧ clC l = 1 by
    have : clC l = 1 := by unfold clC; rw [h]; rfl
    exact ⟨by unfold clL; rw [this]; rfl, this⟩)
  have HBIG := hid (fun (h : l.all Stp.ok = true) (g : 500 < n) => show clL f l = [] ∧ clC l = 4 by
    have : clC l = 4 := by unfold clC; rw [h, if_pos rfl, if_pos (by omega)]
    exact ⟨by unfold clL; rw [this]; rfl, this⟩)
  have HGOOD := hid (fun (h : l.all Stp.ok = true) (g : ¬ 500 < n) => show clL f l = allCl f l n n ∧ clC l = 0 by
    have : clC l = 0 := by unfold clC; rw [h, if_pos rfl, if_neg (by omega)]
    exact ⟨by unfold clL; rw [this, if_pos rfl, hn], this⟩)
  obtain ⟨i0, hi, hz0, hz1, hz2⟩ := infoPP
  obtain ⟨j0, hj, hy0, hy1, hy2⟩ := infoT
  clear hr hn hw hf
  go_enter Tryd.func22, Tryd.ntmps22
  go_wp2
  go_loopw [14] (fun t wr => ∃ k : Nat, k ≤ n ∧ t = .int .i64 (k : Int) ∧ Hid (∀ j (hj : j < l.length), j < k → l[j].ok = true) ∧ Hid (Below w.heap.size w wr)) (fun t _ => n - (intOf t).toNat)
  case atStart => exact ⟨0, Nat.zero_le _, rfl, fun j _ h => absurd h (Nat.not_lt_zero j), Below.refl _ _⟩
  case round =>
    obtain ⟨k, hk, rfl, hok, hB⟩ := hrel
    by_cases hlt : k < n
    · have hlt' : (k : Int) < n := by omega
      have hkl : k < l.length := by rw [← HN.out]; exact hlt
      obtain ⟨a', b', o', cap', hv, ha', _, hcell⟩ := HR.out _ hB.out
      injection hv with hv1 hv2 hv3
      subst hv1 hv3
      rcases ha' with h0 | rfl
      · rw [h0] at hkl; simp at hkl
      obtain ⟨c0, c1, c2, c3, c4⟩ := hcell k hkl
      have HST := hid (fun h => okU_step hkl h hok.out)
      have HBD := hid (fun h => okU_bad hkl h)
      have HLT := hid hlt
      clear hcell hv2 hlt
      generalize l[k]'hkl = x at *
      have HC := hid (cvalid_f x)
      cases hx : x.ok
      · have HE := hid (HBAD.out (HBD.out hx))
        go_wp2_with fail
        refine (HC.out _).mono ?_
        rintro e w2 ⟨rfl, hb⟩
        rw [hx]
        have HB2 := hid (bstep (hB.out.alloc hB.out.size _) (hB.out.alloc hB.out.size _).size hb)
        clear hb hx
        go_wp2_with fail
        go_ret2
        exact ⟨_, by rw [HE.out.2]; rfl, rowX_cast (rowX_nil _) HE.out.1.symm, HB2.out⟩
      · have HS := hid (HST.out hx)
        go_wp2_with fail
        refine (HC.out _).mono ?_
        rintro e w2 ⟨rfl, hb⟩
        rw [hx]
        have HB2 := hid (bstep (hB.out.alloc hB.out.size _) (hB.out.alloc hB.out.size _).size hb)
        clear hb hx c0 c1 c2 c3 c4
        go_wp2_with fail
        go_roundw
        case rel => exact ⟨k + 1, HLT.out, by go_num, HS, HB2⟩
        case measure => have := HLT.out; simp [intOf]; omega
    · obtain rfl : k = n := by omega
      have HALL := hid (okU_end (l := l) fun j hj => hok.out j hj (by rw [HN.out]; exact hj))
      have HOKK := hid (fun j (hj : j < l.length) => hok.out j hj (by rw [HN.out]; exact hj))
      clear hok
      by_cases hg : 500 < k
      · have HE := hid (HBIG.out HALL.out hg)
        have hg2 : (500 : Int) < (k : Int) := by omega
        go_wp2_with fail
        go_ret2
        exact ⟨_, by rw [HE.out.2]; rfl, rowX_cast (rowX_nil _) HE.out.1.symm, hB.out⟩
      · have HE := hid (HGOOD.out HALL.out hg)
        have hg2 : ¬ (500 : Int) < (k : Int) := by omega
        have HHG := hid hg
        clear hg hlt hk
        obtain ⟨cs, hcs⟩ : ∃ cs, cs = l.map f := ⟨_, rfl⟩
        have HCL := hid (show cs.length = k by rw [hcs, List.length_map, HN.out])
        have HCA := hid (fun j (h1 : j < cs.length) (h2 : j < l.length) => show cs[j] = f l[j] by subst hcs; simp)
        clear hcs
        go_wp2_with (at_make; refine wpList_make_full _ rfl _ _ 26 rfl w.heap.size 9 j0 (.string ⟨#[]⟩) 1 Tryd.underlying26 hj hy0 hy1 _ _ _ _ k rfl rfl rfl rfl (by rw [hy2]; omega) (by unfold maxLen; omega) hB.out.size ?_; intro w3 hown3 hgrow3; have HO := hid hown3; have HB3 := hid (bstep hB.out hB.out.size ((Below.refl wr.heap.size wr).grown hgrow3 (Nat.le_refl _) (fun j e => by cases e))); clear hown3 hgrow3)
        have HWG := hid hB.out.size
        generalize wr.heap.size = G at *
        go_loopw [30] (fun t wr => ∃ q : Nat, q ≤ k ∧ t = .int .i64 (q : Int) ∧ Hid (wr.ownsRow w.heap.size 9 1 (.slice (some ⟨G, 0, none⟩) k k) k ((rowC cs q).map Value.string)) ∧ Hid (Below w.heap.size w wr)) (fun t _ => k - (intOf t).toNat)
        case atStart =>
          refine ⟨0, Nat.zero_le _, rfl, ?_, HB3⟩
          have h := HO.out
          rw [made_str] at h
          rw [rowC_zero, List.map_replicate, HCL.out]
          exact h
        case round =>
          clear hB HB3 HO
          obtain ⟨q, hq, rfl, hO, hB⟩ := hrel
          by_cases hlt : q < k
          · have hlt' : (q : Int) < k := by omega
            have hkl : q < l.length := by rw [← HN.out]; exact hlt
            have hkc : q < cs.length := by rw [HCL.out]; exact hlt
            obtain ⟨a', b', o', cap', hv, ha', _, hcell⟩ := HR.out _ hB.out
            injection hv with hv1 hv2 hv3
            subst hv1 hv3
            rcases ha' with h0 | rfl
            · rw [h0] at hkl; simp at hkl
            obtain ⟨c0, c1, c2, c3, c4⟩ := hcell q hkl
            have HX := hid (HOKK.out q hkl)
            have HCQ := hid (HCA.out q hkc hkl)
            have HSET := hid (rowC_set hkc)
            have hat := rowC_at hkc
            have HLT := hid hlt
            clear hcell hv2 hlt
            generalize cs[q]'hkc = c at *
            generalize l[q]'hkl = x at *
            have hb0 := hB.out.alloc hB.out.size (.cells #[.string x.pl, .string x.pr, .string x.ln, .int .i64 x.dy, .int .i64 x.pe] 48)
            have HC := hid (cprinted_f HF.out x _ HX.out (HW.out.keep hb0))
            have HB0 := hid hb0
            have HO0 := hid (own_keep hO.out ((Below.refl wr.heap.size wr).alloc (Nat.le_refl _) (.cells #[.string x.pl, .string x.pr, .string x.ln, .int .i64 x.dy, .int .i64 x.pe] 48)))
            rw [← HCQ.out] at HC
            clear hb0
            go_wp2_with fail
            refine HC.out.mono ?_
            rintro e w4 ⟨rfl, hb⟩
            have HO4 := hid (own_keep HO0.out hb)
            have HB4 := hid (bstep HB0.out HB0.out.size hb)
            clear hb c0 c1 c2 c3 c4 HC HO0 HB0
            have k0 := (HO4.out.cellAt q (by omega)).trans hat
            have k1 := HO4.out.frozenAt q
            have HS5 := hid (show World.ownsRow _ _ _ _ _ _ _ from by have h := (HO4.out.stored q (.string c)).1; rw [HSET.out] at h; exact h)
            have HB5 := hid (HB4.out.setCell (p := ⟨G, q, none⟩) HWG.out (.string c))
            clear hat
            go_wp2_with fail
            go_roundw
            case rel => exact ⟨q + 1, HLT.out, by go_num, HS5, HB5⟩
            case measure => have := HLT.out; simp [intOf]; omega
          · obtain rfl : q = k := by omega
            have HCO : Hid (G < wr.heap.size → Codes wr G cs) := by
              have h := hO.out
              have e := rowC_all cs
              rw [HCL.out] at e
              rw [e] at h
              exact codes_of h HCL.out
            have HGL : Hid (G < wr.heap.size) := by
              rcases hO.out.2 with ⟨h, _⟩ | ⟨g, cap, cur, h, _, hg, _⟩
              · cases h
              · injection h with h _ _
                injection h with h
                injection h with h _ _
                rw [h]
                exact (Array.getElem?_eq_some_iff.1 hg).1
            have HCC := hid (HCO.out HGL.out)
            clear HCO hlt hq
            go_wp2_with fail
            go_loopw [9, 43] (fun u t wr => ∃ a : Nat, a ≤ q ∧ t = .int .i64 (a : Int) ∧ Hid (OwnX wr (G + 1) 44 u (allCl f l q a)) ∧ Hid (Codes wr G cs) ∧ Hid (Below w.heap.size w wr)) (fun _ t _ => q - (intOf t).toNat)
            case atStart => exact ⟨0, Nat.zero_le _, rfl, ownX_nil _ _ _, HCC, hB⟩
            case round =>
              clear hB HCC hO HGL
              obtain ⟨a, ha, rfl, hO, hC, hB⟩ := hrel
              by_cases hlta : a < q
              · have hlta' : (a : Int) < q := by omega
                have HLTA := hid hlta
                have hwa : IntKind.i64.wrap ((a : Int) + 1) = (a : Int) + 1 := IntWalk.i64_in _ ⟨by omega, by omega⟩
                clear hlta
                go_wp2_with fail
                go_loopw [9, 11] (fun u t wr => ∃ b : Nat, a + 1 ≤ b ∧ b ≤ q ∧ t = .int .i64 (b : Int) ∧ Hid (OwnX wr (G + 1) 44 u (allCl f l q a ++ rowCl f l a b)) ∧ Hid (Codes wr G cs) ∧ Hid (Below w.heap.size w wr)) (fun _ t _ => q - (intOf t).toNat)
                case atStart => exact ⟨a + 1, Nat.le_refl _, HLTA.out, by go_num, by rw [rowCl_zero _ _ _ _ (Nat.le_refl _), List.append_nil]; exact hO, hC, hB⟩
                case round =>
                  clear hB hC hO
                  obtain ⟨b, hab, hbq, rfl, hO, hC, hB⟩ := hrel
                  obtain ⟨oa, oc, rfl⟩ := ownX_shape hO.out
                  have HLN := hid (cl_len f l (n := q) (a := a) (b := b) (by have := HHG.out; omega) ha hbq)
                  by_cases hltb : b < q
                  · have hltb' : (b : Int) < q := by omega
                    have hal : a < l.length := by rw [← HN.out]; exact HLTA.out
                    have hbl : b < l.length := by rw [← HN.out]; exact hltb
                    have hac : a < cs.length := by rw [HCL.out]; exact HLTA.out
                    have hbc : b < cs.length := by rw [HCL.out]; exact hltb
                    have k0 := hC.out.2 a hac
                    have k1 := hC.out.2 b hbc
                    rw [HCA.out a hac hal] at k0
                    rw [HCA.out b hbc hbl] at k1
                    obtain ⟨a', b', o', cap', hv, ha', _, hcell⟩ := HR.out _ hB.out
                    injection hv with hv1 hv2 hv3
                    subst hv1 hv3
                    rcases ha' with h0 | rfl
                    · rw [h0] at hal; simp at hal
                    obtain ⟨c0, c1, c2, c3, c4⟩ := hcell a hal
                    obtain ⟨d0, d1, d2, d3, d4⟩ := hcell b hbl
                    have HCB := hid (clB_at (f := f) hal hbl)
                    have HYES := hid (fun g => rowCl_yes (f := f) (l := l) (a := a) (b := b) (by omega) g)
                    have HNO := hid (fun g => rowCl_no (f := f) (l := l) (a := a) (b := b) g)
                    have HLTB := hid hltb
                    have HAB := hid hab
                    clear hcell hv2 hltb hac hbc
                    generalize l[a]'hal = x at *
                    generalize l[b]'hbl = y at *
                    have hq5 := fun W => eq5 x.pl x.pr x.ln y.pl y.pr y.ln x.dy x.pe y.dy y.pe W
                    have hsz : (x.pl.toList == y.pl.toList && (x.pr.toList == y.pr.toList && (x.ln.toList == y.ln.toList && (x.dy == y.dy && x.pe == y.pe)))) = sameZ x y := rfl
                    rw [hsz] at hq5
                    generalize f x = cx at *
                    generalize f y = cy at *
                    clear hal hbl hsz
                    obtain ⟨L, hL⟩ : ∃ L, allCl f l q a ++ rowCl f l a b = L := ⟨_, rfl⟩
                    have HLQ := hid hL
                    rw [hL] at hO HLN ⊢
                    clear hL
                    by_cases hce : cx.toList = cy.toList
                    · have hcb : (cx.toList == cy.toList) = true := by simpa using hce
                      rw [hcb, Bool.true_and] at HCB
                      cases hs : sameZ x y
                      · rw [hs] at HCB
                        have HEE := hid (HYES.out HCB.out)
                        rw [hs] at hq5
                        clear HYES HNO hce hs
                        go_wp2_with fail
                        go_quiet (fail)
                        have HB2 := hid (bdrewN (n := nq) hB.out)
                        have HC2 := hid (hC.out.keep (bdrewN (n := nq) (Below.refl wr.heap.size wr)))
                        have HO2 := hid (hO.out.keep (bdrewN (n := nq) (Below.refl wr.heap.size wr)))
                        generalize World.drewN wr nq = wd at *
                        have hGd := HC2.out.1
                        clear k0 k1 c0 c1 c2 c3 c4 d0 d1 d2 d3 d4 hq5 hcb HCB
                        go_wp2_with (at_builtin; refine wpList_append_own _ rfl _ _ 41 rfl (G + 1) 44 i0 (.agg #[.int .i64 0, .int .i64 0]) 2 16 Tryd.underlying41 hi hz0 hz1 hz2 rfl (by decide) _ _ _ rfl (World.ownsRow.alloc HO2.out _) ⟨wd.heap.size, 0, none⟩ 1 1 [.int .i64 (a : Int), .int .i64 (b : Int)] rfl rfl (cell_two_new rfl) two_cell1 (by have := HLN.out; unfold maxLen; omega) (by have := HLN.out; omega) (by simp; omega) ?_; intro v1 w6 hown6 hgrow6 _)
                        have HC6 := hid (HC2.out.grown HO2.out hgrow6)
                        have HB6 := hid (below_prs HB2.out HO2.out (by have := HWG.out; omega) hgrow6)
                        have HR6 := hid (OwnX.app (d := ⟨(a : Int), (b : Int)⟩) hown6)
                        clear hown6 hgrow6
                        go_roundw
                        case rel => exact ⟨b + 1, by have := HAB.out; omega, HLTB.out, by go_num, by rw [HEE.out, ← List.append_assoc, HLQ.out]; exact HR6, HC6, HB6⟩
                        case measure => have := HLTB.out; simp [intOf]; omega
                      · rw [hs] at HCB
                        have HEE := hid (HNO.out HCB.out)
                        rw [hs] at hq5
                        clear HYES HNO hce hs
                        go_wp2_with fail
                        go_quiet (fail)
                        have HB2 := hid (bdrewN (n := nq) hB.out)
                        have HC2 := hid (hC.out.keep (bdrewN (n := nq) (Below.refl wr.heap.size wr)))
                        have HO2 := hid (hO.out.keep (bdrewN (n := nq) (Below.refl wr.heap.size wr)))
                        clear k0 k1 c0 c1 c2 c3 c4 d0 d1 d2 d3 d4 hq5 hcb HCB
                        go_wp2_with fail
                        go_roundw
                        case rel => exact ⟨b + 1, by have := HAB.out; omega, HLTB.out, by go_num, by rw [HEE.out, HLQ.out]; exact HO2, HC2, HB2⟩
                        case measure => have := HLTB.out; simp [intOf]; omega
                    · have hcb : (cx.toList == cy.toList) = false := by simpa using hce
                      rw [hcb, Bool.false_and] at HCB
                      have HEE := hid (HNO.out HCB.out)
                      clear HYES HNO hce
                      go_wp2_with fail
                      go_quiet (fail)
                      have HB2 := hid (bdrewN (n := nq) hB.out)
                      have HC2 := hid (hC.out.keep (bdrewN (n := nq) (Below.refl wr.heap.size wr)))
                      have HO2 := hid (hO.out.keep (bdrewN (n := nq) (Below.refl wr.heap.size wr)))
                      clear k0 k1 c0 c1 c2 c3 c4 d0 d1 d2 d3 d4 hq5 hcb HCB
                      go_wp2_with fail
                      go_roundw
                      case rel => exact ⟨b + 1, by have := HAB.out; omega, HLTB.out, by go_num, by rw [HEE.out, HLQ.out]; exact HO2, HC2, HB2⟩
                      case measure => have := HLTB.out; simp [intOf]; omega
                  · obtain rfl : b = q := by omega
                    have HQ2 := hid (show allCl f l b (a + 1) = allCl f l b a ++ rowCl f l a b from rfl)
                    clear hltb
                    go_wp2_with fail
                    go_roundw
                    case rel => exact ⟨a + 1, HLTA.out, by go_num, by rw [HQ2.out]; exact hO, hC, hB⟩
                    case measure => have := HLTA.out; simp [intOf]; omega
              · obtain rfl : a = q := by omega
                obtain ⟨oa, oc, rfl⟩ := ownX_shape hO.out
                go_wp2_with fail
                go_ret2
                exact ⟨_, by rw [HE.out.2]; rfl, rowX_cast hO.out.row HE.out.1.symm, hB.out⟩
end Go.Proofs.YtmhkgpcnefcjaaaDoor
