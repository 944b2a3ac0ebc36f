/- Walk of the reference's Clash: contract. -/
import Derived.Test.YtmhkgpcnefcjaaaDoorAm
import Derived.Test.YtmhkgpcnefcjaaaDoorCf
import Derived.Test.YtmhkgpcnefcjaaaDoorDy
namespace Go.Proofs.YtmhkgpcnefcjaaaDoor
open Go.RowKit

theorem xprint_f {f : Stp → ByteArray} (hf : ∀ x, x.ok = true → IsCode x (f x)) (x : Stp) (w : World) (h : x.ok = true) :
    Calls Tryd.prog 55 #[.agg #[.string x.pl, .string x.pr, .string x.ln, .int .i64 x.dy, .int .i64 x.pe]] w fun e w' => e = .returned (.tuple #[.string (f x), .int .i64 0]) ∧ Below w.heap.size w w' := by
  obtain ⟨y, hy, e⟩ := hf x h
  obtain ⟨_, _, _, ⟨q0, q1⟩, _⟩ := (stampB_iff ..).1 h
  obtain ⟨yy, mm, dd, hd⟩ := date_ex q0 q1
  obtain rfl := hd.1.uniq hy
  rw [e]
  exact xprint_ok _ _ _ _ _ yy mm dd w h hd
theorem xprint_n (x : Stp) (w : World) (h : x.ok = false) :
    Calls Tryd.prog 55 #[.agg #[.string x.pl, .string x.pr, .string x.ln, .int .i64 x.dy, .int .i64 x.pe]] w fun e w' => e = .returned (.tuple #[.string ⟨#[]⟩, .int .i64 1]) ∧ Below w.heap.size w w' := xprint_bad _ _ _ _ _ w h
/-- Texts in an own row, some block or none. -/
theorem ownT_codes {w : World} {base : Nat} {v : Value} {l : List ByteArray} (h : OwnT w base v l) (h0 : 0 < l.length) : ∃ G cap, v = .slice (some ⟨G, 0, none⟩) l.length cap ∧ base ≤ G ∧ Codes w G l := by
  rcases h.2 with ⟨rfl, h1⟩ | ⟨g, cap, cur, rfl, hb, hg, hcap, hmx, hcs, ht⟩
  · omega
  · refine ⟨g, cap, rfl, hb, (Array.getElem?_eq_some_iff.1 hg).1, fun k hk => ?_⟩
    rw [cell_of_row w g k cur _ _ hg]
    have hx : (l.map Value.string)[k]? = some (.string l[k]) := by simp [hk]
    rw [← ht, List.getElem?_take_of_lt (by omega)] at hx
    simpa using hx
set_option maxRecDepth 100000 in
set_option maxHeartbeats 8000000 in
theorem xclash_any {f : Stp → ByteArray} (hf : ∀ x, x.ok = true → IsCode x (f x)) (v : Value) (l : List Stp) (w : World) (hr : RowU w v l) (hlen : l.length ≤ 510) : Calls Tryd.prog 23 #[v] w (ClP (clL f l) (clC l) w) := by
  have HF := hid hf
  have HR := hid (fun w1 (g : Below w.heap.size w w1) => hr.keep g)
  obtain ⟨va, vc, rfl⟩ := hr.shape
  obtain ⟨n, hn⟩ : ∃ n, n = l.length := ⟨_, rfl⟩
  have HN := hid hn
  rw [← hn] at hlen HR ⊢
  have HBAD := hid (fun (h : l.all Stp.ok = false) => show clL f l = [] ∧ clC l = 1 by
    have : clC l = 1 := by unfold clC; rw [h]; rfl
    exact ⟨by unfold clL; rw [this]; rfl, this⟩)
  have HBIG := hid (fun (h : l.all Stp.ok = true) (g : 500 < n) => show clL f l = [] ∧ clC l = 4 by
    have : clC l = 4 := by unfold clC; rw [h, if_pos rfl, if_pos (by omega)]
    exact ⟨by unfold clL; rw [this]; rfl, this⟩)
  have HGOOD := hid (fun (h : l.all Stp.ok = true) (g : ¬ 500 < n) => show clL f l = allCl f l n n ∧ clC l = 0 by
    have : clC l = 0 := by unfold clC; rw [h, if_pos rfl, if_neg (by omega)]
    exact ⟨by unfold clL; rw [this, if_pos rfl, hn], this⟩)
  obtain ⟨i0, hi, hz0, hz1, hz2⟩ := infoPP
  obtain ⟨j0, hj, hy0, hy1, hy2⟩ := infoT
  obtain ⟨cs, hcs⟩ : ∃ cs, cs = l.map f := ⟨_, rfl⟩
  have HCL := hid (show cs.length = n by rw [hcs, List.length_map, HN.out])
  have HCA := hid (fun j (h1 : j < cs.length) (h2 : j < l.length) => show cs[j] = f l[j] by subst hcs; simp)
  clear hr hn hf hcs
  go_enter Tryd.func23, Tryd.ntmps23
  go_wp2
  go_loopw [4, 5] (fun u t wr => ∃ k : Nat, k ≤ n ∧ t = .int .i64 (k : Int) ∧ Hid (OwnT wr w.heap.size u (cs.take k)) ∧ Hid (∀ j (hj : j < l.length), j < k → l[j].ok = true) ∧ Hid (Below w.heap.size w wr)) (fun _ t _ => n - (intOf t).toNat)
  case atStart => exact ⟨0, Nat.zero_le _, rfl, by rw [List.take_zero]; exact ownT_nil _ _, fun j _ h => absurd h (Nat.not_lt_zero j), Below.refl _ _⟩
  case round =>
    obtain ⟨k, hk, rfl, hO, hok, hB⟩ := hrel
    by_cases hlt : k < n
    · have hlt' : (k : Int) < n := by omega
      have hkl : k < l.length := by rw [← HN.out]; exact hlt
      have hkc : k < cs.length := by rw [HCL.out]; exact hlt
      obtain ⟨a', b', o', cap', hv, ha', _, hcell⟩ := HR.out _ hB.out
      injection hv with hv1 hv2 hv3
      subst hv1 hv3
      rcases ha' with h0 | rfl
      · rw [h0] at hkl; simp at hkl
      obtain ⟨c0, c1, c2, c3, c4⟩ := hcell k hkl
      have HST := hid (fun h => okU_step hkl h hok.out)
      have HBD := hid (fun h => okU_bad hkl h)
      have HCK := hid (HCA.out k hkc hkl)
      have HTK := hid (List.take_succ_eq_append_getElem hkc)
      have HLN := hid (show (cs.take k).length = k by rw [List.length_take]; omega)
      have HLT := hid hlt
      clear hcell hv2 hlt
      generalize cs[k]'hkc = c at *
      generalize l[k]'hkl = x at *
      cases hx : x.ok
      · have HE := hid (HBAD.out (HBD.out hx))
        have HC := hid (fun W => xprint_n x W hx)
        clear hx
        go_wp2_with fail
        refine (HC.out _).mono ?_
        rintro e w2 ⟨rfl, hb⟩
        have HB2 := hid (bstep hB.out hB.out.size hb)
        clear hb
        go_wp2_with fail
        go_ret2
        exact ⟨_, by rw [HE.out.2]; rfl, rowX_cast (rowX_nil _) HE.out.1.symm, HB2.out⟩
      · have HS := hid (HST.out hx)
        have HC := hid (fun W => xprint_f HF.out x W hx)
        rw [← HCK.out] at HC
        clear hx
        generalize cs.take k = L0 at *
        go_wp2_with fail
        refine (HC.out _).mono ?_
        rintro e w2 ⟨rfl, hb⟩
        have HB2 := hid (bstep hB.out hB.out.size hb)
        have HO2 := hid (hO.out.keep hb)
        clear hb c0 c1 c2 c3 c4
        go_wp2_with (at_builtin; refine wpList_append_own _ rfl _ _ 26 rfl w.heap.size 9 j0 (.string ⟨#[]⟩) 1 16 Tryd.underlying26 hj hy0 hy1 hy2 rfl (by decide) _ _ _ rfl (World.ownsRow.alloc HO2.out _) ⟨w2.heap.size, 0, none⟩ 1 1 [.string c] rfl rfl (cellJ rfl) oneT (by have := HLN.out; unfold maxLen; omega) (by have := HLN.out; omega) (by have := HB2.out.size; simp; omega) ?_; intro v1 w3 hown3 hgrow3 _; have HB3 := hid (belowT HB2.out HO2.out (Nat.le_refl _) hgrow3); have HR3 := hid (OwnT.app hown3); clear hown3 hgrow3)
        go_roundw
        case rel => exact ⟨k + 1, HLT.out, by go_num, by rw [HTK.out]; exact HR3, HS, HB3⟩
        case measure => have := HLT.out; simp [intOf]; omega
    · obtain rfl : k = n := by omega
      have HALL := hid (okU_end (l := l) fun j hj => hok.out j hj (by rw [HN.out]; exact hj))
      obtain ⟨ta, tc, hta⟩ := ownT_shape hO.out
      subst hta
      clear hok
      by_cases hg : 500 < k
      · have HE := hid (HBIG.out HALL.out hg)
        have hg2 : (500 : Int) < (k : Int) := by omega
        go_wp2_with fail
        go_ret2
        exact ⟨_, by rw [HE.out.2]; rfl, rowX_cast (rowX_nil _) HE.out.1.symm, hB.out⟩
      · have HE := hid (HGOOD.out HALL.out hg)
        have hg2 : ¬ (500 : Int) < (k : Int) := by omega
        have HHG := hid hg
        have HTL : cs.take k = cs := List.take_of_length_le (by rw [HCL.out]; exact Nat.le_refl _)
        rw [HTL] at hO ⊢
        clear hg hlt hk HTL
        rcases Nat.eq_zero_or_pos k with rfl | hpos
        · go_wp2_with fail
          refine wp_loop_rounds 1 ?_
          rw [rounds_succ]
          go_wp2_with fail
          go_ret2
          exact ⟨_, by rw [HE.out.2]; rfl, rowX_cast (rowX_nil _) HE.out.1.symm, hB.out⟩
        obtain ⟨G, cap2, hsl, hGB, hCO⟩ := ownT_codes hO.out (by rw [HCL.out]; exact hpos)
        injection hsl with e1 e2 e3
        subst e1 e3
        rw [HCL.out]
        have HWG := hid hGB
        have HCC := hid hCO
        obtain ⟨q, hqk⟩ : ∃ q, q = k := ⟨k, rfl⟩
        subst hqk
        clear hGB hCO e2
        go_wp2_with fail
        go_loopw [8, 9] (fun u t wr => ∃ a : Nat, a ≤ q ∧ t = .int .i64 (a : Int) ∧ Hid (OwnX wr (G + 1) 44 u (allCl f l q a)) ∧ Hid (Codes wr G cs) ∧ Hid (Below w.heap.size w wr)) (fun _ t _ => q - (intOf t).toNat)
        case atStart => exact ⟨0, Nat.zero_le _, rfl, ownX_nil _ _ _, HCC, hB⟩
        case round =>
          clear hB HCC hO
          obtain ⟨a, ha, rfl, hO, hC, hB⟩ := hrel
          by_cases hlta : a < q
          · have hlta' : (a : Int) < q := by omega
            have HLTA := hid hlta
            have hwa : IntKind.i64.wrap ((a : Int) + 1) = (a : Int) + 1 := IntWalk.i64_in _ ⟨by omega, by omega⟩
            clear hlta
            go_wp2_with fail
            go_loopw [8, 10] (fun u t wr => ∃ b : Nat, a + 1 ≤ b ∧ b ≤ q ∧ t = .int .i64 (b : Int) ∧ Hid (OwnX wr (G + 1) 44 u (allCl f l q a ++ rowCl f l a b)) ∧ Hid (Codes wr G cs) ∧ Hid (Below w.heap.size w wr)) (fun _ t _ => q - (intOf t).toNat)
            case atStart => exact ⟨a + 1, Nat.le_refl _, HLTA.out, by go_num, by rw [rowCl_zero _ _ _ _ (Nat.le_refl _), List.append_nil]; exact hO, hC, hB⟩
            case round =>
              clear hB hC hO
              obtain ⟨b, hab, hbq, rfl, hO, hC, hB⟩ := hrel
              obtain ⟨oa, oc, rfl⟩ := ownX_shape hO.out
              have HLN := hid (cl_len f l (n := q) (a := a) (b := b) (by have := HHG.out; omega) ha hbq)
              by_cases hltb : b < q
              · have hltb' : (b : Int) < q := by omega
                have hal : a < l.length := by rw [← HN.out]; exact HLTA.out
                have hbl : b < l.length := by rw [← HN.out]; exact hltb
                have hac : a < cs.length := by rw [HCL.out]; exact HLTA.out
                have hbc : b < cs.length := by rw [HCL.out]; exact hltb
                have k0 := hC.out.2 a hac
                have k1 := hC.out.2 b hbc
                rw [HCA.out a hac hal] at k0
                rw [HCA.out b hbc hbl] at k1
                obtain ⟨a', b', o', cap', hv, ha', _, hcell⟩ := HR.out _ hB.out
                injection hv with hv1 hv2 hv3
                subst hv1 hv3
                rcases ha' with h0 | rfl
                · rw [h0] at hal; simp at hal
                obtain ⟨c0, c1, c2, c3, c4⟩ := hcell a hal
                obtain ⟨d0, d1, d2, d3, d4⟩ := hcell b hbl
                have HCB := hid (clB_at (f := f) hal hbl)
                have HYES := hid (fun g => rowCl_yes (f := f) (l := l) (a := a) (b := b) (by omega) g)
                have HNO := hid (fun g => rowCl_no (f := f) (l := l) (a := a) (b := b) g)
                have HLTB := hid hltb
                have HAB := hid hab
                clear hcell hv2 hltb hac hbc
                generalize l[a]'hal = x at *
                generalize l[b]'hbl = y at *
                have hq5 := fun W => eq5 x.pl x.pr x.ln y.pl y.pr y.ln x.dy x.pe y.dy y.pe W
                have hsz : (x.pl.toList == y.pl.toList && (x.pr.toList == y.pr.toList && (x.ln.toList == y.ln.toList && (x.dy == y.dy && x.pe == y.pe)))) = sameZ x y := rfl
                rw [hsz] at hq5
                generalize f x = cx at *
                generalize f y = cy at *
                clear hal hbl hsz
                obtain ⟨L, hL⟩ : ∃ L, allCl f l q a ++ rowCl f l a b = L := ⟨_, rfl⟩
                have HLQ := hid hL
                rw [hL] at hO HLN ⊢
                clear hL
                by_cases hce : cx.toList = cy.toList
                · have hcb : (cx.toList == cy.toList) = true := by simpa using hce
                  rw [hcb, Bool.true_and] at HCB
                  cases hs : sameZ x y
                  · rw [hs] at HCB
                    have HEE := hid (HYES.out HCB.out)
                    rw [hs] at hq5
                    clear HYES HNO hce hs
                    go_wp2_with fail
                    go_quiet (fail)
                    have HB2 := hid (bdrewN (n := nq) hB.out)
                    have HC2 := hid (hC.out.keep (bdrewN (n := nq) (Below.refl wr.heap.size wr)))
                    have HO2 := hid (hO.out.keep (bdrewN (n := nq) (Below.refl wr.heap.size wr)))
                    generalize World.drewN wr nq = wd at *
                    have hGd := HC2.out.1
                    clear k0 k1 c0 c1 c2 c3 c4 d0 d1 d2 d3 d4 hq5 hcb HCB
                    go_wp2_with (at_builtin; refine wpList_append_own _ rfl _ _ 41 rfl (G + 1) 44 i0 (.agg #[.int .i64 0, .int .i64 0]) 2 16 Tryd.underlying41 hi hz0 hz1 hz2 rfl (by decide) _ _ _ rfl (World.ownsRow.alloc HO2.out _) ⟨wd.heap.size, 0, none⟩ 1 1 [.int .i64 (a : Int), .int .i64 (b : Int)] rfl rfl (cell_two_new rfl) two_cell1 (by have := HLN.out; unfold maxLen; omega) (by have := HLN.out; omega) (by simp; omega) ?_; intro v1 w6 hown6 hgrow6 _)
                    have HC6 := hid (HC2.out.grown HO2.out hgrow6)
                    have HB6 := hid (below_prs HB2.out HO2.out (by have := HWG.out; omega) hgrow6)
                    have HR6 := hid (OwnX.app (d := ⟨(a : Int), (b : Int)⟩) hown6)
                    clear hown6 hgrow6
                    go_roundw
                    case rel => exact ⟨b + 1, by have := HAB.out; omega, HLTB.out, by go_num, by rw [HEE.out, ← List.append_assoc, HLQ.out]; exact HR6, HC6, HB6⟩
                    case measure => have := HLTB.out; simp [intOf]; omega
                  · rw [hs] at HCB
                    have HEE := hid (HNO.out HCB.out)
                    rw [hs] at hq5
                    clear HYES HNO hce hs
                    go_wp2_with fail
                    go_quiet (fail)
                    have HB2 := hid (bdrewN (n := nq) hB.out)
                    have HC2 := hid (hC.out.keep (bdrewN (n := nq) (Below.refl wr.heap.size wr)))
                    have HO2 := hid (hO.out.keep (bdrewN (n := nq) (Below.refl wr.heap.size wr)))
                    clear k0 k1 c0 c1 c2 c3 c4 d0 d1 d2 d3 d4 hq5 hcb HCB
                    go_wp2_with fail
                    go_roundw
                    case rel => exact ⟨b + 1, by have := HAB.out; omega, HLTB.out, by go_num, by rw [HEE.out, HLQ.out]; exact HO2, HC2, HB2⟩
                    case measure => have := HLTB.out; simp [intOf]; omega
                · have hcb : (cx.toList == cy.toList) = false := by simpa using hce
                  rw [hcb, Bool.false_and] at HCB
                  have HEE := hid (HNO.out HCB.out)
                  clear HYES HNO hce
                  go_wp2_with fail
                  go_quiet (fail)
                  have HB2 := hid (bdrewN (n := nq) hB.out)
                  have HC2 := hid (hC.out.keep (bdrewN (n := nq) (Below.refl wr.heap.size wr)))
                  have HO2 := hid (hO.out.keep (bdrewN (n := nq) (Below.refl wr.heap.size wr)))
                  clear k0 k1 c0 c1 c2 c3 c4 d0 d1 d2 d3 d4 hq5 hcb HCB
                  go_wp2_with fail
                  go_roundw
                  case rel => exact ⟨b + 1, by have := HAB.out; omega, HLTB.out, by go_num, by rw [HEE.out, HLQ.out]; exact HO2, HC2, HB2⟩
                  case measure => have := HLTB.out; simp [intOf]; omega
              · obtain rfl : b = q := by omega
                have HQ2 := hid (show allCl f l b (a + 1) = allCl f l b a ++ rowCl f l a b from rfl)
                clear hltb
                go_wp2_with fail
                go_roundw
                case rel => exact ⟨a + 1, HLTA.out, by go_num, by rw [HQ2.out]; exact hO, hC, hB⟩
                case measure => have := HLTA.out; simp [intOf]; omega
          · obtain rfl : a = q := by omega
            obtain ⟨oa, oc, rfl⟩ := ownX_shape hO.out
            go_wp2_with fail
            go_ret2
            exact ⟨_, by rw [HE.out.2]; rfl, rowX_cast hO.out.row HE.out.1.symm, hB.out⟩
end Go.Proofs.YtmhkgpcnefcjaaaDoor
