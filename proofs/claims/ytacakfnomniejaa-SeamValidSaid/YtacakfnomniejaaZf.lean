/- Walk of Heads of the code: contract. -/
import Derived.Test.YtacakfnomniejaaZe
namespace Go.Proofs.Ytacakfnomniejaa
open Go.RowKit Go.Maps

theorem shs_heads {l : List Sh} (h : shsB l = true) : ∀ k (hk : k < l.length), 1 ≤ l[k].hd ∧ l[k].hd ≤ 12 := by
  intro k hk
  unfold shsB at h
  simp only [Bool.and_eq_true, decide_eq_true_iff] at h
  have h1 := allB_iff.1 h.2 k hk
  unfold oneS at h1
  simp only [Bool.and_eq_true] at h1
  have e : l.getD k shD = l[k] := by simp [List.getD, hk]
  rw [e] at h1
  have h2 := h1.1
  unfold shB at h2
  simp only [Bool.and_eq_true, inB_iff] at h2
  omega
set_option maxRecDepth 20000 in
set_option maxHeartbeats 8000000 in
theorem kheads_any (v : Value) (l : List Sh) (w : World) (hr : RowH w v l) : Calls Try.prog 17 #[v] w (HdsP l w) := by
  obtain ⟨i0, hi, hz0, hz1, hz2⟩ := infoJ
  have HR := hid (fun w1 (g : Below w.heap.size w w1) => hr.keep g)
  have hm := hr.most
  unfold maxLen at hm
  clear hr
  cases hs : shsB l
  · have HE := hid (show hdsB l = [] by unfold hdsB; rw [hs]; rfl)
    have HC := hid (ksheets_any v l w (HR.out _ (Below.refl _ _)))
    rw [hs] at HC
    clear hs
    go_enter Try.func17, Try.ntmps17
    go_wp2_with fail
    refine HC.out.mono ?_
    rintro e w2 ⟨rfl, hb⟩
    have HB := hid hb
    clear hb
    go_wp2_with fail
    go_ret
    exact ⟨_, rfl, by rw [HE.out]; exact ownJ_nil _ _, HB.out⟩
  have HE := hid (show hdsB l = hdsN l 12 by unfold hdsB; rw [hs]; rfl)
  have HL5 : l.length ≤ 500 := by
    unfold shsB at hs
    simp only [Bool.and_eq_true, decide_eq_true_iff] at hs
    exact hs.1
  have HHD := hid (shs_heads hs)
  have HC := hid (ksheets_any v l w (HR.out _ (Below.refl _ _)))
  rw [hs] at HC
  clear hs
  obtain ⟨va, vc, rfl⟩ := (HR.out _ (Below.refl _ _)).shape
  obtain ⟨n, hn⟩ : ∃ n, n = l.length := ⟨_, rfl⟩
  have HN := hid hn
  rw [← hn] at hm HR HC HL5 ⊢
  clear hn
  have hmm := @run_makeMap Try.prog
  go_enter Try.func17, Try.ntmps17
  go_wp2_with fail
  refine HC.out.mono ?_
  rintro e w1 ⟨rfl, hb⟩
  have HB1 := hid hb
  have HM0 := hid (mapB_new w1)
  have HB2 := hid (hb.alloc hb.size (.map #[] 0))
  obtain ⟨b, hbb⟩ : ∃ b, b = w1.heap.size := ⟨_, rfl⟩
  have HBB := hid hbb
  have HWb : Hid (w.heap.size ≤ b) := by rw [hbb]; exact HB1.out.size
  have HU := hid (upto_any 12 (w1.alloc (.map #[] 0)) (Nat.le_refl _))
  have HMS : Hid ((w1.alloc (.map #[] 0)).heap.size = b + 1) := by show _ = _; rw [hbb]; simp
  clear hb HC
  go_wp2_with fail
  refine HU.out.mono ?_
  rintro e w3 ⟨u, rfl, hu, hb⟩
  have HB3 := hid (bstep HB2.out HB2.out.size hb)
  have HM3 := hid (HM0.out.keep hb)
  have HU3 : Hid (OwnJ w3 (b + 1) u (upL 12)) := by rw [HMS.out] at hu; exact hu
  obtain ⟨ua, uc, rfl⟩ := ownJ_shape hu
  clear hu hb HU HM0
  rw [← hbb] at HM3 ⊢
  rw [upL_len] at HU3 ⊢
  clear hbb
  go_wp2
  go_loopw [17] (fun t wr => ∃ k : Nat, k ≤ 12 ∧ t = .int .i64 (k : Int) ∧ Hid (MapB wr b k (fillF k)) ∧ Hid (OwnJ wr (b + 1) (.slice ua 12 uc) (upL 12)) ∧ Hid (Below w.heap.size w wr)) (fun t _ => 12 - (intOf t).toNat)
  case atStart => exact ⟨0, by omega, rfl, (by obtain ⟨D, h1, h2⟩ := HM3.out; exact ⟨D, h1, fun h => by rw [h2 h, fill_zero]⟩), HU3, HB3⟩
  case round =>
    obtain ⟨k, hk, rfl, hM, hU, hB⟩ := hrel
    by_cases hlt : k < 12
    · have hlt' : (k : Int) < 12 := by omega
      obtain ⟨g, o, hva, c0⟩ := rowI_get (k := k) hU.out.rowI (by rw [upL_len]) (by rw [upL_len]; exact hlt)
      subst hva
      rw [upL_at] at c0
      obtain ⟨D, hown, hat⟩ := hM.out
      have HK := hid (key_intB (t := (k : Int) + 1) (by omega) (by omega))
      have HOW := hid hown
      have HAT := hid hat
      have HLT := hid hlt
      clear hlt hown hat
      go_wp2_with (at_mapUpdate; refine wpList_mapUpdate_own _ rfl _ _ _ 63 rfl 3 4 law_intB Try.underlying63 _ b k D rfl HOW.out (by have := HLT.out; unfold maxLen; omega) _ _ _ rfl rfl HK.out _ [] (plainElem_bool Try.underlying4 true) ?_; intro w4 hown4 hgrow4; have HM4 := hid (mapB_put (g := fillF (k + 1)) HOW.out HAT.out hown4 (fill_next k)); have HU4 := hid (OwnJ.turn hU.out hgrow4 (Nat.lt_succ_self _)); have HB4 := hid (hB.out.grown hgrow4 hB.out.size (fun j e => by cases e; exact HWb.out)); clear hown4 hgrow4)
      go_roundw
      case rel => exact ⟨k + 1, HLT.out, by go_num, HM4, HU4, HB4⟩
      case measure => have := HLT.out; simp [intOf]; omega
    · obtain rfl : k = 12 := by omega
      have HM5 : Hid (MapB wr b 12 (leftF l 0)) := by
        obtain ⟨D, h1, h2⟩ := hM.out
        exact ⟨D, h1, fun h => by rw [h2 h, left_zero]⟩
      clear hM hU HU3 HM3 hlt hk
      go_wp2
      go_loopw [26] (fun t wr => ∃ k : Nat, k ≤ n ∧ t = .int .i64 (k : Int) ∧ Hid (MapB wr b 12 (leftF l k)) ∧ Hid (Below w.heap.size w wr)) (fun t _ => n - (intOf t).toNat)
      case atStart => exact ⟨0, Nat.zero_le _, rfl, HM5, hB⟩
      case round =>
        clear HM5 hB
        obtain ⟨k, hk, rfl, hM, hB⟩ := hrel
        by_cases hlt : k < n
        · have hlt' : (k : Int) < n := by omega
          have hkl : k < l.length := by rw [← HN.out]; exact hlt
          obtain ⟨b2, o, hva, hcell⟩ := (HR.out _ hB.out).get (by omega)
          subst hva
          have HNX := hid (left_next hkl)
          obtain ⟨c0, c1, c2, c3, c4, c5, c6, c7, c8, c9⟩ := hcell k hkl
          obtain ⟨g1, g2⟩ := HHD.out k hkl
          generalize l[k] = x at *
          obtain ⟨D, hown, hat⟩ := hM.out
          have HK := hid (key_intB (t := x.hd) (by omega) (by omega))
          have HOW := hid (hown.alloc (.cells #[.int .i64 x.tk, .int .i64 x.hd, .int .i64 x.bh, .int .i64 x.ch, .int .i64 x.ht, .int .i64 x.ep, .int .i64 x.bp, .int .i64 x.wr, .int .i64 x.th, .int .i64 x.cs] 28))
          have HAT := hid hat
          have HLT := hid hlt
          have HB1 := hid (hB.out.alloc hB.out.size (.cells #[.int .i64 x.tk, .int .i64 x.hd, .int .i64 x.bh, .int .i64 x.ch, .int .i64 x.ht, .int .i64 x.ep, .int .i64 x.bp, .int .i64 x.wr, .int .i64 x.th, .int .i64 x.cs] 28))
          clear hlt hown hat hkl g1 g2 hcell
          go_wp2_with (at_delete; refine wpList_delete_own _ rfl _ _ 63 3 rfl 4 law_intB Try.underlying63 _ b 12 D rfl HOW.out _ _ rfl HK.out ?_; intro w4 hown4 hturn4; have HM4 := hid (mapB_del (g := leftF l (k + 1)) HAT.out hown4 HNX.out hturn4.grown.size); have HB4 := hid (HB1.out.grown hturn4.grown HB1.out.size (fun j e => by cases e; exact HWb.out)); clear hown4 hturn4)
          go_roundw
          case rel =>
            (repeat apply Exists.intro)
            refine ⟨?_, rfl⟩
            exact ⟨k + 1, HLT.out, by go_num, HM4, HB4⟩
          case measure => have := HLT.out; simp [intOf]; omega
        · obtain rfl : k = n := by omega
          have HMF : Hid (MapB wr b 12 (leftF l l.length)) := by rw [HN.out] at hM; exact hM
          have HU := hid (upto_any 12 wr (Nat.le_refl _))
          clear hM hlt hk
          go_wp2_with fail
          refine HU.out.mono ?_
          rintro e w6 ⟨u, rfl, hu, hb⟩
          have HB6 := hid (bstep hB.out hB.out.size hb)
          have HM6 := hid (HMF.out.keep hb)
          obtain ⟨ub, uc2, rfl⟩ := ownJ_shape hu
          have HU6 := hid (fun W (g : Below w6.heap.size w6 W) => hu.keep g)
          clear hu hb HU HMF
          rw [upL_len] at HU6 ⊢
          go_wp2
          go_loopw [8, 36] (fun a t wr => ∃ k : Nat, k ≤ 12 ∧ t = .int .i64 (k : Int) ∧ Hid (OwnJ wr w6.heap.size a (hdsN l k)) ∧ Hid (Below w6.heap.size w6 wr)) (fun _ t _ => 12 - (intOf t).toNat)
          case atStart => exact ⟨0, by omega, rfl, ownJ_nil _ _, Below.refl _ _⟩
          case round =>
            obtain ⟨q, hq, rfl, hO, hW⟩ := hrel
            obtain ⟨oa, oc, rfl⟩ := ownJ_shape hO.out
            have HLN := hid (hdsN_len l q)
            by_cases hlt : q < 12
            · have hlt' : (q : Int) < 12 := by omega
              obtain ⟨g, o, hva, c0⟩ := rowI_get (k := q) (HU6.out _ hW.out).rowI (by rw [upL_len]) (by rw [upL_len]; exact hlt)
              subst hva
              rw [upL_at] at c0
              obtain ⟨D, hown, hat⟩ := HM6.out.keep hW.out
              have HK := hid (key_intB (t := (q : Int) + 1) (by omega) (by omega))
              have HOW := hid hown
              have HAT := hid (hat ((q : Int) + 1))
              have HLE := hid (left_end (l := l) hlt)
              have HY := hid (fun h => hdsN_yes (l := l) (n := q) h)
              have HNO := hid (fun h => hdsN_no (l := l) (n := q) h)
              have HLT := hid hlt
              clear hlt hown hat
              cases hh : hasH l ((q : Int) + 1)
              · have HEE := hid (HNO.out hh)
                have HH := hid hh
                clear hh
                go_wp2_with (at_lookup; refine wpList_lookup_own_bool _ rfl _ _ 63 rfl 3 4 law_intB Try.underlying63 Try.underlying4 (zero_boolB _) b 12 D rfl HOW.out _ _ rfl HK.out ?_; intro c hat; obtain rfl : c = true := (by have h := hat.symm.trans HAT.out; rw [HLE.out, HH.out] at h; simpa using h); clear hat)
                go_roundw
                case rel => exact ⟨q + 1, HLT.out, by go_num, by rw [HEE.out]; exact hO, hW⟩
                case measure => have := HLT.out; simp [intOf]; omega
              · have HEE := hid (HY.out hh)
                have HH := hid hh
                have HOR := hid (show World.ownsRow _ _ _ _ _ _ _ from hO.out)
                generalize hdsN l q = lo at *
                clear hh
                go_wp2_with (first
                  | (at_lookup; refine wpList_lookup_own_bool _ rfl _ _ 63 rfl 3 4 law_intB Try.underlying63 Try.underlying4 (zero_boolB _) b 12 D rfl HOW.out _ _ rfl HK.out ?_; intro c hat; obtain rfl : c = false := (by have h := hat.symm.trans HAT.out; rw [HLE.out, HH.out] at h; simpa using h); clear hat)
                  | (at_builtin; refine wpList_append_own _ rfl _ _ 32 rfl w6.heap.size 3 i0 (.int .i64 0) 1 8 Try.underlying32 hi hz0 hz1 hz2 rfl (by decide) _ _ _ rfl (World.ownsRow.alloc HOR.out _) ⟨wr.heap.size, 0, none⟩ 1 1 [.int .i64 ((q : Int) + 1)] rfl rfl (cellJ rfl) oneJ (by have := HLN.out; have := HLT.out; unfold maxLen; omega) (by have := HLN.out; have := HLT.out; omega) (by have := hW.out.size; simp; omega) ?_; intro v1 w7 hown7 hgrow7 _; have HB7 := hid (belowJ hW.out (show OwnJ _ _ _ lo from HOR.out) (Nat.le_refl _) hgrow7); have HR7 := hid (OwnJ.app (l := lo) hown7); clear hown7 hgrow7))
                go_roundw
                case rel => exact ⟨q + 1, HLT.out, by go_num, by rw [HEE.out]; exact HR7, HB7⟩
                case measure => have := HLT.out; simp [intOf]; omega
            · obtain rfl : q = 12 := by omega
              go_wp2
              go_ret
              exact ⟨_, rfl, by rw [HE.out]; exact OwnJ.low hO.out HB6.out.size, bstep HB6.out HB6.out.size hW.out⟩
end Go.Proofs.Ytacakfnomniejaa
