/- Misread signs: walk of Beside over a text that is not sound: contract. -/
import Derived.Test.YtlnfebginkmbhaaDoorMd
namespace Go.Proofs.YtlnfebginkmbhaaDoor
open Go.RowKit

theorem Vb.cellsL {w W : World} {B : Nat} {l : List Int} {a b c d e f g h' i : Int} (H : Vb w W B l) (e0 : cvs l = #[.int .i64 a, .int .i64 b, .int .i64 c, .int .i64 d, .int .i64 e, .int .i64 f, .int .i64 g, .int .i64 h', .int .i64 i]) : W.cell? ⟨B, 0, none⟩ = some (.int .i64 a) ∧ W.cell? ⟨B, 1, none⟩ = some (.int .i64 b) ∧ W.cell? ⟨B, 2, none⟩ = some (.int .i64 c) ∧ W.cell? ⟨B, 3, none⟩ = some (.int .i64 d) ∧ W.cell? ⟨B, 4, none⟩ = some (.int .i64 e) ∧ W.cell? ⟨B, 5, none⟩ = some (.int .i64 f) ∧ W.cell? ⟨B, 6, none⟩ = some (.int .i64 g) ∧ W.cell? ⟨B, 7, none⟩ = some (.int .i64 h') ∧ W.cell? ⟨B, 8, none⟩ = some (.int .i64 i) := by
  have h := H.cell
  rw [e0] at h
  exact ⟨h 0, h 1, h 2, h 3, h 4, h 5, h 6, h 7, h 8⟩
theorem ne9 {l m : List Int} (hl : l.length = 9) (hm : m.length = 9) (hne : l ≠ m) (w : World) : (Op.equalIn 10000 59 (.agg (cvs l)) (.agg (cvs m))).run Tryd.prog w = .ok false w := by
  obtain ⟨a, b, c, d, e, f, g, h, i, rfl⟩ := nine_list hl
  obtain ⟨a', b', c', d', e', f', g', h', i', rfl⟩ := nine_list hm
  unfold cvs
  simp only [List.map_cons, List.map_nil]
  rw [eq9]
  have : (a == a' && (b == b' && (c == c' && (d == d' && (e == e' && (f == f' && (g == g' && (h == h' && i == i')))))))) = false := by
    rw [Bool.eq_false_iff]
    intro h0
    simp only [Bool.and_eq_true, beq_iff_eq] at h0
    obtain ⟨h1, h2, h3, h4, h5, h6, h7, h8, h9⟩ := h0
    subst h1 h2 h3 h4 h5 h6 h7 h8 h9
    exact hne rfl
  rw [this]
set_option maxRecDepth 100000 in
set_option maxHeartbeats 4000000 in
theorem cbeside_any (t : ByteArray) (l : List Int) (w : World) (h : nineB t = true) (hv : vals t = l) (hs : soundB l = false) (hw : Wts w) :
    Calls Tryd.prog 37 #[.string t] w fun e w' => ∃ (g cap : Nat) (ss : List (List UInt8)), e = .returned (.tuple #[.slice (some ⟨g, 0, none⟩) 9 cap, .int .i64 0]) ∧ ss.length = 9 ∧ (∀ x, x ∈ ss ↔ x ∈ nearL l 9) ∧ Hid (Go.Sort.Holds encStr w' g 0 ss.toArray) ∧ Below w.heap.size w w' := by
  have HW := hid hw
  have H9 := hid (vals_is9 h)
  rw [hv] at H9
  have HV := hid hv
  have HN := hid h
  have HS := hid hs
  obtain ⟨i0, hi, hz0, hz1, hz2⟩ := info_split infoStr
  clear h hw hs hv
  go_enter Tryd.func37, Tryd.ntmps37
  go_wp2_with fail
  refine (values_ok t _ HN.out).mono ?_
  rintro e w1 ⟨rfl, hb⟩
  rw [HV.out]
  have HB1 := hid hb
  clear hb
  have HX0 := vb_new w1 l
  have HX := hid (Vb.mk HX0.row (Nat.le_trans HB1.out.size HX0.new) (bstep HB1.out HB1.out.size HX0.low) : Vb w _ w1.heap.size l)
  clear HX0
  obtain ⟨a, b, c, d, e, f, g, h', i, hl⟩ := nine_list H9.out.1
  have hcv : cvs l = #[.int .i64 a, .int .i64 b, .int .i64 c, .int .i64 d, .int .i64 e, .int .i64 f, .int .i64 g, .int .i64 h', .int .i64 i] := by rw [hl]; rfl
  have HCV := hid hcv
  rw [hcv] at HX
  rw [hcv]
  clear hl hcv
  go_wp2_with fail
  generalize World.alloc w1 _ = W1 at *
  generalize w1.heap.size = B at *
  have hlt0 := vb_lt HX.out
  have HO : Hid (OwnS W1 (B + 1) (.slice none 0 0) (nearL l 0)) := World.ownsRow_nil _ _ _ _
  have hge := HX.out.new
  clear hlt0
  go_loopw [6, 16] (fun v t wr => ∃ k : Nat, k ≤ 9 ∧ t = .int .i64 (k : Int) ∧ Hid (OwnS wr (B + 1) v (nearL l k)) ∧ Hid (Vb w wr B l)) (fun _ t _ => 9 - (intOf t).toNat)
  case atStart => exact ⟨0, by omega, rfl, HO, HX⟩
  case round =>
    clear HO HX
    obtain ⟨k, hk, rfl, HO, HX⟩ := hrel
    by_cases hlt : k < 9
    · have hlt' : (k : Int) < 9 := by omega
      have HLT := hid hlt
      have HR := hid (mended_any l k wr H9.out hlt (HW.out.keep HX.out.low))
      rw [HCV.out] at HR
      obtain ⟨b0, b1, b2, b3, b4, b5, b6, b7, b8⟩ := HX.out.cellsL HCV.out
      clear hlt
      go_wp2_with fail
      refine HR.out.mono ?_
      rintro e3 w2 ⟨rfl, hb⟩
      have HM9 := hid (mend_is9 H9.out HLT.out)
      have HNE := hid (mend_ne H9.out HS.out HLT.out)
      obtain ⟨m, hm⟩ : ∃ m, m = mend l k := ⟨_, rfl⟩
      rw [← hm] at HM9 HNE ⊢
      have HM := hid hm
      have hq := ne9 HM9.out.1 H9.out.1 HNE.out
      have HX2 := hid ((HX.out.keep hb).keep ((Below.refl w2.heap.size w2).alloc (Nat.le_refl _) (.cells (cvs m) 59)))
      have HO2 := hid ((HO.out.keep hb).keep ((Below.refl w2.heap.size w2).alloc (Nat.le_refl _) (.cells (cvs m) 59)))
      have HT := hid (ctext_any m (w2.alloc (.cells (cvs m) 59)) HM9.out.1)
      clear b0 b1 b2 b3 b4 b5 b6 b7 b8 hb hm HR HO
      obtain ⟨b0, b1, b2, b3, b4, b5, b6, b7, b8⟩ := HX2.out.cellsL HCV.out
      obtain ⟨a2, b2', c2, d2, e2, f2, g2, h2, i2, hl2⟩ := nine_list HM9.out.1
      have hcm : cvs m = #[.int .i64 a2, .int .i64 b2', .int .i64 c2, .int .i64 d2, .int .i64 e2, .int .i64 f2, .int .i64 g2, .int .i64 h2, .int .i64 i2] := by rw [hl2]; rfl
      rw [hcm, HCV.out] at hq
      rw [hcm] at HX2 HO2 HT b0 b1 b2 b3 b4 b5 b6 b7 b8 ⊢
      clear hl2 hcm
      go_wp2_with fail
      refine HT.out.mono ?_
      rintro e4 w4 ⟨rfl, hb4⟩
      have HX3 := hid (HX2.out.keep hb4)
      have HO3 := hid (HO2.out.keep hb4)
      have hz4 := vb_lt HX3.out
      have hnl := nearL_len l k
      clear hb4 b0 b1 b2 b3 b4 b5 b6 b7 b8 hq HX2 HO2 HT
      go_wp2_with (at_builtin; refine wpList_append_own _ rfl _ _ 49 rfl (B + 1) 9 i0 (.string ⟨#[]⟩) 1 16 Tryd.underlying49 hi hz0 hz1 hz2 rfl (by decide) _ _ _ rfl (World.ownsRow.alloc HO3.out _) ⟨w4.heap.size, 0, none⟩ 1 1 [encStr (m.map sgn)] rfl rfl (cell_str rfl) one_str (by have := HLT.out; unfold maxLen; omega) (by have := HLT.out; omega) (by simp; omega) ?_; intro v1 w5 hown5 hgrow5 _)
      have HO5 : Hid (OwnS w5 (B + 1) v1 (nearL l (k + 1))) := by rw [nearL_succ, ← HM.out]; exact OwnS.app hown5
      have HX5 := hid (HX3.out.app HO3.out hgrow5)
      clear hown5 hgrow5
      go_roundw
      case rel => exact ⟨k + 1, HLT.out, by go_num, HO5, HX5⟩
      case measure => have := HLT.out; simp [intOf]; omega
    · obtain rfl : k = 9 := by omega
      have hnl := nearL_len l 9
      obtain ⟨g0, cap, rfl, hg1, hg2, hH⟩ := HO.out.some (by omega)
      have HR := hid (sortS_any g0 0 cap (nearL l 9) wr hH hg2 (by omega))
      have HG1 := hid hg1
      have HG2 := hid hg2
      have HH := hid hH
      clear hg1 hg2 hH hlt
      go_wp2_with fail
      refine HR.out.mono ?_
      rintro e5 w5 ⟨rfl, n, os, rfl⟩
      go_wp2_with fail
      go_ret2
      have e9 : ((nearL l 9).mergeSort fun x y => decide (x ≤ y)).length = (nearL l 9).length := List.length_mergeSort _
      refine ⟨g0, cap, (nearL l 9).mergeSort fun x y => decide (x ≤ y), rfl, by rw [e9, hnl], fun x => List.mem_mergeSort, holds_sorted HH.out e9 HG2.out, below_sorted HX.out.low (by have := HG1.out; omega)⟩
end Go.Proofs.YtlnfebginkmbhaaDoor
