/- Walks of Suspect and Held of the reference: contracts. -/
import Derived.Test.YtjfakhfkbnnbcaaJf
import Derived.Test.YtjfakhfkbnnbcaaP6
import Derived.Test.YtjfakhfkbnnbcaaIm
namespace Go.Proofs.Ytjfakhfkbnnbcaa
open Go.RowKit Go.Shelf

theorem Box1.grow {w W w2 : World} {A : Array Value} {row : Option Nat} (h : Box1 w W A) (hb : Below w.heap.size w w2) (hs : w.heap.size < w2.heap.size) (hg : W.grownBy w2 row) (hne : row ≠ some w.heap.size) (h0 : 0 < A.size) : Box1 w w2 A :=
  ⟨fun i => by
    have hc : W.cell? ⟨w.heap.size, 0, none⟩ = A[0]? := h.fst 0
    rw [Array.getElem?_eq_getElem h0] at hc
    rw [World.cell?_of_block (a := ⟨w.heap.size, i, none⟩) (hg.block w.heap.size (World.block_lt_of_cell? W ⟨w.heap.size, 0, none⟩ hc) (fun e => hne e.symm))]
    exact h.fst i, hs, hb⟩
theorem allT_one {f : Ck × Ck → Pr} {b E : Int} {l : List Ck} {h : Int} : allT f b E l [h] = tellL f b E (prL h l) := by simp [allT]
theorem bd_len {n : Nm} {l : List Sh} {h b E : Int} (hl : l.length ≤ 200) : (bdO (ofH h (cksL (goodB n) l)) b E ((ofH h (cksL (goodB n) l)).length + 1)).length ≤ 201 := by
  have h1 := bdO_len (ofH h (cksL (goodB n) l)) b E ((ofH h (cksL (goodB n) l)).length + 1)
  have h2 := ofH_len h (cksL (goodB n) l)
  rw [cksL_len] at h2
  omega
set_option maxRecDepth 20000 in
set_option maxHeartbeats 8000000 in
theorem xsuspect_any (n : Nm) (v : Value) (l : List Sh) (hd b E : Int) (w : World) (hr : RowH w v l) (hl : l.length ≤ 200) : Calls Try.prog 11 #[.agg #[.int .i64 n.bl, .int .i64 n.bh, .int .i64 n.cl, .int .i64 n.ch, .int .i64 n.pc, .int .i64 n.wr, .int .i64 n.tl, .int .i64 n.th, .int .i64 n.sl, .int .i64 n.sh], v, .int .i64 hd, .int .i64 b, .int .i64 E] w (HdP (allT hdF b E (cksL (goodB n) l) [hd]) (hdC n l hd b E) 8000 w) := by
  have HB0 := hid ((Below.refl w.heap.size w).alloc (Nat.le_refl _) (.cells #[.int .i64 n.bl, .int .i64 n.bh, .int .i64 n.cl, .int .i64 n.ch, .int .i64 n.pc, .int .i64 n.wr, .int .i64 n.tl, .int .i64 n.th, .int .i64 n.sl, .int .i64 n.sh] 23))
  have HBX := hid (box1_start (w := w) (A := #[.int .i64 n.bl, .int .i64 n.bh, .int .i64 n.cl, .int .i64 n.ch, .int .i64 n.pc, .int .i64 n.wr, .int .i64 n.tl, .int .i64 n.th, .int .i64 n.sl, .int .i64 n.sh]) (T := 23) (fz := (0, 0)))
  obtain ⟨A, hA⟩ : ∃ A, nmB n = A := ⟨_, rfl⟩
  obtain ⟨B, hB⟩ : ∃ B, shsB l = B := ⟨_, rfl⟩
  obtain ⟨C, hC⟩ : ∃ C, rangesB hd b E = C := ⟨_, rfl⟩
  have HNM := hid hA
  have HV := hid (show hdC n l hd b E = if A && B then (if C then 0 else 7) else 1 by rw [← hA, ← hB, ← hC]; rfl)
  have HR := hid (fun w1 (g : Below w.heap.size w w1) => hr.keep g)
  have HCS := hid (fun w1 (g : Below w.heap.size w w1) => kxsheets_any v l w1 (hr.keep g))
  have HCG := hid (fun w1 => ranges_any hd b E w1)
  rw [hB] at HCS
  rw [hC] at HCG
  rw [HV.out]
  clear hr
  cases A
  · clear hA hB hC
    go_enter Try.func11, Try.ntmps11
    go_wp2_with fail
    refine (kxnorm_any n _).mono ?_
    rintro e w1 ⟨rfl, hb⟩
    rw [HNM.out]
    have HB1 := hid (bstep HB0.out HB0.out.size hb)
    have HX1 := hid (HBX.out.keep hb)
    clear hb
    go_wp2_with fail
    refine bodyPost_ret (v := .tuple #[.slice none 0 0, .int .i64 1]) (by simp [results, Try.results11, go_sem]) rfl ?_
    exact hd_no (by decide) HB1.out
  cases B
  · clear hA hB hC
    go_enter Try.func11, Try.ntmps11
    go_wp2_with fail
    refine (kxnorm_any n _).mono ?_
    rintro e w1 ⟨rfl, hb⟩
    rw [HNM.out]
    have HB1 := hid (bstep HB0.out HB0.out.size hb)
    have HX1 := hid (HBX.out.keep hb)
    clear hb
    go_wp2_with fail
    refine (HCS.out _ HB1.out).mono ?_
    rintro e w2 ⟨rfl, hb⟩
    have HB2 := hid (bstep HB1.out HB1.out.size hb)
    have HX2 := hid (HX1.out.keep hb)
    clear hb
    go_wp2_with fail
    refine bodyPost_ret (v := .tuple #[.slice none 0 0, .int .i64 1]) (by simp [results, Try.results11, go_sem]) rfl ?_
    exact hd_no (by decide) HB2.out
  cases C
  · clear hA hB hC
    go_enter Try.func11, Try.ntmps11
    go_wp2_with fail
    refine (kxnorm_any n _).mono ?_
    rintro e w1 ⟨rfl, hb⟩
    rw [HNM.out]
    have HB1 := hid (bstep HB0.out HB0.out.size hb)
    have HX1 := hid (HBX.out.keep hb)
    clear hb
    go_wp2_with fail
    refine (HCS.out _ HB1.out).mono ?_
    rintro e w2 ⟨rfl, hb⟩
    have HB2 := hid (bstep HB1.out HB1.out.size hb)
    have HX2 := hid (HX1.out.keep hb)
    clear hb
    go_wp2_with fail
    refine (HCG.out _).mono ?_
    rintro e w3 ⟨rfl, rfl⟩
    go_wp2_with fail
    refine bodyPost_ret (v := .tuple #[.slice none 0 0, .int .i64 7]) (by simp [results, Try.results11, go_sem]) rfl ?_
    exact hd_no (by decide) HB2.out
  have hE1 := hC
  unfold rangesB at hE1
  rw [Bool.and_eq_true, inB_iff, ranB_iff] at hE1
  obtain ⟨⟨h1, h2⟩, g1, g2, g3⟩ := hE1
  have HSA := hid (shs_all hB)
  have HAS := hid (fun (t h : Int) => (held_same (h := h) (t := t) (shs_asc (G := goodB n) hB) g1 g3).symm)
  have HL := hid hl
  clear hA hB hC hl
  go_enter Try.func11, Try.ntmps11
  go_wp2_with fail
  refine (kxnorm_any n _).mono ?_
  rintro e w1 ⟨rfl, hb⟩
  rw [HNM.out]
  have HB1 := hid (bstep HB0.out HB0.out.size hb)
  have HX1 := hid (HBX.out.keep hb)
  clear hb
  go_wp2_with fail
  refine (HCS.out _ HB1.out).mono ?_
  rintro e w2 ⟨rfl, hb⟩
  have HB2 := hid (bstep HB1.out HB1.out.size hb)
  have HX2 := hid (HX1.out.keep hb)
  clear hb
  go_wp2_with fail
  refine (HCG.out _).mono ?_
  rintro e w3 ⟨rfl, rfl⟩
  have hn0 := HX2.out.fst 0
  have hn1 := HX2.out.fst 1
  have hn2 := HX2.out.fst 2
  have hn3 := HX2.out.fst 3
  have hn4 := HX2.out.fst 4
  have hn5 := HX2.out.fst 5
  have hn6 := HX2.out.fst 6
  have hn7 := HX2.out.fst 7
  have hn8 := HX2.out.fst 8
  have hn9 := HX2.out.fst 9
  simp only [List.getElem?_toArray, List.getElem?_cons_zero, List.getElem?_cons_succ] at hn0 hn1 hn2 hn3 hn4 hn5 hn6 hn7 hn8 hn9
  go_wp2_with fail
  refine (looks_any n _ l hd w2 (HR.out _ HB2.out) (by have := HL.out; omega) HSA.out).mono ?_
  rintro e w4 ⟨u, rfl, hu, hb⟩
  have HBA := hid (bad_any (ofH hd (cksL (goodB n) l)) u b E w4 hu.row (by have h1 := ofH_len hd (cksL (goodB n) l); rw [cksL_len] at h1; have := HL.out; omega))
  have HB4 := hid (bstep HB2.out HB2.out.size hb)
  obtain ⟨ua, uc, rfl⟩ := ownW_shape hu
  clear hb hu hn0 hn1 hn2 hn3 hn4 hn5 hn6 hn7 hn8 hn9
  go_wp2_with fail
  refine HBA.out.mono ?_
  rintro e w5 ⟨u5, m, rfl, hm, ho, hb⟩
  have HM := hid hm
  have HO := hid (ho.low HB4.out.size)
  have HB5 := hid (bstep HB4.out HB4.out.size hb)
  obtain ⟨xa, xc, rfl⟩ := ownX_shape ho
  clear hm ho hb HBA
  go_wp2_with fail
  refine bodyPost_ret (v := .tuple #[.slice xa m.length xc, .int .i64 0]) (by simp [results, Try.results11, go_sem]) rfl ?_
  refine ⟨_, m, rfl, HO.out, HB5.out, fun _ => ⟨HM.out.can, fun t => ?_, ?_⟩, fun h => absurd rfl h⟩
  · rw [allT_one, HM.out.same t]; exact HAS.out t hd
  · have h1 := HM.out.few
    have h2 := bd_len (n := n) (h := hd) (b := b) (E := E) HL.out
    omega
set_option maxRecDepth 20000 in
set_option maxHeartbeats 8000000 in
theorem xheld_any (n : Nm) (v : Value) (l : List Sh) (hd b E : Int) (w : World) (hr : RowH w v l) (hl : l.length ≤ 200) : Calls Try.prog 14 #[.agg #[.int .i64 n.bl, .int .i64 n.bh, .int .i64 n.cl, .int .i64 n.ch, .int .i64 n.pc, .int .i64 n.wr, .int .i64 n.tl, .int .i64 n.th, .int .i64 n.sl, .int .i64 n.sh], v, .int .i64 hd, .int .i64 b, .int .i64 E] w (HdP (allT hdF b E (cksL (goodB n) l) (upL hd.toNat)) (hdC n l hd b E) 8000 w) := by
  have HB0 := hid ((Below.refl w.heap.size w).alloc (Nat.le_refl _) (.cells #[.int .i64 n.bl, .int .i64 n.bh, .int .i64 n.cl, .int .i64 n.ch, .int .i64 n.pc, .int .i64 n.wr, .int .i64 n.tl, .int .i64 n.th, .int .i64 n.sl, .int .i64 n.sh] 23))
  have HBX := hid (box1_start (w := w) (A := #[.int .i64 n.bl, .int .i64 n.bh, .int .i64 n.cl, .int .i64 n.ch, .int .i64 n.pc, .int .i64 n.wr, .int .i64 n.tl, .int .i64 n.th, .int .i64 n.sl, .int .i64 n.sh]) (T := 23) (fz := (0, 0)))
  obtain ⟨A, hA⟩ : ∃ A, nmB n = A := ⟨_, rfl⟩
  obtain ⟨B, hB⟩ : ∃ B, shsB l = B := ⟨_, rfl⟩
  obtain ⟨C, hC⟩ : ∃ C, rangesB hd b E = C := ⟨_, rfl⟩
  have HNM := hid hA
  have HV := hid (show hdC n l hd b E = if A && B then (if C then 0 else 7) else 1 by rw [← hA, ← hB, ← hC]; rfl)
  have HR := hid (fun w1 (g : Below w.heap.size w w1) => hr.keep g)
  have HCS := hid (fun w1 (g : Below w.heap.size w w1) => kxsheets_any v l w1 (hr.keep g))
  have HCG := hid (fun w1 => ranges_any hd b E w1)
  rw [hB] at HCS
  rw [hC] at HCG
  rw [HV.out]
  clear hr
  cases A
  · clear hA hB hC
    go_enter Try.func14, Try.ntmps14
    go_wp2_with fail
    refine (kxnorm_any n _).mono ?_
    rintro e w1 ⟨rfl, hb⟩
    rw [HNM.out]
    have HB1 := hid (bstep HB0.out HB0.out.size hb)
    have HX1 := hid (HBX.out.keep hb)
    clear hb
    go_wp2_with fail
    refine bodyPost_ret (v := .tuple #[.slice none 0 0, .int .i64 1]) (by simp [results, Try.results14, go_sem]) rfl ?_
    exact hd_no (by decide) HB1.out
  cases B
  · clear hA hB hC
    go_enter Try.func14, Try.ntmps14
    go_wp2_with fail
    refine (kxnorm_any n _).mono ?_
    rintro e w1 ⟨rfl, hb⟩
    rw [HNM.out]
    have HB1 := hid (bstep HB0.out HB0.out.size hb)
    have HX1 := hid (HBX.out.keep hb)
    clear hb
    go_wp2_with fail
    refine (HCS.out _ HB1.out).mono ?_
    rintro e w2 ⟨rfl, hb⟩
    have HB2 := hid (bstep HB1.out HB1.out.size hb)
    have HX2 := hid (HX1.out.keep hb)
    clear hb
    go_wp2_with fail
    refine bodyPost_ret (v := .tuple #[.slice none 0 0, .int .i64 1]) (by simp [results, Try.results14, go_sem]) rfl ?_
    exact hd_no (by decide) HB2.out
  cases C
  · clear hA hB hC
    go_enter Try.func14, Try.ntmps14
    go_wp2_with fail
    refine (kxnorm_any n _).mono ?_
    rintro e w1 ⟨rfl, hb⟩
    rw [HNM.out]
    have HB1 := hid (bstep HB0.out HB0.out.size hb)
    have HX1 := hid (HBX.out.keep hb)
    clear hb
    go_wp2_with fail
    refine (HCS.out _ HB1.out).mono ?_
    rintro e w2 ⟨rfl, hb⟩
    have HB2 := hid (bstep HB1.out HB1.out.size hb)
    have HX2 := hid (HX1.out.keep hb)
    clear hb
    go_wp2_with fail
    refine (HCG.out _).mono ?_
    rintro e w3 ⟨rfl, rfl⟩
    go_wp2_with fail
    refine bodyPost_ret (v := .tuple #[.slice none 0 0, .int .i64 7]) (by simp [results, Try.results14, go_sem]) rfl ?_
    exact hd_no (by decide) HB2.out
  have hE1 := hC
  unfold rangesB at hE1
  rw [Bool.and_eq_true, inB_iff, ranB_iff] at hE1
  obtain ⟨⟨h1, h2⟩, g1, g2, g3⟩ := hE1
  have HSA := hid (shs_all hB)
  have HAS := hid (fun (t h : Int) => (held_same (h := h) (t := t) (shs_asc (G := goodB n) hB) g1 g3).symm)
  have HL := hid hl
  obtain ⟨H, hH⟩ : ∃ H : Nat, (H : Int) = hd := ⟨hd.toNat, by omega⟩
  have hH12 : H ≤ 12 := by omega
  have hHN : hd.toNat = H := by omega
  rw [hHN]
  clear hA hB hC hl hHN
  subst hH
  obtain ⟨i0, hi, hz0, hz1, hz2⟩ := infoX_parts
  go_enter Try.func14, Try.ntmps14
  go_wp2_with fail
  refine (kxnorm_any n _).mono ?_
  rintro e w1 ⟨rfl, hb⟩
  rw [HNM.out]
  have HB1 := hid (bstep HB0.out HB0.out.size hb)
  have HX1 := hid (HBX.out.keep hb)
  clear hb
  go_wp2_with fail
  refine (HCS.out _ HB1.out).mono ?_
  rintro e w2 ⟨rfl, hb⟩
  have HB2 := hid (bstep HB1.out HB1.out.size hb)
  have HX2 := hid (HX1.out.keep hb)
  clear hb
  go_wp2_with fail
  refine (HCG.out _).mono ?_
  rintro e w3 ⟨rfl, rfl⟩
  go_wp2
  go_loopw [12, 13] (fun a t wr => ∃ k : Nat, k ≤ H ∧ t = .int .i64 ((k : Int) + 1) ∧ ∃ L : List Pr, Hid (L.length ≤ k * 201) ∧ Hid (∀ t, inP L t ↔ inP (allT hdF b E (cksL (goodB n) l) (upL k)) t) ∧ Hid (OwnX wr (w.heap.size + 1) 68 a L) ∧ Hid (Box1 w wr #[.int .i64 n.bl, .int .i64 n.bh, .int .i64 n.cl, .int .i64 n.ch, .int .i64 n.pc, .int .i64 n.wr, .int .i64 n.tl, .int .i64 n.th, .int .i64 n.sl, .int .i64 n.sh])) (fun _ t _ => H + 1 - (intOf t).toNat)
  case atStart => exact ⟨0, Nat.zero_le _, rfl, [], Nat.zero_le _, fun t => Iff.rfl, ownX_nil _ _ _, HX2⟩
  case round =>
    obtain ⟨k, hk, rfl, L, hLl, hLs, hO, hX⟩ := hrel
    by_cases hlt : k < H
    · have hlt' : (k : Int) + 1 ≤ H := by omega
      have hkw : IntKind.i64.wrap ((k : Int) + 1 + 1) = (k : Int) + 1 + 1 := IntWalk.i64_in _ ⟨by omega, by omega⟩
      have HLT := hid hlt
      have HLL := hid (show L.length ≤ 2500 by have := hLl.out; have h3 : k * 201 ≤ 12 * 201 := Nat.mul_le_mul (by omega) (Nat.le_refl _); omega)
      clear hlt
      have hn0 := hX.out.fst 0
      have hn1 := hX.out.fst 1
      have hn2 := hX.out.fst 2
      have hn3 := hX.out.fst 3
      have hn4 := hX.out.fst 4
      have hn5 := hX.out.fst 5
      have hn6 := hX.out.fst 6
      have hn7 := hX.out.fst 7
      have hn8 := hX.out.fst 8
      have hn9 := hX.out.fst 9
      simp only [List.getElem?_toArray, List.getElem?_cons_zero, List.getElem?_cons_succ] at hn0 hn1 hn2 hn3 hn4 hn5 hn6 hn7 hn8 hn9
      go_wp2_with fail
      refine (looks_any n _ l ((k : Int) + 1) wr (HR.out _ hX.out.low) (by have := HL.out; omega) HSA.out).mono ?_
      rintro e w4 ⟨u, rfl, hu, hb⟩
      have HBA := hid (bad_any (ofH ((k : Int) + 1) (cksL (goodB n) l)) u b E w4 hu.row (by have h1 := ofH_len ((k : Int) + 1) (cksL (goodB n) l); rw [cksL_len] at h1; have := HL.out; omega))
      have HX4 := hid (hX.out.keep hb)
      have HO4 := hid (hO.out.keep hb)
      obtain ⟨ua, uc, rfl⟩ := ownW_shape hu
      clear hb hu hn0 hn1 hn2 hn3 hn4 hn5 hn6 hn7 hn8 hn9
      go_wp2_with fail
      refine HBA.out.mono ?_
      rintro e w5 ⟨u5, m, rfl, hm, ho, hb⟩
      have HM := hid hm
      have HS5 := hid ho.row.src
      have HML := hid (show m.length ≤ 201 from Nat.le_trans hm.few (bd_len (n := n) HL.out))
      have HX5 := hid (HX4.out.keep hb)
      have HO5 := hid (HO4.out.keep hb)
      obtain ⟨xa, xc, rfl⟩ := ownX_shape ho
      obtain ⟨oa, oc, rfl⟩ := ownX_shape HO5.out
      have HOQ := hid (show w5.ownsRow (w.heap.size + 1) 68 2 (.slice oa L.length oc) L.length (pvs L) from HO5.out)
      have HNE : Hid ((Value.slice oa L.length oc).ownBlock ≠ some w.heap.size) := fun e => by have := (World.ownsRow.lt HOQ.out _ e).1; omega
      clear hm ho hb HBA
      go_wp2_with (refine wpList_appX rfl _ _ 28 rfl (w.heap.size + 1) 68 i0 (.agg #[.int .i64 0, .int .i64 0]) Try.underlying28 hi hz0 hz1 hz2 rfl _ _ _ rfl HOQ.out _ m rfl HS5.out (by have := HLL.out; have := HML.out; omega) (by have := HX5.out.sz; omega) ?_; intro v6 w6 hown6 hgrow6; have HB6 := hid (show Below w.heap.size w w6 from HX5.out.low.grown hgrow6 (by have := HX5.out.sz; omega) (fun j e => by have := (World.ownsRow.lt HOQ.out j e).1; omega)); have HX6 := hid (HX5.out.grow HB6.out (by have := HX5.out.sz; have := hgrow6.size; omega) hgrow6 HNE.out (by simp)); have HO6 := hid (show OwnX w6 (w.heap.size + 1) 68 v6 (L ++ m) by unfold OwnX; rw [List.length_append, pvs_app]; exact hown6); clear hown6 hgrow6)
      go_roundw
      case rel => exact ⟨k + 1, HLT.out, by go_num, L ++ m, (by have h1 := hLl.out; have h2 := HML.out; show (L ++ m).length ≤ _; rw [List.length_append, Nat.add_mul]; omega), (fun t => by
        rw [upL_succ, inP_app, allT_in]
        rw [hLs.out t, HM.out.same t, HAS.out t, allT_in]
        simp only [List.mem_append, List.mem_singleton, or_and_right, exists_or, exists_eq_left]), HO6, HX6⟩
      case measure => have := HLT.out; simp [intOf]; omega
    · obtain rfl : k = H := by omega
      have hgt : (k : Int) < (k : Int) + 1 := by omega
      have HLL := hid (show L.length ≤ 2500 by have := hLl.out; have h3 : k * 201 ≤ 12 * 201 := Nat.mul_le_mul (by omega) (Nat.le_refl _); omega)
      have HUN := hid (xunion_any _ L wr hO.out.row (by have := HLL.out; omega))
      go_wp2_with fail
      refine HUN.out.mono ?_
      rintro e w7 ⟨u7, m, rfl, hm, ho, hb⟩
      have HM := hid hm
      have HO := hid (ho.low hX.out.low.size)
      have HB7 := hid (bstep hX.out.low hX.out.low.size hb)
      obtain ⟨xa, xc, rfl⟩ := ownX_shape ho
      clear hm ho hb HUN
      go_wp2_with fail
      refine bodyPost_ret (v := .tuple #[.slice xa m.length xc, .int .i64 0]) (by simp [results, Try.results14, go_sem]) rfl ?_
      refine ⟨_, m, rfl, HO.out, HB7.out, fun _ => ⟨HM.out.can, fun t => (HM.out.same t).trans (hLs.out t), ?_⟩, fun h => absurd rfl h⟩
      have h1 := HM.out.few
      have h2 := HLL.out
      omega
end Go.Proofs.Ytjfakhfkbnnbcaa
