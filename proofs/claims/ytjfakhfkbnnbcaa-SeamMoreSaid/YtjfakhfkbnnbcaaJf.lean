/- Walks of Suspect and Held of the code: contracts. -/
import Derived.Test.YtjfakhfkbnnbcaaJe
import Derived.Test.YtjfakhfkbnnbcaaP15
namespace Go.Proofs.Ytjfakhfkbnnbcaa
open Go.RowKit Go.Shelf

/-- The error of Suspect and Held. -/
def hdC (n : Nm) (l : List Sh) (hd b E : Int) : Int := if nmB n && shsB l then (if inB hd 1 12 && ranB b E then 0 else 7) else 1
/-- Stretches that have the ticks of some, and an error. -/
def HdP (L : List Pr) (c : Int) (B : Nat) (w : World) (e : Ending) (w' : World) : Prop := ∃ u m, e = .returned (.tuple #[u, .int .i64 c]) ∧ OwnX w' w.heap.size 68 u m ∧ Below w.heap.size w w' ∧ (c = 0 → Canon m ∧ (∀ t, inP m t ↔ inP L t) ∧ m.length ≤ B) ∧ (c ≠ 0 → m = [])
theorem hd_no {L : List Pr} {w w' : World} {c : Int} {B : Nat} (h0 : c ≠ 0) (hb : Below w.heap.size w w') : HdP L c B w (.returned (.tuple #[.slice none 0 0, .int .i64 c])) w' :=
  ⟨_, [], rfl, ownX_nil _ _ _, hb, fun h => absurd h h0, fun _ => rfl⟩
theorem shs_all {l : List Sh} (h : shsB l = true) : ∀ x ∈ l, shB x = true := by
  intro x hx
  obtain ⟨k, hk, rfl⟩ := List.mem_iff_getElem.1 hx
  unfold shsB at h
  simp only [Bool.and_eq_true] at h
  have h1 := allB_iff.1 h.2 k hk
  unfold oneS at h1
  simp only [Bool.and_eq_true] at h1
  have e : l.getD k shD = l[k] := by simp [List.getD, hk]
  rw [e] at h1
  exact h1.1
theorem rowI_one {w : World} {n : Nat} {x : Int} {T : TypeId} (h : w.heap.size = n) : RowI (w.alloc (.cells #[.int .i64 x] T)) (.slice (some ⟨n, 0, none⟩) 1 1) [x] := by
  subst h
  refine .inr ⟨_, 0, 1, rfl, by simp [maxLen], fun k hk => ?_⟩
  have hk0 : k = 0 := by simpa using hk
  subst hk0
  exact cell_alloc_new w _ _ _ 0
set_option maxRecDepth 20000 in
set_option maxHeartbeats 8000000 in
theorem heldk_any (n : Nm) (v : Value) (l : List Sh) (hd b E : Int) (w : World) (hr : RowH w v l) (hl : l.length ≤ 500) : Calls Try.prog 13 #[.agg #[.int .i64 n.bl, .int .i64 n.bh, .int .i64 n.cl, .int .i64 n.ch, .int .i64 n.pc, .int .i64 n.wr, .int .i64 n.tl, .int .i64 n.th, .int .i64 n.sl, .int .i64 n.sh], v, .int .i64 hd, .int .i64 b, .int .i64 E] w (HdP (allT hdF b E (cksL (goodB n) l) (upL hd.toNat)) (hdC n l hd b E) (12 * (l.length + 1)) w) := by
  have HB0 := hid ((Below.refl w.heap.size w).alloc (Nat.le_refl _) (.cells #[.int .i64 n.bl, .int .i64 n.bh, .int .i64 n.cl, .int .i64 n.ch, .int .i64 n.pc, .int .i64 n.wr, .int .i64 n.tl, .int .i64 n.th, .int .i64 n.sl, .int .i64 n.sh] 23))
  have HBX := hid (box1_start (w := w) (A := #[.int .i64 n.bl, .int .i64 n.bh, .int .i64 n.cl, .int .i64 n.ch, .int .i64 n.pc, .int .i64 n.wr, .int .i64 n.tl, .int .i64 n.th, .int .i64 n.sl, .int .i64 n.sh]) (T := 23) (fz := (0, 0)))
  obtain ⟨A, hA⟩ : ∃ A, nmB n = A := ⟨_, rfl⟩
  obtain ⟨B, hB⟩ : ∃ B, shsB l = B := ⟨_, rfl⟩
  obtain ⟨C, hC⟩ : ∃ C, inB hd 1 12 = C := ⟨_, rfl⟩
  obtain ⟨D, hD⟩ : ∃ D, ranB b E = D := ⟨_, rfl⟩
  have HNM := hid hA
  have HV := hid (show hdC n l hd b E = if A && B then (if C && D then 0 else 7) else 1 by rw [← hA, ← hB, ← hC, ← hD]; rfl)
  have HR := hid (fun w1 (g : Below w.heap.size w w1) => hr.keep g)
  have HCS := hid (fun w1 (g : Below w.heap.size w w1) => ksheets_any v l w1 (hr.keep g))
  have HCH := hid (fun w1 => khead_any hd w1)
  have HCR := hid (fun w1 => ran_any b E w1)
  rw [hB] at HCS
  rw [hC] at HCH
  rw [hD] at HCR
  rw [HV.out]
  clear hr
  cases A
  · clear hA hB hC hD
    go_enter Try.func13, Try.ntmps13
    go_wp2_with fail
    refine (knorm_any n _).mono ?_
    rintro e w1 ⟨rfl, hb⟩
    rw [HNM.out]
    have HB1 := hid (bstep HB0.out HB0.out.size hb)
    have HX1 := hid (HBX.out.keep hb)
    clear hb
    go_wp2_with fail
    refine bodyPost_ret (v := .tuple #[.slice none 0 0, .int .i64 1]) (by simp [results, Try.results13, go_sem]) rfl ?_
    exact hd_no (by decide) HB1.out
  cases B
  · clear hA hB hC hD
    go_enter Try.func13, Try.ntmps13
    go_wp2_with fail
    refine (knorm_any n _).mono ?_
    rintro e w1 ⟨rfl, hb⟩
    rw [HNM.out]
    have HB1 := hid (bstep HB0.out HB0.out.size hb)
    have HX1 := hid (HBX.out.keep hb)
    clear hb
    go_wp2_with fail
    refine (HCS.out _ HB1.out).mono ?_
    rintro e w2 ⟨rfl, hb⟩
    have HB2 := hid (bstep HB1.out HB1.out.size hb)
    have HX2 := hid (HX1.out.keep hb)
    clear hb
    go_wp2_with fail
    refine bodyPost_ret (v := .tuple #[.slice none 0 0, .int .i64 1]) (by simp [results, Try.results13, go_sem]) rfl ?_
    exact hd_no (by decide) HB2.out
  cases C
  · clear hA hB hC hD
    go_enter Try.func13, Try.ntmps13
    go_wp2_with fail
    refine (knorm_any n _).mono ?_
    rintro e w1 ⟨rfl, hb⟩
    rw [HNM.out]
    have HB1 := hid (bstep HB0.out HB0.out.size hb)
    have HX1 := hid (HBX.out.keep hb)
    clear hb
    go_wp2_with fail
    refine (HCS.out _ HB1.out).mono ?_
    rintro e w2 ⟨rfl, hb⟩
    have HB2 := hid (bstep HB1.out HB1.out.size hb)
    have HX2 := hid (HX1.out.keep hb)
    clear hb
    go_wp2_with fail
    refine (HCH.out _).mono ?_
    rintro e w3 ⟨rfl, rfl⟩
    go_wp2_with fail
    refine bodyPost_ret (v := .tuple #[.slice none 0 0, .int .i64 7]) (by simp [results, Try.results13, go_sem]) rfl ?_
    exact hd_no (by decide) HB2.out
  cases D
  · clear hA hB hC hD
    go_enter Try.func13, Try.ntmps13
    go_wp2_with fail
    refine (knorm_any n _).mono ?_
    rintro e w1 ⟨rfl, hb⟩
    rw [HNM.out]
    have HB1 := hid (bstep HB0.out HB0.out.size hb)
    have HX1 := hid (HBX.out.keep hb)
    clear hb
    go_wp2_with fail
    refine (HCS.out _ HB1.out).mono ?_
    rintro e w2 ⟨rfl, hb⟩
    have HB2 := hid (bstep HB1.out HB1.out.size hb)
    have HX2 := hid (HX1.out.keep hb)
    clear hb
    go_wp2_with fail
    refine (HCH.out _).mono ?_
    rintro e w3 ⟨rfl, rfl⟩
    go_wp2_with fail
    refine (HCR.out _).mono ?_
    rintro e w3 ⟨rfl, rfl⟩
    go_wp2_with fail
    refine bodyPost_ret (v := .tuple #[.slice none 0 0, .int .i64 7]) (by simp [results, Try.results13, go_sem]) rfl ?_
    exact hd_no (by decide) HB2.out
  obtain ⟨g1, g2, g3⟩ := ranB_iff.1 hD
  obtain ⟨h1, h2⟩ := inB_iff.1 hC
  have HSA := hid (shs_all hB)
  have HL := hid hl
  obtain ⟨H, hH⟩ : ∃ H : Nat, (H : Int) = hd := ⟨hd.toNat, by omega⟩
  have HH12 := hid (show H ≤ 12 by omega)
  have hHN : hd.toNat = H := by omega
  rw [hHN]
  clear hA hB hC hD hl hHN
  subst hH
  go_enter Try.func13, Try.ntmps13
  go_wp2_with fail
  refine (knorm_any n _).mono ?_
  rintro e w1 ⟨rfl, hb⟩
  rw [HNM.out]
  have HB1 := hid (bstep HB0.out HB0.out.size hb)
  have HX1 := hid (HBX.out.keep hb)
  clear hb
  go_wp2_with fail
  refine (HCS.out _ HB1.out).mono ?_
  rintro e w2 ⟨rfl, hb⟩
  have HB2 := hid (bstep HB1.out HB1.out.size hb)
  have HX2 := hid (HX1.out.keep hb)
  clear hb
  go_wp2_with fail
  refine (HCH.out _).mono ?_
  rintro e w3 ⟨rfl, rfl⟩
  go_wp2_with fail
  refine (HCR.out _).mono ?_
  rintro e w3 ⟨rfl, rfl⟩
  have hn0 := HX2.out.fst 0
  have hn1 := HX2.out.fst 1
  have hn2 := HX2.out.fst 2
  have hn3 := HX2.out.fst 3
  have hn4 := HX2.out.fst 4
  have hn5 := HX2.out.fst 5
  have hn6 := HX2.out.fst 6
  have hn7 := HX2.out.fst 7
  have hn8 := HX2.out.fst 8
  have hn9 := HX2.out.fst 9
  simp only [List.getElem?_toArray, List.getElem?_cons_zero, List.getElem?_cons_succ] at hn0 hn1 hn2 hn3 hn4 hn5 hn6 hn7 hn8 hn9
  go_wp2_with fail
  refine (goodBy_any n _).mono ?_
  rintro e w4 ⟨q1, fv, rfl, hq1, hF, hb⟩
  have HQ1 := hid hq1
  have HF := hid hF
  have HB4 := hid (bstep HB2.out HB2.out.size hb)
  clear hb hq1 hF hn0 hn1 hn2 hn3 hn4 hn5 hn6 hn7 hn8 hn9
  go_wp2_with fail
  refine (checksG_any n _ l q1 fv w4 (HR.out _ HB4.out) (by have := HL.out; omega) HSA.out HQ1.out HF.out).mono ?_
  rintro e w5 ⟨u1, rfl, hu1, hb⟩
  obtain ⟨ua1, uc1, rfl⟩ := ownK_shape hu1
  have HU1 := hid hu1
  have HB5 := hid (bstep HB4.out HB4.out.size hb)
  clear hb hu1
  go_wp2_with fail
  refine (upto_any H w5 HH12.out).mono ?_
  rintro e w6 ⟨u2, rfl, hu2, hb⟩
  obtain ⟨ua2, uc2, rfl⟩ := ownJ_shape hu2
  have HHE := hid (held_any (cksL (goodB n) l) _ _ (upL H) b E w6 (HU1.out.keep hb).row hu2.rowI (by rw [cksL_len]; have := HL.out; omega) (by rw [upL_len]; exact HH12.out))
  have HB6 := hid (bstep HB5.out HB5.out.size hb)
  clear hb hu2
  go_wp2_with fail
  refine HHE.out.mono ?_
  rintro e w7 ⟨u, m, rfl, hm, ho, hb⟩
  have HM := hid hm
  have HO := hid (ho.low HB6.out.size)
  have HB7 := hid (bstep HB6.out HB6.out.size hb)
  obtain ⟨ua, uc, rfl⟩ := ownX_shape ho
  clear hm ho hb HHE
  go_wp2_with fail
  refine bodyPost_ret (v := .tuple #[.slice ua m.length uc, .int .i64 0]) (by simp [results, Try.results13, go_sem]) rfl ?_
  refine ⟨_, m, rfl, HO.out, HB7.out, fun _ => ⟨HM.out.can, HM.out.same, Nat.le_trans HM.out.few ?_⟩, fun h => absurd rfl h⟩
  have i1 := allT_len hdF b E (cksL (goodB n) l) (upL H)
  rw [upL_len, cksL_len] at i1
  have i2 : H * (l.length + 1) ≤ 12 * (l.length + 1) := Nat.mul_le_mul (HH12.out) (Nat.le_refl _)
  omega
set_option maxRecDepth 20000 in
set_option maxHeartbeats 8000000 in
theorem suspect_any (n : Nm) (v : Value) (l : List Sh) (hd b E : Int) (w : World) (hr : RowH w v l) (hl : l.length ≤ 500) : Calls Try.prog 10 #[.agg #[.int .i64 n.bl, .int .i64 n.bh, .int .i64 n.cl, .int .i64 n.ch, .int .i64 n.pc, .int .i64 n.wr, .int .i64 n.tl, .int .i64 n.th, .int .i64 n.sl, .int .i64 n.sh], v, .int .i64 hd, .int .i64 b, .int .i64 E] w (HdP (allT hdF b E (cksL (goodB n) l) [hd]) (hdC n l hd b E) (12 * (l.length + 1)) w) := by
  have HB0 := hid ((Below.refl w.heap.size w).alloc (Nat.le_refl _) (.cells #[.int .i64 n.bl, .int .i64 n.bh, .int .i64 n.cl, .int .i64 n.ch, .int .i64 n.pc, .int .i64 n.wr, .int .i64 n.tl, .int .i64 n.th, .int .i64 n.sl, .int .i64 n.sh] 23))
  have HBX := hid (box1_start (w := w) (A := #[.int .i64 n.bl, .int .i64 n.bh, .int .i64 n.cl, .int .i64 n.ch, .int .i64 n.pc, .int .i64 n.wr, .int .i64 n.tl, .int .i64 n.th, .int .i64 n.sl, .int .i64 n.sh]) (T := 23) (fz := (0, 0)))
  obtain ⟨A, hA⟩ : ∃ A, nmB n = A := ⟨_, rfl⟩
  obtain ⟨B, hB⟩ : ∃ B, shsB l = B := ⟨_, rfl⟩
  obtain ⟨C, hC⟩ : ∃ C, inB hd 1 12 = C := ⟨_, rfl⟩
  obtain ⟨D, hD⟩ : ∃ D, ranB b E = D := ⟨_, rfl⟩
  have HNM := hid hA
  have HV := hid (show hdC n l hd b E = if A && B then (if C && D then 0 else 7) else 1 by rw [← hA, ← hB, ← hC, ← hD]; rfl)
  have HR := hid (fun w1 (g : Below w.heap.size w w1) => hr.keep g)
  have HCS := hid (fun w1 (g : Below w.heap.size w w1) => ksheets_any v l w1 (hr.keep g))
  have HCH := hid (fun w1 => khead_any hd w1)
  have HCR := hid (fun w1 => ran_any b E w1)
  rw [hB] at HCS
  rw [hC] at HCH
  rw [hD] at HCR
  rw [HV.out]
  clear hr
  cases A
  · clear hA hB hC hD
    go_enter Try.func10, Try.ntmps10
    go_wp2_with fail
    refine (knorm_any n _).mono ?_
    rintro e w1 ⟨rfl, hb⟩
    rw [HNM.out]
    have HB1 := hid (bstep HB0.out HB0.out.size hb)
    have HX1 := hid (HBX.out.keep hb)
    clear hb
    go_wp2_with fail
    refine bodyPost_ret (v := .tuple #[.slice none 0 0, .int .i64 1]) (by simp [results, Try.results10, go_sem]) rfl ?_
    exact hd_no (by decide) HB1.out
  cases B
  · clear hA hB hC hD
    go_enter Try.func10, Try.ntmps10
    go_wp2_with fail
    refine (knorm_any n _).mono ?_
    rintro e w1 ⟨rfl, hb⟩
    rw [HNM.out]
    have HB1 := hid (bstep HB0.out HB0.out.size hb)
    have HX1 := hid (HBX.out.keep hb)
    clear hb
    go_wp2_with fail
    refine (HCS.out _ HB1.out).mono ?_
    rintro e w2 ⟨rfl, hb⟩
    have HB2 := hid (bstep HB1.out HB1.out.size hb)
    have HX2 := hid (HX1.out.keep hb)
    clear hb
    go_wp2_with fail
    refine bodyPost_ret (v := .tuple #[.slice none 0 0, .int .i64 1]) (by simp [results, Try.results10, go_sem]) rfl ?_
    exact hd_no (by decide) HB2.out
  cases C
  · clear hA hB hC hD
    go_enter Try.func10, Try.ntmps10
    go_wp2_with fail
    refine (knorm_any n _).mono ?_
    rintro e w1 ⟨rfl, hb⟩
    rw [HNM.out]
    have HB1 := hid (bstep HB0.out HB0.out.size hb)
    have HX1 := hid (HBX.out.keep hb)
    clear hb
    go_wp2_with fail
    refine (HCS.out _ HB1.out).mono ?_
    rintro e w2 ⟨rfl, hb⟩
    have HB2 := hid (bstep HB1.out HB1.out.size hb)
    have HX2 := hid (HX1.out.keep hb)
    clear hb
    go_wp2_with fail
    refine (HCH.out _).mono ?_
    rintro e w3 ⟨rfl, rfl⟩
    go_wp2_with fail
    refine bodyPost_ret (v := .tuple #[.slice none 0 0, .int .i64 7]) (by simp [results, Try.results10, go_sem]) rfl ?_
    exact hd_no (by decide) HB2.out
  cases D
  · clear hA hB hC hD
    go_enter Try.func10, Try.ntmps10
    go_wp2_with fail
    refine (knorm_any n _).mono ?_
    rintro e w1 ⟨rfl, hb⟩
    rw [HNM.out]
    have HB1 := hid (bstep HB0.out HB0.out.size hb)
    have HX1 := hid (HBX.out.keep hb)
    clear hb
    go_wp2_with fail
    refine (HCS.out _ HB1.out).mono ?_
    rintro e w2 ⟨rfl, hb⟩
    have HB2 := hid (bstep HB1.out HB1.out.size hb)
    have HX2 := hid (HX1.out.keep hb)
    clear hb
    go_wp2_with fail
    refine (HCH.out _).mono ?_
    rintro e w3 ⟨rfl, rfl⟩
    go_wp2_with fail
    refine (HCR.out _).mono ?_
    rintro e w3 ⟨rfl, rfl⟩
    go_wp2_with fail
    refine bodyPost_ret (v := .tuple #[.slice none 0 0, .int .i64 7]) (by simp [results, Try.results10, go_sem]) rfl ?_
    exact hd_no (by decide) HB2.out
  obtain ⟨g1, g2, g3⟩ := ranB_iff.1 hD
  obtain ⟨h1, h2⟩ := inB_iff.1 hC
  have HSA := hid (shs_all hB)
  have HL := hid hl
  clear hA hB hC hD hl
  go_enter Try.func10, Try.ntmps10
  go_wp2_with fail
  refine (knorm_any n _).mono ?_
  rintro e w1 ⟨rfl, hb⟩
  rw [HNM.out]
  have HB1 := hid (bstep HB0.out HB0.out.size hb)
  have HX1 := hid (HBX.out.keep hb)
  clear hb
  go_wp2_with fail
  refine (HCS.out _ HB1.out).mono ?_
  rintro e w2 ⟨rfl, hb⟩
  have HB2 := hid (bstep HB1.out HB1.out.size hb)
  have HX2 := hid (HX1.out.keep hb)
  clear hb
  go_wp2_with fail
  refine (HCH.out _).mono ?_
  rintro e w3 ⟨rfl, rfl⟩
  go_wp2_with fail
  refine (HCR.out _).mono ?_
  rintro e w3 ⟨rfl, rfl⟩
  have hn0 := HX2.out.fst 0
  have hn1 := HX2.out.fst 1
  have hn2 := HX2.out.fst 2
  have hn3 := HX2.out.fst 3
  have hn4 := HX2.out.fst 4
  have hn5 := HX2.out.fst 5
  have hn6 := HX2.out.fst 6
  have hn7 := HX2.out.fst 7
  have hn8 := HX2.out.fst 8
  have hn9 := HX2.out.fst 9
  simp only [List.getElem?_toArray, List.getElem?_cons_zero, List.getElem?_cons_succ] at hn0 hn1 hn2 hn3 hn4 hn5 hn6 hn7 hn8 hn9
  go_wp2_with fail
  refine (goodBy_any n _).mono ?_
  rintro e w4 ⟨q1, fv, rfl, hq1, hF, hb⟩
  have HQ1 := hid hq1
  have HF := hid hF
  have HB4 := hid (bstep HB2.out HB2.out.size hb)
  clear hb hq1 hF hn0 hn1 hn2 hn3 hn4 hn5 hn6 hn7 hn8 hn9
  go_wp2_with fail
  refine (checksG_any n _ l q1 fv w4 (HR.out _ HB4.out) (by have := HL.out; omega) HSA.out HQ1.out HF.out).mono ?_
  rintro e w5 ⟨u1, rfl, hu1, hb⟩
  obtain ⟨ua1, uc1, rfl⟩ := ownK_shape hu1
  have HU1 := hid hu1
  have HB5 := hid (bstep HB4.out HB4.out.size hb)
  clear hb hu1
  have HB6 := hid (bstep HB5.out HB5.out.size ((Below.refl w5.heap.size w5).alloc (Nat.le_refl _) (.cells #[.int .i64 hd] 3)))
  have HHE := hid (held_any (cksL (goodB n) l) _ _ [hd] b E (w5.alloc (.cells #[.int .i64 hd] 3)) (HU1.out.keep ((Below.refl w5.heap.size w5).alloc (Nat.le_refl _) (.cells #[.int .i64 hd] 3))).row (rowI_one rfl) (by rw [cksL_len]; have := HL.out; omega) (by simp))
  go_wp2_with fail
  refine HHE.out.mono ?_
  rintro e w7 ⟨u, m, rfl, hm, ho, hb⟩
  have HM := hid hm
  have HO := hid (ho.low HB6.out.size)
  have HB7 := hid (bstep HB6.out HB6.out.size hb)
  obtain ⟨ua, uc, rfl⟩ := ownX_shape ho
  clear hm ho hb HHE
  go_wp2_with fail
  refine bodyPost_ret (v := .tuple #[.slice ua m.length uc, .int .i64 0]) (by simp [results, Try.results10, go_sem]) rfl ?_
  refine ⟨_, m, rfl, HO.out, HB7.out, fun _ => ⟨HM.out.can, HM.out.same, Nat.le_trans HM.out.few ?_⟩, fun h => absurd rfl h⟩
  have i1 := allT_len hdF b E (cksL (goodB n) l) [hd]
  rw [cksL_len] at i1
  have i2 : [hd].length * (l.length + 1) ≤ 12 * (l.length + 1) := Nat.mul_le_mul (by simp) (Nat.le_refl _)
  omega
end Go.Proofs.Ytjfakhfkbnnbcaa
