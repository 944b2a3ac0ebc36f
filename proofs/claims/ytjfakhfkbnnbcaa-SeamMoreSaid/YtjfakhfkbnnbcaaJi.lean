/- Safe: plain facts; walk of Safe of the code: contract. -/
import Derived.Test.YtjfakhfkbnnbcaaJf
namespace Go.Proofs.Ytjfakhfkbnnbcaa
open Go.RowKit Go.Shelf

/-- A tick is not safe for one of some heads. -/
def UnsafeK (l : List Ck) (H : List Int) (t : Int) : Prop := ∃ h ∈ H, ∃ p ∈ prL h l, (p.1.gd && p.2.gd) = false ∧ p.1.tk ≤ t ∧ t < p.2.tk
theorem held_iff {l : List Ck} {H : List Int} {b E t : Int} (hb : 0 ≤ b) : inP (allT hdF b E l H) t ↔ b ≤ t ∧ t < E ∧ UnsafeK l H t := by
  rw [allT_in]
  unfold UnsafeK tellL inP
  simp only [List.mem_map]
  constructor
  · rintro ⟨h, hh, q, ⟨p, hp, rfl⟩, h1, h2⟩
    simp only [hdF] at h1 h2
    cases hg : p.1.gd && p.2.gd
    · rw [hg] at h1 h2
      simp at h1 h2
      exact ⟨by omega, by omega, h, hh, p, hp, hg, by omega, by omega⟩
    · rw [hg] at h1 h2
      simp at h1 h2
      exfalso; omega
  · rintro ⟨h1, h2, h, hh, p, hp, hg, h3, h4⟩
    refine ⟨h, hh, _, ⟨p, hp, rfl⟩, ?_⟩
    simp only [hdF, hg]
    simp
    omega
theorem asc_split : ∀ {F : List Ck} {t : Int}, AscK F → F = (F.filter fun c => decide (c.tk ≤ t)) ++ (F.filter fun c => decide (t < c.tk))
  | [], _, _ => rfl
  | c :: F, t, ha => by
    have ha' := List.pairwise_cons.1 ha
    by_cases g : c.tk ≤ t
    · have e1 : (decide (t < c.tk)) = false := decide_eq_false (by omega)
      have ih := asc_split (t := t) ha'.2
      simp only [List.filter_cons, g, e1, decide_true, if_true, Bool.false_eq_true, if_false, List.cons_append]
      rw [← ih]
    · have e0 : (decide (c.tk ≤ t)) = false := decide_eq_false g
      have e1 : (decide (t < c.tk)) = true := decide_eq_true (by omega)
      have n1 : (F.filter fun c => decide (c.tk ≤ t)) = [] := List.filter_eq_nil_iff.2 fun d hd => by
        have := ha'.1 d hd
        simp; omega
      have n2 : (F.filter fun c => decide (t < c.tk)) = F := List.filter_eq_self.2 fun d hd => by
        have := ha'.1 d hd
        simp; omega
      simp only [List.filter_cons, e0, e1, if_true, Bool.false_eq_true, if_false, n1, n2, List.nil_append]
theorem getLast_at {F1 F2 : List Ck} {d : Ck} (h0 : F1.length ≠ 0) : (F1 ++ F2).getD (F1.length - 1) d = (F1.getLast?).getD d := by
  rw [List.getLast?_eq_getElem?]
  simp only [List.getD]
  rw [List.getElem?_append_left (by omega)]
theorem head_at {F1 F2 : List Ck} {d : Ck} : (F1 ++ F2).getD F1.length d = (F2.head?).getD d := by
  simp only [List.getD]
  rw [List.getElem?_append_right (Nat.le_refl _), Nat.sub_self, ← List.head?_eq_getElem?]
/-- Whether the checks before and behind a tick are there, and good. -/
def sfK (F : List Ck) (t : Int) : Bool :=
  match (F.filter fun c => decide (c.tk ≤ t)).getLast?, (F.filter fun c => decide (t < c.tk)).head? with
  | some x, some y => x.gd && y.gd
  | _, _ => false
theorem sfK_iff {F : List Ck} {h t : Int} (ha : AscK F) (h0 : -100000000 ≤ t) (h1 : t ≤ 100000000) : (∃ i, i < F.length + 1 ∧ ((prA h F i).gd && (prZ h F i).gd) = false ∧ (prA h F i).tk ≤ t ∧ t < (prZ h F i).tk) ↔ sfK F t = false := by
  have hs := asc_split (t := t) ha
  obtain ⟨F1, e1⟩ : ∃ F1, F1 = F.filter fun c => decide (c.tk ≤ t) := ⟨_, rfl⟩
  obtain ⟨F2, e2⟩ : ∃ F2, F2 = F.filter fun c => decide (t < c.tk) := ⟨_, rfl⟩
  have a1 : ∀ c ∈ F1, c.tk ≤ t := fun c hc => by rw [e1] at hc; simpa using (List.mem_filter.1 hc).2
  have a2 : ∀ c ∈ F2, t < c.tk := fun c hc => by rw [e2] at hc; simpa using (List.mem_filter.1 hc).2
  have hk : sfK F t = (match F1.getLast?, F2.head? with | some x, some y => x.gd && y.gd | _, _ => false) := by unfold sfK; rw [← e1, ← e2]
  rw [← e1, ← e2] at hs
  rw [hk]
  have hA : prA h F F1.length = (F1.getLast?).getD (ckLong h) := by
    unfold prA
    by_cases z : F1.length = 0
    · rw [if_pos z, List.length_eq_zero_iff.1 z]; rfl
    · rw [if_neg z, hs, getLast_at z]
  have hZ : prZ h F F1.length = (F2.head?).getD (ckNever h) := by
    unfold prZ
    rw [hs, head_at]
  have hgd : ((prA h F F1.length).gd && (prZ h F F1.length).gd) = (match F1.getLast?, F2.head? with | some x, some y => x.gd && y.gd | _, _ => false) := by
    rw [hA, hZ]
    cases F1.getLast? <;> cases F2.head? <;> simp [ckLong, ckNever]
  have hlen : F.length = F1.length + F2.length := by rw [hs]; simp
  have htA : (prA h F F1.length).tk ≤ t := by
    rw [hA]
    cases hl : F1.getLast? with
    | none => exact h0
    | some x => exact a1 x (List.mem_of_getLast? hl)
  have htZ : t < (prZ h F F1.length).tk := by
    rw [hZ]
    cases hl : F2.head? with
    | none => show t < 100000001; omega
    | some x => exact a2 x (List.mem_of_head? hl)
  rw [← hgd]
  constructor
  · rintro ⟨i, hi, hg, g1, g2⟩
    have : i = F1.length := by
      rcases Nat.lt_trichotomy i F1.length with c | c | c
      · exfalso
        have e : prZ h F i = F1[i] := by
          unfold prZ
          rw [hs]
          simp only [List.getD]
          rw [List.getElem?_append_left c, List.getElem?_eq_getElem c]; rfl
        have := a1 F1[i] (List.getElem_mem c)
        rw [e] at g2
        omega
      · exact c
      · exfalso
        have e : prA h F i = F2[i - 1 - F1.length]'(by omega) := by
          have hj : i - 1 - F1.length < F2.length := by omega
          unfold prA
          rw [if_neg (by omega), congrArg (fun G : List Ck => G.getD (i - 1) (ckLong h)) hs]
          simp only [List.getD]
          rw [List.getElem?_append_right (by omega), List.getElem?_eq_getElem (by omega)]; rfl
        have := a2 (F2[i - 1 - F1.length]'(by omega)) (List.getElem_mem _)
        rw [e] at g1
        omega
    subst this
    exact hg
  · intro hg
    exact ⟨F1.length, by omega, hg, htA, htZ⟩
theorem ofH_asc {h : Int} {l : List Ck} (ha : AscK l) : AscK (ofH h l) := List.Pairwise.filter _ ha
/-- Whether a tick is safe for the heads 1 to n. -/
def sfB (l : List Ck) (H : List Int) (t : Int) : Bool := H.all fun h => sfK (ofH h l) t
theorem safe_iff {l : List Ck} {H : List Int} {t : Int} (ha : AscK l) (h0 : -100000000 ≤ t) (h1 : t ≤ 100000000) : UnsafeK l H t ↔ sfB l H t = false := by
  unfold sfB UnsafeK
  rw [List.all_eq_false]
  constructor
  · rintro ⟨h, hh, p, hp, g1, g2, g3⟩
    refine ⟨h, hh, ?_⟩
    rw [prL_of] at hp
    obtain ⟨i, hi, rfl⟩ := List.mem_map.1 hp
    have := (sfK_iff (h := h) (ofH_asc ha) h0 h1).1 ⟨i, List.mem_range.1 hi, g1, g2, g3⟩
    rw [this]; simp
  · rintro ⟨h, hh, g⟩
    have g' : sfK (ofH h l) t = false := by simpa using g
    obtain ⟨i, hi, g1, g2, g3⟩ := (sfK_iff (h := h) (ofH_asc ha) h0 h1).2 g'
    refine ⟨h, hh, (prA h (ofH h l) i, prZ h (ofH h l) i), ?_, g1, g2, g3⟩
    rw [prL_of]
    exact List.mem_map.2 ⟨i, List.mem_range.2 hi, rfl⟩
/-- No stretch is left of one tick exactly if it is safe. -/
theorem none_iff {m : List Pr} {l : List Ck} {H : List Int} {t : Int} (hm : Uni m (allT hdF t (t + 1) l H)) (ha : AscK l) (h0 : 0 ≤ t) (h1 : t ≤ 100000000) : decide (m.length = 0) = sfB l H t := by
  cases hs : sfB l H t
  · refine decide_eq_false fun hl => ?_
    have hu := (safe_iff ha (by omega) h1).2 hs
    have : inP m t := (hm.same t).2 ((held_iff h0).2 ⟨Int.le_refl _, by omega, hu⟩)
    rw [List.length_eq_zero_iff.1 hl] at this
    exact inP_nil this
  · refine decide_eq_true ?_
    rcases m with _ | ⟨p, m⟩
    · rfl
    · exfalso
      have hp : inP (p :: m) p.x := inP_cons.2 (.inl ⟨Int.le_refl _, hm.can.one⟩)
      obtain ⟨q1, q2, q3⟩ := (held_iff h0).1 ((hm.same p.x).1 hp)
      obtain rfl : p.x = t := by omega
      rw [(safe_iff ha (by omega) h1).1 q3] at hs
      cases hs
/-- The error of Safe. -/
def sfC (n : Nm) (l : List Sh) (hd t : Int) : Int := if nmB n && shsB l then (if inB hd 1 12 && inB t 0 100000000 then 0 else 7) else 1
/-- What Safe answers. -/
def sfA (n : Nm) (l : List Sh) (hd t : Int) : Bool := decide (sfC n l hd t = 0) && sfB (cksL (goodB n) l) (upL hd.toNat) t
theorem sf_no {n : Nm} {l : List Sh} {hd t : Int} {c : Int} (hc : sfC n l hd t = c) (h0 : c ≠ 0) {w w' : World} (hb : Below w.heap.size w w') : BoolP (sfA n l hd t) (sfC n l hd t) w (.returned (.tuple #[.bool false, .int .i64 c])) w' := by
  refine ⟨?_, hb⟩
  rw [hc, show sfA n l hd t = false by unfold sfA; rw [hc, decide_eq_false h0]; rfl]
set_option maxRecDepth 20000 in
set_option maxHeartbeats 8000000 in
theorem safe_any (n : Nm) (v : Value) (l : List Sh) (hd t : Int) (w : World) (hr : RowH w v l) (hl : l.length ≤ 500) : Calls Try.prog 15 #[.agg #[.int .i64 n.bl, .int .i64 n.bh, .int .i64 n.cl, .int .i64 n.ch, .int .i64 n.pc, .int .i64 n.wr, .int .i64 n.tl, .int .i64 n.th, .int .i64 n.sl, .int .i64 n.sh], v, .int .i64 hd, .int .i64 t] w (BoolP (sfA n l hd t) (sfC n l hd t) w) := by
  have HB0 := hid ((Below.refl w.heap.size w).alloc (Nat.le_refl _) (.cells #[.int .i64 n.bl, .int .i64 n.bh, .int .i64 n.cl, .int .i64 n.ch, .int .i64 n.pc, .int .i64 n.wr, .int .i64 n.tl, .int .i64 n.th, .int .i64 n.sl, .int .i64 n.sh] 23))
  have HBX := hid (box1_start (w := w) (A := #[.int .i64 n.bl, .int .i64 n.bh, .int .i64 n.cl, .int .i64 n.ch, .int .i64 n.pc, .int .i64 n.wr, .int .i64 n.tl, .int .i64 n.th, .int .i64 n.sl, .int .i64 n.sh]) (T := 23) (fz := (0, 0)))
  obtain ⟨A, hA⟩ : ∃ A, nmB n = A := ⟨_, rfl⟩
  obtain ⟨B, hB⟩ : ∃ B, shsB l = B := ⟨_, rfl⟩
  obtain ⟨C, hC⟩ : ∃ C, inB hd 1 12 = C := ⟨_, rfl⟩
  obtain ⟨D, hD⟩ : ∃ D, inB t 0 100000000 = D := ⟨_, rfl⟩
  have HNM := hid hA
  have HV := hid (show sfC n l hd t = if A && B then (if C && D then 0 else 7) else 1 by rw [← hA, ← hB, ← hC, ← hD]; rfl)
  have HR := hid (fun w1 (g : Below w.heap.size w w1) => hr.keep g)
  have HCS := hid (fun w1 (g : Below w.heap.size w w1) => ksheets_any v l w1 (hr.keep g))
  have HCH := hid (fun w1 => khead_any hd w1)
  have HCR := hid (fun w1 => kwithin_any t 0 100000000 w1)
  rw [hB] at HCS
  rw [hC] at HCH
  rw [hD] at HCR
  clear hr
  cases A
  · clear hA hB hC hD
    go_enter Try.func15, Try.ntmps15
    go_wp2_with fail
    refine (knorm_any n _).mono ?_
    rintro e w1 ⟨rfl, hb⟩
    rw [HNM.out]
    have HB1 := hid (bstep HB0.out HB0.out.size hb)
    have HX1 := hid (HBX.out.keep hb)
    clear hb
    go_wp2_with fail
    refine bodyPost_ret (v := .tuple #[.bool false, .int .i64 1]) (by simp [results, Try.results15, go_sem]) rfl ?_
    exact sf_no (by rw [HV.out]; rfl) (by decide) HB1.out
  cases B
  · clear hA hB hC hD
    go_enter Try.func15, Try.ntmps15
    go_wp2_with fail
    refine (knorm_any n _).mono ?_
    rintro e w1 ⟨rfl, hb⟩
    rw [HNM.out]
    have HB1 := hid (bstep HB0.out HB0.out.size hb)
    have HX1 := hid (HBX.out.keep hb)
    clear hb
    go_wp2_with fail
    refine (HCS.out _ HB1.out).mono ?_
    rintro e w2 ⟨rfl, hb⟩
    have HB2 := hid (bstep HB1.out HB1.out.size hb)
    have HX2 := hid (HX1.out.keep hb)
    clear hb
    go_wp2_with fail
    refine bodyPost_ret (v := .tuple #[.bool false, .int .i64 1]) (by simp [results, Try.results15, go_sem]) rfl ?_
    exact sf_no (by rw [HV.out]; rfl) (by decide) HB2.out
  cases C
  · clear hA hB hC hD
    go_enter Try.func15, Try.ntmps15
    go_wp2_with fail
    refine (knorm_any n _).mono ?_
    rintro e w1 ⟨rfl, hb⟩
    rw [HNM.out]
    have HB1 := hid (bstep HB0.out HB0.out.size hb)
    have HX1 := hid (HBX.out.keep hb)
    clear hb
    go_wp2_with fail
    refine (HCS.out _ HB1.out).mono ?_
    rintro e w2 ⟨rfl, hb⟩
    have HB2 := hid (bstep HB1.out HB1.out.size hb)
    have HX2 := hid (HX1.out.keep hb)
    clear hb
    go_wp2_with fail
    refine (HCH.out _).mono ?_
    rintro e w3 ⟨rfl, rfl⟩
    go_wp2_with fail
    refine bodyPost_ret (v := .tuple #[.bool false, .int .i64 7]) (by simp [results, Try.results15, go_sem]) rfl ?_
    exact sf_no (by rw [HV.out]; rfl) (by decide) HB2.out
  cases D
  · clear hA hB hC hD
    go_enter Try.func15, Try.ntmps15
    go_wp2_with fail
    refine (knorm_any n _).mono ?_
    rintro e w1 ⟨rfl, hb⟩
    rw [HNM.out]
    have HB1 := hid (bstep HB0.out HB0.out.size hb)
    have HX1 := hid (HBX.out.keep hb)
    clear hb
    go_wp2_with fail
    refine (HCS.out _ HB1.out).mono ?_
    rintro e w2 ⟨rfl, hb⟩
    have HB2 := hid (bstep HB1.out HB1.out.size hb)
    have HX2 := hid (HX1.out.keep hb)
    clear hb
    go_wp2_with fail
    refine (HCH.out _).mono ?_
    rintro e w3 ⟨rfl, rfl⟩
    go_wp2_with fail
    refine (HCR.out _).mono ?_
    rintro e w3 ⟨rfl, rfl⟩
    go_wp2_with fail
    refine bodyPost_ret (v := .tuple #[.bool false, .int .i64 7]) (by simp [results, Try.results15, go_sem]) rfl ?_
    exact sf_no (by rw [HV.out]; rfl) (by decide) HB2.out
  obtain ⟨g1, g2⟩ := inB_iff.1 hD
  obtain ⟨h1, h2⟩ := inB_iff.1 hC
  have HSA := hid (shs_all hB)
  have HAS := hid (shs_asc (G := goodB n) hB)
  have HL := hid hl
  obtain ⟨H, hH⟩ : ∃ H : Nat, (H : Int) = hd := ⟨hd.toNat, by omega⟩
  have HH12 := hid (show H ≤ 12 by omega)
  have hHN : hd.toNat = H := by omega
  have HAN := hid (show sfA n l hd t = sfB (cksL (goodB n) l) (upL H) t by unfold sfA; rw [HV.out, hHN]; rfl)
  clear hA hB hC hD hl hHN
  rw [HAN.out, HV.out]
  clear HAN HV
  subst hH
  have htw : IntKind.i64.wrap (t + 1) = t + 1 := IntWalk.i64_in _ ⟨by omega, by omega⟩
  go_enter Try.func15, Try.ntmps15
  go_wp2_with fail
  refine (knorm_any n _).mono ?_
  rintro e w1 ⟨rfl, hb⟩
  rw [HNM.out]
  have HB1 := hid (bstep HB0.out HB0.out.size hb)
  have HX1 := hid (HBX.out.keep hb)
  clear hb
  go_wp2_with fail
  refine (HCS.out _ HB1.out).mono ?_
  rintro e w2 ⟨rfl, hb⟩
  have HB2 := hid (bstep HB1.out HB1.out.size hb)
  have HX2 := hid (HX1.out.keep hb)
  clear hb
  go_wp2_with fail
  refine (HCH.out _).mono ?_
  rintro e w3 ⟨rfl, rfl⟩
  go_wp2_with fail
  refine (HCR.out _).mono ?_
  rintro e w3 ⟨rfl, rfl⟩
  have hn0 := HX2.out.fst 0
  have hn1 := HX2.out.fst 1
  have hn2 := HX2.out.fst 2
  have hn3 := HX2.out.fst 3
  have hn4 := HX2.out.fst 4
  have hn5 := HX2.out.fst 5
  have hn6 := HX2.out.fst 6
  have hn7 := HX2.out.fst 7
  have hn8 := HX2.out.fst 8
  have hn9 := HX2.out.fst 9
  simp only [List.getElem?_toArray, List.getElem?_cons_zero, List.getElem?_cons_succ] at hn0 hn1 hn2 hn3 hn4 hn5 hn6 hn7 hn8 hn9
  go_wp2_with fail
  refine (goodBy_any n _).mono ?_
  rintro e w4 ⟨q1, fv, rfl, hq1, hF, hb⟩
  have HQ1 := hid hq1
  have HF := hid hF
  have HB4 := hid (bstep HB2.out HB2.out.size hb)
  clear hb hq1 hF hn0 hn1 hn2 hn3 hn4 hn5 hn6 hn7 hn8 hn9
  go_wp2_with fail
  refine (checksG_any n _ l q1 fv w4 (HR.out _ HB4.out) (by have := HL.out; omega) HSA.out HQ1.out HF.out).mono ?_
  rintro e w5 ⟨u1, rfl, hu1, hb⟩
  obtain ⟨ua1, uc1, rfl⟩ := ownK_shape hu1
  have HU1 := hid hu1
  have HB5 := hid (bstep HB4.out HB4.out.size hb)
  clear hb hu1
  go_wp2_with fail
  refine (upto_any H w5 HH12.out).mono ?_
  rintro e w6 ⟨u2, rfl, hu2, hb⟩
  obtain ⟨ua2, uc2, rfl⟩ := ownJ_shape hu2
  have hb6 := (Below.refl w6.heap.size w6).alloc (Nat.le_refl _) (.cells #[.slice ua1 (cksL (goodB n) l).length uc1, .slice ua2 (upL H).length uc2] 61)
  have HHE := hid (held_any (cksL (goodB n) l) _ _ (upL H) t (t + 1) _ ((HU1.out.keep hb).keep hb6).row (hu2.rowI.keep hb6) (by rw [cksL_len]; have := HL.out; omega) (by rw [upL_len]; exact HH12.out))
  have HB6 := hid (bstep (bstep HB5.out HB5.out.size hb) (bstep HB5.out HB5.out.size hb).size hb6)
  clear hb hu2 hb6
  obtain ⟨x0, x1⟩ := clo_cell (w := w6) (a := .slice ua1 (cksL (goodB n) l).length uc1) (b := .slice ua2 (upL H).length uc2) (T := 61) rfl
  go_wp2_with fail
  clear x0 x1
  refine HHE.out.mono ?_
  rintro e w7 ⟨u, m, rfl, hm, ho, hb⟩
  have HM := hid (none_iff hm HAS.out g1 g2)
  have HB7 := hid (bstep HB6.out HB6.out.size hb)
  obtain ⟨ua, uc, rfl⟩ := ownX_shape ho
  clear hm ho hb HHE
  generalize sfB (cksL (goodB n) l) (upL H) t = Z at *
  generalize m.length = M at *
  by_cases h0 : M = 0
  · obtain rfl : Z = true := by rw [← HM.out]; exact decide_eq_true h0
    subst h0
    go_wp2_with fail
    go_ret2
    exact ⟨rfl, HB7.out⟩
  · obtain rfl : Z = false := by rw [← HM.out]; exact decide_eq_false h0
    have hb0 : ((M : Int) == 0) = false := by simp; omega
    have hb1 : (M == 0) = false := by simp; omega
    clear h0
    go_wp2_with fail
    go_ret2
    exact ⟨by simp, HB7.out⟩
end Go.Proofs.Ytjfakhfkbnnbcaa
