/- Texts of this seat, one behind the other. -/
import Derived.Test.YtihbjimnjhfpeaaGreatG18
import Derived.Test.YtihbjimnjhfpeaaGreatG31
import Derived.Test.YtihbjimnjhfpeaaGreatG33
/- Plain facts: where a can conducts one way all along, more ticks at a bath that is no colder than the cooling never lose. -/
namespace Go.Proofs.YtihbjimnjhfpeaaGreat
open Go.RowKit

/-- Two dishes that conduct the same way all along, one nowhere hotter and with no more than the other. -/
structure LeQ (c : Cn) (d e : Dish) : Prop where
  w1 : Warm c d.1
  w2 : Warm c e.1
  br : e.1.2 = d.1.2
  way : c.K = 0 ∨ d.1.2 = true
  l1 : d.2.length = c.P
  l2 : e.2.length = c.P
  t : leL d.1.1 e.1.1
  s : leN d.2 e.2
theorem tickS_way {c : Cn} {x : Bd} {b : Int} (h : c.K = 0 ∨ x.2 = true) : tickS c x b = (tickT c.R c.L (c.a x.2) (c.b x.2) x.1 b, x.2) := by
  unfold tickS brk
  rcases h with h | h <;> simp [h]
theorem LeQ.tick {c : Cn} {f : Int → Nat} {d e : Dish} {b b' : Int} (hc : c.Ok) (hf : ∀ t u : Int, t ≤ u → f t ≤ f u) (h : LeQ c d e) (hb : okT b = true) (hb' : okT b' = true) (hle : b ≤ b') : LeQ c (dishT c f d b) (dishT c f e b') := by
  obtain ⟨a1, a2, a3⟩ := hc.ra d.1.2
  have hb : -50000 ≤ b ∧ b ≤ 200000 := by simpa [okT] using hb
  have hb' : -50000 ≤ b' ∧ b' ≤ 200000 := by simpa [okT] using hb'
  have hw1 := h.w1.tick hc hb.1 hb.2
  have hw2 := h.w2.tick hc hb'.1 hb'.2
  have hts := tickT_le a1 a2 a3 h.w1.len h.w2.len h.t hle
  have q1 := tickS_way (b := b) h.way
  have q2 := tickS_way (c := c) (x := e.1) (b := b') (by rw [h.br]; exact h.way)
  rw [h.br] at q2
  unfold dishT
  have e1 := hw1.len
  have e2 := hw2.len
  rw [q1] at hw1 e1
  rw [q2] at hw2 e2
  rw [q1, q2]
  simp only at e1 e2
  have hP : c.P = c.R * c.L := rfl
  exact ⟨hw1, hw2, rfl, h.way, by show (addD f d.2 _).length = _; rw [addD_len (by rw [h.l1, e1, hP])]; exact h.l1, by show (addD f e.2 _).length = _; rw [addD_len (by rw [h.l2, e2, hP])]; exact h.l2, hts, addD_le hf (by rw [h.l1, e1, hP]) (by rw [h.l2, e2, hP]) h.s hts (by rw [e1, e2])⟩
theorem LeQ.run {c : Cn} {f : Int → Nat} (hc : c.Ok) (hf : ∀ t u : Int, t ≤ u → f t ≤ f u) : ∀ (l m : List Int) (d e : Dish), l.length = m.length → leL l m → okL l = true → okL m = true → LeQ c d e → LeQ c (dishR c f d l) (dishR c f e m)
  | [], [], _, _, _, _, _, _, h => h
  | [], _ :: _, _, _, hl, _, _, _, _ => by simp at hl
  | _ :: _, [], _, _, hl, _, _, _, _ => by simp at hl
  | b :: l, b' :: m, d, e, hl, hle, ho, ho', h => by
    unfold okL at ho ho'
    rw [List.all_cons, Bool.and_eq_true] at ho ho'
    exact LeQ.run hc hf l m (dishT c f d b) (dishT c f e b') (by simpa using hl) (fun i a c => hle (i + 1) (by simpa using a) (by simpa using c)) ho.2 ho'.2 (h.tick hc hf ho.1 ho'.1 (hle 0 (by simp) (by simp)))
theorem LeQ.low {c : Cn} {d e : Dish} (hc : c.Ok) (h : LeQ c d e) : minA (ivN d.2) ≤ minA (ivN e.2) :=
  lowD_le (by rw [h.l1]; exact hc.p.1) (by rw [h.l1, h.l2]) h.s
theorem Good.warm {c : Cn} {d : Dish} (h : Good c d) : Warm c d.1 := by
  obtain ⟨h1, _, h3⟩ := bodyV_iff.1 h.body
  exact ⟨h1, okL_bd h3⟩
theorem leq_refl {c : Cn} {d : Dish} (hG : Good c d) (hw : c.K = 0 ∨ d.1.2 = true) : LeQ c d d :=
  ⟨hG.warm, hG.warm, rfl, hw, hG.len, hG.len, fun _ _ _ => Int.le_refl _, fun _ _ _ => Nat.le_refl _⟩
theorem way_run {c : Cn} {f : Int → Nat} : ∀ (l : List Int) (d : Dish), (c.K = 0 ∨ d.1.2 = true) → (c.K = 0 ∨ (dishR c f d l).1.2 = true)
  | [], _, h => h
  | b :: l, d, h => way_run l (dishT c f d b) (by
    show c.K = 0 ∨ (tickS c d.1 b).2 = true
    rw [tickS_way h]
    exact h)
theorem dishR_cons (c : Cn) (f : Int → Nat) (d : Dish) (b : Int) (l : List Int) : dishR c f d (b :: l) = dishR c f (dishT c f d b) l := rfl
/-- One tick more at the bath never loses. -/
theorem tstC_succ {c : Cn} {f : Int → Nat} {D : Dish} {need bath cold : Int} {cooling n : Nat} (hc : c.Ok) (hf : ∀ t u : Int, t ≤ u → f t ≤ f u) (hG : Good c D) (hb : okT bath = true) (hk : okT cold = true) (hr : risB c D bath cold = true) (h : tstC c f D need bath cold cooling n = true) : tstC c f D need bath cold cooling (n + 1) = true := by
  unfold risB at hr
  rw [Bool.and_eq_true, Bool.or_eq_true, decide_eq_true_eq, decide_eq_true_eq] at hr
  unfold tstC at *
  rw [afN_succ]
  have hX : Good c (afN c f D bath n) := afN_good n hc hG hb
  have hw : c.K = 0 ∨ (afN c f D bath n).1.2 = true := way_run _ _ hr.1
  generalize afN c f D bath n = X at *
  match cooling with
  | 0 =>
    rw [afN_zero] at h ⊢
    exact enD_tick hc hX hb h
  | m + 1 =>
    have hle : leL (cold :: List.replicate m cold) (bath :: List.replicate m cold) := fun i a d => by
      cases i with
      | zero => exact hr.2
      | succ i => exact Int.le_refl _
    have hq := LeQ.run hc hf (cold :: List.replicate m cold) (bath :: List.replicate m cold) X X (by simp) hle (by simp [okL, hk]) (by simp [okL, hk, hb]) (leq_refl hX hw)
    have h2 : enD need (afN c f (dishT c f X bath) cold m) = true := by
      unfold enD at *
      rw [decide_eq_true_eq] at *
      exact Int.le_trans h (hq.low hc)
    exact enD_run hc (hX.tick hc hb) hk (Nat.le_succ m) h2
theorem tstC_mono {c : Cn} {f : Int → Nat} {D : Dish} {need bath cold : Int} {cooling : Nat} (hc : c.Ok) (hf : ∀ t u : Int, t ≤ u → f t ≤ f u) (hG : Good c D) (hb : okT bath = true) (hk : okT cold = true) (hr : risB c D bath cold = true) {j n : Nat} (hjn : j ≤ n) (h : tstC c f D need bath cold cooling j = true) : tstC c f D need bath cold cooling n = true := by
  induction n with
  | zero => obtain rfl : j = 0 := by omega
            exact h
  | succ n ih =>
    rcases Nat.lt_or_ge j (n + 1) with h1 | h1
    · exact tstC_succ hc hf hG hb hk hr (ih (by omega))
    · obtain rfl : j = n + 1 := by omega
      exact h
end Go.Proofs.YtihbjimnjhfpeaaGreat

/- Walks of the reference's Cook, enoughTicks, Proved: contracts. -/
namespace Go.Proofs.YtihbjimnjhfpeaaGreat
open Go.RowKit Go.Lib

theorem cookB_eq (t n cold cooling : Int) : cookB t n cold cooling = ((((okT t && okT cold) && tick1 n) && tick1 cooling) && !decide (2000 < n + cooling)) := by
  unfold cookB
  rw [Bool.eq_iff_iff]
  simp only [okL, List.all_cons, List.all_nil, Bool.and_true, Bool.and_eq_true, ticksB_two, tick1, decide_eq_true_eq, Bool.not_eq_true', decide_eq_false_iff_not]
  cases okT t <;> cases okT cold <;> simp <;> omega
theorem own_kept2 {w w' : World} {base e n : Nat} {v : Value} {xs : List Value} (h : w.ownsRow base e 1 v n xs) (hb : Below w.heap.size w w') : w'.ownsRow base e 1 v n xs := own_kept h hb
set_option maxRecDepth 20000 in
set_option maxHeartbeats 4000000 in
theorem xcook_any (t n cold cooling : Int) (w : World) : Calls Tryz.prog 38 #[.int .i64 t, .int .i64 n, .int .i64 cold, .int .i64 cooling] w (CookP t n cold cooling w) := by
  have HQ := hid (cookB_eq t n cold cooling)
  have HW1 : Hid (∀ W, Calls Tryz.prog 36 #[.int .i64 t] W fun e w' => e = .returned (.bool (okT t)) ∧ W = w') := fun W => warm_any t W
  have HW2 : Hid (∀ W, Calls Tryz.prog 36 #[.int .i64 cold] W fun e w' => e = .returned (.bool (okT cold)) ∧ W = w') := fun W => warm_any cold W
  have HW3 : Hid (∀ W, Calls Tryz.prog 48 #[.int .i64 n, .int .i64 0, .int .i64 2000] W fun e w' => e = .returned (.bool (tick1 n)) ∧ W = w') := fun W => xin_any n 0 2000 W
  have HW4 : Hid (∀ W, Calls Tryz.prog 48 #[.int .i64 cooling, .int .i64 0, .int .i64 2000] W fun e w' => e = .returned (.bool (tick1 cooling)) ∧ W = w') := fun W => xin_any cooling 0 2000 W
  have HNO : Hid (cookB t n cold cooling = false → CookP t n cold cooling w (.returned (.tuple #[.slice none 0 0, .int .i64 7])) w) := fun h => by
    refine ⟨.slice none 0 0, by rw [h]; rfl, ?_, Below.refl _ _⟩
    unfold cookL
    rw [h]
    exact .inl ⟨none, 0, rfl, rfl⟩
  obtain ⟨b1, hb1⟩ : ∃ B, B = okT t := ⟨_, rfl⟩
  obtain ⟨b2, hb2⟩ : ∃ B, B = okT cold := ⟨_, rfl⟩
  obtain ⟨b3, hb3⟩ : ∃ B, B = tick1 n := ⟨_, rfl⟩
  obtain ⟨b4, hb4⟩ : ∃ B, B = tick1 cooling := ⟨_, rfl⟩
  have HT3 := hid (show b3 = true → 0 ≤ n ∧ n ≤ 2000 by rw [hb3]; simp [tick1])
  have HT4 := hid (show b4 = true → 0 ≤ cooling ∧ cooling ≤ 2000 by rw [hb4]; simp [tick1])
  rw [← hb1] at HW1 HQ
  rw [← hb2] at HW2 HQ
  rw [← hb3] at HW3 HQ
  rw [← hb4] at HW4 HQ
  clear hb1 hb2 hb3 hb4
  go_enter Tryz.func38, Tryz.ntmps38
  go_wp2_with fail
  refine (HW1.out _).mono ?_
  rintro e w3 ⟨rfl, rfl⟩
  cases b1
  · go_wp2_with fail
    refine bodyPost_ret (v := .tuple #[.slice none 0 0, .int .i64 7]) (by simp [results, Tryz.results38, go_sem]) rfl (HNO.out (by rw [HQ.out]; rfl))
  go_wp2_with fail
  refine (HW2.out _).mono ?_
  rintro e w3 ⟨rfl, rfl⟩
  cases b2
  · go_wp2_with fail
    refine bodyPost_ret (v := .tuple #[.slice none 0 0, .int .i64 7]) (by simp [results, Tryz.results38, go_sem]) rfl (HNO.out (by rw [HQ.out]; rfl))
  go_wp2_with fail
  refine (HW3.out _).mono ?_
  rintro e w3 ⟨rfl, rfl⟩
  cases b3
  · go_wp2_with fail
    refine bodyPost_ret (v := .tuple #[.slice none 0 0, .int .i64 7]) (by simp [results, Tryz.results38, go_sem]) rfl (HNO.out (by rw [HQ.out]; rfl))
  go_wp2_with fail
  refine (HW4.out _).mono ?_
  rintro e w3 ⟨rfl, rfl⟩
  cases b4
  · go_wp2_with fail
    refine bodyPost_ret (v := .tuple #[.slice none 0 0, .int .i64 7]) (by simp [results, Tryz.results38, go_sem]) rfl (HNO.out (by rw [HQ.out]; rfl))
  obtain ⟨n1, n2⟩ := HT3.out (by trivial)
  obtain ⟨m1, m2⟩ := HT4.out (by trivial)
  cases h5 : decide (2000 < n + cooling)
  case true =>
    rw [h5] at HQ
    go_wp2_with fail
    refine bodyPost_ret (v := .tuple #[.slice none 0 0, .int .i64 7]) (by simp [results, Tryz.results38, go_sem]) rfl (HNO.out (by rw [HQ.out]; rfl))
  have HYES : Hid (cookB t n cold cooling = true) := by refine hid ?_; rw [HQ.out, h5]; rfl
  have h5' : ¬ 2000 < n + cooling := by simpa using h5
  have HCL := hid (show cookL t n cold cooling = List.replicate n.toNat t ++ List.replicate cooling.toNat cold by unfold cookL; rw [if_pos HYES.out])
  clear HQ HNO HT3 HT4 HW1 HW2 HW3 HW4
  obtain ⟨n', rfl⟩ := Int.eq_ofNat_of_zero_le n1
  obtain ⟨m', rfl⟩ := Int.eq_ofNat_of_zero_le m1
  rw [Int.toNat_natCast, Int.toNat_natCast] at HCL
  have HB := hid (show n' ≤ 2000 ∧ m' ≤ 2000 ∧ n' + m' ≤ 2000 by omega)
  obtain ⟨i0, hi, hz0, hz1, hz2⟩ := info_parts infoQc
  have HR1 := hid (fun W => xrep_any t n' W HB.out.1)
  have HR2 := hid (fun W => xrep_any cold m' W HB.out.2.1)
  have HLN := hid (show (List.replicate n' t).length = n' ∧ (List.replicate m' cold).length = m' by simp)
  generalize List.replicate n' t = F1 at *
  generalize List.replicate m' cold = F2 at *
  go_wp2_with fail
  refine (HR1.out _).mono ?_
  rintro e w1 ⟨v1, rfl, ho1, hb1⟩
  have HO1 := hid ho1
  have HB1 := hid hb1
  obtain ⟨a1, c1, rfl⟩ := own_shapeP ho1
  clear ho1 hb1
  go_wp2_with fail
  refine (HR2.out _).mono ?_
  rintro e w2 ⟨v2, rfl, ho2, hb2⟩
  have HO2 := hid (own_kept2 HO1.out hb2)
  have HB2 := hid (bstep HB1.out HB1.out.size hb2)
  have HI2 := hid (NewI.rowI ho2 (by rw [HLN.out.2]; have := HB.out; omega))
  obtain ⟨a2, c2, rfl⟩ := own_shapeP ho2
  clear ho2 hb2
  go_wp2_with (at_builtin; (refine wpList_app rfl (.tmp 36) (.tmp 39) 28 rfl w.heap.size 3 i0 Tryz.underlying28 hi hz0 hz1 hz2 _ (ivs F1) rfl HO2.out _ F2 rfl HI2.out.src (by rw [ivs_len, HLN.out.1, HLN.out.2]; have := HB.out; omega) HB2.out.size ?_); intro v3 w6 hA1; have HB6 := hid (app_low HB2.out HO2.out (Nat.le_refl _) hA1); have HO6 := hid (app_next hA1); obtain ⟨a3, c3, rfl⟩ := own_shapeP HO6.out; clear hA1)
  refine bodyPost_ret (v := .tuple #[.slice a3 (F1 ++ F2).length c3, .int .i64 0]) (by simp [results, Tryz.results38, go_sem]) rfl ?_
  refine ⟨_, by rw [HYES.out]; rfl, ?_, HB6.out⟩
  rw [HCL.out]
  exact own_rowI HO6.out (by rw [List.length_append, HLN.out.1, HLN.out.2]; have := HB.out; omega)
end Go.Proofs.YtihbjimnjhfpeaaGreat

/- Walk of the reference's Proved: contract. -/
namespace Go.Proofs.YtihbjimnjhfpeaaGreat
open Go.RowKit Go.Lib

theorem cookB_le {t bath n cold cooling : Int} (h : (((okT t && okT bath) && okT cold) && tick1 cooling) = true) : cookB bath n cold cooling = (decide (0 ≤ n) && decide (n ≤ 2000 - cooling)) := by
  rw [cookB_eq]
  simp only [Bool.and_eq_true] at h
  obtain ⟨⟨⟨_, h2⟩, h3⟩, h4⟩ := h
  rw [h2, h3, h4]
  unfold tick1 at h4 ⊢
  simp only [Bool.and_eq_true, decide_eq_true_eq] at h4
  rw [Bool.eq_iff_iff]
  simp only [Bool.and_eq_true, decide_eq_true_eq, Bool.not_eq_true', decide_eq_false_iff_not, true_and, and_true]
  omega
theorem sterP_err {r l a b k a2 b2 : Int} {q : Kl} {t bath cold cooling : Int} (h : leE (canB r l a b k a2 b2) q.vB t bath cold cooling ≠ 0) (n : Int) : sterP r l a b k a2 b2 q t bath cold cooling n = false := by
  unfold sterP sterO
  unfold leE at h
  split at h
  · rename_i h1
    rw [chk4_no (by rw [Bool.and_comm]; exact h1)]
    simp
  · split at h
    · rename_i h1 h2
      by_cases ho : okT t = true
      · have hc : cookB bath n cold cooling = false := by
          rw [cookB_eq]
          cases hb : okT bath
          · rfl
          cases hk : okT cold
          · rfl
          rw [ho, hb, hk] at h2
          simp only [Bool.true_and] at h2
          rw [h2]
          simp
        rw [hc]; rfl
      · rw [chk4_far (by rw [Bool.and_comm]; simpa using h1) (by simp at ho; rw [ho]; rfl)]
        simp
    · exact absurd rfl h
theorem leE_zero {vc vk : Bool} {t bath cold cooling : Int} (h : leE vc vk t bath cold cooling = 0) : (((okT t && okT bath) && okT cold) && tick1 cooling) = true := by
  unfold leE at h
  split at h
  · cases h
  · split at h
    · cases h
    · rename_i h2
      cases hx : (((okT t && okT bath) && okT cold) && tick1 cooling) with
      | true => rfl
      | false => exact absurd hx h2
end Go.Proofs.YtihbjimnjhfpeaaGreat

/- Walks of Mended's and Least's errors; Least and Mended where the law looks: contracts. -/
namespace Go.Proofs.YtihbjimnjhfpeaaGreat
open Go.RowKit Go.Lib

/-- The first error of Mended. -/
def mendE (vc vk : Bool) (t bath cold cooling : Int) (p : List Int) : Int := if (vk && vc) = false then 1 else if (okL [bath, cold] && ticksB [cooling]) = false then 7 else chk4 vc vk t p
theorem ticksB_one (x : Int) : ticksB [x] = tick1 x := by
  rw [Bool.eq_iff_iff]
  constructor <;> intro h <;> simp [ticksB, tick1] at h ⊢ <;> omega
theorem mendE_zero {vc vk : Bool} {t bath cold cooling : Int} {p : List Int} (h : mendE vc vk t bath cold cooling p = 0) : chk4 vc vk t p = 0 ∧ okT bath = true ∧ okT cold = true ∧ 0 ≤ cooling ∧ cooling ≤ 2000 := by
  unfold mendE at h
  split at h
  · cases h
  · split at h
    · cases h
    · rename_i h2
      rw [ticksB_one] at h2
      have h3 : (okL [bath, cold] && tick1 cooling) = true := by simpa using h2
      simp only [okL, List.all_cons, List.all_nil, Bool.and_true, Bool.and_eq_true, tick1, decide_eq_true_eq] at h3
      exact ⟨h, h3.1.1, h3.1.2, h3.2.1, h3.2.2⟩
/-- The reference's order of errors gives the same. -/
theorem mendE_ref {vc vk : Bool} {t bath cold cooling : Int} {p : List Int} : (if (vc && vk) = false then (1 : Int) else if leE vc vk t bath cold cooling ≠ 0 then leE vc vk t bath cold cooling else chk4 vc vk t p) = mendE vc vk t bath cold cooling p := by
  unfold mendE
  rw [Bool.and_comm vc vk, ticksB_one]
  cases hv : (vk && vc)
  · rfl
  · simp only [Bool.true_eq_false, if_false]
    unfold leE
    rw [Bool.and_comm vc vk, hv]
    simp only [Bool.true_eq_false, if_false]
    have hL : okL [bath, cold] = (okT bath && okT cold) := by simp [okL]
    rw [hL]
    cases ht : okT t
    · have hc : chk4 vc vk t p = 7 := chk4_far hv (by rw [ht]; rfl)
      rw [hc]
      simp
    · cases okT bath <;> cases okT cold <;> cases tick1 cooling <;> simp
set_option maxRecDepth 20000 in
set_option maxHeartbeats 4000000 in
theorem med_err (r l a b k a2 b2 : Int) (w : World) (q : Kl) (t bath cold cooling : Int) (v : Value) (p : List Int) (hs : q.s.size ≤ maxLen) (hl : RowI w v p) (hpm : p.length ≤ maxLen) (hne : mendE (canB r l a b k a2 b2) q.vB t bath cold cooling p ≠ 0) :
    Calls Tryz.prog 31 #[.agg #[.int .i64 r, .int .i64 l, .int .i64 a, .int .i64 b, .int .i64 k, .int .i64 a2, .int .i64 b2], .agg #[.string q.s, .int .i64 q.r, .int .i64 q.z, .int .i64 q.d, .int .i64 q.g], .int .i64 t, .int .i64 bath, .int .i64 cold, .int .i64 cooling, v] w fun e w' => e = .returned (.tuple #[.int .i64 0, .int .i64 (mendE (canB r l a b k a2 b2) q.vB t bath cold cooling p)]) ∧ Below w.heap.size w w' := by
  have HX := hid (box2_start (w := w) (A := #[.int .i64 r, .int .i64 l, .int .i64 a, .int .i64 b, .int .i64 k, .int .i64 a2, .int .i64 b2]) (B := #[.string q.s, .int .i64 q.r, .int .i64 q.z, .int .i64 q.d, .int .i64 q.g]) (T := 23) (T' := 25) (fz := (0, 0)) (fz' := (0, 0)))
  have HL := hid (fun w1 (g : Below w.heap.size w w1) => hl.keep g)
  obtain ⟨a0, cap, rfl⟩ := hl.shape
  have HV : Hid (∀ (W : World) (n : Nat), W.heap.size = n → Calls Tryz.prog 27 #[.agg #[.int .i64 r, .int .i64 l, .int .i64 a, .int .i64 b, .int .i64 k, .int .i64 a2, .int .i64 b2], .slice (some ⟨n, 0, none⟩) 1 1] (W.alloc (.cells #[.string q.s, .int .i64 q.r, .int .i64 q.z, .int .i64 q.d, .int .i64 q.g] 25)) fun e w' => e = .returned (.bool (q.vB && canB r l a b k a2 b2)) ∧ Below (W.alloc (.cells #[.string q.s, .int .i64 q.r, .int .i64 q.z, .int .i64 q.d, .int .i64 q.g] 25)).heap.size (W.alloc (.cells #[.string q.s, .int .i64 q.r, .int .i64 q.z, .int .i64 q.d, .int .i64 q.g] 25)) w') := fun W n hn => by
    have := pvalid_any r l a b k a2 b2 (W.alloc (.cells #[.string q.s, .int .i64 q.r, .int .i64 q.z, .int .i64 q.d, .int .i64 q.g] 25)) n 1 [q] (klAt_at q _ _ hn) (by simpa using hs) (by simp)
    simpa using this
  have HT := hid (fun (W : World) (n : Nat) (h : W.heap.size = n) => ptemps_any (W.alloc (.cells #[.int .i64 bath, .int .i64 cold] 3)) _ [bath, cold] (two_row bath cold 3 h))
  have HK := hid (fun (W : World) (n : Nat) (h : W.heap.size = n) => ticks_any (W.alloc (.cells #[.int .i64 cooling] 3)) _ [cooling] (one_row cooling 3 h) (by simp))
  have HC := hid (fun W h => pcheck_any r l a b k a2 b2 W q t (.slice a0 p.length cap) p hs h hpm)
  unfold mendE at hne ⊢
  clear hl hs hpm
  cases h1 : (q.vB && canB r l a b k a2 b2)
  · rw [h1] at HV
    rw [if_pos rfl]
    go_enter Tryz.func31, Tryz.ntmps31
    go_wp2_with fail
    refine (HV.out _ _ (by simp)).mono ?_
    rintro e w1 ⟨rfl, hb⟩
    have HX := hid (HX.out.keep (balloc hb))
    clear hb
    go_wp2_with fail
    go_ret2
    exact ⟨rfl, HX.out.low⟩
  rw [h1] at HV hne
  rw [if_neg (by simp)] at hne ⊢
  cases h2 : okL [bath, cold]
  · rw [h2] at HT
    rw [if_pos (by rfl)]
    go_enter Tryz.func31, Tryz.ntmps31
    go_wp2_with fail
    refine (HV.out _ _ (by simp)).mono ?_
    rintro e w1 ⟨rfl, hb⟩
    have HX := hid (HX.out.keep (balloc hb))
    clear hb
    go_wp2_with fail
    refine (HT.out _ _ (by simp)).mono ?_
    rintro e w2 ⟨rfl, rfl⟩
    have HX := hid (HX.out.keep ((Below.refl _ w1).alloc (Nat.le_refl _) (.cells #[.int .i64 bath, .int .i64 cold] 3)))
    go_wp2_with fail
    go_ret2
    exact ⟨rfl, HX.out.low⟩
  rw [h2] at HT hne
  cases h3 : ticksB [cooling]
  · rw [h3] at HK
    rw [if_pos (by rfl)]
    go_enter Tryz.func31, Tryz.ntmps31
    go_wp2_with fail
    refine (HV.out _ _ (by simp)).mono ?_
    rintro e w1 ⟨rfl, hb⟩
    have HX := hid (HX.out.keep (balloc hb))
    clear hb
    go_wp2_with fail
    refine (HT.out _ _ (by simp)).mono ?_
    rintro e w2 ⟨rfl, rfl⟩
    have HX := hid (HX.out.keep ((Below.refl _ w1).alloc (Nat.le_refl _) (.cells #[.int .i64 bath, .int .i64 cold] 3)))
    go_wp2_with fail
    refine (HK.out _ _ (by simp)).mono ?_
    rintro e w3 ⟨rfl, rfl⟩
    have HX := hid (HX.out.keep ((Below.refl _ _).alloc (Nat.le_refl _) (.cells #[.int .i64 cooling] 3)))
    go_wp2_with fail
    go_ret2
    exact ⟨rfl, HX.out.low⟩
  rw [h3] at HK hne
  rw [if_neg (by simp)] at hne ⊢
  generalize chk4 (canB r l a b k a2 b2) q.vB t p = ce at *
  have hc1 : (ce != 0) = true := by simpa using hne
  go_enter Tryz.func31, Tryz.ntmps31
  go_wp2_with fail
  refine (HV.out _ _ (by simp)).mono ?_
  rintro e w1 ⟨rfl, hb⟩
  have HX := hid (HX.out.keep (balloc hb))
  clear hb
  go_wp2_with fail
  refine (HT.out _ _ (by simp)).mono ?_
  rintro e w2 ⟨rfl, rfl⟩
  have HX := hid (HX.out.keep ((Below.refl _ w1).alloc (Nat.le_refl _) (.cells #[.int .i64 bath, .int .i64 cold] 3)))
  go_wp2_with fail
  refine (HK.out _ _ (by simp)).mono ?_
  rintro e w3 ⟨rfl, rfl⟩
  have HX := hid (HX.out.keep ((Below.refl _ _).alloc (Nat.le_refl _) (.cells #[.int .i64 cooling] 3)))
  have t0 := HX.out.fst 0; have t1 := HX.out.fst 1; have t2 := HX.out.fst 2; have t3 := HX.out.fst 3; have t4 := HX.out.fst 4; have t5 := HX.out.fst 5; have t6 := HX.out.fst 6
  have x0 := HX.out.snd 0; have x1 := HX.out.snd 1; have x2 := HX.out.snd 2; have x3 := HX.out.snd 3; have x4 := HX.out.snd 4
  simp only [List.getElem?_toArray, List.getElem?_cons_zero, List.getElem?_cons_succ] at t0 t1 t2 t3 t4 t5 t6 x0 x1 x2 x3 x4
  go_wp2_with fail
  refine (HC.out _ (HL.out _ HX.out.low)).mono ?_
  rintro e w4 ⟨rfl, hb⟩
  have HX := hid (HX.out.keep hb)
  clear hb t0 t1 t2 t3 t4 t5 t6 x0 x1 x2 x3 x4
  go_wp2_with fail
  go_ret2
  exact ⟨rfl, HX.out.low⟩
set_option maxRecDepth 20000 in
set_option maxHeartbeats 4000000 in
theorem least_err (r l a b k a2 b2 : Int) (w : World) (q : Kl) (t bath cold cooling : Int) (hs : q.s.size ≤ maxLen) (hne : mendE (canB r l a b k a2 b2) q.vB t bath cold cooling [] ≠ 0) :
    Calls Tryz.prog 26 #[.agg #[.int .i64 r, .int .i64 l, .int .i64 a, .int .i64 b, .int .i64 k, .int .i64 a2, .int .i64 b2], .agg #[.string q.s, .int .i64 q.r, .int .i64 q.z, .int .i64 q.d, .int .i64 q.g], .int .i64 t, .int .i64 bath, .int .i64 cold, .int .i64 cooling] w fun e w' => e = .returned (.tuple #[.int .i64 0, .int .i64 0, .int .i64 0, .int .i64 (mendE (canB r l a b k a2 b2) q.vB t bath cold cooling [])]) ∧ Below w.heap.size w w' := by
  have HM := hid (fun W => med_err r l a b k a2 b2 W q t bath cold cooling (.slice none 0 0) [] hs (.inl ⟨none, 0, rfl, rfl⟩) (by simp) hne)
  have HB := hid (lsB_start r l a b k a2 b2 q t bath cold cooling w)
  generalize mendE (canB r l a b k a2 b2) q.vB t bath cold cooling [] = ce at *
  have hc1 : (ce != 0) = true := by simpa using hne
  clear hs hne
  have x0 := cell_of_row _ _ 0 _ _ _ HB.out.1.can
  have x1 := cell_of_row _ _ 1 _ _ _ HB.out.1.can
  have x2 := cell_of_row _ _ 2 _ _ _ HB.out.1.can
  have x3 := cell_of_row _ _ 3 _ _ _ HB.out.1.can
  have x4 := cell_of_row _ _ 4 _ _ _ HB.out.1.can
  have x5 := cell_of_row _ _ 5 _ _ _ HB.out.1.can
  have x6 := cell_of_row _ _ 6 _ _ _ HB.out.1.can
  have y0 := cell_of_row _ _ 0 _ _ _ HB.out.1.kil
  have y1 := cell_of_row _ _ 1 _ _ _ HB.out.1.kil
  have y2 := cell_of_row _ _ 2 _ _ _ HB.out.1.kil
  have y3 := cell_of_row _ _ 3 _ _ _ HB.out.1.kil
  have y4 := cell_of_row _ _ 4 _ _ _ HB.out.1.kil
  have i0 := cell_of_row _ _ 0 _ _ _ HB.out.1.ini
  have b0 := cell_of_row _ _ 0 _ _ _ HB.out.1.bat
  have c0 := cell_of_row _ _ 0 _ _ _ HB.out.1.col
  have o0 := cell_of_row _ _ 0 _ _ _ HB.out.1.coo
  simp only [List.getElem?_toArray, List.getElem?_cons_zero, List.getElem?_cons_succ] at x0 x1 x2 x3 x4 x5 x6 y0 y1 y2 y3 y4 i0 b0 c0 o0
  go_enter Tryz.func26, Tryz.ntmps26
  go_wp2_with fail
  refine (HM.out _).mono ?_
  rintro e w2 ⟨rfl, hb2⟩
  have HL2 := hid (HB.out.2.trans (hb2.mono HB.out.2.size))
  clear hb2
  go_wp2_with fail
  refine bodyPost_ret (v := .tuple #[.int .i64 0, .int .i64 0, .int .i64 0, .int .i64 ce]) (by simp [results, Tryz.results26, go_sem]) rfl ⟨rfl, HL2.out⟩
theorem dn_mono {r : Int} {z : Int} (hz : 1 ≤ z) : ∀ x y : Int, x ≤ y → Lt.Pm.rateD r z (x / 250) ≤ Lt.Pm.rateD r z (y / 250) := fun _ _ h => Lt.Pm.rateD_mono hz (by omega)
end Go.Proofs.YtihbjimnjhfpeaaGreat

/- law04's awake: contract. -/
namespace Go.Proofs.YtihbjimnjhfpeaaGreat
open Go.RowKit Go.Lib

def cn0 : Cn := ⟨1, 1, 100, 50, 0, 0, 0⟩
theorem cn0_V : cn0.V := by unfold Cn.V; decide
def fk0 : Int → Nat := fun x => Lt.Pm.rateD kl0.r kl0.z (x / 250)
theorem fk0_at : fk0 121000 = 1000000 := aw4_rate
theorem aw_af (n : Nat) (hn : n ≤ 2000) : afN cn0 fk0 (dish0 cn0 121000) 121000 n = (evB cn0 121000, [n * 1000000]) := by
  induction n with
  | zero => rw [afN_zero]; rfl
  | succ n ih =>
    rw [afN_succ, ih (by omega)]
    have he := tickS_even cn0_V.ok 121000
    show (tickS cn0 (evB cn0 121000) 121000, addD fk0 [n * 1000000] (tickS cn0 (evB cn0 121000) 121000).1) = _
    rw [he]
    show (evB cn0 121000, [Lt.cutN (n * 1000000) (fk0 121000)]) = _
    rw [fk0_at]
    have : Lt.cutN (n * 1000000) 1000000 = (n + 1) * 1000000 := by unfold Lt.cutN; omega
    rw [this]
theorem minA_one (x : Int) : minA [x] = x := by
  have := minA_mem (ds := [x]) (by simp)
  simpa using this
theorem aw_tst (n : Nat) (hn : n ≤ 2000) : tstC cn0 fk0 (dish0 cn0 121000) 156000000 121000 0 0 n = decide (156 ≤ n) := by
  unfold tstC enD
  rw [afN_zero, aw_af n hn]
  show decide (156000000 ≤ minA [((n * 1000000 : Nat) : Int)]) = _
  rw [minA_one]
  by_cases h : 156 ≤ n
  · rw [decide_eq_true h, decide_eq_true (by omega)]
  · rw [decide_eq_false h, decide_eq_false (by omega)]
theorem aw_with (n : Nat) (hn : n ≤ 2000) : withF 1 1 100 50 0 0 0 kl0 121000 121000 0 0 (n : Int) = n * 1000000 := by
  have hck : cookB 121000 (n : Int) 0 0 = true := by
    unfold cookB
    rw [ticksB_two.2 ⟨by omega, by omega, by omega⟩]
    rfl
  have hL : cookL 121000 (n : Int) 0 0 = List.replicate n 121000 := by
    unfold cookL
    rw [if_pos hck, Int.toNat_natCast]
    simp
  have hch : chk4 (canB 1 1 100 50 0 0 0) kl0.vB 121000 (List.replicate n 121000) = 0 := by
    refine chk4_ok (by decide +kernel) ?_ (by rw [List.length_replicate]; omega)
    have : okL (List.replicate n 121000) = true := List.all_eq_true.2 fun x hx => by rw [List.eq_of_mem_replicate hx]; rfl
    rw [this]; rfl
  unfold withF
  rw [hL]
  have e0 : cnOf 1 1 100 50 0 0 0 = cn0 := rfl
  have hs : sumsO 1 1 100 50 0 0 0 kl0 121000 (List.replicate n 121000) = [n * 1000000] := by
    unfold sumsO
    rw [if_pos hch, e0]
    exact congrArg Prod.snd (aw_af n hn)
  rw [hs]
  unfold lowO
  rw [if_neg (by simp)]
  show minA [((n * 1000000 : Nat) : Int)] = _
  rw [minA_one]
  omega
theorem aw_least (W : World) : Calls Tryz.prog 26 #[.agg #[.int .i64 1, .int .i64 1, .int .i64 100, .int .i64 50, .int .i64 0, .int .i64 0, .int .i64 0], .agg #[.string ⟨#[97]⟩, .int .i64 484, .int .i64 40, .int .i64 13, .int .i64 12], .int .i64 121000, .int .i64 121000, .int .i64 0, .int .i64 0] W
    fun e w' => e = .returned (.tuple #[.int .i64 156, .int .i64 156000000, .int .i64 155000000, .int .i64 0]) ∧ Below W.heap.size W w' := by
  have hG : Good cn0 (dish0 cn0 121000) := dish0_good (by decide)
  have h := least_ok cn0 kl0 121000 121000 0 0 2000 40 W rfl (by decide) cn0_V (by decide +kernel) (by decide) (by decide) (by decide) (by omega) (fun _ j n hj hn hT => by
    have h1 := aw_tst j (by omega)
    have h2 := aw_tst n hn
    have hT' : tstC cn0 fk0 (dish0 cn0 121000) 156000000 121000 0 0 j = true := hT
    show tstC cn0 fk0 (dish0 cn0 121000) 156000000 121000 0 0 n = true
    rw [h1] at hT'
    rw [h2]
    rw [decide_eq_true_eq] at hT' ⊢
    omega)
  refine Calls.mono h ?_
  rintro e w' ⟨hb, ⟨n, hn, h1, h2, rfl⟩ | ⟨h1, rfl⟩⟩
  · have h1' : tstC cn0 fk0 (dish0 cn0 121000) 156000000 121000 0 0 n = true := h1
    rw [aw_tst n hn, decide_eq_true_eq] at h1'
    have hn2 : n = 156 := by
      by_cases h : n ≤ 156
      · omega
      · have h3 : tstC cn0 fk0 (dish0 cn0 121000) 156000000 121000 0 0 156 = false := h2 156 (by omega)
        rw [aw_tst 156 (by omega)] at h3
        cases h3
    subst hn2
    refine ⟨?_, hb⟩
    have w1 := aw_with 156 (by omega)
    have w2 := aw_with 155 (by omega)
    have w1' : withF (cn0.R : Int) cn0.L cn0.A cn0.B cn0.K cn0.A2 cn0.B2 kl0 121000 121000 0 (0 : Nat) (156 : Nat) = 156000000 := w1
    have w2' : withF (cn0.R : Int) cn0.L cn0.A cn0.B cn0.K cn0.A2 cn0.B2 kl0 121000 121000 0 (0 : Nat) (((156 : Nat) : Int) - 1) = 155000000 := w2
    rw [w1', if_neg (by decide), w2']
    rfl
  · have h3 : tstC cn0 fk0 (dish0 cn0 121000) 156000000 121000 0 0 156 = false := h1 156 (by omega)
    rw [aw_tst 156 (by omega)] at h3
    cases h3
set_option maxRecDepth 20000 in
set_option maxHeartbeats 4000000 in
theorem lawake_any (w : World) : Calls Tryz.prog 8 #[] w fun e w' => e = .returned (.bool true) ∧ Below w.heap.size w w' := by
  have HL := hid aw_least
  go_enter Tryz.func8, Tryz.ntmps8
  have HX := hid (box2_start (w := w) (A := #[.int .i64 1, .int .i64 1, .int .i64 100, .int .i64 50, .int .i64 0, .int .i64 0, .int .i64 0]) (B := #[.string ⟨#[97]⟩, .int .i64 484, .int .i64 40, .int .i64 13, .int .i64 12]) (T := 23) (T' := 25) (fz := (0, 0)) (fz' := (0, 0)))
  go_wp2_with fail
  refine (HL.out _).mono ?_
  rintro e w1 ⟨rfl, hb⟩
  have HX := hid (HX.out.keep hb)
  clear hb
  go_wp2_with fail
  go_ret
  exact ⟨rfl, HX.out.low⟩
end Go.Proofs.YtihbjimnjhfpeaaGreat
