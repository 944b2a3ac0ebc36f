/- Texts of this seat, one behind the other. -/
import Derived.Test.YtedfajokiblfhaaGreatC5
import Derived.Test.YtedfajokiblfhaaGreatE3
import Derived.Test.YtedfajokiblfhaaGreatJ1
import Derived.Test.YtedfajokiblfhaaGreatPep
import Derived.Test.YtedfajokiblfhaaGreatE2
/- Plain facts: where a can conducts one way all along, more ticks at a bath that is no colder than the cooling never lose. -/
namespace Go.Proofs.YtedfajokiblfhaaGreat
open Go.RowKit

/-- Two dishes that conduct the same way all along, one nowhere hotter and with no more than the other. -/
structure LeQ (c : Cn) (d e : Dish) : Prop where
  w1 : Warm c d.1
  w2 : Warm c e.1
  br : e.1.2 = d.1.2
  way : c.K = 0 ∨ d.1.2 = true
  l1 : d.2.length = c.P
  l2 : e.2.length = c.P
  t : leL d.1.1 e.1.1
  s : leN d.2 e.2
theorem tickS_way {c : Cn} {x : Bd} {b : Int} (h : c.K = 0 ∨ x.2 = true) : tickS c x b = (tickT c.R c.L (c.a x.2) (c.b x.2) x.1 b, x.2) := by
  unfold tickS brk
  rcases h with h | h <;> simp [h]
theorem LeQ.tick {c : Cn} {f : Int → Nat} {d e : Dish} {b b' : Int} (hc : c.Ok) (hf : ∀ t u : Int, t ≤ u → f t ≤ f u) (h : LeQ c d e) (hb : okT b = true) (hb' : okT b' = true) (hle : b ≤ b') : LeQ c (dishT c f d b) (dishT c f e b') := by
  obtain ⟨a1, a2, a3⟩ := hc.ra d.1.2
  have hb : -50000 ≤ b ∧ b ≤ 200000 := by simpa [okT] using hb
  have hb' : -50000 ≤ b' ∧ b' ≤ 200000 := by simpa [okT] using hb'
  have hw1 := h.w1.tick hc hb.1 hb.2
  have hw2 := h.w2.tick hc hb'.1 hb'.2
  have hts := tickT_le a1 a2 a3 h.w1.len h.w2.len h.t hle
  have q1 := tickS_way (b := b) h.way
  have q2 := tickS_way (c := c) (x := e.1) (b := b') (by rw [h.br]; exact h.way)
  rw [h.br] at q2
  unfold dishT
  have e1 := hw1.len
  have e2 := hw2.len
  rw [q1] at hw1 e1
  rw [q2] at hw2 e2
  rw [q1, q2]
  simp only at e1 e2
  have hP : c.P = c.R * c.L := rfl
  exact ⟨hw1, hw2, rfl, h.way, by show (addD f d.2 _).length = _; rw [addD_len (by rw [h.l1, e1, hP])]; exact h.l1, by show (addD f e.2 _).length = _; rw [addD_len (by rw [h.l2, e2, hP])]; exact h.l2, hts, addD_le hf (by rw [h.l1, e1, hP]) (by rw [h.l2, e2, hP]) h.s hts (by rw [e1, e2])⟩
theorem LeQ.run {c : Cn} {f : Int → Nat} (hc : c.Ok) (hf : ∀ t u : Int, t ≤ u → f t ≤ f u) : ∀ (l m : List Int) (d e : Dish), l.length = m.length → leL l m → okL l = true → okL m = true → LeQ c d e → LeQ c (dishR c f d l) (dishR c f e m)
  | [], [], _, _, _, _, _, _, h => h
  | [], _ :: _, _, _, hl, _, _, _, _ => by simp at hl
  | _ :: _, [], _, _, hl, _, _, _, _ => by simp at hl
  | b :: l, b' :: m, d, e, hl, hle, ho, ho', h => by
    unfold okL at ho ho'
    rw [List.all_cons, Bool.and_eq_true] at ho ho'
    exact LeQ.run hc hf l m (dishT c f d b) (dishT c f e b') (by simpa using hl) (fun i a c => hle (i + 1) (by simpa using a) (by simpa using c)) ho.2 ho'.2 (h.tick hc hf ho.1 ho'.1 (hle 0 (by simp) (by simp)))
theorem LeQ.low {c : Cn} {d e : Dish} (hc : c.Ok) (h : LeQ c d e) : minA (ivN d.2) ≤ minA (ivN e.2) :=
  lowD_le (by rw [h.l1]; exact hc.p.1) (by rw [h.l1, h.l2]) h.s
theorem Good.warm {c : Cn} {d : Dish} (h : Good c d) : Warm c d.1 := by
  obtain ⟨h1, _, h3⟩ := bodyV_iff.1 h.body
  exact ⟨h1, okL_bd h3⟩
theorem leq_refl {c : Cn} {d : Dish} (hG : Good c d) (hw : c.K = 0 ∨ d.1.2 = true) : LeQ c d d :=
  ⟨hG.warm, hG.warm, rfl, hw, hG.len, hG.len, fun _ _ _ => Int.le_refl _, fun _ _ _ => Nat.le_refl _⟩
theorem way_run {c : Cn} {f : Int → Nat} : ∀ (l : List Int) (d : Dish), (c.K = 0 ∨ d.1.2 = true) → (c.K = 0 ∨ (dishR c f d l).1.2 = true)
  | [], _, h => h
  | b :: l, d, h => way_run l (dishT c f d b) (by
    show c.K = 0 ∨ (tickS c d.1 b).2 = true
    rw [tickS_way h]
    exact h)
theorem dishR_cons (c : Cn) (f : Int → Nat) (d : Dish) (b : Int) (l : List Int) : dishR c f d (b :: l) = dishR c f (dishT c f d b) l := rfl
/-- One tick more at the bath never loses. -/
theorem tstC_succ {c : Cn} {f : Int → Nat} {D : Dish} {need bath cold : Int} {cooling n : Nat} (hc : c.Ok) (hf : ∀ t u : Int, t ≤ u → f t ≤ f u) (hG : Good c D) (hb : okT bath = true) (hk : okT cold = true) (hr : risB c D bath cold = true) (h : tstC c f D need bath cold cooling n = true) : tstC c f D need bath cold cooling (n + 1) = true := by
  unfold risB at hr
  rw [Bool.and_eq_true, Bool.or_eq_true, decide_eq_true_eq, decide_eq_true_eq] at hr
  unfold tstC at *
  rw [afN_succ]
  have hX : Good c (afN c f D bath n) := afN_good n hc hG hb
  have hw : c.K = 0 ∨ (afN c f D bath n).1.2 = true := way_run _ _ hr.1
  generalize afN c f D bath n = X at *
  match cooling with
  | 0 =>
    rw [afN_zero] at h ⊢
    exact enD_tick hc hX hb h
  | m + 1 =>
    have hle : leL (cold :: List.replicate m cold) (bath :: List.replicate m cold) := fun i a d => by
      cases i with
      | zero => exact hr.2
      | succ i => exact Int.le_refl _
    have hq := LeQ.run hc hf (cold :: List.replicate m cold) (bath :: List.replicate m cold) X X (by simp) hle (by simp [okL, hk]) (by simp [okL, hk, hb]) (leq_refl hX hw)
    have h2 : enD need (afN c f (dishT c f X bath) cold m) = true := by
      unfold enD at *
      rw [decide_eq_true_eq] at *
      exact Int.le_trans h (hq.low hc)
    exact enD_run hc (hX.tick hc hb) hk (Nat.le_succ m) h2
theorem tstC_mono {c : Cn} {f : Int → Nat} {D : Dish} {need bath cold : Int} {cooling : Nat} (hc : c.Ok) (hf : ∀ t u : Int, t ≤ u → f t ≤ f u) (hG : Good c D) (hb : okT bath = true) (hk : okT cold = true) (hr : risB c D bath cold = true) {j n : Nat} (hjn : j ≤ n) (h : tstC c f D need bath cold cooling j = true) : tstC c f D need bath cold cooling n = true := by
  induction n with
  | zero => obtain rfl : j = 0 := by omega
            exact h
  | succ n ih =>
    rcases Nat.lt_or_ge j (n + 1) with h1 | h1
    · exact tstC_succ hc hf hG hb hk hr (ih (by omega))
    · obtain rfl : j = n + 1 := by omega
      exact h
end Go.Proofs.YtedfajokiblfhaaGreat

/- Walks of Mended's and Least's errors; Least and Mended where the law looks: contracts. -/
namespace Go.Proofs.YtedfajokiblfhaaGreat
open Go.RowKit Go.Lib

/-- The first error of Mended. -/
def mendE (vc vk : Bool) (t bath cold cooling : Int) (p : List Int) : Int := if (vk && vc) = false then 1 else if (okL [bath, cold] && ticksB [cooling]) = false then 7 else chk4 vc vk t p
theorem ticksB_one (x : Int) : ticksB [x] = tick1 x := by
  rw [Bool.eq_iff_iff]
  constructor <;> intro h <;> simp [ticksB, tick1] at h ⊢ <;> omega
theorem mendE_zero {vc vk : Bool} {t bath cold cooling : Int} {p : List Int} (h : mendE vc vk t bath cold cooling p = 0) : chk4 vc vk t p = 0 ∧ okT bath = true ∧ okT cold = true ∧ 0 ≤ cooling ∧ cooling ≤ 2000 := by
  unfold mendE at h
  split at h
  · cases h
  · split at h
    · cases h
    · rename_i h2
      rw [ticksB_one] at h2
      have h3 : (okL [bath, cold] && tick1 cooling) = true := by simpa using h2
      simp only [okL, List.all_cons, List.all_nil, Bool.and_true, Bool.and_eq_true, tick1, decide_eq_true_eq] at h3
      exact ⟨h, h3.1.1, h3.1.2, h3.2.1, h3.2.2⟩
/-- The reference's order of errors gives the same. -/
theorem mendE_ref {vc vk : Bool} {t bath cold cooling : Int} {p : List Int} : (if (vc && vk) = false then (1 : Int) else if leE vc vk t bath cold cooling ≠ 0 then leE vc vk t bath cold cooling else chk4 vc vk t p) = mendE vc vk t bath cold cooling p := by
  unfold mendE
  rw [Bool.and_comm vc vk, ticksB_one]
  cases hv : (vk && vc)
  · rfl
  · simp only [Bool.true_eq_false, if_false]
    unfold leE
    rw [Bool.and_comm vc vk, hv]
    simp only [Bool.true_eq_false, if_false]
    have hL : okL [bath, cold] = (okT bath && okT cold) := by simp [okL]
    rw [hL]
    cases ht : okT t
    · have hc : chk4 vc vk t p = 7 := chk4_far hv (by rw [ht]; rfl)
      rw [hc]
      simp
    · cases okT bath <;> cases okT cold <;> cases tick1 cooling <;> simp
set_option maxRecDepth 20000 in
set_option maxHeartbeats 4000000 in
theorem med_err (r l a b k a2 b2 : Int) (w : World) (q : Kl) (t bath cold cooling : Int) (v : Value) (p : List Int) (hs : q.s.size ≤ maxLen) (hl : RowI w v p) (hpm : p.length ≤ maxLen) (hne : mendE (canB r l a b k a2 b2) q.vB t bath cold cooling p ≠ 0) :
    Calls Tryz.prog 28 #[.agg #[.int .i64 r, .int .i64 l, .int .i64 a, .int .i64 b, .int .i64 k, .int .i64 a2, .int .i64 b2], .agg #[.string q.s, .int .i64 q.r, .int .i64 q.z, .int .i64 q.d, .int .i64 q.g], .int .i64 t, .int .i64 bath, .int .i64 cold, .int .i64 cooling, v] w fun e w' => e = .returned (.tuple #[.int .i64 0, .int .i64 (mendE (canB r l a b k a2 b2) q.vB t bath cold cooling p)]) ∧ Below w.heap.size w w' := by
  have HX := hid (box2_start (w := w) (A := #[.int .i64 r, .int .i64 l, .int .i64 a, .int .i64 b, .int .i64 k, .int .i64 a2, .int .i64 b2]) (B := #[.string q.s, .int .i64 q.r, .int .i64 q.z, .int .i64 q.d, .int .i64 q.g]) (T := 23) (T' := 25) (fz := (0, 0)) (fz' := (0, 0)))
  have HL := hid (fun w1 (g : Below w.heap.size w w1) => hl.keep g)
  obtain ⟨a0, cap, rfl⟩ := hl.shape
  have HV : Hid (∀ (W : World) (n : Nat), W.heap.size = n → Calls Tryz.prog 60 #[.agg #[.int .i64 r, .int .i64 l, .int .i64 a, .int .i64 b, .int .i64 k, .int .i64 a2, .int .i64 b2], .slice (some ⟨n, 0, none⟩) 1 1] (W.alloc (.cells #[.string q.s, .int .i64 q.r, .int .i64 q.z, .int .i64 q.d, .int .i64 q.g] 25)) fun e w' => e = .returned (.bool (q.vB && canB r l a b k a2 b2)) ∧ Below (W.alloc (.cells #[.string q.s, .int .i64 q.r, .int .i64 q.z, .int .i64 q.d, .int .i64 q.g] 25)).heap.size (W.alloc (.cells #[.string q.s, .int .i64 q.r, .int .i64 q.z, .int .i64 q.d, .int .i64 q.g] 25)) w') := fun W n hn => by
    have := pvalid_any r l a b k a2 b2 (W.alloc (.cells #[.string q.s, .int .i64 q.r, .int .i64 q.z, .int .i64 q.d, .int .i64 q.g] 25)) n 1 [q] (klAt_at q _ _ hn) (by simpa using hs) (by simp)
    simpa using this
  have HT := hid (fun (W : World) (n : Nat) (h : W.heap.size = n) => ptemps_any (W.alloc (.cells #[.int .i64 bath, .int .i64 cold] 3)) _ [bath, cold] (two_row bath cold 3 h))
  have HK := hid (fun (W : World) (n : Nat) (h : W.heap.size = n) => ticks_any (W.alloc (.cells #[.int .i64 cooling] 3)) _ [cooling] (one_row cooling 3 h) (by simp))
  have HC := hid (fun W h => pcheck_any r l a b k a2 b2 W q t (.slice a0 p.length cap) p hs h hpm)
  unfold mendE at hne ⊢
  clear hl hs hpm
  cases h1 : (q.vB && canB r l a b k a2 b2)
  · rw [h1] at HV
    rw [if_pos rfl]
    go_enter Tryz.func28, Tryz.ntmps28
    go_wp2_with fail
    refine (HV.out _ _ (by simp)).mono ?_
    rintro e w1 ⟨rfl, hb⟩
    have HX := hid (HX.out.keep (balloc hb))
    clear hb
    go_wp2_with fail
    go_ret2
    exact ⟨rfl, HX.out.low⟩
  rw [h1] at HV hne
  rw [if_neg (by simp)] at hne ⊢
  cases h2 : okL [bath, cold]
  · rw [h2] at HT
    rw [if_pos (by rfl)]
    go_enter Tryz.func28, Tryz.ntmps28
    go_wp2_with fail
    refine (HV.out _ _ (by simp)).mono ?_
    rintro e w1 ⟨rfl, hb⟩
    have HX := hid (HX.out.keep (balloc hb))
    clear hb
    go_wp2_with fail
    refine (HT.out _ _ (by simp)).mono ?_
    rintro e w2 ⟨rfl, rfl⟩
    have HX := hid (HX.out.keep ((Below.refl _ w1).alloc (Nat.le_refl _) (.cells #[.int .i64 bath, .int .i64 cold] 3)))
    go_wp2_with fail
    go_ret2
    exact ⟨rfl, HX.out.low⟩
  rw [h2] at HT hne
  cases h3 : ticksB [cooling]
  · rw [h3] at HK
    rw [if_pos (by rfl)]
    go_enter Tryz.func28, Tryz.ntmps28
    go_wp2_with fail
    refine (HV.out _ _ (by simp)).mono ?_
    rintro e w1 ⟨rfl, hb⟩
    have HX := hid (HX.out.keep (balloc hb))
    clear hb
    go_wp2_with fail
    refine (HT.out _ _ (by simp)).mono ?_
    rintro e w2 ⟨rfl, rfl⟩
    have HX := hid (HX.out.keep ((Below.refl _ w1).alloc (Nat.le_refl _) (.cells #[.int .i64 bath, .int .i64 cold] 3)))
    go_wp2_with fail
    refine (HK.out _ _ (by simp)).mono ?_
    rintro e w3 ⟨rfl, rfl⟩
    have HX := hid (HX.out.keep ((Below.refl _ _).alloc (Nat.le_refl _) (.cells #[.int .i64 cooling] 3)))
    go_wp2_with fail
    go_ret2
    exact ⟨rfl, HX.out.low⟩
  rw [h3] at HK hne
  rw [if_neg (by simp)] at hne ⊢
  generalize chk4 (canB r l a b k a2 b2) q.vB t p = ce at *
  have hc1 : (ce != 0) = true := by simpa using hne
  go_enter Tryz.func28, Tryz.ntmps28
  go_wp2_with fail
  refine (HV.out _ _ (by simp)).mono ?_
  rintro e w1 ⟨rfl, hb⟩
  have HX := hid (HX.out.keep (balloc hb))
  clear hb
  go_wp2_with fail
  refine (HT.out _ _ (by simp)).mono ?_
  rintro e w2 ⟨rfl, rfl⟩
  have HX := hid (HX.out.keep ((Below.refl _ w1).alloc (Nat.le_refl _) (.cells #[.int .i64 bath, .int .i64 cold] 3)))
  go_wp2_with fail
  refine (HK.out _ _ (by simp)).mono ?_
  rintro e w3 ⟨rfl, rfl⟩
  have HX := hid (HX.out.keep ((Below.refl _ _).alloc (Nat.le_refl _) (.cells #[.int .i64 cooling] 3)))
  have t0 := HX.out.fst 0; have t1 := HX.out.fst 1; have t2 := HX.out.fst 2; have t3 := HX.out.fst 3; have t4 := HX.out.fst 4; have t5 := HX.out.fst 5; have t6 := HX.out.fst 6
  have x0 := HX.out.snd 0; have x1 := HX.out.snd 1; have x2 := HX.out.snd 2; have x3 := HX.out.snd 3; have x4 := HX.out.snd 4
  simp only [List.getElem?_toArray, List.getElem?_cons_zero, List.getElem?_cons_succ] at t0 t1 t2 t3 t4 t5 t6 x0 x1 x2 x3 x4
  go_wp2_with fail
  refine (HC.out _ (HL.out _ HX.out.low)).mono ?_
  rintro e w4 ⟨rfl, hb⟩
  have HX := hid (HX.out.keep hb)
  clear hb t0 t1 t2 t3 t4 t5 t6 x0 x1 x2 x3 x4
  go_wp2_with fail
  go_ret2
  exact ⟨rfl, HX.out.low⟩
set_option maxRecDepth 20000 in
set_option maxHeartbeats 4000000 in
theorem least_err (r l a b k a2 b2 : Int) (w : World) (q : Kl) (t bath cold cooling : Int) (hs : q.s.size ≤ maxLen) (hne : mendE (canB r l a b k a2 b2) q.vB t bath cold cooling [] ≠ 0) :
    Calls Tryz.prog 23 #[.agg #[.int .i64 r, .int .i64 l, .int .i64 a, .int .i64 b, .int .i64 k, .int .i64 a2, .int .i64 b2], .agg #[.string q.s, .int .i64 q.r, .int .i64 q.z, .int .i64 q.d, .int .i64 q.g], .int .i64 t, .int .i64 bath, .int .i64 cold, .int .i64 cooling] w fun e w' => e = .returned (.tuple #[.int .i64 0, .int .i64 0, .int .i64 0, .int .i64 (mendE (canB r l a b k a2 b2) q.vB t bath cold cooling [])]) ∧ Below w.heap.size w w' := by
  have HM := hid (fun W => med_err r l a b k a2 b2 W q t bath cold cooling (.slice none 0 0) [] hs (.inl ⟨none, 0, rfl, rfl⟩) (by simp) hne)
  have HB := hid (lsB_start r l a b k a2 b2 q t bath cold cooling w)
  generalize mendE (canB r l a b k a2 b2) q.vB t bath cold cooling [] = ce at *
  have hc1 : (ce != 0) = true := by simpa using hne
  clear hs hne
  have x0 := cell_of_row _ _ 0 _ _ _ HB.out.1.can
  have x1 := cell_of_row _ _ 1 _ _ _ HB.out.1.can
  have x2 := cell_of_row _ _ 2 _ _ _ HB.out.1.can
  have x3 := cell_of_row _ _ 3 _ _ _ HB.out.1.can
  have x4 := cell_of_row _ _ 4 _ _ _ HB.out.1.can
  have x5 := cell_of_row _ _ 5 _ _ _ HB.out.1.can
  have x6 := cell_of_row _ _ 6 _ _ _ HB.out.1.can
  have y0 := cell_of_row _ _ 0 _ _ _ HB.out.1.kil
  have y1 := cell_of_row _ _ 1 _ _ _ HB.out.1.kil
  have y2 := cell_of_row _ _ 2 _ _ _ HB.out.1.kil
  have y3 := cell_of_row _ _ 3 _ _ _ HB.out.1.kil
  have y4 := cell_of_row _ _ 4 _ _ _ HB.out.1.kil
  have i0 := cell_of_row _ _ 0 _ _ _ HB.out.1.ini
  have b0 := cell_of_row _ _ 0 _ _ _ HB.out.1.bat
  have c0 := cell_of_row _ _ 0 _ _ _ HB.out.1.col
  have o0 := cell_of_row _ _ 0 _ _ _ HB.out.1.coo
  simp only [List.getElem?_toArray, List.getElem?_cons_zero, List.getElem?_cons_succ] at x0 x1 x2 x3 x4 x5 x6 y0 y1 y2 y3 y4 i0 b0 c0 o0
  go_enter Tryz.func23, Tryz.ntmps23
  go_wp2_with fail
  refine (HM.out _).mono ?_
  rintro e w2 ⟨rfl, hb2⟩
  have HL2 := hid (HB.out.2.trans (hb2.mono HB.out.2.size))
  clear hb2
  go_wp2_with fail
  refine bodyPost_ret (v := .tuple #[.int .i64 0, .int .i64 0, .int .i64 0, .int .i64 ce]) (by simp [results, Tryz.results23, go_sem]) rfl ⟨rfl, HL2.out⟩
theorem dn_mono {r : Int} {z : Int} (hz : 1 ≤ z) : ∀ x y : Int, x ≤ y → Lt.Pm.rateD r z (x / 250) ≤ Lt.Pm.rateD r z (y / 250) := fun _ _ h => Lt.Pm.rateD_mono hz (by omega)
end Go.Proofs.YtedfajokiblfhaaGreat

/- Least and Mended of both where the law looks: contracts. -/
namespace Go.Proofs.YtedfajokiblfhaaGreat
open Go.RowKit Go.Lib

/-- The reference's lethality with n ticks is the code's. -/
theorem lowF_eq {c : Cn} {K : Kq} {s : ByteArray} {r d g t bath cold : Int} {Z cooling : Nat} (p : List Int) (he : K.s = s ∧ K.r = r ∧ K.Z = Z ∧ K.d = d ∧ K.g = g) (n : Nat) :
    lowF c K.f K.u (rsR c K.f K.u (rs0 c t) p) bath cold cooling n = minA (ivN (afN c (fun x => Lt.Pm.rateD r Z (x / 250)) (afN c (fun x => Lt.Pm.rateD r Z (x / 250)) (dishR c (fun x => Lt.Pm.rateD r Z (x / 250)) (dish0 c t) p) bath n) cold cooling).2) := by
  unfold lowF afN
  rw [← rsR_append, ← rsR_append, rs_sums _ he, dishR_append, dishR_append]
theorem tst_iff {c : Cn} {f : Int → Nat} {D : Dish} {need bath cold : Int} {cooling n : Nat} : tstC c f D need bath cold cooling n = decide (need ≤ minA (ivN (afN c f (afN c f D bath n) cold cooling).2)) := rfl
theorem withF_eq {c : Cn} {q : Kl} {Z : Nat} {t bath cold : Int} {cooling n : Nat} (hz : q.z = Z) (hch : chk4 (canB (c.R : Int) c.L c.A c.B c.K c.A2 c.B2) q.vB t [] = 0) (hb : okT bath = true) (hk : okT cold = true) (hn : n + cooling ≤ 2000) :
    withF c.R c.L c.A c.B c.K c.A2 c.B2 q t bath cold cooling n = minA (ivN (afN c (fun x => Lt.Pm.rateD q.r Z (x / 250)) (afN c (fun x => Lt.Pm.rateD q.r Z (x / 250)) (dish0 c t) bath n) cold cooling).2) := by
  have hcb : cookB bath n cold cooling = true := by
    rw [cookB_eq]
    simp only [hb, hk, tick1, Bool.true_and, Bool.and_eq_true, decide_eq_true_eq, Bool.not_eq_true', decide_eq_false_iff_not]
    omega
  have hL : cookL bath n cold cooling = List.replicate n bath ++ List.replicate cooling cold := by
    unfold cookL
    rw [if_pos hcb]
    rfl
  obtain ⟨h1, h2, h3, _, _⟩ := chk4_zero hch
  have hc2 : chk4 (canB (c.R : Int) c.L c.A c.B c.K c.A2 c.B2) q.vB t (cookL bath n cold cooling) = 0 := chk4_ok (by rw [h1, h2]; rfl) (by rw [h3, cookL_ok]; rfl) (by have := cookL_len bath n cold cooling; omega)
  unfold withF
  rw [lowO_min (by obtain ⟨e1, p1, _⟩ := sumsO_len hc2; omega), sumsO_cn hz hc2, hL]
  unfold afN
  rw [dishR_append]
theorem sterP_tst {c : Cn} {q : Kl} {Z : Nat} {t bath cold : Int} {cooling n : Nat} (_hz : q.z = Z) (hch : chk4 (canB (c.R : Int) c.L c.A c.B c.K c.A2 c.B2) q.vB t [] = 0) (hb : okT bath = true) (hk : okT cold = true) (hn : n + cooling ≤ 2000) :
    sterP c.R c.L c.A c.B c.K c.A2 c.B2 q t bath cold cooling n = decide (q.g * (q.d * 1000000) ≤ withF c.R c.L c.A c.B c.K c.A2 c.B2 q t bath cold cooling n) := by
  have hcb : cookB bath n cold cooling = true := by
    rw [cookB_eq]
    simp only [hb, hk, tick1, Bool.true_and, Bool.and_eq_true, decide_eq_true_eq, Bool.not_eq_true', decide_eq_false_iff_not]
    omega
  obtain ⟨h1, h2, h3, _, _⟩ := chk4_zero hch
  have hc2 : chk4 (canB (c.R : Int) c.L c.A c.B c.K c.A2 c.B2) q.vB t (cookL bath n cold cooling) = 0 := chk4_ok (by rw [h1, h2]; rfl) (by rw [h3, cookL_ok]; rfl) (by have := cookL_len bath n cold cooling; omega)
  unfold sterP sterO withF
  rw [hcb, hc2]
  rfl
/-- What Least tells, by the numbers alone. -/
def LeaP (need : Int) (G : Nat → Int) (most : Nat) (w : World) (e : Ending) (w' : World) : Prop :=
  Below w.heap.size w w' ∧ ((∃ n : Nat, n ≤ most ∧ need ≤ G n ∧ (∀ j, j < n → G j < need) ∧ e = .returned (.tuple #[.int .i64 (n : Nat), .int .i64 (G n), .int .i64 (if n = 0 then -1 else G (n - 1)), .int .i64 0])) ∨ ((∀ j, j ≤ most → G j < need) ∧ e = .returned (.tuple #[.int .i64 0, .int .i64 0, .int .i64 0, .int .i64 8])))
theorem least_all (c : Cn) (q : Kl) (t bath cold : Int) (cooling : Nat) (Z : Nat) (w : World) (hz : q.z = Z) (hs : q.s.size ≤ maxLen) (hcv : c.V) (hv : Lt.validB q.s.data.toList q.r Z q.d q.g = true) (ho : okT t = true) (hob : okT bath = true) (hoc : okT cold = true) (hcool : cooling ≤ 2000) :
    Calls Tryz.prog 23 #[.agg #[.int .i64 (c.R : Int), .int .i64 (c.L : Int), .int .i64 c.A, .int .i64 c.B, .int .i64 c.K, .int .i64 c.A2, .int .i64 c.B2], .agg #[.string q.s, .int .i64 q.r, .int .i64 q.z, .int .i64 q.d, .int .i64 q.g], .int .i64 t, .int .i64 bath, .int .i64 cold, .int .i64 (cooling : Nat)] w (LeaP (q.g * (q.d * 1000000)) (fun n => withF c.R c.L c.A c.B c.K c.A2 c.B2 q t bath cold cooling n) (2000 - cooling) w) := by
  have hcan : canB (c.R : Int) c.L c.A c.B c.K c.A2 c.B2 = true := hcv
  have hkv : q.vB = true := by show Lt.validB q.s.data.toList q.r q.z q.d q.g = true; rw [hz]; exact hv
  have hch : chk4 (canB (c.R : Int) c.L c.A c.B c.K c.A2 c.B2) q.vB t [] = 0 := chk4_ok (by rw [hcan, hkv]; rfl) (by rw [ho]; rfl) (by simp)
  have hz1 : (1 : Int) ≤ q.z := by rw [hz]; exact (Lt.validB_iff.1 hv).2.2.1.1
  have hT : ∀ n, n ≤ 2000 - cooling → tstC c (fun x => Lt.Pm.rateD q.r q.z (x / 250)) (dish0 c t) (q.g * (q.d * 1000000)) bath cold cooling n = decide (q.g * (q.d * 1000000) ≤ withF c.R c.L c.A c.B c.K c.A2 c.B2 q t bath cold cooling n) := fun n hn => by
    rw [withF_eq hz hch hob hoc (by omega), tst_iff, hz]
  refine (least_ok c q t bath cold cooling (2000 - cooling) Z w hz hs hcv hv ho hob hoc (by omega) (fun hr j n hjn hn hj => tstC_mono hcv.ok (dn_mono hz1) (dish0_good ho) hob hoc hr hjn hj)).mono ?_
  rintro e w' ⟨hb, ⟨n, hn, h1, h2, rfl⟩ | ⟨h1, rfl⟩⟩
  · refine ⟨hb, .inl ⟨n, hn, ?_, fun j hj => ?_, ?_⟩⟩
    · rw [hT n hn] at h1; simpa using h1
    · have := h2 j hj
      rw [hT j (by omega)] at this
      simpa using this
    · by_cases h0 : n = 0
      · rw [if_pos h0, if_pos h0]
      · dsimp only
        rw [if_neg h0, if_neg h0, show ((n - 1 : Nat) : Int) = (n : Int) - 1 by omega]
  · refine ⟨hb, .inr ⟨fun j hj => ?_, rfl⟩⟩
    have := h1 j hj
    rw [hT j hj] at this
    simpa using this
end Go.Proofs.YtedfajokiblfhaaGreat

/- Walks of the reference's Least and Mended: contracts. -/
namespace Go.Proofs.YtedfajokiblfhaaGreat
open Go.RowKit Go.Lib

theorem leE_mend {vc vk : Bool} {t bath cold cooling : Int} : leE vc vk t bath cold cooling = mendE vc vk t bath cold cooling [] := by
  rw [← mendE_ref]
  cases hv : (vc && vk)
  · unfold leE; rw [hv]; rfl
  · rw [if_neg (by simp)]
    by_cases h : leE vc vk t bath cold cooling = 0
    · rw [if_neg (by simp [h]), h]
      have ho := leE_zero h
      simp only [Bool.and_eq_true] at ho
      exact (chk4_ok (by rw [Bool.and_comm]; exact hv) (by rw [ho.1.1.1]; rfl) (by simp)).symm
    · rw [if_pos h]
set_option maxRecDepth 100000 in
set_option maxHeartbeats 4000000 in
theorem xleast_err (r l a b k a2 b2 : Int) (w : World) (q : Kl) (t bath cold cooling : Int) (hs : q.s.size ≤ maxLen) (hne : mendE (canB r l a b k a2 b2) q.vB t bath cold cooling [] ≠ 0) :
    Calls Tryz.prog 24 #[.agg #[.int .i64 r, .int .i64 l, .int .i64 a, .int .i64 b, .int .i64 k, .int .i64 a2, .int .i64 b2], .agg #[.string q.s, .int .i64 q.r, .int .i64 q.z, .int .i64 q.d, .int .i64 q.g], .int .i64 t, .int .i64 bath, .int .i64 cold, .int .i64 cooling] w fun e w' => e = .returned (.tuple #[.int .i64 0, .int .i64 0, .int .i64 0, .int .i64 (mendE (canB r l a b k a2 b2) q.vB t bath cold cooling [])]) ∧ Below w.heap.size w w' := by
  have HX := hid (box2_start (w := w) (A := #[.int .i64 r, .int .i64 l, .int .i64 a, .int .i64 b, .int .i64 k, .int .i64 a2, .int .i64 b2]) (B := #[.string q.s, .int .i64 q.r, .int .i64 q.z, .int .i64 q.d, .int .i64 q.g]) (T := 23) (T' := 25) (fz := (0, 0)) (fz' := (0, 0)))
  have HE := hid (fun W => xlerr_any r l a b k a2 b2 W q t bath cold cooling hs)
  rw [leE_mend] at HE
  generalize mendE (canB r l a b k a2 b2) q.vB t bath cold cooling [] = ce at *
  have hc1 : (ce != 0) = true := by simpa using hne
  clear hs hne
  go_enter Tryz.func24, Tryz.ntmps24
  go_wp2_with fail
  refine (HE.out _).mono ?_
  rintro e w1 ⟨rfl, hb⟩
  have HX := hid (HX.out.keep hb)
  clear hb
  go_wp2_with fail
  refine bodyPost_ret (v := .tuple #[.int .i64 0, .int .i64 0, .int .i64 0, .int .i64 ce]) (by simp [results, Tryz.results24, go_sem]) rfl ⟨rfl, HX.out.low⟩
set_option maxRecDepth 100000 in
set_option maxHeartbeats 4000000 in
theorem xleast_all (c : Cn) (q : Kl) (t bath cold : Int) (cooling : Nat) (Z : Nat) (w : World) (hz : q.z = Z) (hs : q.s.size ≤ maxLen) (hcv : c.V) (hv : Lt.validB q.s.data.toList q.r Z q.d q.g = true) (ho : okT t = true) (hob : okT bath = true) (hoc : okT cold = true) (hcool : cooling ≤ 2000) :
    Calls Tryz.prog 24 #[.agg #[.int .i64 (c.R : Int), .int .i64 (c.L : Int), .int .i64 c.A, .int .i64 c.B, .int .i64 c.K, .int .i64 c.A2, .int .i64 c.B2], .agg #[.string q.s, .int .i64 q.r, .int .i64 q.z, .int .i64 q.d, .int .i64 q.g], .int .i64 t, .int .i64 bath, .int .i64 cold, .int .i64 (cooling : Nat)] w (LeaP (q.g * (q.d * 1000000)) (fun n => withF c.R c.L c.A c.B c.K c.A2 c.B2 q t bath cold cooling n) (2000 - cooling) w) := by
  have hcan : canB (c.R : Int) c.L c.A c.B c.K c.A2 c.B2 = true := hcv
  have hkv : q.vB = true := by show Lt.validB q.s.data.toList q.r q.z q.d q.g = true; rw [hz]; exact hv
  have hch : chk4 (canB (c.R : Int) c.L c.A c.B c.K c.A2 c.B2) q.vB t [] = 0 := chk4_ok (by rw [hcan, hkv]; rfl) (by rw [ho]; rfl) (by simp)
  have HX := hid (box2_start (w := w) (A := #[.int .i64 (c.R : Int), .int .i64 (c.L : Int), .int .i64 c.A, .int .i64 c.B, .int .i64 c.K, .int .i64 c.A2, .int .i64 c.B2]) (B := #[.string q.s, .int .i64 q.r, .int .i64 q.z, .int .i64 q.d, .int .i64 q.g]) (T := 23) (T' := 25) (fz := (0, 0)) (fz' := (0, 0)))
  have HE := hid (fun W => xlerr_any c.R c.L c.A c.B c.K c.A2 c.B2 W q t bath cold cooling hs)
  have hle : leE (canB (c.R : Int) c.L c.A c.B c.K c.A2 c.B2) q.vB t bath cold cooling = 0 := by
    unfold leE
    rw [hcan, hkv, ho, hob, hoc]
    have : tick1 (cooling : Int) = true := by simp [tick1]; omega
    rw [this]
    rfl
  rw [hle] at HE
  have HBG := hid (fun W => xbegun_any c q.s q.r q.d q.g t Z W hs hcv)
  have HVV := hid hv
  have HG := hid (fun n (hn : n ≤ 2000 - cooling) => withF_eq (c := c) (q := q) (Z := Z) (t := t) (bath := bath) (cold := cold) (cooling := cooling) (n := n) hz hch hob hoc (by omega))
  have HFI := hid (fun (K : Kq) (he : K.s = q.s ∧ K.r = q.r ∧ K.Z = Z ∧ K.d = q.d ∧ K.g = q.g) xa xc da dc ua uc W hR hK => xfirst_any c K (rs0 c t) bath cold cooling (2000 - cooling) xa xc da dc ua uc W hcv.ok (kq_V he hv) (by obtain ⟨e1, e2, e3, e4, e5⟩ := he; rw [e1, e2, e3, e4, e5]; exact hv) (by rw [he.1]; exact hs) (rs0_good ho) hob hoc hcool (by omega) hR hK)
  have HMO := hid (show (2000 : Int) - (cooling : Int) = ((2000 - cooling : Nat) : Int) by omega)
  have hco2 : (cooling : Int) ≤ 2000 := by omega
  rw [hz] at HX HE ⊢
  clear hcan hkv hch hle hs hcv hv ho hob hoc hcool hz
  have hz := HX.out.sz
  have t0 := HX.out.fst 0; have t1 := HX.out.fst 1; have t2 := HX.out.fst 2; have t3 := HX.out.fst 3; have t4 := HX.out.fst 4; have t5 := HX.out.fst 5; have t6 := HX.out.fst 6
  clear hz t0 t1 t2 t3 t4 t5 t6
  go_enter Tryz.func24, Tryz.ntmps24
  go_wp2_with fail
  refine (HE.out _).mono ?_
  rintro e w0 ⟨rfl, hb⟩
  have HX := hid (HX.out.keep hb)
  clear hb
  have t0 := HX.out.fst 0; have t1 := HX.out.fst 1; have t2 := HX.out.fst 2; have t3 := HX.out.fst 3; have t4 := HX.out.fst 4; have t5 := HX.out.fst 5; have t6 := HX.out.fst 6
  have x0 := HX.out.snd 0; have x1 := HX.out.snd 1; have x2 := HX.out.snd 2; have x3 := HX.out.snd 3; have x4 := HX.out.snd 4
  simp only [List.getElem?_toArray, List.getElem?_cons_zero, List.getElem?_cons_succ] at t0 t1 t2 t3 t4 t5 t6 x0 x1 x2 x3 x4
  go_wp2_with fail
  refine (HBG.out _).mono ?_
  rintro e w1 ⟨K, he, hwF, hb, hwb, xa, xc, da, dc, ua, uc, rfl, hrows, hk, hst⟩
  have HRW := hid hrows
  have HKK := hid hk
  have HEQ := hid he
  have HWF := hid hwF
  clear hb hwb hrows hk hst he hwF t0 t1 t2 t3 t4 t5 t6 x0 x1 x2 x3 x4
  go_wp2_with fail
  rw [HMO.out]
  refine (HFI.out K HEQ.out xa xc da dc ua uc _ HRW.out HKK.out).mono ?_
  rintro e w2 ⟨⟨hk2, hs2⟩, hres⟩
  have hlow := Kq.low hk2
  rw [HWF.out] at hlow
  have HX2 := hid (HX.out.keep hlow)
  have HF := hid (fun n (hn : n ≤ 2000 - cooling) => (show lowF c K.f K.u (rs0 c t) bath cold cooling n = withF c.R c.L c.A c.B c.K c.A2 c.B2 q t bath cold cooling n from (lowF_eq (c := c) (t := t) (bath := bath) (cold := cold) (cooling := cooling) [] HEQ.out n).trans (HG.out n hn).symm))
  have hnd : K.g * (K.d * 1000000) = q.g * (q.d * 1000000) := by obtain ⟨_, _, _, e4, e5⟩ := HEQ.out; rw [e4, e5]
  rw [hnd] at hres
  clear hlow hk2 hs2 hnd HFI HBG
  rcases hres with ⟨n, hn, h1, h2, rfl⟩ | ⟨h1, rfl⟩
  · have HR : Hid (LeaP (q.g * (q.d * 1000000)) (fun n => withF c.R c.L c.A c.B c.K c.A2 c.B2 q t bath cold cooling n) (2000 - cooling) w (.returned (.tuple #[.int .i64 (n : Nat), .int .i64 (lowF c K.f K.u (rs0 c t) bath cold cooling n), .int .i64 (if n = 0 then -1 else lowF c K.f K.u (rs0 c t) bath cold cooling (n - 1)), .int .i64 0])) w2) := by
      refine ⟨HX2.out.low, .inl ⟨n, hn, by dsimp only; rw [← HF.out n hn]; exact h1, fun j hj => by dsimp only; rw [← HF.out j (by omega)]; exact h2 j hj, ?_⟩⟩
      dsimp only
      rw [HF.out n hn]
      by_cases h0 : n = 0
      · rw [if_pos h0, if_pos h0]
      · rw [if_neg h0, if_neg h0, HF.out (n - 1) (by omega)]
    generalize lowF c K.f K.u (rs0 c t) bath cold cooling n = ln at *
    generalize (if n = 0 then -1 else lowF c K.f K.u (rs0 c t) bath cold cooling (n - 1)) = lp at *
    clear h1 h2 hn
    go_wp2_with fail
    exact bodyPost_ret (v := .tuple #[.int .i64 (n : Nat), .int .i64 ln, .int .i64 lp, .int .i64 0]) (by simp [results, Tryz.results24, go_sem]) rfl HR.out
  · have HR : Hid (LeaP (q.g * (q.d * 1000000)) (fun n => withF c.R c.L c.A c.B c.K c.A2 c.B2 q t bath cold cooling n) (2000 - cooling) w (.returned (.tuple #[.int .i64 0, .int .i64 0, .int .i64 0, .int .i64 8])) w2) :=
      ⟨HX2.out.low, .inr ⟨fun j hj => by dsimp only; rw [← HF.out j hj]; exact h1 j hj, rfl⟩⟩
    clear h1
    go_wp2_with fail
    exact bodyPost_ret (v := .tuple #[.int .i64 0, .int .i64 0, .int .i64 0, .int .i64 8]) (by simp [results, Tryz.results24, go_sem]) rfl HR.out
end Go.Proofs.YtedfajokiblfhaaGreat
