/- Texts of this seat, one behind the other. -/
import Derived.Test.YtihbjimnjhfpeaaGreatR42
/- Walk of Mended where it looks: contract. -/
namespace Go.Proofs.YtihbjimnjhfpeaaGreat
open Go.RowKit Go.Lib

set_option maxRecDepth 100000 in
set_option maxHeartbeats 16000000 in
theorem mended_ok (c : Cn) (s : ByteArray) (r d g t bath cold : Int) (cooling most : Nat) (Z : Nat) (v : Value) (p : List Int) (w : World) (hs : s.size ≤ maxLen) (hcv : c.V) (hv : Lt.validB s.data.toList r Z d g = true) (ho : okT t = true) (hob : okT bath = true) (hoc : okT cold = true) (hop : okL p = true) (hmost : most + p.length + cooling = 2000) (hl : RowI w v p)
    (hmono : ∀ D : Dish, D = dishR c (fun x => Lt.Pm.rateD r Z (x / 250)) (dish0 c t) p → risB c D bath cold = true → ∀ j n, j ≤ n → n ≤ most → tstC c (fun x => Lt.Pm.rateD r Z (x / 250)) D (g * (d * 1000000)) bath cold cooling j = true → tstC c (fun x => Lt.Pm.rateD r Z (x / 250)) D (g * (d * 1000000)) bath cold cooling n = true) :
    Calls Tryz.prog 31 #[.agg #[.int .i64 (c.R : Int), .int .i64 (c.L : Int), .int .i64 c.A, .int .i64 c.B, .int .i64 c.K, .int .i64 c.A2, .int .i64 c.B2], .agg #[.string s, .int .i64 r, .int .i64 (Z : Int), .int .i64 d, .int .i64 g], .int .i64 t, .int .i64 bath, .int .i64 cold, .int .i64 (cooling : Nat), v] w (LeastR (tstC c (fun x => Lt.Pm.rateD r Z (x / 250)) (dishR c (fun x => Lt.Pm.rateD r Z (x / 250)) (dish0 c t) p) (g * (d * 1000000)) bath cold cooling) most w) := by
  have HX := hid (box2_start (w := w) (A := #[.int .i64 (c.R : Int), .int .i64 (c.L : Int), .int .i64 c.A, .int .i64 c.B, .int .i64 c.K, .int .i64 c.A2, .int .i64 c.B2]) (B := #[.string s, .int .i64 r, .int .i64 (Z : Int), .int .i64 d, .int .i64 g]) (T := 23) (T' := 25) (fz := (0, 0)) (fz' := (0, 0)))
  have HL := hid (fun w1 (g : Below w.heap.size w w1) => hl.keep g)
  obtain ⟨a0, cap, rfl⟩ := hl.shape
  have hcan : canB (c.R : Int) c.L c.A c.B c.K c.A2 c.B2 = true := hcv
  have hkv : Kl.vB ⟨s, r, Z, d, g⟩ = true := hv
  have hch : chk4 (canB (c.R : Int) c.L c.A c.B c.K c.A2 c.B2) (Kl.vB ⟨s, r, Z, d, g⟩) t p = 0 := by
    refine chk4_ok ?_ ?_ (by omega)
    · rw [hcan, hkv]; rfl
    · rw [ho, hop]; rfl
  have HC : Hid (∀ W, RowI W (.slice a0 p.length cap) p → Calls Tryz.prog 70 #[.agg #[.int .i64 (c.R : Int), .int .i64 (c.L : Int), .int .i64 c.A, .int .i64 c.B, .int .i64 c.K, .int .i64 c.A2, .int .i64 c.B2], .agg #[.string s, .int .i64 r, .int .i64 (Z : Int), .int .i64 d, .int .i64 g], .int .i64 t, .slice a0 p.length cap] W fun e w' => e = .returned (.int .i64 0) ∧ Below W.heap.size W w') := fun W h => by
    have := pcheck_any c.R c.L c.A c.B c.K c.A2 c.B2 W ⟨s, r, Z, d, g⟩ t (.slice a0 p.length cap) p hs h (by unfold maxLen; omega)
    rwa [hch] at this
  have HV : Hid (∀ (W : World) (n : Nat), W.heap.size = n → Calls Tryz.prog 27 #[.agg #[.int .i64 (c.R : Int), .int .i64 (c.L : Int), .int .i64 c.A, .int .i64 c.B, .int .i64 c.K, .int .i64 c.A2, .int .i64 c.B2], .slice (some ⟨n, 0, none⟩) 1 1] (W.alloc (.cells #[.string s, .int .i64 r, .int .i64 (Z : Int), .int .i64 d, .int .i64 g] 25)) fun e w' => e = .returned (.bool true) ∧ Below (W.alloc (.cells #[.string s, .int .i64 r, .int .i64 (Z : Int), .int .i64 d, .int .i64 g] 25)).heap.size (W.alloc (.cells #[.string s, .int .i64 r, .int .i64 (Z : Int), .int .i64 d, .int .i64 g] 25)) w') := fun W n hn => by
    have := pvalid_any c.R c.L c.A c.B c.K c.A2 c.B2 (W.alloc (.cells #[.string s, .int .i64 r, .int .i64 (Z : Int), .int .i64 d, .int .i64 g] 25)) n 1 [⟨s, r, Z, d, g⟩] (klAt_at ⟨s, r, Z, d, g⟩ _ _ hn) (by simpa using hs) (by simp)
    simpa [hkv, hcan] using this
  have HT2 := hid (fun (W : World) (b : Nat) (h : W.heap.size = b) => ptemps_any (W.alloc (.cells #[.int .i64 bath, .int .i64 cold] 3)) _ [bath, cold] (two_row bath cold 3 h))
  have HO2 := hid (show okL [bath, cold] = true by unfold okL; rw [List.all_cons, List.all_cons, List.all_nil, hob, hoc]; rfl)
  have HK2 := hid (fun (W : World) (b : Nat) (h : W.heap.size = b) => ticks_any (W.alloc (.cells #[.int .i64 (cooling : Nat)] 3)) _ [(cooling : Int)] (one_row (cooling : Int) 3 h) (by simp))
  have HOK2 := hid (show ticksB [(cooling : Int)] = true by simp [ticksB, tick1]; omega)
  rw [HO2.out] at HT2
  rw [HOK2.out] at HK2
  have hlt : okL ([t, bath, cold] ++ p) = true := by unfold okL at hop ⊢; rw [List.all_append, List.all_cons, List.all_cons, List.all_cons, List.all_nil, ho, hob, hoc, hop]; rfl
  have HCC := hid (fun (W : World) (b b1 : Nat) (h : TwoC W b (.slice (some ⟨b1, 0, none⟩) 3 3) (.slice a0 p.length cap)) (hu : RowI W (.slice (some ⟨b1, 0, none⟩) 3 3) [t, bath, cold]) (hv : RowI W (.slice a0 p.length cap) p) => concat2_any h hu hv (by simp; omega))
  have HMD := hid (fun (W : World) (u : Value) (h : RowI W u ([t, bath, cold] ++ p)) => meterDown_any c s r d g Z u ([t, bath, cold] ++ p) W hs hv h (by simp) (by simp; omega) hlt)
  have hlo : ∀ x ∈ [t, bath, cold] ++ p, minA ([t, bath, cold] ++ p) ≤ x ∧ x ≤ maxA ([t, bath, cold] ++ p) := fun x hx => ⟨minA_le hx, maxA_ge hx⟩
  have HRK := hid (fun (W1 : World) (kb mb : Nat) (o : Obj) (hD : DnI (Lt.Pm.rateD r Z) (minA ([t, bath, cold] ++ p) / 250) ((maxA ([t, bath, cold] ++ p) / 250 - minA ([t, bath, cold] ++ p) / 250).toNat + 1) kb mb W1) (ho : W1.heap[mb]? = some o) => rateOk_fix (tlo := minA ([t, bath, cold] ++ p)) (thi := maxA ([t, bath, cold] ++ p)) hD ho (fun x h1 h2 => by omega) (okL_bd hlt _ (minA_mem (by simp))).1 (okL_bd hlt _ (maxA_mem (by simp))).2 (fun q => by have := Lt.Pm.rateD_le r Z q (Lt.validB_iff.1 hv).2.2.1.1; omega))
  have bt := hlo t (by simp)
  have bb := hlo bath (by simp)
  have bc := hlo cold (by simp)
  have bp : ∀ b ∈ p, minA ([t, bath, cold] ++ p) ≤ b ∧ b ≤ maxA ([t, bath, cold] ++ p) := fun b hb => hlo b (by simp [hb])
  have HRN := hid (fun (F : Nat) (lb : Array Value) (mb B0 : Nat) (I : World → Prop) (W : World) (hR : RateOk F lb (fun x => Lt.Pm.rateD r Z (x / 250)) (minA ([t, bath, cold] ++ p)) (maxA ([t, bath, cold] ++ p)) mb B0 I) (hI : I W) (h : RowI W (.slice a0 p.length cap) p) => mrun_any c (g * (d * 1000000)) t F lb _ _ _ mb B0 I _ p W hR hcv ho hop hI h (by omega) bt bp)
  have HLE := hid (fun (D : Dish) (hD : D = dishR c (fun x => Lt.Pm.rateD r Z (x / 250)) (dish0 c t) p) (F : Nat) (lb : Array Value) (mb B0 : Nat) (I : World → Prop) (ua ub : Option Addr) (uc ud : Nat) (W : World) (hR : RateOk F lb (fun x => Lt.Pm.rateD r Z (x / 250)) (minA ([t, bath, cold] ++ p)) (maxA ([t, bath, cold] ++ p)) mb B0 I) (hF : Fix I mb) (hI : I W) (h1 : RowI W (.slice ua D.1.1.length uc) D.1.1) (h2 : RowI W (.slice ub D.2.length ud) (ivN D.2)) =>
    sleast_any c (g * (d * 1000000)) F lb bath cold most cooling _ _ _ mb B0 I D ua ub uc ud W hR hF hcv (by rw [hD]; exact (dish0_good ho).run hcv.ok hop) hob bb hoc bc (by
      rw [hD, dishR_body]
      exact runS_bd hcv.ok _ _ (by simp [dish0, evB]) (fun x hx => by have := List.eq_of_mem_replicate hx; omega) bp) (by omega) (by omega) (hmono D hD) hI h1 h2)
  have RLEN := hid (show p.length ≤ 2000 by omega)
  have hms : (2000 : Int) - p.length - cooling = (most : Nat) := by omega
  generalize minA ([t, bath, cold] ++ p) / 250 = qlo at *
  generalize (maxA ([t, bath, cold] ++ p) / 250 - qlo).toNat + 1 = qn at *
  generalize minA ([t, bath, cold] ++ p) = tlo at *
  generalize maxA ([t, bath, cold] ++ p) = thi at *
  clear hcv hv ho hop hl hcan hch hlt hs hob hoc hkv hlo bt bb bc bp hmono HO2 HOK2
  have hcl : cooling ≤ 2000 := by omega
  go_enter Tryz.func31, Tryz.ntmps31
  go_wp2_with fail
  refine (HV.out _ _ (by simp)).mono ?_
  rintro e w0 ⟨rfl, hb⟩
  have HX := hid (HX.out.keep (balloc hb))
  clear hb
  go_wp2_with fail
  refine (HT2.out _ _ (by simp)).mono ?_
  rintro e w1 ⟨rfl, rfl⟩
  have HX := hid (HX.out.keep ((Below.refl _ _).alloc (Nat.le_refl _) (.cells #[.int .i64 bath, .int .i64 cold] 3)))
  go_wp2_with fail
  refine (HK2.out _ _ (by simp)).mono ?_
  rintro e w1 ⟨rfl, rfl⟩
  have HX := hid (HX.out.keep ((Below.refl _ _).alloc (Nat.le_refl _) (.cells #[.int .i64 (cooling : Nat)] 3)))
  clear HV HT2 HK2
  generalize hW0 : World.alloc (World.alloc w0 _) _ = w1 at *
  clear hW0
  have x0 := HX.out.fst 0; have x1 := HX.out.fst 1; have x2 := HX.out.fst 2; have x3 := HX.out.fst 3; have x4 := HX.out.fst 4; have x5 := HX.out.fst 5; have x6 := HX.out.fst 6
  have y0 := HX.out.snd 0; have y1 := HX.out.snd 1; have y2 := HX.out.snd 2; have y3 := HX.out.snd 3; have y4 := HX.out.snd 4
  simp only [List.getElem?_toArray, List.getElem?_cons_zero, List.getElem?_cons_succ] at x0 x1 x2 x3 x4 x5 x6 y0 y1 y2 y3 y4
  go_wp2_with fail
  refine (HC.out _ (HL.out _ HX.out.low)).mono ?_
  rintro e w0 ⟨rfl, hb⟩
  have HX := hid (HX.out.keep hb)
  clear hb HC x0 x1 x2 x3 x4 x5 x6 y0 y1 y2 y3 y4
  go_upto_region 8 with (fail)
  go_cut [17] (fun s11 wx => ∃ m kb mb, s11 = .pointer (some ⟨m, 0, none⟩) ∧ Hid (PlE c (g * (d * 1000000)) (Lt.Pm.rateD r Z) qlo qn kb mb m w wx))
  case first =>
    have hmd : Hid (Below w0.heap.size w0 w0.drew) := (Below.refl _ w0).drew
    have HX := hid (HX.out.keep hmd.out)
    refine wp_region_sink (S := (fun w1 => w1.cell? ⟨w.heap.size, 0, none⟩ = some (.int .i64 (c.R : Int)) ∧ w1.cell? ⟨w.heap.size, 1, none⟩ = some (.int .i64 (c.L : Int)) ∧ w1.cell? ⟨w.heap.size, 2, none⟩ = some (.int .i64 c.A) ∧ w1.cell? ⟨w.heap.size, 3, none⟩ = some (.int .i64 c.B) ∧ w1.cell? ⟨w.heap.size, 4, none⟩ = some (.int .i64 c.K) ∧ w1.cell? ⟨w.heap.size, 5, none⟩ = some (.int .i64 c.A2) ∧ w1.cell? ⟨w.heap.size, 6, none⟩ = some (.int .i64 c.B2) ∧ w1.cell? ⟨w.heap.size + 1, 0, none⟩ = some (.string s) ∧ w1.cell? ⟨w.heap.size + 1, 1, none⟩ = some (.int .i64 r) ∧ w1.cell? ⟨w.heap.size + 1, 2, none⟩ = some (.int .i64 (Z : Int)) ∧ w1.cell? ⟨w.heap.size + 1, 3, none⟩ = some (.int .i64 d) ∧ w1.cell? ⟨w.heap.size + 1, 4, none⟩ = some (.int .i64 g))) 11 (by kernel_rfl) (by kernel_rfl) (by kernel_rfl) (by kernel_rfl) ⟨HX.out.fst 0, HX.out.fst 1, HX.out.fst 2, HX.out.fst 3, HX.out.fst 4, HX.out.fst 5, HX.out.fst 6, HX.out.snd 0, HX.out.snd 1, HX.out.snd 2, HX.out.snd 3, HX.out.snd 4⟩ (fun hS0 => ?_)
    generalize w0.drew = W0 at *
    clear hmd
    refine wpAnyH_take (i := 0) (v := ?_) rfl (by kernel_rfl) (by kernel_rfl) (by kernel_rfl) (fun _ _ _ h => h) (Or.inl ⟨by rfl, ?_⟩) hS0 ?_
    rotate_left
    · intro w' hSw
      obtain ⟨q0, q1, q2, q3, q4, q5, q6, _⟩ := hSw
      go_simp
      try with_reducible rfl
    try simp only [Act.put]
    try simp only [List.setIfInBounds_toArray]
    try simp only [List.set_cons_zero, List.set_cons_succ]
    refine wpAnyH_take (i := 1) (v := ?_) rfl (by kernel_rfl) (by kernel_rfl) (by kernel_rfl) (fun _ _ _ h => h) (Or.inl ⟨by rfl, ?_⟩) hS0 ?_
    rotate_left
    · intro w' hSw
      obtain ⟨_, _, _, _, _, _, _, q0, q1, q2, q3, q4⟩ := hSw
      go_simp
      try with_reducible rfl
    try simp only [Act.put]
    try simp only [List.setIfInBounds_toArray]
    try simp only [List.set_cons_zero, List.set_cons_succ]
    refine wpAnyH_take (i := 2) (v := ?_) rfl (by kernel_rfl) (by kernel_rfl) (by kernel_rfl) (fun _ _ _ h => h) (Or.inl ⟨by rfl, ?_⟩) hS0 ?_
    rotate_left
    · intro w' hSw
      obtain _ := hSw
      go_simp
      try with_reducible rfl
    try simp only [Act.put]
    try simp only [List.setIfInBounds_toArray]
    try simp only [List.set_cons_zero, List.set_cons_succ]
    refine wpAnyH_take (i := 3) (v := ?_) rfl (by kernel_rfl) (by kernel_rfl) (by kernel_rfl) (fun _ _ _ h => h) (Or.inl ⟨by rfl, ?_⟩) hS0 ?_
    rotate_left
    · intro w' hSw
      obtain _ := hSw
      go_simp
      try with_reducible rfl
    try simp only [Act.put]
    try simp only [List.setIfInBounds_toArray]
    try simp only [List.set_cons_zero, List.set_cons_succ]
    refine wpAnyH_take (i := 4) (v := ?_) rfl (by kernel_rfl) (by kernel_rfl) (by kernel_rfl) (fun _ _ _ h => h) (Or.inl ⟨by rfl, ?_⟩) hS0 ?_
    rotate_left
    · intro w' hSw
      obtain _ := hSw
      go_simp
      try with_reducible rfl
    try simp only [Act.put]
    try simp only [List.setIfInBounds_toArray]
    try simp only [List.set_cons_zero, List.set_cons_succ]
    refine wpAnyH_take (i := 6) (v := ?_) rfl (by kernel_rfl) (by kernel_rfl) (by kernel_rfl) (fun _ _ _ h => h) (Or.inl ⟨by rfl, ?_⟩) hS0 ?_
    rotate_left
    · intro w' hSw
      obtain _ := hSw
      go_simp
      try with_reducible rfl
    try simp only [Act.put]
    try simp only [List.setIfInBounds_toArray]
    try simp only [List.set_cons_zero, List.set_cons_succ]
    (refine wpAnyH_ready (rs := [5, 10]) (by kernel_rfl) (by simp) ?_)
    refine AllReadyH.cons rfl (fun K hK => ?_) ?_
    · go_simp
      have hb : Below W0.heap.size W0 (W0.alloc (.cells #[.int .i64 t, .int .i64 bath, .int .i64 cold] 3)) := (Below.refl _ _).alloc (Nat.le_refl _) _
      have R1 := hid (three_row (W := W0) t bath cold 3 rfl)
      generalize hW : (W0.alloc (.cells #[.int .i64 t, .int .i64 bath, .int .i64 cold] 3)) = W1 at *
      clear hW
      generalize W0.heap.size = b1 at R1 ⊢
      have HX := hid (HX.out.keep hb)
      refine hK.out _ _ ⟨HX.out.fst 0, HX.out.fst 1, HX.out.fst 2, HX.out.fst 3, HX.out.fst 4, HX.out.fst 5, HX.out.fst 6, HX.out.snd 0, HX.out.snd 1, HX.out.snd 2, HX.out.snd 3, HX.out.snd 4⟩ (fun hS0 => ?_)
      clear hK K
      (refine wpAnyH_ready (rs := [7, 10]) (by kernel_rfl) (by simp) ?_)
      refine AllReadyH.cons rfl (fun K hK => ?_) ?_
      · go_simp
        have hb : Below W1.heap.size W1 (W1.alloc (.cells #[.slice (some ⟨b1, 0, none⟩) 3 3, .slice a0 p.length cap] 28)) := (Below.refl _ _).alloc (Nat.le_refl _) _
        have C5 : Hid (TwoC (W1.alloc (.cells #[.slice (some ⟨b1, 0, none⟩) 3 3, .slice a0 p.length cap] 28)) W1.heap.size (.slice (some ⟨b1, 0, none⟩) 3 3) (.slice a0 p.length cap)) := ⟨cell_alloc_new _ _ _ _ 0, cell_alloc_new _ _ _ _ 1⟩
        generalize hW : (W1.alloc (.cells #[.slice (some ⟨b1, 0, none⟩) 3 3, .slice a0 p.length cap] 28)) = W2 at *
        clear hW
        generalize W1.heap.size = b5 at C5 ⊢
        have HX := hid (HX.out.keep hb)
        have R1 := hid (R1.out.keep hb)
        refine hK.out _ _ ⟨HX.out.fst 0, HX.out.fst 1, HX.out.fst 2, HX.out.fst 3, HX.out.fst 4, HX.out.fst 5, HX.out.fst 6, HX.out.snd 0, HX.out.snd 1, HX.out.snd 2, HX.out.snd 3, HX.out.snd 4⟩ (fun hS0 => ?_)
        clear hK K
        (refine wpAnyH_ready (rs := [8, 10]) (by kernel_rfl) (by simp) ?_)
        refine AllReadyH.cons rfl (fun K hK => ?_) ?_
        · go_simp
          refine (HCC.out _ _ _ C5.out R1.out (HL.out _ HX.out.low)).mono ?_
          rintro e W3 ⟨u6, rfl, ho6, hb⟩
          have RC := hid (NewI.rowI ho6 (by have := RLEN.out; simp; omega))
          have HX := hid (HX.out.keep hb)
          have R1 := hid (R1.out.keep hb)
          have C5 := hid (C5.out.keep hb)
          refine hK.out _ _ ⟨HX.out.fst 0, HX.out.fst 1, HX.out.fst 2, HX.out.fst 3, HX.out.fst 4, HX.out.fst 5, HX.out.fst 6, HX.out.snd 0, HX.out.snd 1, HX.out.snd 2, HX.out.snd 3, HX.out.snd 4⟩ (fun hS0 => ?_)
          clear hK K
          (refine wpAnyH_ready (rs := [9, 10]) (by kernel_rfl) (by simp) ?_)
          refine AllReadyH.cons rfl (fun K hK => ?_) ?_
          · go_simp
            refine (HMD.out _ _ RC.out).mono ?_
            rintro e W4 ⟨kb, mb, rfl, hdn, hkb, hmb, hb⟩
            have DN := hid hdn
            have KM := hid (show w.heap.size ≤ mb from Nat.le_trans HX.out.low.size hmb)
            have HX := hid (HX.out.keep hb)
            have R1 := hid (R1.out.keep hb)
            have C5 := hid (C5.out.keep hb)
            have RC := hid (RC.out.keep hb)
            refine hK.out _ _ ⟨HX.out.fst 0, HX.out.fst 1, HX.out.fst 2, HX.out.fst 3, HX.out.fst 4, HX.out.fst 5, HX.out.fst 6, HX.out.snd 0, HX.out.snd 1, HX.out.snd 2, HX.out.snd 3, HX.out.snd 4⟩ (fun hS0 => ?_)
            clear hK K
            (refine wpAnyH_ready (rs := [10]) (by kernel_rfl) (by simp) ?_)
            refine AllReadyH.cons rfl (fun K hK => ?_) AllReadyH.nil
            go_simp
            have hb : Below W4.heap.size W4 (W4.alloc (.cells #[.int .i64 0, .int .i64 0, .int .i64 0, .int .i64 0, .int .i64 0, .int .i64 0, .int .i64 0, .int .i64 0, .nilFunc] 80)) := (Below.refl _ _).alloc (Nat.le_refl _) _
            have ME := hid (heap_alloc_new W4 (.cells #[.int .i64 0, .int .i64 0, .int .i64 0, .int .i64 0, .int .i64 0, .int .i64 0, .int .i64 0, .int .i64 0, .nilFunc] 80))
            have ML := hid (show w.heap.size ≤ W4.heap.size from HX.out.low.size)
            generalize hW : (W4.alloc (.cells #[.int .i64 0, .int .i64 0, .int .i64 0, .int .i64 0, .int .i64 0, .int .i64 0, .int .i64 0, .int .i64 0, .nilFunc] 80)) = W5 at *
            clear hW
            generalize hm : W4.heap.size = m at ME ML ⊢
            have HX := hid (HX.out.keep hb)
            have R1 := hid (R1.out.keep hb)
            have C5 := hid (C5.out.keep hb)
            have RC := hid (RC.out.keep hb)
            have DN := hid (DN.out.keep hb)
            refine hK.out _ _ ⟨HX.out.fst 0, HX.out.fst 1, HX.out.fst 2, HX.out.fst 3, HX.out.fst 4, HX.out.fst 5, HX.out.fst 6, HX.out.snd 0, HX.out.snd 1, HX.out.snd 2, HX.out.snd 3, HX.out.snd 4⟩ (fun hS0 => ?_)
            clear hK K
            have h3 := ME.out
            have t0 := cell_of_row _ _ 0 _ _ _ h3
            have f0 := frozen_of_row _ _ 0 _ _ h3
            have t1 := cell_of_row _ _ 1 _ _ _ h3
            have f1 := frozen_of_row _ _ 1 _ _ h3
            have t2 := cell_of_row _ _ 2 _ _ _ h3
            have f2 := frozen_of_row _ _ 2 _ _ h3
            have t3 := cell_of_row _ _ 3 _ _ _ h3
            have f3 := frozen_of_row _ _ 3 _ _ h3
            have t4 := cell_of_row _ _ 4 _ _ _ h3
            have f4 := frozen_of_row _ _ 4 _ _ h3
            have t5 := cell_of_row _ _ 5 _ _ _ h3
            have f5 := frozen_of_row _ _ 5 _ _ h3
            have t6 := cell_of_row _ _ 6 _ _ _ h3
            have f6 := frozen_of_row _ _ 6 _ _ h3
            have t7 := cell_of_row _ _ 7 _ _ _ h3
            have f7 := frozen_of_row _ _ 7 _ _ h3
            have t8 := cell_of_row _ _ 8 _ _ _ h3
            have f8 := frozen_of_row _ _ 8 _ _ h3
            simp only [List.getElem?_toArray, List.getElem?_cons_zero, List.getElem?_cons_succ] at t0 t1 t2 t3 t4 t5 t6 t7 t8
            have HST := hid (plE_set (c := c) (need := g * (d * 1000000))  h3 DN.out HX.out.low ML.out KM.out)
            have hz := lt_of_block h3
            clear h3 hS0
            refine wpAnyH_done (by kernel_rfl) ?_ _
            refine sink_last rfl (fun K hK => ?_)
            go_simp
            refine hK.out _ _ ?_
            clear hK K
            go_wp2_with fail
            go_meet
            exact ⟨m, kb, mb, rfl, HST⟩
          refine AllReadyH.cons rfl (fun K hK => ?_) AllReadyH.nil
          go_simp
          have hb : Below W3.heap.size W3 (W3.alloc (.cells #[.int .i64 0, .int .i64 0, .int .i64 0, .int .i64 0, .int .i64 0, .int .i64 0, .int .i64 0, .int .i64 0, .nilFunc] 80)) := (Below.refl _ _).alloc (Nat.le_refl _) _
          have ME := hid (heap_alloc_new W3 (.cells #[.int .i64 0, .int .i64 0, .int .i64 0, .int .i64 0, .int .i64 0, .int .i64 0, .int .i64 0, .int .i64 0, .nilFunc] 80))
          have ML := hid (show w.heap.size ≤ W3.heap.size from HX.out.low.size)
          generalize hW : (W3.alloc (.cells #[.int .i64 0, .int .i64 0, .int .i64 0, .int .i64 0, .int .i64 0, .int .i64 0, .int .i64 0, .int .i64 0, .nilFunc] 80)) = W6 at *
          clear hW
          generalize hm : W3.heap.size = m at ME ML ⊢
          have HX := hid (HX.out.keep hb)
          have R1 := hid (R1.out.keep hb)
          have C5 := hid (C5.out.keep hb)
          have RC := hid (RC.out.keep hb)
          refine hK.out _ _ ⟨HX.out.fst 0, HX.out.fst 1, HX.out.fst 2, HX.out.fst 3, HX.out.fst 4, HX.out.fst 5, HX.out.fst 6, HX.out.snd 0, HX.out.snd 1, HX.out.snd 2, HX.out.snd 3, HX.out.snd 4⟩ (fun hS0 => ?_)
          clear hK K
          (refine wpAnyH_ready (rs := [9]) (by kernel_rfl) (by simp) ?_)
          refine AllReadyH.cons rfl (fun K hK => ?_) AllReadyH.nil
          go_simp
          refine (HMD.out _ _ RC.out).mono ?_
          rintro e W7 ⟨kb, mb, rfl, hdn, hkb, hmb, hb⟩
          have DN := hid hdn
          have KM := hid (show w.heap.size ≤ mb from Nat.le_trans HX.out.low.size hmb)
          have HX := hid (HX.out.keep hb)
          have R1 := hid (R1.out.keep hb)
          have C5 := hid (C5.out.keep hb)
          have RC := hid (RC.out.keep hb)
          have ME := hid ((hb.block _ (lt_of_block ME.out)).trans ME.out)
          refine hK.out _ _ ⟨HX.out.fst 0, HX.out.fst 1, HX.out.fst 2, HX.out.fst 3, HX.out.fst 4, HX.out.fst 5, HX.out.fst 6, HX.out.snd 0, HX.out.snd 1, HX.out.snd 2, HX.out.snd 3, HX.out.snd 4⟩ (fun hS0 => ?_)
          clear hK K
          have h3 := ME.out
          have t0 := cell_of_row _ _ 0 _ _ _ h3
          have f0 := frozen_of_row _ _ 0 _ _ h3
          have t1 := cell_of_row _ _ 1 _ _ _ h3
          have f1 := frozen_of_row _ _ 1 _ _ h3
          have t2 := cell_of_row _ _ 2 _ _ _ h3
          have f2 := frozen_of_row _ _ 2 _ _ h3
          have t3 := cell_of_row _ _ 3 _ _ _ h3
          have f3 := frozen_of_row _ _ 3 _ _ h3
          have t4 := cell_of_row _ _ 4 _ _ _ h3
          have f4 := frozen_of_row _ _ 4 _ _ h3
          have t5 := cell_of_row _ _ 5 _ _ _ h3
          have f5 := frozen_of_row _ _ 5 _ _ h3
          have t6 := cell_of_row _ _ 6 _ _ _ h3
          have f6 := frozen_of_row _ _ 6 _ _ h3
          have t7 := cell_of_row _ _ 7 _ _ _ h3
          have f7 := frozen_of_row _ _ 7 _ _ h3
          have t8 := cell_of_row _ _ 8 _ _ _ h3
          have f8 := frozen_of_row _ _ 8 _ _ h3
          simp only [List.getElem?_toArray, List.getElem?_cons_zero, List.getElem?_cons_succ] at t0 t1 t2 t3 t4 t5 t6 t7 t8
          have HST := hid (plE_set (c := c) (need := g * (d * 1000000))  h3 DN.out HX.out.low ML.out KM.out)
          have hz := lt_of_block h3
          clear h3 hS0
          refine wpAnyH_done (by kernel_rfl) ?_ _
          refine sink_last rfl (fun K hK => ?_)
          go_simp
          refine hK.out _ _ ?_
          clear hK K
          go_wp2_with fail
          go_meet
          exact ⟨m, kb, mb, rfl, HST⟩
        refine AllReadyH.cons rfl (fun K hK => ?_) AllReadyH.nil
        go_simp
        have hb : Below W2.heap.size W2 (W2.alloc (.cells #[.int .i64 0, .int .i64 0, .int .i64 0, .int .i64 0, .int .i64 0, .int .i64 0, .int .i64 0, .int .i64 0, .nilFunc] 80)) := (Below.refl _ _).alloc (Nat.le_refl _) _
        have ME := hid (heap_alloc_new W2 (.cells #[.int .i64 0, .int .i64 0, .int .i64 0, .int .i64 0, .int .i64 0, .int .i64 0, .int .i64 0, .int .i64 0, .nilFunc] 80))
        have ML := hid (show w.heap.size ≤ W2.heap.size from HX.out.low.size)
        generalize hW : (W2.alloc (.cells #[.int .i64 0, .int .i64 0, .int .i64 0, .int .i64 0, .int .i64 0, .int .i64 0, .int .i64 0, .int .i64 0, .nilFunc] 80)) = W8 at *
        clear hW
        generalize hm : W2.heap.size = m at ME ML ⊢
        have HX := hid (HX.out.keep hb)
        have R1 := hid (R1.out.keep hb)
        have C5 := hid (C5.out.keep hb)
        refine hK.out _ _ ⟨HX.out.fst 0, HX.out.fst 1, HX.out.fst 2, HX.out.fst 3, HX.out.fst 4, HX.out.fst 5, HX.out.fst 6, HX.out.snd 0, HX.out.snd 1, HX.out.snd 2, HX.out.snd 3, HX.out.snd 4⟩ (fun hS0 => ?_)
        clear hK K
        (refine wpAnyH_ready (rs := [8]) (by kernel_rfl) (by simp) ?_)
        refine AllReadyH.cons rfl (fun K hK => ?_) AllReadyH.nil
        go_simp
        refine (HCC.out _ _ _ C5.out R1.out (HL.out _ HX.out.low)).mono ?_
        rintro e W9 ⟨u6, rfl, ho6, hb⟩
        have RC := hid (NewI.rowI ho6 (by have := RLEN.out; simp; omega))
        have HX := hid (HX.out.keep hb)
        have R1 := hid (R1.out.keep hb)
        have C5 := hid (C5.out.keep hb)
        have ME := hid ((hb.block _ (lt_of_block ME.out)).trans ME.out)
        refine hK.out _ _ ⟨HX.out.fst 0, HX.out.fst 1, HX.out.fst 2, HX.out.fst 3, HX.out.fst 4, HX.out.fst 5, HX.out.fst 6, HX.out.snd 0, HX.out.snd 1, HX.out.snd 2, HX.out.snd 3, HX.out.snd 4⟩ (fun hS0 => ?_)
        clear hK K
        (refine wpAnyH_ready (rs := [9]) (by kernel_rfl) (by simp) ?_)
        refine AllReadyH.cons rfl (fun K hK => ?_) AllReadyH.nil
        go_simp
        refine (HMD.out _ _ RC.out).mono ?_
        rintro e W10 ⟨kb, mb, rfl, hdn, hkb, hmb, hb⟩
        have DN := hid hdn
        have KM := hid (show w.heap.size ≤ mb from Nat.le_trans HX.out.low.size hmb)
        have HX := hid (HX.out.keep hb)
        have R1 := hid (R1.out.keep hb)
        have C5 := hid (C5.out.keep hb)
        have RC := hid (RC.out.keep hb)
        have ME := hid ((hb.block _ (lt_of_block ME.out)).trans ME.out)
        refine hK.out _ _ ⟨HX.out.fst 0, HX.out.fst 1, HX.out.fst 2, HX.out.fst 3, HX.out.fst 4, HX.out.fst 5, HX.out.fst 6, HX.out.snd 0, HX.out.snd 1, HX.out.snd 2, HX.out.snd 3, HX.out.snd 4⟩ (fun hS0 => ?_)
        clear hK K
        have h3 := ME.out
        have t0 := cell_of_row _ _ 0 _ _ _ h3
        have f0 := frozen_of_row _ _ 0 _ _ h3
        have t1 := cell_of_row _ _ 1 _ _ _ h3
        have f1 := frozen_of_row _ _ 1 _ _ h3
        have t2 := cell_of_row _ _ 2 _ _ _ h3
        have f2 := frozen_of_row _ _ 2 _ _ h3
        have t3 := cell_of_row _ _ 3 _ _ _ h3
        have f3 := frozen_of_row _ _ 3 _ _ h3
        have t4 := cell_of_row _ _ 4 _ _ _ h3
        have f4 := frozen_of_row _ _ 4 _ _ h3
        have t5 := cell_of_row _ _ 5 _ _ _ h3
        have f5 := frozen_of_row _ _ 5 _ _ h3
        have t6 := cell_of_row _ _ 6 _ _ _ h3
        have f6 := frozen_of_row _ _ 6 _ _ h3
        have t7 := cell_of_row _ _ 7 _ _ _ h3
        have f7 := frozen_of_row _ _ 7 _ _ h3
        have t8 := cell_of_row _ _ 8 _ _ _ h3
        have f8 := frozen_of_row _ _ 8 _ _ h3
        simp only [List.getElem?_toArray, List.getElem?_cons_zero, List.getElem?_cons_succ] at t0 t1 t2 t3 t4 t5 t6 t7 t8
        have HST := hid (plE_set (c := c) (need := g * (d * 1000000))  h3 DN.out HX.out.low ML.out KM.out)
        have hz := lt_of_block h3
        clear h3 hS0
        refine wpAnyH_done (by kernel_rfl) ?_ _
        refine sink_last rfl (fun K hK => ?_)
        go_simp
        refine hK.out _ _ ?_
        clear hK K
        go_wp2_with fail
        go_meet
        exact ⟨m, kb, mb, rfl, HST⟩
      refine AllReadyH.cons rfl (fun K hK => ?_) AllReadyH.nil
      go_simp
      have hb : Below W1.heap.size W1 (W1.alloc (.cells #[.int .i64 0, .int .i64 0, .int .i64 0, .int .i64 0, .int .i64 0, .int .i64 0, .int .i64 0, .int .i64 0, .nilFunc] 80)) := (Below.refl _ _).alloc (Nat.le_refl _) _
      have ME := hid (heap_alloc_new W1 (.cells #[.int .i64 0, .int .i64 0, .int .i64 0, .int .i64 0, .int .i64 0, .int .i64 0, .int .i64 0, .int .i64 0, .nilFunc] 80))
      have ML := hid (show w.heap.size ≤ W1.heap.size from HX.out.low.size)
      generalize hW : (W1.alloc (.cells #[.int .i64 0, .int .i64 0, .int .i64 0, .int .i64 0, .int .i64 0, .int .i64 0, .int .i64 0, .int .i64 0, .nilFunc] 80)) = W11 at *
      clear hW
      generalize hm : W1.heap.size = m at ME ML ⊢
      have HX := hid (HX.out.keep hb)
      have R1 := hid (R1.out.keep hb)
      refine hK.out _ _ ⟨HX.out.fst 0, HX.out.fst 1, HX.out.fst 2, HX.out.fst 3, HX.out.fst 4, HX.out.fst 5, HX.out.fst 6, HX.out.snd 0, HX.out.snd 1, HX.out.snd 2, HX.out.snd 3, HX.out.snd 4⟩ (fun hS0 => ?_)
      clear hK K
      (refine wpAnyH_ready (rs := [7]) (by kernel_rfl) (by simp) ?_)
      refine AllReadyH.cons rfl (fun K hK => ?_) AllReadyH.nil
      go_simp
      have hb : Below W11.heap.size W11 (W11.alloc (.cells #[.slice (some ⟨b1, 0, none⟩) 3 3, .slice a0 p.length cap] 28)) := (Below.refl _ _).alloc (Nat.le_refl _) _
      have C5 : Hid (TwoC (W11.alloc (.cells #[.slice (some ⟨b1, 0, none⟩) 3 3, .slice a0 p.length cap] 28)) W11.heap.size (.slice (some ⟨b1, 0, none⟩) 3 3) (.slice a0 p.length cap)) := ⟨cell_alloc_new _ _ _ _ 0, cell_alloc_new _ _ _ _ 1⟩
      generalize hW : (W11.alloc (.cells #[.slice (some ⟨b1, 0, none⟩) 3 3, .slice a0 p.length cap] 28)) = W12 at *
      clear hW
      generalize W11.heap.size = b5 at C5 ⊢
      have HX := hid (HX.out.keep hb)
      have R1 := hid (R1.out.keep hb)
      have ME := hid ((hb.block _ (lt_of_block ME.out)).trans ME.out)
      refine hK.out _ _ ⟨HX.out.fst 0, HX.out.fst 1, HX.out.fst 2, HX.out.fst 3, HX.out.fst 4, HX.out.fst 5, HX.out.fst 6, HX.out.snd 0, HX.out.snd 1, HX.out.snd 2, HX.out.snd 3, HX.out.snd 4⟩ (fun hS0 => ?_)
      clear hK K
      (refine wpAnyH_ready (rs := [8]) (by kernel_rfl) (by simp) ?_)
      refine AllReadyH.cons rfl (fun K hK => ?_) AllReadyH.nil
      go_simp
      refine (HCC.out _ _ _ C5.out R1.out (HL.out _ HX.out.low)).mono ?_
      rintro e W13 ⟨u6, rfl, ho6, hb⟩
      have RC := hid (NewI.rowI ho6 (by have := RLEN.out; simp; omega))
      have HX := hid (HX.out.keep hb)
      have R1 := hid (R1.out.keep hb)
      have C5 := hid (C5.out.keep hb)
      have ME := hid ((hb.block _ (lt_of_block ME.out)).trans ME.out)
      refine hK.out _ _ ⟨HX.out.fst 0, HX.out.fst 1, HX.out.fst 2, HX.out.fst 3, HX.out.fst 4, HX.out.fst 5, HX.out.fst 6, HX.out.snd 0, HX.out.snd 1, HX.out.snd 2, HX.out.snd 3, HX.out.snd 4⟩ (fun hS0 => ?_)
      clear hK K
      (refine wpAnyH_ready (rs := [9]) (by kernel_rfl) (by simp) ?_)
      refine AllReadyH.cons rfl (fun K hK => ?_) AllReadyH.nil
      go_simp
      refine (HMD.out _ _ RC.out).mono ?_
      rintro e W14 ⟨kb, mb, rfl, hdn, hkb, hmb, hb⟩
      have DN := hid hdn
      have KM := hid (show w.heap.size ≤ mb from Nat.le_trans HX.out.low.size hmb)
      have HX := hid (HX.out.keep hb)
      have R1 := hid (R1.out.keep hb)
      have C5 := hid (C5.out.keep hb)
      have RC := hid (RC.out.keep hb)
      have ME := hid ((hb.block _ (lt_of_block ME.out)).trans ME.out)
      refine hK.out _ _ ⟨HX.out.fst 0, HX.out.fst 1, HX.out.fst 2, HX.out.fst 3, HX.out.fst 4, HX.out.fst 5, HX.out.fst 6, HX.out.snd 0, HX.out.snd 1, HX.out.snd 2, HX.out.snd 3, HX.out.snd 4⟩ (fun hS0 => ?_)
      clear hK K
      have h3 := ME.out
      have t0 := cell_of_row _ _ 0 _ _ _ h3
      have f0 := frozen_of_row _ _ 0 _ _ h3
      have t1 := cell_of_row _ _ 1 _ _ _ h3
      have f1 := frozen_of_row _ _ 1 _ _ h3
      have t2 := cell_of_row _ _ 2 _ _ _ h3
      have f2 := frozen_of_row _ _ 2 _ _ h3
      have t3 := cell_of_row _ _ 3 _ _ _ h3
      have f3 := frozen_of_row _ _ 3 _ _ h3
      have t4 := cell_of_row _ _ 4 _ _ _ h3
      have f4 := frozen_of_row _ _ 4 _ _ h3
      have t5 := cell_of_row _ _ 5 _ _ _ h3
      have f5 := frozen_of_row _ _ 5 _ _ h3
      have t6 := cell_of_row _ _ 6 _ _ _ h3
      have f6 := frozen_of_row _ _ 6 _ _ h3
      have t7 := cell_of_row _ _ 7 _ _ _ h3
      have f7 := frozen_of_row _ _ 7 _ _ h3
      have t8 := cell_of_row _ _ 8 _ _ _ h3
      have f8 := frozen_of_row _ _ 8 _ _ h3
      simp only [List.getElem?_toArray, List.getElem?_cons_zero, List.getElem?_cons_succ] at t0 t1 t2 t3 t4 t5 t6 t7 t8
      have HST := hid (plE_set (c := c) (need := g * (d * 1000000))  h3 DN.out HX.out.low ML.out KM.out)
      have hz := lt_of_block h3
      clear h3 hS0
      refine wpAnyH_done (by kernel_rfl) ?_ _
      refine sink_last rfl (fun K hK => ?_)
      go_simp
      refine hK.out _ _ ?_
      clear hK K
      go_wp2_with fail
      go_meet
      exact ⟨m, kb, mb, rfl, HST⟩
    refine AllReadyH.cons rfl (fun K hK => ?_) AllReadyH.nil
    go_simp
    have hb : Below W0.heap.size W0 (W0.alloc (.cells #[.int .i64 0, .int .i64 0, .int .i64 0, .int .i64 0, .int .i64 0, .int .i64 0, .int .i64 0, .int .i64 0, .nilFunc] 80)) := (Below.refl _ _).alloc (Nat.le_refl _) _
    have ME := hid (heap_alloc_new W0 (.cells #[.int .i64 0, .int .i64 0, .int .i64 0, .int .i64 0, .int .i64 0, .int .i64 0, .int .i64 0, .int .i64 0, .nilFunc] 80))
    have ML := hid (show w.heap.size ≤ W0.heap.size from HX.out.low.size)
    generalize hW : (W0.alloc (.cells #[.int .i64 0, .int .i64 0, .int .i64 0, .int .i64 0, .int .i64 0, .int .i64 0, .int .i64 0, .int .i64 0, .nilFunc] 80)) = W15 at *
    clear hW
    generalize hm : W0.heap.size = m at ME ML ⊢
    have HX := hid (HX.out.keep hb)
    refine hK.out _ _ ⟨HX.out.fst 0, HX.out.fst 1, HX.out.fst 2, HX.out.fst 3, HX.out.fst 4, HX.out.fst 5, HX.out.fst 6, HX.out.snd 0, HX.out.snd 1, HX.out.snd 2, HX.out.snd 3, HX.out.snd 4⟩ (fun hS0 => ?_)
    clear hK K
    (refine wpAnyH_ready (rs := [5]) (by kernel_rfl) (by simp) ?_)
    refine AllReadyH.cons rfl (fun K hK => ?_) AllReadyH.nil
    go_simp
    have hb : Below W15.heap.size W15 (W15.alloc (.cells #[.int .i64 t, .int .i64 bath, .int .i64 cold] 3)) := (Below.refl _ _).alloc (Nat.le_refl _) _
    have R1 := hid (three_row (W := W15) t bath cold 3 rfl)
    generalize hW : (W15.alloc (.cells #[.int .i64 t, .int .i64 bath, .int .i64 cold] 3)) = W16 at *
    clear hW
    generalize W15.heap.size = b1 at R1 ⊢
    have HX := hid (HX.out.keep hb)
    have ME := hid ((hb.block _ (lt_of_block ME.out)).trans ME.out)
    refine hK.out _ _ ⟨HX.out.fst 0, HX.out.fst 1, HX.out.fst 2, HX.out.fst 3, HX.out.fst 4, HX.out.fst 5, HX.out.fst 6, HX.out.snd 0, HX.out.snd 1, HX.out.snd 2, HX.out.snd 3, HX.out.snd 4⟩ (fun hS0 => ?_)
    clear hK K
    (refine wpAnyH_ready (rs := [7]) (by kernel_rfl) (by simp) ?_)
    refine AllReadyH.cons rfl (fun K hK => ?_) AllReadyH.nil
    go_simp
    have hb : Below W16.heap.size W16 (W16.alloc (.cells #[.slice (some ⟨b1, 0, none⟩) 3 3, .slice a0 p.length cap] 28)) := (Below.refl _ _).alloc (Nat.le_refl _) _
    have C5 : Hid (TwoC (W16.alloc (.cells #[.slice (some ⟨b1, 0, none⟩) 3 3, .slice a0 p.length cap] 28)) W16.heap.size (.slice (some ⟨b1, 0, none⟩) 3 3) (.slice a0 p.length cap)) := ⟨cell_alloc_new _ _ _ _ 0, cell_alloc_new _ _ _ _ 1⟩
    generalize hW : (W16.alloc (.cells #[.slice (some ⟨b1, 0, none⟩) 3 3, .slice a0 p.length cap] 28)) = W17 at *
    clear hW
    generalize W16.heap.size = b5 at C5 ⊢
    have HX := hid (HX.out.keep hb)
    have R1 := hid (R1.out.keep hb)
    have ME := hid ((hb.block _ (lt_of_block ME.out)).trans ME.out)
    refine hK.out _ _ ⟨HX.out.fst 0, HX.out.fst 1, HX.out.fst 2, HX.out.fst 3, HX.out.fst 4, HX.out.fst 5, HX.out.fst 6, HX.out.snd 0, HX.out.snd 1, HX.out.snd 2, HX.out.snd 3, HX.out.snd 4⟩ (fun hS0 => ?_)
    clear hK K
    (refine wpAnyH_ready (rs := [8]) (by kernel_rfl) (by simp) ?_)
    refine AllReadyH.cons rfl (fun K hK => ?_) AllReadyH.nil
    go_simp
    refine (HCC.out _ _ _ C5.out R1.out (HL.out _ HX.out.low)).mono ?_
    rintro e W18 ⟨u6, rfl, ho6, hb⟩
    have RC := hid (NewI.rowI ho6 (by have := RLEN.out; simp; omega))
    have HX := hid (HX.out.keep hb)
    have R1 := hid (R1.out.keep hb)
    have C5 := hid (C5.out.keep hb)
    have ME := hid ((hb.block _ (lt_of_block ME.out)).trans ME.out)
    refine hK.out _ _ ⟨HX.out.fst 0, HX.out.fst 1, HX.out.fst 2, HX.out.fst 3, HX.out.fst 4, HX.out.fst 5, HX.out.fst 6, HX.out.snd 0, HX.out.snd 1, HX.out.snd 2, HX.out.snd 3, HX.out.snd 4⟩ (fun hS0 => ?_)
    clear hK K
    (refine wpAnyH_ready (rs := [9]) (by kernel_rfl) (by simp) ?_)
    refine AllReadyH.cons rfl (fun K hK => ?_) AllReadyH.nil
    go_simp
    refine (HMD.out _ _ RC.out).mono ?_
    rintro e W19 ⟨kb, mb, rfl, hdn, hkb, hmb, hb⟩
    have DN := hid hdn
    have KM := hid (show w.heap.size ≤ mb from Nat.le_trans HX.out.low.size hmb)
    have HX := hid (HX.out.keep hb)
    have R1 := hid (R1.out.keep hb)
    have C5 := hid (C5.out.keep hb)
    have RC := hid (RC.out.keep hb)
    have ME := hid ((hb.block _ (lt_of_block ME.out)).trans ME.out)
    refine hK.out _ _ ⟨HX.out.fst 0, HX.out.fst 1, HX.out.fst 2, HX.out.fst 3, HX.out.fst 4, HX.out.fst 5, HX.out.fst 6, HX.out.snd 0, HX.out.snd 1, HX.out.snd 2, HX.out.snd 3, HX.out.snd 4⟩ (fun hS0 => ?_)
    clear hK K
    have h3 := ME.out
    have t0 := cell_of_row _ _ 0 _ _ _ h3
    have f0 := frozen_of_row _ _ 0 _ _ h3
    have t1 := cell_of_row _ _ 1 _ _ _ h3
    have f1 := frozen_of_row _ _ 1 _ _ h3
    have t2 := cell_of_row _ _ 2 _ _ _ h3
    have f2 := frozen_of_row _ _ 2 _ _ h3
    have t3 := cell_of_row _ _ 3 _ _ _ h3
    have f3 := frozen_of_row _ _ 3 _ _ h3
    have t4 := cell_of_row _ _ 4 _ _ _ h3
    have f4 := frozen_of_row _ _ 4 _ _ h3
    have t5 := cell_of_row _ _ 5 _ _ _ h3
    have f5 := frozen_of_row _ _ 5 _ _ h3
    have t6 := cell_of_row _ _ 6 _ _ _ h3
    have f6 := frozen_of_row _ _ 6 _ _ h3
    have t7 := cell_of_row _ _ 7 _ _ _ h3
    have f7 := frozen_of_row _ _ 7 _ _ h3
    have t8 := cell_of_row _ _ 8 _ _ _ h3
    have f8 := frozen_of_row _ _ 8 _ _ h3
    simp only [List.getElem?_toArray, List.getElem?_cons_zero, List.getElem?_cons_succ] at t0 t1 t2 t3 t4 t5 t6 t7 t8
    have HST := hid (plE_set (c := c) (need := g * (d * 1000000))  h3 DN.out HX.out.low ML.out KM.out)
    have hz := lt_of_block h3
    clear h3 hS0
    refine wpAnyH_done (by kernel_rfl) ?_ _
    refine sink_last rfl (fun K hK => ?_)
    go_simp
    refine hK.out _ _ ?_
    clear hK K
    go_wp2_with fail
    go_meet
    exact ⟨m, kb, mb, rfl, HST⟩
  case rest =>
    obtain ⟨m, kb, mb, rfl, HE⟩ := hcut
    obtain ⟨om, hom, -⟩ := HE.out.dn.map.isMap
    have t0 := cell_of_row _ _ 0 _ _ _ HE.out.met
    have t1 := cell_of_row _ _ 1 _ _ _ HE.out.met
    have t2 := cell_of_row _ _ 2 _ _ _ HE.out.met
    have t3 := cell_of_row _ _ 3 _ _ _ HE.out.met
    have t4 := cell_of_row _ _ 4 _ _ _ HE.out.met
    have t5 := cell_of_row _ _ 5 _ _ _ HE.out.met
    have t6 := cell_of_row _ _ 6 _ _ _ HE.out.met
    have t7 := cell_of_row _ _ 7 _ _ _ HE.out.met
    have t8 := cell_of_row _ _ 8 _ _ _ HE.out.met
    simp only [List.getElem?_toArray, List.getElem?_cons_zero, List.getElem?_cons_succ] at t0 t1 t2 t3 t4 t5 t6 t7 t8
    have HRO := hid (HRK.out wc kb mb om HE.out.dn hom)
    have HI0 := hid (And.intro (And.intro HE.out.dn (Nat.le_refl wc.heap.size)) hom)
    have hp2 := RLEN.out
    clear HRK HMD HCC HX hom
    go_wp2_with fail
    have hba := (Below.refl _ wc).alloc (Nat.le_refl _) (.cells #[.int .i64 (c.R : Int), .int .i64 (c.L : Int), .int .i64 c.A, .int .i64 c.B, .int .i64 c.K, .int .i64 c.A2, .int .i64 c.B2, .int .i64 (g * (d * 1000000)), .func (.func 113) #[] #[.pointer (some ⟨kb, 0, none⟩)], .int .i64 bath, .int .i64 (most : Nat), .int .i64 cold, .int .i64 (cooling : Nat)] 127)
    have hnew := heap_alloc_new wc (.cells #[.int .i64 (c.R : Int), .int .i64 (c.L : Int), .int .i64 c.A, .int .i64 c.B, .int .i64 c.K, .int .i64 c.A2, .int .i64 c.B2, .int .i64 (g * (d * 1000000)), .func (.func 113) #[] #[.pointer (some ⟨kb, 0, none⟩)], .int .i64 bath, .int .i64 (most : Nat), .int .i64 cold, .int .i64 (cooling : Nat)] 127)
    have HM1 := hid ((hba.block _ (lt_of_block HE.out.met)).trans HE.out.met)
    have HN1 := hid hnew
    have HI1 := hid (HRO.out.below HI0.out hba)
    have HB1 := hid (HE.out.low.trans (hba.mono HE.out.low.size))
    have HR1 := hid (HL.out _ HB1.out)
    clear hba hnew t0 t1 t2 t3 t4 t5 t6 t7 t8
    generalize hn0 : wc.heap.size = n0 at *
    refine wp_region_sink (S := RawMe c (g * (d * 1000000)) 113 #[.pointer (some ⟨kb, 0, none⟩)] bath cold most cooling m n0 (fun W => ((DnI (Lt.Pm.rateD r Z) qlo qn kb mb W ∧ n0 ≤ W.heap.size) ∧ W.heap[mb]? = some om) ∧ RowI W (.slice a0 p.length cap) p ∧ Below w.heap.size w W)) 9 (by kernel_rfl) (by kernel_rfl) (by kernel_rfl) (by kernel_rfl) (rawMe HM1.out HN1.out ⟨HRO.out.below HI1.out (Below.refl _ _).drew, HR1.out.keep (Below.refl _ _).drew, HB1.out.drew⟩) (fun hS0 => ?_)
    refine wpAnyH_take (i := 0) (v := ?_) rfl (by kernel_rfl) (by kernel_rfl) (by kernel_rfl) (fun _ _ _ h => h) (Or.inl ⟨by rfl, ?_⟩) hS0 ?_
    rotate_left
    · intro w' hSw
      obtain ⟨_, ⟨q0, q1, q2, q3, q4, q5, q6, q7, q8, q9, q10, q11, q12⟩, _⟩ := hSw
      go_simp
      try with_reducible rfl
    try simp only [Act.put]
    try simp only [List.setIfInBounds_toArray]
    try simp only [List.set_cons_zero, List.set_cons_succ]
    refine wpAnyH_take (i := 1) (v := ?_) rfl (by kernel_rfl) (by kernel_rfl) (by kernel_rfl) (fun _ _ _ h => h) (Or.inl ⟨by rfl, ?_⟩) hS0 ?_
    rotate_left
    · intro w' hSw
      obtain ⟨⟨q0, q1, q2, q3, q4, q5, q6, q7, q8⟩, _⟩ := hSw
      go_simp
      try with_reducible rfl
    try simp only [Act.put]
    try simp only [List.setIfInBounds_toArray]
    try simp only [List.set_cons_zero, List.set_cons_succ]
    refine wpAnyH_take (i := 2) (v := ?_) rfl (by kernel_rfl) (by kernel_rfl) (by kernel_rfl) (fun _ _ _ h => h) (Or.inl ⟨by rfl, ?_⟩) hS0 ?_
    rotate_left
    · intro w' hSw
      obtain _ := hSw
      go_simp
      try with_reducible rfl
    try simp only [Act.put]
    try simp only [List.setIfInBounds_toArray]
    try simp only [List.set_cons_zero, List.set_cons_succ]
    refine wpAnyH_take (i := 3) (v := ?_) rfl (by kernel_rfl) (by kernel_rfl) (by kernel_rfl) (fun _ _ _ h => h) (Or.inl ⟨by rfl, ?_⟩) hS0 ?_
    rotate_left
    · intro w' hSw
      obtain _ := hSw
      go_simp
      try with_reducible rfl
    try simp only [Act.put]
    try simp only [List.setIfInBounds_toArray]
    try simp only [List.set_cons_zero, List.set_cons_succ]
    (refine wpAnyH_ready (rs := [4]) (by kernel_rfl) (by simp) ?_)
    refine AllReadyH.cons rfl (fun K hK => ?_) AllReadyH.nil
    go_simp
    refine (HRN.out _ _ mb n0 _ _ HRO.out hS0.2.2.2.2.1 hS0.2.2.2.2.2.1).mono ?_
    rintro e w5 ⟨ua, ub, uc, ud, rfl, h1, h2, h3, h4⟩
    have hfx : Fix (fun W => ((DnI (Lt.Pm.rateD r Z) qlo qn kb mb W ∧ n0 ≤ W.heap.size) ∧ W.heap[mb]? = some om)) mb := ⟨om, fun W h => h.2⟩
    have hb5 := hfx.low hS0.2.2.2.2.1 h3 h4
    have HFX := hid hfx
    have HLE2 := hid (HLE.out _ rfl _ _ mb n0 _ ua ub uc ud w5 HRO.out hfx h3 h1 h2)
    (refine hK.out _ _ (rawMe ((hb5.block _ (lt_of_block hS0.2.2.1)).trans hS0.2.2.1) ((hb5.block _ (lt_of_block hS0.2.2.2.1)).trans hS0.2.2.2.1) ⟨HRO.out.below hS0.2.2.2.2.1 hb5, hS0.2.2.2.2.2.1.keep hb5, hS0.2.2.2.2.2.2.trans (hb5.mono hS0.2.2.2.2.2.2.size)⟩) (fun hS1 => ?_); clear hK K)
    clear h1 h2 h3 h4 hb5 hfx
    (refine wpAnyH_ready (rs := [5]) (by kernel_rfl) (by simp) ?_)
    refine AllReadyH.cons rfl (fun K hK => ?_) AllReadyH.nil
    go_simp
    refine HLE2.out.mono ?_
    rintro e w6 ⟨hb6, ⟨k, hk1, hk2, hk3, rfl⟩ | ⟨hk1, rfl⟩⟩
    · have HKK := hid (And.intro hk1 (And.intro hk2 hk3))
      (refine hK.out _ _ (rawMe ((hb6.block _ (lt_of_block hS1.2.2.1)).trans hS1.2.2.1) ((hb6.block _ (lt_of_block hS1.2.2.2.1)).trans hS1.2.2.2.1) ⟨HRO.out.below hS1.2.2.2.2.1 hb6, hS1.2.2.2.2.2.1.keep hb6, hS1.2.2.2.2.2.2.trans (hb6.mono hS1.2.2.2.2.2.2.size)⟩) (fun hS2 => ?_); clear hK K)
      refine wpAnyH_take (i := 6) (v := ?_) rfl (by kernel_rfl) (by kernel_rfl) (by kernel_rfl) (fun _ _ _ h => h) (Or.inl ⟨by rfl, ?_⟩) hS2 ?_
      rotate_left
      · intro w' hSw
        obtain _ := hSw
        go_simp
        try with_reducible rfl
      try simp only [Act.put]
      try simp only [List.setIfInBounds_toArray]
      try simp only [List.set_cons_zero, List.set_cons_succ]
      refine wpAnyH_take (i := 7) (v := ?_) rfl (by kernel_rfl) (by kernel_rfl) (by kernel_rfl) (fun _ _ _ h => h) (Or.inl ⟨by rfl, ?_⟩) hS2 ?_
      rotate_left
      · intro w' hSw
        obtain _ := hSw
        go_simp
        try with_reducible rfl
      try simp only [Act.put]
      try simp only [List.setIfInBounds_toArray]
      try simp only [List.set_cons_zero, List.set_cons_succ]
      refine wpAnyH_take (i := 8) (v := ?_) rfl (by kernel_rfl) (by kernel_rfl) (by kernel_rfl) (fun _ _ _ h => h) (Or.inl ⟨by rfl, ?_⟩) hS2 ?_
      rotate_left
      · intro w' hSw
        obtain _ := hSw
        go_simp
        try with_reducible rfl
      try simp only [Act.put]
      try simp only [List.setIfInBounds_toArray]
      try simp only [List.set_cons_zero, List.set_cons_succ]
      refine wpAnyH_done (by kernel_rfl) ?_ _
      have HB9 := hid hS2.2.2.2.2.2.2
      refine sink_last rfl (fun K hK => ?_)
      go_simp
      refine hK.out _ _ ?_
      clear hK K
      go_wp2_with fail
      go_ret2
      exact ⟨HB9.out, .inl ⟨k, HKK.out.1, HKK.out.2.1, HKK.out.2.2, rfl⟩⟩
    · have HKK := hid hk1
      (refine hK.out _ _ (rawMe ((hb6.block _ (lt_of_block hS1.2.2.1)).trans hS1.2.2.1) ((hb6.block _ (lt_of_block hS1.2.2.2.1)).trans hS1.2.2.2.1) ⟨HRO.out.below hS1.2.2.2.2.1 hb6, hS1.2.2.2.2.2.1.keep hb6, hS1.2.2.2.2.2.2.trans (hb6.mono hS1.2.2.2.2.2.2.size)⟩) (fun hS2 => ?_); clear hK K)
      refine wpAnyH_take (i := 6) (v := ?_) rfl (by kernel_rfl) (by kernel_rfl) (by kernel_rfl) (fun _ _ _ h => h) (Or.inl ⟨by rfl, ?_⟩) hS2 ?_
      rotate_left
      · intro w' hSw
        obtain _ := hSw
        go_simp
        try with_reducible rfl
      try simp only [Act.put]
      try simp only [List.setIfInBounds_toArray]
      try simp only [List.set_cons_zero, List.set_cons_succ]
      refine wpAnyH_take (i := 7) (v := ?_) rfl (by kernel_rfl) (by kernel_rfl) (by kernel_rfl) (fun _ _ _ h => h) (Or.inl ⟨by rfl, ?_⟩) hS2 ?_
      rotate_left
      · intro w' hSw
        obtain _ := hSw
        go_simp
        try with_reducible rfl
      try simp only [Act.put]
      try simp only [List.setIfInBounds_toArray]
      try simp only [List.set_cons_zero, List.set_cons_succ]
      refine wpAnyH_take (i := 8) (v := ?_) rfl (by kernel_rfl) (by kernel_rfl) (by kernel_rfl) (fun _ _ _ h => h) (Or.inl ⟨by rfl, ?_⟩) hS2 ?_
      rotate_left
      · intro w' hSw
        obtain _ := hSw
        go_simp
        try with_reducible rfl
      try simp only [Act.put]
      try simp only [List.setIfInBounds_toArray]
      try simp only [List.set_cons_zero, List.set_cons_succ]
      refine wpAnyH_done (by kernel_rfl) ?_ _
      have HB9 := hid hS2.2.2.2.2.2.2
      refine sink_last rfl (fun K hK => ?_)
      go_simp
      refine hK.out _ _ ?_
      clear hK K
      go_wp2_with fail
      go_ret2
      exact ⟨HB9.out, .inr ⟨HKK.out, rfl⟩⟩
end Go.Proofs.YtihbjimnjhfpeaaGreat

/- Least's closure: contract. -/
namespace Go.Proofs.YtihbjimnjhfpeaaGreat
open Go.RowKit Go.Lib

theorem cookL_len (t n cold cooling : Int) : (cookL t n cold cooling).length ≤ 2000 := by
  unfold cookL
  split
  · rename_i h
    unfold cookB at h
    rw [Bool.and_eq_true] at h
    obtain ⟨h1, h2, h3⟩ := ticksB_two.1 h.2
    rw [List.length_append, List.length_replicate, List.length_replicate]
    omega
  · simp
/-- The lethality with n ticks. -/
def withF (r l a b k a2 b2 : Int) (q : Kl) (t bath cold cooling n : Int) : Int := lowO (sumsO r l a b k a2 b2 q t (cookL bath n cold cooling))
/-- Least's six boxes. -/
structure LsB (r l a b k a2 b2 : Int) (q : Kl) (t bath cold cooling : Int) (n0 : Nat) (W : World) : Prop where
  can : W.heap[n0]? = some (.cells #[.int .i64 r, .int .i64 l, .int .i64 a, .int .i64 b, .int .i64 k, .int .i64 a2, .int .i64 b2] 23 (0, 0))
  kil : W.heap[n0 + 1]? = some (.cells #[.string q.s, .int .i64 q.r, .int .i64 q.z, .int .i64 q.d, .int .i64 q.g] 25 (0, 0))
  ini : W.heap[n0 + 1 + 1]? = some (.cells #[.int .i64 t] 3 (0, 0))
  bat : W.heap[n0 + 1 + 1 + 1]? = some (.cells #[.int .i64 bath] 3 (0, 0))
  col : W.heap[n0 + 1 + 1 + 1 + 1]? = some (.cells #[.int .i64 cold] 3 (0, 0))
  coo : W.heap[n0 + 1 + 1 + 1 + 1 + 1]? = some (.cells #[.int .i64 cooling] 3 (0, 0))
theorem LsB.keep {r l a b k a2 b2 : Int} {q : Kl} {t bath cold cooling : Int} {n0 : Nat} {W W' : World} (h : LsB r l a b k a2 b2 q t bath cold cooling n0 W) (hb : Below W.heap.size W W') : LsB r l a b k a2 b2 q t bath cold cooling n0 W' :=
  ⟨(hb.block _ (lt_of_block h.can)).trans h.can, (hb.block _ (lt_of_block h.kil)).trans h.kil, (hb.block _ (lt_of_block h.ini)).trans h.ini, (hb.block _ (lt_of_block h.bat)).trans h.bat, (hb.block _ (lt_of_block h.col)).trans h.col, (hb.block _ (lt_of_block h.coo)).trans h.coo⟩
set_option maxRecDepth 20000 in
set_option maxHeartbeats 4000000 in
theorem with_any (r l a b k a2 b2 : Int) (q : Kl) (t bath cold cooling n : Int) (n0 : Nat) (w : World) (hs : q.s.size ≤ maxLen) (hB : LsB r l a b k a2 b2 q t bath cold cooling n0 w) :
    Calls Tryz.prog 64 #[.int .i64 n, .pointer (some ⟨n0 + 1 + 1 + 1, 0, none⟩), .pointer (some ⟨n0 + 1 + 1 + 1 + 1, 0, none⟩), .pointer (some ⟨n0 + 1 + 1 + 1 + 1 + 1, 0, none⟩), .pointer (some ⟨n0, 0, none⟩), .pointer (some ⟨n0 + 1, 0, none⟩), .pointer (some ⟨n0 + 1 + 1, 0, none⟩)] w
      fun e w' => e = .returned (.int .i64 (withF r l a b k a2 b2 q t bath cold cooling n)) ∧ Below w.heap.size w w' := by
  have HC := hid (fun W => cook_any bath n cold cooling W)
  have HLE := hid (fun (W : World) (v : Value) (h : RowI W v (cookL bath n cold cooling)) => leth_any r l a b k a2 b2 W q t v (cookL bath n cold cooling) hs h (by have := cookL_len bath n cold cooling; unfold maxLen; omega))
  have HBB := hid hB
  have b0 := cell_of_row _ _ 0 _ _ _ hB.bat
  have c0 := cell_of_row _ _ 0 _ _ _ hB.col
  have o0 := cell_of_row _ _ 0 _ _ _ hB.coo
  simp only [List.getElem?_toArray, List.getElem?_cons_zero] at b0 c0 o0
  unfold withF
  generalize lowO (sumsO r l a b k a2 b2 q t (cookL bath n cold cooling)) = lw at *
  generalize slowO (sumsO r l a b k a2 b2 q t (cookL bath n cold cooling)) = sl at *
  generalize chk4 (canB r l a b k a2 b2) q.vB t (cookL bath n cold cooling) = ce at *
  clear hs hB
  go_enter Tryz.func64, Tryz.ntmps64
  go_wp2_with fail
  refine (HC.out _).mono ?_
  rintro e w1 ⟨v, rfl, hr, hb⟩
  have HB1 := hid (HBB.out.keep hb)
  have HR := hid hr
  have HW := hid hb
  clear hr hb b0 c0 o0
  have x0 := cell_of_row _ _ 0 _ _ _ HB1.out.can
  have x1 := cell_of_row _ _ 1 _ _ _ HB1.out.can
  have x2 := cell_of_row _ _ 2 _ _ _ HB1.out.can
  have x3 := cell_of_row _ _ 3 _ _ _ HB1.out.can
  have x4 := cell_of_row _ _ 4 _ _ _ HB1.out.can
  have x5 := cell_of_row _ _ 5 _ _ _ HB1.out.can
  have x6 := cell_of_row _ _ 6 _ _ _ HB1.out.can
  have y0 := cell_of_row _ _ 0 _ _ _ HB1.out.kil
  have y1 := cell_of_row _ _ 1 _ _ _ HB1.out.kil
  have y2 := cell_of_row _ _ 2 _ _ _ HB1.out.kil
  have y3 := cell_of_row _ _ 3 _ _ _ HB1.out.kil
  have y4 := cell_of_row _ _ 4 _ _ _ HB1.out.kil
  have i0 := cell_of_row _ _ 0 _ _ _ HB1.out.ini
  simp only [List.getElem?_toArray, List.getElem?_cons_zero, List.getElem?_cons_succ] at x0 x1 x2 x3 x4 x5 x6 y0 y1 y2 y3 y4 i0
  generalize (if cookB bath n cold cooling = true then (0 : Int) else 7) = ck at *
  go_wp2_with fail
  refine (HLE.out _ _ HR.out).mono ?_
  rintro e w2 ⟨rfl, hb2⟩
  have HW2 := hid (bstep HW.out HW.out.size hb2)
  clear hb2 x0 x1 x2 x3 x4 x5 x6 y0 y1 y2 y3 y4 i0
  go_wp2_with fail
  refine bodyPost_ret (v := .int .i64 lw) (by simp [results, Tryz.results64, go_sem]) rfl ⟨rfl, HW2.out⟩
end Go.Proofs.YtihbjimnjhfpeaaGreat
