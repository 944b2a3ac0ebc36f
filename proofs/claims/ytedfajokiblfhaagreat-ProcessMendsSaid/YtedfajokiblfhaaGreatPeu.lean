/- Walks of Mended of both where the law looks: contracts. -/
import Derived.Test.YtedfajokiblfhaaGreatR1
namespace Go.Proofs.YtedfajokiblfhaaGreat
open Go.RowKit Go.Lib

/-- What Mended tells, by the numbers alone. -/
def MedP (need : Int) (F : Nat → Int) (most : Nat) (w : World) (e : Ending) (w' : World) : Prop :=
  Below w.heap.size w w' ∧ ((∃ n : Nat, n ≤ most ∧ need ≤ F n ∧ (∀ j, j < n → F j < need) ∧ e = .returned (.tuple #[.int .i64 (n : Nat), .int .i64 0])) ∨ ((∀ j, j ≤ most → F j < need) ∧ e = .returned (.tuple #[.int .i64 0, .int .i64 8])))
/-- The lethality behind some baths, n ticks and a cooling. -/
def medF (c : Cn) (r : Int) (Z : Nat) (t : Int) (p : List Int) (bath cold : Int) (cooling n : Nat) : Int := minA (ivN (afN c (fun x => Lt.Pm.rateD r Z (x / 250)) (afN c (fun x => Lt.Pm.rateD r Z (x / 250)) (dishR c (fun x => Lt.Pm.rateD r Z (x / 250)) (dish0 c t) p) bath n) cold cooling).2)
theorem mend_all (c : Cn) (q : Kl) (t bath cold : Int) (cooling most : Nat) (Z : Nat) (v : Value) (p : List Int) (w : World) (hz : q.z = Z) (hs : q.s.size ≤ maxLen) (hcv : c.V) (hv : Lt.validB q.s.data.toList q.r Z q.d q.g = true) (ho : okT t = true) (hob : okT bath = true) (hoc : okT cold = true) (hop : okL p = true) (hmost : most + p.length + cooling = 2000) (hl : RowI w v p) :
    Calls Tryz.prog 28 #[.agg #[.int .i64 (c.R : Int), .int .i64 (c.L : Int), .int .i64 c.A, .int .i64 c.B, .int .i64 c.K, .int .i64 c.A2, .int .i64 c.B2], .agg #[.string q.s, .int .i64 q.r, .int .i64 q.z, .int .i64 q.d, .int .i64 q.g], .int .i64 t, .int .i64 bath, .int .i64 cold, .int .i64 (cooling : Nat), v] w (MedP (q.g * (q.d * 1000000)) (medF c q.r Z t p bath cold cooling) most w) := by
  have hz1 : (1 : Int) ≤ (Z : Int) := (Lt.validB_iff.1 hv).2.2.1.1
  rw [hz]
  refine (mended_ok c q.s q.r q.d q.g t bath cold cooling most Z v p w hs hcv hv ho hob hoc hop hmost hl (fun D hD hr j n hjn hn hj => by
    subst hD
    exact tstC_mono hcv.ok (dn_mono hz1) ((dish0_good ho).run hcv.ok hop) hob hoc hr hjn hj)).mono ?_
  rintro e w' ⟨hb, ⟨n, hn, h1, h2, rfl⟩ | ⟨h1, rfl⟩⟩
  · exact ⟨hb, .inl ⟨n, hn, by rw [tst_iff] at h1; simpa [medF] using h1, fun j hj => by have := h2 j hj; rw [tst_iff] at this; simpa [medF] using this, rfl⟩⟩
  · exact ⟨hb, .inr ⟨fun j hj => by have := h1 j hj; rw [tst_iff] at this; simpa [medF] using this, rfl⟩⟩
set_option maxRecDepth 100000 in
set_option maxHeartbeats 4000000 in
theorem xmend_err (r l a b k a2 b2 : Int) (w : World) (q : Kl) (t bath cold cooling : Int) (v : Value) (p : List Int) (hs : q.s.size ≤ maxLen) (hl : RowI w v p) (hpm : p.length ≤ maxLen) (hne : mendE (canB r l a b k a2 b2) q.vB t bath cold cooling p ≠ 0) :
    Calls Tryz.prog 29 #[.agg #[.int .i64 r, .int .i64 l, .int .i64 a, .int .i64 b, .int .i64 k, .int .i64 a2, .int .i64 b2], .agg #[.string q.s, .int .i64 q.r, .int .i64 q.z, .int .i64 q.d, .int .i64 q.g], .int .i64 t, .int .i64 bath, .int .i64 cold, .int .i64 cooling, v] w fun e w' => e = .returned (.tuple #[.int .i64 0, .int .i64 (mendE (canB r l a b k a2 b2) q.vB t bath cold cooling p)]) ∧ Below w.heap.size w w' := by
  have HX := hid (box2_start (w := w) (A := #[.int .i64 r, .int .i64 l, .int .i64 a, .int .i64 b, .int .i64 k, .int .i64 a2, .int .i64 b2]) (B := #[.string q.s, .int .i64 q.r, .int .i64 q.z, .int .i64 q.d, .int .i64 q.g]) (T := 23) (T' := 25) (fz := (0, 0)) (fz' := (0, 0)))
  have HL := hid (fun w1 (g : Below w.heap.size w w1) => hl.keep g)
  obtain ⟨a0, cap, rfl⟩ := hl.shape
  have HV := hid (fun W => rvcan_any r l a b k a2 b2 W)
  have HQ : Hid (∀ W, Calls Tryz.prog 57 #[.agg #[.string q.s, .int .i64 q.r, .int .i64 q.z, .int .i64 q.d, .int .i64 q.g]] W fun e w' => e = .returned (.bool q.vB) ∧ Below W.heap.size W w') := fun W => Lt.rvalid_any q.s q.r q.z q.d q.g W hs
  have HE := hid (fun W => xlerr_any r l a b k a2 b2 W q t bath cold cooling hs)
  have HA := hid (fun W h => xasked_any r l a b k a2 b2 W q t (.slice a0 p.length cap) p hs h hpm)
  rw [← mendE_ref] at hne ⊢
  clear hl hs hpm
  cases h1 : canB r l a b k a2 b2
  · rw [h1] at HV
    rw [if_pos (by rfl)]
    go_enter Tryz.func29, Tryz.ntmps29
    go_wp2_with fail
    refine (HV.out _).mono ?_
    rintro e w1 ⟨rfl, hb⟩
    have HX := hid (HX.out.keep hb)
    clear hb
    go_wp2_with fail
    go_ret2
    exact ⟨rfl, HX.out.low⟩
  rw [h1] at HV HE HA hne
  cases h2 : q.vB
  · rw [h2] at HQ
    rw [if_pos (by rfl)]
    go_enter Tryz.func29, Tryz.ntmps29
    go_wp2_with fail
    refine (HV.out _).mono ?_
    rintro e w1 ⟨rfl, hb⟩
    have HX := hid (HX.out.keep hb)
    clear hb
    have x0 := HX.out.snd 0; have x1 := HX.out.snd 1; have x2 := HX.out.snd 2; have x3 := HX.out.snd 3; have x4 := HX.out.snd 4
    simp only [List.getElem?_toArray, List.getElem?_cons_zero, List.getElem?_cons_succ] at x0 x1 x2 x3 x4
    go_wp2_with fail
    refine (HQ.out _).mono ?_
    rintro e w2 ⟨rfl, hb⟩
    have HX := hid (HX.out.keep hb)
    clear hb x0 x1 x2 x3 x4
    go_wp2_with fail
    go_ret2
    exact ⟨rfl, HX.out.low⟩
  rw [h2] at HQ HE HA hne
  rw [if_neg (by simp)] at hne ⊢
  by_cases h3 : leE true true t bath cold cooling = 0
  case neg =>
    rw [if_pos h3]
    generalize leE true true t bath cold cooling = le at *
    have hc1 : (le != 0) = true := by simpa using h3
    clear hne h3
    go_enter Tryz.func29, Tryz.ntmps29
    go_wp2_with fail
    refine (HV.out _).mono ?_
    rintro e w1 ⟨rfl, hb⟩
    have HX := hid (HX.out.keep hb)
    clear hb
    have x0 := HX.out.snd 0; have x1 := HX.out.snd 1; have x2 := HX.out.snd 2; have x3 := HX.out.snd 3; have x4 := HX.out.snd 4
    simp only [List.getElem?_toArray, List.getElem?_cons_zero, List.getElem?_cons_succ] at x0 x1 x2 x3 x4
    go_wp2_with fail
    refine (HQ.out _).mono ?_
    rintro e w2 ⟨rfl, hb⟩
    have HX := hid (HX.out.keep hb)
    clear hb x0 x1 x2 x3 x4
    have t0 := HX.out.fst 0; have t1 := HX.out.fst 1; have t2 := HX.out.fst 2; have t3 := HX.out.fst 3; have t4 := HX.out.fst 4; have t5 := HX.out.fst 5; have t6 := HX.out.fst 6
    have x0 := HX.out.snd 0; have x1 := HX.out.snd 1; have x2 := HX.out.snd 2; have x3 := HX.out.snd 3; have x4 := HX.out.snd 4
    simp only [List.getElem?_toArray, List.getElem?_cons_zero, List.getElem?_cons_succ] at t0 t1 t2 t3 t4 t5 t6 x0 x1 x2 x3 x4
    go_wp2_with fail
    refine (HE.out _).mono ?_
    rintro e w3 ⟨rfl, hb⟩
    have HX := hid (HX.out.keep hb)
    clear hb
    go_wp2_with fail
    go_ret2
    exact ⟨rfl, HX.out.low⟩
  rw [if_neg (by simpa using h3)] at hne ⊢
  rw [h3] at HE
  generalize chk4 true true t p = ce at *
  have hc1 : (ce != 0) = true := by simpa using hne
  clear hne h3
  go_enter Tryz.func29, Tryz.ntmps29
  go_wp2_with fail
  refine (HV.out _).mono ?_
  rintro e w1 ⟨rfl, hb⟩
  have HX := hid (HX.out.keep hb)
  clear hb
  have x0 := HX.out.snd 0; have x1 := HX.out.snd 1; have x2 := HX.out.snd 2; have x3 := HX.out.snd 3; have x4 := HX.out.snd 4
  simp only [List.getElem?_toArray, List.getElem?_cons_zero, List.getElem?_cons_succ] at x0 x1 x2 x3 x4
  go_wp2_with fail
  refine (HQ.out _).mono ?_
  rintro e w2 ⟨rfl, hb⟩
  have HX := hid (HX.out.keep hb)
  clear hb x0 x1 x2 x3 x4
  have t0 := HX.out.fst 0; have t1 := HX.out.fst 1; have t2 := HX.out.fst 2; have t3 := HX.out.fst 3; have t4 := HX.out.fst 4; have t5 := HX.out.fst 5; have t6 := HX.out.fst 6
  have x0 := HX.out.snd 0; have x1 := HX.out.snd 1; have x2 := HX.out.snd 2; have x3 := HX.out.snd 3; have x4 := HX.out.snd 4
  simp only [List.getElem?_toArray, List.getElem?_cons_zero, List.getElem?_cons_succ] at t0 t1 t2 t3 t4 t5 t6 x0 x1 x2 x3 x4
  go_wp2_with fail
  refine (HE.out _).mono ?_
  rintro e w3 ⟨rfl, hb⟩
  have HX := hid (HX.out.keep hb)
  clear hb t0 t1 t2 t3 t4 t5 t6 x0 x1 x2 x3 x4
  have t0 := HX.out.fst 0; have t1 := HX.out.fst 1; have t2 := HX.out.fst 2; have t3 := HX.out.fst 3; have t4 := HX.out.fst 4; have t5 := HX.out.fst 5; have t6 := HX.out.fst 6
  have x0 := HX.out.snd 0; have x1 := HX.out.snd 1; have x2 := HX.out.snd 2; have x3 := HX.out.snd 3; have x4 := HX.out.snd 4
  simp only [List.getElem?_toArray, List.getElem?_cons_zero, List.getElem?_cons_succ] at t0 t1 t2 t3 t4 t5 t6 x0 x1 x2 x3 x4
  go_wp2_with fail
  refine (HA.out _ (HL.out _ HX.out.low)).mono ?_
  rintro e w4 ⟨rfl, hb⟩
  have HX := hid (HX.out.keep hb)
  clear hb t0 t1 t2 t3 t4 t5 t6 x0 x1 x2 x3 x4
  go_wp2_with fail
  go_ret2
  exact ⟨rfl, HX.out.low⟩
set_option maxRecDepth 100000 in
set_option maxHeartbeats 4000000 in
theorem xmend_all (c : Cn) (q : Kl) (t bath cold : Int) (cooling most : Nat) (Z : Nat) (v : Value) (p : List Int) (w : World) (hz : q.z = Z) (hs : q.s.size ≤ maxLen) (hcv : c.V) (hv : Lt.validB q.s.data.toList q.r Z q.d q.g = true) (ho : okT t = true) (hob : okT bath = true) (hoc : okT cold = true) (hop : okL p = true) (hmost : most + p.length + cooling = 2000) (hl : RowI w v p) :
    Calls Tryz.prog 29 #[.agg #[.int .i64 (c.R : Int), .int .i64 (c.L : Int), .int .i64 c.A, .int .i64 c.B, .int .i64 c.K, .int .i64 c.A2, .int .i64 c.B2], .agg #[.string q.s, .int .i64 q.r, .int .i64 q.z, .int .i64 q.d, .int .i64 q.g], .int .i64 t, .int .i64 bath, .int .i64 cold, .int .i64 (cooling : Nat), v] w (MedP (q.g * (q.d * 1000000)) (medF c q.r Z t p bath cold cooling) most w) := by
  have hcan : canB (c.R : Int) c.L c.A c.B c.K c.A2 c.B2 = true := hcv
  have hkv : q.vB = true := by show Lt.validB q.s.data.toList q.r q.z q.d q.g = true; rw [hz]; exact hv
  have hch : chk4 (canB (c.R : Int) c.L c.A c.B c.K c.A2 c.B2) q.vB t p = 0 := chk4_ok (by rw [hcan, hkv]; rfl) (by rw [ho, hop]; rfl) (by omega)
  have HX := hid (box2_start (w := w) (A := #[.int .i64 (c.R : Int), .int .i64 (c.L : Int), .int .i64 c.A, .int .i64 c.B, .int .i64 c.K, .int .i64 c.A2, .int .i64 c.B2]) (B := #[.string q.s, .int .i64 q.r, .int .i64 q.z, .int .i64 q.d, .int .i64 q.g]) (T := 23) (T' := 25) (fz := (0, 0)) (fz' := (0, 0)))
  have HL := hid (fun w1 (g : Below w.heap.size w w1) => hl.keep g)
  have HL0 := hid hl
  obtain ⟨a0, cap, rfl⟩ := hl.shape
  have HV := hid (fun W => rvcan_any c.R c.L c.A c.B c.K c.A2 c.B2 W)
  rw [hcan] at HV
  have HQ : Hid (∀ W, Calls Tryz.prog 57 #[.agg #[.string q.s, .int .i64 q.r, .int .i64 q.z, .int .i64 q.d, .int .i64 q.g]] W fun e w' => e = .returned (.bool true) ∧ Below W.heap.size W w') := fun W => by
    have := Lt.rvalid_any q.s q.r q.z q.d q.g W hs
    rwa [show Lt.validB q.s.data.toList q.r q.z q.d q.g = true from hkv] at this
  have HE := hid (fun W => xlerr_any c.R c.L c.A c.B c.K c.A2 c.B2 W q t bath cold cooling hs)
  have hle : leE (canB (c.R : Int) c.L c.A c.B c.K c.A2 c.B2) q.vB t bath cold cooling = 0 := by
    unfold leE
    rw [hcan, hkv, ho, hob, hoc]
    have : tick1 (cooling : Int) = true := by simp [tick1]; omega
    rw [this]
    rfl
  rw [hle] at HE
  have HA := hid (fun W h => xasked_any c.R c.L c.A c.B c.K c.A2 c.B2 W q t (.slice a0 p.length cap) p hs h (by unfold maxLen; omega))
  rw [hch] at HA
  have HBG := hid (fun W => xbegun_any c q.s q.r q.d q.g t Z W hs hcv)
  have HVV := hid hv
  have HTH := hid (fun (K : Kq) (hV : K.V) xa xc da dc ua uc W hR hK h => xthrough_any c K (rs0 c t) (.slice a0 p.length cap) p xa xc da dc ua uc W hcv.ok hV (rs0_good ho) hop hR hK h (by omega))
  have HFI := hid (fun (K : Kq) (he : K.s = q.s ∧ K.r = q.r ∧ K.Z = Z ∧ K.d = q.d ∧ K.g = q.g) xa xc da dc ua uc W hR hK => xfirst_any c K (rsR c K.f K.u (rs0 c t) p) bath cold cooling most xa xc da dc ua uc W hcv.ok (kq_V he hv) (by obtain ⟨e1, e2, e3, e4, e5⟩ := he; rw [e1, e2, e3, e4, e5]; exact hv) (by rw [he.1]; exact hs) ((rs0_good ho).run hcv.ok hop) hob hoc (by omega) (by omega) hR hK)
  have HMO := hid (show (2000 : Int) - (p.length : Int) - (cooling : Int) = (most : Int) by omega)
  have hpl : p.length ≤ 2000 := by omega
  have hco2 : cooling ≤ 2000 := by omega
  rw [hz] at HX HE HA HQ ⊢
  clear hcan hkv hch hle hs hcv hv ho hob hoc hop hmost hz hl
  go_enter Tryz.func29, Tryz.ntmps29
  go_wp2_with fail
  refine (HV.out _).mono ?_
  rintro e w0 ⟨rfl, hb⟩
  have HX := hid (HX.out.keep hb)
  clear hb
  have t0 := HX.out.fst 0; have t1 := HX.out.fst 1; have t2 := HX.out.fst 2; have t3 := HX.out.fst 3; have t4 := HX.out.fst 4; have t5 := HX.out.fst 5; have t6 := HX.out.fst 6
  have x0 := HX.out.snd 0; have x1 := HX.out.snd 1; have x2 := HX.out.snd 2; have x3 := HX.out.snd 3; have x4 := HX.out.snd 4
  simp only [List.getElem?_toArray, List.getElem?_cons_zero, List.getElem?_cons_succ] at t0 t1 t2 t3 t4 t5 t6 x0 x1 x2 x3 x4
  go_wp2_with fail
  refine (HQ.out _).mono ?_
  rintro e w1 ⟨rfl, hb⟩
  have HX := hid (HX.out.keep hb)
  clear hb t0 t1 t2 t3 t4 t5 t6 x0 x1 x2 x3 x4
  have t0 := HX.out.fst 0; have t1 := HX.out.fst 1; have t2 := HX.out.fst 2; have t3 := HX.out.fst 3; have t4 := HX.out.fst 4; have t5 := HX.out.fst 5; have t6 := HX.out.fst 6
  have x0 := HX.out.snd 0; have x1 := HX.out.snd 1; have x2 := HX.out.snd 2; have x3 := HX.out.snd 3; have x4 := HX.out.snd 4
  simp only [List.getElem?_toArray, List.getElem?_cons_zero, List.getElem?_cons_succ] at t0 t1 t2 t3 t4 t5 t6 x0 x1 x2 x3 x4
  go_wp2_with fail
  refine (HE.out _).mono ?_
  rintro e w2 ⟨rfl, hb⟩
  have HX := hid (HX.out.keep hb)
  clear hb t0 t1 t2 t3 t4 t5 t6 x0 x1 x2 x3 x4
  have t0 := HX.out.fst 0; have t1 := HX.out.fst 1; have t2 := HX.out.fst 2; have t3 := HX.out.fst 3; have t4 := HX.out.fst 4; have t5 := HX.out.fst 5; have t6 := HX.out.fst 6
  have x0 := HX.out.snd 0; have x1 := HX.out.snd 1; have x2 := HX.out.snd 2; have x3 := HX.out.snd 3; have x4 := HX.out.snd 4
  simp only [List.getElem?_toArray, List.getElem?_cons_zero, List.getElem?_cons_succ] at t0 t1 t2 t3 t4 t5 t6 x0 x1 x2 x3 x4
  go_wp2_with fail
  refine (HA.out _ (HL.out _ HX.out.low)).mono ?_
  rintro e w3 ⟨rfl, hb⟩
  have HX := hid (HX.out.keep hb)
  clear hb t0 t1 t2 t3 t4 t5 t6 x0 x1 x2 x3 x4
  have t0 := HX.out.fst 0; have t1 := HX.out.fst 1; have t2 := HX.out.fst 2; have t3 := HX.out.fst 3; have t4 := HX.out.fst 4; have t5 := HX.out.fst 5; have t6 := HX.out.fst 6
  have x0 := HX.out.snd 0; have x1 := HX.out.snd 1; have x2 := HX.out.snd 2; have x3 := HX.out.snd 3; have x4 := HX.out.snd 4
  simp only [List.getElem?_toArray, List.getElem?_cons_zero, List.getElem?_cons_succ] at t0 t1 t2 t3 t4 t5 t6 x0 x1 x2 x3 x4
  go_wp2_with fail
  refine (HBG.out _).mono ?_
  rintro e w4 ⟨K, he, hwF, hb, hwb, xa, xc, da, dc, ua, uc, rfl, hrows, hk, hst⟩
  have HX4 := hid (HX.out.keep hb)
  have hlt := Kq.lt hk
  have HBT := hid (rowK_old (gD := K.gD) (gU := K.gU) HL0.out HX4.out.low (by have := HX.out.low.size; omega) (by have := HX.out.low.size; omega))
  have HRW := hid hrows
  have HKK := hid hk
  have HEQ := hid he
  have HWF := hid hwF
  clear hb hwb hlt hrows hk hst he hwF t0 t1 t2 t3 t4 t5 t6 x0 x1 x2 x3 x4
  go_wp2_with fail
  refine (HTH.out K (kq_V HEQ.out HVV.out) xa xc da dc ua uc _ HRW.out HKK.out HBT.out).mono ?_
  rintro e w5 ⟨ya, yc, ea, ec, ga, gc, rfl, hr5, hk5, hs5⟩
  have HR5 := hid hr5
  have HK5 := hid hk5
  clear hr5 hk5 hs5
  go_wp2_with fail
  rw [HMO.out]
  refine (HFI.out K HEQ.out ya yc ea ec ga gc _ HR5.out HK5.out).mono ?_
  rintro e w6 ⟨⟨hk2, hs2⟩, hres⟩
  have hlow := Kq.low hk2
  rw [HWF.out] at hlow
  have HX6 := hid (HX.out.keep hlow)
  have HF := hid (fun n => (show lowF c K.f K.u (rsR c K.f K.u (rs0 c t) p) bath cold cooling n = medF c q.r Z t p bath cold cooling n from lowF_eq (c := c) (t := t) (bath := bath) (cold := cold) (cooling := cooling) p HEQ.out n))
  have hnd : K.g * (K.d * 1000000) = q.g * (q.d * 1000000) := by obtain ⟨_, _, _, e4, e5⟩ := HEQ.out; rw [e4, e5]
  rw [hnd] at hres
  clear hlow hk2 hs2 hnd HFI HBG HTH
  rcases hres with ⟨n, hn, h1, h2, rfl⟩ | ⟨h1, rfl⟩
  · have HR : Hid (MedP (q.g * (q.d * 1000000)) (medF c q.r Z t p bath cold cooling) most w (.returned (.tuple #[.int .i64 (n : Nat), .int .i64 0])) w6) :=
      ⟨HX6.out.low, .inl ⟨n, hn, by rw [← HF.out n]; exact h1, fun j hj => by rw [← HF.out j]; exact h2 j hj, rfl⟩⟩
    generalize lowF c K.f K.u (rsR c K.f K.u (rs0 c t) p) bath cold cooling n = ln at *
    generalize (if n = 0 then -1 else lowF c K.f K.u (rsR c K.f K.u (rs0 c t) p) bath cold cooling (n - 1)) = lp at *
    clear h1 h2 hn
    go_wp2_with fail
    exact bodyPost_ret (v := .tuple #[.int .i64 (n : Nat), .int .i64 0]) (by simp [results, Tryz.results29, go_sem]) rfl HR.out
  · have HR : Hid (MedP (q.g * (q.d * 1000000)) (medF c q.r Z t p bath cold cooling) most w (.returned (.tuple #[.int .i64 0, .int .i64 8])) w6) :=
      ⟨HX6.out.low, .inr ⟨fun j hj => by rw [← HF.out j]; exact h1 j hj, rfl⟩⟩
    clear h1
    go_wp2_with fail
    exact bodyPost_ret (v := .tuple #[.int .i64 0, .int .i64 8]) (by simp [results, Tryz.results29, go_sem]) rfl HR.out
end Go.Proofs.YtedfajokiblfhaaGreat
