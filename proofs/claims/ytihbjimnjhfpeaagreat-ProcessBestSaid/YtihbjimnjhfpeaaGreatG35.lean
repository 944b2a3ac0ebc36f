/- Texts of this seat, one behind the other. -/
import Derived.Test.YtihbjimnjhfpeaaGreatG34
import Derived.Test.YtihbjimnjhfpeaaGreatG33
import Derived.Test.YtihbjimnjhfpeaaGreatG32
/- ProcessLonger: a Cook that comes in; the plain fact; the walk. -/
namespace Go.Proofs.YtihbjimnjhfpeaaGreat
open Go.ChangeShapes Go.WideShapes Go.ChangeAt Go.RowKit Go.Joins Go.Deep Go.Lib

section
variable {H : Type} {enc : TypeId × Value → H} {w : World} {base : Nat} {spare : Nat → Bool} {held : Bool}
end
theorem cookL_ok {bath n cold cooling : Int} : okL (cookL bath n cold cooling) = true := by
  unfold cookL
  split
  · rename_i h
    unfold cookB at h
    rw [Bool.and_eq_true] at h
    have h1 := h.1
    simp only [okL, List.all_cons, List.all_nil, Bool.and_true, Bool.and_eq_true] at h1
    unfold okL
    rw [List.all_append, Bool.and_eq_true]
    exact ⟨List.all_eq_true.2 fun x hx => by rw [List.eq_of_mem_replicate hx]; exact h1.1, List.all_eq_true.2 fun x hx => by rw [List.eq_of_mem_replicate hx]; exact h1.2⟩
  · rfl
theorem chk4_cook (vc vk : Bool) (t : Int) {l m : List Int} (h1 : okL l = true) (h2 : okL m = true) (h3 : l.length ≤ 2000) (h4 : m.length ≤ 2000) : chk4 vc vk t l = chk4 vc vk t m := by
  unfold chk4
  rw [h1, h2, if_neg (show ¬ 2000 < l.length by omega), if_neg (show ¬ 2000 < m.length by omega)]
theorem lowO_min {S : List Nat} (h : 0 < S.length) : lowO S = minA (ivN S) := by
  unfold lowO
  rw [if_neg (by rintro rfl; simp at h)]
/-- A tick more is never less lethal. -/
theorem longer_le {r l a b a2 b2 : Int} {q : Kl} {t bath n cold cooling : Int} (h1 : cookB bath n cold cooling = true) (h2 : cookB bath (n + 1) cold cooling = true) (ht : t ≤ bath) (hn : 0 ≤ n) :
    lowO (sumsO r l a b 0 a2 b2 q t (cookL bath n cold cooling)) ≤ lowO (sumsO r l a b 0 a2 b2 q t (cookL bath (n + 1) cold cooling)) := by
  have hch := chk4_cook (canB r l a b 0 a2 b2) q.vB t (cookL_ok (bath := bath) (n := n) (cold := cold) (cooling := cooling)) (cookL_ok (bath := bath) (n := n + 1) (cold := cold) (cooling := cooling)) (cookL_len _ _ _ _) (cookL_len _ _ _ _)
  by_cases hc : chk4 (canB r l a b 0 a2 b2) q.vB t (cookL bath n cold cooling) = 0
  · have hc2 := hch.symm.trans hc
    obtain ⟨e1, p1, _⟩ := sumsO_len hc
    obtain ⟨e2, _, _⟩ := sumsO_len hc2
    rw [lowO_min (by omega), lowO_min (by omega)]
    obtain ⟨hcan, hk, ho, hop, _⟩ := chk4_zero hc
    obtain ⟨c, hcv, rfl, rfl, rfl, rfl, hK, rfl, rfl⟩ := canB_cn hcan
    have hob : okT bath = true := by
      have := h1
      unfold cookB at this
      rw [Bool.and_eq_true] at this
      have := this.1
      simp only [okL, List.all_cons, List.all_nil, Bool.and_true, Bool.and_eq_true] at this
      exact this.1
    obtain ⟨Z, hz, hv⟩ := kl_of hk
    have hK0 : c.K = 0 := hK.symm
    have hcn : cnOf (c.R : Int) c.L c.A c.B 0 c.A2 c.B2 = c := by rw [hK]; exact cnOf_cn c
    have hL : cookL bath (n + 1) cold cooling = bath :: cookL bath n cold cooling := by
      unfold cookL
      rw [if_pos h1, if_pos h2, show (n + 1).toNat = n.toNat + 1 by omega, List.replicate_succ, List.cons_append]
    have hf : ∀ x y : Int, x ≤ y → Lt.Pm.rateD q.r q.z (x / 250) ≤ Lt.Pm.rateD q.r q.z (y / 250) := fun x y hxy => by
      have hz1 := (Lt.validB_iff.1 hv).2.2.1.1
      exact Lt.Pm.rateD_mono (by rw [hz]; exact hz1) (by omega)
    unfold sumsO
    rw [if_pos hc, if_pos hc2, hcn, hL]
    have h := LeD.run (f := fun x => Lt.Pm.rateD q.r q.z (x / 250)) hcv.ok hK0 hf (cookL bath n cold cooling) (cookL bath n cold cooling) _ _ rfl (fun i a c => Int.le_refl _) hop hop (dish0_tick (f := fun x => Lt.Pm.rateD q.r q.z (x / 250)) hcv.ok hK0 ho hob ht)
    exact h.low hcv.ok
  · rw [sumsO_no hc, sumsO_no (by rw [← hch]; exact hc)]
    exact Int.le_refl _

set_option maxRecDepth 20000 in
set_option maxHeartbeats 2000000 in
theorem small04_any (r l a b k a2 b2 : Int) (w : World) (a0 : Option Addr) (n cap : Nat) (hn : n ≤ maxLen) :
    Calls Tryz.prog 7 #[.agg #[.int .i64 r, .int .i64 l, .int .i64 a, .int .i64 b, .int .i64 k, .int .i64 a2, .int .i64 b2], .slice a0 n cap] w fun e w' => e = .returned (.bool (smallB r l n 80)) ∧ Below w.heap.size w w' := by
  unfold maxLen at hn
  cases h1 : decide (r ≤ 3)
  · have HE := hid (show smallB r l n 80 = false by unfold smallB; rw [h1]; rfl)
    go_enter Tryz.func7, Tryz.ntmps7
    go_wp2
    go_ret
    exact ⟨ret_bool HE.out.symm, (Below.refl _ _).alloc (Nat.le_refl _) _⟩
  cases h2 : decide (l ≤ 4)
  · have HE := hid (show smallB r l n 80 = false by unfold smallB; rw [h1, h2]; rfl)
    go_enter Tryz.func7, Tryz.ntmps7
    go_wp2
    go_ret
    exact ⟨ret_bool HE.out.symm, (Below.refl _ _).alloc (Nat.le_refl _) _⟩
  · have HE := hid (show smallB r l n 80 = decide ((n : Int) ≤ 80) by unfold smallB; rw [h1, h2]; simp; omega)
    go_enter Tryz.func7, Tryz.ntmps7
    go_wp2
    go_ret
    exact ⟨ret_bool HE.out.symm, (Below.refl _ _).alloc (Nat.le_refl _) _⟩
end Go.Proofs.YtihbjimnjhfpeaaGreat

/- Least and Mended of both where the law looks: contracts. -/
namespace Go.Proofs.YtihbjimnjhfpeaaGreat
open Go.RowKit Go.Lib

/-- The reference's lethality with n ticks is the code's. -/
theorem lowF_eq {c : Cn} {K : Kq} {s : ByteArray} {r d g t bath cold : Int} {Z cooling : Nat} (p : List Int) (he : K.s = s ∧ K.r = r ∧ K.Z = Z ∧ K.d = d ∧ K.g = g) (n : Nat) :
    lowF c K.f K.u (rsR c K.f K.u (rs0 c t) p) bath cold cooling n = minA (ivN (afN c (fun x => Lt.Pm.rateD r Z (x / 250)) (afN c (fun x => Lt.Pm.rateD r Z (x / 250)) (dishR c (fun x => Lt.Pm.rateD r Z (x / 250)) (dish0 c t) p) bath n) cold cooling).2) := by
  unfold lowF afN
  rw [← rsR_append, ← rsR_append, rs_sums _ he, dishR_append, dishR_append]
theorem tst_iff {c : Cn} {f : Int → Nat} {D : Dish} {need bath cold : Int} {cooling n : Nat} : tstC c f D need bath cold cooling n = decide (need ≤ minA (ivN (afN c f (afN c f D bath n) cold cooling).2)) := rfl
theorem withF_eq {c : Cn} {q : Kl} {Z : Nat} {t bath cold : Int} {cooling n : Nat} (hz : q.z = Z) (hch : chk4 (canB (c.R : Int) c.L c.A c.B c.K c.A2 c.B2) q.vB t [] = 0) (hb : okT bath = true) (hk : okT cold = true) (hn : n + cooling ≤ 2000) :
    withF c.R c.L c.A c.B c.K c.A2 c.B2 q t bath cold cooling n = minA (ivN (afN c (fun x => Lt.Pm.rateD q.r Z (x / 250)) (afN c (fun x => Lt.Pm.rateD q.r Z (x / 250)) (dish0 c t) bath n) cold cooling).2) := by
  have hcb : cookB bath n cold cooling = true := by
    rw [cookB_eq]
    simp only [hb, hk, tick1, Bool.true_and, Bool.and_eq_true, decide_eq_true_eq, Bool.not_eq_true', decide_eq_false_iff_not]
    omega
  have hL : cookL bath n cold cooling = List.replicate n bath ++ List.replicate cooling cold := by
    unfold cookL
    rw [if_pos hcb]
    rfl
  obtain ⟨h1, h2, h3, _, _⟩ := chk4_zero hch
  have hc2 : chk4 (canB (c.R : Int) c.L c.A c.B c.K c.A2 c.B2) q.vB t (cookL bath n cold cooling) = 0 := chk4_ok (by rw [h1, h2]; rfl) (by rw [h3, cookL_ok]; rfl) (by have := cookL_len bath n cold cooling; omega)
  unfold withF
  rw [lowO_min (by obtain ⟨e1, p1, _⟩ := sumsO_len hc2; omega), sumsO_cn hz hc2, hL]
  unfold afN
  rw [dishR_append]
theorem sterP_tst {c : Cn} {q : Kl} {Z : Nat} {t bath cold : Int} {cooling n : Nat} (_hz : q.z = Z) (hch : chk4 (canB (c.R : Int) c.L c.A c.B c.K c.A2 c.B2) q.vB t [] = 0) (hb : okT bath = true) (hk : okT cold = true) (hn : n + cooling ≤ 2000) :
    sterP c.R c.L c.A c.B c.K c.A2 c.B2 q t bath cold cooling n = decide (q.g * (q.d * 1000000) ≤ withF c.R c.L c.A c.B c.K c.A2 c.B2 q t bath cold cooling n) := by
  have hcb : cookB bath n cold cooling = true := by
    rw [cookB_eq]
    simp only [hb, hk, tick1, Bool.true_and, Bool.and_eq_true, decide_eq_true_eq, Bool.not_eq_true', decide_eq_false_iff_not]
    omega
  obtain ⟨h1, h2, h3, _, _⟩ := chk4_zero hch
  have hc2 : chk4 (canB (c.R : Int) c.L c.A c.B c.K c.A2 c.B2) q.vB t (cookL bath n cold cooling) = 0 := chk4_ok (by rw [h1, h2]; rfl) (by rw [h3, cookL_ok]; rfl) (by have := cookL_len bath n cold cooling; omega)
  unfold sterP sterO withF
  rw [hcb, hc2]
  rfl
/-- What Least tells, by the numbers alone. -/
def LeaP (need : Int) (G : Nat → Int) (most : Nat) (w : World) (e : Ending) (w' : World) : Prop :=
  Below w.heap.size w w' ∧ ((∃ n : Nat, n ≤ most ∧ need ≤ G n ∧ (∀ j, j < n → G j < need) ∧ e = .returned (.tuple #[.int .i64 (n : Nat), .int .i64 (G n), .int .i64 (if n = 0 then -1 else G (n - 1)), .int .i64 0])) ∨ ((∀ j, j ≤ most → G j < need) ∧ e = .returned (.tuple #[.int .i64 0, .int .i64 0, .int .i64 0, .int .i64 8])))
theorem least_all (c : Cn) (q : Kl) (t bath cold : Int) (cooling : Nat) (Z : Nat) (w : World) (hz : q.z = Z) (hs : q.s.size ≤ maxLen) (hcv : c.V) (hv : Lt.validB q.s.data.toList q.r Z q.d q.g = true) (ho : okT t = true) (hob : okT bath = true) (hoc : okT cold = true) (hcool : cooling ≤ 2000) :
    Calls Tryz.prog 26 #[.agg #[.int .i64 (c.R : Int), .int .i64 (c.L : Int), .int .i64 c.A, .int .i64 c.B, .int .i64 c.K, .int .i64 c.A2, .int .i64 c.B2], .agg #[.string q.s, .int .i64 q.r, .int .i64 q.z, .int .i64 q.d, .int .i64 q.g], .int .i64 t, .int .i64 bath, .int .i64 cold, .int .i64 (cooling : Nat)] w (LeaP (q.g * (q.d * 1000000)) (fun n => withF c.R c.L c.A c.B c.K c.A2 c.B2 q t bath cold cooling n) (2000 - cooling) w) := by
  have hcan : canB (c.R : Int) c.L c.A c.B c.K c.A2 c.B2 = true := hcv
  have hkv : q.vB = true := by show Lt.validB q.s.data.toList q.r q.z q.d q.g = true; rw [hz]; exact hv
  have hch : chk4 (canB (c.R : Int) c.L c.A c.B c.K c.A2 c.B2) q.vB t [] = 0 := chk4_ok (by rw [hcan, hkv]; rfl) (by rw [ho]; rfl) (by simp)
  have hz1 : (1 : Int) ≤ q.z := by rw [hz]; exact (Lt.validB_iff.1 hv).2.2.1.1
  have hT : ∀ n, n ≤ 2000 - cooling → tstC c (fun x => Lt.Pm.rateD q.r q.z (x / 250)) (dish0 c t) (q.g * (q.d * 1000000)) bath cold cooling n = decide (q.g * (q.d * 1000000) ≤ withF c.R c.L c.A c.B c.K c.A2 c.B2 q t bath cold cooling n) := fun n hn => by
    rw [withF_eq hz hch hob hoc (by omega), tst_iff, hz]
  refine (least_ok c q t bath cold cooling (2000 - cooling) Z w hz hs hcv hv ho hob hoc (by omega) (fun hr j n hjn hn hj => tstC_mono hcv.ok (dn_mono hz1) (dish0_good ho) hob hoc hr hjn hj)).mono ?_
  rintro e w' ⟨hb, ⟨n, hn, h1, h2, rfl⟩ | ⟨h1, rfl⟩⟩
  · refine ⟨hb, .inl ⟨n, hn, ?_, fun j hj => ?_, ?_⟩⟩
    · rw [hT n hn] at h1; simpa using h1
    · have := h2 j hj
      rw [hT j (by omega)] at this
      simpa using this
    · by_cases h0 : n = 0
      · rw [if_pos h0, if_pos h0]
      · dsimp only
        rw [if_neg h0, if_neg h0, show ((n - 1 : Nat) : Int) = (n : Int) - 1 by omega]
  · refine ⟨hb, .inr ⟨fun j hj => ?_, rfl⟩⟩
    have := h1 j hj
    rw [hT j hj] at this
    simpa using this
end Go.Proofs.YtihbjimnjhfpeaaGreat

/- Walks of the reference's Least and Mended: contracts. -/
namespace Go.Proofs.YtihbjimnjhfpeaaGreat
open Go.RowKit Go.Lib

theorem leE_mend {vc vk : Bool} {t bath cold cooling : Int} : leE vc vk t bath cold cooling = mendE vc vk t bath cold cooling [] := by
  rw [← mendE_ref]
  cases hv : (vc && vk)
  · unfold leE; rw [hv]; rfl
  · rw [if_neg (by simp)]
    by_cases h : leE vc vk t bath cold cooling = 0
    · rw [if_neg (by simp [h]), h]
      have ho := leE_zero h
      simp only [Bool.and_eq_true] at ho
      exact (chk4_ok (by rw [Bool.and_comm]; exact hv) (by rw [ho.1.1.1]; rfl) (by simp)).symm
    · rw [if_pos h]
set_option maxRecDepth 100000 in
set_option maxHeartbeats 4000000 in
theorem xleast_err (r l a b k a2 b2 : Int) (w : World) (q : Kl) (t bath cold cooling : Int) (hs : q.s.size ≤ maxLen) (hne : mendE (canB r l a b k a2 b2) q.vB t bath cold cooling [] ≠ 0) :
    Calls Tryz.prog 37 #[.agg #[.int .i64 r, .int .i64 l, .int .i64 a, .int .i64 b, .int .i64 k, .int .i64 a2, .int .i64 b2], .agg #[.string q.s, .int .i64 q.r, .int .i64 q.z, .int .i64 q.d, .int .i64 q.g], .int .i64 t, .int .i64 bath, .int .i64 cold, .int .i64 cooling] w fun e w' => e = .returned (.tuple #[.int .i64 0, .int .i64 0, .int .i64 0, .int .i64 (mendE (canB r l a b k a2 b2) q.vB t bath cold cooling [])]) ∧ Below w.heap.size w w' := by
  have HX := hid (box2_start (w := w) (A := #[.int .i64 r, .int .i64 l, .int .i64 a, .int .i64 b, .int .i64 k, .int .i64 a2, .int .i64 b2]) (B := #[.string q.s, .int .i64 q.r, .int .i64 q.z, .int .i64 q.d, .int .i64 q.g]) (T := 23) (T' := 25) (fz := (0, 0)) (fz' := (0, 0)))
  have HE := hid (fun W => xlerr_any r l a b k a2 b2 W q t bath cold cooling hs)
  rw [leE_mend] at HE
  generalize mendE (canB r l a b k a2 b2) q.vB t bath cold cooling [] = ce at *
  have hc1 : (ce != 0) = true := by simpa using hne
  clear hs hne
  go_enter Tryz.func37, Tryz.ntmps37
  go_wp2_with fail
  refine (HE.out _).mono ?_
  rintro e w1 ⟨rfl, hb⟩
  have HX := hid (HX.out.keep hb)
  clear hb
  go_wp2_with fail
  refine bodyPost_ret (v := .tuple #[.int .i64 0, .int .i64 0, .int .i64 0, .int .i64 ce]) (by simp [results, Tryz.results37, go_sem]) rfl ⟨rfl, HX.out.low⟩
set_option maxRecDepth 100000 in
set_option maxHeartbeats 4000000 in
theorem xleast_all (c : Cn) (q : Kl) (t bath cold : Int) (cooling : Nat) (Z : Nat) (w : World) (hz : q.z = Z) (hs : q.s.size ≤ maxLen) (hcv : c.V) (hv : Lt.validB q.s.data.toList q.r Z q.d q.g = true) (ho : okT t = true) (hob : okT bath = true) (hoc : okT cold = true) (hcool : cooling ≤ 2000) :
    Calls Tryz.prog 37 #[.agg #[.int .i64 (c.R : Int), .int .i64 (c.L : Int), .int .i64 c.A, .int .i64 c.B, .int .i64 c.K, .int .i64 c.A2, .int .i64 c.B2], .agg #[.string q.s, .int .i64 q.r, .int .i64 q.z, .int .i64 q.d, .int .i64 q.g], .int .i64 t, .int .i64 bath, .int .i64 cold, .int .i64 (cooling : Nat)] w (LeaP (q.g * (q.d * 1000000)) (fun n => withF c.R c.L c.A c.B c.K c.A2 c.B2 q t bath cold cooling n) (2000 - cooling) w) := by
  have hcan : canB (c.R : Int) c.L c.A c.B c.K c.A2 c.B2 = true := hcv
  have hkv : q.vB = true := by show Lt.validB q.s.data.toList q.r q.z q.d q.g = true; rw [hz]; exact hv
  have hch : chk4 (canB (c.R : Int) c.L c.A c.B c.K c.A2 c.B2) q.vB t [] = 0 := chk4_ok (by rw [hcan, hkv]; rfl) (by rw [ho]; rfl) (by simp)
  have HX := hid (box2_start (w := w) (A := #[.int .i64 (c.R : Int), .int .i64 (c.L : Int), .int .i64 c.A, .int .i64 c.B, .int .i64 c.K, .int .i64 c.A2, .int .i64 c.B2]) (B := #[.string q.s, .int .i64 q.r, .int .i64 q.z, .int .i64 q.d, .int .i64 q.g]) (T := 23) (T' := 25) (fz := (0, 0)) (fz' := (0, 0)))
  have HE := hid (fun W => xlerr_any c.R c.L c.A c.B c.K c.A2 c.B2 W q t bath cold cooling hs)
  have hle : leE (canB (c.R : Int) c.L c.A c.B c.K c.A2 c.B2) q.vB t bath cold cooling = 0 := by
    unfold leE
    rw [hcan, hkv, ho, hob, hoc]
    have : tick1 (cooling : Int) = true := by simp [tick1]; omega
    rw [this]
    rfl
  rw [hle] at HE
  have HBG := hid (fun W => xbegun_any c q.s q.r q.d q.g t Z W hs hcv)
  have HVV := hid hv
  have HG := hid (fun n (hn : n ≤ 2000 - cooling) => withF_eq (c := c) (q := q) (Z := Z) (t := t) (bath := bath) (cold := cold) (cooling := cooling) (n := n) hz hch hob hoc (by omega))
  have HFI := hid (fun (K : Kq) (he : K.s = q.s ∧ K.r = q.r ∧ K.Z = Z ∧ K.d = q.d ∧ K.g = q.g) xa xc da dc ua uc W hR hK => xfirst_any c K (rs0 c t) bath cold cooling (2000 - cooling) xa xc da dc ua uc W hcv.ok (kq_V he hv) (by obtain ⟨e1, e2, e3, e4, e5⟩ := he; rw [e1, e2, e3, e4, e5]; exact hv) (by rw [he.1]; exact hs) (rs0_good ho) hob hoc hcool (by omega) hR hK)
  have HMO := hid (show (2000 : Int) - (cooling : Int) = ((2000 - cooling : Nat) : Int) by omega)
  have hco2 : (cooling : Int) ≤ 2000 := by omega
  rw [hz] at HX HE ⊢
  clear hcan hkv hch hle hs hcv hv ho hob hoc hcool hz
  have hz := HX.out.sz
  have t0 := HX.out.fst 0; have t1 := HX.out.fst 1; have t2 := HX.out.fst 2; have t3 := HX.out.fst 3; have t4 := HX.out.fst 4; have t5 := HX.out.fst 5; have t6 := HX.out.fst 6
  clear hz t0 t1 t2 t3 t4 t5 t6
  go_enter Tryz.func37, Tryz.ntmps37
  go_wp2_with fail
  refine (HE.out _).mono ?_
  rintro e w0 ⟨rfl, hb⟩
  have HX := hid (HX.out.keep hb)
  clear hb
  have t0 := HX.out.fst 0; have t1 := HX.out.fst 1; have t2 := HX.out.fst 2; have t3 := HX.out.fst 3; have t4 := HX.out.fst 4; have t5 := HX.out.fst 5; have t6 := HX.out.fst 6
  have x0 := HX.out.snd 0; have x1 := HX.out.snd 1; have x2 := HX.out.snd 2; have x3 := HX.out.snd 3; have x4 := HX.out.snd 4
  simp only [List.getElem?_toArray, List.getElem?_cons_zero, List.getElem?_cons_succ] at t0 t1 t2 t3 t4 t5 t6 x0 x1 x2 x3 x4
  go_wp2_with fail
  refine (HBG.out _).mono ?_
  rintro e w1 ⟨K, he, hwF, hb, hwb, xa, xc, da, dc, ua, uc, rfl, hrows, hk, hst⟩
  have HRW := hid hrows
  have HKK := hid hk
  have HEQ := hid he
  have HWF := hid hwF
  clear hb hwb hrows hk hst he hwF t0 t1 t2 t3 t4 t5 t6 x0 x1 x2 x3 x4
  go_wp2_with fail
  rw [HMO.out]
  refine (HFI.out K HEQ.out xa xc da dc ua uc _ HRW.out HKK.out).mono ?_
  rintro e w2 ⟨⟨hk2, hs2⟩, hres⟩
  have hlow := Kq.low hk2
  rw [HWF.out] at hlow
  have HX2 := hid (HX.out.keep hlow)
  have HF := hid (fun n (hn : n ≤ 2000 - cooling) => (show lowF c K.f K.u (rs0 c t) bath cold cooling n = withF c.R c.L c.A c.B c.K c.A2 c.B2 q t bath cold cooling n from (lowF_eq (c := c) (t := t) (bath := bath) (cold := cold) (cooling := cooling) [] HEQ.out n).trans (HG.out n hn).symm))
  have hnd : K.g * (K.d * 1000000) = q.g * (q.d * 1000000) := by obtain ⟨_, _, _, e4, e5⟩ := HEQ.out; rw [e4, e5]
  rw [hnd] at hres
  clear hlow hk2 hs2 hnd HFI HBG
  rcases hres with ⟨n, hn, h1, h2, rfl⟩ | ⟨h1, rfl⟩
  · have HR : Hid (LeaP (q.g * (q.d * 1000000)) (fun n => withF c.R c.L c.A c.B c.K c.A2 c.B2 q t bath cold cooling n) (2000 - cooling) w (.returned (.tuple #[.int .i64 (n : Nat), .int .i64 (lowF c K.f K.u (rs0 c t) bath cold cooling n), .int .i64 (if n = 0 then -1 else lowF c K.f K.u (rs0 c t) bath cold cooling (n - 1)), .int .i64 0])) w2) := by
      refine ⟨HX2.out.low, .inl ⟨n, hn, by dsimp only; rw [← HF.out n hn]; exact h1, fun j hj => by dsimp only; rw [← HF.out j (by omega)]; exact h2 j hj, ?_⟩⟩
      dsimp only
      rw [HF.out n hn]
      by_cases h0 : n = 0
      · rw [if_pos h0, if_pos h0]
      · rw [if_neg h0, if_neg h0, HF.out (n - 1) (by omega)]
    generalize lowF c K.f K.u (rs0 c t) bath cold cooling n = ln at *
    generalize (if n = 0 then -1 else lowF c K.f K.u (rs0 c t) bath cold cooling (n - 1)) = lp at *
    clear h1 h2 hn
    go_wp2_with fail
    exact bodyPost_ret (v := .tuple #[.int .i64 (n : Nat), .int .i64 ln, .int .i64 lp, .int .i64 0]) (by simp [results, Tryz.results37, go_sem]) rfl HR.out
  · have HR : Hid (LeaP (q.g * (q.d * 1000000)) (fun n => withF c.R c.L c.A c.B c.K c.A2 c.B2 q t bath cold cooling n) (2000 - cooling) w (.returned (.tuple #[.int .i64 0, .int .i64 0, .int .i64 0, .int .i64 8])) w2) :=
      ⟨HX2.out.low, .inr ⟨fun j hj => by dsimp only; rw [← HF.out j hj]; exact h1 j hj, rfl⟩⟩
    clear h1
    go_wp2_with fail
    exact bodyPost_ret (v := .tuple #[.int .i64 0, .int .i64 0, .int .i64 0, .int .i64 8]) (by simp [results, Tryz.results37, go_sem]) rfl HR.out
end Go.Proofs.YtihbjimnjhfpeaaGreat

/- Walks of Mended of both where the law looks: contracts. -/
namespace Go.Proofs.YtihbjimnjhfpeaaGreat
open Go.RowKit Go.Lib

/-- What Mended tells, by the numbers alone. -/
def MedP (need : Int) (F : Nat → Int) (most : Nat) (w : World) (e : Ending) (w' : World) : Prop :=
  Below w.heap.size w w' ∧ ((∃ n : Nat, n ≤ most ∧ need ≤ F n ∧ (∀ j, j < n → F j < need) ∧ e = .returned (.tuple #[.int .i64 (n : Nat), .int .i64 0])) ∨ ((∀ j, j ≤ most → F j < need) ∧ e = .returned (.tuple #[.int .i64 0, .int .i64 8])))
/-- The lethality behind some baths, n ticks and a cooling. -/
def medF (c : Cn) (r : Int) (Z : Nat) (t : Int) (p : List Int) (bath cold : Int) (cooling n : Nat) : Int := minA (ivN (afN c (fun x => Lt.Pm.rateD r Z (x / 250)) (afN c (fun x => Lt.Pm.rateD r Z (x / 250)) (dishR c (fun x => Lt.Pm.rateD r Z (x / 250)) (dish0 c t) p) bath n) cold cooling).2)
theorem mend_all (c : Cn) (q : Kl) (t bath cold : Int) (cooling most : Nat) (Z : Nat) (v : Value) (p : List Int) (w : World) (hz : q.z = Z) (hs : q.s.size ≤ maxLen) (hcv : c.V) (hv : Lt.validB q.s.data.toList q.r Z q.d q.g = true) (ho : okT t = true) (hob : okT bath = true) (hoc : okT cold = true) (hop : okL p = true) (hmost : most + p.length + cooling = 2000) (hl : RowI w v p) :
    Calls Tryz.prog 31 #[.agg #[.int .i64 (c.R : Int), .int .i64 (c.L : Int), .int .i64 c.A, .int .i64 c.B, .int .i64 c.K, .int .i64 c.A2, .int .i64 c.B2], .agg #[.string q.s, .int .i64 q.r, .int .i64 q.z, .int .i64 q.d, .int .i64 q.g], .int .i64 t, .int .i64 bath, .int .i64 cold, .int .i64 (cooling : Nat), v] w (MedP (q.g * (q.d * 1000000)) (medF c q.r Z t p bath cold cooling) most w) := by
  have hz1 : (1 : Int) ≤ (Z : Int) := (Lt.validB_iff.1 hv).2.2.1.1
  rw [hz]
  refine (mended_ok c q.s q.r q.d q.g t bath cold cooling most Z v p w hs hcv hv ho hob hoc hop hmost hl (fun D hD hr j n hjn hn hj => by
    subst hD
    exact tstC_mono hcv.ok (dn_mono hz1) ((dish0_good ho).run hcv.ok hop) hob hoc hr hjn hj)).mono ?_
  rintro e w' ⟨hb, ⟨n, hn, h1, h2, rfl⟩ | ⟨h1, rfl⟩⟩
  · exact ⟨hb, .inl ⟨n, hn, by rw [tst_iff] at h1; simpa [medF] using h1, fun j hj => by have := h2 j hj; rw [tst_iff] at this; simpa [medF] using this, rfl⟩⟩
  · exact ⟨hb, .inr ⟨fun j hj => by have := h1 j hj; rw [tst_iff] at this; simpa [medF] using this, rfl⟩⟩
end Go.Proofs.YtihbjimnjhfpeaaGreat

/- Walk of TopSterile. -/
namespace Go.Proofs.YtihbjimnjhfpeaaGreat
open Go.RowKit Go.Lib

theorem lowO_bd {r l a b k a2 b2 : Int} {q : Kl} {t : Int} {p : List Int} (h : chk4 (canB r l a b k a2 b2) q.vB t p = 0) : 0 ≤ lowO (sumsO r l a b k a2 b2 q t p) ∧ lowO (sumsO r l a b k a2 b2 q t p) ≤ 1000000000000000000 := by
  obtain ⟨hc, hk, ho, hop, hlen⟩ := chk4_zero h
  obtain ⟨hl1, hl2, _⟩ := sumsO_len h
  have hG : ∀ s ∈ sumsO r l a b k a2 b2 q t p, s ≤ 1000000000000000000 := by
    obtain ⟨c, hcv, rfl, rfl, rfl, rfl, rfl, rfl, rfl⟩ := canB_cn hc
    unfold sumsO
    rw [if_pos h, cnOf_cn]
    exact ((dish0_good ho).run hcv.ok hop).le
  generalize sumsO r l a b k a2 b2 q t p = S at *
  have hne : S ≠ [] := fun e => by rw [e] at hl1; simp at hl1; omega
  unfold lowO
  rw [if_neg hne]
  obtain ⟨n, hn, e⟩ := List.mem_map.1 (show minA (ivN S) ∈ S.map fun (n : Nat) => (n : Int) from minA_mem (by show 0 < (ivN S).length; rw [ivN_len]; omega))
  have := hG n hn
  omega
theorem share_ge {f n : Int} (_h0 : 0 ≤ f) (hn : 0 < n) : decide (1000 ≤ f * 1000 / n) = decide (n ≤ f) := by
  rw [Bool.eq_iff_iff, decide_eq_true_iff, decide_eq_true_iff, Int.le_ediv_iff_mul_le hn]
  omega
end Go.Proofs.YtihbjimnjhfpeaaGreat
