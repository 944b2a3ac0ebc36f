/- LethalProducts: for every killer and two temperatures the law returns true. No conditions. -/
import Derived.Test.YtfcngnoelmlakaaLf
import Derived.Test.YtfcngnoelmlakaaWe
namespace Go.Proofs.Ytfcngnoelmlakaa
open Go.ChangeShapes Go.WideShapes Go.ChangeAt Go.RowKit Go.Joins Go.Deep
open Go.ChangeMaps (open_string shut_string)

/-- Multiplying rates is adding temperatures. -/
theorem products {r z t u : Int} (hz : 1 ≤ z) (ht : t - r ≤ 10 * z) (hu : u - r ≤ 10 * z) (hs : t + u - r - r ≤ 10 * z) :
    Pm.rateD r z t * Pm.rateD r z u ≤ Pm.rateU r z (t + u - r) * 1000000 := by
  have e1 : Pm.expo r z t = 6 * z + (t - r) := by unfold Pm.expo; omega
  have e2 : Pm.expo r z u = 6 * z + (u - r) := by unfold Pm.expo; omega
  have e3 : Pm.expo r z (t + u - r) = Pm.expo r z t + Pm.expo r z u - 6 * z := by rw [e1, e2]; unfold Pm.expo; omega
  by_cases h1 : Pm.expo r z t < 0
  · rw [Pm.rateD_neg h1, Nat.zero_mul]; exact Nat.zero_le _
  by_cases h2 : Pm.expo r z u < 0
  · rw [Pm.rateD_neg h2, Nat.mul_zero]; exact Nat.zero_le _
  rw [Pm.rateD_pos h1, Pm.rateD_pos h2]
  have i1 := (Pm.rootN_is (Pm.expo r z t).toNat z.toNat (by omega)).1
  have i2 := (Pm.rootN_is (Pm.expo r z u).toNat z.toNat (by omega)).1
  have i3 : (Pm.rootN (Pm.expo r z t).toNat z.toNat * Pm.rootN (Pm.expo r z u).toNat z.toNat) ^ z.toNat ≤ 10 ^ ((Pm.expo r z t).toNat + (Pm.expo r z u).toNat) := by
    rw [Nat.mul_pow, Nat.pow_add]; exact Nat.mul_le_mul i1 i2
  generalize Pm.rootN (Pm.expo r z t).toNat z.toNat * Pm.rootN (Pm.expo r z u).toNat z.toNat = p at i3 ⊢
  have m6 : (1000000 : Nat) ^ z.toNat = 10 ^ (6 * z.toNat) := by rw [Nat.pow_mul]
  by_cases h3 : Pm.expo r z (t + u - r) < 0
  · have : Pm.rateU r z (t + u - r) = 1 := by unfold Pm.rateU; rw [if_pos h3]
    rw [this, Nat.one_mul]
    rcases Nat.lt_or_ge 1000000 p with hp | hp
    · have a := Nat.pow_le_pow_left (Nat.le_of_lt hp) z.toNat
      rw [m6] at a
      have b := Nat.le_trans a i3
      have c := (Nat.pow_le_pow_iff_right (by omega : 1 < 10)).1 b
      omega
    · exact hp
  · have hup : 10 ^ (Pm.expo r z (t + u - r)).toNat ≤ Pm.rateU r z (t + u - r) ^ z.toNat := by
      have hi := Pm.rootN_is (Pm.expo r z (t + u - r)).toNat z.toNat (by omega)
      unfold Pm.rateU
      rw [if_neg h3]
      split
      · rename_i hd
        rw [(Pm.root_exact _ _ (by omega)).2 hd]
        exact Nat.le_refl _
      · exact Nat.le_of_lt hi.2
    rcases Nat.lt_or_ge (Pm.rateU r z (t + u - r) * 1000000) p with hp | hp
    · have a := Nat.pow_lt_pow_left hp (n := z.toNat) (by omega)
      rw [Nat.mul_pow, m6] at a
      have b := Nat.mul_le_mul_right (10 ^ (6 * z.toNat)) hup
      rw [← Nat.pow_add] at b
      have c := Nat.lt_of_le_of_lt b (Nat.lt_of_lt_of_le a i3)
      have d := (Nat.pow_lt_pow_iff_right (by omega : 1 < 10)).1 c
      omega
    · exact hp
theorem mul_room {x y : Nat} (h1 : x ≤ 10000000000000001) (h2 : y ≤ 10000000000000001) : x * y < 1000000 ^ 1000 :=
  Nat.lt_of_le_of_lt (Nat.mul_le_mul h1 h2) (by decide +kernel)
theorem one_room {x : Nat} (h1 : x ≤ 10000000000000001) : x < 1000000 ^ 1000 :=
  Nat.lt_of_le_of_lt h1 (by decide +kernel)

set_option maxHeartbeats 8000000 in
theorem products_walk (s : ByteArray) (r z d g : Int) (t u : Int) (w : World) (hs : s.size ≤ maxLen) (_ht : (Lit.int .i64 t).wf = true) (_hu : (Lit.int .i64 u).wf = true) :
    Calls Try.prog 8 #[.agg #[.string s, .int .i64 r, .int .i64 z, .int .i64 d, .int .i64 g], .int .i64 t, .int .i64 u] w fun e w' => e = .returned (.bool true) ∧ Below w.heap.size w w' := by
  obtain ⟨b0, b1, b2, b3, b4, hz, hB⟩ := box5_below (Below.refl _ (w.alloc (.cells #[.string s, .int .i64 r, .int .i64 z, .int .i64 d, .int .i64 g] 23)))
  cases hf : freeB (validB s.data.toList r z d g) r z t
  · go_enter Try.func8, Try.ntmps8
    go_wp2_with (first
      | (go_at_call 34; refine (free_any _ _ _ _ _ _ hs _).mono ?_; rintro e w1 ⟨rfl, hb⟩; obtain ⟨b0, b1, b2, b3, b4, hz, hB⟩ := kbox_keep hb ⟨b0, b1, b2, b3, b4, hz, hB⟩)
      | (go_at_call 21; refine (awake_any _).mono ?_; rintro e w5 ⟨rfl, hb⟩; obtain ⟨b0, b1, b2, b3, b4, hz, hB⟩ := kbox_keep hb ⟨b0, b1, b2, b3, b4, hz, hB⟩))
    go_ret
    exact ⟨rfl, hB⟩
  obtain ⟨hv, t1, t2, t3⟩ := freeB_iff.1 hf
  obtain ⟨_, ⟨r1, r2⟩, ⟨z1, z2⟩, _, _⟩ := validB_iff.1 hv
  rw [hv] at hf
  cases hf2 : freeB true r z u
  · go_enter Try.func8, Try.ntmps8
    go_wp2_with (first
      | (go_at_call 34; refine (free_any _ _ _ _ _ _ hs _).mono ?_; rintro e w1 ⟨rfl, hb⟩; obtain ⟨b0, b1, b2, b3, b4, hz, hB⟩ := kbox_keep hb ⟨b0, b1, b2, b3, b4, hz, hB⟩)
      | (go_at_call 21; refine (awake_any _).mono ?_; rintro e w5 ⟨rfl, hb⟩; obtain ⟨b0, b1, b2, b3, b4, hz, hB⟩ := kbox_keep hb ⟨b0, b1, b2, b3, b4, hz, hB⟩))
    go_ret
    exact ⟨rfl, hB⟩
  obtain ⟨_, u1, u2, u3⟩ := freeB_iff.1 hf2
  cases hf3 : freeB true r z (t + u - r)
  · go_enter Try.func8, Try.ntmps8
    go_wp2_with (first
      | (go_at_call 34; refine (free_any _ _ _ _ _ _ hs _).mono ?_; rintro e w1 ⟨rfl, hb⟩; obtain ⟨b0, b1, b2, b3, b4, hz, hB⟩ := kbox_keep hb ⟨b0, b1, b2, b3, b4, hz, hB⟩)
      | (go_at_call 21; refine (awake_any _).mono ?_; rintro e w5 ⟨rfl, hb⟩; obtain ⟨b0, b1, b2, b3, b4, hz, hB⟩ := kbox_keep hb ⟨b0, b1, b2, b3, b4, hz, hB⟩))
    go_ret
    exact ⟨rfl, hB⟩
  obtain ⟨_, v1, v2, v3⟩ := freeB_iff.1 hf3
  have ht : (decide (-1000 ≤ t) && decide (t ≤ 2000)) = true := by simp; omega
  have hu : (decide (-1000 ≤ u) && decide (u ≤ 2000)) = true := by simp; omega
  have hw : (decide (-1000 ≤ t + u - r) && decide (t + u - r ≤ 2000)) = true := by simp; omega
  have A1 := hid (rateA_in (Pm.rateD r z t) t ht)
  have A2 := hid (rateA_in (Pm.rateD r z u) u hu)
  have A3 := hid (rateA_in (Pm.rateU r z (t + u - r)) (t + u - r) hw)
  have C1 := hid (chkT_in t ht)
  have C2 := hid (chkT_in u hu)
  have C3 := hid (chkT_in (t + u - r) hw)
  have hp := products (r := r) z1 t3 u3 v3
  have l1 := Pm.rateD_le r z t z1
  have l2 := Pm.rateD_le r z u z1
  have l3 : Pm.rateU r z (t + u - r) ≤ 10000000000000001 := by
    have := Pm.rateD_le r z (t + u - r) z1
    rw [Pm.rateU_eq]; split <;> omega
  obtain ⟨x, hx⟩ : ∃ x, x = Pm.rateD r z t := ⟨_, rfl⟩
  obtain ⟨y, hy⟩ : ∃ y, y = Pm.rateD r z u := ⟨_, rfl⟩
  obtain ⟨c, hc⟩ : ∃ c, c = Pm.rateU r z (t + u - r) := ⟨_, rfl⟩
  rw [← hx] at l1 A1 hp
  rw [← hy] at l2 A2 hp
  rw [← hc] at l3 A3 hp
  have hcm := cmpI_le hp
  have HX := hid hx; have HY := hid hy; have HC := hid hc
  clear hx hy hc ht hu hw hp
  go_enter Try.func8, Try.ntmps8
  go_wp2_with (first
    | (go_at_call 34; refine (free_any _ _ _ _ _ _ hs _).mono ?_; rintro e w1 ⟨rfl, hb⟩; obtain ⟨b0, b1, b2, b3, b4, hz, hB⟩ := kbox_keep hb ⟨b0, b1, b2, b3, b4, hz, hB⟩)
    | (go_at_call 27; refine (lRate_any _ _ _ _ _ _ hs _).mono ?_; rintro e w2 ⟨rfl, hb⟩; obtain ⟨b0, b1, b2, b3, b4, hz, hB⟩ := kbox_keep hb ⟨b0, b1, b2, b3, b4, hz, hB⟩; rw [hv]; first | rw [← HX.out, A1.out, C1.out] | rw [← HY.out, A2.out, C2.out])
    | (go_at_call 29; refine (lRateUp_any _ _ _ _ _ _ hs _).mono ?_; rintro e w2 ⟨rfl, hb⟩; obtain ⟨b0, b1, b2, b3, b4, hz, hB⟩ := kbox_keep hb ⟨b0, b1, b2, b3, b4, hz, hB⟩; rw [hv]; rw [← HC.out, A3.out, C3.out]))
  clear b0 b1 b2 b3 b4
  refine (of_any x _ (by omega)).mono ?_
  rintro e q1 ⟨p1, rfl, h1, hb1⟩
  have H1 := hid h1.reads; clear h1
  go_wp2_with fail
  refine (of_any y _ (by omega)).mono ?_
  rintro e q2 ⟨p2, rfl, h2, hb2⟩
  have H2 := hid h2.reads; clear h2
  have H1' := hid (H1.out.keep hb2); clear H1
  have B2 := hid ((hB.trans (hb1.mono hB.size)).trans (hb2.mono (Nat.le_trans hB.size hb1.size))); clear hb1 hb2
  go_wp2_with fail
  refine (wtimes_any p1 p2 x y _ H1'.out H2.out (one_room (by omega)) (one_room (by omega))).mono ?_
  rintro e q3 ⟨p3, rfl, h3, hb3⟩
  have H3 := hid h3.reads; clear h3 H1' H2
  have B3 := hid (B2.out.trans (hb3.mono B2.out.size)); clear B2 hb3
  go_wp2_with fail
  refine (of_any c _ (by omega)).mono ?_
  rintro e q4 ⟨p4, rfl, h4, hb4⟩
  have H4 := hid h4.reads; clear h4
  have H3' := hid (H3.out.keep hb4); clear H3
  have B4 := hid (B3.out.trans (hb4.mono B3.out.size)); clear B3 hb4
  go_wp2_with fail
  refine (of_any 1000000 _ (by omega)).mono ?_
  rintro e q5 ⟨p5, rfl, h5, hb5⟩
  have H5 := hid h5.reads; clear h5
  have H4' := hid (H4.out.keep hb5); clear H4
  have H3 := hid (H3'.out.keep hb5); clear H3'
  have B5 := hid (B4.out.trans (hb5.mono B4.out.size)); clear B4 hb5
  go_wp2_with fail
  refine (wtimes_any p4 p5 c 1000000 _ H4'.out H5.out (one_room (by omega)) (one_room (by omega))).mono ?_
  rintro e q6 ⟨p6, rfl, h6, hb6⟩
  have H6 := hid h6.reads; clear h6 H4' H5
  have H3' := hid (H3.out.keep hb6); clear H3
  have B6 := hid (B5.out.trans (hb6.mono B5.out.size)); clear B5 hb6
  go_wp2_with fail
  refine (cmp_any p3 p6 (x * y) (c * 1000000) _ H3'.out H6.out (mul_room (by omega) (by omega)) (mul_room (by omega) (by omega))).mono ?_
  rintro e q7 ⟨rfl, n7, rfl⟩
  have B7 := hid (bdrewN (n := n7) B6.out); clear B6
  go_wp2_with fail
  refine (awake_any _).mono ?_
  rintro e q8 ⟨rfl, hb8⟩
  go_wp2_with fail
  go_ret
  exact ⟨rfl, B7.out.trans (hb8.mono B7.out.size)⟩
set_option maxRecDepth 100000 in
theorem lethalProducts_lifted (os : Os) (started : os.Started) (H : Type) (enc : TypeId × Value → H) :
    ReturnsInHanded {} Try.checked os 8 .any (Rows.lethalProductsSpec.pre6 enc Try.prog Try.f8 Rows.lethalProductsRow.domain false) (Rows.lethalProductsSpec.post enc Try.prog Try.f8 false true false false) := by
  refine returnsInHanded_of_change (C := Try.checked) own started (by kernel_rfl) Try.func8
    (ChangeSpec.witness6 (enc := enc) (C := Try.checked) false ⟨#[], #[.agg #[.string ⟨#[]⟩, .int .i64 0, .int .i64 0, .int .i64 0, .int .i64 0], .int .i64 0, .int .i64 0], []⟩ 8 (by kernel_rfl) (by kernel_rfl) (by kernel_rfl) (by kernel_rfl)) ?_
  intro W base args ds gs before hval0 hW hcnd _
  have hval : ∀ (j : Nat) t v, Try.f8.params[j]? = some t → args[j]? = some v → Value.okWide Try.prog W .any base t v := hval0
  have hW' := hW
  obtain ⟨p, q, hA0, hV, rfl, hfz, hnd⟩ := hW
  have hA : DataW.TrodAll enc Try.prog W 0 (fun _ => true) true Try.f8.params.toList args.toList ds p := hA0
  rw [Try.params8] at hA hval
  obtain ⟨v0, vs0, d0, ds0, p0, q0, hargs, rfl, rfl, h0, r0⟩ := trodAll_cons hA
  obtain ⟨v1, vs1, d1, ds1, p1, q1, rfl, rfl, rfl, h1, r1⟩ := trodAll_cons r0
  obtain ⟨v2, vs2, d2, ds2, p2, q2, rfl, rfl, rfl, h2, r2⟩ := trodAll_cons r1
  obtain ⟨rfl, rfl, rfl⟩ := trodAll_nil r2
  obtain rfl : args = #[v0, v1, v2] := by cases args; simp_all
  obtain ⟨rfl, rfl⟩ := trodVars_none hV
  have k0 := h0
  have lt0 : ∀ x ∈ p0, x.block < W.heap.size := by obtain ⟨m, hm⟩ := k0; exact DataW.trod_lt m _ _ _ hm
  obtain ⟨s0, kr0, kz0, kd0, kg0, rfl, ws0⟩ := open_killer (hval 0 23 v0 rfl rfl) h0
  have k1 := h1
  have lt1 : ∀ x ∈ p1, x.block < W.heap.size := by obtain ⟨m, hm⟩ := k1; exact DataW.trod_lt m _ _ _ hm
  obtain ⟨a1, rfl, _, _, w1⟩ := open_int Try.underlying3 (hval 1 3 v1 rfl rfl) h1
  have k2 := h2
  have lt2 : ∀ x ∈ p2, x.block < W.heap.size := by obtain ⟨m, hm⟩ := k2; exact DataW.trod_lt m _ _ _ hm
  obtain ⟨a2, rfl, _, _, w2⟩ := open_int Try.underlying3 (hval 2 3 v2 rfl rfl) h2
  clear hA0 hval0
  refine (products_walk s0 kr0 kz0 kd0 kg0 a1 a2 W ws0 w1 w2).mono fun e W' ⟨he, bel⟩ => ?_
  subst he
  exact ⟨_, rfl, _, _, _, [], _, [], hW', trodAll_mk1 (shut_bool Try.underlying4 _), (trodAll_cons_mk (Below.trod laidOut (by kernel_rfl) (of_decide_eq_true (by kernel_rfl)) k0 bel lt0) (trodAll_cons_mk (Below.trod laidOut (by kernel_rfl) (of_decide_eq_true (by kernel_rfl)) k1 bel lt1) (trodAll_cons_mk (Below.trod laidOut (by kernel_rfl) (of_decide_eq_true (by kernel_rfl)) k2 bel lt2) trodAll_mk0))), rfl, bel.frame _, fun h => by cases h⟩
theorem lethalProducts_holds : Rows.LethalProductsSaid :=
  OpenClaim.holds_of_wide 8 Try.f8 rfl rfl rfl rfl rfl rfl rfl ⟨rfl, rfl, rfl, rfl, rfl⟩ rfl rfl rfl rfl rfl (by kernel_rfl) Try.func8 (by kernel_rfl)
    (of_decide_eq_true (by kernel_rfl)) (by unfold Func.isWrapper; first | (rw [if_pos (by decide +kernel)]; kernel_rfl) | (rw [if_neg (by decide +kernel)]; exact ⟨rfl, rfl⟩))
    (fun os started H enc _ => lethalProducts_lifted os started H enc)
#print axioms lethalProducts_holds
end Go.Proofs.Ytfcngnoelmlakaa
