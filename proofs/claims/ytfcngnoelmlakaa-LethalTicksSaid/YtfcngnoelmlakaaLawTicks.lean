/- LethalTicks: for every killer and two numbers the law returns true. No conditions. -/
import Derived.Test.YtfcngnoelmlakaaTa
import Derived.Test.YtfcngnoelmlakaaFr
namespace Go.Proofs.Ytfcngnoelmlakaa
open Go.ChangeShapes Go.WideShapes Go.ChangeAt Go.RowKit Go.Joins Go.Deep
open Go.ChangeMaps (open_string shut_string)

theorem of_int (n : Int) (m : Nat) (w : World) (h0 : Hid ((m : Int) = n)) (hn : n < 9000000000000000000) : Calls Try.prog 25 #[.int .i64 n] w (WhP m w) := by
  have h := h0.out
  subst h
  exact of_any m w (by omega)
theorem cmpI_ge {x y : Nat} (h : y ≤ x) : decide (0 ≤ cmpI x y) = true := by
  unfold cmpI
  rw [if_neg (by omega)]
  split <;> decide
theorem cmpI_lt {x y : Nat} (h : x < y) : decide (cmpI x y < 0) = true := by
  unfold cmpI; rw [if_pos h]; decide
theorem tmul_room {x y : Nat} (h1 : x ≤ 10000000000000001) (h2 : y ≤ 1000000000000000000) : x * y < 1000000 ^ 1000 :=
  Nat.lt_of_le_of_lt (Nat.mul_le_mul h1 h2) (by decide +kernel)
theorem tone_room {x : Nat} (h1 : x ≤ 1000000000000000000) : x < 1000000 ^ 1000 :=
  Nat.lt_of_le_of_lt h1 (by decide +kernel)
theorem ticks_math {x : Nat} {f : Int} (hf : 1 ≤ f) (hx : 1 ≤ x) :
    1 ≤ (f + x - 1) / x ∧ (f + x - 1) / x ≤ f ∧ f.toNat ≤ x * ((f + x - 1) / (x : Int)).toNat ∧ x * ((f + x - 1) / (x : Int) - 1).toNat < f.toNat := by
  obtain ⟨F, rfl⟩ := Int.eq_ofNat_of_zero_le (show 0 ≤ f by omega)
  have e : ((F : Int) + x - 1) / x = (((F + x - 1) / x : Nat) : Int) := by
    rw [Int.natCast_ediv]; congr 1; omega
  rw [e]
  have h1 : 1 ≤ (F + x - 1) / x := Nat.div_pos (by omega) (by omega)
  have h2 := Nat.div_mul_le_self (F + x - 1) x
  have h3 := Nat.lt_div_mul_add (a := F + x - 1) (b := x) (by omega)
  obtain ⟨m, hm⟩ : ∃ m, (F + x - 1) / x = m + 1 := ⟨_, (Nat.succ_pred_eq_of_pos h1).symm⟩
  rw [hm] at h2 h3 ⊢
  have e2 : ((m + 1 : Nat) : Int) - 1 = (m : Nat) := by omega
  rw [e2, Int.toNat_natCast, Int.toNat_natCast, Int.toNat_natCast]
  have e3 : x * (m + 1) = x * m + x := Nat.mul_succ _ _
  have e4 : (m + 1) * x = x * m + x := by rw [Nat.mul_comm]; exact e3
  have e5 : m ≤ x * m := Nat.le_mul_of_pos_left _ (by omega)
  refine ⟨by omega, by omega, by omega, by omega⟩

set_option maxHeartbeats 8000000 in
theorem ticks_walk (s : ByteArray) (r z d g : Int) (t f : Int) (w : World) (hs : s.size ≤ maxLen) (_ht : (Lit.int .i64 t).wf = true) (_hf : (Lit.int .i64 f).wf = true) :
    Calls Try.prog 12 #[.agg #[.string s, .int .i64 r, .int .i64 z, .int .i64 d, .int .i64 g], .int .i64 t, .int .i64 f] w fun e w' => e = .returned (.bool true) ∧ Below w.heap.size w w' := by
  obtain ⟨b0, b1, b2, b3, b4, hz, hB⟩ := box5_below (Below.refl _ (w.alloc (.cells #[.string s, .int .i64 r, .int .i64 z, .int .i64 d, .int .i64 g] 23)))
  obtain ⟨a, ha⟩ : ∃ a, a = tickV (validB s.data.toList r z d g) (Pm.rateD r z t) t f := ⟨_, rfl⟩
  obtain ⟨b, hbb⟩ : ∃ b, b = tickE (validB s.data.toList r z d g) (Pm.rateD r z t) t f := ⟨_, rfl⟩
  by_cases hz0 : b ≠ 0 ∨ a = 0
  · have HA := hid ha; have HBB := hid hbb; clear ha hbb
    rcases Decidable.em (b = 0) with h | h
    · obtain rfl : a = 0 := by omega
      subst h
      go_enter Try.func12, Try.ntmps12
      go_wp2_with (first
        | (go_at_call 49; refine (lTicks_any _ _ _ _ _ _ hs _ _).mono ?_; rintro e w1 ⟨rfl, hb⟩; obtain ⟨b0, b1, b2, b3, b4, hz, hB⟩ := kbox_keep hb ⟨b0, b1, b2, b3, b4, hz, hB⟩; rw [← HA.out, ← HBB.out])
        | (go_at_call 50; refine (rTicks_any _ _ _ _ _ _ hs _ _).mono ?_; rintro e w1 ⟨rfl, hb⟩; obtain ⟨b0, b1, b2, b3, b4, hz, hB⟩ := kbox_keep hb ⟨b0, b1, b2, b3, b4, hz, hB⟩; rw [← HA.out, ← HBB.out])
        | (go_at_call 21; refine (awake_any _).mono ?_; rintro e w5 ⟨rfl, hb⟩; obtain ⟨b0, b1, b2, b3, b4, hz, hB⟩ := kbox_keep hb ⟨b0, b1, b2, b3, b4, hz, hB⟩))
      go_ret
      exact ⟨rfl, hB⟩
    · clear hz0
      have hb0 : (b == 0) = false := by simpa using h
      go_enter Try.func12, Try.ntmps12
      go_wp2_with (first
        | (go_at_call 49; refine (lTicks_any _ _ _ _ _ _ hs _ _).mono ?_; rintro e w1 ⟨rfl, hb⟩; obtain ⟨b0, b1, b2, b3, b4, hz, hB⟩ := kbox_keep hb ⟨b0, b1, b2, b3, b4, hz, hB⟩; rw [← HA.out, ← HBB.out])
        | (go_at_call 50; refine (rTicks_any _ _ _ _ _ _ hs _ _).mono ?_; rintro e w1 ⟨rfl, hb⟩; obtain ⟨b0, b1, b2, b3, b4, hz, hB⟩ := kbox_keep hb ⟨b0, b1, b2, b3, b4, hz, hB⟩; rw [← HA.out, ← HBB.out])
        | (go_at_call 21; refine (awake_any _).mono ?_; rintro e w5 ⟨rfl, hb⟩; obtain ⟨b0, b1, b2, b3, b4, hz, hB⟩ := kbox_keep hb ⟨b0, b1, b2, b3, b4, hz, hB⟩))
      go_ret
      exact ⟨rfl, hB⟩
  have hz1 : b = 0 ∧ a ≠ 0 := by omega
  clear hz0
  obtain ⟨rfl, ha0⟩ := hz1
  rcases tick_cases (validB s.data.toList r z d g) (Pm.rateD r z t) t f with ⟨hv, hA⟩ | ⟨hv, ht, hA⟩ | ⟨hv, ht, hf, hA⟩ | ⟨hv, ht, hf, rfl, hA⟩ | ⟨hv, ht, hf, h0, hx, hA⟩ | ⟨hv, ht, hf, h0, hx, hA⟩
  · exact absurd (ha.trans hA.1) ha0
  · exact absurd (ha.trans hA.1) ha0
  · exact absurd (ha.trans hA.1) ha0
  · exact absurd (ha.trans hA.1) ha0
  · exact absurd (ha.trans hA.1) ha0
  obtain ⟨_, _, ⟨z1, z2⟩, _, _⟩ := validB_iff.1 hv
  have hle := Pm.rateD_le r z t z1
  have hf' : 0 ≤ f ∧ f ≤ 1000000000000000000 := by simpa [fInB] using hf
  obtain ⟨f1, f2⟩ := hf'
  have hq := ha.trans hA.1
  have R := hid (rateA_in (Pm.rateD r z t) t ht)
  have C := hid (chkT_in t ht)
  have HA := hid ha; have HBB := hid hbb
  obtain ⟨x, hX⟩ : ∃ x, x = Pm.rateD r z t := ⟨_, rfl⟩
  rw [← hX] at hx hle hq
  have HX := hid hX
  obtain ⟨m1, m2, m3, m4⟩ := ticks_math (x := x) (show 1 ≤ f by omega) (by omega)
  rw [← hq] at m1 m2 m3 m4
  obtain ⟨N, hN⟩ := Int.eq_ofNat_of_zero_le (show 0 ≤ a by omega)
  obtain ⟨M, hM⟩ := Int.eq_ofNat_of_zero_le (show 0 ≤ a - 1 by omega)
  obtain ⟨F, hF⟩ := Int.eq_ofNat_of_zero_le f1
  rw [hN, hF, Int.toNat_natCast, Int.toNat_natCast] at m3
  rw [hM, hF, Int.toNat_natCast, Int.toNat_natCast] at m4
  have g1 := cmpI_ge m3
  have g2 := cmpI_lt m4
  have n1 : N ≤ 1000000000000000000 := by omega
  have n2 : M ≤ 1000000000000000000 := by omega
  have n3 : F ≤ 1000000000000000000 := by omega
  have HN := hid hN.symm; have HMM := hid hM.symm; have HF := hid hF.symm
  clear hN hM hF
  clear ha hbb hA hX hq ha0 hf ht m3 m4
  go_enter Try.func12, Try.ntmps12
  go_wp2_with (first
    | (go_at_call 49; refine (lTicks_any _ _ _ _ _ _ hs _ _).mono ?_; rintro e w1 ⟨rfl, hb⟩; obtain ⟨b0, b1, b2, b3, b4, hz, hB⟩ := kbox_keep hb ⟨b0, b1, b2, b3, b4, hz, hB⟩; rw [← HA.out, ← HBB.out])
    | (go_at_call 50; refine (rTicks_any _ _ _ _ _ _ hs _ _).mono ?_; rintro e w1 ⟨rfl, hb⟩; obtain ⟨b0, b1, b2, b3, b4, hz, hB⟩ := kbox_keep hb ⟨b0, b1, b2, b3, b4, hz, hB⟩; rw [← HA.out, ← HBB.out])
    | (go_at_call 27; refine (lRate_any _ _ _ _ _ _ hs _).mono ?_; rintro e w2 ⟨rfl, hb⟩; obtain ⟨b0, b1, b2, b3, b4, hz, hB⟩ := kbox_keep hb ⟨b0, b1, b2, b3, b4, hz, hB⟩; rw [hv, R.out, C.out, ← HX.out]))
  clear b0 b1 b2 b3 b4
  refine (of_any x _ (by omega)).mono ?_
  rintro e q1 ⟨p1, rfl, h1, hb1⟩
  have H1 := hid h1.reads; clear h1
  go_wp2_with fail
  refine (of_int a N _ HN (by omega)).mono ?_
  rintro e q2 ⟨p2, rfl, h2, hb2⟩
  have H2 := hid h2.reads; clear h2
  have H1' := hid (H1.out.keep hb2); clear H1
  have B2 := hid ((hB.trans (hb1.mono hB.size)).trans (hb2.mono (Nat.le_trans hB.size hb1.size))); clear hb1 hb2
  go_wp2_with fail
  refine (wtimes_any p1 p2 x N _ H1'.out H2.out (tone_room (by omega)) (tone_room (by omega))).mono ?_
  rintro e q3 ⟨p3, rfl, h3, hb3⟩
  have H3 := hid h3.reads; clear h3 H1' H2
  have B3 := hid (B2.out.trans (hb3.mono B2.out.size)); clear B2 hb3
  go_wp2_with fail
  refine (of_any x _ (by omega)).mono ?_
  rintro e q4 ⟨p4, rfl, h4, hb4⟩
  have H4 := hid h4.reads; clear h4
  have H3' := hid (H3.out.keep hb4); clear H3
  have B4 := hid (B3.out.trans (hb4.mono B3.out.size)); clear B3 hb4
  go_wp2_with fail
  refine (of_int (a - 1) M _ HMM (by omega)).mono ?_
  rintro e q5 ⟨p5, rfl, h5, hb5⟩
  have H5 := hid h5.reads; clear h5
  have H4' := hid (H4.out.keep hb5); clear H4
  have H3 := hid (H3'.out.keep hb5); clear H3'
  have B5 := hid (B4.out.trans (hb5.mono B4.out.size)); clear B4 hb5
  go_wp2_with fail
  refine (wtimes_any p4 p5 x M _ H4'.out H5.out (tone_room (by omega)) (tone_room (by omega))).mono ?_
  rintro e q6 ⟨p6, rfl, h6, hb6⟩
  have H6 := hid h6.reads; clear h6 H4' H5
  have H3' := hid (H3.out.keep hb6); clear H3
  have B6 := hid (B5.out.trans (hb6.mono B5.out.size)); clear B5 hb6
  go_wp2_with fail
  refine (of_int f F _ HF (by omega)).mono ?_
  rintro e q7 ⟨p7, rfl, h7, hb7⟩
  have H7 := hid h7.reads; clear h7
  have H3 := hid (H3'.out.keep hb7); clear H3'
  have H6' := hid (H6.out.keep hb7); clear H6
  have B7 := hid (B6.out.trans (hb7.mono B6.out.size)); clear B6 hb7
  go_wp2_with fail
  refine (cmp_any p3 p7 (x * N) F _ H3.out H7.out (tmul_room (by omega) (by omega)) (tone_room (by omega))).mono ?_
  rintro e q8 ⟨rfl, n8, rfl⟩
  have H6 := hid (H6'.out.keep (bdrewN (n := n8) (Below.refl _ _))); clear H6'
  have B8 := hid (bdrewN (n := n8) B7.out); clear B7
  go_wp2_with fail
  refine (of_int f F _ HF (by omega)).mono ?_
  rintro e q9 ⟨p9, rfl, h9, hb9⟩
  have H9 := hid h9.reads; clear h9
  have H6' := hid (H6.out.keep hb9); clear H6
  have B9 := hid (B8.out.trans (hb9.mono B8.out.size)); clear B8 hb9
  go_wp2_with fail
  refine (cmp_any p6 p9 (x * M) F _ H6'.out H9.out (tmul_room (by omega) (by omega)) (tone_room (by omega))).mono ?_
  rintro e q10 ⟨rfl, n10, rfl⟩
  have B10 := hid (bdrewN (n := n10) B9.out); clear B9
  go_wp2_with fail
  refine (awake_any _).mono ?_
  rintro e q11 ⟨rfl, hb11⟩
  go_wp2_with fail
  go_ret
  exact ⟨rfl, B10.out.trans (hb11.mono B10.out.size)⟩
set_option maxRecDepth 100000 in
theorem lethalTicks_lifted (os : Os) (started : os.Started) (H : Type) (enc : TypeId × Value → H) :
    ReturnsInHanded {} Try.checked os 12 .any (Rows.lethalTicksSpec.pre6 enc Try.prog Try.f12 Rows.lethalTicksRow.domain false) (Rows.lethalTicksSpec.post enc Try.prog Try.f12 false true false false) := by
  refine returnsInHanded_of_change (C := Try.checked) own started (by kernel_rfl) Try.func12
    (ChangeSpec.witness6 (enc := enc) (C := Try.checked) false ⟨#[], #[.agg #[.string ⟨#[]⟩, .int .i64 0, .int .i64 0, .int .i64 0, .int .i64 0], .int .i64 0, .int .i64 0], []⟩ 8 (by kernel_rfl) (by kernel_rfl) (by kernel_rfl) (by kernel_rfl)) ?_
  intro W base args ds gs before hval0 hW hcnd _
  have hval : ∀ (j : Nat) t v, Try.f12.params[j]? = some t → args[j]? = some v → Value.okWide Try.prog W .any base t v := hval0
  have hW' := hW
  obtain ⟨p, q, hA0, hV, rfl, hfz, hnd⟩ := hW
  have hA : DataW.TrodAll enc Try.prog W 0 (fun _ => true) true Try.f12.params.toList args.toList ds p := hA0
  rw [Try.params12] at hA hval
  obtain ⟨v0, vs0, d0, ds0, p0, q0, hargs, rfl, rfl, h0, r0⟩ := trodAll_cons hA
  obtain ⟨v1, vs1, d1, ds1, p1, q1, rfl, rfl, rfl, h1, r1⟩ := trodAll_cons r0
  obtain ⟨v2, vs2, d2, ds2, p2, q2, rfl, rfl, rfl, h2, r2⟩ := trodAll_cons r1
  obtain ⟨rfl, rfl, rfl⟩ := trodAll_nil r2
  obtain rfl : args = #[v0, v1, v2] := by cases args; simp_all
  obtain ⟨rfl, rfl⟩ := trodVars_none hV
  have k0 := h0
  have lt0 : ∀ x ∈ p0, x.block < W.heap.size := by obtain ⟨m, hm⟩ := k0; exact DataW.trod_lt m _ _ _ hm
  obtain ⟨s0, kr0, kz0, kd0, kg0, rfl, ws0⟩ := open_killer (hval 0 23 v0 rfl rfl) h0
  have k1 := h1
  have lt1 : ∀ x ∈ p1, x.block < W.heap.size := by obtain ⟨m, hm⟩ := k1; exact DataW.trod_lt m _ _ _ hm
  obtain ⟨a1, rfl, _, _, w1⟩ := open_int Try.underlying3 (hval 1 3 v1 rfl rfl) h1
  have k2 := h2
  have lt2 : ∀ x ∈ p2, x.block < W.heap.size := by obtain ⟨m, hm⟩ := k2; exact DataW.trod_lt m _ _ _ hm
  obtain ⟨a2, rfl, _, _, w2⟩ := open_int Try.underlying3 (hval 2 3 v2 rfl rfl) h2
  clear hA0 hval0
  refine (ticks_walk s0 kr0 kz0 kd0 kg0 a1 a2 W ws0 w1 w2).mono fun e W' ⟨he, bel⟩ => ?_
  subst he
  exact ⟨_, rfl, _, _, _, [], _, [], hW', trodAll_mk1 (shut_bool Try.underlying4 _), (trodAll_cons_mk (Below.trod laidOut (by kernel_rfl) (of_decide_eq_true (by kernel_rfl)) k0 bel lt0) (trodAll_cons_mk (Below.trod laidOut (by kernel_rfl) (of_decide_eq_true (by kernel_rfl)) k1 bel lt1) (trodAll_cons_mk (Below.trod laidOut (by kernel_rfl) (of_decide_eq_true (by kernel_rfl)) k2 bel lt2) trodAll_mk0))), rfl, bel.frame _, fun h => by cases h⟩
theorem lethalTicks_holds : Rows.LethalTicksSaid :=
  OpenClaim.holds_of_wide 12 Try.f12 rfl rfl rfl rfl rfl rfl rfl ⟨rfl, rfl, rfl, rfl, rfl⟩ rfl rfl rfl rfl rfl (by kernel_rfl) Try.func12 (by kernel_rfl)
    (of_decide_eq_true (by kernel_rfl)) (by unfold Func.isWrapper; first | (rw [if_pos (by decide +kernel)]; kernel_rfl) | (rw [if_neg (by decide +kernel)]; exact ⟨rfl, rfl⟩))
    (fun os started H enc _ => lethalTicks_lifted os started H enc)
#print axioms lethalTicks_holds
end Go.Proofs.Ytfcngnoelmlakaa
