/- LethalRates: for every killer and temperature the law returns true. No conditions. -/
import Derived.Test.YtfcngnoelmlakaaFr
import Derived.Test.YtfcngnoelmlakaaWe
namespace Go.Proofs.Ytfcngnoelmlakaa
open Go.ChangeShapes Go.WideShapes Go.ChangeAt Go.RowKit Go.Joins Go.Deep
open Go.ChangeMaps (open_string shut_string)

theorem rate_updown (v : Bool) (r z t : Int) : rateA v (Pm.rateU r z t) t = rateA v (Pm.rateD r z t) t ∨ rateA v (Pm.rateU r z t) t = rateA v (Pm.rateD r z t) t + 1 := by
  unfold rateA
  cases h : (v && (decide (-1000 ≤ t) && decide (t ≤ 2000)))
  · exact .inl rfl
  · simp only [if_true]
    rw [Pm.rateU_eq]
    split
    · exact .inl rfl
    · exact .inr rfl
theorem rate_small (v : Bool) (r z t : Int) (hz : v = true → 1 ≤ z) : 0 ≤ rateA v (Pm.rateD r z t) t ∧ rateA v (Pm.rateD r z t) t ≤ 10000000000000000 := by
  unfold rateA
  cases v
  · exact ⟨Int.le_refl _, by show (0 : Int) ≤ 10000000000000000; omega⟩
  · have := Pm.rateD_le r z t (hz rfl)
    split <;> omega

set_option maxHeartbeats 4000000 in
theorem rates_walk (s : ByteArray) (r z d g : Int) (t : Int) (w : World) (hs : s.size ≤ maxLen) (_ht : (Lit.int .i64 t).wf = true) :
    Calls Try.prog 5 #[.agg #[.string s, .int .i64 r, .int .i64 z, .int .i64 d, .int .i64 g], .int .i64 t] w fun e w' => e = .returned (.bool true) ∧ Below w.heap.size w w' := by
  obtain ⟨b0, b1, b2, b3, b4, hz, hB⟩ := box5_below (Below.refl _ (w.alloc (.cells #[.string s, .int .i64 r, .int .i64 z, .int .i64 d, .int .i64 g] 23)))
  obtain ⟨x, hx⟩ : ∃ x, x = rateA (validB s.data.toList r z d g) (Pm.rateD r z t) t := ⟨_, rfl⟩
  obtain ⟨y, hy⟩ : ∃ y, y = rateA (validB s.data.toList r z d g) (Pm.rateU r z t) t := ⟨_, rfl⟩
  obtain ⟨c, hc⟩ : ∃ c, c = chkT (validB s.data.toList r z d g) t := ⟨_, rfl⟩
  have hud := rate_updown (validB s.data.toList r z d g) r z t
  have hsm := rate_small (validB s.data.toList r z d g) r z t (fun h => (validB_iff.1 h).2.2.1.1)
  rw [← hx, ← hy] at hud
  rw [← hx] at hsm
  obtain ⟨x1, x2⟩ := hsm
  have HX := hid hx; have HY := hid hy; have HC := hid hc
  clear hx hy hc
  by_cases hxy : y = x
  · subst hxy
    go_enter Try.func5, Try.ntmps5
    go_wp2_with (first
      | (go_at_call 27; refine (lRate_any _ _ _ _ _ _ hs _).mono ?_; rintro e w1 ⟨rfl, hb⟩; obtain ⟨b0, b1, b2, b3, b4, hz, hB⟩ := kbox_keep hb ⟨b0, b1, b2, b3, b4, hz, hB⟩; rw [← HX.out, ← HC.out])
      | (go_at_call 28; refine (rRate_any _ _ _ _ _ _ hs _).mono ?_; rintro e w1 ⟨rfl, hb⟩; obtain ⟨b0, b1, b2, b3, b4, hz, hB⟩ := kbox_keep hb ⟨b0, b1, b2, b3, b4, hz, hB⟩; rw [← HX.out, ← HC.out])
      | (go_at_call 29; refine (lRateUp_any _ _ _ _ _ _ hs _).mono ?_; rintro e w1 ⟨rfl, hb⟩; obtain ⟨b0, b1, b2, b3, b4, hz, hB⟩ := kbox_keep hb ⟨b0, b1, b2, b3, b4, hz, hB⟩; rw [← HY.out, ← HC.out])
      | (go_at_call 30; refine (rRateUp_any _ _ _ _ _ _ hs _).mono ?_; rintro e w1 ⟨rfl, hb⟩; obtain ⟨b0, b1, b2, b3, b4, hz, hB⟩ := kbox_keep hb ⟨b0, b1, b2, b3, b4, hz, hB⟩; rw [← HY.out, ← HC.out])
      | (go_at_call 21; refine (awake_any _).mono ?_; rintro e w5 ⟨rfl, hb⟩; obtain ⟨b0, b1, b2, b3, b4, hz, hB⟩ := kbox_keep hb ⟨b0, b1, b2, b3, b4, hz, hB⟩))
    go_ret
    exact ⟨rfl, hB⟩
  · obtain rfl : y = x + 1 := by omega
    have hb1 : (x + 1 == x) = false := by simp; omega
    clear hud
    go_enter Try.func5, Try.ntmps5
    go_wp2_with (first
      | (go_at_call 27; refine (lRate_any _ _ _ _ _ _ hs _).mono ?_; rintro e w1 ⟨rfl, hb⟩; obtain ⟨b0, b1, b2, b3, b4, hz, hB⟩ := kbox_keep hb ⟨b0, b1, b2, b3, b4, hz, hB⟩; rw [← HX.out, ← HC.out])
      | (go_at_call 28; refine (rRate_any _ _ _ _ _ _ hs _).mono ?_; rintro e w1 ⟨rfl, hb⟩; obtain ⟨b0, b1, b2, b3, b4, hz, hB⟩ := kbox_keep hb ⟨b0, b1, b2, b3, b4, hz, hB⟩; rw [← HX.out, ← HC.out])
      | (go_at_call 29; refine (lRateUp_any _ _ _ _ _ _ hs _).mono ?_; rintro e w1 ⟨rfl, hb⟩; obtain ⟨b0, b1, b2, b3, b4, hz, hB⟩ := kbox_keep hb ⟨b0, b1, b2, b3, b4, hz, hB⟩; rw [← HY.out, ← HC.out])
      | (go_at_call 30; refine (rRateUp_any _ _ _ _ _ _ hs _).mono ?_; rintro e w1 ⟨rfl, hb⟩; obtain ⟨b0, b1, b2, b3, b4, hz, hB⟩ := kbox_keep hb ⟨b0, b1, b2, b3, b4, hz, hB⟩; rw [← HY.out, ← HC.out])
      | (go_at_call 21; refine (awake_any _).mono ?_; rintro e w5 ⟨rfl, hb⟩; obtain ⟨b0, b1, b2, b3, b4, hz, hB⟩ := kbox_keep hb ⟨b0, b1, b2, b3, b4, hz, hB⟩))
    go_ret
    exact ⟨rfl, hB⟩
set_option maxRecDepth 100000 in
theorem lethalRates_lifted (os : Os) (started : os.Started) (H : Type) (enc : TypeId × Value → H) :
    ReturnsInHanded {} Try.checked os 5 .any (Rows.lethalRatesSpec.pre6 enc Try.prog Try.f5 Rows.lethalRatesRow.domain false) (Rows.lethalRatesSpec.post enc Try.prog Try.f5 false true false false) := by
  refine returnsInHanded_of_change (C := Try.checked) own started (by kernel_rfl) Try.func5
    (ChangeSpec.witness6 (enc := enc) (C := Try.checked) false ⟨#[], #[.agg #[.string ⟨#[]⟩, .int .i64 0, .int .i64 0, .int .i64 0, .int .i64 0], .int .i64 0], []⟩ 8 (by kernel_rfl) (by kernel_rfl) (by kernel_rfl) (by kernel_rfl)) ?_
  intro W base args ds gs before hval0 hW hcnd _
  have hval : ∀ (j : Nat) t v, Try.f5.params[j]? = some t → args[j]? = some v → Value.okWide Try.prog W .any base t v := hval0
  have hW' := hW
  obtain ⟨p, q, hA0, hV, rfl, hfz, hnd⟩ := hW
  have hA : DataW.TrodAll enc Try.prog W 0 (fun _ => true) true Try.f5.params.toList args.toList ds p := hA0
  rw [Try.params5] at hA hval
  obtain ⟨v0, vs0, d0, ds0, p0, q0, hargs, rfl, rfl, h0, r0⟩ := trodAll_cons hA
  obtain ⟨v1, vs1, d1, ds1, p1, q1, rfl, rfl, rfl, h1, r1⟩ := trodAll_cons r0
  obtain ⟨rfl, rfl, rfl⟩ := trodAll_nil r1
  obtain rfl : args = #[v0, v1] := by cases args; simp_all
  obtain ⟨rfl, rfl⟩ := trodVars_none hV
  have k0 := h0
  have lt0 : ∀ x ∈ p0, x.block < W.heap.size := by obtain ⟨m, hm⟩ := k0; exact DataW.trod_lt m _ _ _ hm
  obtain ⟨s0, kr0, kz0, kd0, kg0, rfl, ws0⟩ := open_killer (hval 0 23 v0 rfl rfl) h0
  have k1 := h1
  have lt1 : ∀ x ∈ p1, x.block < W.heap.size := by obtain ⟨m, hm⟩ := k1; exact DataW.trod_lt m _ _ _ hm
  obtain ⟨a1, rfl, _, _, w1⟩ := open_int Try.underlying3 (hval 1 3 v1 rfl rfl) h1
  clear hA0 hval0
  refine (rates_walk s0 kr0 kz0 kd0 kg0 a1 W ws0 w1).mono fun e W' ⟨he, bel⟩ => ?_
  subst he
  exact ⟨_, rfl, _, _, _, [], _, [], hW', trodAll_mk1 (shut_bool Try.underlying4 _), (trodAll_cons_mk (Below.trod laidOut (by kernel_rfl) (of_decide_eq_true (by kernel_rfl)) k0 bel lt0) (trodAll_cons_mk (Below.trod laidOut (by kernel_rfl) (of_decide_eq_true (by kernel_rfl)) k1 bel lt1) trodAll_mk0)), rfl, bel.frame _, fun h => by cases h⟩
theorem lethalRates_holds : Rows.LethalRatesSaid :=
  OpenClaim.holds_of_wide 5 Try.f5 rfl rfl rfl rfl rfl rfl rfl ⟨rfl, rfl, rfl, rfl, rfl⟩ rfl rfl rfl rfl rfl (by kernel_rfl) Try.func5 (by kernel_rfl)
    (of_decide_eq_true (by kernel_rfl)) (by unfold Func.isWrapper; first | (rw [if_pos (by decide +kernel)]; kernel_rfl) | (rw [if_neg (by decide +kernel)]; exact ⟨rfl, rfl⟩))
    (fun os started H enc _ => lethalRates_lifted os started H enc)
#print axioms lethalRates_holds
end Go.Proofs.Ytfcngnoelmlakaa
