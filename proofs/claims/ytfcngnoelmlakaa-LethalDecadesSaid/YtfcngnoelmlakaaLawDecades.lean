/- LethalDecades: for every killer and temperature the law returns true. No conditions. -/
import Derived.Test.YtfcngnoelmlakaaLf
namespace Go.Proofs.Ytfcngnoelmlakaa
open Go.ChangeShapes Go.WideShapes Go.ChangeAt Go.RowKit Go.Joins Go.Deep
open Go.ChangeMaps (open_string shut_string)

set_option maxHeartbeats 4000000 in
theorem decades_walk (s : ByteArray) (r z d g : Int) (t : Int) (w : World) (hs : s.size ≤ maxLen) (_ht : (Lit.int .i64 t).wf = true) :
    Calls Try.prog 7 #[.agg #[.string s, .int .i64 r, .int .i64 z, .int .i64 d, .int .i64 g], .int .i64 t] w fun e w' => e = .returned (.bool true) ∧ Below w.heap.size w w' := by
  obtain ⟨b0, b1, b2, b3, b4, hz, hB⟩ := box5_below (Below.refl _ (w.alloc (.cells #[.string s, .int .i64 r, .int .i64 z, .int .i64 d, .int .i64 g] 23)))
  cases hf : freeB (validB s.data.toList r z d g) r z t
  · go_enter Try.func7, Try.ntmps7
    go_wp2_with (first
      | (go_at_call 34; refine (free_any _ _ _ _ _ _ hs _).mono ?_; rintro e w1 ⟨rfl, hb⟩; obtain ⟨b0, b1, b2, b3, b4, hz, hB⟩ := kbox_keep hb ⟨b0, b1, b2, b3, b4, hz, hB⟩)
      | (go_at_call 21; refine (awake_any _).mono ?_; rintro e w5 ⟨rfl, hb⟩; obtain ⟨b0, b1, b2, b3, b4, hz, hB⟩ := kbox_keep hb ⟨b0, b1, b2, b3, b4, hz, hB⟩))
    go_ret
    exact ⟨rfl, hB⟩
  obtain ⟨hv, t1, t2, t3⟩ := freeB_iff.1 hf
  obtain ⟨_, ⟨r1, r2⟩, ⟨z1, z2⟩, _, _⟩ := validB_iff.1 hv
  rw [hv] at hf
  cases hf2 : freeB true r z (t + z)
  · go_enter Try.func7, Try.ntmps7
    go_wp2_with (first
      | (go_at_call 34; refine (free_any _ _ _ _ _ _ hs _).mono ?_; rintro e w1 ⟨rfl, hb⟩; obtain ⟨b0, b1, b2, b3, b4, hz, hB⟩ := kbox_keep hb ⟨b0, b1, b2, b3, b4, hz, hB⟩)
      | (go_at_call 21; refine (awake_any _).mono ?_; rintro e w5 ⟨rfl, hb⟩; obtain ⟨b0, b1, b2, b3, b4, hz, hB⟩ := kbox_keep hb ⟨b0, b1, b2, b3, b4, hz, hB⟩))
    go_ret
    exact ⟨rfl, hB⟩
  obtain ⟨_, u1, u2, u3⟩ := freeB_iff.1 hf2
  have ht : (decide (-1000 ≤ t) && decide (t ≤ 2000)) = true := by simp; omega
  have hu : (decide (-1000 ≤ t + z) && decide (t + z ≤ 2000)) = true := by simp; omega
  have A1 := hid (rateA_in (Pm.rateD r z t) t ht)
  have A2 := hid (rateA_in (Pm.rateD r z (t + z)) (t + z) hu)
  have C1 := hid (chkT_in t ht)
  have C2 := hid (chkT_in (t + z) hu)
  obtain ⟨l1, l2⟩ := decades (r := r) z1 u3
  have l3 := Pm.rateD_le r z t z1
  obtain ⟨x, hx⟩ : ∃ x, x = Pm.rateD r z t := ⟨_, rfl⟩
  obtain ⟨y, hy⟩ : ∃ y, y = Pm.rateD r z (t + z) := ⟨_, rfl⟩
  rw [← hx] at l1 l2 l3 A1
  rw [← hy] at l1 l2 A2
  have d1 : decide (10 * (x : Int) ≤ y) = true := by simp; omega
  have d2 : decide ((y : Int) ≤ 10 * x + 9) = true := by simp; omega
  have HX := hid hx
  have HY := hid hy
  clear hx hy ht hu
  go_enter Try.func7, Try.ntmps7
  go_wp2_with (first
    | (go_at_call 34; refine (free_any _ _ _ _ _ _ hs _).mono ?_; rintro e w1 ⟨rfl, hb⟩; obtain ⟨b0, b1, b2, b3, b4, hz, hB⟩ := kbox_keep hb ⟨b0, b1, b2, b3, b4, hz, hB⟩)
    | (go_at_call 27; refine (lRate_any _ _ _ _ _ _ hs _).mono ?_; rintro e w2 ⟨rfl, hb⟩; obtain ⟨b0, b1, b2, b3, b4, hz, hB⟩ := kbox_keep hb ⟨b0, b1, b2, b3, b4, hz, hB⟩; rw [hv]; first | rw [← HX.out, A1.out, C1.out] | rw [← HY.out, A2.out, C2.out])
    | (go_at_call 21; refine (awake_any _).mono ?_; rintro e w5 ⟨rfl, hb⟩; obtain ⟨b0, b1, b2, b3, b4, hz, hB⟩ := kbox_keep hb ⟨b0, b1, b2, b3, b4, hz, hB⟩))
  go_ret
  exact ⟨rfl, hB⟩
set_option maxRecDepth 100000 in
theorem lethalDecades_lifted (os : Os) (started : os.Started) (H : Type) (enc : TypeId × Value → H) :
    ReturnsInHanded {} Try.checked os 7 .any (Rows.lethalDecadesSpec.pre6 enc Try.prog Try.f7 Rows.lethalDecadesRow.domain false) (Rows.lethalDecadesSpec.post enc Try.prog Try.f7 false true false false) := by
  refine returnsInHanded_of_change (C := Try.checked) own started (by kernel_rfl) Try.func7
    (ChangeSpec.witness6 (enc := enc) (C := Try.checked) false ⟨#[], #[.agg #[.string ⟨#[]⟩, .int .i64 0, .int .i64 0, .int .i64 0, .int .i64 0], .int .i64 0], []⟩ 8 (by kernel_rfl) (by kernel_rfl) (by kernel_rfl) (by kernel_rfl)) ?_
  intro W base args ds gs before hval0 hW hcnd _
  have hval : ∀ (j : Nat) t v, Try.f7.params[j]? = some t → args[j]? = some v → Value.okWide Try.prog W .any base t v := hval0
  have hW' := hW
  obtain ⟨p, q, hA0, hV, rfl, hfz, hnd⟩ := hW
  have hA : DataW.TrodAll enc Try.prog W 0 (fun _ => true) true Try.f7.params.toList args.toList ds p := hA0
  rw [Try.params7] at hA hval
  obtain ⟨v0, vs0, d0, ds0, p0, q0, hargs, rfl, rfl, h0, r0⟩ := trodAll_cons hA
  obtain ⟨v1, vs1, d1, ds1, p1, q1, rfl, rfl, rfl, h1, r1⟩ := trodAll_cons r0
  obtain ⟨rfl, rfl, rfl⟩ := trodAll_nil r1
  obtain rfl : args = #[v0, v1] := by cases args; simp_all
  obtain ⟨rfl, rfl⟩ := trodVars_none hV
  have k0 := h0
  have lt0 : ∀ x ∈ p0, x.block < W.heap.size := by obtain ⟨m, hm⟩ := k0; exact DataW.trod_lt m _ _ _ hm
  obtain ⟨s0, kr0, kz0, kd0, kg0, rfl, ws0⟩ := open_killer (hval 0 23 v0 rfl rfl) h0
  have k1 := h1
  have lt1 : ∀ x ∈ p1, x.block < W.heap.size := by obtain ⟨m, hm⟩ := k1; exact DataW.trod_lt m _ _ _ hm
  obtain ⟨a1, rfl, _, _, w1⟩ := open_int Try.underlying3 (hval 1 3 v1 rfl rfl) h1
  clear hA0 hval0
  refine (decades_walk s0 kr0 kz0 kd0 kg0 a1 W ws0 w1).mono fun e W' ⟨he, bel⟩ => ?_
  subst he
  exact ⟨_, rfl, _, _, _, [], _, [], hW', trodAll_mk1 (shut_bool Try.underlying4 _), (trodAll_cons_mk (Below.trod laidOut (by kernel_rfl) (of_decide_eq_true (by kernel_rfl)) k0 bel lt0) (trodAll_cons_mk (Below.trod laidOut (by kernel_rfl) (of_decide_eq_true (by kernel_rfl)) k1 bel lt1) trodAll_mk0)), rfl, bel.frame _, fun h => by cases h⟩
theorem lethalDecades_holds : Rows.LethalDecadesSaid :=
  OpenClaim.holds_of_wide 7 Try.f7 rfl rfl rfl rfl rfl rfl rfl ⟨rfl, rfl, rfl, rfl, rfl⟩ rfl rfl rfl rfl rfl (by kernel_rfl) Try.func7 (by kernel_rfl)
    (of_decide_eq_true (by kernel_rfl)) (by unfold Func.isWrapper; first | (rw [if_pos (by decide +kernel)]; kernel_rfl) | (rw [if_neg (by decide +kernel)]; exact ⟨rfl, rfl⟩))
    (fun os started H enc _ => lethalDecades_lifted os started H enc)
#print axioms lethalDecades_holds
end Go.Proofs.Ytfcngnoelmlakaa
