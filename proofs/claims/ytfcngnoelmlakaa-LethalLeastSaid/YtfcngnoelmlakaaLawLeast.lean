/- LethalLeast: for every killer and rate the law returns true. No conditions. -/
import Derived.Test.YtfcngnoelmlakaaLt
import Derived.Test.YtfcngnoelmlakaaRl
import Derived.Test.YtfcngnoelmlakaaFr
namespace Go.Proofs.Ytfcngnoelmlakaa
open Go.ChangeShapes Go.WideShapes Go.ChangeAt Go.RowKit Go.Joins Go.Deep
open Go.ChangeMaps (open_string shut_string)

set_option maxHeartbeats 8000000 in
theorem least_walk (s : ByteArray) (r z d g : Int) (q : Int) (w : World) (hs : s.size ≤ maxLen) (_hq : (Lit.int .i64 q).wf = true) :
    Calls Try.prog 13 #[.agg #[.string s, .int .i64 r, .int .i64 z, .int .i64 d, .int .i64 g], .int .i64 q] w fun e w' => e = .returned (.bool true) ∧ Below w.heap.size w w' := by
  obtain ⟨b0, b1, b2, b3, b4, hz, hB⟩ := box5_below (Below.refl _ (w.alloc (.cells #[.string s, .int .i64 r, .int .i64 z, .int .i64 d, .int .i64 g] 23)))
  rcases third (validB s.data.toList r z d g) (decide (0 ≤ q) && decide (q ≤ 10000000000000000)) with hv | ⟨hv, hq⟩ | ⟨hv, hq⟩
  · go_enter Try.func13, Try.ntmps13
    go_wp2_with (first
      | (go_at_call 51; refine (lLeast_inv _ _ _ _ _ _ hs _ hv).mono ?_; rintro e w1 ⟨rfl, hb⟩; obtain ⟨b0, b1, b2, b3, b4, hz, hB⟩ := kbox_keep hb ⟨b0, b1, b2, b3, b4, hz, hB⟩)
      | (go_at_call 52; refine (rLeast_inv _ _ _ _ _ _ hs _ hv).mono ?_; rintro e w1 ⟨rfl, hb⟩; obtain ⟨b0, b1, b2, b3, b4, hz, hB⟩ := kbox_keep hb ⟨b0, b1, b2, b3, b4, hz, hB⟩)
      | (go_at_call 21; refine (awake_any _).mono ?_; rintro e w5 ⟨rfl, hb⟩; obtain ⟨b0, b1, b2, b3, b4, hz, hB⟩ := kbox_keep hb ⟨b0, b1, b2, b3, b4, hz, hB⟩))
    go_ret
    exact ⟨rfl, hB⟩
  · go_enter Try.func13, Try.ntmps13
    go_wp2_with (first
      | (go_at_call 51; refine (lLeast_out _ _ _ _ _ _ hs _ hv hq).mono ?_; rintro e w1 ⟨rfl, hb⟩; obtain ⟨b0, b1, b2, b3, b4, hz, hB⟩ := kbox_keep hb ⟨b0, b1, b2, b3, b4, hz, hB⟩)
      | (go_at_call 52; refine (rLeast_out _ _ _ _ _ _ hs _ hv hq).mono ?_; rintro e w1 ⟨rfl, hb⟩; obtain ⟨b0, b1, b2, b3, b4, hz, hB⟩ := kbox_keep hb ⟨b0, b1, b2, b3, b4, hz, hB⟩)
      | (go_at_call 21; refine (awake_any _).mono ?_; rintro e w5 ⟨rfl, hb⟩; obtain ⟨b0, b1, b2, b3, b4, hz, hB⟩ := kbox_keep hb ⟨b0, b1, b2, b3, b4, hz, hB⟩))
    go_ret
    exact ⟨rfl, hB⟩
  obtain ⟨_, _, ⟨z1, z2⟩, _, _⟩ := validB_iff.1 hv
  obtain ⟨Z, rfl⟩ := Int.eq_ofNat_of_zero_le (show 0 ≤ z by omega)
  go_enter Try.func13, Try.ntmps13
  go_wp2_with fail
  refine (lLeast_yes _ _ _ _ _ Z _ hs hv hq).mono ?_
  rintro e w1 ⟨⟨T, rfl, hT⟩, hb⟩
  obtain ⟨b0, b1, b2, b3, b4, hz, hB⟩ := kbox_keep hb ⟨b0, b1, b2, b3, b4, hz, hB⟩
  have HT := hid hT; clear hT
  go_wp2_with fail
  refine (rLeast_yes _ _ _ _ _ Z _ hs hv hq).mono ?_
  rintro e w2 ⟨⟨U, rfl, hU⟩, hb⟩
  obtain ⟨b0, b1, b2, b3, b4, hz, hB⟩ := kbox_keep hb ⟨b0, b1, b2, b3, b4, hz, hB⟩
  obtain rfl := HT.out.same (by omega) hU
  clear hU hq
  have t1 := HT.out.lo
  have t2 := HT.out.hi
  have hx := HT.out.warm
  have R := hid (rateA_in (Pm.rateD r Z T) T (by simp; omega))
  have C := hid (chkT_in T (by simp; omega))
  obtain ⟨x, hX⟩ : ∃ x, x = Pm.rateD r Z T := ⟨_, rfl⟩
  rw [← hX] at hx
  have HX := hid hX; clear hX
  rcases Decidable.em (T = -1000) with h | h
  · subst h
    go_wp2_with (first
      | (go_at_call 27; refine (lRate_any _ _ _ _ _ _ hs _).mono ?_; rintro e w2 ⟨rfl, hb⟩; obtain ⟨b0, b1, b2, b3, b4, hz, hB⟩ := kbox_keep hb ⟨b0, b1, b2, b3, b4, hz, hB⟩; rw [hv, R.out, C.out, ← HX.out])
      | (go_at_call 21; refine (awake_any _).mono ?_; rintro e w5 ⟨rfl, hb⟩; obtain ⟨b0, b1, b2, b3, b4, hz, hB⟩ := kbox_keep hb ⟨b0, b1, b2, b3, b4, hz, hB⟩))
    go_ret
    exact ⟨rfl, hB⟩
  · have hy : ((Pm.rateD r Z (T - 1) : Nat) : Int) < q := HT.out.less.resolve_left h
    have R2 := hid (rateA_in (Pm.rateD r Z (T - 1)) (T - 1) (by simp; omega))
    have C2 := hid (chkT_in (T - 1) (by simp; omega))
    obtain ⟨y, hY⟩ : ∃ y, y = Pm.rateD r Z (T - 1) := ⟨_, rfl⟩
    rw [← hY] at hy
    have HY := hid hY; clear hY
    have hb0 : (T == -1000) = false := by simpa using h
    go_wp2_with (first
      | (go_at_call 27; refine (lRate_any _ _ _ _ _ _ hs _).mono ?_; rintro e w2 ⟨rfl, hb⟩; obtain ⟨b0, b1, b2, b3, b4, hz, hB⟩ := kbox_keep hb ⟨b0, b1, b2, b3, b4, hz, hB⟩; first | rw [hv, R.out, C.out, ← HX.out] | rw [hv, R2.out, C2.out, ← HY.out])
      | (go_at_call 21; refine (awake_any _).mono ?_; rintro e w5 ⟨rfl, hb⟩; obtain ⟨b0, b1, b2, b3, b4, hz, hB⟩ := kbox_keep hb ⟨b0, b1, b2, b3, b4, hz, hB⟩))
    go_ret
    exact ⟨rfl, hB⟩
set_option maxRecDepth 100000 in
theorem lethalLeast_lifted (os : Os) (started : os.Started) (H : Type) (enc : TypeId × Value → H) :
    ReturnsInHanded {} Try.checked os 13 .any (Rows.lethalLeastSpec.pre6 enc Try.prog Try.f13 Rows.lethalLeastRow.domain false) (Rows.lethalLeastSpec.post enc Try.prog Try.f13 false true false false) := by
  refine returnsInHanded_of_change (C := Try.checked) own started (by kernel_rfl) Try.func13
    (ChangeSpec.witness6 (enc := enc) (C := Try.checked) false ⟨#[], #[.agg #[.string ⟨#[]⟩, .int .i64 0, .int .i64 0, .int .i64 0, .int .i64 0], .int .i64 0], []⟩ 8 (by kernel_rfl) (by kernel_rfl) (by kernel_rfl) (by kernel_rfl)) ?_
  intro W base args ds gs before hval0 hW hcnd _
  have hval : ∀ (j : Nat) t v, Try.f13.params[j]? = some t → args[j]? = some v → Value.okWide Try.prog W .any base t v := hval0
  have hW' := hW
  obtain ⟨p, q, hA0, hV, rfl, hfz, hnd⟩ := hW
  have hA : DataW.TrodAll enc Try.prog W 0 (fun _ => true) true Try.f13.params.toList args.toList ds p := hA0
  rw [Try.params13] at hA hval
  obtain ⟨v0, vs0, d0, ds0, p0, q0, hargs, rfl, rfl, h0, r0⟩ := trodAll_cons hA
  obtain ⟨v1, vs1, d1, ds1, p1, q1, rfl, rfl, rfl, h1, r1⟩ := trodAll_cons r0
  obtain ⟨rfl, rfl, rfl⟩ := trodAll_nil r1
  obtain rfl : args = #[v0, v1] := by cases args; simp_all
  obtain ⟨rfl, rfl⟩ := trodVars_none hV
  have k0 := h0
  have lt0 : ∀ x ∈ p0, x.block < W.heap.size := by obtain ⟨m, hm⟩ := k0; exact DataW.trod_lt m _ _ _ hm
  obtain ⟨s0, kr0, kz0, kd0, kg0, rfl, ws0⟩ := open_killer (hval 0 23 v0 rfl rfl) h0
  have k1 := h1
  have lt1 : ∀ x ∈ p1, x.block < W.heap.size := by obtain ⟨m, hm⟩ := k1; exact DataW.trod_lt m _ _ _ hm
  obtain ⟨a1, rfl, _, _, w1⟩ := open_int Try.underlying3 (hval 1 3 v1 rfl rfl) h1
  clear hA0 hval0
  refine (least_walk s0 kr0 kz0 kd0 kg0 a1 W ws0 w1).mono fun e W' ⟨he, bel⟩ => ?_
  subst he
  exact ⟨_, rfl, _, _, _, [], _, [], hW', trodAll_mk1 (shut_bool Try.underlying4 _), (trodAll_cons_mk (Below.trod laidOut (by kernel_rfl) (of_decide_eq_true (by kernel_rfl)) k0 bel lt0) (trodAll_cons_mk (Below.trod laidOut (by kernel_rfl) (of_decide_eq_true (by kernel_rfl)) k1 bel lt1) trodAll_mk0)), rfl, bel.frame _, fun h => by cases h⟩
theorem lethalLeast_holds : Rows.LethalLeastSaid :=
  OpenClaim.holds_of_wide 13 Try.f13 rfl rfl rfl rfl rfl rfl rfl ⟨rfl, rfl, rfl, rfl, rfl⟩ rfl rfl rfl rfl rfl (by kernel_rfl) Try.func13 (by kernel_rfl)
    (of_decide_eq_true (by kernel_rfl)) (by unfold Func.isWrapper; first | (rw [if_pos (by decide +kernel)]; kernel_rfl) | (rw [if_neg (by decide +kernel)]; exact ⟨rfl, rfl⟩))
    (fun os started H enc _ => lethalLeast_lifted os started H enc)
#print axioms lethalLeast_holds
end Go.Proofs.Ytfcngnoelmlakaa
