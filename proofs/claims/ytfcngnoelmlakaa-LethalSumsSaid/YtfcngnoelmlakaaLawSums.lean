/- LethalSums: for every killer, list and temperature the law returns true. No conditions. -/
import Derived.Test.YtfcngnoelmlakaaSq
import Derived.Test.YtfcngnoelmlakaaRo
namespace Go.Proofs.Ytfcngnoelmlakaa
open Go.ChangeShapes Go.WideShapes Go.ChangeAt Go.RowKit Go.Joins Go.Deep
open Go.ChangeMaps (open_string shut_string)

set_option maxHeartbeats 8000000 in
theorem sums_walk (s : ByteArray) (r z d g : Int) (v : Value) (l : List Int) (t : Int) (w : World) (hs : s.size ≤ maxLen) (hl : RowI w v l) (ht : (Lit.int .i64 t).wf = true) :
    Calls Try.prog 9 #[.agg #[.string s, .int .i64 r, .int .i64 z, .int .i64 d, .int .i64 g], v, .int .i64 t] w fun e w' => e = .returned (.bool true) ∧ Below w.heap.size w w' := by
  obtain ⟨b0, b1, b2, b3, b4, hz, hB⟩ := box5_below (Below.refl _ (w.alloc (.cells #[.string s, .int .i64 r, .int .i64 z, .int .i64 d, .int .i64 g] 23)))
  obtain ⟨t1, t2⟩ := bounds_i64 ht
  have HL := hid (RowI.keep hl (((Below.refl _ w).alloc (Nat.le_refl _) (.cells #[.string s, .int .i64 r, .int .i64 z, .int .i64 d, .int .i64 g] 23))))
  obtain ⟨a, cap, hshape⟩ : ∃ a cap, v = .slice a l.length cap := by
    obtain ⟨a, b, o, cap, h, _⟩ := hl.form
    exact ⟨a, cap, h⟩
  subst hshape
  clear hl
  by_cases hlen : 300 < l.length ∧ l.length ≤ 10000
  · obtain ⟨n1, n2⟩ := hlen
    have n1' : (300 : Int) < l.length := by omega
    have n2' : (l.length : Int) ≤ 10000 := by omega
    go_enter Try.func9, Try.ntmps9
    go_wp2_with (first
      | (go_at_call 36; refine (lQuarter_any t _ t1 t2).mono ?_; rintro e w1 ⟨rfl, rfl⟩)
      | (go_at_call 37; refine (rQuarter_any t _ t1 t2).mono ?_; rintro e w1 ⟨rfl, rfl⟩)
      | (go_at_call 21; refine (awake_any _).mono ?_; rintro e w5 ⟨rfl, hb⟩; obtain ⟨b0, b1, b2, b3, b4, hz, hB⟩ := kbox_keep hb ⟨b0, b1, b2, b3, b4, hz, hB⟩))
    go_ret
    exact ⟨rfl, hB⟩
  have hd : (decide ((300 : Int) < l.length) && decide ((l.length : Int) ≤ 10000)) = false := by
    rw [Bool.and_eq_false_iff, decide_eq_false_iff_not, decide_eq_false_iff_not]; omega
  rcases ask_cases (validB s.data.toList r z d g) l with hne | ⟨h0, hv, ho, hle⟩
  · obtain ⟨c, hc⟩ : ∃ c, c = askE (validB s.data.toList r z d g) l := ⟨_, rfl⟩
    have HC := hid hc; have HNE := hid hne
    clear hc hne
    rcases Decidable.em ((300 : Int) < l.length) with n1 | n1
    · have n2 : ¬ (l.length : Int) ≤ 10000 := by omega
      clear hlen hd
      go_enter Try.func9, Try.ntmps9
      go_wp2_with (first
        | (go_at_call 36; refine (lQuarter_any t _ t1 t2).mono ?_; rintro e w1 ⟨rfl, rfl⟩)
        | (go_at_call 37; refine (rQuarter_any t _ t1 t2).mono ?_; rintro e w1 ⟨rfl, rfl⟩)
        | (go_at_call 38; refine (lSum_no _ _ _ _ _ _ hs _ l HL.out HNE.out).mono ?_; rintro e w2 ⟨rfl, hb⟩; have HL := hid (RowI.keep HL.out hb); obtain ⟨b0, b1, b2, b3, b4, hz, hB⟩ := kbox_keep hb ⟨b0, b1, b2, b3, b4, hz, hB⟩; rw [← HC.out])
        | (go_at_call 39; refine (rSum_no _ _ _ _ _ _ hs _ l HL.out HNE.out).mono ?_; rintro e w2 ⟨rfl, hb⟩; have HL := hid (RowI.keep HL.out hb); obtain ⟨b0, b1, b2, b3, b4, hz, hB⟩ := kbox_keep hb ⟨b0, b1, b2, b3, b4, hz, hB⟩; rw [← HC.out])
        | (go_at_call 40; refine (lSumUp_no _ _ _ _ _ _ hs _ l HL.out HNE.out).mono ?_; rintro e w2 ⟨rfl, hb⟩; have HL := hid (RowI.keep HL.out hb); obtain ⟨b0, b1, b2, b3, b4, hz, hB⟩ := kbox_keep hb ⟨b0, b1, b2, b3, b4, hz, hB⟩; rw [← HC.out])
        | (go_at_call 41; refine (rSumUp_no _ _ _ _ _ _ hs _ l HL.out HNE.out).mono ?_; rintro e w2 ⟨rfl, hb⟩; have HL := hid (RowI.keep HL.out hb); obtain ⟨b0, b1, b2, b3, b4, hz, hB⟩ := kbox_keep hb ⟨b0, b1, b2, b3, b4, hz, hB⟩; rw [← HC.out])
        | (go_at_call 21; refine (awake_any _).mono ?_; rintro e w5 ⟨rfl, hb⟩; obtain ⟨b0, b1, b2, b3, b4, hz, hB⟩ := kbox_keep hb ⟨b0, b1, b2, b3, b4, hz, hB⟩))
      go_ret
      exact ⟨rfl, hB⟩
    · clear hlen hd
      go_enter Try.func9, Try.ntmps9
      go_wp2_with (first
        | (go_at_call 36; refine (lQuarter_any t _ t1 t2).mono ?_; rintro e w1 ⟨rfl, rfl⟩)
        | (go_at_call 37; refine (rQuarter_any t _ t1 t2).mono ?_; rintro e w1 ⟨rfl, rfl⟩)
        | (go_at_call 38; refine (lSum_no _ _ _ _ _ _ hs _ l HL.out HNE.out).mono ?_; rintro e w2 ⟨rfl, hb⟩; have HL := hid (RowI.keep HL.out hb); obtain ⟨b0, b1, b2, b3, b4, hz, hB⟩ := kbox_keep hb ⟨b0, b1, b2, b3, b4, hz, hB⟩; rw [← HC.out])
        | (go_at_call 39; refine (rSum_no _ _ _ _ _ _ hs _ l HL.out HNE.out).mono ?_; rintro e w2 ⟨rfl, hb⟩; have HL := hid (RowI.keep HL.out hb); obtain ⟨b0, b1, b2, b3, b4, hz, hB⟩ := kbox_keep hb ⟨b0, b1, b2, b3, b4, hz, hB⟩; rw [← HC.out])
        | (go_at_call 40; refine (lSumUp_no _ _ _ _ _ _ hs _ l HL.out HNE.out).mono ?_; rintro e w2 ⟨rfl, hb⟩; have HL := hid (RowI.keep HL.out hb); obtain ⟨b0, b1, b2, b3, b4, hz, hB⟩ := kbox_keep hb ⟨b0, b1, b2, b3, b4, hz, hB⟩; rw [← HC.out])
        | (go_at_call 41; refine (rSumUp_no _ _ _ _ _ _ hs _ l HL.out HNE.out).mono ?_; rintro e w2 ⟨rfl, hb⟩; have HL := hid (RowI.keep HL.out hb); obtain ⟨b0, b1, b2, b3, b4, hz, hB⟩ := kbox_keep hb ⟨b0, b1, b2, b3, b4, hz, hB⟩; rw [← HC.out])
        | (go_at_call 21; refine (awake_any _).mono ?_; rintro e w5 ⟨rfl, hb⟩; obtain ⟨b0, b1, b2, b3, b4, hz, hB⟩ := kbox_keep hb ⟨b0, b1, b2, b3, b4, hz, hB⟩))
      go_ret
      exact ⟨rfl, hB⟩
  · obtain ⟨_, _, ⟨z1, z2⟩, _, _⟩ := validB_iff.1 hv
    obtain ⟨Z, rfl⟩ := Int.eq_ofNat_of_zero_le (show 0 ≤ z by omega)
    have HO := hid ho
    clear ho h0
    obtain ⟨x, hx⟩ : ∃ x, x = sumL (dn r Z) l := ⟨_, rfl⟩
    obtain ⟨y, hy⟩ : ∃ y, y = sumL (up r Z) l := ⟨_, rfl⟩
    have HX := hid hx; have HY := hid hy
    clear hx hy
    have n1 : ¬ (300 : Int) < l.length := by omega
    clear hlen hd
    go_enter Try.func9, Try.ntmps9
    go_wp2_with (first
      | (go_at_call 36; refine (lQuarter_any t _ t1 t2).mono ?_; rintro e w1 ⟨rfl, rfl⟩)
      | (go_at_call 37; refine (rQuarter_any t _ t1 t2).mono ?_; rintro e w1 ⟨rfl, rfl⟩)
      | (go_at_call 38; refine (lSum_ok _ _ _ _ Z _ hs _ l HL.out hv HO.out hle).mono ?_; rintro e w2 ⟨rfl, hb⟩; have HL := hid (RowI.keep HL.out hb); obtain ⟨b0, b1, b2, b3, b4, hz, hB⟩ := kbox_keep hb ⟨b0, b1, b2, b3, b4, hz, hB⟩; first | rw [← HX.out] | rw [← HY.out])
      | (go_at_call 39; refine (rSum_ok _ _ _ _ Z _ hs _ l HL.out hv HO.out hle).mono ?_; rintro e w2 ⟨rfl, hb⟩; have HL := hid (RowI.keep HL.out hb); obtain ⟨b0, b1, b2, b3, b4, hz, hB⟩ := kbox_keep hb ⟨b0, b1, b2, b3, b4, hz, hB⟩; first | rw [← HX.out] | rw [← HY.out])
      | (go_at_call 40; refine (lSumUp_ok _ _ _ _ Z _ hs _ l HL.out hv HO.out hle).mono ?_; rintro e w2 ⟨rfl, hb⟩; have HL := hid (RowI.keep HL.out hb); obtain ⟨b0, b1, b2, b3, b4, hz, hB⟩ := kbox_keep hb ⟨b0, b1, b2, b3, b4, hz, hB⟩; first | rw [← HX.out] | rw [← HY.out])
      | (go_at_call 41; refine (rSumUp_ok _ _ _ _ Z _ hs _ l HL.out hv HO.out hle).mono ?_; rintro e w2 ⟨rfl, hb⟩; have HL := hid (RowI.keep HL.out hb); obtain ⟨b0, b1, b2, b3, b4, hz, hB⟩ := kbox_keep hb ⟨b0, b1, b2, b3, b4, hz, hB⟩; first | rw [← HX.out] | rw [← HY.out])
      | (go_at_call 21; refine (awake_any _).mono ?_; rintro e w5 ⟨rfl, hb⟩; obtain ⟨b0, b1, b2, b3, b4, hz, hB⟩ := kbox_keep hb ⟨b0, b1, b2, b3, b4, hz, hB⟩))
    go_ret
    exact ⟨rfl, hB⟩
set_option maxRecDepth 100000 in
theorem lethalSums_lifted (os : Os) (started : os.Started) (H : Type) (enc : TypeId × Value → H) :
    ReturnsInHanded {} Try.checked os 9 .any (Rows.lethalSumsSpec.pre6 enc Try.prog Try.f9 Rows.lethalSumsRow.domain false) (Rows.lethalSumsSpec.post enc Try.prog Try.f9 false true false false) := by
  refine returnsInHanded_of_change (C := Try.checked) own started (by kernel_rfl) Try.func9
    (ChangeSpec.witness6 (enc := enc) (C := Try.checked) false ⟨#[], #[.agg #[.string ⟨#[]⟩, .int .i64 0, .int .i64 0, .int .i64 0, .int .i64 0], .slice none 0 0, .int .i64 0], []⟩ 8 (by kernel_rfl) (by kernel_rfl) (by kernel_rfl) (by kernel_rfl)) ?_
  intro W base args ds gs before hval0 hW hcnd _
  have hval : ∀ (j : Nat) t v, Try.f9.params[j]? = some t → args[j]? = some v → Value.okWide Try.prog W .any base t v := hval0
  have hW' := hW
  obtain ⟨p, q, hA0, hV, rfl, hfz, hnd⟩ := hW
  have hA : DataW.TrodAll enc Try.prog W 0 (fun _ => true) true Try.f9.params.toList args.toList ds p := hA0
  rw [Try.params9] at hA hval
  obtain ⟨v0, vs0, d0, ds0, p0, q0, hargs, rfl, rfl, h0, r0⟩ := trodAll_cons hA
  obtain ⟨v1, vs1, d1, ds1, p1, q1, rfl, rfl, rfl, h1, r1⟩ := trodAll_cons r0
  obtain ⟨v2, vs2, d2, ds2, p2, q2, rfl, rfl, rfl, h2, r2⟩ := trodAll_cons r1
  obtain ⟨rfl, rfl, rfl⟩ := trodAll_nil r2
  obtain rfl : args = #[v0, v1, v2] := by cases args; simp_all
  obtain ⟨rfl, rfl⟩ := trodVars_none hV
  have k0 := h0
  have lt0 : ∀ x ∈ p0, x.block < W.heap.size := by obtain ⟨m, hm⟩ := k0; exact DataW.trod_lt m _ _ _ hm
  obtain ⟨s0, kr0, kz0, kd0, kg0, rfl, ws0⟩ := open_killer (hval 0 23 v0 rfl rfl) h0
  have k1 := h1
  have lt1 : ∀ x ∈ p1, x.block < W.heap.size := by obtain ⟨m, hm⟩ := k1; exact DataW.trod_lt m _ _ _ hm
  obtain ⟨l1, w1⟩ := open_rowI (hval 1 32 v1 rfl rfl) h1
  have k2 := h2
  have lt2 : ∀ x ∈ p2, x.block < W.heap.size := by obtain ⟨m, hm⟩ := k2; exact DataW.trod_lt m _ _ _ hm
  obtain ⟨a2, rfl, _, _, w2⟩ := open_int Try.underlying3 (hval 2 3 v2 rfl rfl) h2
  clear hA0 hval0
  refine (sums_walk s0 kr0 kz0 kd0 kg0 v1 l1 a2 W ws0 w1 w2).mono fun e W' ⟨he, bel⟩ => ?_
  subst he
  exact ⟨_, rfl, _, _, _, [], _, [], hW', trodAll_mk1 (shut_bool Try.underlying4 _), (trodAll_cons_mk (Below.trod laidOut (by kernel_rfl) (of_decide_eq_true (by kernel_rfl)) k0 bel lt0) (trodAll_cons_mk (Below.trod laidOut (by kernel_rfl) (of_decide_eq_true (by kernel_rfl)) k1 bel lt1) (trodAll_cons_mk (Below.trod laidOut (by kernel_rfl) (of_decide_eq_true (by kernel_rfl)) k2 bel lt2) trodAll_mk0))), rfl, bel.frame _, fun h => by cases h⟩
theorem lethalSums_holds : Rows.LethalSumsSaid :=
  OpenClaim.holds_of_wide 9 Try.f9 rfl rfl rfl rfl rfl rfl rfl ⟨rfl, rfl, rfl, rfl, rfl⟩ rfl rfl rfl rfl rfl (by kernel_rfl) Try.func9 (by kernel_rfl)
    (of_decide_eq_true (by kernel_rfl)) (by unfold Func.isWrapper; first | (rw [if_pos (by decide +kernel)]; kernel_rfl) | (rw [if_neg (by decide +kernel)]; exact ⟨rfl, rfl⟩))
    (fun os started H enc _ => lethalSums_lifted os started H enc)
#print axioms lethalSums_holds
end Go.Proofs.Ytfcngnoelmlakaa
