/- LethalRoots: for every exponent and root the law returns true. No conditions. -/
import Derived.Test.YtfcngnoelmlakaaFr
import Derived.Test.YtfcngnoelmlakaaWe
namespace Go.Proofs.Ytfcngnoelmlakaa
open Go.ChangeShapes Go.WideShapes Go.ChangeAt Go.RowKit Go.Joins Go.Deep
open Go.ChangeMaps (open_string shut_string)

theorem rootOk_iff {e z : Int} : rootOk e z = true ↔ (1 ≤ z ∧ z ≤ 60) ∧ 0 ≤ e ∧ e ≤ 16 * z := by unfold rootOk; simp
theorem cmpI_pos {x y : Nat} (h : y < x) : decide (0 < cmpI x y) = true := by
  unfold cmpI
  rw [if_neg (by omega), if_pos h]; decide

set_option maxHeartbeats 4000000 in
theorem roots_no (e z : Int) (w : World) (h : rootOk e z = false) :
    Calls Try.prog 4 #[.int .i64 e, .int .i64 z] w fun r w' => r = .returned (.bool true) ∧ Below w.heap.size w w' := by
  go_enter Try.func4, Try.ntmps4
  go_wp2_with fail
  refine (lRoot_no e z _ h).mono ?_
  rintro r w1 ⟨rfl, hb1⟩
  go_wp2_with fail
  refine (rRoot_no e z _ h).mono ?_
  rintro r w2 ⟨rfl, hb2⟩
  go_wp2_with fail
  refine (awake_any _).mono ?_
  rintro r w3 ⟨rfl, hb3⟩
  go_wp2_with fail
  go_ret
  exact ⟨rfl, (hb1.trans (hb2.mono hb1.size)).trans (hb3.mono (Nat.le_trans hb1.size hb2.size))⟩

set_option maxHeartbeats 4000000 in
theorem roots_yes (e z : Nat) (w : World) (hz : 1 ≤ z) (hz2 : z ≤ 60) (he : e ≤ 16 * z) :
    Calls Try.prog 4 #[.int .i64 e, .int .i64 z] w fun r w' => r = .returned (.bool true) ∧ Below w.heap.size w w' := by
  have hr := Pm.rootN_is e z hz
  have hle := Pm.root_le16 e z hz he
  have hp := Pm.root_pos e z hz
  obtain ⟨n, hn⟩ : ∃ n, n = Pm.rootN e z := ⟨_, rfl⟩
  rw [← hn] at hr hle hp
  have HN := hid hn; clear hn
  have OT := hid (powOk_ten (e := e) (by omega))
  have ON := hid (powOk_m (m := n) (z := z) hp (by omega) hz2)
  have ON1 := hid (powOk_m (m := n + 1) (z := z) (by omega) (by omega) hz2)
  have c1 := cmpI_le hr.1
  have c2 := cmpI_pos hr.2
  clear hr
  go_enter Try.func4, Try.ntmps4
  go_wp2_with fail
  refine (lRoot_yes e z _ hz hz2 he).mono ?_
  rintro r w1 ⟨rfl, hb1⟩
  rw [← HN.out]
  go_wp2_with fail
  refine (rRoot_yes e z _ hz hz2 he).mono ?_
  rintro r w2 ⟨rfl, hb2⟩
  rw [← HN.out]
  have B2 := hid (hb1.trans (hb2.mono hb1.size)); clear hb1 hb2
  go_wp2_with fail
  refine (of_any 10 _ (by decide)).mono ?_
  rintro r w3 ⟨v3, rfl, h3, hb3⟩
  have H3 := hid h3; clear h3
  go_wp2_with fail
  refine (wpower_any e e v3 10 _ (Nat.le_refl _) (by omega) H3.out.reads OT.out).mono ?_
  rintro r w4 ⟨v4, rfl, h4, hb4⟩
  have H4 := hid h4.reads; clear h4 H3
  have B4 := hid ((B2.out.trans (hb3.mono B2.out.size)).trans (hb4.mono (Nat.le_trans B2.out.size hb3.size))); clear B2 hb3 hb4
  go_wp2_with fail
  refine (of_any n _ (by omega)).mono ?_
  rintro r w5 ⟨v5, rfl, h5, hb5⟩
  have H5 := hid h5; clear h5
  go_wp2_with fail
  refine (wpower_any z z v5 n _ (Nat.le_refl _) (by omega) H5.out.reads ON.out).mono ?_
  rintro r w6 ⟨v6, rfl, h6, hb6⟩
  have H6 := hid h6; clear h6 H5
  have H4' := hid ((H4.out.keep hb5).keep hb6); clear H4
  have B6 := hid ((B4.out.trans (hb5.mono B4.out.size)).trans (hb6.mono (Nat.le_trans B4.out.size hb5.size))); clear B4 hb5 hb6
  go_wp2_with fail
  refine (cmp_any v6 v4 (n ^ z) (10 ^ e) _ H6.out.reads H4'.out (powOk_lt ON.out) (powOk_lt OT.out)).mono ?_
  rintro r w7 ⟨rfl, n7, rfl⟩
  have H7 := hid (H4'.out.keep (bdrewN (n := n7) (Below.refl _ _))); clear H6 H4'
  have B7 := hid (bdrewN (n := n7) B6.out); clear B6
  go_wp2_with fail
  rw [show ((n : Int) + 1) = ((n + 1 : Nat) : Int) from rfl]
  refine (of_any (n + 1) _ (by omega)).mono ?_
  rintro r w8 ⟨v8, rfl, h8, hb8⟩
  have H8 := hid h8; clear h8
  go_wp2_with fail
  refine (wpower_any z z v8 (n + 1) _ (Nat.le_refl _) (by omega) H8.out.reads ON1.out).mono ?_
  rintro r w9 ⟨v9, rfl, h9, hb9⟩
  have H9 := hid h9; clear h9 H8
  have H9' := hid ((H7.out.keep hb8).keep hb9); clear H7
  have B9 := hid ((B7.out.trans (hb8.mono B7.out.size)).trans (hb9.mono (Nat.le_trans B7.out.size hb8.size))); clear B7 hb8 hb9
  go_wp2_with fail
  refine (cmp_any v9 v4 ((n + 1) ^ z) (10 ^ e) _ H9.out.reads H9'.out (powOk_lt ON1.out) (powOk_lt OT.out)).mono ?_
  rintro r w10 ⟨rfl, n10, rfl⟩
  have B10 := hid (bdrewN (n := n10) B9.out); clear B9
  go_wp2_with fail
  refine (awake_any _).mono ?_
  rintro r w11 ⟨rfl, hb11⟩
  go_wp2_with fail
  go_ret
  exact ⟨rfl, B10.out.trans (hb11.mono B10.out.size)⟩

theorem roots_walk (e z : Int) (w : World) (_he : (Lit.int .i64 e).wf = true) (_hz : (Lit.int .i64 z).wf = true) :
    Calls Try.prog 4 #[.int .i64 e, .int .i64 z] w fun r w' => r = .returned (.bool true) ∧ Below w.heap.size w w' := by
  cases h : rootOk e z
  · exact roots_no e z w h
  · obtain ⟨⟨z1, z2⟩, e1, e2⟩ := rootOk_iff.1 h
    obtain ⟨Z, rfl⟩ := Int.eq_ofNat_of_zero_le (show 0 ≤ z by omega)
    obtain ⟨E, rfl⟩ := Int.eq_ofNat_of_zero_le e1
    exact roots_yes E Z w (by omega) (by omega) (by omega)
set_option maxRecDepth 100000 in
theorem lethalRoots_lifted (os : Os) (started : os.Started) (H : Type) (enc : TypeId × Value → H) :
    ReturnsInHanded {} Try.checked os 4 .any (Rows.lethalRootsSpec.pre6 enc Try.prog Try.f4 Rows.lethalRootsRow.domain false) (Rows.lethalRootsSpec.post enc Try.prog Try.f4 false true false false) := by
  refine returnsInHanded_of_change (C := Try.checked) own started (by kernel_rfl) Try.func4
    (ChangeSpec.witness6 (enc := enc) (C := Try.checked) false ⟨#[], #[.int .i64 0, .int .i64 0], []⟩ 8 (by kernel_rfl) (by kernel_rfl) (by kernel_rfl) (by kernel_rfl)) ?_
  intro W base args ds gs before hval0 hW hcnd _
  have hval : ∀ (j : Nat) t v, Try.f4.params[j]? = some t → args[j]? = some v → Value.okWide Try.prog W .any base t v := hval0
  have hW' := hW
  obtain ⟨p, q, hA0, hV, rfl, hfz, hnd⟩ := hW
  have hA : DataW.TrodAll enc Try.prog W 0 (fun _ => true) true Try.f4.params.toList args.toList ds p := hA0
  rw [Try.params4] at hA hval
  obtain ⟨v0, vs0, d0, ds0, p0, q0, hargs, rfl, rfl, h0, r0⟩ := trodAll_cons hA
  obtain ⟨v1, vs1, d1, ds1, p1, q1, rfl, rfl, rfl, h1, r1⟩ := trodAll_cons r0
  obtain ⟨rfl, rfl, rfl⟩ := trodAll_nil r1
  obtain rfl : args = #[v0, v1] := by cases args; simp_all
  obtain ⟨rfl, rfl⟩ := trodVars_none hV
  have k0 := h0
  have lt0 : ∀ x ∈ p0, x.block < W.heap.size := by obtain ⟨m, hm⟩ := k0; exact DataW.trod_lt m _ _ _ hm
  obtain ⟨a0, rfl, _, _, w0⟩ := open_int Try.underlying3 (hval 0 3 v0 rfl rfl) h0
  have k1 := h1
  have lt1 : ∀ x ∈ p1, x.block < W.heap.size := by obtain ⟨m, hm⟩ := k1; exact DataW.trod_lt m _ _ _ hm
  obtain ⟨a1, rfl, _, _, w1⟩ := open_int Try.underlying3 (hval 1 3 v1 rfl rfl) h1
  clear hA0 hval0
  refine (roots_walk a0 a1 W w0 w1).mono fun e W' ⟨he, bel⟩ => ?_
  subst he
  exact ⟨_, rfl, _, _, _, [], _, [], hW', trodAll_mk1 (shut_bool Try.underlying4 _), (trodAll_cons_mk (Below.trod laidOut (by kernel_rfl) (of_decide_eq_true (by kernel_rfl)) k0 bel lt0) (trodAll_cons_mk (Below.trod laidOut (by kernel_rfl) (of_decide_eq_true (by kernel_rfl)) k1 bel lt1) trodAll_mk0)), rfl, bel.frame _, fun h => by cases h⟩
theorem lethalRoots_holds : Rows.LethalRootsSaid :=
  OpenClaim.holds_of_wide 4 Try.f4 rfl rfl rfl rfl rfl rfl rfl ⟨rfl, rfl, rfl, rfl, rfl⟩ rfl rfl rfl rfl rfl (by kernel_rfl) Try.func4 (by kernel_rfl)
    (of_decide_eq_true (by kernel_rfl)) (by unfold Func.isWrapper; first | (rw [if_pos (by decide +kernel)]; kernel_rfl) | (rw [if_neg (by decide +kernel)]; exact ⟨rfl, rfl⟩))
    (fun os started H enc _ => lethalRoots_lifted os started H enc)
#print axioms lethalRoots_holds
end Go.Proofs.Ytfcngnoelmlakaa
