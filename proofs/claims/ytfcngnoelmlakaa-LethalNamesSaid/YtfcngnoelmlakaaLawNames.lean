/- LethalNames: for every killer and string the law returns true. No conditions. -/
import Derived.Test.YtfcngnoelmlakaaFr
namespace Go.Proofs.Ytfcngnoelmlakaa
open Go.ChangeShapes Go.WideShapes Go.ChangeAt Go.RowKit Go.Joins Go.Deep
open Go.ChangeMaps (open_string shut_string)

set_option maxHeartbeats 2000000 in
theorem names_walk (s : ByteArray) (r z d g : Int) (a : ByteArray) (w : World) (hs : s.size ≤ maxLen) (ha : a.size ≤ maxLen) :
    Calls Try.prog 3 #[.agg #[.string s, .int .i64 r, .int .i64 z, .int .i64 d, .int .i64 g], .string a] w fun e w' => e = .returned (.bool true) ∧ Below w.heap.size w w' := by
  cases hv : validB s.data.toList r z d g
  · go_enter Try.func3, Try.ntmps3
    go_wp2
    go_region_held3 (fun w' => w'.cell? ⟨w.heap.size, 0, none⟩ = some (.string s) ∧ w'.cell? ⟨w.heap.size, 1, none⟩ = some (.int .i64 r) ∧ w'.cell? ⟨w.heap.size, 2, none⟩ = some (.int .i64 z) ∧ w'.cell? ⟨w.heap.size, 3, none⟩ = some (.int .i64 d) ∧ w'.cell? ⟨w.heap.size, 4, none⟩ = some (.int .i64 g) ∧ w.heap.size < w'.heap.size ∧ Below w.heap.size w w') (first | exact box5_new | exact kbox_keep (by assumption) (by assumption))
      (first
        | (go_at_call 15; refine (lname_any _ _ ha).mono ?_; rintro e w2 ⟨rfl, rfl⟩)
        | (go_at_call 16; refine (rname_any _ _ ha).mono ?_; rintro e w2 ⟨rfl, rfl⟩)
        | (go_at_call 17; refine (lvalid_any _ _ _ _ _ _ hs).mono ?_; rintro e w2 ⟨rfl, hb2⟩)
        | (go_at_call 18; refine (rvalid_any _ _ _ _ _ _ hs).mono ?_; rintro e w2 ⟨rfl, hb2⟩)
        | (go_at_call 19; refine (needs_no _ _ _ _ _ _ hs hv).mono ?_; rintro e w2 ⟨rfl, hb2⟩)
        | (go_at_call 20; refine (rneeds_no _ _ _ _ _ _ hs hv).mono ?_; rintro e w2 ⟨rfl, hb2⟩)
        | (go_at_call 21; refine (awake_any _).mono ?_; rintro e w2 ⟨rfl, hb2⟩))
    go_wp2
    go_ret
    rename_i hq
    exact ⟨rfl, hq.2.2.2.2.2.2⟩
  · go_enter Try.func3, Try.ntmps3
    go_wp2
    go_region_held3 (fun w' => w'.cell? ⟨w.heap.size, 0, none⟩ = some (.string s) ∧ w'.cell? ⟨w.heap.size, 1, none⟩ = some (.int .i64 r) ∧ w'.cell? ⟨w.heap.size, 2, none⟩ = some (.int .i64 z) ∧ w'.cell? ⟨w.heap.size, 3, none⟩ = some (.int .i64 d) ∧ w'.cell? ⟨w.heap.size, 4, none⟩ = some (.int .i64 g) ∧ w.heap.size < w'.heap.size ∧ Below w.heap.size w w') (first | exact box5_new | exact kbox_keep (by assumption) (by assumption))
      (first
        | (go_at_call 15; refine (lname_any _ _ ha).mono ?_; rintro e w2 ⟨rfl, rfl⟩)
        | (go_at_call 16; refine (rname_any _ _ ha).mono ?_; rintro e w2 ⟨rfl, rfl⟩)
        | (go_at_call 17; refine (lvalid_any _ _ _ _ _ _ hs).mono ?_; rintro e w2 ⟨rfl, hb2⟩)
        | (go_at_call 18; refine (rvalid_any _ _ _ _ _ _ hs).mono ?_; rintro e w2 ⟨rfl, hb2⟩)
        | (go_at_call 19; refine (needs_yes _ _ _ _ _ _ hs hv).mono ?_; rintro e w2 ⟨rfl, hb2⟩)
        | (go_at_call 20; refine (rneeds_yes _ _ _ _ _ _ hs hv).mono ?_; rintro e w2 ⟨rfl, hb2⟩)
        | (go_at_call 21; refine (awake_any _).mono ?_; rintro e w2 ⟨rfl, hb2⟩))
    go_wp2
    go_ret
    rename_i hq
    exact ⟨rfl, hq.2.2.2.2.2.2⟩
set_option maxRecDepth 100000 in
theorem lethalNames_lifted (os : Os) (started : os.Started) (H : Type) (enc : TypeId × Value → H) :
    ReturnsInHanded {} Try.checked os 3 .any (Rows.lethalNamesSpec.pre6 enc Try.prog Try.f3 Rows.lethalNamesRow.domain false) (Rows.lethalNamesSpec.post enc Try.prog Try.f3 false true false false) := by
  refine returnsInHanded_of_change (C := Try.checked) own started (by kernel_rfl) Try.func3
    (ChangeSpec.witness6 (enc := enc) (C := Try.checked) false ⟨#[], #[.agg #[.string ⟨#[]⟩, .int .i64 0, .int .i64 0, .int .i64 0, .int .i64 0], .string ⟨#[]⟩], []⟩ 8 (by kernel_rfl) (by kernel_rfl) (by kernel_rfl) (by kernel_rfl)) ?_
  intro W base args ds gs before hval0 hW hcnd _
  have hval : ∀ (j : Nat) t v, Try.f3.params[j]? = some t → args[j]? = some v → Value.okWide Try.prog W .any base t v := hval0
  have hW' := hW
  obtain ⟨p, q, hA0, hV, rfl, hfz, hnd⟩ := hW
  have hA : DataW.TrodAll enc Try.prog W 0 (fun _ => true) true Try.f3.params.toList args.toList ds p := hA0
  rw [Try.params3] at hA hval
  obtain ⟨v0, vs0, d0, ds0, p0, q0, hargs, rfl, rfl, h0, r0⟩ := trodAll_cons hA
  obtain ⟨v1, vs1, d1, ds1, p1, q1, rfl, rfl, rfl, h1, r1⟩ := trodAll_cons r0
  obtain ⟨rfl, rfl, rfl⟩ := trodAll_nil r1
  obtain rfl : args = #[v0, v1] := by cases args; simp_all
  obtain ⟨rfl, rfl⟩ := trodVars_none hV
  have k0 := h0
  have lt0 : ∀ x ∈ p0, x.block < W.heap.size := by obtain ⟨m, hm⟩ := k0; exact DataW.trod_lt m _ _ _ hm
  obtain ⟨s0, kr0, kz0, kd0, kg0, rfl, ws0⟩ := open_killer (hval 0 23 v0 rfl rfl) h0
  have k1 := h1
  have lt1 : ∀ x ∈ p1, x.block < W.heap.size := by obtain ⟨m, hm⟩ := k1; exact DataW.trod_lt m _ _ _ hm
  obtain ⟨a1, rfl, _, _, w1⟩ := open_string Try.underlying9 (hval 1 9 v1 rfl rfl) h1
  clear hA0 hval0
  refine (names_walk s0 kr0 kz0 kd0 kg0 a1 W ws0 w1).mono fun e W' ⟨he, bel⟩ => ?_
  subst he
  exact ⟨_, rfl, _, _, _, [], _, [], hW', trodAll_mk1 (shut_bool Try.underlying4 _), (trodAll_cons_mk (Below.trod laidOut (by kernel_rfl) (of_decide_eq_true (by kernel_rfl)) k0 bel lt0) (trodAll_cons_mk (Below.trod laidOut (by kernel_rfl) (of_decide_eq_true (by kernel_rfl)) k1 bel lt1) trodAll_mk0)), rfl, bel.frame _, fun h => by cases h⟩
theorem lethalNames_holds : Rows.LethalNamesSaid :=
  OpenClaim.holds_of_wide 3 Try.f3 rfl rfl rfl rfl rfl rfl rfl ⟨rfl, rfl, rfl, rfl, rfl⟩ rfl rfl rfl rfl rfl (by kernel_rfl) Try.func3 (by kernel_rfl)
    (of_decide_eq_true (by kernel_rfl)) (by unfold Func.isWrapper; first | (rw [if_pos (by decide +kernel)]; kernel_rfl) | (rw [if_neg (by decide +kernel)]; exact ⟨rfl, rfl⟩))
    (fun os started H enc _ => lethalNames_lifted os started H enc)
#print axioms lethalNames_holds
end Go.Proofs.Ytfcngnoelmlakaa
