/- LethalTables: for every killer and two temperatures the law returns true. No conditions. -/
import Derived.Test.YtfcngnoelmlakaaTd
import Derived.Test.YtfcngnoelmlakaaFr
namespace Go.Proofs.Ytfcngnoelmlakaa
open Go.ChangeShapes Go.WideShapes Go.ChangeAt Go.RowKit Go.Joins Go.Deep
open Go.ChangeMaps (open_string shut_string)

set_option maxHeartbeats 8000000 in
theorem tables_no (s : ByteArray) (r z d g : Int) (lo hi : Int) (w : World) (hs : s.size ≤ maxLen) (hok : (validB s.data.toList r z d g && tabB lo hi) = false) :
    Calls Try.prog 6 #[.agg #[.string s, .int .i64 r, .int .i64 z, .int .i64 d, .int .i64 g], .int .i64 lo, .int .i64 hi] w fun e w' => e = .returned (.bool true) ∧ Below w.heap.size w w' := by
  obtain ⟨b0, b1, b2, b3, b4, hz, hB⟩ := box5_below (Below.refl _ (w.alloc (.cells #[.string s, .int .i64 r, .int .i64 z, .int .i64 d, .int .i64 g] 23)))
  have HO := hid hok; clear hok
  go_enter Try.func6, Try.ntmps6
  go_wp2_with (first
    | (go_at_call 31; refine (lTable_no _ _ _ _ _ _ hs _ _ HO.out).mono ?_; rintro e w1 ⟨rfl, hb⟩; obtain ⟨b0, b1, b2, b3, b4, hz, hB⟩ := kbox_keep hb ⟨b0, b1, b2, b3, b4, hz, hB⟩)
    | (go_at_call 32; refine (rTable_no _ _ _ _ _ _ hs _ _ HO.out).mono ?_; rintro e w1 ⟨rfl, hb⟩; obtain ⟨b0, b1, b2, b3, b4, hz, hB⟩ := kbox_keep hb ⟨b0, b1, b2, b3, b4, hz, hB⟩)
    | (go_at_call 33; refine (same_nil _).mono ?_; rintro e w3 ⟨rfl, rfl⟩)
    | (go_at_call 21; refine (awake_any _).mono ?_; rintro e w5 ⟨rfl, hb⟩; obtain ⟨b0, b1, b2, b3, b4, hz, hB⟩ := kbox_keep hb ⟨b0, b1, b2, b3, b4, hz, hB⟩))
  all_goals first
    | (go_ret; exact ⟨rfl, hB⟩)
    | (refine wp_loop_rounds 1 ?_; rw [rounds_succ]; go_wp2_with (go_at_call 21; refine (awake_any _).mono ?_; rintro e w5 ⟨rfl, hb⟩; obtain ⟨b0, b1, b2, b3, b4, hz, hB⟩ := kbox_keep hb ⟨b0, b1, b2, b3, b4, hz, hB⟩); go_ret; exact ⟨rfl, hB⟩)

set_option maxHeartbeats 8000000 in
theorem tables_yes (s : ByteArray) (r d g lo : Int) (Z n : Nat) (w : World) (hs : s.size ≤ maxLen) (hv : validB s.data.toList r Z d g = true)
    (l1 : -1000 ≤ lo) (l2 : lo + n ≤ 2000) (hn : n ≤ 1000) :
    Calls Try.prog 6 #[.agg #[.string s, .int .i64 r, .int .i64 Z, .int .i64 d, .int .i64 g], .int .i64 lo, .int .i64 (lo + n)] w fun e w' => e = .returned (.bool true) ∧ Below w.heap.size w w' := by
  obtain ⟨b0, b1, b2, b3, b4, hz, hB⟩ := box5_below (Below.refl _ (w.alloc (.cells #[.string s, .int .i64 r, .int .i64 Z, .int .i64 d, .int .i64 g] 23)))
  obtain ⟨_, ⟨r1, r2⟩, ⟨z1, z2⟩, _, _⟩ := validB_iff.1 hv
  have h4 : lo + (n : Int) - lo = n := by omega
  by_cases hn60 : 60 < n
  · have d1 : (60 : Int) < n := by omega
    have d2 : (n : Int) ≤ 1000 := by omega
    go_enter Try.func6, Try.ntmps6
    go_wp2_with (go_at_call 21; refine (awake_any _).mono ?_; rintro e w5 ⟨rfl, hb⟩; obtain ⟨b0, b1, b2, b3, b4, hz, hB⟩ := kbox_keep hb ⟨b0, b1, b2, b3, b4, hz, hB⟩)
    go_ret
    exact ⟨rfl, hB⟩
  · have d1 : ¬ (60 : Int) < n := by omega
    go_enter Try.func6, Try.ntmps6
    go_wp2_with fail
    refine (lTable_ok _ _ _ _ _ Z n _ hs hv l1 l2 hn).mono ?_
    rintro e w1 ⟨v1, rfl, hr1, hb⟩
    obtain ⟨b0, b1, b2, b3, b4, hz, hB⟩ := kbox_keep hb ⟨b0, b1, b2, b3, b4, hz, hB⟩
    have H1 := hid hr1; clear hr1
    go_wp2_with fail
    refine (rTable_ok _ _ _ _ _ Z n _ hs hv l1 l2 hn).mono ?_
    rintro e w2 ⟨v2, rfl, hr2, hb⟩
    obtain ⟨ga, ca, rfl, hc1⟩ := (H1.out.keep hb).shape (by simp [ratesL, List.range_succ])
    obtain ⟨gb, cb, rfl, hc2⟩ := hr2.shape (by simp [ratesL, List.range_succ])
    obtain ⟨b0, b1, b2, b3, b4, hz, hB⟩ := kbox_keep hb ⟨b0, b1, b2, b3, b4, hz, hB⟩
    have HC1 := hid hc1; have HC2 := hid hc2
    have hlen := ratesL_len r Z lo (n + 1)
    have HG : Hid (∀ k, k < n + 1 → w2.cell? ⟨ga, k, none⟩ = some (.int .i64 (Pm.rateD r Z (lo + (k : Nat)) : Nat))) := fun k hk => by
      have := HC1.out k (by rw [hlen]; exact hk)
      rw [ratesL_get] at this
      exact this
    have HM : Hid (∀ k : Nat, Pm.rateD r Z (lo + (k : Nat)) ≤ Pm.rateD r Z (lo + ((k + 1 : Nat) : Int))) := fun k => Pm.rateD_mono z1 (by omega)
    have HL := hid hlen
    clear hc1 hc2 H1 b0 b1 b2 b3 b4 hlen
    go_wp2_with (go_at_call 33; refine (same_any _ ga gb ca cb _ (by rw [HL.out]; omega) HC1.out HC2.out).mono ?_; rintro e w3 ⟨rfl, n3, rfl⟩)
    have HB := hid (bdrewN (n := n3) hB)
    rw [HL.out]
    go_loopw [11] (fun i wr => ∃ j : Nat, j ≤ n ∧ i = .int .i64 ((j : Int) + 1) ∧ ∃ q, wr = w2.drewN q) (fun i _ => n + 1 - (intOf i).toNat)
    case atStart => exact ⟨0, Nat.zero_le _, rfl, n3, rfl⟩
    case round =>
      obtain ⟨j, hj, rfl, q, rfl⟩ := hrel
      by_cases hlt : j < n
      · have ex := HG.out (j + 1) (by omega)
        have ey := HG.out j (by omega)
        have hxy := HM.out j
        generalize Pm.rateD r Z (lo + ((j + 1 : Nat) : Int)) = x at ex hxy
        generalize Pm.rateD r Z (lo + (j : Int)) = y at ey hxy
        have hd : decide (x < y) = false := by simp; omega
        have hlt' : (j : Int) + 1 < (n : Int) + 1 := by omega
        clear hxy
        go_wp2
        go_quiet (fail)
        go_wp2
        go_roundw
        case rel => exact ⟨j + 1, by omega, by go_num, by first | exact ⟨_, rfl⟩ | exact drew1 | exact drew2⟩
        case measure => simp [intOf]; omega
      · obtain rfl : j = n := by omega
        go_wp2_with (go_at_call 21; refine (awake_any _).mono ?_; rintro e w5 ⟨rfl, hb8⟩)
        go_ret
        exact ⟨rfl, (bdrewN (n := q) hB).trans (hb8.mono (bdrewN (n := q) hB).size)⟩
theorem tables_walk (s : ByteArray) (r z d g : Int) (lo hi : Int) (w : World) (hs : s.size ≤ maxLen) (_hl : (Lit.int .i64 lo).wf = true) (_hh : (Lit.int .i64 hi).wf = true) :
    Calls Try.prog 6 #[.agg #[.string s, .int .i64 r, .int .i64 z, .int .i64 d, .int .i64 g], .int .i64 lo, .int .i64 hi] w fun e w' => e = .returned (.bool true) ∧ Below w.heap.size w w' := by
  cases hok : (validB s.data.toList r z d g && tabB lo hi)
  · exact tables_no s r z d g lo hi w hs hok
  · have hv := (Bool.and_eq_true_iff.1 hok).1
    have ht := (Bool.and_eq_true_iff.1 hok).2
    unfold tabB at ht
    simp only [Bool.and_eq_true, decide_eq_true_eq] at ht
    obtain ⟨⟨⟨l1, l2⟩, l3, l4⟩, l5⟩ := ht
    obtain ⟨_, _, ⟨z1, z2⟩, _, _⟩ := validB_iff.1 hv
    obtain ⟨Z, rfl⟩ := Int.eq_ofNat_of_zero_le (show 0 ≤ z by omega)
    obtain ⟨n, hn⟩ := Int.eq_ofNat_of_zero_le (show 0 ≤ hi - lo by omega)
    obtain rfl : hi = lo + n := by omega
    exact tables_yes s r d g lo Z n w hs hv l1 l4 (by omega)
set_option maxRecDepth 100000 in
theorem lethalTables_lifted (os : Os) (started : os.Started) (H : Type) (enc : TypeId × Value → H) :
    ReturnsInHanded {} Try.checked os 6 .any (Rows.lethalTablesSpec.pre6 enc Try.prog Try.f6 Rows.lethalTablesRow.domain false) (Rows.lethalTablesSpec.post enc Try.prog Try.f6 false true false false) := by
  refine returnsInHanded_of_change (C := Try.checked) own started (by kernel_rfl) Try.func6
    (ChangeSpec.witness6 (enc := enc) (C := Try.checked) false ⟨#[], #[.agg #[.string ⟨#[]⟩, .int .i64 0, .int .i64 0, .int .i64 0, .int .i64 0], .int .i64 0, .int .i64 0], []⟩ 8 (by kernel_rfl) (by kernel_rfl) (by kernel_rfl) (by kernel_rfl)) ?_
  intro W base args ds gs before hval0 hW hcnd _
  have hval : ∀ (j : Nat) t v, Try.f6.params[j]? = some t → args[j]? = some v → Value.okWide Try.prog W .any base t v := hval0
  have hW' := hW
  obtain ⟨p, q, hA0, hV, rfl, hfz, hnd⟩ := hW
  have hA : DataW.TrodAll enc Try.prog W 0 (fun _ => true) true Try.f6.params.toList args.toList ds p := hA0
  rw [Try.params6] at hA hval
  obtain ⟨v0, vs0, d0, ds0, p0, q0, hargs, rfl, rfl, h0, r0⟩ := trodAll_cons hA
  obtain ⟨v1, vs1, d1, ds1, p1, q1, rfl, rfl, rfl, h1, r1⟩ := trodAll_cons r0
  obtain ⟨v2, vs2, d2, ds2, p2, q2, rfl, rfl, rfl, h2, r2⟩ := trodAll_cons r1
  obtain ⟨rfl, rfl, rfl⟩ := trodAll_nil r2
  obtain rfl : args = #[v0, v1, v2] := by cases args; simp_all
  obtain ⟨rfl, rfl⟩ := trodVars_none hV
  have k0 := h0
  have lt0 : ∀ x ∈ p0, x.block < W.heap.size := by obtain ⟨m, hm⟩ := k0; exact DataW.trod_lt m _ _ _ hm
  obtain ⟨s0, kr0, kz0, kd0, kg0, rfl, ws0⟩ := open_killer (hval 0 23 v0 rfl rfl) h0
  have k1 := h1
  have lt1 : ∀ x ∈ p1, x.block < W.heap.size := by obtain ⟨m, hm⟩ := k1; exact DataW.trod_lt m _ _ _ hm
  obtain ⟨a1, rfl, _, _, w1⟩ := open_int Try.underlying3 (hval 1 3 v1 rfl rfl) h1
  have k2 := h2
  have lt2 : ∀ x ∈ p2, x.block < W.heap.size := by obtain ⟨m, hm⟩ := k2; exact DataW.trod_lt m _ _ _ hm
  obtain ⟨a2, rfl, _, _, w2⟩ := open_int Try.underlying3 (hval 2 3 v2 rfl rfl) h2
  clear hA0 hval0
  refine (tables_walk s0 kr0 kz0 kd0 kg0 a1 a2 W ws0 w1 w2).mono fun e W' ⟨he, bel⟩ => ?_
  subst he
  exact ⟨_, rfl, _, _, _, [], _, [], hW', trodAll_mk1 (shut_bool Try.underlying4 _), (trodAll_cons_mk (Below.trod laidOut (by kernel_rfl) (of_decide_eq_true (by kernel_rfl)) k0 bel lt0) (trodAll_cons_mk (Below.trod laidOut (by kernel_rfl) (of_decide_eq_true (by kernel_rfl)) k1 bel lt1) (trodAll_cons_mk (Below.trod laidOut (by kernel_rfl) (of_decide_eq_true (by kernel_rfl)) k2 bel lt2) trodAll_mk0))), rfl, bel.frame _, fun h => by cases h⟩
theorem lethalTables_holds : Rows.LethalTablesSaid :=
  OpenClaim.holds_of_wide 6 Try.f6 rfl rfl rfl rfl rfl rfl rfl ⟨rfl, rfl, rfl, rfl, rfl⟩ rfl rfl rfl rfl rfl (by kernel_rfl) Try.func6 (by kernel_rfl)
    (of_decide_eq_true (by kernel_rfl)) (by unfold Func.isWrapper; first | (rw [if_pos (by decide +kernel)]; kernel_rfl) | (rw [if_neg (by decide +kernel)]; exact ⟨rfl, rfl⟩))
    (fun os started H enc _ => lethalTables_lifted os started H enc)
#print axioms lethalTables_holds
end Go.Proofs.Ytfcngnoelmlakaa
