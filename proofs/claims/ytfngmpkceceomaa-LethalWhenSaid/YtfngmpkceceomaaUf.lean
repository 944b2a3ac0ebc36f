/- Walk of LethalWhen. -/
import Derived.Test.YtfngmpkceceomaaUe
import Derived.Test.YtfngmpkceceomaaAw
import Derived.Test.YtfngmpkceceomaaRp
import Derived.Deep.RegionHeld3
namespace Go.Proofs.Ytfngmpkceceomaa
open Go.RowKit Go.Lib Go.Maps

theorem RowI.take {w : World} {b o cap : Nat} {l : List Int} (h : RowI w (.slice (some ⟨b, o, none⟩) l.length cap) l) (k c : Nat) (hk : k ≤ l.length) : RowI w (.slice (some ⟨b, o, none⟩) k c) (l.take k) := by
  rcases h with ⟨a, c', h1, h2⟩ | ⟨b', o', c', h1, hm, hc⟩
  · subst h2
    obtain rfl : k = 0 := by simpa using hk
    exact .inl ⟨_, _, rfl, rfl⟩
  · cases h1
    have ht : (l.take k).length = k := by rw [List.length_take]; omega
    refine .inr ⟨b, o, c, by rw [ht], by rw [ht]; omega, fun j hj => ?_⟩
    rw [ht] at hj
    rw [hc j (by omega), List.getElem_take]
theorem okL_take {l : List Int} (k : Nat) (h : okL l = true) : okL (l.take k) = true := by
  unfold okL at h ⊢
  rw [List.all_eq_true] at h ⊢
  exact fun x hx => h x (List.mem_of_mem_take hx)

theorem kbox_below {b : Nat} {w W : World} {c0 c1 c2 c3 c4 : Value} (h : W.cell? ⟨b, 0, none⟩ = some c0 ∧ W.cell? ⟨b, 1, none⟩ = some c1 ∧ W.cell? ⟨b, 2, none⟩ = some c2 ∧ W.cell? ⟨b, 3, none⟩ = some c3 ∧ W.cell? ⟨b, 4, none⟩ = some c4 ∧ b < W.heap.size ∧ Below w.heap.size w W) : Below w.heap.size w W := h.2.2.2.2.2.2
set_option maxRecDepth 100000 in
set_option maxHeartbeats 8000000 in
theorem when_walk (s : ByteArray) (r z d g : Int) (v : Value) (l : List Int) (f : Int) (w : World) (hs : s.size ≤ maxLen) (hl : RowI w v l) (hcap : CapI v l) (hf : (Lit.int .i64 f).wf = true) :
    Calls Try.prog 14 #[.agg #[.string s, .int .i64 r, .int .i64 z, .int .i64 d, .int .i64 g], v, .int .i64 f] w fun e w' => e = .returned (.bool true) ∧ Below w.heap.size w w' := by
  obtain ⟨b0, b1, b2, b3, b4, hz, hB⟩ := box5_below (Below.refl _ (w.alloc (.cells #[.string s, .int .i64 r, .int .i64 z, .int .i64 d, .int .i64 g] 23)))
  obtain ⟨f1, f2⟩ := bounds_i64 hf
  obtain ⟨a, cap, rfl, hcap1, hcap2⟩ := hcap
  have HL := hid (fun w1 (g : Below w.heap.size w w1) => hl.keep g)
  clear hl
  by_cases hlen : 300 < l.length ∧ l.length ≤ 10000
  · obtain ⟨n1, n2⟩ := hlen
    have n1' : (300 : Int) < l.length := by omega
    have n2' : (l.length : Int) ≤ 10000 := by omega
    go_enter Try.func14, Try.ntmps14
    go_wp2_with (go_at_call 21; refine (awake_any _).mono ?_; rintro e w5 ⟨rfl, hb⟩; obtain ⟨b0, b1, b2, b3, b4, hz, hB⟩ := kbox_keep hb ⟨b0, b1, b2, b3, b4, hz, hB⟩)
    go_ret
    exact ⟨rfl, hB⟩
  rcases ask_cases (validB s.data.toList r z d g) l with hne | ⟨h0, hv, ho, hle⟩
  · obtain ⟨c, hc⟩ : ∃ c, c = askE (validB s.data.toList r z d g) l := ⟨_, rfl⟩
    have hc1 : (c == 0) = false := by rw [hc]; simpa using hne
    have hc2 : (c != 0) = true := by rw [hc]; simpa using hne
    have HC := hid hc; have HNE := hid hne
    clear hc hne
    have hd : (300 : Int) < l.length ∧ ¬ (l.length : Int) ≤ 10000 ∨ ¬ (300 : Int) < l.length := by omega
    clear hlen
    rcases hd with ⟨n1, n2⟩ | n1
    all_goals
      go_enter Try.func14, Try.ntmps14
      go_wp2_with (first
        | (go_at_call 53; refine (lWhen_e1 s r z d g f _ hs _ l (HL.out _ hB) HNE.out).mono ?_; rintro e w2 ⟨rfl, hb⟩; obtain ⟨b0, b1, b2, b3, b4, hz, hB⟩ := kbox_keep hb ⟨b0, b1, b2, b3, b4, hz, hB⟩; rw [← HC.out])
        | (go_at_call 54; refine (rWhen_e1 s r z d g f _ hs _ l (HL.out _ hB) HNE.out).mono ?_; rintro e w2 ⟨rfl, hb⟩; obtain ⟨b0, b1, b2, b3, b4, hz, hB⟩ := kbox_keep hb ⟨b0, b1, b2, b3, b4, hz, hB⟩; rw [← HC.out])
        | (go_at_call 21; refine (awake_any _).mono ?_; rintro e w5 ⟨rfl, hb⟩; obtain ⟨b0, b1, b2, b3, b4, hz, hB⟩ := kbox_keep hb ⟨b0, b1, b2, b3, b4, hz, hB⟩))
      go_ret
      exact ⟨rfl, hB⟩
  have n1 : ¬ (300 : Int) < l.length := by omega
  obtain ⟨_, _, ⟨z1, z2⟩, _, _⟩ := validB_iff.1 hv
  obtain ⟨Z, rfl⟩ := Int.eq_ofNat_of_zero_le (show 0 ≤ z by omega)
  have HO := hid ho; have H0 := hid h0
  clear ho h0 hlen
  by_cases hne : chkF true f ≠ 0
  · obtain ⟨c, hc⟩ : ∃ c, c = chkF true f := ⟨_, rfl⟩
    have hc1 : (c == 0) = false := by rw [hc]; simpa using hne
    have hc2 : (c != 0) = true := by rw [hc]; simpa using hne
    have HC := hid hc; have HNE := hid hne
    clear hc hne
    go_enter Try.func14, Try.ntmps14
    go_wp2_with (first
      | (go_at_call 53; refine (lWhen_e2 s r Z d g f _ hs _ l (HL.out _ hB) H0.out (by rw [hv]; exact HNE.out)).mono ?_; rintro e w2 ⟨rfl, hb⟩; obtain ⟨b0, b1, b2, b3, b4, hz, hB⟩ := kbox_keep hb ⟨b0, b1, b2, b3, b4, hz, hB⟩; rw [hv, ← HC.out])
      | (go_at_call 54; refine (rWhen_e2 s r d g f Z _ hs _ l (HL.out _ hB) hv HO.out hle HNE.out).mono ?_; rintro e w2 ⟨rfl, hb⟩; obtain ⟨b0, b1, b2, b3, b4, hz, hB⟩ := kbox_keep hb ⟨b0, b1, b2, b3, b4, hz, hB⟩; rw [← HC.out])
      | (go_at_call 21; refine (awake_any _).mono ?_; rintro e w5 ⟨rfl, hb⟩; obtain ⟨b0, b1, b2, b3, b4, hz, hB⟩ := kbox_keep hb ⟨b0, b1, b2, b3, b4, hz, hB⟩))
    go_ret
    exact ⟨rfl, hB⟩
  have hF0 : chkF true f = 0 := Decidable.byContradiction hne
  have hfb := chkF_o hF0
  simp only [Bool.and_eq_true, decide_eq_true_eq] at hfb
  obtain ⟨g1, g2⟩ := hfb
  have HF0 := hid hF0
  clear hne hF0
  by_cases hz0 : f = 0
  · subst hz0
    go_enter Try.func14, Try.ntmps14
    go_wp2_with (first
      | (go_at_call 53; refine (lWhen_zero s r Z d g _ hs _ l (HL.out _ hB) H0.out (by rw [hv]; exact HF0.out)).mono ?_; rintro e w2 ⟨rfl, hb⟩; obtain ⟨b0, b1, b2, b3, b4, hz, hB⟩ := kbox_keep hb ⟨b0, b1, b2, b3, b4, hz, hB⟩)
      | (go_at_call 54; refine (rWhen_zero s r d g Z _ hs _ l (HL.out _ hB) hv HO.out hle).mono ?_; rintro e w2 ⟨rfl, hb⟩; obtain ⟨b0, b1, b2, b3, b4, hz, hB⟩ := kbox_keep hb ⟨b0, b1, b2, b3, b4, hz, hB⟩)
      | (go_at_call 21; refine (awake_any _).mono ?_; rintro e w5 ⟨rfl, hb⟩; obtain ⟨b0, b1, b2, b3, b4, hz, hB⟩ := kbox_keep hb ⟨b0, b1, b2, b3, b4, hz, hB⟩))
    go_ret
    exact ⟨rfl, hB⟩
  have g3 : 0 < f := by omega
  clear hz0
  go_enter Try.func14, Try.ntmps14
  go_wp2_with fail
  refine (lWhen_ok s r d g f Z _ hs _ l (HL.out _ hB) hv HO.out hle g3 g2).mono ?_
  rintro e w2 ⟨n, c, rfl, hb, hP⟩
  have HP := hid hP
  clear hP
  obtain ⟨b0, b1, b2, b3, b4, hz, hB⟩ := kbox_keep hb ⟨b0, b1, b2, b3, b4, hz, hB⟩
  go_wp2_with fail
  refine (rWhen_ok s r d g f Z _ hs _ l (HL.out _ hB) hv HO.out hle g3 g2).mono ?_
  rintro e w3 ⟨n', c', rfl, hb, hP'⟩
  obtain ⟨rfl, rfl⟩ : n = n' ∧ c = c' := whenP_one (w := w) (w1 := w) (w2 := w) (w3 := w) ⟨n, c, rfl, Below.refl _ _, HP.out⟩ ⟨n', c', rfl, Below.refl _ _, hP'⟩
  obtain ⟨b0, b1, b2, b3, b4, hz, hB⟩ := kbox_keep hb ⟨b0, b1, b2, b3, b4, hz, hB⟩
  clear hP'
  rcases HP.out with ⟨rfl, m, rfl, hFA⟩ | ⟨rfl, rfl, _⟩
  · obtain ⟨m1, m2, m3, m4⟩ := hFA
    obtain ⟨k, rfl⟩ : ∃ k, m = k + 1 := ⟨m - 1, by omega⟩
    have hshape : ∃ b o, a = some ⟨b, o, none⟩ := by
      rcases HL.out _ (Below.refl _ _) with ⟨a', c', h1, h2⟩ | ⟨b, o, c', h1, _, _⟩
      · rw [h2] at m2; simp at m2
      · cases h1; exact ⟨b, o, rfl⟩
    obtain ⟨b, o, rfl⟩ := hshape
    have hk1 : ¬ ((k + 1 : Nat) : Int) < 1 := by omega
    have hk2 : ¬ (l.length : Int) < ((k + 1 : Nat) : Int) := by omega
    have m3' : f ≤ (sumL (dn r Z) (l.take (k + 1)) : Nat) := by omega
    have m4' : ((sumL (dn r Z) (l.take k) : Nat) : Int) < f := by rw [Nat.add_sub_cancel] at m4; omega
    obtain ⟨x, hx⟩ : ∃ x, x = sumL (dn r Z) (l.take (k + 1)) := ⟨_, rfl⟩
    obtain ⟨y, hy⟩ : ∃ y, y = sumL (dn r Z) (l.take k) := ⟨_, rfl⟩
    rw [← hx] at m3'
    rw [← hy] at m4'
    have HX := hid hx; have HY := hid hy
    clear hx hy m3 m4
    have i1 : 0 ≤ (k : Int) + 1 := by omega
    have i2 : (k : Int) + 1 ≤ (cap : Int) := by omega
    have i3 : ((k : Int) + 1).toNat = k + 1 := by omega
    have i4 : IntKind.i64.wrap ((k : Int) + 1 - 1) = (k : Int) := by rw [show (k : Int) + 1 - 1 = k by omega]; exact wrap_i64 (by omega) (by omega)
    have i5 : (k : Int) ≤ (cap : Int) := by omega
    have i6 : IntKind.i64.wrap (k : Int) = (k : Int) := wrap_i64 (by omega) (by omega)
    have i7 : k ≤ 10000 := by omega
    have i8 : (0 : Int) ≤ k := by omega
    have hle1 : (l.take (k + 1)).length ≤ 10000 := by rw [List.length_take]; omega
    have hle2 : (l.take k).length ≤ 10000 := by rw [List.length_take]; omega
    have HS1 := hid (fun W (h : Below w.heap.size w W) => lSum_ok s r d g Z W hs _ (l.take (k + 1)) ((HL.out W h).take (k + 1) (k + 1) m2) hv (okL_take _ HO.out) hle1)
    have HS2 := hid (fun W (h : Below w.heap.size w W) => lSum_ok s r d g Z W hs _ (l.take k) ((HL.out W h).take k k (by omega)) hv (okL_take _ HO.out) hle2)
    clear hle1 hle2
    go_wp2_with fail
    go_region_held3 (fun w' => w'.cell? ⟨w.heap.size, 0, none⟩ = some (.string s) ∧ w'.cell? ⟨w.heap.size, 1, none⟩ = some (.int .i64 r) ∧ w'.cell? ⟨w.heap.size, 2, none⟩ = some (.int .i64 Z) ∧ w'.cell? ⟨w.heap.size, 3, none⟩ = some (.int .i64 d) ∧ w'.cell? ⟨w.heap.size, 4, none⟩ = some (.int .i64 g) ∧ w.heap.size < w'.heap.size ∧ Below w.heap.size w w') (first | exact ⟨b0, b1, b2, b3, b4, hz, hB.drew⟩ | exact kbox_keep (by assumption) (by assumption)) (first | (go_at_call 38; refine (HS1.out _ (kbox_below (by assumption))).mono ?_; rintro e w5 ⟨rfl, hb5⟩; rw [← HX.out]))
    rename_i hq
    obtain ⟨b0, b1, b2, b3, b4, hz, hB⟩ := hq
    go_wp2_with fail
    go_region_held3 (fun w' => w'.cell? ⟨w.heap.size, 0, none⟩ = some (.string s) ∧ w'.cell? ⟨w.heap.size, 1, none⟩ = some (.int .i64 r) ∧ w'.cell? ⟨w.heap.size, 2, none⟩ = some (.int .i64 Z) ∧ w'.cell? ⟨w.heap.size, 3, none⟩ = some (.int .i64 d) ∧ w'.cell? ⟨w.heap.size, 4, none⟩ = some (.int .i64 g) ∧ w.heap.size < w'.heap.size ∧ Below w.heap.size w w') (first | exact ⟨b0, b1, b2, b3, b4, hz, hB.drew⟩ | exact kbox_keep (by assumption) (by assumption)) (first | (go_at_call 38; refine (HS2.out _ (kbox_below (by assumption))).mono ?_; rintro e w6 ⟨rfl, hb6⟩; rw [← HY.out]))
    rename_i hq
    obtain ⟨b0, b1, b2, b3, b4, hz, hB⟩ := hq
    go_wp2_with (go_at_call 21; refine (awake_any _).mono ?_; rintro e w5 ⟨rfl, hb⟩; obtain ⟨b0, b1, b2, b3, b4, hz, hB⟩ := kbox_keep hb ⟨b0, b1, b2, b3, b4, hz, hB⟩)
    go_ret
    exact ⟨rfl, hB⟩
  · go_wp2_with (go_at_call 21; refine (awake_any _).mono ?_; rintro e w5 ⟨rfl, hb⟩; obtain ⟨b0, b1, b2, b3, b4, hz, hB⟩ := kbox_keep hb ⟨b0, b1, b2, b3, b4, hz, hB⟩)
    go_ret
    exact ⟨rfl, hB⟩
end Go.Proofs.Ytfngmpkceceomaa
