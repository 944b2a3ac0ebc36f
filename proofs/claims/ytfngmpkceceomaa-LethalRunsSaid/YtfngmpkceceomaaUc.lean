/- Walk of LethalRuns. -/
import Derived.Test.YtfngmpkceceomaaUb
import Derived.Test.YtfngmpkceceomaaAw
import Derived.Test.YtfngmpkceceomaaPs
namespace Go.Proofs.Ytfngmpkceceomaa
open Go.RowKit Go.Lib Go.Maps

set_option maxHeartbeats 1000000 in
theorem same_zero (a b : Option Addr) (c d : Nat) (w : World) : Calls Try.prog 33 #[.slice a 0 c, .slice b 0 d] w fun e w' => e = .returned (.bool true) ∧ w' = w := by
  go_enter Try.func33, Try.ntmps33
  go_wp2
  refine wp_loop_rounds 1 ?_
  rw [rounds_succ]
  go_wp2
  go_ret
  exact ⟨rfl, rfl⟩
theorem row_same {w : World} {v1 v2 : Value} {l : List Nat} (h1 : RowR w v1 l) (h2 : RowR w v2 l) (hl : l.length ≤ 1000000) : Calls Try.prog 33 #[v1, v2] w fun e w' => e = .returned (.bool true) ∧ ∃ n, w' = w.drewN n := by
  rcases h1.two with ⟨rfl, h0⟩ | ⟨ga, ca, rfl, ha⟩
  · subst h0
    rcases h2.two with ⟨rfl, _⟩ | ⟨gb, cb, rfl, _⟩
    · exact (same_zero _ _ _ _ w).mono fun e w' ⟨h, h'⟩ => ⟨h, 0, h'⟩
    · exact (same_zero _ _ _ _ w).mono fun e w' ⟨h, h'⟩ => ⟨h, 0, h'⟩
  · rcases h2.two with ⟨rfl, h0⟩ | ⟨gb, cb, rfl, hb⟩
    · subst h0
      exact (same_zero _ _ _ _ w).mono fun e w' ⟨h, h'⟩ => ⟨h, 0, h'⟩
    · exact same_any l ga gb ca cb w hl ha hb

theorem below_drew {w w' : World} (h : ∃ n, w' = w.drewN n) : Below w.heap.size w w' := by
  obtain ⟨n, rfl⟩ := h
  exact bdrewN (Below.refl _ _)

set_option maxRecDepth 100000 in
set_option maxHeartbeats 8000000 in
theorem runs_walk (s : ByteArray) (r z d g : Int) (v : Value) (l : List Int) (v2 : Value) (m : List Int) (w : World) (hs : s.size ≤ maxLen) (hl : RowI w v l) (hm : RowI w v2 m) :
    Calls Try.prog 10 #[.agg #[.string s, .int .i64 r, .int .i64 z, .int .i64 d, .int .i64 g], v, v2] w fun e w' => e = .returned (.bool true) ∧ Below w.heap.size w w' := by
  obtain ⟨b0, b1, b2, b3, b4, hz, hB⟩ := box5_below (Below.refl _ (w.alloc (.cells #[.string s, .int .i64 r, .int .i64 z, .int .i64 d, .int .i64 g] 23)))
  obtain ⟨a, cap, hsh⟩ : ∃ a cap, v = .slice a l.length cap := by obtain ⟨a, b, o, cap, h, _⟩ := hl.form; exact ⟨a, cap, h⟩
  obtain ⟨a2, cap2, hsh2⟩ : ∃ a cap, v2 = .slice a m.length cap := by obtain ⟨a, b, o, cap, h, _⟩ := hm.form; exact ⟨a, cap, h⟩
  subst hsh hsh2
  have HL := hid (fun w1 (g : Below w.heap.size w w1) => hl.keep g)
  have HM := hid (fun w1 (g : Below w.heap.size w w1) => hm.keep g)
  clear hl hm
  by_cases h1 : 300 < l.length
  · have h1' : (300 : Int) < l.length := by omega
    go_enter Try.func10, Try.ntmps10
    go_wp2_with (go_at_call 21; refine (awake_any _).mono ?_; rintro e w5 ⟨rfl, hb⟩; obtain ⟨b0, b1, b2, b3, b4, hz, hB⟩ := kbox_keep hb ⟨b0, b1, b2, b3, b4, hz, hB⟩)
    go_ret
    exact ⟨rfl, hB⟩
  have h1' : ¬ (300 : Int) < l.length := by omega
  by_cases h2 : 300 < m.length
  · have h2' : (300 : Int) < m.length := by omega
    go_enter Try.func10, Try.ntmps10
    go_wp2_with (go_at_call 21; refine (awake_any _).mono ?_; rintro e w5 ⟨rfl, hb⟩; obtain ⟨b0, b1, b2, b3, b4, hz, hB⟩ := kbox_keep hb ⟨b0, b1, b2, b3, b4, hz, hB⟩)
    go_ret
    exact ⟨rfl, hB⟩
  have h2' : ¬ (300 : Int) < m.length := by omega
  rcases ask_cases (validB s.data.toList r z d g) l with hne | ⟨h0, hv, ho, hle⟩
  · obtain ⟨c, hc⟩ : ∃ c, c = askE (validB s.data.toList r z d g) l := ⟨_, rfl⟩
    have hz1 : (c == 0) = false := by rw [hc]; simpa using hne
    have hz2 : (c != 0) = true := by rw [hc]; simpa using hne
    obtain ⟨ci, hci⟩ : ∃ ci, ci = askE (validB s.data.toList r z d g) (l ++ m) := ⟨_, rfl⟩
    have hci0 := ask_app_no (v := validB s.data.toList r z d g) (l := l) (m := m) (by omega) (by omega) (.inl hne)
    have hi1 : (ci == 0) = false := by rw [hci]; simpa using hci0
    have hi2 : (ci != 0) = true := by rw [hci]; simpa using hci0
    have HC := hid hc; have HCI := hid hci; have HNE := hid hne
    clear hc hci hci0 hne
    obtain ⟨i0, hi, hz0, hz1', hz2'⟩ := info_parts info_int
    go_enter Try.func10, Try.ntmps10
    go_wp2_with (first
      | (go_at_call 42; refine (lRunning_no _ _ _ _ _ _ hs _ l (HL.out _ hB) HNE.out).mono ?_; rintro e w2 ⟨rfl, hb⟩; obtain ⟨b0, b1, b2, b3, b4, hz, hB⟩ := kbox_keep hb ⟨b0, b1, b2, b3, b4, hz, hB⟩; rw [← HC.out])
      | (go_at_call 43; refine (rRunning_no _ _ _ _ _ _ hs _ l (HL.out _ hB) HNE.out).mono ?_; rintro e w2 ⟨rfl, hb⟩; obtain ⟨b0, b1, b2, b3, b4, hz, hB⟩ := kbox_keep hb ⟨b0, b1, b2, b3, b4, hz, hB⟩; rw [← HC.out])
      | (go_at_call 33; refine (same_zero _ _ _ _ _).mono ?_; rintro e w2 ⟨rfl, rfl⟩)
      | (go_at_call 38; (with_reducible refine (lSum_all _ _ _ _ _ _ hs _ l (HL.out _ hB)).mono ?_); rintro e w2 ⟨rfl, hb⟩; obtain ⟨b0, b1, b2, b3, b4, hz, hB⟩ := kbox_keep hb ⟨b0, b1, b2, b3, b4, hz, hB⟩; rw [← HC.out])
      | (go_at_call 38; (with_reducible refine (lSum_all _ _ _ _ _ _ hs _ m (HM.out _ hB)).mono ?_); rintro e w2 ⟨rfl, hb⟩; obtain ⟨b0, b1, b2, b3, b4, hz, hB⟩ := kbox_keep hb ⟨b0, b1, b2, b3, b4, hz, hB⟩)
      | (go_at_call 21; refine (awake_any _).mono ?_; rintro e w5 ⟨rfl, hb⟩; obtain ⟨b0, b1, b2, b3, b4, hz, hB⟩ := kbox_keep hb ⟨b0, b1, b2, b3, b4, hz, hB⟩))
    go_region_law (first
          | (refine step_app rfl (.tmp 61) (.tmp 62) 32 rfl w2.heap.size 3 i0 Try.underlying32 hi hz0 hz1' hz2' (.slice (some ⟨w2.heap.size, 0, none⟩) 0 0) [] rfl (own_none w2 3 #[] rfl) (.slice a l.length cap) l rfl (RowI.src (HL.out _ (hB.alloc (Nat.le_of_lt hz) _).drew)) (by simp; omega) (by simp) ?_; rintro v3 w6 hA1; have hb := app_below (W := w2) ((Below.refl _ w2).alloc (Nat.le_refl _) _).drew (own_none w2 3 #[] rfl) (Nat.le_refl _) hA1; have HO := hid (app_first hA1); have HB6 := hid hb; have HK2 := hid (And.intro b0 (And.intro b1 (And.intro b2 (And.intro b3 (And.intro b4 (And.intro hz hB)))))); obtain ⟨b0, b1, b2, b3, b4, hz, hB⟩ := kbox_keep hb ⟨b0, b1, b2, b3, b4, hz, hB⟩; clear hA1 hb)
          | (refine step_app rfl (.tmp 63) (.tmp 64) 32 rfl w2.heap.size 3 i0 Try.underlying32 hi hz0 hz1' hz2' v3 (ivs l) rfl HO.out (.slice a2 m.length cap2) m rfl (RowI.src (HM.out _ hB)) (by rw [ivs_len]; omega) HB6.out.size ?_; rintro v4 w7 hA2; have hb := app_below (W := w2) HB6.out HO.out (Nat.le_refl _) hA2; have HR := hid (own_rowI (app_next hA2) (by rw [List.length_append]; omega)); obtain ⟨b0, b1, b2, b3, b4, hz, hB⟩ := kbox_keep hb HK2.out; clear hA2 hb)
          | (go_simp; go_at_call 38; refine (lSum_all _ _ _ _ _ _ hs _ (l ++ m) HR.out).mono ?_; rintro e w8 ⟨rfl, hb⟩; obtain ⟨b0, b1, b2, b3, b4, hz, hB⟩ := kbox_keep hb ⟨b0, b1, b2, b3, b4, hz, hB⟩; rw [← HCI.out]))
    all_goals
      go_wp2_with (go_at_call 21; refine (awake_any _).mono ?_; rintro e w5 ⟨rfl, hb⟩; obtain ⟨b0, b1, b2, b3, b4, hz, hB⟩ := kbox_keep hb ⟨b0, b1, b2, b3, b4, hz, hB⟩)
      go_ret
      exact ⟨rfl, hB⟩
  · obtain ⟨_, _, ⟨z1, z2⟩, _, _⟩ := validB_iff.1 hv
    obtain ⟨Z, rfl⟩ := Int.eq_ofNat_of_zero_le (show 0 ≤ z by omega)
    obtain ⟨i0, hi, hz0, hz1', hz2'⟩ := info_parts info_int
    have HO0 := hid ho
    have hrl := hid (runK_len (dn r Z) l l.length)
    obtain ⟨x, hx⟩ : ∃ x, sumA (validB s.data.toList r Z d g) (dn r (Z : Int).toNat) l = x := ⟨_, rfl⟩
    have HX := hid hx; have HC := hid h0
    clear hx h0 ho
    obtain ⟨cm, hcm⟩ : ∃ c, c = askE (validB s.data.toList r Z d g) m := ⟨_, rfl⟩
    by_cases hne : cm ≠ 0
    · have hm1 : (cm == 0) = false := by simpa using hne
      have hm2 : (cm != 0) = true := by simpa using hne
      obtain ⟨ci, hci⟩ : ∃ ci, ci = askE (validB s.data.toList r Z d g) (l ++ m) := ⟨_, rfl⟩
      have hci0 := ask_app_no (v := validB s.data.toList r Z d g) (l := l) (m := m) (by omega) (by omega) (.inr (by rw [← hcm]; exact hne))
      have hi1 : (ci == 0) = false := by rw [hci]; simpa using hci0
      have hi2 : (ci != 0) = true := by rw [hci]; simpa using hci0
      have HCM := hid hcm; have HCI := hid hci
      have HY : Hid True := trivial
      have HZ : Hid True := trivial
      clear hcm hci hci0 hne
      go_enter Try.func10, Try.ntmps10
      go_wp2_with (first
        | (go_at_call 42; refine (lRunning_ok _ _ _ _ _ _ hs _ l (HL.out _ hB) hv HO0.out hle).mono ?_; rintro e w2 ⟨va, rfl, hra, hb⟩; have HRA := hid hra; obtain ⟨b0, b1, b2, b3, b4, hz, hB⟩ := kbox_keep hb ⟨b0, b1, b2, b3, b4, hz, hB⟩; clear hra)
        | (go_at_call 43; refine (rRunning_ok _ _ _ _ _ _ hs _ l (HL.out _ hB) hv HO0.out hle).mono ?_; rintro e w2 ⟨vb, rfl, hrb, hb⟩; have HRA := hid (RowR.keep HRA.out hb); have HRB := hid hrb; obtain ⟨b0, b1, b2, b3, b4, hz, hB⟩ := kbox_keep hb ⟨b0, b1, b2, b3, b4, hz, hB⟩; clear hrb)
        | (go_at_call 33; refine (row_same HRA.out HRB.out (by rw [hrl.out]; omega)).mono ?_; rintro e w2 ⟨rfl, hd⟩; have hb := below_drew hd; clear hd; have HRA := hid (RowR.keep HRA.out hb); obtain ⟨b0, b1, b2, b3, b4, hz, hB⟩ := kbox_keep hb ⟨b0, b1, b2, b3, b4, hz, hB⟩)
        | (go_at_call 38; (with_reducible refine (lSum_all _ _ _ _ _ _ hs _ l (HL.out _ hB)).mono ?_); rintro e w2 ⟨rfl, hb⟩; have HRA := hid (RowR.keep HRA.out hb); obtain ⟨b0, b1, b2, b3, b4, hz, hB⟩ := kbox_keep hb ⟨b0, b1, b2, b3, b4, hz, hB⟩; rw [HC.out, HX.out])
        | (go_at_call 38; (with_reducible refine (lSum_all _ _ _ _ _ _ hs _ m (HM.out _ hB)).mono ?_); rintro e w2 ⟨rfl, hb⟩; have HRA := hid (RowR.keep HRA.out hb); obtain ⟨b0, b1, b2, b3, b4, hz, hB⟩ := kbox_keep hb ⟨b0, b1, b2, b3, b4, hz, hB⟩; rw [← HCM.out]; try rw [HY.out])
        | (go_at_call 21; refine (awake_any _).mono ?_; rintro e w5 ⟨rfl, hb⟩; obtain ⟨b0, b1, b2, b3, b4, hz, hB⟩ := kbox_keep hb ⟨b0, b1, b2, b3, b4, hz, hB⟩))
      go_region_law (first
            | (refine step_app rfl (.tmp 61) (.tmp 62) 32 rfl w2.heap.size 3 i0 Try.underlying32 hi hz0 hz1' hz2' (.slice (some ⟨w2.heap.size, 0, none⟩) 0 0) [] rfl (own_none w2 3 #[] rfl) (.slice a l.length cap) l rfl (RowI.src (HL.out _ (hB.alloc (Nat.le_of_lt hz) _).drew)) (by simp; omega) (by simp) ?_; rintro v3 w6 hA1; have hb := app_below (W := w2) ((Below.refl _ w2).alloc (Nat.le_refl _) _).drew (own_none w2 3 #[] rfl) (Nat.le_refl _) hA1; have HO := hid (app_first hA1); have HB6 := hid hb; have HK2 := hid (And.intro b0 (And.intro b1 (And.intro b2 (And.intro b3 (And.intro b4 (And.intro hz hB)))))); have HRA := hid HRA.out; obtain ⟨b0, b1, b2, b3, b4, hz, hB⟩ := kbox_keep hb ⟨b0, b1, b2, b3, b4, hz, hB⟩; clear hA1 hb)
            | (refine step_app rfl (.tmp 63) (.tmp 64) 32 rfl w2.heap.size 3 i0 Try.underlying32 hi hz0 hz1' hz2' v3 (ivs l) rfl HO.out (.slice a2 m.length cap2) m rfl (RowI.src (HM.out _ hB)) (by rw [ivs_len]; omega) HB6.out.size ?_; rintro v4 w7 hA2; have hb := app_below (W := w2) HB6.out HO.out (Nat.le_refl _) hA2; have HR := hid (own_rowI (app_next hA2) (by rw [List.length_append]; omega)); have HRA := hid (RowR.keep HRA.out hb); obtain ⟨b0, b1, b2, b3, b4, hz, hB⟩ := kbox_keep hb HK2.out; clear hA2 hb)
            | (go_simp; go_at_call 38; refine (lSum_all _ _ _ _ _ _ hs _ (l ++ m) HR.out).mono ?_; rintro e w8 ⟨rfl, hb⟩; have HRA := hid (RowR.keep HRA.out hb); obtain ⟨b0, b1, b2, b3, b4, hz, hB⟩ := kbox_keep hb ⟨b0, b1, b2, b3, b4, hz, hB⟩; rw [← HCI.out]; try rw [← HZ.out]))
      all_goals
        go_wp2_with (go_at_call 21; refine (awake_any _).mono ?_; rintro e w5 ⟨rfl, hb⟩; obtain ⟨b0, b1, b2, b3, b4, hz, hB⟩ := kbox_keep hb ⟨b0, b1, b2, b3, b4, hz, hB⟩)
        go_ret
        exact ⟨rfl, hB⟩
    · obtain rfl : cm = 0 := by omega
      have hyy := sumA_ok (f := dn r (Z : Int).toNat) hcm.symm
      have hxx := sumA_ok (f := dn r (Z : Int).toNat) HC.out
      have h00 := ask_app_ok (v := validB s.data.toList r Z d g) (l := l) (m := m) (by omega) (by omega) HC.out hcm.symm
      have hzz := sumA_ok (f := dn r (Z : Int).toNat) h00
      rw [Int.toNat_natCast] at hyy hxx hzz
      rw [sumL_append] at hzz
      have hx0 := HX.out
      rw [Int.toNat_natCast, hxx] at hx0
      subst hx0
      clear HX
      have hle1 := sumL_le (dn r Z) l
      have hle2 := sumL_le (dn r Z) m
      have hlast := runK_last (dn r Z) l
      obtain ⟨xn, hxn⟩ : ∃ xn, xn = sumL (dn r Z) l := ⟨_, rfl⟩
      obtain ⟨yn, hyn⟩ : ∃ yn, yn = sumL (dn r Z) m := ⟨_, rfl⟩
      rw [← hxn] at hxx hzz hle1 hlast
      rw [← hyn] at hyy hzz hle2
      have HX := hid hxx; have HY := hid hyy; have HZ := hid hzz.symm; have HCM := hid hcm; have HCI := hid h00.symm; have HLAST := hid hlast
      clear hxx hyy hzz hcm h00 hlast hxn hyn
      go_enter Try.func10, Try.ntmps10
      go_wp2_with (first
        | (go_at_call 42; refine (lRunning_ok _ _ _ _ _ _ hs _ l (HL.out _ hB) hv HO0.out hle).mono ?_; rintro e w2 ⟨va, rfl, hra, hb⟩; have HRA := hid hra; obtain ⟨b0, b1, b2, b3, b4, hz, hB⟩ := kbox_keep hb ⟨b0, b1, b2, b3, b4, hz, hB⟩; clear hra)
        | (go_at_call 43; refine (rRunning_ok _ _ _ _ _ _ hs _ l (HL.out _ hB) hv HO0.out hle).mono ?_; rintro e w2 ⟨vb, rfl, hrb, hb⟩; have HRA := hid (RowR.keep HRA.out hb); have HRB := hid hrb; obtain ⟨b0, b1, b2, b3, b4, hz, hB⟩ := kbox_keep hb ⟨b0, b1, b2, b3, b4, hz, hB⟩; clear hrb)
        | (go_at_call 33; refine (row_same HRA.out HRB.out (by rw [hrl.out]; omega)).mono ?_; rintro e w2 ⟨rfl, hd⟩; have hb := below_drew hd; clear hd; have HRA := hid (RowR.keep HRA.out hb); obtain ⟨b0, b1, b2, b3, b4, hz, hB⟩ := kbox_keep hb ⟨b0, b1, b2, b3, b4, hz, hB⟩)
        | (go_at_call 38; (with_reducible refine (lSum_all _ _ _ _ _ _ hs _ l (HL.out _ hB)).mono ?_); rintro e w2 ⟨rfl, hb⟩; have HRA := hid (RowR.keep HRA.out hb); obtain ⟨b0, b1, b2, b3, b4, hz, hB⟩ := kbox_keep hb ⟨b0, b1, b2, b3, b4, hz, hB⟩; rw [HC.out, Int.toNat_natCast, HX.out])
        | (go_at_call 38; (with_reducible refine (lSum_all _ _ _ _ _ _ hs _ m (HM.out _ hB)).mono ?_); rintro e w2 ⟨rfl, hb⟩; have HRA := hid (RowR.keep HRA.out hb); obtain ⟨b0, b1, b2, b3, b4, hz, hB⟩ := kbox_keep hb ⟨b0, b1, b2, b3, b4, hz, hB⟩; rw [← HCM.out, Int.toNat_natCast, HY.out])
        | (go_at_call 21; refine (awake_any _).mono ?_; rintro e w5 ⟨rfl, hb⟩; obtain ⟨b0, b1, b2, b3, b4, hz, hB⟩ := kbox_keep hb ⟨b0, b1, b2, b3, b4, hz, hB⟩))
      go_region_law (first
            | (refine step_app rfl (.tmp 61) (.tmp 62) 32 rfl w2.heap.size 3 i0 Try.underlying32 hi hz0 hz1' hz2' (.slice (some ⟨w2.heap.size, 0, none⟩) 0 0) [] rfl (own_none w2 3 #[] rfl) (.slice a l.length cap) l rfl (RowI.src (HL.out _ (hB.alloc (Nat.le_of_lt hz) _).drew)) (by simp; omega) (by simp) ?_; rintro v3 w6 hA1; have hb := app_below (W := w2) ((Below.refl _ w2).alloc (Nat.le_refl _) _).drew (own_none w2 3 #[] rfl) (Nat.le_refl _) hA1; have HO := hid (app_first hA1); have HB6 := hid hb; have HK2 := hid (And.intro b0 (And.intro b1 (And.intro b2 (And.intro b3 (And.intro b4 (And.intro hz hB)))))); have HRA := hid HRA.out; obtain ⟨b0, b1, b2, b3, b4, hz, hB⟩ := kbox_keep hb ⟨b0, b1, b2, b3, b4, hz, hB⟩; clear hA1 hb)
            | (refine step_app rfl (.tmp 63) (.tmp 64) 32 rfl w2.heap.size 3 i0 Try.underlying32 hi hz0 hz1' hz2' v3 (ivs l) rfl HO.out (.slice a2 m.length cap2) m rfl (RowI.src (HM.out _ hB)) (by rw [ivs_len]; omega) HB6.out.size ?_; rintro v4 w7 hA2; have hb := app_below (W := w2) HB6.out HO.out (Nat.le_refl _) hA2; have HR := hid (own_rowI (app_next hA2) (by rw [List.length_append]; omega)); have HRA := hid (RowR.keep HRA.out hb); obtain ⟨b0, b1, b2, b3, b4, hz, hB⟩ := kbox_keep hb HK2.out; clear hA2 hb)
            | (go_simp; go_at_call 38; refine (lSum_all _ _ _ _ _ _ hs _ (l ++ m) HR.out).mono ?_; rintro e w8 ⟨rfl, hb⟩; have HRA := hid (RowR.keep HRA.out hb); obtain ⟨b0, b1, b2, b3, b4, hz, hB⟩ := kbox_keep hb ⟨b0, b1, b2, b3, b4, hz, hB⟩; rw [← HCI.out, Int.toNat_natCast, ← HZ.out]))
      all_goals
        rcases HRA.out.two with ⟨rfl, hnil⟩ | ⟨ga, ca, rfl, hc⟩
        · go_wp2_with (first | (go_at_call 21; refine (awake_any _).mono ?_; rintro e w5 ⟨rfl, hb⟩; obtain ⟨b0, b1, b2, b3, b4, hz, hB⟩ := kbox_keep hb ⟨b0, b1, b2, b3, b4, hz, hB⟩) | (go_at_call 44; refine (cut_any xn yn _ hle1 hle2).mono ?_; rintro e w9 ⟨rfl, rfl⟩))
          go_ret
          exact ⟨rfl, hB⟩
        · have HCC := hid hc; clear hc
          rw [hrl.out]
          by_cases h0 : l.length = 0
          · rw [h0]
            go_wp2_with (first | (go_at_call 21; refine (awake_any _).mono ?_; rintro e w5 ⟨rfl, hb⟩; obtain ⟨b0, b1, b2, b3, b4, hz, hB⟩ := kbox_keep hb ⟨b0, b1, b2, b3, b4, hz, hB⟩) | (go_at_call 44; refine (cut_any xn yn _ hle1 hle2).mono ?_; rintro e w9 ⟨rfl, rfl⟩))
            go_ret
            exact ⟨rfl, hB⟩
          · obtain ⟨k, hk⟩ : ∃ k, l.length = k + 1 := ⟨l.length - 1, by omega⟩
            have ex := HCC.out k (by rw [hrl.out]; omega)
            rw [HLAST.out k (by rw [hrl.out]; omega) hk.symm] at ex
            rw [hk]
            have hlk : k < k + 1 := by omega
            have hk9 : k ≤ 300 := by omega
            clear h0 hle h1 h1'
            go_wp2_with (first | (go_at_call 21; refine (awake_any _).mono ?_; rintro e w5 ⟨rfl, hb⟩; obtain ⟨b0, b1, b2, b3, b4, hz, hB⟩ := kbox_keep hb ⟨b0, b1, b2, b3, b4, hz, hB⟩) | (go_at_call 44; refine (cut_any xn yn _ hle1 hle2).mono ?_; rintro e w9 ⟨rfl, rfl⟩))
            go_ret
            exact ⟨rfl, hB⟩
end Go.Proofs.Ytfngmpkceceomaa
