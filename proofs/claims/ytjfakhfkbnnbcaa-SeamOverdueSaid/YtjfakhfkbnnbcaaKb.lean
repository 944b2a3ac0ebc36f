/- Walks of within, allWithin and ValidSheet of both, overlaps, rooms, floor: contracts. -/
import Derived.Test.YtjfakhfkbnnbcaaKa
import Derived.ProofKit
import Derived.OpenShut
import Derived.Deep.RegionHeld3
import Derived.Laws.OwnMore
namespace Go.Proofs.Ytjfakhfkbnnbcaa
open Go.RowKit

set_option maxHeartbeats 400000 in
theorem kwithin_any (a b c : Int) (w : World) :
    Calls Try.prog 41 #[.int .i64 a, .int .i64 b, .int .i64 c] w fun e w' => e = .returned (.bool (inB a b c)) ∧ w = w' := by
  by_cases h : b ≤ a
  · have hd : decide (b ≤ a) = true := by simpa using h
    go_enter Try.func41, Try.ntmps41
    go_wp2
    go_ret
    exact ⟨ret_bool (by unfold inB; rw [hd]; rfl), rfl⟩
  · have hd : decide (b ≤ a) = false := by simpa using h
    go_enter Try.func41, Try.ntmps41
    go_wp2
    go_ret
    exact ⟨ret_bool (by unfold inB; rw [hd]; rfl), rfl⟩
set_option maxHeartbeats 400000 in
theorem kxwithin_any (a b c : Int) (w : World) :
    Calls Try.prog 42 #[.int .i64 a, .int .i64 b, .int .i64 c] w fun e w' => e = .returned (.bool (inB a b c)) ∧ w = w' := by
  by_cases h : b ≤ a
  · have hd : decide (b ≤ a) = true := by simpa using h
    go_enter Try.func42, Try.ntmps42
    go_wp2
    go_ret
    exact ⟨ret_bool (by unfold inB; rw [hd]; rfl), rfl⟩
  · have hd : decide (b ≤ a) = false := by simpa using h
    go_enter Try.func42, Try.ntmps42
    go_wp2
    go_ret
    exact ⟨ret_bool (by unfold inB; rw [hd]; rfl), rfl⟩
set_option maxHeartbeats 400000 in
theorem khead_any (a : Int) (w : World) :
    Calls Try.prog 29 #[.int .i64 a] w fun e w' => e = .returned (.bool (inB a 1 12)) ∧ w = w' := by
  go_enter Try.func29, Try.ntmps29
  go_wp2_with (go_at_call 41; refine (kwithin_any _ _ _ _).mono ?_; rintro e w' ⟨rfl, rfl⟩)
  go_ret
  exact ⟨rfl, rfl⟩
theorem allW_bad {lo hi : Int} {l : List Int} {k : Nat} (hk : k < l.length) (h : inB l[k] lo hi = false) : allW lo hi l = false := by
  rw [Bool.eq_false_iff]
  intro h0
  have := List.all_eq_true.1 h0 _ (List.getElem_mem hk)
  rw [h] at this
  cases this
theorem allW_end {lo hi : Int} {l : List Int} (h : ∀ j (hj : j < l.length), inB l[j] lo hi = true) : allW lo hi l = true := by
  refine List.all_eq_true.2 fun x hx => ?_
  obtain ⟨j, hj, rfl⟩ := List.getElem_of_mem hx
  exact h j hj
theorem allW_step {lo hi : Int} {l : List Int} {k : Nat} (hk : k < l.length) (h : ∀ j (hj : j < l.length), j < k → inB l[j] lo hi = true) (g : inB l[k] lo hi = true) : ∀ j (hj : j < l.length), j < k + 1 → inB l[j] lo hi = true := by
  intro j hj hj2
  rcases Nat.lt_succ_iff_lt_or_eq.1 hj2 with h1 | h1
  · exact h j hj h1
  · subst h1; exact g
set_option maxHeartbeats 1000000 in
theorem allw_any (lo hi : Int) (v : Value) (l : List Int) (w : World) (hr : RowI w v l) :
    Calls Try.prog 56 #[.int .i64 lo, .int .i64 hi, v] w fun e w' => e = .returned (.bool (allW lo hi l)) ∧ w = w' := by
  have HRR := hid hr
  have hM : l.length ≤ maxLen := by
    rcases hr with ⟨_, _, _, rfl⟩ | ⟨_, _, _, _, h, _⟩
    · exact Nat.zero_le _
    · exact h
  unfold maxLen at hM
  obtain ⟨a, c, rfl⟩ : ∃ a c, v = .slice a l.length c := by
    rcases hr with ⟨a, c, hv, rfl⟩ | ⟨b, o, c, hv, _, hc⟩
    · exact ⟨a, c, hv⟩
    · exact ⟨_, c, hv⟩
  obtain ⟨n, hn⟩ : ∃ n, n = l.length := ⟨_, rfl⟩
  have HN := hid hn
  rw [← hn] at hM ⊢
  clear hr hn
  go_enter Try.func56, Try.ntmps56
  go_wp2
  go_loop [11] (fun t => ∃ k : Nat, k ≤ n ∧ t = .int .i64 (k : Int) ∧ Hid (∀ j (hj : j < l.length), j < k → inB l[j] lo hi = true)) (fun t => n - (intOf t).toNat)
  case atStart => exact ⟨0, Nat.zero_le _, rfl, fun j _ h => absurd h (Nat.not_lt_zero j)⟩
  case round =>
    obtain ⟨k, hk, rfl, hok⟩ := hrel
    by_cases hlt : k < n
    · have hlt' : (k : Int) < n := by omega
      have hkl : k < l.length := by rw [← HN.out]; exact hlt
      obtain ⟨b, o, c', hv, hcell⟩ : ∃ b o c', Value.slice a n c = .slice (some ⟨b, o, none⟩) l.length c' ∧ w.cell? ⟨b, o + k, none⟩ = some (.int .i64 l[k]) := by
        rcases HRR.out with ⟨a', c', _, h0⟩ | ⟨b, o, c', hv, _, hc⟩
        · rw [h0] at hkl; simp at hkl
        · exact ⟨b, o, c', by rw [← hv, HN.out], hc k hkl⟩
      injection hv with hv1 hv2 hv3
      subst hv1 hv3
      have HST := hid (fun h => allW_step hkl hok.out h)
      have HBAD := hid (fun h => allW_bad (lo := lo) (hi := hi) hkl h)
      generalize l[k] = x at hcell HST HBAD
      have HLT := hid hlt
      clear hv2 hkl hlt
      cases hx : inB x lo hi
      · have HE := hid (HBAD.out hx)
        go_wp2_with (go_at_call 41; refine (kwithin_any _ _ _ _).mono ?_; rintro e w' ⟨rfl, rfl⟩)
        go_ret
        exact ⟨ret_bool HE.out.symm, rfl⟩
      · have HE := hid (HST.out hx)
        go_wp2_with (go_at_call 41; refine (kwithin_any _ _ _ _).mono ?_; rintro e w' ⟨rfl, rfl⟩)
        go_roundw
        case rel => exact ⟨k + 1, HLT.out, by go_num, HE⟩
        case measure => have := HLT.out; simp [intOf]; omega
    · obtain rfl : k = n := by omega
      have HE := hid (allW_end (lo := lo) (hi := hi) (l := l) fun j hj => hok.out j hj (by rw [HN.out]; exact hj))
      go_wp2
      go_ret
      exact ⟨ret_bool HE.out.symm, rfl⟩
/-- A box of a sheet. -/
def BoxS (W : World) (b : Nat) (x : Sh) : Prop := W.cell? ⟨b, 0, none⟩ = some (.int .i64 x.tk) ∧ W.cell? ⟨b, 1, none⟩ = some (.int .i64 x.hd) ∧ W.cell? ⟨b, 2, none⟩ = some (.int .i64 x.bh) ∧ W.cell? ⟨b, 3, none⟩ = some (.int .i64 x.ch) ∧ W.cell? ⟨b, 4, none⟩ = some (.int .i64 x.ht) ∧ W.cell? ⟨b, 5, none⟩ = some (.int .i64 x.ep) ∧ W.cell? ⟨b, 6, none⟩ = some (.int .i64 x.bp) ∧ W.cell? ⟨b, 7, none⟩ = some (.int .i64 x.wr) ∧ W.cell? ⟨b, 8, none⟩ = some (.int .i64 x.th) ∧ W.cell? ⟨b, 9, none⟩ = some (.int .i64 x.cs)
theorem BoxS.keep {W w2 : World} {b : Nat} {x : Sh} (h : BoxS W b x) (hb : Below W.heap.size W w2) : BoxS w2 b x := ⟨keep_cell hb h.1, keep_cell hb h.2.1, keep_cell hb h.2.2.1, keep_cell hb h.2.2.2.1, keep_cell hb h.2.2.2.2.1, keep_cell hb h.2.2.2.2.2.1, keep_cell hb h.2.2.2.2.2.2.1, keep_cell hb h.2.2.2.2.2.2.2.1, keep_cell hb h.2.2.2.2.2.2.2.2.1, keep_cell hb h.2.2.2.2.2.2.2.2.2⟩
theorem boxS_new (w : World) (x : Sh) : BoxS (w.alloc (.cells #[.int .i64 x.tk, .int .i64 x.hd, .int .i64 x.bh, .int .i64 x.ch, .int .i64 x.ht, .int .i64 x.ep, .int .i64 x.bp, .int .i64 x.wr, .int .i64 x.th, .int .i64 x.cs] 39)) w.heap.size x := ⟨cell_alloc_new w _ _ _ 0, cell_alloc_new w _ _ _ 1, cell_alloc_new w _ _ _ 2, cell_alloc_new w _ _ _ 3, cell_alloc_new w _ _ _ 4, cell_alloc_new w _ _ _ 5, cell_alloc_new w _ _ _ 6, cell_alloc_new w _ _ _ 7, cell_alloc_new w _ _ _ 8, cell_alloc_new w _ _ _ 9⟩
theorem boxS_below (w : World) (x : Sh) : Below w.heap.size w (w.alloc (.cells #[.int .i64 x.tk, .int .i64 x.hd, .int .i64 x.bh, .int .i64 x.ch, .int .i64 x.ht, .int .i64 x.ep, .int .i64 x.bp, .int .i64 x.wr, .int .i64 x.th, .int .i64 x.cs] 39)) := (Below.refl _ _).alloc (Nat.le_refl _) _
set_option maxHeartbeats 1000000 in
theorem kover_any (x : Sh) (w : World) (h : ShOk x) : Calls Try.prog 55 #[.agg #[.int .i64 x.tk, .int .i64 x.hd, .int .i64 x.bh, .int .i64 x.ch, .int .i64 x.ht, .int .i64 x.ep, .int .i64 x.bp, .int .i64 x.wr, .int .i64 x.th, .int .i64 x.cs]] w fun e w' => e = .returned (.int .i64 (ovT x)) ∧ Below w.heap.size w w' := by
  have HB := hid (boxS_below w x)
  obtain ⟨_, _, _, ⟨e1, e2⟩, _, ⟨h1, h2⟩, ⟨h3, h4⟩, ⟨h5, h6⟩, _, _⟩ := h
  have HE := hid (show ovT x = 10 * (x.bh + x.ch - x.ht) + 11 * x.ep from rfl)
  go_enter Try.func55, Try.ntmps55
  go_wp2
  go_ret
  exact ⟨ret_int HE.out.symm, HB.out⟩
set_option maxHeartbeats 1000000 in
theorem ktenth_any (x : Sh) (w : World) (h : ShOk x) : Calls Try.prog 84 #[.agg #[.int .i64 x.tk, .int .i64 x.hd, .int .i64 x.bh, .int .i64 x.ch, .int .i64 x.ht, .int .i64 x.ep, .int .i64 x.bp, .int .i64 x.wr, .int .i64 x.th, .int .i64 x.cs]] w fun e w' => e = .returned (.int .i64 (ovT x)) ∧ Below w.heap.size w w' := by
  have HB := hid (boxS_below w x)
  obtain ⟨_, _, _, ⟨e1, e2⟩, _, ⟨h1, h2⟩, ⟨h3, h4⟩, ⟨h5, h6⟩, _, _⟩ := h
  have HE := hid (show ovT x = 10 * (x.bh + x.ch - x.ht) + 11 * x.ep from rfl)
  go_enter Try.func84, Try.ntmps84
  go_wp2
  go_ret
  exact ⟨ret_int HE.out.symm, HB.out⟩
set_option maxHeartbeats 1000000 in
theorem kroom_any (x : Sh) (w : World) (h : ShOk x) : Calls Try.prog 74 #[.agg #[.int .i64 x.tk, .int .i64 x.hd, .int .i64 x.bh, .int .i64 x.ch, .int .i64 x.ht, .int .i64 x.ep, .int .i64 x.bp, .int .i64 x.wr, .int .i64 x.th, .int .i64 x.cs]] w fun e w' => e = .returned (.int .i64 (roomT x)) ∧ Below w.heap.size w w' := by
  have HB := hid (boxS_below w x)
  obtain ⟨_, _, _, ⟨e1, e2⟩, ⟨p1, p2⟩, _, _, ⟨h5, h6⟩, _, _⟩ := h
  have HE := hid (show roomT x = 10 * x.ht - 11 * (2 * x.ep + x.bp) from rfl)
  go_enter Try.func74, Try.ntmps74
  go_wp2
  go_ret
  exact ⟨ret_int HE.out.symm, HB.out⟩
set_option maxHeartbeats 1000000 in
theorem kfloor_any (n b : Int) (w : World) (hb : 1 ≤ b) (h1 : -1000000000000000 ≤ n) (h2 : n ≤ 1000000000000000) : Calls Try.prog 54 #[.int .i64 n, .int .i64 b] w fun e w' => e = .returned (.int .i64 (n / b)) ∧ w = w' := by
  by_cases hn : 0 ≤ n
  · have hm : 0 ≤ n % b := Int.emod_nonneg n (by omega)
    have hm' : decide (n % b < 0) = false := by simp; omega
    go_enter Try.func54, Try.ntmps54
    go_wp2
    go_ret
    exact ⟨rfl, rfl⟩
  · obtain ⟨f1, f2, f3, f4⟩ := fl_neg (show n < 0 by omega) (show 0 < b by omega)
    obtain ⟨q, hq⟩ : ∃ q, n.tdiv b = q := ⟨_, rfl⟩
    obtain ⟨r, hr⟩ : ∃ r, n.tmod b = r := ⟨_, rfl⟩
    rw [hq] at f1 f2 f3 f4
    rw [hr] at f3 f4
    have HF3 := hid f3
    have HF4 := hid f4
    clear f3 f4
    by_cases hr0 : r < 0
    · have HE := hid (HF3.out hr0)
      go_enter Try.func54, Try.ntmps54
      go_wp2
      go_ret
      exact ⟨ret_int HE.out, rfl⟩
    · have HE := hid (HF4.out hr0)
      go_enter Try.func54, Try.ntmps54
      go_wp2
      go_ret
      exact ⟨ret_int HE.out, rfl⟩
end Go.Proofs.Ytjfakhfkbnnbcaa
