/- Walks of the reference's ValidChart, numbers, side: contracts. -/
import Derived.Test.YtlhjiikbehmamaaDoorNi
namespace Go.Proofs.YtlhjiikbehmamaaDoor
open Go.RowKit

set_option maxHeartbeats 1000000 in
theorem xchart_any (M S : Int) (w : World) : Calls Tryd.prog 15 #[.agg #[.int .i64 M, .int .i64 S]] w fun e w' => e = .returned (.bool (chB M S)) ∧ Below w.heap.size w w' := by
  have HB := hid (box1_start (w := w) (A := #[.int .i64 M, .int .i64 S]) (T := 23) (fz := (0, 0))).low
  have HC := hid (show chB M S = (inB M (-1000000000) 1000000000 && inB S 1 1000000000) from rfl)
  cases h1 : inB M (-1000000000) 1000000000
  · have HE := hid (show chB M S = false by rw [HC.out, h1]; rfl)
    go_enter Tryd.func15, Tryd.ntmps15
    go_wp2_with (go_at_call 17; refine (kxwithin_any _ _ _ _).mono ?_; rintro e w' ⟨rfl, rfl⟩)
    go_ret
    exact ⟨ret_bool HE.out.symm, HB.out⟩
  · have HE := hid (show chB M S = inB S 1 1000000000 by rw [HC.out, h1]; rfl)
    go_enter Tryd.func15, Tryd.ntmps15
    go_wp2_with (go_at_call 17; refine (kxwithin_any _ _ _ _).mono ?_; rintro e w' ⟨rfl, rfl⟩)
    go_ret
    exact ⟨ret_bool HE.out.symm, HB.out⟩
set_option maxHeartbeats 1000000 in
theorem xnumbers_any (v : Value) (l : List Int) (w : World) (hr : RowI w v l) : Calls Tryd.prog 16 #[v] w fun e w' => e = .returned (.bool (vlB l)) ∧ w = w' := by
  have HR := hid hr
  have HC := hid (show vlB l = (decide (l.length ≤ 10000) && allW (-1000000000) 1000000000 l) from rfl)
  obtain ⟨a, c, rfl⟩ := hr.shape
  have hm : l.length ≤ maxLen := by
    rcases hr with ⟨_, _, _, rfl⟩ | ⟨_, _, _, _, h, _⟩
    · exact Nat.zero_le _
    · exact h
  unfold maxLen at hm
  obtain ⟨n, hn⟩ : ∃ n, n = l.length := ⟨_, rfl⟩
  have HN := hid hn
  rw [← hn] at hm HC HR ⊢
  clear hr hn
  by_cases h1 : n ≤ 10000
  case neg =>
    have h1' : ¬ (n : Int) ≤ 10000 := by omega
    have HE := hid (show vlB l = false by rw [HC.out, decide_eq_false h1]; rfl)
    go_enter Tryd.func16, Tryd.ntmps16
    go_wp2
    go_ret
    exact ⟨ret_bool HE.out.symm, rfl⟩
  have h1' : (n : Int) ≤ 10000 := by omega
  have HE := hid (show vlB l = allW (-1000000000) 1000000000 l by rw [HC.out, decide_eq_true h1]; rfl)
  go_enter Tryd.func16, Tryd.ntmps16
  go_wp2
  go_loop [3] (fun t => ∃ k : Nat, k ≤ n ∧ t = .int .i64 (k : Int) ∧ Hid (∀ j (hj : j < l.length), j < k → inB l[j] (-1000000000) 1000000000 = true)) (fun t => n - (intOf t).toNat)
  case atStart => exact ⟨0, Nat.zero_le _, rfl, fun j _ h => absurd h (Nat.not_lt_zero j)⟩
  case round =>
    obtain ⟨k, hk, rfl, hok⟩ := hrel
    by_cases hlt : k < n
    · have hlt' : (k : Int) < n := by omega
      have hkl : k < l.length := by rw [← HN.out]; exact hlt
      obtain ⟨b, o, hv, hcell⟩ := rowI_get HR.out HN.out hkl
      subst hv
      have HST := hid (fun h => allW_step hkl hok.out h)
      have HBAD := hid (fun h => allW_bad (lo := -1000000000) (hi := 1000000000) hkl h)
      generalize l[k] = x at hcell HST HBAD
      have HLT := hid hlt
      clear hkl hlt
      cases hx : inB x (-1000000000) 1000000000
      · have HE2 := hid (show vlB l = false by rw [HE.out]; exact HBAD.out hx)
        go_wp2_with (go_at_call 17; refine (kxwithin_any _ _ _ _).mono ?_; rintro e w' ⟨rfl, rfl⟩)
        go_ret
        exact ⟨ret_bool HE2.out.symm, rfl⟩
      · have HE2 := hid (HST.out hx)
        go_wp2_with (go_at_call 17; refine (kxwithin_any _ _ _ _).mono ?_; rintro e w' ⟨rfl, rfl⟩)
        go_round
        case rel => exact ⟨k + 1, HLT.out, by go_num, HE2⟩
        case measure => have := HLT.out; simp [intOf]; omega
    · obtain rfl : k = n := by omega
      have HE2 := hid (show vlB l = true by rw [HE.out]; exact allW_end fun j hj => hok.out j hj (by rw [HN.out]; exact hj))
      go_wp2
      go_ret
      exact ⟨ret_bool HE2.out.symm, rfl⟩
/-- On which side of the middle a value is. -/
def sdI (M S v q : Int) : Int := if q * S < v - M then 1 else if v - M < -(q * S) then -1 else 0
set_option maxHeartbeats 1000000 in
theorem side_any (M S v q : Int) (w : World) (hM : -1000000000 ≤ M ∧ M ≤ 1000000000) (hS : 1 ≤ S ∧ S ≤ 1000000000) (hv : -1000000000 ≤ v ∧ v ≤ 1000000000) (hq : q = 0 ∨ q = 2 ∨ q = 3) : Calls Tryd.prog 18 #[.agg #[.int .i64 M, .int .i64 S], .int .i64 v, .int .i64 q] w fun e w' => e = .returned (.int .i64 (sdI M S v q)) ∧ Below w.heap.size w w' := by
  have HB := hid (box1_start (w := w) (A := #[.int .i64 M, .int .i64 S]) (T := 23) (fz := (0, 0))).low
  have HC := hid (show sdI M S v q = if q * S < v - M then 1 else if v - M < -(q * S) then -1 else 0 from rfl)
  obtain ⟨m1, m2⟩ := hM
  obtain ⟨s1, s2⟩ := hS
  obtain ⟨v1, v2⟩ := hv
  obtain ⟨L, hL⟩ : ∃ L, q * S = L := ⟨_, rfl⟩
  have hL1 : 0 ≤ L ∧ L ≤ 3000000000 := by rcases hq with rfl | rfl | rfl <;> constructor <;> omega
  obtain ⟨l1, l2⟩ := hL1
  have hLm : -q * S = -L := by rw [← hL]; exact Int.neg_mul q S
  have hw1 : wrap64 L = L := by unfold wrap64; omega
  have hw2 : wrap64 (-L) = -L := by unfold wrap64; omega
  have hq1 : 0 ≤ q ∧ q ≤ 3 := by rcases hq with rfl | rfl | rfl <;> decide
  obtain ⟨q1, q2⟩ := hq1
  rw [hL] at HC
  clear hq
  by_cases g1 : L < v - M
  · have HE := hid (show sdI M S v q = 1 by rw [HC.out, if_pos g1])
    go_enter Tryd.func18, Tryd.ntmps18
    go_wp2
    go_ret
    exact ⟨ret_int HE.out.symm, HB.out⟩
  · by_cases g2 : v - M < -L
    · have HE := hid (show sdI M S v q = -1 by rw [HC.out, if_neg g1, if_pos g2])
      go_enter Tryd.func18, Tryd.ntmps18
      go_wp2
      go_ret
      exact ⟨ret_int HE.out.symm, HB.out⟩
    · have HE := hid (show sdI M S v q = 0 by rw [HC.out, if_neg g1, if_neg g2])
      go_enter Tryd.func18, Tryd.ntmps18
      go_wp2
      go_ret
      exact ⟨ret_int HE.out.symm, HB.out⟩
end Go.Proofs.YtlhjiikbehmamaaDoor
