/- Plain facts of the reference's signals. -/
import Derived.Test.YtlhjiikbehmamaaDoorNj
namespace Go.Proofs.YtlhjiikbehmamaaDoor
open Go.RowKit

theorem sd_cases {M S v q : Int} (hS : 1 ≤ S) (hq : 0 ≤ q) : (q * S < v - M ∧ ¬ q * S < M - v ∧ sdI M S v q = 1) ∨ (¬ q * S < v - M ∧ q * S < M - v ∧ sdI M S v q = -1) ∨ (¬ q * S < v - M ∧ ¬ q * S < M - v ∧ sdI M S v q = 0) := by
  have h0 : 0 ≤ q * S := Int.mul_nonneg hq (by omega)
  unfold sdI
  generalize q * S = L at *
  by_cases h1 : L < v - M
  · exact .inl ⟨h1, by omega, if_pos h1⟩
  · by_cases h2 : v - M < -L
    · exact .inr (.inl ⟨h1, by omega, by rw [if_neg h1, if_pos h2]⟩)
    · exact .inr (.inr ⟨h1, by omega, by rw [if_neg h1, if_neg h2]⟩)
/-- The last c of the first i + 1 values. -/
def winL (l : List Int) (i c : Nat) : List Int := (l.drop (i + 1 - c)).take c
theorem winL_len {l : List Int} {i c : Nat} (h : i < l.length) (hc : c ≤ i + 1) : (winL l i c).length = c := by
  unfold winL; rw [List.length_take, List.length_drop]; omega
theorem winL_at {l : List Int} {i c j : Nat} (h : j < (winL l i c).length) (h2 : i + 1 - c + j < l.length) : (winL l i c)[j] = l[i + 1 - c + j] := by
  simp [winL]
theorem sg_last {M S : Int} {l : List Int} {b i j : Nat} (hb : b ≤ i) (hi : i < l.length) (hc : rlC j ≤ i + 1 - b) : sgR M S l b i j = decide (rlD j ≤ max (hiN M (rlE j * S) (winL l i (rlC j))) (loN M (rlE j * S) (winL l i (rlC j)))) := by
  have hlen : ((l.take (i + 1)).drop b).length = i + 1 - b := by rw [List.length_drop, List.length_take]; omega
  unfold sgR
  rw [sgB_long (by rw [hlen]; exact hc), hlen]
  have : ((l.take (i + 1)).drop b).drop (i + 1 - b - rlC j) = winL l i (rlC j) := by
    unfold winL
    rw [List.drop_drop, List.drop_take]
    congr 1
    · omega
    · congr 1; omega
  rw [this]
theorem sg_few {M S : Int} {l : List Int} {b i j : Nat} (hc : i + 1 - b < rlC j) : sgR M S l b i j = false := by
  refine sgB_short ?_
  rw [List.length_drop, List.length_take]; omega
theorem sg_first {M S : Int} {l : List Int} {b i : Nat} (hS : 1 ≤ S) (hb : b ≤ i) (hi : i < l.length) : sgR M S l b i 0 = decide (sdI M S l[i] 3 ≠ 0) := by
  rw [sg_last hb hi (by simp only [rlC]; omega)]
  have hw : winL l i 1 = [l[i]] := by
    have h1 := winL_len (c := 1) hi (by omega)
    match hx : winL l i 1 with
    | [] => rw [hx] at h1; simp at h1
    | [x] =>
      have h2 := winL_at (l := l) (i := i) (c := 1) (j := 0) (by rw [h1]; omega) (by omega)
      simp only [hx, List.getElem_cons_zero] at h2
      rw [h2]; congr 1
    | x :: y :: r => rw [hx] at h1; simp at h1
  simp only [rlC, rlD, rlE, hw]
  rcases sd_cases (M := M) (v := l[i]) hS (show (0 : Int) ≤ 3 by omega) with ⟨h1, h2, h3⟩ | ⟨h1, h2, h3⟩ | ⟨h1, h2, h3⟩
  · simp [hiN, loN, h1, h2, h3]
  · simp [hiN, loN, h1, h2, h3]
  · simp [hiN, loN, h1, h2, h3]
theorem sg_second {M S : Int} {l : List Int} {b i : Nat} (hb : b ≤ i) (hi : i < l.length) (h : 2 ≤ i - b) : sgR M S l b i 1 = (decide (2 ≤ hiN M (2 * S) (winL l i 3)) || decide (2 ≤ loN M (2 * S) (winL l i 3))) := by
  rw [sg_last hb hi (by simp only [rlC]; omega)]
  simp only [rlC, rlD, rlE]
  rw [← Bool.decide_or, decide_eq_decide]
  omega
theorem sum_third {M S : Int} : ∀ D : List Int, 1 ≤ S → hiN M 0 D + loN M 0 D ≤ D.length
  | [], _ => Nat.le_refl _
  | x :: D, h => by
    have ih := sum_third (M := M) D h
    unfold hiN loN at ih ⊢
    rw [List.countP_cons, List.countP_cons, List.length_cons]
    by_cases h1 : 0 < x - M
    · have h2 : ¬ 0 < M - x := by omega
      simp only [h1, h2, decide_true, decide_false, if_true, Bool.false_eq_true, if_false]
      omega
    · simp only [h1, decide_false, Bool.false_eq_true, if_false]
      split <;> omega
theorem sg_third {M S : Int} {l : List Int} {b i : Nat} (hS : 1 ≤ S) (hb : b ≤ i) (hi : i < l.length) (h : 6 ≤ i - b) : sgR M S l b i 2 = (decide ((hiN M 0 (winL l i 7) : Int) - loN M 0 (winL l i 7) = 7) || decide ((hiN M 0 (winL l i 7) : Int) - loN M 0 (winL l i 7) = -7)) := by
  rw [sg_last hb hi (by simp only [rlC]; omega)]
  simp only [rlC, rlD, rlE, Int.zero_mul]
  have h1 := sum_third (M := M) (winL l i 7) hS
  rw [winL_len hi (by omega)] at h1
  rw [← Bool.decide_or, decide_eq_decide]
  omega
/-- The indexes as the reference tests them. -/
theorem ix_next {adj : List Int} {n : Int} {k : Nat} (h : ∀ j, j < k → inB (adj.getD j 0) (loI adj j) (n - 1) = true) (hn : n ≤ 10000) : inB (adj.getD k 0) (loI adj k) (n - 1) = (inB (adj.getD k 0) 0 (n - 1) && (decide (k = 0) || !decide (adj.getD k 0 ≤ adj.getD (k - 1) 0))) := by
  have hb := loI_bd hn k h
  rcases k with _ | k
  · simp [loI]
  · have hlo : loI adj (k + 1) = adj.getD k 0 + 1 := rfl
    rw [hlo] at hb ⊢
    rw [Nat.add_sub_cancel, Bool.eq_iff_iff]
    simp only [Bool.and_eq_true, Bool.or_eq_true, inB_iff, decide_eq_true_iff, Bool.not_eq_true', decide_eq_false_iff_not]
    omega
theorem stA_le2 (adj : List Int) : ∀ i, (stA adj i).2 ≤ i
  | 0 => Nat.le_refl _
  | i + 1 => by
    have ih := stA_le2 adj i
    by_cases h : adj[(stA adj i).2]? = some (i : Int)
    · rw [stA_yes h]; simp only; omega
    · rw [stA_no h]; omega
end Go.Proofs.YtlhjiikbehmamaaDoor
