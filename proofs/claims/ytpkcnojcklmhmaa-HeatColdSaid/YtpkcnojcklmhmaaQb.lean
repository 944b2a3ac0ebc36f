/- Rows of slices: own ones, turned round; walk of slices.Reverse: contract. -/
import Derived.Test.YtpkcnojcklmhmaaGt
import Derived.Laws.OwnMore
import Derived.OwnWalk
import Derived.BigQuiet
namespace Go.Proofs.Ytpkcnojcklmhmaa
open Go.RowKit

/-- A list with its first k and last k values exchanged. -/
def revK (xs : List Value) (k : Nat) : List Value := (List.range xs.length).map fun j => if j < k ∨ xs.length ≤ j + k then xs.getD (xs.length - 1 - j) undef else xs.getD j undef
theorem revK_len (xs : List Value) (k : Nat) : (revK xs k).length = xs.length := by simp [revK]
theorem revK_at {xs : List Value} {k j : Nat} (h : j < xs.length) : (revK xs k)[j]? = some (if j < k ∨ xs.length ≤ j + k then xs.getD (xs.length - 1 - j) undef else xs.getD j undef) := by simp [revK, h]
theorem revK_zero (xs : List Value) : revK xs 0 = xs := by
  apply List.ext_getElem (by simp [revK])
  intro j h1 h2
  have : ¬ (j < 0 ∨ xs.length ≤ j + 0) := by omega
  simp only [revK, List.getElem_map, List.getElem_range, if_neg this]
  simp [List.getD, h2]
theorem revK_end {xs : List Value} {k : Nat} (h : xs.length ≤ 2 * k + 1) : revK xs k = xs.reverse := by
  apply List.ext_getElem (by simp [revK])
  intro j h1 h2
  rw [List.length_reverse] at h2
  simp only [revK, List.getElem_map, List.getElem_range, List.getElem_reverse]
  by_cases g : j < k ∨ xs.length ≤ j + k
  · rw [if_pos g]
    simp [List.getD, show xs.length - 1 - j < xs.length by omega]
  · rw [if_neg g]
    have e : xs.length - 1 - j = j := by omega
    simp only [e]
    simp [List.getD, h2]
theorem revK_step {xs : List Value} {k : Nat} (h : 2 * k + 1 < xs.length) : ((revK xs k).set k (xs.getD (xs.length - 1 - k) undef)).set (xs.length - 1 - k) (xs.getD k undef) = revK xs (k + 1) := by
  apply List.ext_getElem (by simp [revK])
  intro j h1 h2
  have hj : j < xs.length := by simpa [revK] using h2
  rw [List.getElem_set]
  by_cases e1 : xs.length - 1 - k = j
  · rw [if_pos e1]
    have g : j < k + 1 ∨ xs.length ≤ j + (k + 1) := by omega
    have e2 : xs.length - 1 - j = k := by omega
    simp only [revK, List.getElem_map, List.getElem_range, if_pos g, e2]
  · rw [if_neg e1, List.getElem_set]
    by_cases e2 : k = j
    · subst e2
      have g : k < k + 1 ∨ xs.length ≤ k + (k + 1) := by omega
      simp only [if_true, revK, List.getElem_map, List.getElem_range, if_pos g]
    · rw [if_neg e2]
      simp only [revK, List.getElem_map, List.getElem_range]
      by_cases g : j < k ∨ xs.length ≤ j + k
      · have g2 : j < k + 1 ∨ xs.length ≤ j + (k + 1) := by omega
        rw [if_pos g, if_pos g2]
      · have g2 : ¬ (j < k + 1 ∨ xs.length ≤ j + (k + 1)) := by omega
        rw [if_neg g, if_neg g2]
/-- Slices of ints in a row of the call's own. -/
def OwnV (w : World) (base : Nat) (v : Value) (xs : List Value) : Prop := w.ownsRow base 24 1 v xs.length xs
theorem OwnV.keep {w w2 : World} {base : Nat} {v : Value} {xs : List Value} (h : OwnV w base v xs) (hb : Below w.heap.size w w2) : OwnV w2 base v xs := by
  refine ⟨h.1, ?_⟩
  rcases h.2 with h2 | ⟨g, cap, cur, h1, h2, h3, h4⟩
  · exact .inl h2
  · exact .inr ⟨g, cap, cur, h1, h2, (hb.block g (Array.getElem?_eq_some_iff.1 h3).1).trans h3, h4⟩
theorem ownV_some {w : World} {base : Nat} {v : Value} {xs : List Value} (h : OwnV w base v xs) (h0 : 0 < xs.length) : ∃ g cap, v = .slice (some ⟨g, 0, none⟩) xs.length cap ∧ base ≤ g ∧ g < w.heap.size := by
  rcases h.2 with ⟨rfl, h1⟩ | ⟨g, cap, cur, rfl, hb, hg, _⟩
  · omega
  · exact ⟨g, cap, rfl, hb, (Array.getElem?_eq_some_iff.1 hg).1⟩
set_option maxRecDepth 20000 in
set_option maxHeartbeats 4000000 in
theorem reverse_any (v : Value) (xs : List Value) (base : Nat) (w : World) (h : OwnV w base v xs) (h0 : 0 < xs.length) (hm : xs.length ≤ 1000) (hsl : ∀ x ∈ xs, ∃ a n c, x = .slice a n c) :
    Calls Try.prog 69 #[v] w fun e w' => e = .returned (.tuple #[]) ∧ OwnV w' base v xs.reverse ∧ Below base w w' := by
  obtain ⟨g, cap, rfl, hbg, hgl⟩ := ownV_some h h0
  obtain ⟨n, hn⟩ : ∃ n, xs.length = n + 1 := ⟨xs.length - 1, by omega⟩
  have HN := hid hn
  have H := hid h
  have hm2 : n + 1 ≤ 1000 := by omega
  have HBG := hid hbg
  rw [hn]
  rw [hn] at H
  have HSL := hid (fun j (hj : j < xs.length) => show ∃ a n c, xs.getD j undef = .slice a n c from hsl _ (by simp [List.getD, hj]))
  clear h h0 hm hn hsl
  have hc : (((n + 1 : Nat)) : Int) - 1 = (n : Int) := by omega
  go_enter Try.func69, Try.ntmps69
  go_wp2
  go_loopw [2, 3] (fun i j wr => ∃ k : Nat, 2 * k ≤ n + 2 ∧ i = .int .i64 (k : Int) ∧ j = .int .i64 ((n : Int) - (k : Int)) ∧ Hid (wr.ownsRow base 24 1 (.slice (some ⟨g, 0, none⟩) (n + 1) cap) (n + 1) (revK xs k)) ∧ Hid (Below base w wr)) (fun i _ _ => n + 2 - (intOf i).toNat)
  case atStart =>
    refine ⟨0, by omega, rfl, by go_num, ?_, Below.refl _ _⟩
    rw [revK_zero]
    have h := H.out
    unfold OwnV at h
    rw [HN.out] at h
    exact h
  case round =>
    obtain ⟨k, hk, rfl, rfl, hO, hB⟩ := hrel
    by_cases hlt : 2 * k < n
    · have hlt' : (k : Int) < (n : Int) - (k : Int) := by omega
      obtain ⟨m, hmk⟩ : ∃ m : Nat, (n : Int) - (k : Int) = (m : Int) := ⟨n - k, by omega⟩
      rw [hmk] at hlt' ⊢
      have hml : m < n + 1 := by omega
      have hkl : k < n + 1 := by omega
      have HMK := hid hmk
      have c0 := (hO.out.cellAt k (by omega)).trans (revK_at (xs := xs) (k := k) (j := k) (by rw [HN.out]; omega))
      have c1 := (hO.out.cellAt m (by omega)).trans (revK_at (xs := xs) (k := k) (j := m) (by rw [HN.out]; omega))
      have f0 := hO.out.frozenAt k
      have f1 := hO.out.frozenAt m
      have e0 : ¬ (k < k ∨ xs.length ≤ k + k) := by rw [HN.out]; omega
      have e1 : ¬ (m < k ∨ xs.length ≤ m + k) := by rw [HN.out]; omega
      rw [if_neg e0] at c0
      rw [if_neg e1] at c1
      have hmm : m = xs.length - 1 - k := by rw [HN.out]; omega
      have HS := hid (show World.ownsRow _ _ _ _ _ _ (revK xs (k + 1)) from by
        have h1 := (hO.out.stored k (xs.getD (xs.length - 1 - k) undef)).1
        have h2 := (h1.stored (xs.length - 1 - k) (xs.getD k undef)).1
        rw [revK_step (by rw [HN.out]; omega)] at h2
        exact h2)
      rw [← hmm] at HS
      have HB2 := hid ((hB.out.setCell (p := ⟨g, k, none⟩) HBG.out (xs.getD m undef)).setCell (p := ⟨g, m, none⟩) HBG.out (xs.getD k undef))
      have HLT := hid hlt
      obtain ⟨xa, xn, xc, hx⟩ := HSL.out k (by rw [HN.out]; omega)
      obtain ⟨ya, yn, yc, hy⟩ := HSL.out m (by rw [HN.out]; omega)
      rw [hx] at c0 HS HB2
      rw [hy] at c1 HS HB2
      have hmi : (m : Int) < (n : Int) + 1 := by omega
      have hki : (k : Int) < (n : Int) + 1 := by omega
      have hwk : IntKind.i64.wrap ((k : Int) + 1) = (k : Int) + 1 := IntWalk.i64_in _ ⟨by omega, by omega⟩
      have hwm : IntKind.i64.wrap ((m : Int) - 1) = (m : Int) - 1 := IntWalk.i64_in _ ⟨by omega, by omega⟩
      clear hlt e0 e1 hmm hmk hx hy
      go_wp2
      go_region
      go_wp2
      go_roundw
      case rel => exact ⟨k + 1, by have := HLT.out; omega, by go_num, by rw [show ((n : Int) - ((k + 1 : Nat) : Int)) = (m : Int) - 1 by have := HMK.out; omega], HS, hid HB2.out.drew⟩
      case measure => have := HLT.out; simp [intOf]; omega
    · have hge : ¬ (k : Int) < (n : Int) - (k : Int) := by omega
      have HE := hid (revK_end (xs := xs) (k := k) (by rw [HN.out]; omega))
      go_wp2
      refine bodyPost_end (results_none rfl _ _ _) rfl ?_
      refine ⟨rfl, ?_, hB.out⟩
      unfold OwnV
      rw [List.length_reverse, HN.out, ← HE.out]
      exact hO.out
end Go.Proofs.Ytpkcnojcklmhmaa
