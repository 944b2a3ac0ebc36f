/- Walks of retort's before (counted), vented and Vented: contracts. -/
import Derived.Test.YtpkcnojcklmhmaaYd
import Derived.Test.YtpkcnojcklmhmaaYg
namespace Go.Proofs.Ytpkcnojcklmhmaa
open Go.RowKit

/-- How many of the first n readings are of earlier steps. -/
def befN (r : Nat → Rd) (st : Int) : Nat → Nat
  | 0 => 0
  | k + 1 => if (r k).s < st then befN r st k + 1 else befN r st k
theorem befN_low {r : Nat → Rd} {st : Int} : ∀ {k : Nat}, (∀ j, j < k → (r j).s < st) → befN r st k = k
  | 0, _ => rfl
  | k + 1, h => by rw [befN, if_pos (h k (by omega)), befN_low fun j hj => h j (by omega)]
theorem befN_mid {r : Nat → Rd} {st : Int} {q : Nat} : ∀ {k : Nat}, q ≤ k → (∀ j, j < q → (r j).s < st) → (∀ j, q ≤ j → j < k → st ≤ (r j).s) → befN r st k = q
  | 0, h, _, _ => by simp only [befN]; omega
  | k + 1, h, h1, h2 => by
    rcases Nat.lt_or_ge k q with hq | hq
    · obtain rfl : q = k + 1 := by omega
      exact befN_low h1
    · have := h2 k hq (by omega)
      rw [befN, if_neg (by omega)]
      exact befN_mid hq h1 fun j hj hj2 => h2 j hj (by omega)
theorem bef_det {n : Nat} {r : Nat → Rd} {st : Int} {q : Nat} (hm : ∀ i j, i ≤ j → j < n → (r i).s ≤ (r j).s) (h : FoundB n (fun m => decide (st ≤ (r m).s)) q) : befN r st n = q :=
  befN_mid h.1 (fun j hj => found_low hm h j hj) (fun j hj hj2 => found_high hm h j hj hj2)
theorem bef_found {n : Nat} {r : Nat → Rd} {st : Int} (hm : ∀ i j, i ≤ j → j < n → (r i).s ≤ (r j).s) : FoundB n (fun m => decide (st ≤ (r m).s)) (befN r st n) := by
  have hex : ∀ k, k ≤ n → ∃ q, q ≤ k ∧ (∀ j, j < q → (r j).s < st) ∧ (∀ j, q ≤ j → j < k → st ≤ (r j).s) := by
    intro k
    induction k with
    | zero => intro _; exact ⟨0, Nat.le_refl _, fun j h => absurd h (Nat.not_lt_zero j), fun j _ h => absurd h (Nat.not_lt_zero j)⟩
    | succ k ih =>
      intro hk
      obtain ⟨q, h1, h2, h3⟩ := ih (by omega)
      by_cases hs : (r k).s < st
      · refine ⟨k + 1, Nat.le_refl _, fun j hj => ?_, fun j h h' => absurd h (Nat.not_le.2 h')⟩
        have := hm j k (by omega) (by omega)
        omega
      · refine ⟨q, by omega, h2, fun j hj hj2 => ?_⟩
        rcases Nat.lt_succ_iff_lt_or_eq.1 hj2 with h | h
        · exact h3 j hj h
        · subst h; omega
  obtain ⟨q, h1, h2, h3⟩ := hex n (Nat.le_refl _)
  rw [befN_mid h1 h2 h3]
  refine ⟨h1, ?_, ?_⟩
  · rcases Nat.eq_zero_or_pos q with h | h
    · exact .inl h
    · exact .inr (by have := h2 (q - 1) (by omega); simp; omega)
  · rcases Nat.lt_or_ge q n with h | h
    · exact .inr (by have := h3 q (Nat.le_refl _) h; simp; omega)
    · exact .inl (by omega)
theorem befc_any (v : Value) (n : Nat) (r : Nat → Rd) (st : Int) (w : World) (hr : RowR w v n r) (hn : n ≤ 4000000000000000000) (hm : ∀ i j, i ≤ j → j < n → (r i).s ≤ (r j).s) :
    Calls Try.prog 80 #[v, .int .i64 st] w fun e w' => e = .returned (.int .i64 (befN r st n : Int)) ∧ Below w.heap.size w w' := by
  refine (before_any v n r st w hr hn).mono ?_
  rintro e w' ⟨q, rfl, hf, hb⟩
  exact ⟨by rw [bef_det hm hf], hb⟩
/-- A part of a record. -/
theorem rowR_sub {w : World} {b o n vc q1 q2 : Nat} {r : Nat → Rd} (h : RowR w (.slice (some ⟨b, o, none⟩) n vc) n r) (h1 : q1 ≤ q2) (h2 : q2 ≤ n) (h3 : 0 < n) : RowR w (.slice (some ⟨b, o + q1 * 4, none⟩) (q2 - q1) (vc - q1)) (q2 - q1) fun j => r (q1 + j) := by
  obtain ⟨a', b', o', cap', hv, g1, g2, g3, g4⟩ := h
  injection hv with hv1 hv2 hv3
  subst hv3
  rcases g3 with h0 | h0
  · omega
  · rw [← hv1] at h0
    cases h0
    refine ⟨_, b, o + q1 * 4, vc - q1, rfl, by omega, by omega, .inr rfl, fun k hk => ?_⟩
    have := g4 (q1 + k) (by omega)
    rwa [show o + (q1 + k) * 4 = o + q1 * 4 + k * 4 by omega] at this
set_option maxRecDepth 20000 in
set_option maxHeartbeats 4000000 in
theorem vented_none (k s t : Int) (sa : Option Addr) (sc : Nat) (w : World) :
    Calls Try.prog 79 #[.agg #[.int .i64 k, .int .i64 s, .int .i64 t], .slice sa 0 sc] w fun e w' => e = .returned (.bool false) ∧ Below w.heap.size w w' := by
  have HB := hid ((Below.refl w.heap.size w).alloc (Nat.le_refl _) (.cells #[.int .i64 k, .int .i64 s, .int .i64 t] 76))
  go_enter Try.func79, Try.ntmps79
  go_wp2
  go_quiet (fail)
  go_wp2
  go_ret
  exact ⟨rfl, bdrewN HB.out⟩
set_option maxRecDepth 20000 in
set_option maxHeartbeats 4000000 in
theorem vented_some (k s t : Int) (b o j sc : Nat) (r : Nat → Rd) (w : World) (hr : RowR w (.slice (some ⟨b, o, none⟩) (j + 1) sc) (j + 1) r) (hj : j ≤ 1000000) :
    Calls Try.prog 79 #[.agg #[.int .i64 k, .int .i64 s, .int .i64 t], .slice (some ⟨b, o, none⟩) (j + 1) sc] w fun e w' => e = .returned (.bool (decide (t ≤ (j : Int) + 1) && decide (s ≤ (r j).t))) ∧ Below w.heap.size w w' := by
  have HB := hid ((Below.refl w.heap.size w).alloc (Nat.le_refl _) (.cells #[.int .i64 k, .int .i64 s, .int .i64 t] 76))
  obtain ⟨a2, b2, o2, cap2, hv, _, _, ha2, hcell2⟩ := hr.keep ((Below.refl w.heap.size w).alloc (Nat.le_refl _) (.cells #[.int .i64 k, .int .i64 s, .int .i64 t] 76))
  injection hv with hv1 hv2 hv3
  rcases ha2 with h0 | h0
  · omega
  rw [← hv1] at h0
  cases h0
  obtain ⟨c0, c1, c2, c3⟩ := hcell2 j (by omega)
  clear hcell2 hv1 hv2 hv3 hr c0 c2 c3
  generalize (r j).t = x at c1
  have hj1 : (j : Int) < (j : Int) + 1 := by omega
  have hj2 : 0 < (j : Int) + 1 := by omega
  have hj3 : IntKind.i64.wrap (j : Int) = (j : Int) := IntWalk.i64_in _ ⟨by omega, by omega⟩
  by_cases h1 : t ≤ (j : Int) + 1
  · have hE := hid (show decide (s ≤ x) = (decide (t ≤ (j : Int) + 1) && decide (s ≤ x)) by rw [decide_eq_true h1]; rfl)
    go_enter Try.func79, Try.ntmps79
    go_wp2
    go_quiet (fail)
    go_wp2
    go_ret
    exact ⟨ret_bool hE.out, bdrewN HB.out⟩
  · have hE := hid (show false = (decide (t ≤ (j : Int) + 1) && decide (s ≤ x)) by rw [decide_eq_false h1]; rfl)
    have h1' : decide (t ≤ (j : Int) + 1) = false := decide_eq_false h1
    go_enter Try.func79, Try.ntmps79
    go_wp2
    go_quiet (fail)
    go_wp2
    go_ret
    exact ⟨ret_bool hE.out, bdrewN HB.out⟩
theorem vented_len (k s t : Int) (b o j len sc : Nat) (r : Nat → Rd) (w : World) (hl : len = j + 1) (hr : RowR w (.slice (some ⟨b, o, none⟩) len sc) len r) (hj : j ≤ 1000000) :
    Calls Try.prog 79 #[.agg #[.int .i64 k, .int .i64 s, .int .i64 t], .slice (some ⟨b, o, none⟩) len sc] w fun e w' => e = .returned (.bool (decide (t ≤ (j : Int) + 1) && decide (s ≤ (r j).t))) ∧ Below w.heap.size w w' := by
  subst hl
  exact vented_some k s t b o j sc r w hr hj
end Go.Proofs.Ytpkcnojcklmhmaa
