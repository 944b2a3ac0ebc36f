/- Walks of Same of both: contracts. -/
import Derived.Test.YtpkcnojcklmhmaaVa
namespace Go.Proofs.Ytpkcnojcklmhmaa
open Go.RowKit

theorem eqB_eq {a b : Rd} (h : eqB a b = true) : a = b := by
  obtain ⟨a1, a2, a3, a4⟩ := a
  obtain ⟨b1, b2, b3, b4⟩ := b
  simp [eqB] at h
  obtain ⟨⟨⟨rfl, rfl⟩, rfl⟩, rfl⟩ := h
  rfl
theorem eqB_ne {x0 x1 x2 x3 y0 y1 y2 y3 : Int} (h : eqB ⟨x0, x1, x2, x3⟩ ⟨y0, y1, y2, y3⟩ = false) :
    ((x0 == y0) = false ∧ (x0 != y0) = true) ∨ (x0 = y0 ∧ (x1 == y1) = false ∧ (x1 != y1) = true) ∨ (x0 = y0 ∧ x1 = y1 ∧ (x2 == y2) = false ∧ (x2 != y2) = true) ∨ (x0 = y0 ∧ x1 = y1 ∧ x2 = y2 ∧ (x3 == y3) = false ∧ (x3 != y3) = true) := by
  simp only [eqB, Bool.and_eq_false_iff, decide_eq_false_iff_not] at h
  simp only [beq_eq_false_iff_ne, bne_iff_ne]
  omega
set_option maxHeartbeats 4000000 in
theorem xsame_any (w : World) (v u : Value) (n m : Nat) (r q : Nat → Rd) (hl : RowR w v n r) (hm : RowR w u m q) :
    Calls Try.prog 39 #[v, u] w fun e w' => e = .returned (.bool (sameR n m r q)) ∧ ∃ n, w' = w.drewN n := by
  have hM := hl.most
  have hM' := hm.most
  unfold maxLen at hM hM'
  obtain ⟨a, b, o, cap, rfl, _, _, ha, hc⟩ := hl
  obtain ⟨a', b', o', cap', rfl, _, _, ha', hc'⟩ := hm
  have HA := hid ha
  have HA' := hid ha'
  have HC := hid hc
  have HC' := hid hc'
  clear ha ha' hc hc'
  by_cases hlen : n = m
  · have h2 : ((n : Int) != (m : Int)) = false := by simp; omega
    have HL := hid (sameR_eq (r := r) (q := q) hlen)
    have hnm : n ≤ m := by omega
    clear hlen
    go_enter Try.func39, Try.ntmps39
    go_wp2
    go_loopw [5] (fun i wr => ∃ k : Nat, k ≤ n ∧ i = .int .i64 (k : Int) ∧ Hid (∀ j, j < k → eqB (r j) (q j) = true) ∧ ∃ n, wr = w.drewN n) (fun i _ => n - (intOf i).toNat)
    case atStart => exact ⟨0, Nat.zero_le _, rfl, fun j h => absurd h (Nat.not_lt_zero _), 0, rfl⟩
    case round =>
      obtain ⟨k, hk, rfl, hok, n1, rfl⟩ := hrel
      by_cases hlt : k < n
      · have hlm : k < m := by omega
        have hlt' : (k : Int) < n := by omega
        have hlm' : (k : Int) < m := by omega
        obtain ⟨c0, c1, c2, c3⟩ := HC.out k hlt
        obtain ⟨d0, d1, d2, d3⟩ := HC'.out k hlm
        rcases HA.out with h0 | rfl
        · omega
        rcases HA'.out with h0 | rfl
        · omega
        clear HA HA'
        cases he : eqB (r k) (q k)
        · have hE := hid (HL.out.trans (allB_bad hlt he))
          generalize r k = x at c0 c1 c2 c3 he
          generalize q k = y at d0 d1 d2 d3 he
          obtain ⟨x0, x1, x2, x3⟩ := x
          obtain ⟨y0, y1, y2, y3⟩ := y
          have hd := eqB_ne he
          clear he
          simp only at c0 c1 c2 c3 d0 d1 d2 d3 hd
          rcases hd with ⟨e0, e0'⟩ | ⟨rfl, e0, e0'⟩ | ⟨rfl, rfl, e0, e0'⟩ | ⟨rfl, rfl, rfl, e0, e0'⟩
          all_goals
            go_wp2
            go_quiet (fail)
            go_wp2
            go_ret
            exact ⟨ret_bool hE.out.symm, by first | exact ⟨_, rfl⟩ | exact ⟨_, World.drewN_drewN _ _ _⟩⟩
        · have hst := hid (all_step hok.out he)
          have he' : r k = q k := eqB_eq he
          rw [he'] at c0 c1 c2 c3
          clear he he'
          generalize q k = x at c0 c1 c2 c3 d0 d1 d2 d3
          go_wp2
          go_quiet (fail)
          go_wp2
          go_roundw
          case rel => exact ⟨k + 1, by omega, by go_num, hst, by first | exact ⟨_, rfl⟩ | exact ⟨_, World.drewN_drewN _ _ _⟩⟩
          case measure => simp [intOf]; omega
      · obtain rfl : k = n := by omega
        have hE := hid (HL.out.trans (allB_end hok.out))
        go_wp2
        go_ret
        exact ⟨ret_bool hE.out.symm, n1, rfl⟩
  · have h2 : ((n : Int) != (m : Int)) = true := by simp; omega
    have hE := hid (sameR_len (r := r) (q := q) hlen)
    clear hlen
    go_enter Try.func39, Try.ntmps39
    go_wp2
    go_ret
    exact ⟨ret_bool hE.out.symm, by first | exact ⟨0, rfl⟩ | exact ⟨_, rfl⟩⟩
end Go.Proofs.Ytpkcnojcklmhmaa
