/- Walk of the reference's part: contract. -/
import Derived.Test.YtpkdainpmgohiaaYb
namespace Go.Proofs.Ytpkdainpmgohiaa
open Go.RowKit

/-- A step's first and last stretch of readings. -/
structure PartP (n : Nat) (r : Nat → Rd) (st : Int) (f t : Nat) : Prop where
  le : f ≤ t
  top : t ≤ n
  before : ∀ j, j < f → (r j).s ≠ st
  at_f : f = n ∨ (r f).s = st
  mid : ∀ j, f ≤ j → j < t → (r j).s = st
  at_t : t = n ∨ (r t).s ≠ st
theorem PartP.one {n : Nat} {r : Nat → Rd} {st : Int} {f t f2 t2 : Nat} (h : PartP n r st f t) (g : PartP n r st f2 t2) : f = f2 ∧ t = t2 := by
  have hf : f = f2 := by
    rcases Nat.lt_trichotomy f f2 with h1 | h1 | h1
    · rcases h.at_f with h2 | h2
      · have := g.le; have := g.top; omega
      · exact absurd h2 (g.before f h1)
    · exact h1
    · rcases g.at_f with h2 | h2
      · have := h.le; have := h.top; omega
      · exact absurd h2 (h.before f2 h1)
  subst hf
  refine ⟨rfl, ?_⟩
  rcases Nat.lt_trichotomy t t2 with h1 | h1 | h1
  · rcases h.at_t with h2 | h2
    · have := g.top; omega
    · exact absurd (g.mid t h.le h1) h2
  · exact h1
  · rcases g.at_t with h2 | h2
    · have := h.top; omega
    · exact absurd (h.mid t2 g.le h1) h2
set_option maxRecDepth 20000 in
set_option maxHeartbeats 4000000 in
theorem xpart_any (v : Value) (n : Nat) (r : Nat → Rd) (st : Int) (w : World) (hr : RowR w v n r) :
    Calls Try.prog 106 #[v, .int .i64 st] w fun e w' => ∃ f t : Nat, PartP n r st f t ∧ e = .returned (.tuple #[.int .i64 f, .int .i64 t]) ∧ Below w.heap.size w w' := by
  have HK := hid (fun w1 (g : Below w.heap.size w w1) => hr.keep g)
  have hnm := hr.most
  unfold maxLen at hnm
  obtain ⟨a, c, rfl⟩ := hr.shape
  clear hr
  go_enter Try.func106, Try.ntmps106
  go_wp2
  go_loopw [6] (fun t wr => ∃ k : Nat, k ≤ n ∧ t = .int .i64 (k : Int) ∧ Hid (∀ j, j < k → (r j).s ≠ st) ∧ Hid (Below w.heap.size w wr)) (fun t _ => n - (intOf t).toNat)
  case atStart => exact ⟨0, Nat.zero_le _, rfl, fun j h => absurd h (Nat.not_lt_zero _), Below.refl _ _⟩
  case round =>
    obtain ⟨k, hk, rfl, hok, hB⟩ := hrel
    by_cases hlt : k < n
    · have hlt' : (k : Int) < n := by omega
      obtain ⟨a', b', o', cap', hv, _, _, ha', hcell⟩ := HK.out _ hB.out
      injection hv with hv1 hv2 hv3
      subst hv1 hv3
      rcases ha' with h0 | rfl
      · omega
      obtain ⟨c0, c1, c2, c3⟩ := hcell k hlt
      clear hcell hv2 c1 c2 c3
      obtain ⟨x, hx⟩ : ∃ x, x = (r k).s := ⟨_, rfl⟩
      have HX := hid hx
      rw [← hx] at c0
      clear hx
      have HI := hid hlt
      clear hlt
      by_cases e1 : x = st
      · have f1 : (x != st) = false := by rw [e1]; simp
        have hf : k = n ∨ (r k).s = st := .inr (by rw [← HX.out]; exact e1)
        clear e1
        have HF := hid hf
        clear hf
        go_wp2
        go_loopw [7] (fun t w2 => ∃ j : Nat, k ≤ j ∧ j ≤ n ∧ t = .int .i64 (j : Int) ∧ Hid (∀ i, k ≤ i → i < j → (r i).s = st) ∧ Hid (Below w.heap.size w w2)) (fun t _ => n - (intOf t).toNat)
        case atStart => exact ⟨k, Nat.le_refl _, hk, rfl, fun i h1 h2 => absurd h1 (Nat.not_le.2 h2), by first | exact hB | exact hid (bdrewN hB.out)⟩
        case round =>
          obtain ⟨j, hkj, hj, rfl, hok2, hB2⟩ := hrel
          by_cases hlt2 : j < n
          · have hlt2' : (j : Int) < n := by omega
            obtain ⟨a2, b2, o2, cap2, hv, _, _, ha2, hcell2⟩ := HK.out _ hB2.out
            injection hv with hv1 hv2 hv3
            subst hv1 hv3
            rcases ha2 with h0 | h0
            · omega
            cases h0
            obtain ⟨d0, d1, d2, d3⟩ := hcell2 j hlt2
            clear hcell2 hv2 d1 d2 d3
            obtain ⟨y, hy⟩ : ∃ y, y = (r j).s := ⟨_, rfl⟩
            have HY := hid hy
            rw [← hy] at d0
            clear hy
            have HJ := hid hlt2
            clear hlt2
            by_cases e2 : y = st
            · have g1 : (y == st) = true := by rw [e2]; simp
              have HS := hid (show ∀ i, k ≤ i → i < j + 1 → (r i).s = st from fun i h1 h2 => by
                rcases Nat.lt_succ_iff_lt_or_eq.1 h2 with h3 | h3
                · exact hok2.out i h1 h3
                · rw [h3, ← HY.out]; exact e2)
              go_wp2
              go_roundw
              case rel => exact ⟨j + 1, by omega, by have := HJ.out; omega, by go_num, HS, hB2⟩
              case measure => have := HJ.out; simp [intOf]; omega
            · have g1 : (y == st) = false := by simpa using e2
              have HE := hid (show PartP n r st k j from ⟨hkj, hj, hok.out, HF.out, hok2.out, .inr (by rw [← HY.out]; exact e2)⟩)
              go_wp2
              refine bodyPost_ret (v := .tuple #[.int .i64 (k : Int), .int .i64 (j : Int)]) (by simp [results, Try.results106, go_sem]) rfl ?_
              exact ⟨k, j, HE.out, rfl, hB2.out⟩
          · obtain rfl : j = n := by omega
            have HE := hid (show PartP j r st k j from ⟨hkj, hj, hok.out, HF.out, hok2.out, .inl rfl⟩)
            go_wp2
            refine bodyPost_ret (v := .tuple #[.int .i64 (k : Int), .int .i64 (j : Int)]) (by simp [results, Try.results106, go_sem]) rfl ?_
            exact ⟨k, j, HE.out, rfl, hB2.out⟩
      · have f1 : (x != st) = true := by simpa using e1
        have HS := hid (show ∀ j, j < k + 1 → (r j).s ≠ st from fun j hj => by
          rcases Nat.lt_succ_iff_lt_or_eq.1 hj with h3 | h3
          · exact hok.out j h3
          · rw [h3, ← HX.out]; exact e1)
        go_wp2
        go_roundw
        case rel => exact ⟨k + 1, by have := HI.out; omega, by go_num, HS, hB⟩
        case measure => have := HI.out; simp [intOf]; omega
    · have hf : k = n ∨ (r k).s = st := .inl (by omega)
      have hlt' : ¬ (k : Int) < n := by omega
      have HF := hid hf
      clear hf
      go_wp2
      go_loopw [7] (fun t w2 => ∃ j : Nat, k ≤ j ∧ j ≤ n ∧ t = .int .i64 (j : Int) ∧ Hid (∀ i, k ≤ i → i < j → (r i).s = st) ∧ Hid (Below w.heap.size w w2)) (fun t _ => n - (intOf t).toNat)
      case atStart => exact ⟨k, Nat.le_refl _, hk, rfl, fun i h1 h2 => absurd h1 (Nat.not_le.2 h2), by first | exact hB | exact hid (bdrewN hB.out)⟩
      case round =>
        obtain ⟨j, hkj, hj, rfl, hok2, hB2⟩ := hrel
        by_cases hlt2 : j < n
        · exfalso; omega
        · obtain rfl : j = n := by omega
          have HE := hid (show PartP j r st k j from ⟨hkj, hj, hok.out, HF.out, hok2.out, .inl rfl⟩)
          go_wp2
          refine bodyPost_ret (v := .tuple #[.int .i64 (k : Int), .int .i64 (j : Int)]) (by simp [results, Try.results106, go_sem]) rfl ?_
          exact ⟨k, j, HE.out, rfl, hB2.out⟩
end Go.Proofs.Ytpkdainpmgohiaa
