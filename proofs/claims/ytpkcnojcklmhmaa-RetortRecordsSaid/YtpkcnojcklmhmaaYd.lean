/- Walks of Part of both: contracts. -/
import Derived.Test.YtpkcnojcklmhmaaYb
import Derived.Test.YtpkcnojcklmhmaaYc
namespace Go.Proofs.Ytpkcnojcklmhmaa
open Go.RowKit

/-- What Part answers. -/
def PartV (m : Nat) (p : Nat → St) (n : Nat) (r : Nat → Rd) (st a b c : Int) : Prop :=
  (recB m p n r = false ∧ a = 0 ∧ b = 0 ∧ c = 1) ∨ (recB m p n r = true ∧ inB st 0 ((m : Int) - 1) = false ∧ a = 0 ∧ b = 0 ∧ c = 7) ∨
  (recB m p n r = true ∧ inB st 0 ((m : Int) - 1) = true ∧ ∃ f t : Nat, PartP n r st f t ∧ (f = t ∧ a = 0 ∧ b = 0 ∧ c = 8 ∨ f ≠ t ∧ a = f ∧ b = t ∧ c = 0))
def PartE (m : Nat) (p : Nat → St) (n : Nat) (r : Nat → Rd) (st : Int) (w : World) (e : Ending) (w' : World) : Prop :=
  ∃ a b c : Int, e = .returned (.tuple #[.int .i64 a, .int .i64 b, .int .i64 c]) ∧ PartV m p n r st a b c ∧ Below w.heap.size w w'
theorem PartV.one {m : Nat} {p : Nat → St} {n : Nat} {r : Nat → Rd} {st a b c a2 b2 c2 : Int} (h : PartV m p n r st a b c) (g : PartV m p n r st a2 b2 c2) : a = a2 ∧ b = b2 ∧ c = c2 := by
  rcases h with ⟨h1, rfl, rfl, rfl⟩ | ⟨h1, h2, rfl, rfl, rfl⟩ | ⟨h1, h2, f, t, h3, h4⟩ <;> rcases g with ⟨g1, rfl, rfl, rfl⟩ | ⟨g1, g2, rfl, rfl, rfl⟩ | ⟨g1, g2, f2, t2, g3, g4⟩
  all_goals first
    | exact ⟨rfl, rfl, rfl⟩
    | (rw [h1] at g1; cases g1; done)
    | (rw [h2] at g2; cases g2; done)
    | skip
  obtain ⟨rfl, rfl⟩ := h3.one g3
  rcases h4 with ⟨h5, rfl, rfl, rfl⟩ | ⟨h5, rfl, rfl, rfl⟩ <;> rcases g4 with ⟨g5, rfl, rfl, rfl⟩ | ⟨g5, rfl, rfl, rfl⟩
  · exact ⟨rfl, rfl, rfl⟩
  · exact absurd h5 g5
  · exact absurd g5 h5
  · exact ⟨rfl, rfl, rfl⟩
theorem mono_of {n : Nat} {s : Nat → Int} (h : ∀ j, j + 1 < n → s j ≤ s (j + 1)) : ∀ i j, i ≤ j → j < n → s i ≤ s j := by
  intro i j
  induction j with
  | zero => intro h1 _; have : i = 0 := by omega
            subst this; omega
  | succ j ih =>
    intro h1 h2
    rcases Nat.lt_or_ge i (j + 1) with h3 | h3
    · have := ih (by omega) (by omega); have := h j h2; omega
    · have : i = j + 1 := by omega
      subst this; omega
theorem rec_mono {m : Nat} {p : Nat → St} {n : Nat} {r : Nat → Rd} (h : recB m p n r = true) : n ≤ 2000 ∧ ∀ i j, i ≤ j → j < n → (r i).s ≤ (r j).s := by
  unfold recB at h
  simp only [Bool.and_eq_true, decide_eq_true_eq] at h
  refine ⟨h.1.2, mono_of (s := fun j => (r j).s) fun j hj => ?_⟩
  have h1 := allB_iff.1 h.2 (j + 1) hj
  rw [recAt_eq, Bool.and_eq_true, inB_iff] at h1
  exact h1.1.1
theorem found_low {n : Nat} {r : Nat → Rd} {st : Int} {q : Nat} (hm : ∀ i j, i ≤ j → j < n → (r i).s ≤ (r j).s) (h : FoundB n (fun m => decide (st ≤ (r m).s)) q) : ∀ j, j < q → (r j).s < st := by
  intro j hj
  obtain ⟨h1, h2, _⟩ := h
  rcases h2 with h2 | h2
  · omega
  · have := hm j (q - 1) (by omega) (by omega)
    simp only [decide_eq_false_iff_not] at h2
    omega
theorem found_high {n : Nat} {r : Nat → Rd} {st : Int} {q : Nat} (hm : ∀ i j, i ≤ j → j < n → (r i).s ≤ (r j).s) (h : FoundB n (fun m => decide (st ≤ (r m).s)) q) : ∀ j, q ≤ j → j < n → st ≤ (r j).s := by
  intro j hj hn
  obtain ⟨h1, _, h3⟩ := h
  rcases h3 with h3 | h3
  · omega
  · have := hm q j hj hn
    simp only [decide_eq_true_eq] at h3
    omega
theorem part_none {n : Nat} {r : Nat → Rd} {st : Int} {q1 q2 : Nat} (hm : ∀ i j, i ≤ j → j < n → (r i).s ≤ (r j).s) (h : FoundB n (fun m => decide (st ≤ (r m).s)) q1) (g : FoundB n (fun m => decide (st + 1 ≤ (r m).s)) q2) (e : q1 = q2) : PartP n r st n n := by
  subst e
  refine ⟨Nat.le_refl _, Nat.le_refl _, fun j hj => ?_, .inl rfl, fun j h1 h2 => absurd h1 (Nat.not_le.2 h2), .inl rfl⟩
  rcases Nat.lt_or_ge j q1 with h1 | h1
  · have := found_low hm h j h1; omega
  · have := found_high hm g j h1 hj; omega
theorem part_some {n : Nat} {r : Nat → Rd} {st : Int} {q1 q2 : Nat} (hm : ∀ i j, i ≤ j → j < n → (r i).s ≤ (r j).s) (h : FoundB n (fun m => decide (st ≤ (r m).s)) q1) (g : FoundB n (fun m => decide (st + 1 ≤ (r m).s)) q2) (e : q1 ≠ q2) : PartP n r st q1 q2 := by
  have h1 := h.1
  have g1 := g.1
  have hle : q1 < q2 := by
    rcases Nat.lt_trichotomy q1 q2 with h3 | h3 | h3
    · exact h3
    · exact absurd h3 e
    · have := found_low hm h q2 h3
      have := found_high hm g q2 (Nat.le_refl _) (by omega)
      omega
  have hmid : ∀ j, q1 ≤ j → j < q2 → (r j).s = st := fun j h3 h4 => by
    have := found_high hm h j h3 (by omega)
    have := found_low hm g j h4
    omega
  refine ⟨by omega, g1, fun j hj => ?_, .inr (hmid q1 (Nat.le_refl _) hle), hmid, ?_⟩
  · have := found_low hm h j hj; omega
  · rcases Nat.lt_or_ge q2 n with h3 | h3
    · refine .inr ?_
      have := found_high hm g q2 (Nat.le_refl _) h3
      omega
    · exact .inl (by omega)
end Go.Proofs.Ytpkcnojcklmhmaa
