/- Crossings, in plain words: who is inside, and the first crossing that can't be. -/
import Derived.Test.YtikjgbfbbkmmcaaG01
namespace Go.Proofs.Ytikjgbfbbkmmcaa

/-- A number laid in its place. -/
def insK (n : Int) (s : List Int) : List Int := s.filter (fun y => decide (y < n)) ++ n :: s.filter (fun y => decide (n < y))
/-- Who is inside behind a crossing more, if it can be. -/
def crsT (s : List Int) (x : Int) : Option (List Int) :=
  if 0 < x then (if x ∈ s then none else some (insK x s)) else if x < 0 ∧ -x ∈ s then some (s.filter fun y => decide (y ≠ -x)) else none
/-- Who is inside behind the first k crossings, if they can be. -/
def crsK (l : List Int) : Nat → Option (List Int)
  | 0 => some []
  | k + 1 => match crsK l k with
    | none => none
    | some s => crsT s (l.getD k 0)
/-- The index of the first crossing that can't be, or -1. -/
def wrgK (l : List Int) : Int := match (List.range l.length).find? (fun k => (crsK l (k + 1)).isNone) with | some k => (k : Int) | none => -1
theorem insK_mem {n z : Int} {s : List Int} (h : n ∉ s) : z ∈ insK n s ↔ z = n ∨ z ∈ s := by
  unfold insK
  rw [List.mem_append, List.mem_cons, List.mem_filter, List.mem_filter]
  simp only [decide_eq_true_eq]
  constructor
  · rintro (⟨h1, _⟩ | h1 | ⟨h1, _⟩)
    · exact .inr h1
    · exact .inl h1
    · exact .inr h1
  · rintro (h1 | h1)
    · exact .inr (.inl h1)
    · rcases Int.lt_trichotomy z n with g | g | g
      · exact .inl ⟨h1, g⟩
      · exact absurd (g ▸ h1) h
      · exact .inr (.inr ⟨h1, g⟩)
theorem insK_asc {n : Int} {s : List Int} (hs : s.Pairwise (· < ·)) : (insK n s).Pairwise (· < ·) := by
  unfold insK
  rw [List.pairwise_append, List.pairwise_cons]
  refine ⟨hs.filter _, ⟨fun z hz => by simpa using (List.mem_filter.1 hz).2, hs.filter _⟩, fun u hu z hz => ?_⟩
  have h1 : u < n := by simpa using (List.mem_filter.1 hu).2
  rcases List.mem_cons.1 hz with rfl | hz
  · exact h1
  · have h2 : n < z := by simpa using (List.mem_filter.1 hz).2
    omega
theorem crsT_inv {s s' : List Int} {x : Int} (hs : s.Pairwise (· < ·)) (hp : ∀ y ∈ s, 0 < y) (h : crsT s x = some s') : s'.Pairwise (· < ·) ∧ (∀ y ∈ s', 0 < y) ∧ ((0 < x ∧ x ∉ s ∧ ∀ y, y ∈ s' ↔ y = x ∨ y ∈ s) ∨ (x < 0 ∧ -x ∈ s ∧ ∀ y, y ∈ s' ↔ y ∈ s ∧ y ≠ -x)) := by
  unfold crsT at h
  split at h
  · rename_i h1
    split at h
    · cases h
    · rename_i h2
      cases h
      refine ⟨insK_asc hs, fun y hy => ?_, .inl ⟨h1, h2, fun y => insK_mem h2⟩⟩
      rcases (insK_mem h2).1 hy with rfl | hy
      · exact h1
      · exact hp y hy
  · split at h
    · rename_i h2
      cases h
      refine ⟨hs.filter _, fun y hy => hp y (List.mem_filter.1 hy).1, .inr ⟨h2.1, h2.2, fun y => ?_⟩⟩
      rw [List.mem_filter]
      simp
    · cases h
theorem cntK_le (s : List Int) (n : Int) : s.countP (fun y => decide (y < n)) + s.countP (fun y => decide (n < y)) ≤ s.length := by
  induction s with
  | nil => simp
  | cons y s ih =>
    simp only [List.countP_cons, List.length_cons]
    by_cases h1 : y < n
    · have h2 : ¬ n < y := by omega
      simp [h1, h2]; omega
    · by_cases h2 : n < y
      · simp [h1, h2]; omega
      · simp [h1, h2]; omega
theorem crsK_inv (l : List Int) : ∀ {k : Nat} {s : List Int}, crsK l k = some s → s.Pairwise (· < ·) ∧ (∀ y ∈ s, 0 < y) ∧ s.length ≤ k
  | 0, s, h => by
    rw [crsK] at h
    cases h
    exact ⟨List.Pairwise.nil, fun y hy => by (cases hy), Nat.le_refl _⟩
  | k + 1, s, h => by
    rw [crsK] at h
    split at h
    · cases h
    · rename_i s0 h0
      obtain ⟨g1, g2, g3⟩ := crsK_inv l h0
      obtain ⟨e1, e2, _⟩ := crsT_inv g1 g2 h
      refine ⟨e1, e2, ?_⟩
      unfold crsT at h
      split at h
      · split at h
        · cases h
        · cases h
          unfold insK
          have h1 : (s0.filter fun y => decide (y < l.getD k 0)).length + (s0.filter fun y => decide (l.getD k 0 < y)).length ≤ s0.length := by
            rw [← List.countP_eq_length_filter, ← List.countP_eq_length_filter]
            have := cntK_le s0 (l.getD k 0)
            exact this
          rw [List.length_append, List.length_cons]
          omega
      · split at h
        · cases h
          have := List.length_filter_le (fun y => decide (y ≠ -l.getD k 0)) s0
          omega
        · cases h
theorem crsK_ok (l : List Int) {k : Nat} {s : List Int} (h : crsK l k = some s) : ∀ j, j ≤ k → (crsK l j).isSome = true := by
  induction k generalizing s with
  | zero => intro j hj; rw [show j = 0 by omega]; rfl
  | succ k ih =>
    intro j hj
    by_cases e : j = k + 1
    · rw [e, h]; rfl
    · rw [crsK] at h
      split at h
      · cases h
      · rename_i s0 h0
        exact ih h0 j (by omega)
theorem wrgK_at {l : List Int} {k : Nat} {s : List Int} (hk : k < l.length) (h : crsK l k = some s) (hn : crsK l (k + 1) = none) : wrgK l = (k : Int) := by
  unfold wrgK
  have : (List.range l.length).find? (fun k => (crsK l (k + 1)).isNone) = some k := by
    rw [List.find?_range_eq_some]
    refine ⟨by rw [hn]; rfl, by simpa using hk, fun j hj => ?_⟩
    have := crsK_ok l h (j + 1) (by omega)
    rw [Option.isNone_eq_false_iff.2 this]
    rfl
  rw [this]
theorem wrgK_no {l : List Int} {s : List Int} (h : crsK l l.length = some s) : wrgK l = -1 := by
  unfold wrgK
  have : (List.range l.length).find? (fun k => (crsK l (k + 1)).isNone) = none := by
    rw [List.find?_eq_none]
    intro j hj
    have := List.mem_range.1 hj
    have := crsK_ok l h (j + 1) (by omega)
    rw [Option.isNone_eq_false_iff.2 this]
    simp
  rw [this]
end Go.Proofs.Ytikjgbfbbkmmcaa
