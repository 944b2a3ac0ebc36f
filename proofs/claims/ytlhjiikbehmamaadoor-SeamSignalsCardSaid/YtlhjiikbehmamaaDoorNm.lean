/- Plain facts of SeamSignals: signals up to an index do not depend on later values; slices of beginnings. -/
import Derived.Test.YtlhjiikbehmamaaDoorNl
namespace Go.Proofs.YtlhjiikbehmamaaDoor
open Go.RowKit

theorem ix_at {adj : List Int} {n : Int} (h : ixB adj n = true) {j : Nat} (hj : j < adj.length) : inB (adj.getD j 0) (loI adj j) (n - 1) = true := allB_iff.1 h j hj
theorem ix_up {adj : List Int} {n : Int} (h : ixB adj n = true) {i : Nat} : ∀ d, i + d < adj.length → adj.getD i 0 ≤ adj.getD (i + d) 0
  | 0, _ => Int.le_refl _
  | d + 1, hd => by
    have ih := ix_up h (i := i) d (by omega)
    have h1 := inB_iff.1 (ix_at h hd)
    have h2 : loI adj (i + (d + 1)) = adj.getD (i + d) 0 + 1 := rfl
    rw [h2] at h1
    omega
theorem getD_take {adj : List Int} {k j : Nat} (h : j < k) : (adj.take k).getD j 0 = adj.getD j 0 := by
  simp only [List.getD_eq_getElem?_getD, List.getElem?_take_of_lt h]
theorem loI_take {adj : List Int} {k : Nat} : ∀ j, j < k → loI (adj.take k) j = loI adj j
  | 0, _ => rfl
  | j + 1, h => by simp only [loI]; rw [getD_take (by omega)]
/-- The first k adjustments are those before h. -/
structure CutK (adj : List Int) (h k : Nat) : Prop where
  le : k ≤ adj.length
  before : ∀ j, j < k → adj.getD j 0 < (h : Int)
  behind : k < adj.length → (h : Int) ≤ adj.getD k 0
theorem stA_take {adj : List Int} {n : Int} {h k : Nat} (hix : ixB adj n = true) (hc : CutK adj h k) : ∀ i, i ≤ h → stA (adj.take k) i = stA adj i
  | 0, _ => rfl
  | i + 1, hi => by
    have ih := stA_take hix hc i (by omega)
    have e : (adj.take k)[(stA adj i).2]? = some (i : Int) ↔ adj[(stA adj i).2]? = some (i : Int) := by
      by_cases hp : (stA adj i).2 < k
      · rw [List.getElem?_take_of_lt hp]
      · rw [List.getElem?_eq_none (by rw [List.length_take]; omega)]
        constructor
        · intro g; cases g
        · intro g
          have hl : (stA adj i).2 < adj.length := by
            rcases Nat.lt_or_ge (stA adj i).2 adj.length with g1 | g1
            · exact g1
            · rw [List.getElem?_eq_none g1] at g; cases g
          have h1 := hc.behind (by omega)
          obtain ⟨d, hd⟩ : ∃ d, (stA adj i).2 = k + d := ⟨(stA adj i).2 - k, by omega⟩
          have h2 := ix_up hix (i := k) d (by rw [← hd]; exact hl)
          rw [← hd] at h2
          have h3 : adj.getD (stA adj i).2 0 = (i : Int) := by rw [List.getD_eq_getElem?_getD, g]; rfl
          omega
    rw [stA, stA, ih]
    by_cases g : adj[(stA adj i).2]? = some (i : Int)
    · rw [if_pos g, if_pos (e.2 g)]
    · rw [if_neg g, if_neg (fun x => g (e.1 x))]
theorem sgL_take {M S : Int} {l adj : List Int} {n : Int} {h k : Nat} (hix : ixB adj n = true) (hc : CutK adj h k) : ∀ i, i ≤ h → sgL M S (l.take h) (adj.take k) i = sgL M S l adj i
  | 0, _ => rfl
  | i + 1, hi => by
    have hR : ∀ b j, sgR M S (l.take h) b i j = sgR M S l b i j := fun b j => by
      unfold sgR
      rw [List.take_take, Nat.min_eq_left hi]
    have hI : ∀ b j, sgI M S (l.take h) b i j = sgI M S l b i j := fun b j => by
      induction j with
      | zero => rfl
      | succ j ih => rw [sgI, sgI, hR, ih]
    rw [sgL, sgL, sgL_take hix hc i (by omega), hI, stA_take hix hc (i + 1) hi]
theorem ix_take {adj : List Int} {n : Int} {h k : Nat} (hix : ixB adj n = true) (hc : CutK adj h k) : ixB (adj.take k) (h : Int) = true := by
  refine allB_end fun j hj => ?_
  rw [List.length_take] at hj
  have hk : j < k := by omega
  rw [getD_take hk, loI_take j hk]
  have h1 := inB_iff.1 (ix_at hix (show j < adj.length by omega))
  have h2 := hc.before j hk
  exact inB_iff.2 ⟨h1.1, by omega⟩
theorem sgE_ok {M S : Int} {l adj : List Int} (h : sgE M S l adj = 0) : chB M S = true ∧ vlB l = true ∧ ixB adj l.length = true := by
  unfold sgE at h
  cases h1 : chB M S
  · rw [h1] at h; simp at h
  cases h2 : vlB l
  · rw [h1, h2] at h; simp at h
  cases h3 : ixB adj l.length
  · rw [h1, h2, h3] at h; simp at h
  exact ⟨rfl, rfl, rfl⟩
theorem sgE_take {M S : Int} {l adj : List Int} {h k : Nat} (hE : sgE M S l adj = 0) (hh : h ≤ l.length) (hc : CutK adj h k) : sgE M S (l.take h) (adj.take k) = 0 ∧ sgL M S (l.take h) (adj.take k) (l.take h).length = sgL M S l adj h := by
  obtain ⟨h1, h2, h3⟩ := sgE_ok hE
  have hlen : (l.take h).length = h := by rw [List.length_take]; omega
  have hv : vlB (l.take h) = true := by
    obtain ⟨g1, g2⟩ := vlB_iff.1 h2
    exact vlB_iff.2 ⟨by rw [hlen]; omega, fun x hx => g2 x (List.mem_of_mem_take hx)⟩
  refine ⟨?_, ?_⟩
  · unfold sgE
    rw [h1, hv, hlen, ix_take h3 hc]; rfl
  · rw [hlen]; exact sgL_take h3 hc h (Nat.le_refl _)
theorem sgI_x {M S : Int} {l : List Int} {b i : Nat} : ∀ j, ∀ p ∈ sgI M S l b i j, p.x = (i : Int)
  | 0, p, hp => by simp [sgI] at hp
  | j + 1, p, hp => by
    cases h : sgR M S l b i j
    · rw [sgI_no h] at hp; exact sgI_x j p hp
    · rw [sgI_yes h] at hp
      rcases List.mem_append.1 hp with g | g
      · exact sgI_x j p g
      · simp only [List.mem_singleton] at g; rw [g]
theorem sgL_lt {M S : Int} {l adj : List Int} : ∀ i, ∀ p ∈ sgL M S l adj i, p.x < (i : Int)
  | 0, p, hp => by simp [sgL] at hp
  | i + 1, p, hp => by
    rw [sgL] at hp
    rcases List.mem_append.1 hp with g | g
    · have := sgL_lt i p g; omega
    · have := sgI_x 3 p g; omega
theorem sgL_more {M S : Int} {l adj : List Int} {h : Nat} : ∀ d, ∃ r, sgL M S l adj (h + d) = sgL M S l adj h ++ r ∧ ∀ p ∈ r, (h : Int) ≤ p.x
  | 0 => ⟨[], by simp, fun p hp => by cases hp⟩
  | d + 1 => by
    obtain ⟨r, h1, h2⟩ := sgL_more d
    refine ⟨r ++ sgI M S l (stA adj (h + d + 1)).1 (h + d) 3, by rw [← Nat.add_assoc, sgL, h1, List.append_assoc], fun p hp => ?_⟩
    rcases List.mem_append.1 hp with g | g
    · exact h2 p g
    · have := sgI_x 3 p g; omega
/-- The first q of some pairs are those before h. -/
structure CutQ (a : List Pr) (h q : Nat) : Prop where
  le : q ≤ a.length
  before : ∀ j (hj : j < a.length), j < q → a[j].x < (h : Int)
  behind : ∀ (hq : q < a.length), (h : Int) ≤ a[q].x
theorem cutQ_list {M S : Int} {l adj : List Int} {n h q : Nat} (hh : h ≤ n) (hc : CutQ (sgL M S l adj n) h q) : (sgL M S l adj n).take q = sgL M S l adj h := by
  obtain ⟨r, h1, h2⟩ := sgL_more (M := M) (S := S) (l := l) (adj := adj) (h := h) (n - h)
  rw [show h + (n - h) = n by omega] at h1
  have hle := hc.le
  have hb := hc.before
  have hbe := hc.behind
  have h3 := sgL_lt (M := M) (S := S) (l := l) (adj := adj) h
  generalize sgL M S l adj h = A at *
  generalize sgL M S l adj n = B at *
  subst h1
  have hq : q = A.length := by
    rcases Nat.lt_trichotomy q A.length with g | g | g
    · have e : (A ++ r)[q]'(by rw [List.length_append]; omega) = A[q] := List.getElem_append_left g
      have k1 := hbe (by rw [List.length_append]; omega)
      rw [e] at k1
      have := h3 A[q] (List.getElem_mem _)
      omega
    · exact g
    · rw [List.length_append] at hle
      have hr : 0 < r.length := by omega
      have e : (A ++ r)[A.length]'(by rw [List.length_append]; omega) = r[0] := by rw [List.getElem_append_right (Nat.le_refl _)]; simp
      have k1 := hb A.length (by rw [List.length_append]; omega) g
      rw [e] at k1
      have := h2 r[0] (List.getElem_mem _)
      omega
  rw [hq]
  simp
end Go.Proofs.YtlhjiikbehmamaaDoor
