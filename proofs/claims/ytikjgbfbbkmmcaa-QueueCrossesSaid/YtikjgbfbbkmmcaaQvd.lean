/- First come first served as a list of starts; the plan, in plain words. -/
import Derived.Test.YtikjgbfbbkmmcaaG02
import Derived.Test.YtikjgbfbbkmmcaaQug
import Derived.Test.YtikjgbfbbkmmcaaQuc
namespace Go.Proofs.Ytikjgbfbbkmmcaa
open Go.RowKit

/-- A start. -/
structure Sst where
  b : Int
  v : Int
  t : Int
instance : Inhabited Sst := ⟨⟨0, 0, 0⟩⟩
def encS : Enc Sst where
  cs b := [.int .i64 b.b, .int .i64 b.v, .int .i64 b.t]
  n := 3
  len _ := rfl
  one := by
    intro x u hu
    simp only [List.mem_cons, List.not_mem_nil, or_false] at hu
    rcases hu with rfl | rfl | rfl <;> rfl
/-- The vessels as the pool's structs: number, free. -/
def encV : Enc Pr where
  cs b := [.int .i64 b.x, .int .i64 b.y]
  n := 2
  len _ := rfl
  one := by
    intro x u hu
    simp only [List.mem_cons, List.not_mem_nil, or_false] at hu
    rcases hu with rfl | rfl <;> rfl
section
variable (c : Nat → Int) (m : Nat) (p : Int)
/-- When vessels are free behind k baskets; which one is taken for the k-th; when it starts. -/
def fcF (k : Nat) : List Int := (srv c m p k).1
def fcV (k : Nat) : Nat := argM (fcF c m p k)
def fcT (k : Nat) : Int := max (c k) ((fcF c m p k).getD (fcV c m p k) 0)
def fcK (k : Nat) : Sst := ⟨k, fcV c m p k, fcT c m p k⟩
def fcL (n : Nat) : List Sst := (List.range n).map (fcK c m p)
theorem fcF_succ (k : Nat) : fcF c m p (k + 1) = (fcF c m p k).set (fcV c m p k) (fcT c m p k + p) := rfl
theorem fcL_len (n : Nat) : (fcL c m p n).length = n := by simp [fcL]
theorem fcL_at {n k : Nat} (h : k < (fcL c m p n).length) : (fcL c m p n)[k] = fcK c m p k := by simp [fcL]
theorem fcL_get {n k : Nat} (h : k < n) : (fcL c m p n)[k]? = some (fcK c m p k) := by simp [fcL, h]
theorem fcL_take {n k : Nat} (h : k ≤ n) : (fcL c m p n).take k = fcL c m p k := by
  refine List.ext_getElem? fun j => ?_
  rw [List.getElem?_take]
  by_cases hj : j < k
  · rw [if_pos hj, fcL_get c m p (by omega), fcL_get c m p hj]
  · rw [if_neg hj, List.getElem?_eq_none (by rw [fcL_len]; omega)]
theorem fcL_succ (k : Nat) : fcL c m p (k + 1) = fcL c m p k ++ [fcK c m p k] := by
  unfold fcL
  rw [List.range_succ, List.map_append]
  rfl
theorem fcF_len (k : Nat) : (fcF c m p k).length = m := (srv_len k).2
theorem srv_list : ∀ n, (srv c m p n).2 = (List.range n).map fun k => (fcV c m p k, fcT c m p k)
  | 0 => rfl
  | n + 1 => by
    have e : (srv c m p (n + 1)).2 = (srv c m p n).2 ++ [(fcV c m p n, fcT c m p n)] := rfl
    rw [e, srv_list n, List.range_succ, List.map_append]
    rfl
end
section
variable {c : Nat → Int} {m : Nat} {p : Int}
theorem fcT_eq (hm : 0 < m) (h0 : ∀ i, 0 ≤ c i) (hc : ∀ i, c i ≤ c (i + 1)) (hp : 0 ≤ p) (k : Nat) : fcT c m p k = fcS c m p k := by
  have h := srv_at (c := c) (m := m) (p := p) hm h0 hc hp (n := k + 1) (i := k) (by rw [(srv_len (k + 1)).1]; omega)
  rw [← h]
  simp [srv_list c m p (k + 1)]
theorem fcT_nonneg (h0 : ∀ i, 0 ≤ c i) (k : Nat) : 0 ≤ fcT c m p k := by have := h0 k; unfold fcT; omega
theorem fcS_most {M : Int} (hm : 0 < m) (hM : ∀ i, c i ≤ M) (hp : 0 ≤ p) (k : Nat) : fcS c m p k ≤ M + (k : Int) * p := by
  induction k using Nat.strongRecOn with
  | ind k ih =>
    by_cases h : k < m
    · rw [fcS_lt h]
      have := hM k
      have : 0 ≤ (k : Int) * p := Int.mul_nonneg (by omega) hp
      omega
    · rw [fcS_ge hm (by omega)]
      have h1 := ih (k - m) (by omega)
      have h2 := hM k
      have h3 : 0 ≤ (k : Int) * p := Int.mul_nonneg (by omega) hp
      have h4 : ((k - m : Nat) : Int) * p + p ≤ (k : Int) * p := by
        have h5 : (((k - m : Nat) : Int) + 1) * p ≤ (k : Int) * p := Int.mul_le_mul_of_nonneg_right (by omega) hp
        rw [Int.add_mul, Int.one_mul] at h5
        exact h5
      omega
/-- No start of 500 baskets is far. -/
theorem fcT_far (hm : 0 < m) (h0 : ∀ i, 0 ≤ c i) (hc : ∀ i, c i ≤ c (i + 1)) (hM : ∀ i, c i ≤ 100000000) (hp : 0 ≤ p) (hp2 : p ≤ 100000000) {k : Nat} (hk : k < 500) : fcT c m p k + p ≤ 60000000000 := by
  rw [fcT_eq hm h0 hc hp]
  have h1 := fcS_most hm hM hp k
  have h2 : (k : Int) * p ≤ 499 * 100000000 := Int.mul_le_mul (by omega) hp2 hp (by omega)
  omega
theorem fcT_back (hm : 0 < m) (h0 : ∀ i, 0 ≤ c i) (hc : ∀ i, c i ≤ c (i + 1)) (hp : 0 ≤ p) {k : Nat} (h : c k < fcT c m p k) : m ≤ k ∧ fcT c m p k = fcT c m p (k - m) + p := by
  rw [fcT_eq hm h0 hc hp] at h ⊢
  rw [fcT_eq hm h0 hc hp]
  have hk : m ≤ k := by
    refine Decidable.byContradiction fun g => ?_
    rw [fcS_lt (by omega)] at h
    omega
  rw [fcS_ge hm hk] at h ⊢
  exact ⟨hk, by omega⟩
end
/-- The proof that the last basket is late: it goes back q times m places to one that did not wait. -/
structure RsnP (c : Nat → Int) (m : Nat) (p : Int) (f last : Nat) : Prop where
  ex : ∃ q : Nat, last = f + q * m ∧ fcT c m p last = c f + (q : Int) * p ∧ fcT c m p f = c f
theorem rsn_ok {c : Nat → Int} {m : Nat} {p w : Int} {n f last : Nat} (hw : 0 ≤ w) (h : RsnP c m p f last) (hl : last < n) (hlate : c last + w < fcT c m p last) : ProofOk c m p w n f last := by
  obtain ⟨q, h1, h2, h3⟩ := h.ex
  refine ⟨q, ?_, h1, hl, by omega⟩
  rcases Nat.eq_zero_or_pos q with rfl | hq
  · simp only [Nat.zero_mul, Nat.add_zero] at h1
    subst h1
    simp at h2
    omega
  · exact hq
end Go.Proofs.Ytikjgbfbbkmmcaa
