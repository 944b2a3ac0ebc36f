/- The reference's After in plain words: what it reads, what it makes of a place, the temperatures as far as a place. -/
import Derived.Test.YtedfajokiblfhaaA1
namespace Go.Proofs.Ytedfajokiblfhaa

/-- The four places about a place, as the reference reads them. -/
def inV (R : Nat) (T : List Int) (r l : Nat) : Int := if 0 < r then T.getD (l * R + r - 1) 0 else 0
def outV (R : Nat) (T : List Int) (b : Int) (r l : Nat) : Int := if r + 1 < R then T.getD (l * R + r + 1) 0 else b
def lowV (R : Nat) (T : List Int) (b : Int) (r l : Nat) : Int := if 0 < l then T.getD ((l - 1) * R + r) 0 else b
def highV (R L : Nat) (T : List Int) (b : Int) (r l : Nat) : Int := if l + 1 < L then T.getD ((l + 1) * R + r) 0 else b
theorem near_at {R L : Nat} {T : List Int} {b : Int} {p q : Nat} (hp : p < R) (hq : q < L) : nearT R L T b (p : Int) (q : Int) = T.getD (q * R + p) 0 := by
  rw [nearT_in ⟨by omega, by omega, by omega, by omega⟩, ← Int.natCast_mul, ← Int.natCast_add, Int.toNat_natCast]
theorem mix_ref {R L : Nat} {A B : Int} {T : List Int} {b : Int} {r l : Nat} (hr : r < R) (hl : l < L) :
    mixT R L A B T b r l = (2 * A * r * inV R T r l + 2 * A * (r + 1) * outV R T b r l + (2 * r + 1) * (B * lowV R T b r l + B * highV R L T b r l + (1000 - 2 * A - 2 * B) * T.getD (l * R + r) 0)) / (1000 * (2 * r + 1)) := by
  have h5 : nearT R L T b r l = T.getD (l * R + r) 0 := near_at hr hl
  have h2 : nearT R L T b ((r : Int) + 1) l = outV R T b r l := by
    unfold outV
    by_cases h : r + 1 < R
    · rw [if_pos h, show (r : Int) + 1 = ((r + 1 : Nat) : Int) by omega, near_at h hl, Nat.add_assoc]
    · rw [if_neg h, nearT_out (by omega)]
  have h3 : nearT R L T b r ((l : Int) - 1) = lowV R T b r l := by
    unfold lowV
    by_cases h : 0 < l
    · rw [if_pos h, show (l : Int) - 1 = ((l - 1 : Nat) : Int) by omega, near_at hr (by omega)]
    · rw [if_neg h, nearT_out (by omega)]
  have h4 : nearT R L T b r ((l : Int) + 1) = highV R L T b r l := by
    unfold highV
    by_cases h : l + 1 < L
    · rw [if_pos h, show (l : Int) + 1 = ((l + 1 : Nat) : Int) by omega, near_at hr h]
    · rw [if_neg h, nearT_out (by omega)]
  have h1 : (r : Int) * nearT R L T b ((r : Int) - 1) l = r * inV R T r l := by
    unfold inV
    by_cases h : 0 < r
    · rw [if_pos h, show (r : Int) - 1 = ((r - 1 : Nat) : Int) by omega, near_at (show r - 1 < R by omega) hl, show l * R + (r - 1) = l * R + r - 1 by omega]
    · obtain rfl : r = 0 := by omega
      simp
  unfold mixT num
  rw [h1, h2, h3, h4, h5]
  congr 1
  grind
/-- The temperatures behind a tick, of the first n places. -/
def tickN (R L : Nat) (A B : Int) (T : List Int) (b : Int) (n : Nat) : List Int := (List.range n).map fun i => mixT R L A B T b (i % R) (i / R)
theorem tickN_all (R L : Nat) (A B : Int) (T : List Int) (b : Int) : tickN R L A B T b (R * L) = tickT R L A B T b := rfl
theorem tickN_len (R L : Nat) (A B : Int) (T : List Int) (b : Int) (n : Nat) : (tickN R L A B T b n).length = n := by simp [tickN]
theorem tickN_succ {R L : Nat} {A B : Int} {T : List Int} {b : Int} {r l : Nat} (hr : r < R) : tickN R L A B T b (l * R + r + 1) = tickN R L A B T b (l * R + r) ++ [mixT R L A B T b r l] := by
  have e1 : (l * R + r) / R = l := by rw [Nat.add_comm, Nat.add_mul_div_right _ _ (by omega), Nat.div_eq_of_lt hr, Nat.zero_add]
  have e2 : (l * R + r) % R = r := by rw [Nat.add_comm, Nat.add_mul_mod_self_right, Nat.mod_eq_of_lt hr]
  unfold tickN
  rw [List.range_succ, List.map_append]
  simp [e1, e2]
theorem getD_bd {T : List Int} (hT : ∀ x ∈ T, -50000 ≤ x ∧ x ≤ 200000) (j : Nat) : -50000 ≤ T.getD j 0 ∧ T.getD j 0 ≤ 200000 := by
  by_cases h : j < T.length
  · rw [getD_at h]; exact hT _ (List.getElem_mem _)
  · rw [List.getD_eq_getElem?_getD, List.getElem?_eq_none (by omega)]; simp
theorem inV_bd {R : Nat} {T : List Int} (hT : ∀ x ∈ T, -50000 ≤ x ∧ x ≤ 200000) (r l : Nat) : -50000 ≤ inV R T r l ∧ inV R T r l ≤ 200000 := by
  unfold inV; split
  · exact getD_bd hT _
  · omega
theorem outV_bd {R : Nat} {T : List Int} {b : Int} (hT : ∀ x ∈ T, -50000 ≤ x ∧ x ≤ 200000) (h : -50000 ≤ b ∧ b ≤ 200000) (r l : Nat) : -50000 ≤ outV R T b r l ∧ outV R T b r l ≤ 200000 := by
  unfold outV; split
  · exact getD_bd hT _
  · exact h
theorem lowV_bd {R : Nat} {T : List Int} {b : Int} (hT : ∀ x ∈ T, -50000 ≤ x ∧ x ≤ 200000) (h : -50000 ≤ b ∧ b ≤ 200000) (r l : Nat) : -50000 ≤ lowV R T b r l ∧ lowV R T b r l ≤ 200000 := by
  unfold lowV; split
  · exact getD_bd hT _
  · exact h
theorem highV_bd {R L : Nat} {T : List Int} {b : Int} (hT : ∀ x ∈ T, -50000 ≤ x ∧ x ≤ 200000) (h : -50000 ≤ b ∧ b ≤ 200000) (r l : Nat) : -50000 ≤ highV R L T b r l ∧ highV R L T b r l ≤ 200000 := by
  unfold highV; split
  · exact getD_bd hT _
  · exact h
end Go.Proofs.Ytedfajokiblfhaa
