/- First come first served by what each vessel is free from: the starts are fcS's, and they are a plan's. -/
import Derived.Test.YtikjgbfbbkmmcaaQua
namespace Go.Proofs.Ytikjgbfbbkmmcaa

/-- The first of the least. -/
def argM : List Int → Nat
  | [] => 0
  | [_] => 0
  | x :: y :: l => if x ≤ (y :: l).getD (argM (y :: l)) 0 then 0 else argM (y :: l) + 1
theorem argM_lt : ∀ {l : List Int}, l ≠ [] → argM l < l.length
  | [], h => absurd rfl h
  | [_], _ => by simp [argM]
  | x :: y :: l, _ => by
    have ih := argM_lt (l := y :: l) (by simp)
    unfold argM
    split
    · simp
    · simp only [List.length_cons] at ih ⊢; omega
theorem argM_le : ∀ {l : List Int}, ∀ z ∈ l, l.getD (argM l) 0 ≤ z
  | [], _, h => by cases h
  | [x], z, h => by simp at h; subst h; simp [argM]
  | x :: y :: l, z, h => by
    have ih := argM_le (l := y :: l)
    unfold argM
    split
    · rename_i h1
      rcases List.mem_cons.1 h with rfl | h2
      · simp
      · have := ih z h2
        simp only [List.getD_cons_zero]
        omega
    · rename_i h1
      rw [List.getD_cons_succ]
      rcases List.mem_cons.1 h with rfl | h2
      · omega
      · exact ih z h2
/-- No earlier one is as little. -/
theorem argM_first : ∀ {l : List Int} {k : Nat}, k < argM l → l.getD (argM l) 0 < l.getD k 0
  | [], k, h => by simp [argM] at h
  | [_], k, h => by simp [argM] at h
  | x :: y :: l, k, h => by
    have ih := fun k => argM_first (l := y :: l) (k := k)
    unfold argM at h ⊢
    split at h
    · omega
    · rename_i h1
      rw [if_neg h1, List.getD_cons_succ]
      match k with
      | 0 => simp only [List.getD_cons_zero]; omega
      | k + 1 => rw [List.getD_cons_succ]; exact ih k (by omega)
/-- What each vessel is free from, and the starts, behind i baskets. -/
def srv (c : Nat → Int) (m : Nat) (p : Int) : Nat → List Int × List (Nat × Int)
  | 0 => (List.replicate m 0, [])
  | i + 1 =>
    let v := argM (srv c m p i).1
    let t := max (c i) ((srv c m p i).1.getD v 0)
    ((srv c m p i).1.set v (t + p), (srv c m p i).2 ++ [(v, t)])
/-- When vessels get free, in order. -/
def freeE (c : Nat → Int) (m : Nat) (p : Int) (j : Nat) : Int := if j < m then 0 else fcS c m p (j - m) + p
section
variable {c : Nat → Int} {m : Nat} {p : Int}
theorem freeE_mono (hm : 0 < m) (h0 : ∀ i, 0 ≤ c i) (hc : ∀ i, c i ≤ c (i + 1)) (hp : 0 ≤ p) (j : Nat) : freeE c m p j ≤ freeE c m p (j + 1) := by
  unfold freeE
  by_cases h1 : j + 1 < m
  · rw [if_pos (by omega), if_pos h1]; omega
  · rw [if_neg h1]
    by_cases h2 : j < m
    · rw [if_pos h2]
      have := fcS_came c m p (j + 1 - m)
      have := h0 (j + 1 - m)
      omega
    · rw [if_neg h2]
      have := fcS_mono hm hc hp (j - m)
      rw [show j - m + 1 = j + 1 - m by omega] at this
      omega
theorem freeE_le (hm : 0 < m) (h0 : ∀ i, 0 ≤ c i) (hc : ∀ i, c i ≤ c (i + 1)) (hp : 0 ≤ p) (j : Nat) : ∀ k, freeE c m p j ≤ freeE c m p (j + k)
  | 0 => by rw [Nat.add_zero]; omega
  | k + 1 => Int.le_trans (freeE_le hm h0 hc hp j k) (freeE_mono hm h0 hc hp (j + k))
theorem freeE_at (hm : 0 < m) (h0 : ∀ i, 0 ≤ c i) (i : Nat) : max (c i) (freeE c m p i) = fcS c m p i := by
  unfold freeE
  by_cases h : i < m
  · rw [if_pos h, fcS_lt h]
    have := h0 i
    omega
  · rw [if_neg h, fcS_ge (i := i) hm (by omega)]
theorem set_perm : ∀ {l : List Int} {v : Nat} (_ : v < l.length) (y : Int), (l.set v y).Perm (y :: l.eraseIdx v)
  | [], _, h, _ => by simp at h
  | x :: l, 0, _, y => by simp
  | x :: l, v + 1, h, y => by
    simp only [List.set_cons_succ, List.eraseIdx_cons_succ]
    exact ((set_perm (by simpa using h) y).cons x).trans (List.Perm.swap _ _ _)
theorem erase_perm : ∀ {l : List Int} {v : Nat} (h : v < l.length), l.Perm (l[v] :: l.eraseIdx v)
  | [], _, h => by simp at h
  | x :: l, 0, _ => by simp
  | x :: l, v + 1, h => by
    simp only [List.getElem_cons_succ, List.eraseIdx_cons_succ]
    exact ((erase_perm (by simpa using h)).cons x).trans (List.Perm.swap _ _ _)
theorem range_tail (e : Nat → Int) (i : Nat) : ∀ k, (List.range (k + 1)).map (fun j => e (i + j)) = e i :: (List.range k).map (fun j => e (i + 1 + j))
  | k => by
    rw [List.range_succ_eq_map, List.map_cons, List.map_map, Nat.add_zero]
    congr 1
    refine List.map_congr_left fun j _ => ?_
    show e (i + (j + 1)) = e (i + 1 + j)
    rw [show i + (j + 1) = i + 1 + j by omega]
theorem srv_inv (hm : 0 < m) (h0 : ∀ i, 0 ≤ c i) (hc : ∀ i, c i ≤ c (i + 1)) (hp : 0 ≤ p) :
    ∀ i, ((srv c m p i).1.Perm ((List.range m).map (fun j => freeE c m p (i + j)))) ∧ (srv c m p i).2.map (·.2) = (List.range i).map (fcS c m p)
  | 0 => by
    refine ⟨?_, rfl⟩
    have : (List.range m).map (fun j => freeE c m p (0 + j)) = List.replicate m 0 := by
      refine List.eq_replicate_iff.2 ⟨by simp, fun y hy => ?_⟩
      obtain ⟨j, hj, rfl⟩ := List.mem_map.1 hy
      have := List.mem_range.1 hj
      unfold freeE
      rw [if_pos (by omega)]
    rw [this]
    exact List.Perm.refl _
  | i + 1 => by
    obtain ⟨ih1, ih2⟩ := srv_inv hm h0 hc hp i
    obtain ⟨k, rfl⟩ : ∃ k, m = k + 1 := ⟨m - 1, by omega⟩
    have hlen : (srv c (k + 1) p i).1.length = k + 1 := by rw [ih1.length_eq]; simp
    have hne : (srv c (k + 1) p i).1 ≠ [] := fun h => by rw [h] at hlen; simp at hlen
    have hv := argM_lt hne
    have hmin : (srv c (k + 1) p i).1.getD (argM (srv c (k + 1) p i).1) 0 = freeE c (k + 1) p i := by
      have e1 : freeE c (k + 1) p i ∈ (srv c (k + 1) p i).1 := ih1.mem_iff.2 (List.mem_map.2 ⟨0, by simp, by simp⟩)
      have e2 := argM_le _ e1
      have e3 : (srv c (k + 1) p i).1.getD (argM (srv c (k + 1) p i).1) 0 ∈ (srv c (k + 1) p i).1 := by
        rw [show (srv c (k + 1) p i).1.getD (argM (srv c (k + 1) p i).1) 0 = (srv c (k + 1) p i).1[argM (srv c (k + 1) p i).1] by simp [List.getD, List.getElem?_eq_getElem hv]]
        exact List.getElem_mem hv
      obtain ⟨j, _, e4⟩ := List.mem_map.1 (ih1.mem_iff.1 e3)
      have e5 := freeE_le (p := p) hm h0 hc hp i j
      omega
    have ht : max (c i) ((srv c (k + 1) p i).1.getD (argM (srv c (k + 1) p i).1) 0) = fcS c (k + 1) p i := by rw [hmin, freeE_at hm h0]
    refine ⟨?_, ?_⟩
    · show ((srv c (k + 1) p i).1.set (argM (srv c (k + 1) p i).1) (max (c i) ((srv c (k + 1) p i).1.getD (argM (srv c (k + 1) p i).1) 0) + p)).Perm _
      rw [ht]
      refine (set_perm hv _).trans ?_
      have h1 := (erase_perm hv).symm.trans ih1
      rw [range_tail] at h1
      have h2 : (srv c (k + 1) p i).1[argM (srv c (k + 1) p i).1] = freeE c (k + 1) p i := by
        rw [← hmin]; simp [List.getD, List.getElem?_eq_getElem hv]
      rw [h2] at h1
      have h3 := List.Perm.cons_inv h1
      rw [List.range_succ, List.map_append]
      have h4 : fcS c (k + 1) p i + p = freeE c (k + 1) p (i + 1 + k) := by
        unfold freeE
        rw [if_neg (by omega), show i + 1 + k - (k + 1) = i by omega]
      rw [h4]
      refine (h3.cons _).trans ?_
      exact (List.perm_append_singleton _ _).symm
    · have e9 : (srv c (k + 1) p (i + 1)).2 = (srv c (k + 1) p i).2 ++ [(argM (srv c (k + 1) p i).1, max (c i) ((srv c (k + 1) p i).1.getD (argM (srv c (k + 1) p i).1) 0))] := rfl
      rw [e9, List.map_append, ih2, List.range_succ, List.map_append]
      simp only [List.map_cons, List.map_nil]
      rw [ht]
theorem srv_len (i : Nat) : (srv c m p i).2.length = i ∧ (srv c m p i).1.length = m := by
  induction i with
  | zero => simp [srv]
  | succ i ih => unfold srv; simp [ih.1, ih.2]
end
end Go.Proofs.Ytikjgbfbbkmmcaa
