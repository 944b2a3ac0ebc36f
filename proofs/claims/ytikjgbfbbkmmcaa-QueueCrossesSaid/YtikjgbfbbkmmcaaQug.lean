/- The heap of vessels, in plain words. -/
import Derived.Test.YtikjgbfbbkmmcaaQa
import Derived.Test.YtikjgbfbbkmmcaaQub
namespace Go.Proofs.Ytikjgbfbbkmmcaa

/-- Whether one vessel (number x, free from y on) goes before another one. -/
def ltV (p q : Pr) : Bool := decide (p.y < q.y ∨ p.y = q.y ∧ p.x < q.x)
theorem ltV_t {p q : Pr} : ltV p q = true ↔ (p.y < q.y ∨ p.y = q.y ∧ p.x < q.x) := by unfold ltV; exact decide_eq_true_iff
theorem ltV_f {p q : Pr} : ltV p q = false ↔ ¬ (p.y < q.y ∨ p.y = q.y ∧ p.x < q.x) := by unfold ltV; exact decide_eq_false_iff_not
theorem ltV_asym {p q : Pr} (h : ltV p q = true) : ltV q p = false := by rw [ltV_t] at h; rw [ltV_f]; omega
theorem ltV_le_trans {p q r : Pr} (h : ltV q p = false) (h2 : ltV r q = false) : ltV r p = false := by rw [ltV_f] at *; omega
theorem ltV_lt_le {p q r : Pr} (h : ltV p q = true) (h2 : ltV r q = false) : ltV r p = false := by rw [ltV_t] at h; rw [ltV_f] at *; omega
theorem ltV_eq {p q : Pr} (h : ltV p q = false) (h2 : ltV q p = false) : p = q := by
  rw [ltV_f] at *
  cases p; cases q
  simp only [Pr.mk.injEq]
  dsimp only at *
  omega
/-- What lies at a place. -/
def vat (l : List Pr) (i : Nat) : Pr := l.getD i ⟨0, 0⟩
theorem vat_eq {l : List Pr} {i : Nat} (h : i < l.length) : vat l i = l[i] := by simp [vat, List.getD, List.getElem?_eq_getElem h]
theorem vat_mem {l : List Pr} {i : Nat} (h : i < l.length) : vat l i ∈ l := by rw [vat_eq h]; exact List.getElem_mem h
theorem vat_app_lt {l m : List Pr} {i : Nat} (h : i < l.length) : vat (l ++ m) i = vat l i := by simp [vat, List.getD, List.getElem?_append_left h]
theorem vat_set {l : List Pr} {i j : Nat} {d : Pr} (h : i < l.length) : vat (l.set i d) j = if j = i then d else vat l j := by
  simp only [vat, List.getD, List.getElem?_set]
  by_cases e : i = j
  · subst e; simp [h]
  · rw [if_neg e, if_neg (fun x => e x.symm)]
/-- Two exchanged. -/
def swp (l : List Pr) (i j : Nat) : List Pr := (l.set i (vat l j)).set j (vat l i)
theorem swp_len (l : List Pr) (i j : Nat) : (swp l i j).length = l.length := by simp [swp]
theorem swp_at {l : List Pr} {i j k : Nat} (hi : i < l.length) (hj : j < l.length) : vat (swp l i j) k = if k = j then vat l i else if k = i then vat l j else vat l k := by
  unfold swp
  rw [vat_set (by simpa using hj)]
  by_cases e : k = j
  · rw [if_pos e, if_pos e]
  · rw [if_neg e, if_neg e, vat_set hi]
theorem swp_perm {l : List Pr} {i j : Nat} (hi : i < l.length) (hj : j < l.length) : (swp l i j).Perm l := by
  unfold swp
  rw [vat_eq hi, vat_eq hj]
  exact List.set_set_perm hi hj
/-- The first n are a heap. -/
def HeapB (l : List Pr) (n : Nat) : Prop := ∀ i, 0 < i → i < n → ltV (vat l i) (vat l ((i - 1) / 2)) = false
/-- A heap but at a place that may go up. -/
def UpOk (l : List Pr) (j : Nat) : Prop :=
  (∀ i, 0 < i → i < l.length → i ≠ j → ltV (vat l i) (vat l ((i - 1) / 2)) = false) ∧
  (∀ c, 0 < j → 0 < c → c < l.length → (c - 1) / 2 = j → ltV (vat l c) (vat l ((j - 1) / 2)) = false)
/-- A heap but at a place that may go down. -/
def DnOk (l : List Pr) (n i : Nat) : Prop :=
  (∀ k, 0 < k → k < n → (k - 1) / 2 ≠ i → ltV (vat l k) (vat l ((k - 1) / 2)) = false) ∧
  (∀ c, 0 < i → 0 < c → c < n → (c - 1) / 2 = i → ltV (vat l c) (vat l ((i - 1) / 2)) = false)
theorem upOk_start {l : List Pr} {d : Pr} (h : HeapB l l.length) : UpOk (l ++ [d]) l.length := by
  refine ⟨fun i h0 hi hne => ?_, fun c h0 h1 h2 h3 => ?_⟩
  · simp only [List.length_append, List.length_singleton] at hi
    rw [vat_app_lt (by omega), vat_app_lt (by omega)]
    exact h i h0 (by omega)
  · simp only [List.length_append, List.length_singleton] at h2
    omega
theorem upOk_step {l : List Pr} {j : Nat} (h : UpOk l j) (h0 : 0 < j) (hj : j < l.length) (hlt : ltV (vat l j) (vat l ((j - 1) / 2)) = true) :
    UpOk (swp l ((j - 1) / 2) j) ((j - 1) / 2) := by
  obtain ⟨h1, h2⟩ := h
  have hi : (j - 1) / 2 < j := by omega
  generalize hI : (j - 1) / 2 = i at *
  refine ⟨fun k k0 hk hne => ?_, fun c i0 c0 hc hp => ?_⟩
  · rw [swp_len] at hk
    rw [swp_at (by omega) hj, swp_at (by omega) hj]
    by_cases e1 : k = j
    · subst e1
      rw [if_pos rfl, hI, if_neg (by omega), if_pos rfl]
      exact ltV_asym hlt
    · rw [if_neg e1, if_neg hne]
      by_cases e2 : (k - 1) / 2 = i
      · rw [e2, if_neg (by omega), if_pos rfl]
        have := h1 k k0 hk e1
        rw [e2] at this
        exact ltV_lt_le hlt this
      · by_cases e3 : (k - 1) / 2 = j
        · rw [e3, if_pos rfl]
          exact h2 k h0 k0 hk e3
        · rw [if_neg e3, if_neg e2]
          exact h1 k k0 hk e1
  · rw [swp_len] at hc
    rw [swp_at (by omega) hj, swp_at (by omega) hj, if_neg (show ¬ (i - 1) / 2 = j by omega), if_neg (show ¬ (i - 1) / 2 = i by omega)]
    have hip := h1 i i0 (by omega) (by omega)
    by_cases e1 : c = j
    · rw [if_pos e1]
      exact hip
    · rw [if_neg e1, if_neg (by omega)]
      have := h1 c c0 hc e1
      rw [hp] at this
      exact ltV_le_trans hip this
theorem upOk_end {l : List Pr} {j : Nat} (h : UpOk l j) (he : j = 0 ∨ ltV (vat l j) (vat l ((j - 1) / 2)) = false) : HeapB l l.length := by
  intro i h0 hi
  by_cases e : i = j
  · subst e
    rcases he with he | he
    · omega
    · exact he
  · exact h.1 i h0 hi e
/-- The child that goes before the other one. -/
def chV (l : List Pr) (n i : Nat) : Nat := if 2 * i + 2 < n ∧ ltV (vat l (2 * i + 2)) (vat l (2 * i + 1)) = true then 2 * i + 2 else 2 * i + 1
theorem chV_par (l : List Pr) (n i : Nat) : (chV l n i - 1) / 2 = i := by unfold chV; split <;> omega
theorem chV_gt (l : List Pr) (n i : Nat) : i < chV l n i := by unfold chV; split <;> omega
theorem chV_lt {l : List Pr} {n i : Nat} (h : 2 * i + 1 < n) : chV l n i < n := by unfold chV; split <;> omega
theorem chV_le {l : List Pr} {n i k : Nat} (h0 : 0 < k) (hk : k < n) (hp : (k - 1) / 2 = i) : ltV (vat l k) (vat l (chV l n i)) = false := by
  unfold chV
  split
  · rename_i h
    by_cases e : k = 2 * i + 2
    · subst e; rw [ltV_f]; omega
    · rw [show k = 2 * i + 1 by omega]
      exact ltV_asym h.2
  · rename_i h
    by_cases e : k = 2 * i + 1
    · subst e; rw [ltV_f]; omega
    · have e2 : k = 2 * i + 2 := by omega
      subst e2
      cases hx : ltV (vat l (2 * i + 2)) (vat l (2 * i + 1))
      · rfl
      · exact absurd ⟨hk, hx⟩ h
theorem dnOk_start {l : List Pr} {n : Nat} (hn : n < l.length) (h : HeapB l l.length) : DnOk (swp l 0 n) n 0 := by
  refine ⟨fun k k0 hk hp => ?_, fun c h0 => absurd h0 (by omega)⟩
  rw [swp_at (by omega) hn, swp_at (by omega) hn, if_neg (by omega), if_neg (by omega), if_neg (by omega), if_neg (by omega)]
  exact h k k0 (by omega)
theorem dnOk_step {l : List Pr} {n i : Nat} (h : DnOk l n i) (hn : n ≤ l.length) (hi : 2 * i + 1 < n) (hlt : ltV (vat l (chV l n i)) (vat l i) = true) :
    DnOk (swp l i (chV l n i)) n (chV l n i) := by
  obtain ⟨h1, h2⟩ := h
  have hpar := chV_par l n i
  have hgt := chV_gt l n i
  have hjn := chV_lt (l := l) hi
  have hle := fun k => chV_le (l := l) (n := n) (i := i) (k := k)
  generalize chV l n i = j at *
  refine ⟨fun k k0 hk hp => ?_, fun c j0 c0 hc hp => ?_⟩
  · rw [swp_at (by omega) (by omega), swp_at (by omega) (by omega), if_neg hp]
    by_cases e1 : k = j
    · rw [if_pos e1, if_pos (by rw [e1]; exact hpar)]
      exact ltV_asym hlt
    · rw [if_neg e1]
      by_cases e2 : (k - 1) / 2 = i
      · rw [if_pos e2, if_neg (by omega)]
        exact hle k k0 hk e2
      · rw [if_neg e2]
        by_cases e3 : k = i
        · subst e3
          rw [if_pos rfl]
          exact h2 j (by omega) (by omega) hjn hpar
        · rw [if_neg e3]
          exact h1 k k0 hk e2
  · rw [swp_at (by omega) (by omega), swp_at (by omega) (by omega), if_neg (by omega), if_neg (by omega), hpar, if_neg (by omega), if_pos rfl]
    have := h1 c c0 hc (by omega)
    rw [hp] at this
    exact this
theorem dnOk_end {l : List Pr} {n i : Nat} (h : DnOk l n i) (he : ¬ 2 * i + 1 < n ∨ ltV (vat l (chV l n i)) (vat l i) = false) : HeapB l n := by
  intro k k0 hk
  by_cases e : (k - 1) / 2 = i
  · rcases he with he | he
    · omega
    · rw [e]
      exact ltV_le_trans he (chV_le k0 hk e)
  · exact h.1 k k0 hk e
theorem heap_top {l : List Pr} {n : Nat} (h : HeapB l n) (k : Nat) : k < n → ltV (vat l k) (vat l 0) = false := by
  induction k using Nat.strongRecOn with
  | ind k ih =>
    intro hk
    by_cases k0 : k = 0
    · subst k0; rw [ltV_f]; omega
    · exact ltV_le_trans (ih ((k - 1) / 2) (by omega) (by omega)) (h k (by omega) hk)
theorem heap_take {l : List Pr} {n : Nat} (h : HeapB l n) (hn : n ≤ l.length) : HeapB (l.take n) (l.take n).length := by
  intro i h0 hi
  simp only [List.length_take] at hi
  have e : ∀ j, j < n → vat (l.take n) j = vat l j := fun j hj => by simp [vat, List.getD, List.getElem?_take_of_lt hj]
  rw [e _ (by omega), e _ (by omega)]
  exact h i h0 (by omega)
theorem last_perm {l : List Pr} {n : Nat} (hn : l.length = n + 1) : (vat l n :: l.take n).Perm l := by
  have h2 : l = l.take n ++ [vat l n] := by
    rw [vat_eq (show n < l.length by omega)]
    rw [List.take_append_getElem (show n < l.length by omega), List.take_of_length_le (by omega)]
  conv => rhs; rw [h2]
  exact (List.perm_append_singleton _ _).symm
/-- The vessels with what they are free from. -/
def pzl (F : List Int) : List Pr := (List.range F.length).map fun (v : Nat) => (⟨(v : Int), F.getD v 0⟩ : Pr)
theorem pzl_len (F : List Int) : (pzl F).length = F.length := by simp [pzl]
theorem pzl_at {F : List Int} {v : Nat} (h : v < F.length) : (pzl F)[v]? = some ⟨v, F.getD v 0⟩ := by simp [pzl, h]
theorem pzl_set {F : List Int} {v : Nat} {y : Int} (h : v < F.length) : pzl (F.set v y) = (pzl F).set v ⟨v, y⟩ := by
  refine List.ext_getElem? fun j => ?_
  rw [List.getElem?_set]
  by_cases hj : j < F.length
  · rw [pzl_at (by simpa using hj)]
    by_cases e : v = j
    · subst e
      simp [pzl_len, h]
    · rw [if_neg e, pzl_at hj]
      simp [e]
  · rw [List.getElem?_eq_none (by rw [pzl_len]; simpa using hj), if_neg (by omega), List.getElem?_eq_none (by rw [pzl_len]; omega)]
theorem setP_perm : ∀ {l : List Pr} {v : Nat} (_ : v < l.length) (y : Pr), (l.set v y).Perm (y :: l.eraseIdx v)
  | [], _, h, _ => by simp at h
  | x :: l, 0, _, y => by simp
  | x :: l, v + 1, h, y => by
    simp only [List.set_cons_succ, List.eraseIdx_cons_succ]
    exact ((setP_perm (by simpa using h) y).cons x).trans (List.Perm.swap _ _ _)
theorem eraseP_perm : ∀ {l : List Pr} {v : Nat} (h : v < l.length), l.Perm (l[v] :: l.eraseIdx v)
  | [], _, h => by simp at h
  | x :: l, 0, _ => by simp
  | x :: l, v + 1, h => by
    simp only [List.getElem_cons_succ, List.eraseIdx_cons_succ]
    exact ((eraseP_perm (by simpa using h)).cons x).trans (List.Perm.swap _ _ _)
/-- A vessel that is taken out and put in again. -/
theorem pzl_put {F : List Int} {v : Nat} {y : Int} {t : List Pr} (h : v < F.length) (hp : ((⟨v, F.getD v 0⟩ : Pr) :: t).Perm (pzl F)) : ((⟨v, y⟩ : Pr) :: t).Perm (pzl (F.set v y)) := by
  rw [pzl_set h]
  have hl : v < (pzl F).length := by rw [pzl_len]; exact h
  have e : (pzl F)[v] = ⟨v, F.getD v 0⟩ := by
    have := pzl_at h
    rw [List.getElem?_eq_getElem hl] at this
    exact Option.some.inj this
  have h1 := hp.trans (eraseP_perm hl)
  rw [e] at h1
  exact ((List.Perm.cons_inv h1).cons _).trans (setP_perm hl _).symm
theorem pzl_snoc {n : Nat} : ((⟨n, 0⟩ : Pr) :: pzl (List.replicate n 0)).Perm (pzl (List.replicate (n + 1) 0)) := by
  have : pzl (List.replicate (n + 1) 0) = pzl (List.replicate n 0) ++ [⟨n, 0⟩] := by
    unfold pzl
    simp only [List.length_replicate, List.range_succ, List.map_append, List.map_cons, List.map_nil]
    congr 1
    · refine List.map_congr_left fun j hj => ?_
      have := List.mem_range.1 hj
      simp [List.getD, this, Nat.lt_succ_of_lt this]
    · simp [List.getD]
  rw [this]
  exact (List.perm_append_singleton _ _).symm
/-- What is on top is the first of those that are free first. -/
theorem pzl_top {F : List Int} {l : List Pr} (hF : F ≠ []) (hp : l.Perm (pzl F)) (hh : HeapB l l.length) : vat l 0 = ⟨argM F, F.getD (argM F) 0⟩ := by
  have hv := argM_lt hF
  have hlen : l.length = F.length := by rw [hp.length_eq, pzl_len]
  have hm1 : (⟨argM F, F.getD (argM F) 0⟩ : Pr) ∈ l := hp.mem_iff.2 (List.mem_of_getElem? (pzl_at hv))
  have hm2 : vat l 0 ∈ pzl F := hp.mem_iff.1 (vat_mem (by omega))
  obtain ⟨k, hk, hk2⟩ := List.getElem_of_mem hm1
  have g1 := heap_top hh k hk
  rw [vat_eq hk, hk2] at g1
  refine ltV_eq ?_ g1
  obtain ⟨j, hj, hj2⟩ := List.mem_map.1 hm2
  have hj3 := List.mem_range.1 hj
  rw [← hj2, ltV_f]
  dsimp only
  have a1 := argM_le (l := F) (F.getD j 0) (by rw [List.getD, List.getElem?_eq_getElem hj3]; exact List.getElem_mem hj3)
  rintro (a2 | ⟨a2, a3⟩)
  · omega
  · have := argM_first (l := F) (k := j) (by omega)
    omega
end Go.Proofs.Ytikjgbfbbkmmcaa
