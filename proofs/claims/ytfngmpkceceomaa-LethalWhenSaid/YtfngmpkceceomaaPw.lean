/- Plain lemmas on numbers as lists of digits of some base, the lowest first. No Go in sight. -/
namespace Go.Proofs.Ytfngmpkceceomaa.Pw

/-- The number that a list of digits is (the digits may be too great). -/
def vl (b : Nat) : List Nat → Nat
  | [] => 0
  | x :: l => x + b * vl b l

theorem vl_append (b : Nat) (l m : List Nat) : vl b (l ++ m) = vl b l + b ^ l.length * vl b m := by
  induction l with
  | nil => simp [vl]
  | cons x a ih => simp only [List.cons_append, vl, ih, List.length_cons, Nat.pow_succ]; rw [Nat.mul_add, Nat.add_assoc, ← Nat.mul_assoc, Nat.mul_comm b (b ^ _)]

theorem vl_zero (b n : Nat) : vl b (List.replicate n 0) = 0 := by
  induction n with
  | zero => rfl
  | succ n ih => simp [List.replicate_succ, vl, ih]

theorem vl_set (b : Nat) (l : List Nat) : ∀ (j d : Nat) (h : j < l.length), vl b (l.set j (l[j] + d)) = vl b l + d * b ^ j := by
  induction l with
  | nil => intro j d h; simp at h
  | cons x l ih =>
    intro j d h
    cases j with
    | zero => simp [vl]; omega
    | succ j =>
      simp only [List.set_cons_succ, List.getElem_cons_succ, vl, ih j d (by simpa using h)]
      rw [Nat.mul_add, Nat.pow_succ, ← Nat.add_assoc, Nat.mul_comm b (d * b ^ j), Nat.mul_assoc]
theorem vl_set_of (b : Nat) (l : List Nat) (j y : Nat) (h : j < l.length) (hy : l[j] ≤ y) : vl b (l.set j y) = vl b l + (y - l[j]) * b ^ j := by
  have := vl_set b l j (y - l[j]) h
  rwa [Nat.add_sub_cancel' hy] at this
theorem vl_set_down (b : Nat) (l : List Nat) (j y : Nat) (h : j < l.length) (hy : y ≤ l[j]) : vl b (l.set j y) + (l[j] - y) * b ^ j = vl b l := by
  have h' : j < (l.set j y).length := by simpa using h
  have := vl_set b (l.set j y) j (l[j] - y) h'
  have e : (l.set j y)[j]'h' = y := by simp
  rw [e, Nat.add_sub_cancel' hy, List.set_set, List.set_getElem_self] at this
  exact this.symm

/-- All digits are below the base, and the last is not 0. -/
structure Norm (b : Nat) (l : List Nat) : Prop where
  dig : ∀ x ∈ l, x < b
  last : ∀ h : l ≠ [], 0 < l.getLast h

theorem vl_lt {b : Nat} {l : List Nat} (h : ∀ x ∈ l, x < b) : vl b l < b ^ l.length := by
  induction l with
  | nil => simp [vl]
  | cons x l ih =>
    have h1 := ih (fun y hy => h y (List.mem_cons_of_mem _ hy))
    have h2 := h x (List.mem_cons_self)
    simp only [vl, List.length_cons, Nat.pow_succ]
    calc x + b * vl b l < b + b * vl b l := by omega
      _ = b * (vl b l + 1) := by rw [Nat.mul_add]; omega
      _ ≤ b * b ^ l.length := Nat.mul_le_mul_left _ h1
      _ = b ^ l.length * b := Nat.mul_comm _ _

theorem vl_ge {b : Nat} {l : List Nat} (h : Norm b l) (hn : l ≠ []) : b ^ (l.length - 1) ≤ vl b l := by
  have e : l = l.dropLast ++ [l.getLast hn] := (List.dropLast_concat_getLast hn).symm
  have hp := h.last hn
  have : vl b l = vl b l.dropLast + b ^ (l.length - 1) * l.getLast hn := by
    conv => lhs; rw [e]
    rw [vl_append]; simp [vl]
  rw [this]
  calc b ^ (l.length - 1) = b ^ (l.length - 1) * 1 := (Nat.mul_one _).symm
    _ ≤ b ^ (l.length - 1) * l.getLast hn := Nat.mul_le_mul_left _ hp
    _ ≤ _ := Nat.le_add_left _ _

/-- A number below b to the power k has at most k digits. -/
theorem len_le {b : Nat} {l : List Nat} (hb : 2 ≤ b) (h : Norm b l) {k : Nat} (hk : vl b l < b ^ k) : l.length ≤ k := by
  by_cases hn : l = []
  · subst hn; exact Nat.zero_le _
  · have h1 := vl_ge h hn
    have h2 : b ^ (l.length - 1) < b ^ k := Nat.lt_of_le_of_lt h1 hk
    have h3 := (Nat.pow_lt_pow_iff_right (by omega : 1 < b)).1 h2
    omega

theorem vl_lt_of_len {b : Nat} {l m : List Nat} (hb : 0 < b) (hl : Norm b l) (hm : Norm b m) (h : l.length < m.length) : vl b l < vl b m := by
  have hn : m ≠ [] := by intro e; rw [e] at h; simp at h
  calc vl b l < b ^ l.length := vl_lt hl.dig
    _ ≤ b ^ (m.length - 1) := Nat.pow_le_pow_right hb (by omega)
    _ ≤ vl b m := vl_ge hm hn

theorem vl_lt_of_top {b : Nat} {l m : List Nat} (hlen : l.length = m.length) (hl : ∀ x ∈ l, x < b) (i : Nat) (hi : i < l.length)
    (hlt : l[i] < m[i]'(hlen ▸ hi)) (htop : ∀ j, i < j → (hj : j < l.length) → l[j] = m[j]'(hlen ▸ hj)) : vl b l < vl b m := by
  have ea : l = l.take i ++ l[i] :: l.drop (i + 1) := by simp
  have eb : m = m.take i ++ (m[i]'(hlen ▸ hi)) :: m.drop (i + 1) := by simp
  have ed : l.drop (i + 1) = m.drop (i + 1) := by
    apply List.ext_getElem (by simp [hlen])
    intro n h1 h2
    simp only [List.getElem_drop]
    exact htop _ (by omega) (by simp at h1; omega)
  have va : vl b l = vl b (l.take i) + b ^ i * (l[i] + b * vl b (l.drop (i + 1))) := by
    conv => lhs; rw [ea]
    rw [vl_append, List.length_take, Nat.min_eq_left (by omega)]; rfl
  have vb : vl b m = vl b (m.take i) + b ^ i * (m[i]'(hlen ▸ hi) + b * vl b (m.drop (i + 1))) := by
    conv => lhs; rw [eb]
    rw [vl_append, List.length_take, Nat.min_eq_left (by omega)]; rfl
  have ht : vl b (l.take i) < b ^ i := by
    have := vl_lt (b := b) (l := l.take i) (fun x hx => hl x (List.mem_of_mem_take hx))
    rwa [List.length_take, Nat.min_eq_left (by omega)] at this
  rw [va, vb, ← ed]
  calc vl b (l.take i) + b ^ i * (l[i] + b * vl b (l.drop (i + 1))) < b ^ i + b ^ i * (l[i] + b * vl b (l.drop (i + 1))) := by omega
    _ = b ^ i * (l[i] + 1 + b * vl b (l.drop (i + 1))) := by rw [Nat.add_right_comm, Nat.mul_add _ _ 1]; omega
    _ ≤ b ^ i * (m[i]'(hlen ▸ hi) + b * vl b (l.drop (i + 1))) := Nat.mul_le_mul_left _ (by omega)
    _ ≤ _ := Nat.le_add_left _ _

theorem take_vl (b : Nat) (l : List Nat) (k : Nat) (h : k < l.length) : vl b (l.take (k + 1)) = vl b (l.take k) + b ^ k * l[k] := by
  rw [List.take_succ_eq_append_getElem h, vl_append, List.length_take, Nat.min_eq_left (by omega)]; simp [vl]

/-- Carrying a digit's tens on to the next one changes no number. -/
theorem carry_step (b : Nat) (hb : 0 < b) (l : List Nat) (i : Nat) (h : i + 1 < l.length) :
    vl b ((l.set (i + 1) (l[i + 1] + l[i] / b)).set i (l[i] % b)) = vl b l := by
  have h' : i < (l.set (i + 1) (l[i + 1] + l[i] / b)).length := by simp; omega
  have e : (l.set (i + 1) (l[i + 1] + l[i] / b))[i]'h' = l[i] := by simp [List.getElem_set_ne]
  have h1 := vl_set_down b (l.set (i + 1) (l[i + 1] + l[i] / b)) i (l[i] % b) h' (by rw [e]; exact Nat.mod_le _ _)
  rw [e, vl_set b l (i + 1) (l[i] / b) h] at h1
  have e2 : (l[i] - l[i] % b) * b ^ i = l[i] / b * b ^ (i + 1) := by
    have h3 : l[i] - l[i] % b = l[i] / b * b := by
      have := Nat.div_add_mod l[i] b
      rw [Nat.mul_comm]; omega
    rw [h3, Nat.pow_succ, Nat.mul_assoc, Nat.mul_comm b]
  omega

/-- The last digit of a small number is 0. -/
theorem last_zero {b : Nat} (hb : 0 < b) {l : List Nat} {n : Nat} (hl : l.length = n + 1) (h : vl b l < b ^ n) : l[n]'(by omega) = 0 := by
  have e : l = l.take n ++ [l[n]'(by omega)] := by
    have := List.take_succ_eq_append_getElem (l := l) (i := n) (by omega)
    rw [← this, List.take_of_length_le (by omega)]
  have v : vl b l = vl b (l.take n) + b ^ n * l[n]'(by omega) := by
    conv => lhs; rw [e]
    rw [vl_append, List.length_take, Nat.min_eq_left (by omega)]; simp [vl]
  rcases Nat.eq_zero_or_pos (l[n]'(by omega)) with h0 | h0
  · exact h0
  · have : b ^ n * 1 ≤ b ^ n * l[n]'(by omega) := Nat.mul_le_mul_left _ h0
    omega

/-- What is left when zeros at the top are cut. -/
theorem cut_vl {b : Nat} {l : List Nat} {n : Nat} (h : ∀ j, n ≤ j → (hj : j < l.length) → l[j] = 0) : vl b (l.take n) = vl b l := by
  have e : l = l.take n ++ l.drop n := (List.take_append_drop n l).symm
  have hz : l.drop n = List.replicate (l.drop n).length 0 := by
    apply List.eq_replicate_iff.2
    refine ⟨rfl, fun x hx => ?_⟩
    obtain ⟨i, hi, rfl⟩ := List.mem_iff_getElem.1 hx
    rw [List.getElem_drop]
    exact h _ (by omega) _
  conv => rhs; rw [e]
  rw [vl_append, hz, vl_zero]; simp
theorem cut_norm {b : Nat} {l : List Nat} {n : Nat} (hn : n ≤ l.length) (hd : ∀ x ∈ l, x < b) (h : n = 0 ∨ ∃ hj : n - 1 < l.length, l[n - 1] ≠ 0) : Norm b (l.take n) := by
  refine ⟨fun x hx => hd x (List.mem_of_mem_take hx), fun hne => ?_⟩
  rcases h with rfl | ⟨hj, h⟩
  · simp at hne
  · have hn0 : n ≠ 0 := by intro e; subst e; simp at hne
    rw [List.getLast_eq_getElem]
    have hl : (l.take n).length = n := by simp [hn]
    simp only [hl, List.getElem_take]
    omega

/-- The digits of a number. -/
def digs (b : Nat) : Nat → Nat → List Nat
  | 0, _ => []
  | k + 1, n => if 0 < n then n % b :: digs b k (n / b) else []
theorem digs_vl (b : Nat) : ∀ k n, n < b ^ k → vl b (digs b k n) = n := by
  intro k
  induction k with
  | zero => intro n h; simp at h; subst h; rfl
  | succ k ih =>
    intro n h
    unfold digs
    split
    · simp only [vl]
      rw [ih (n / b) (by rw [Nat.pow_succ] at h; exact Nat.div_lt_of_lt_mul (by rw [Nat.mul_comm]; exact h))]
      exact Nat.mod_add_div n b
    · simp [vl]; omega
theorem digs_norm (b : Nat) (hb : 2 ≤ b) : ∀ k n, n < b ^ k → Norm b (digs b k n) := by
  intro k
  induction k with
  | zero => intro n _; exact ⟨by simp [digs], by simp [digs]⟩
  | succ k ih =>
    intro n h
    unfold digs
    split
    · rename_i hn
      have h2 : n / b < b ^ k := by rw [Nat.pow_succ] at h; exact Nat.div_lt_of_lt_mul (by rw [Nat.mul_comm]; exact h)
      have hi := ih (n / b) h2
      refine ⟨fun x hx => ?_, fun hne => ?_⟩
      · rcases List.mem_cons.1 hx with rfl | hx
        · exact Nat.mod_lt _ (by omega)
        · exact hi.dig x hx
      · by_cases he : digs b k (n / b) = []
        · have hv := digs_vl b k (n / b) h2
          rw [he] at hv
          have h0 : n / b = 0 := hv.symm
          have h3 : n < b := by
            rcases Nat.lt_or_ge n b with h' | h'
            · exact h'
            · have := (Nat.one_le_div_iff (by omega : 0 < b)).2 h'; omega
          simp only [he, List.getLast_singleton]
          rw [Nat.mod_eq_of_lt h3]; exact hn
        · rw [List.getLast_cons he]; exact hi.last he
    · exact ⟨by simp, by simp⟩
theorem digs_len (b k n : Nat) : (digs b k n).length ≤ k := by
  induction k generalizing n with
  | zero => exact Nat.le_refl _
  | succ k ih =>
    unfold digs
    split
    · simp only [List.length_cons]; exact Nat.succ_le_succ (ih _)
    · simp
end Go.Proofs.Ytfngmpkceceomaa.Pw
