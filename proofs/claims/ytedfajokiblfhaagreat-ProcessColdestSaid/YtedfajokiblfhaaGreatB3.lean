/- Texts of this seat, one behind the other. -/
import Derived.Test.YtedfajokiblfhaaGreatB2
/- Plain lemmas on numbers as lists of digits of some base, the lowest first. No Go in sight. -/
namespace Go.Proofs.YtedfajokiblfhaaGreat.Lt.Pw

/-- The number that a list of digits is (the digits may be too great). -/
def vl (b : Nat) : List Nat → Nat
  | [] => 0
  | x :: l => x + b * vl b l

theorem vl_append (b : Nat) (l m : List Nat) : vl b (l ++ m) = vl b l + b ^ l.length * vl b m := by
  induction l with
  | nil => simp [vl]
  | cons x a ih => simp only [List.cons_append, vl, ih, List.length_cons, Nat.pow_succ]; rw [Nat.mul_add, Nat.add_assoc, ← Nat.mul_assoc, Nat.mul_comm b (b ^ _)]

theorem vl_zero (b n : Nat) : vl b (List.replicate n 0) = 0 := by
  induction n with
  | zero => rfl
  | succ n ih => simp [List.replicate_succ, vl, ih]

theorem vl_set (b : Nat) (l : List Nat) : ∀ (j d : Nat) (h : j < l.length), vl b (l.set j (l[j] + d)) = vl b l + d * b ^ j := by
  induction l with
  | nil => intro j d h; simp at h
  | cons x l ih =>
    intro j d h
    cases j with
    | zero => simp [vl]; omega
    | succ j =>
      simp only [List.set_cons_succ, List.getElem_cons_succ, vl, ih j d (by simpa using h)]
      rw [Nat.mul_add, Nat.pow_succ, ← Nat.add_assoc, Nat.mul_comm b (d * b ^ j), Nat.mul_assoc]
theorem vl_set_of (b : Nat) (l : List Nat) (j y : Nat) (h : j < l.length) (hy : l[j] ≤ y) : vl b (l.set j y) = vl b l + (y - l[j]) * b ^ j := by
  have := vl_set b l j (y - l[j]) h
  rwa [Nat.add_sub_cancel' hy] at this
theorem vl_set_down (b : Nat) (l : List Nat) (j y : Nat) (h : j < l.length) (hy : y ≤ l[j]) : vl b (l.set j y) + (l[j] - y) * b ^ j = vl b l := by
  have h' : j < (l.set j y).length := by simpa using h
  have := vl_set b (l.set j y) j (l[j] - y) h'
  have e : (l.set j y)[j]'h' = y := by simp
  rw [e, Nat.add_sub_cancel' hy, List.set_set, List.set_getElem_self] at this
  exact this.symm

/-- All digits are below the base, and the last is not 0. -/
structure Norm (b : Nat) (l : List Nat) : Prop where
  dig : ∀ x ∈ l, x < b
  last : ∀ h : l ≠ [], 0 < l.getLast h

theorem vl_lt {b : Nat} {l : List Nat} (h : ∀ x ∈ l, x < b) : vl b l < b ^ l.length := by
  induction l with
  | nil => simp [vl]
  | cons x l ih =>
    have h1 := ih (fun y hy => h y (List.mem_cons_of_mem _ hy))
    have h2 := h x (List.mem_cons_self)
    simp only [vl, List.length_cons, Nat.pow_succ]
    calc x + b * vl b l < b + b * vl b l := by omega
      _ = b * (vl b l + 1) := by rw [Nat.mul_add]; omega
      _ ≤ b * b ^ l.length := Nat.mul_le_mul_left _ h1
      _ = b ^ l.length * b := Nat.mul_comm _ _

theorem vl_ge {b : Nat} {l : List Nat} (h : Norm b l) (hn : l ≠ []) : b ^ (l.length - 1) ≤ vl b l := by
  have e : l = l.dropLast ++ [l.getLast hn] := (List.dropLast_concat_getLast hn).symm
  have hp := h.last hn
  have : vl b l = vl b l.dropLast + b ^ (l.length - 1) * l.getLast hn := by
    conv => lhs; rw [e]
    rw [vl_append]; simp [vl]
  rw [this]
  calc b ^ (l.length - 1) = b ^ (l.length - 1) * 1 := (Nat.mul_one _).symm
    _ ≤ b ^ (l.length - 1) * l.getLast hn := Nat.mul_le_mul_left _ hp
    _ ≤ _ := Nat.le_add_left _ _

/-- A number below b to the power k has at most k digits. -/
theorem len_le {b : Nat} {l : List Nat} (hb : 2 ≤ b) (h : Norm b l) {k : Nat} (hk : vl b l < b ^ k) : l.length ≤ k := by
  by_cases hn : l = []
  · subst hn; exact Nat.zero_le _
  · have h1 := vl_ge h hn
    have h2 : b ^ (l.length - 1) < b ^ k := Nat.lt_of_le_of_lt h1 hk
    have h3 := (Nat.pow_lt_pow_iff_right (by omega : 1 < b)).1 h2
    omega

theorem vl_lt_of_len {b : Nat} {l m : List Nat} (hb : 0 < b) (hl : Norm b l) (hm : Norm b m) (h : l.length < m.length) : vl b l < vl b m := by
  have hn : m ≠ [] := by intro e; rw [e] at h; simp at h
  calc vl b l < b ^ l.length := vl_lt hl.dig
    _ ≤ b ^ (m.length - 1) := Nat.pow_le_pow_right hb (by omega)
    _ ≤ vl b m := vl_ge hm hn

theorem vl_lt_of_top {b : Nat} {l m : List Nat} (hlen : l.length = m.length) (hl : ∀ x ∈ l, x < b) (i : Nat) (hi : i < l.length)
    (hlt : l[i] < m[i]'(hlen ▸ hi)) (htop : ∀ j, i < j → (hj : j < l.length) → l[j] = m[j]'(hlen ▸ hj)) : vl b l < vl b m := by
  have ea : l = l.take i ++ l[i] :: l.drop (i + 1) := by simp
  have eb : m = m.take i ++ (m[i]'(hlen ▸ hi)) :: m.drop (i + 1) := by simp
  have ed : l.drop (i + 1) = m.drop (i + 1) := by
    apply List.ext_getElem (by simp [hlen])
    intro n h1 h2
    simp only [List.getElem_drop]
    exact htop _ (by omega) (by simp at h1; omega)
  have va : vl b l = vl b (l.take i) + b ^ i * (l[i] + b * vl b (l.drop (i + 1))) := by
    conv => lhs; rw [ea]
    rw [vl_append, List.length_take, Nat.min_eq_left (by omega)]; rfl
  have vb : vl b m = vl b (m.take i) + b ^ i * (m[i]'(hlen ▸ hi) + b * vl b (m.drop (i + 1))) := by
    conv => lhs; rw [eb]
    rw [vl_append, List.length_take, Nat.min_eq_left (by omega)]; rfl
  have ht : vl b (l.take i) < b ^ i := by
    have := vl_lt (b := b) (l := l.take i) (fun x hx => hl x (List.mem_of_mem_take hx))
    rwa [List.length_take, Nat.min_eq_left (by omega)] at this
  rw [va, vb, ← ed]
  calc vl b (l.take i) + b ^ i * (l[i] + b * vl b (l.drop (i + 1))) < b ^ i + b ^ i * (l[i] + b * vl b (l.drop (i + 1))) := by omega
    _ = b ^ i * (l[i] + 1 + b * vl b (l.drop (i + 1))) := by rw [Nat.add_right_comm, Nat.mul_add _ _ 1]; omega
    _ ≤ b ^ i * (m[i]'(hlen ▸ hi) + b * vl b (l.drop (i + 1))) := Nat.mul_le_mul_left _ (by omega)
    _ ≤ _ := Nat.le_add_left _ _

theorem take_vl (b : Nat) (l : List Nat) (k : Nat) (h : k < l.length) : vl b (l.take (k + 1)) = vl b (l.take k) + b ^ k * l[k] := by
  rw [List.take_succ_eq_append_getElem h, vl_append, List.length_take, Nat.min_eq_left (by omega)]; simp [vl]

/-- Carrying a digit's tens on to the next one changes no number. -/
theorem carry_step (b : Nat) (_hb : 0 < b) (l : List Nat) (i : Nat) (h : i + 1 < l.length) :
    vl b ((l.set (i + 1) (l[i + 1] + l[i] / b)).set i (l[i] % b)) = vl b l := by
  have h' : i < (l.set (i + 1) (l[i + 1] + l[i] / b)).length := by simp; omega
  have e : (l.set (i + 1) (l[i + 1] + l[i] / b))[i]'h' = l[i] := by simp [List.getElem_set_ne]
  have h1 := vl_set_down b (l.set (i + 1) (l[i + 1] + l[i] / b)) i (l[i] % b) h' (by rw [e]; exact Nat.mod_le _ _)
  rw [e, vl_set b l (i + 1) (l[i] / b) h] at h1
  have e2 : (l[i] - l[i] % b) * b ^ i = l[i] / b * b ^ (i + 1) := by
    have h3 : l[i] - l[i] % b = l[i] / b * b := by
      have := Nat.div_add_mod l[i] b
      rw [Nat.mul_comm]; omega
    rw [h3, Nat.pow_succ, Nat.mul_assoc, Nat.mul_comm b]
  omega

/-- The last digit of a small number is 0. -/
theorem last_zero {b : Nat} (_hb : 0 < b) {l : List Nat} {n : Nat} (hl : l.length = n + 1) (h : vl b l < b ^ n) : l[n]'(by omega) = 0 := by
  have e : l = l.take n ++ [l[n]'(by omega)] := by
    have := List.take_succ_eq_append_getElem (l := l) (i := n) (by omega)
    rw [← this, List.take_of_length_le (by omega)]
  have v : vl b l = vl b (l.take n) + b ^ n * l[n]'(by omega) := by
    conv => lhs; rw [e]
    rw [vl_append, List.length_take, Nat.min_eq_left (by omega)]; simp [vl]
  rcases Nat.eq_zero_or_pos (l[n]'(by omega)) with h0 | h0
  · exact h0
  · have : b ^ n * 1 ≤ b ^ n * l[n]'(by omega) := Nat.mul_le_mul_left _ h0
    omega

/-- What is left when zeros at the top are cut. -/
theorem cut_vl {b : Nat} {l : List Nat} {n : Nat} (h : ∀ j, n ≤ j → (hj : j < l.length) → l[j] = 0) : vl b (l.take n) = vl b l := by
  have e : l = l.take n ++ l.drop n := (List.take_append_drop n l).symm
  have hz : l.drop n = List.replicate (l.drop n).length 0 := by
    apply List.eq_replicate_iff.2
    refine ⟨rfl, fun x hx => ?_⟩
    obtain ⟨i, hi, rfl⟩ := List.mem_iff_getElem.1 hx
    rw [List.getElem_drop]
    exact h _ (by omega) _
  conv => rhs; rw [e]
  rw [vl_append, hz, vl_zero]; simp
theorem cut_norm {b : Nat} {l : List Nat} {n : Nat} (hn : n ≤ l.length) (hd : ∀ x ∈ l, x < b) (h : n = 0 ∨ ∃ hj : n - 1 < l.length, l[n - 1] ≠ 0) : Norm b (l.take n) := by
  refine ⟨fun x hx => hd x (List.mem_of_mem_take hx), fun hne => ?_⟩
  rcases h with rfl | ⟨hj, h⟩
  · simp at hne
  · have hn0 : n ≠ 0 := by intro e; subst e; simp at hne
    rw [List.getLast_eq_getElem]
    have hl : (l.take n).length = n := by simp [hn]
    simp only [hl, List.getElem_take]
    omega

/-- The digits of a number. -/
def digs (b : Nat) : Nat → Nat → List Nat
  | 0, _ => []
  | k + 1, n => if 0 < n then n % b :: digs b k (n / b) else []
theorem digs_vl (b : Nat) : ∀ k n, n < b ^ k → vl b (digs b k n) = n := by
  intro k
  induction k with
  | zero => intro n h; simp at h; subst h; rfl
  | succ k ih =>
    intro n h
    unfold digs
    split
    · simp only [vl]
      rw [ih (n / b) (by rw [Nat.pow_succ] at h; exact Nat.div_lt_of_lt_mul (by rw [Nat.mul_comm]; exact h))]
      exact Nat.mod_add_div n b
    · simp [vl]; omega
theorem digs_norm (b : Nat) (hb : 2 ≤ b) : ∀ k n, n < b ^ k → Norm b (digs b k n) := by
  intro k
  induction k with
  | zero => intro n _; exact ⟨by simp [digs], by simp [digs]⟩
  | succ k ih =>
    intro n h
    unfold digs
    split
    · rename_i hn
      have h2 : n / b < b ^ k := by rw [Nat.pow_succ] at h; exact Nat.div_lt_of_lt_mul (by rw [Nat.mul_comm]; exact h)
      have hi := ih (n / b) h2
      refine ⟨fun x hx => ?_, fun hne => ?_⟩
      · rcases List.mem_cons.1 hx with rfl | hx
        · exact Nat.mod_lt _ (by omega)
        · exact hi.dig x hx
      · by_cases he : digs b k (n / b) = []
        · have hv := digs_vl b k (n / b) h2
          rw [he] at hv
          have h0 : n / b = 0 := hv.symm
          have h3 : n < b := by
            rcases Nat.lt_or_ge n b with h' | h'
            · exact h'
            · have := (Nat.one_le_div_iff (by omega : 0 < b)).2 h'; omega
          simp only [he, List.getLast_singleton]
          rw [Nat.mod_eq_of_lt h3]; exact hn
        · rw [List.getLast_cons he]; exact hi.last he
    · exact ⟨by simp, by simp⟩
theorem digs_len (b k n : Nat) : (digs b k n).length ≤ k := by
  induction k generalizing n with
  | zero => exact Nat.le_refl _
  | succ k ih =>
    unfold digs
    split
    · simp only [List.length_cons]; exact Nat.succ_le_succ (ih _)
    · simp
end Go.Proofs.YtedfajokiblfhaaGreat.Lt.Pw

/- Walks of the reference's whole numbers: Of, Compare: contracts. -/
namespace Go.Proofs.YtedfajokiblfhaaGreat.Lt
open Go.RowKit Go.Lib

def B6 : Nat := 1000000
def iv (l : List Nat) : List Value := l.map fun (x : Nat) => Value.int .i64 (x : Int)
theorem iv_len (l : List Nat) : (iv l).length = l.length := by simp [iv]
theorem iv_get (l : List Nat) (k : Nat) (h : k < l.length) : (iv l)[k]? = some (.int .i64 (l[k] : Nat)) := by simp [iv, h]
theorem iv_append (a b : List Nat) : iv (a ++ b) = iv a ++ iv b := by simp [iv]
theorem iv_set (l : List Nat) (k x : Nat) : (iv l).set k (.int .i64 (x : Int)) = iv (l.set k x) := by simp [iv, List.map_set]
/-- A row of ints of the call's own. -/
def RowV (w : World) (base : Nat) (v : Value) (l : List Nat) : Prop := w.ownsRow base 3 1 v l.length (iv l)
/-- A row of ints that is read. -/
def RowR (w : World) (v : Value) (l : List Nat) : Prop := (v = .slice none 0 0 ∧ l = []) ∨ ∃ g cap, v = .slice (some ⟨g, 0, none⟩) l.length cap ∧ ∀ k (h : k < l.length), w.cell? ⟨g, k, none⟩ = some (.int .i64 (l[k] : Nat))
theorem RowV.reads {w : World} {base : Nat} {v : Value} {l : List Nat} (h : RowV w base v l) : RowR w v l := by
  rcases h.2 with ⟨rfl, h0⟩ | ⟨g, cap, cur, rfl, _⟩
  · exact .inl ⟨rfl, List.eq_nil_of_length_eq_zero h0⟩
  · exact .inr ⟨g, cap, rfl, fun k hk => by rw [World.ownsRow.cellAt h k (by omega), iv_get _ k hk]⟩
theorem RowR.keep {W w2 : World} {v : Value} {l : List Nat} (h : RowR W v l) (hb : Below W.heap.size W w2) : RowR w2 v l := by
  rcases h with h | ⟨g, cap, hv, hc⟩
  · exact .inl h
  · exact .inr ⟨g, cap, hv, fun k hk => keep_cell hb (hc k hk)⟩

/-- A whole number of the call's own; one that is read. -/
def Wh (w : World) (base : Nat) (v : Value) (x : Nat) : Prop := ∃ l, RowV w base v l ∧ Pw.Norm B6 l ∧ Pw.vl B6 l = x
def WhR (w : World) (v : Value) (x : Nat) : Prop := ∃ l, RowR w v l ∧ Pw.Norm B6 l ∧ Pw.vl B6 l = x
theorem Wh.reads {w : World} {base : Nat} {v : Value} {x : Nat} (h : Wh w base v x) : WhR w v x := by
  obtain ⟨l, h1, h2⟩ := h
  exact ⟨l, h1.reads, h2⟩
theorem WhR.keep {W w2 : World} {v : Value} {x : Nat} (h : WhR W v x) (hb : Below W.heap.size W w2) : WhR w2 v x := by
  obtain ⟨l, h1, h2⟩ := h
  exact ⟨l, h1.keep hb, h2⟩
theorem B6_pos : 2 ≤ B6 := by unfold B6; omega
attribute [irreducible] B6

/-- What Of, Times and Power hand back: a new whole number. -/
def WhP (x : Nat) (w : World) (e : Ending) (w' : World) : Prop := ∃ v, e = .returned v ∧ Wh w' w.heap.size v x ∧ Below w.heap.size w w'

theorem info_int : (Tryz.prog.info? 3).map (fun i => (i.zero, i.size, i.bytes)) = some (some (.int .i64 0), 1, 8) := by kernel_rfl

/-- Of, digit by digit. -/
structure OfR (n m : Nat) (l : List Nat) : Prop where
  dig : ∀ x ∈ l, x < B6
  sum : Pw.vl B6 l + m * B6 ^ l.length = n
  norm : m = 0 → Pw.Norm B6 l
theorem OfR.start (n : Nat) : OfR n n [] := ⟨by simp, by simp [Pw.vl], fun _ => ⟨by simp, by simp⟩⟩
theorem OfR.len {n m : Nat} {l : List Nat} (h : OfR n m l) (hm : 0 < m) (hn : n < 9000000000000000000) : l.length ≤ 3 := by
  rcases Nat.lt_or_ge 3 l.length with h4 | h4
  · have h1 := h.sum
    have h2 : B6 ^ 4 ≤ B6 ^ l.length := Nat.pow_le_pow_right (by have := B6_pos; omega) h4
    have h3 : 1 * B6 ^ l.length ≤ m * B6 ^ l.length := Nat.mul_le_mul_right _ hm
    have h5 : B6 ^ 4 = 1000000000000000000000000 := by unfold B6; rfl
    omega
  · exact h4
theorem OfR.step {n m : Nat} {l : List Nat} (h : OfR n m l) (hm : 0 < m) : OfR n (m / B6) (l ++ [m % B6]) := by
  have hb := B6_pos
  refine ⟨?_, ?_, fun h0 => ⟨?_, fun hne => ?_⟩⟩
  · intro x hx
    rcases List.mem_append.1 hx with hx | hx
    · exact h.dig x hx
    · simp at hx; subst hx; exact Nat.mod_lt _ (by omega)
  · have h1 := h.sum
    rw [Pw.vl_append]
    simp only [Pw.vl, List.length_append, List.length_cons, List.length_nil, Nat.mul_zero, Nat.add_zero, Nat.zero_add, Nat.pow_succ]
    have e : m * B6 ^ l.length = B6 ^ l.length * (m % B6) + m / B6 * (B6 ^ l.length * B6) := by
      conv => lhs; rw [← Nat.div_add_mod m B6]
      rw [Nat.add_mul, Nat.mul_comm (m % B6), Nat.mul_comm B6, Nat.mul_assoc, Nat.mul_comm B6 (B6 ^ _)]; omega
    omega
  · intro x hx
    rcases List.mem_append.1 hx with hx | hx
    · exact h.dig x hx
    · simp at hx; subst hx; exact Nat.mod_lt _ (by omega)
  · have hlast : (l ++ [m % B6]).getLast hne = m % B6 := by simp
    rw [hlast]
    have : m < B6 := by
      rcases Nat.lt_or_ge m B6 with h' | h'
      · exact h'
      · have := (Nat.one_le_div_iff (by omega : 0 < B6)).2 h'; omega
    rw [Nat.mod_eq_of_lt this]; exact hm
theorem B6_eq : B6 = 1000000 := by unfold B6; rfl
theorem row_append {w1 : World} {base : Nat} {v : Value} {l : List Nat} {x : Nat} {y : Int} (hy : y = (x : Int)) (h : w1.ownsRow base 3 1 v (l.length + 1) (iv l ++ [.int .i64 y])) : RowV w1 base v (l ++ [x]) := by
  subst hy
  unfold RowV
  rw [iv_append, List.length_append]
  exact h
theorem below_append {w wr w1 : World} {v : Value} {l : List Nat} {o : Obj} (hB : Below w.heap.size w wr) (hv : RowV wr w.heap.size v l) (hg : (wr.alloc o).grownBy w1 v.ownBlock) : Below w.heap.size w w1 :=
  (hB.alloc hB.size o).grown hg (by have := hB.size; simp; omega) (fun k hk => (World.ownsRow.lt hv k hk).1)

set_option maxHeartbeats 1000000 in
theorem of_any (n : Nat) (w : World) (hn : n < 9000000000000000000) : Calls Tryz.prog 168 #[.int .i64 n] w (WhP n w) := by
  obtain ⟨i0, hi, hz0, hz1, hz2⟩ := info_parts info_int
  go_enter Tryz.func168, Tryz.ntmps168
  go_wp2
  go_loopw [0, 3] (fun a v wr => ∃ m : Nat, a = .int .i64 m ∧ m < 9000000000000000000 ∧ ∃ l : List Nat, RowV wr w.heap.size v l ∧ Hid (OfR n m l) ∧ Below w.heap.size w wr) (fun a _ _ => (intOf a).toNat)
  case atStart => exact ⟨n, rfl, hn, [], World.ownsRow_nil _ _ _ _, OfR.start n, Below.refl _ _⟩
  case round =>
    obtain ⟨m, rfl, hmn, l, hv, hl, hB⟩ := hrel
    by_cases h0 : 0 < m
    · have hsz := hB.size
      have hlen := hl.out.len h0 hn
      have hst := hid (hl.out.step h0)
      go_wp2_with (at_builtin; refine wpList_append_own _ rfl (.tmp 6) (.tmp 9) 182 rfl w.heap.size 3 i0 (.int .i64 0) 1 8 Tryz.underlying182 hi hz0 hz1 hz2 rfl (by decide) _ _ _ rfl (World.ownsRow.alloc hv _) ⟨wr.heap.size, 0, none⟩ 1 1 [.int .i64 ((m : Int) % 1000000)] rfl rfl cell_one_at one_cell (by unfold maxLen; omega) (by omega) (by simp; omega) ?_; intro v1 w1 hown1 hgrow1 _)
      go_roundw
      case rel => exact ⟨m / 1000000, by go_num, by omega, l ++ [m % 1000000], row_append (by omega) hown1, by rw [← B6_eq]; exact hst, below_append hB hv hgrow1⟩
      case measure => simp [intOf]; omega
    · obtain rfl : m = 0 := by omega
      go_wp2
      go_ret
      exact ⟨_, rfl, ⟨l, hv, hl.out.norm rfl, by have := hl.out.sum; simpa using this⟩, hB⟩

theorem drew1 {w : World} {n m : Nat} : ∃ k, (w.drewN n).drewN m = w.drewN k := ⟨_, World.drewN_drewN _ _ _⟩
theorem drew2 {w : World} {n m q : Nat} : ∃ k, ((w.drewN n).drewN m).drewN q = w.drewN k := ⟨_, by rw [World.drewN_drewN, World.drewN_drewN]⟩
def cmpI (x y : Nat) : Int := if x < y then -1 else if y < x then 1 else 0
theorem cmpI_len {a b : List Nat} (ha : Pw.Norm B6 a) (hb : Pw.Norm B6 b) (h : a.length < b.length) : cmpI (Pw.vl B6 a) (Pw.vl B6 b) = -1 := by
  unfold cmpI; rw [if_pos (Pw.vl_lt_of_len (by have := B6_pos; omega) ha hb h)]
theorem cmpI_len' {a b : List Nat} (ha : Pw.Norm B6 a) (hb : Pw.Norm B6 b) (h : b.length < a.length) : cmpI (Pw.vl B6 a) (Pw.vl B6 b) = 1 := by
  have := Pw.vl_lt_of_len (by have := B6_pos; omega) hb ha h
  unfold cmpI; rw [if_neg (by omega), if_pos this]
theorem cmpI_top {a b : List Nat} (hl : a.length = b.length) (ha : Pw.Norm B6 a) (i : Nat) (hi : i < a.length) (hlt : a[i] < b[i]'(hl ▸ hi))
    (htop : ∀ j, i < j → (hj : j < a.length) → a[j] = b[j]'(hl ▸ hj)) : cmpI (Pw.vl B6 a) (Pw.vl B6 b) = -1 := by
  unfold cmpI; rw [if_pos (Pw.vl_lt_of_top hl ha.dig i hi hlt htop)]
theorem cmpI_top' {a b : List Nat} (hl : a.length = b.length) (hb : Pw.Norm B6 b) (i : Nat) (hi : i < a.length) (hlt : b[i]'(hl ▸ hi) < a[i])
    (htop : ∀ j, i < j → (hj : j < a.length) → a[j] = b[j]'(hl ▸ hj)) : cmpI (Pw.vl B6 a) (Pw.vl B6 b) = 1 := by
  have := Pw.vl_lt_of_top hl.symm hb.dig i (hl ▸ hi) hlt (fun j hj h2 => (htop j hj (hl.symm ▸ h2)).symm)
  unfold cmpI; rw [if_neg (by omega), if_pos this]
theorem cmpI_same (x : Nat) : cmpI x x = 0 := by unfold cmpI; rw [if_neg (Nat.lt_irrefl _), if_neg (Nat.lt_irrefl _)]

set_option maxHeartbeats 1000000 in
theorem cmp_len (a b : List Nat) (pa pb : Option Addr) (ca cb : Nat) (w : World) (ha : Pw.Norm B6 a) (hb : Pw.Norm B6 b) (hne : a.length ≠ b.length) :
    Calls Tryz.prog 169 #[.slice pa a.length ca, .slice pb b.length cb] w fun e w' => e = .returned (.int .i64 (cmpI (Pw.vl B6 a) (Pw.vl B6 b))) ∧ ∃ n, w' = w.drewN n := by
  have hd : ((a.length : Int) != b.length) = true := by simp; omega
  by_cases hlt : a.length < b.length
  · have hr := hid (cmpI_len ha hb hlt)
    go_enter Tryz.func169, Tryz.ntmps169
    go_wp2
    go_ret
    exact ⟨ret_int hr.out.symm, 0, rfl⟩
  · have hr := hid (cmpI_len' ha hb (by omega))
    go_enter Tryz.func169, Tryz.ntmps169
    go_wp2
    go_ret
    exact ⟨ret_int hr.out.symm, 0, rfl⟩

set_option maxHeartbeats 2000000 in
theorem cmp_same (a b : List Nat) (ga gb ca cb : Nat) (w : World) (ha : Pw.Norm B6 a) (hb : Pw.Norm B6 b) (hl : a.length = b.length) (h1 : a.length ≤ 1000000)
    (hca : ∀ k (h : k < a.length), w.cell? ⟨ga, k, none⟩ = some (.int .i64 (a[k] : Nat))) (hcb : ∀ k (h : k < b.length), w.cell? ⟨gb, k, none⟩ = some (.int .i64 (b[k] : Nat))) :
    Calls Tryz.prog 169 #[.slice (some ⟨ga, 0, none⟩) a.length ca, .slice (some ⟨gb, 0, none⟩) a.length cb] w fun e w' => e = .returned (.int .i64 (cmpI (Pw.vl B6 a) (Pw.vl B6 b))) ∧ ∃ n, w' = w.drewN n := by
  have HL := hid hl
  have HCA := hid hca
  have HCB := hid hcb
  clear hca hcb hl
  go_enter Tryz.func169, Tryz.ntmps169
  go_wp2
  go_loopw [5] (fun i wr => ∃ k : Nat, k ≤ a.length ∧ i = .int .i64 ((k : Int) - 1) ∧ Hid (∀ j, k ≤ j → (hj : j < a.length) → a[j] = b[j]'(HL.out ▸ hj)) ∧ ∃ n, wr = w.drewN n) (fun i _ => (intOf i + 1).toNat)
  case atStart => exact ⟨a.length, Nat.le_refl _, by go_num, fun j h1 h2 => absurd h2 (by omega), 0, rfl⟩
  case round =>
    obtain ⟨k, hk, rfl, htop, n, rfl⟩ := hrel
    by_cases hk0 : k = 0
    · subst hk0
      have hr : Hid (cmpI (Pw.vl B6 a) (Pw.vl B6 b) = 0) := by rw [top_same HL.out htop.out]; exact cmpI_same _
      rw [show ((0 : Nat) : Int) - 1 = -1 from rfl]
      go_wp2
      go_ret
      exact ⟨ret_int hr.out.symm, n, rfl⟩
    · obtain ⟨i, rfl⟩ : ∃ i, k = i + 1 := ⟨k - 1, by omega⟩
      rw [show ((i + 1 : Nat) : Int) - 1 = (i : Int) by omega]
      have ex := HCA.out i (by omega)
      have ey := HCB.out i (by rw [← HL.out]; omega)
      rcases Nat.lt_trichotomy (a[i]'(by omega)) (b[i]'(by rw [← HL.out]; omega)) with hxy | hxy | hxy
      · have hr := hid (cmpI_top HL.out ha i (by omega) hxy (fun j h1 h2 => htop.out j h1 h2))
        generalize a[i]'(by omega) = x at ex hxy
        generalize b[i]'(by rw [← HL.out]; omega) = y at ey hxy
        have hd1 : decide (x < y) = true := by simp; omega
        clear hxy
        go_wp2
        go_quiet (fail)
        go_wp2
        go_ret
        exact ⟨ret_int hr.out.symm, by first | exact ⟨_, rfl⟩ | exact drew1 | exact drew2⟩
      · have htop' := hid (show ∀ j, i ≤ j → (hj : j < a.length) → a[j] = b[j]'(HL.out ▸ hj) from fun j h1 h2 => by
          rcases Nat.eq_or_lt_of_le h1 with rfl | h3
          · exact hxy
          · exact htop.out j h3 h2)
        generalize a[i]'(by omega) = x at ex hxy
        generalize b[i]'(by rw [← HL.out]; omega) = y at ey hxy
        subst hxy
        go_wp2
        go_quiet (fail)
        go_wp2
        go_quiet (fail)
        go_wp2
        go_roundw
        case rel => exact ⟨i, by omega, rfl, htop', by first | exact ⟨_, rfl⟩ | exact drew1 | exact drew2⟩
        case measure => simp [intOf]
      · have hr := hid (cmpI_top' HL.out hb i (by omega) hxy (fun j h1 h2 => htop.out j h1 h2))
        generalize a[i]'(by omega) = x at ex hxy
        generalize b[i]'(by rw [← HL.out]; omega) = y at ey hxy
        have hd1 : decide (x < y) = false := by simp; omega
        have hd2 : decide (y < x) = true := by simp; omega
        clear hxy
        go_wp2
        go_quiet (fail)
        go_wp2
        go_quiet (fail)
        go_wp2
        go_ret
        exact ⟨ret_int hr.out.symm, by first | exact ⟨_, rfl⟩ | exact drew1 | exact drew2⟩

set_option maxHeartbeats 1000000 in
theorem cmp_zero (pa pb : Option Addr) (ca cb : Nat) (w : World) : Calls Tryz.prog 169 #[.slice pa 0 ca, .slice pb 0 cb] w fun e w' => e = .returned (.int .i64 (cmpI (Pw.vl B6 []) (Pw.vl B6 []))) ∧ ∃ n, w' = w.drewN n := by
  have hr := hid (cmpI_same (Pw.vl B6 []))
  go_enter Tryz.func169, Tryz.ntmps169
  go_wp2
  refine wp_loop_rounds 1 ?_
  rw [rounds_succ]
  go_wp2
  go_ret
  exact ⟨ret_int hr.out.symm, 0, rfl⟩

theorem cmp_any (va vb : Value) (x y : Nat) (w : World) (ra : WhR w va x) (rb : WhR w vb y) (hx : x < 1000000 ^ 1000) (hy : y < 1000000 ^ 1000) :
    Calls Tryz.prog 169 #[va, vb] w fun e w' => e = .returned (.int .i64 (cmpI x y)) ∧ ∃ n, w' = w.drewN n := by
  obtain ⟨a, ra, na, rfl⟩ := ra
  obtain ⟨b, rb, nb, rfl⟩ := rb
  have la := Pw.len_le B6_pos na (k := 1000) (by rw [B6_eq] at hx ⊢; exact hx)
  have lb := Pw.len_le B6_pos nb (k := 1000) (by rw [B6_eq] at hy ⊢; exact hy)
  clear hx hy
  have hc : (∃ ga ca, va = .slice (some ⟨ga, 0, none⟩) a.length ca ∧ ∀ k (h : k < a.length), w.cell? ⟨ga, k, none⟩ = some (.int .i64 (a[k] : Nat))) ∨ (va = .slice none 0 0 ∧ a = []) := by
    rcases ra with h | h
    · exact .inr h
    · exact .inl h
  have hd : (∃ gb cb, vb = .slice (some ⟨gb, 0, none⟩) b.length cb ∧ ∀ k (h : k < b.length), w.cell? ⟨gb, k, none⟩ = some (.int .i64 (b[k] : Nat))) ∨ (vb = .slice none 0 0 ∧ b = []) := by
    rcases rb with h | h
    · exact .inr h
    · exact .inl h
  by_cases hl : a.length = b.length
  · by_cases h0 : a.length = 0
    · obtain rfl := List.eq_nil_of_length_eq_zero h0
      obtain rfl := List.eq_nil_of_length_eq_zero (hl.symm.trans h0)
      have : ∃ pa ca, va = .slice pa 0 ca := by rcases hc with ⟨ga, ca, rfl, _⟩ | ⟨rfl, _⟩ <;> exact ⟨_, _, rfl⟩
      obtain ⟨pa, ca, rfl⟩ := this
      have : ∃ pb cb, vb = .slice pb 0 cb := by rcases hd with ⟨gb, cb, rfl, _⟩ | ⟨rfl, _⟩ <;> exact ⟨_, _, rfl⟩
      obtain ⟨pb, cb, rfl⟩ := this
      exact cmp_zero pa pb ca cb w
    · obtain ⟨ga, ca, rfl, ha⟩ := hc.resolve_right (fun h => h0 (by rw [h.2]; rfl))
      obtain ⟨gb, cb, rfl, hb⟩ := hd.resolve_right (fun h => h0 (by rw [hl, h.2]; rfl))
      rw [← hl]
      exact cmp_same a b ga gb ca cb w na nb hl (by omega) ha hb
  · have : ∃ pa ca, va = .slice pa a.length ca := by rcases hc with ⟨ga, ca, rfl, _⟩ | ⟨rfl, rfl⟩ <;> exact ⟨_, _, rfl⟩
    obtain ⟨pa, ca, rfl⟩ := this
    have : ∃ pb cb, vb = .slice pb b.length cb := by rcases hd with ⟨gb, cb, rfl, _⟩ | ⟨rfl, rfl⟩ <;> exact ⟨_, _, rfl⟩
    obtain ⟨pb, cb, rfl⟩ := this
    exact cmp_len a b pa pb ca cb w na nb hl
end Go.Proofs.YtedfajokiblfhaaGreat.Lt

/- Walk of the reference's Times: contract. -/
namespace Go.Proofs.YtedfajokiblfhaaGreat.Lt
open Go.RowKit Go.Lib

def at0 (l : List Nat) (i : Nat) : Nat := (l[i]?).getD 0
theorem at0_eq {l : List Nat} {i : Nat} (h : i < l.length) : at0 l i = l[i] := by simp [at0, h]
theorem mul_mill {x y : Nat} (h1 : x ≤ 1000000) (h2 : y ≤ 1000000) : x * y ≤ 1000000000000 := by
  have := Nat.mul_le_mul h1 h2
  omega
theorem dig_mill {l : List Nat} (h : ∀ x ∈ l, x < B6) {i : Nat} (hi : i < l.length) : l[i] ≤ 1000000 := by
  have := h _ (List.getElem_mem hi)
  rw [B6_eq] at this; omega

/-- Times, while it adds up: after i digits of a, and k of b with the next one. -/
structure TmR (a b : List Nat) (i k : Nat) (out : List Nat) : Prop where
  len : out.length = a.length + b.length + 1
  sum : Pw.vl B6 out = Pw.vl B6 (a.take i) * Pw.vl B6 b + at0 a i * B6 ^ i * Pw.vl B6 (b.take k)
  small : ∀ x ∈ out, x ≤ (i * b.length + k) * 1000000000000

theorem TmR.start (a b : List Nat) : TmR a b 0 0 (List.replicate (a.length + b.length + 1) 0) :=
  ⟨by simp, by rw [Pw.vl_zero]; simp [Pw.vl], fun x hx => by rw [List.eq_of_mem_replicate hx]; exact Nat.zero_le _⟩
theorem TmR.next {a b out : List Nat} {i : Nat} (h : TmR a b i b.length out) (hi : i < a.length) : TmR a b (i + 1) 0 out := by
  refine ⟨h.len, ?_, fun x hx => by have := h.small x hx; rw [Nat.add_mul i 1 b.length, Nat.one_mul, Nat.add_zero]; exact this⟩
  rw [h.sum, List.take_length, Pw.take_vl B6 a i hi]
  simp only [Pw.vl, List.take_zero, Nat.mul_zero, Nat.add_zero]
  rw [Nat.add_mul, at0_eq hi, Nat.mul_comm (B6 ^ i)]
theorem TmR.step {a b out : List Nat} {i k : Nat} (h : TmR a b i k out) (ha : ∀ x ∈ a, x < B6) (hb : ∀ x ∈ b, x < B6) (hi : i < a.length) (hk : k < b.length) (hik : i + k < out.length) :
    TmR a b i (k + 1) (out.set (i + k) (out[i + k] + a[i] * b[k])) := by
  refine ⟨by rw [List.length_set]; exact h.len, ?_, fun x hx => ?_⟩
  · rw [Pw.vl_set, h.sum, Pw.take_vl B6 b k hk, Nat.mul_add, at0_eq hi, Nat.pow_add]
    have : a[i] * b[k] * (B6 ^ i * B6 ^ k) = a[i] * B6 ^ i * (B6 ^ k * b[k]) := by
      rw [Nat.mul_assoc, Nat.mul_assoc, Nat.mul_comm b[k], Nat.mul_assoc]
    omega
  · rcases List.mem_or_eq_of_mem_set hx with hx | rfl
    · exact Nat.le_trans (h.small x hx) (Nat.mul_le_mul_right _ (by omega))
    · have h1 := h.small out[i + k] (List.getElem_mem _)
      have h2 := mul_mill (dig_mill ha hi) (dig_mill hb hk)
      rw [← Nat.add_assoc, Nat.succ_mul]; exact Nat.add_le_add h1 h2
theorem prod_le {a b : List Nat} {i k : Nat} (ha : ∀ x ∈ a, x < B6) (hb : ∀ x ∈ b, x < B6) (hi : i < a.length) (hk : k < b.length) : a[i] * b[k] ≤ 1000000000000 := mul_mill (dig_mill ha hi) (dig_mill hb hk)

/-- Times, while it carries: the first i digits are below the base. -/
structure TcR (V L i : Nat) (out : List Nat) : Prop where
  len : out.length = L
  sum : Pw.vl B6 out = V
  dig : ∀ j, j < i → (hj : j < out.length) → out[j] < B6
  small : ∀ x ∈ out, x ≤ 2000000000000000000
  rest : ∀ j, i < j → (hj : j < out.length) → out[j] ≤ 1000000000000000000
theorem TcR.step {V L i : Nat} {out : List Nat} (h : TcR V L i out) (hi : i + 1 < out.length) (hi' : i < out.length) :
    TcR V L (i + 1) ((out.set (i + 1) (out[i + 1] + out[i] / 1000000)).set i (out[i] % 1000000)) := by
  have hp := B6_pos
  have hc := Pw.carry_step B6 (by omega) out i hi
  rw [← B6_eq]
  refine ⟨by simp [h.len], by rw [hc]; exact h.sum, fun j hj hjl => ?_, fun x hx => ?_, fun j hj hjl => ?_⟩
  · rcases Nat.lt_or_ge j i with h1 | h1
    · rw [List.getElem_set_ne (by omega), List.getElem_set_ne (by omega)]
      exact h.dig j h1 (by simpa using hjl)
    · obtain rfl : j = i := by omega
      rw [List.getElem_set_self]; exact Nat.mod_lt _ (by omega)
  · rcases List.mem_or_eq_of_mem_set hx with hx | rfl
    · rcases List.mem_or_eq_of_mem_set hx with hx | rfl
      · exact h.small x hx
      · have h1 := h.rest (i + 1) (by omega) hi
        have h2 := h.small out[i] (List.getElem_mem _)
        have h3 : out[i] / B6 ≤ 2000000000000 := by rw [B6_eq]; omega
        omega
    · have : out[i] % B6 < B6 := Nat.mod_lt _ (by omega)
      rw [B6_eq] at this; rw [B6_eq]; omega
  · rw [List.getElem_set_ne (by omega), List.getElem_set_ne (by omega)]
    exact h.rest j (by omega) (by simpa using hjl)
theorem TcR.start {a b out : List Nat} (h : TmR a b a.length 0 out) (la : a.length ≤ 1000) (lb : b.length ≤ 1000) : TcR (Pw.vl B6 a * Pw.vl B6 b) (a.length + b.length + 1) 0 out := by
  have hs : ∀ x ∈ out, x ≤ 1000000000000000000 := fun x hx => by
    have h1 := h.small x hx
    have h2 := Nat.mul_le_mul la lb
    omega
  refine ⟨h.len, ?_, fun j hj => absurd hj (Nat.not_lt_zero _), fun x hx => Nat.le_trans (hs x hx) (by omega), fun j _ hj => hs _ (List.getElem_mem _)⟩
  rw [h.sum, List.take_length]; simp [Pw.vl]
/-- When all is carried, the number is whole but for zeros at its top. -/
theorem TcR.done {a b out : List Nat} {i : Nat} (h : TcR (Pw.vl B6 a * Pw.vl B6 b) (a.length + b.length + 1) i out) (hi : a.length + b.length ≤ i) (na : Pw.Norm B6 a) (nb : Pw.Norm B6 b) : ∀ x ∈ out, x < B6 := by
  have hp := B6_pos
  have hv : Pw.vl B6 out < B6 ^ (a.length + b.length) := by
    rw [h.sum, Nat.pow_add]
    exact Nat.mul_lt_mul'' (Pw.vl_lt na.dig) (Pw.vl_lt nb.dig)
  have h0 := Pw.last_zero (by omega) h.len hv
  intro x hx
  obtain ⟨j, hj, rfl⟩ := List.mem_iff_getElem.1 hx
  rcases Nat.lt_or_ge j (a.length + b.length) with h1 | h1
  · exact h.dig j (by omega) hj
  · have hl := h.len
    obtain rfl : j = a.length + b.length := by omega
    rw [h0]; omega
theorem row_cut {w : World} {base g cap n : Nat} {l : List Nat} (h : RowV w base (.slice (some ⟨g, 0, none⟩) l.length cap) l) (hn : n ≤ l.length) : RowV w base (.slice (some ⟨g, 0, none⟩) n cap) (l.take n) := by
  unfold RowV at h ⊢
  have hl : (l.take n).length = n := by simp [hn]
  rw [hl]
  rcases h.2 with ⟨h0, _⟩ | ⟨g', cap', cur, h0, hb, hg, hnc, hcm, hcs, htake⟩
  · cases h0
  · cases h0
    refine ⟨by simp [iv, hn], .inr ⟨g, cap, cur, rfl, hb, hg, by omega, hcm, hcs, ?_⟩⟩
    have : (iv l).take n = iv (l.take n) := by simp [iv, List.map_take]
    rw [← this, ← htake, List.take_take]
    congr 1; omega

theorem row_cell {w : World} {base : Nat} {g cap : Nat} {l : List Nat} (h : RowV w base (.slice (some ⟨g, 0, none⟩) l.length cap) l) {k : Nat} (hk : k < l.length) :
    w.cell? ⟨g, k, none⟩ = some (.int .i64 (l[k] : Nat)) ∧ w.frozen? ⟨g, k, none⟩ = false :=
  ⟨by rw [World.ownsRow.cellAt h k (by omega), iv_get _ k hk], World.ownsRow.frozenAt h k⟩
theorem row_store {w : World} {base : Nat} {g cap : Nat} {l : List Nat} (h : RowV w base (.slice (some ⟨g, 0, none⟩) l.length cap) l) (k x : Nat) (y : Int) (hy : y = (x : Int)) :
    RowV (w.setCell ⟨g, k, none⟩ (.int .i64 y)) base (.slice (some ⟨g, 0, none⟩) l.length cap) (l.set k x) ∧ w.grownBy (w.setCell ⟨g, k, none⟩ (.int .i64 y)) (some g) := by
  subst hy
  have := World.ownsRow.stored h k (.int .i64 (x : Int))
  rw [iv_set] at this
  refine ⟨?_, this.2⟩
  unfold RowV
  rw [List.length_set]
  exact this.1

/-- What is left when the zeros are cut. -/
theorem whole_cut {w : World} {base g L n V : Nat} {out : List Nat} (hR : RowV w base (.slice (some ⟨g, 0, none⟩) L L) out) (hL : out.length = L) (hd : ∀ x ∈ out, x < B6) (hs : Pw.vl B6 out = V)
    (hz : ∀ j, n ≤ j → (hj : j < out.length) → out[j] = 0) (hn : n ≤ L) (h : n = 0 ∨ ∃ hj : n - 1 < out.length, out[n - 1] ≠ 0) : Wh w base (.slice (some ⟨g, 0, none⟩) n L) V :=
  ⟨out.take n, row_cut (by rw [hL]; exact hR) (by omega), Pw.cut_norm (by omega) hd h, by rw [Pw.cut_vl hz]; exact hs⟩

/-- A row of digits that came in, at a known block. -/
def RowAt (w : World) (g : Nat) (l : List Nat) : Prop := ∀ k (h : k < l.length), w.cell? ⟨g, k, none⟩ = some (.int .i64 (l[k] : Nat)) ∧ g < w.heap.size

set_option maxRecDepth 20000 in
set_option maxHeartbeats 4000000 in
theorem times_row (a b : List Nat) (pa pb : Option Addr) (ga gb ca cb : Nat) (w : World) (hpa : 0 < a.length → pa = some ⟨ga, 0, none⟩) (hpb : 0 < b.length → pb = some ⟨gb, 0, none⟩)
    (ra : RowAt w ga a) (rb : RowAt w gb b) (na : Pw.Norm B6 a) (nb : Pw.Norm B6 b) (la : a.length ≤ 1000) (lb : b.length ≤ 1000) :
    Calls Tryz.prog 170 #[.slice pa a.length ca, .slice pb b.length cb] w (WhP (Pw.vl B6 a * Pw.vl B6 b) w) := by
  obtain ⟨i0, hi, hz0, hz1, hz2⟩ := info_parts info_int
  have HPA := hid hpa; have HPB := hid hpb; clear hpa hpb
  have RA := hid ra; have RB := hid rb; have NA := hid na; have NB := hid nb
  clear ra rb na nb
  go_enter Tryz.func170, Tryz.ntmps170
  go_wp2_with (at_make; refine wpList_make_full _ rfl _ _ 182 rfl w.heap.size 3 i0 (.int .i64 0) 1 Tryz.underlying182 hi hz0 hz1 _ _ _ _ (a.length + b.length + 1) rfl rfl (by omega) (by omega) (by rw [hz2]; omega) (by unfold maxLen; omega) (Nat.le_refl _) ?_; intro w1 hown1 hgrow1)
  have e0 : (madeCells (Value.int .i64 0).cells ((a.length + b.length + 1) * 1)).toList = iv (List.replicate (a.length + b.length + 1) 0) := by
    rw [Nat.mul_one]; show (madeCells #[_] _).toList = _
    rw [toList_madeCells_one]; simp [iv]
  rw [e0] at hown1
  have hrow1 : RowV w1 w.heap.size (.slice (some ⟨w.heap.size, 0, none⟩) (List.replicate (a.length + b.length + 1) 0).length (a.length + b.length + 1)) (List.replicate (a.length + b.length + 1) 0) := by
    unfold RowV; rw [List.length_replicate]; exact hown1
  have hB1 : Below w.heap.size w w1 := (Below.refl _ _).grown hgrow1 (Nat.le_refl _) (fun k h => by cases h)
  clear hown1 hgrow1 e0
  generalize hG : w.heap.size = G at hrow1 hB1 ⊢
  have HG := hid hG; clear hG
  have hTm0 := TmR.start a b
  generalize List.replicate (a.length + b.length + 1) 0 = out0 at hrow1 hTm0
  rw [hTm0.len] at hrow1
  have HR := hid hrow1
  have HB := hid hB1
  have HT := hid hTm0
  clear hrow1 hB1 hTm0
  go_wp2
  go_loopw [6] (fun si wr => ∃ i : Nat, i ≤ a.length ∧ si = .int .i64 i ∧ ∃ out : List Nat, Hid (RowV wr G (.slice (some ⟨G, 0, none⟩) (a.length + b.length + 1) (a.length + b.length + 1)) out) ∧ Hid (TmR a b i 0 out) ∧ Hid (Below G w wr)) (fun si _ => a.length - (intOf si).toNat)
  case atStart => exact ⟨0, Nat.zero_le _, rfl, out0, HR, HT, HB⟩
  case round =>
    obtain ⟨i, hi, rfl, out, hR, hT, hB⟩ := hrel
    by_cases hlt : i < a.length
    · obtain ⟨wo, rfl⟩ : ∃ wo : World, wo = wr := ⟨_, rfl⟩
      go_wp2
      go_loopw [7] (fun sk wr => ∃ k : Nat, k ≤ b.length ∧ sk = .int .i64 k ∧ ∃ out : List Nat, Hid (RowV wr G (.slice (some ⟨G, 0, none⟩) (a.length + b.length + 1) (a.length + b.length + 1)) out) ∧ Hid (TmR a b i k out) ∧ Hid (Below G w wr)) (fun sk _ => b.length - (intOf sk).toNat)
      case atStart => exact ⟨0, Nat.zero_le _, rfl, out, hR, hT, hB⟩
      case round =>
        clear hR hT hB out
        obtain ⟨k, hk, rfl, out, hR, hT, hB⟩ := hrel
        by_cases hkt : k < b.length
        · obtain rfl := HPA.out (by omega)
          obtain rfl := HPB.out (by omega)
          obtain ⟨hca, hgw⟩ := RA.out i hlt
          obtain ⟨hcb, hgw'⟩ := RB.out k hkt
          have hL := hT.out.len
          have hik : i + k < out.length := by omega
          have hRo := hR.out
          rw [← hL] at hRo
          obtain ⟨co, cf⟩ := row_cell hRo hik
          have cA := (hB.out.cell (p := ⟨ga, i, none⟩) (by rw [← HG.out]; exact hgw)).trans hca
          have cB := (hB.out.cell (p := ⟨gb, k, none⟩) (by rw [← HG.out]; exact hgw')).trans hcb
          have hpr := prod_le NA.out.dig NB.out.dig hlt hkt
          have hsm := hT.out.small _ (List.getElem_mem hik)
          have hst := hid (hT.out.step NA.out.dig NB.out.dig hlt hkt hik)
          have hbig : (i * b.length + k) * 1000000000000 ≤ 2000000000000000000 := by
            have := Nat.mul_le_mul (show i ≤ 1000 by omega) lb
            omega
          clear hRo
          obtain ⟨x, hx⟩ : ∃ x, x = a[i] := ⟨_, rfl⟩
          obtain ⟨y, hy⟩ : ∃ y, y = b[k] := ⟨_, rfl⟩
          obtain ⟨o, ho⟩ : ∃ o, o = out[i + k] := ⟨_, rfl⟩
          rw [← hx, ← hy] at hpr
          rw [← hx] at cA
          rw [← hy] at cB
          rw [← ho] at co hsm
          have HX := hid hx; have HY := hid hy; have HO := hid ho
          clear hx hy ho hca hcb hgw hgw'
          have hso : o ≤ 2000000000000000000 := Nat.le_trans hsm hbig
          clear hsm hbig
          have hik2 : i + k < a.length + b.length + 1 := by omega
          have HL := hid hL; clear hL
          go_wp2
          go_region
          go_wp2
          go_roundw
          case rel =>
            have R := row_store (l := out) (by rw [HL.out]; exact hR.out) (i + k) (out[i + k] + a[i] * b[k]) ((o : Int) + x * y) (by rw [HX.out, HY.out, HO.out]; simp)
            rw [HL.out] at R
            exact ⟨k + 1, by omega, by go_num, out.set (i + k) (out[i + k] + a[i] * b[k]), R.1, hst, (hB.out.setCell (Nat.le_refl _) _).drew⟩
          case measure => simp [intOf]; omega
        · obtain rfl : k = b.length := by omega
          have hnx := hid (hT.out.next hlt)
          go_wp2
          go_roundw
          case rel => exact ⟨i + 1, by omega, by go_num, out, hR, hnx, hB⟩
          case measure => simp [intOf]; omega
    · obtain rfl : i = a.length := by omega
      have hC := hid (TcR.start hT.out la lb)
      clear hT
      go_wp2
      go_loopw [8] (fun si wr => ∃ i : Nat, i ≤ a.length + b.length ∧ si = .int .i64 i ∧ ∃ out : List Nat, Hid (RowV wr G (.slice (some ⟨G, 0, none⟩) (a.length + b.length + 1) (a.length + b.length + 1)) out) ∧ Hid (TcR (Pw.vl B6 a * Pw.vl B6 b) (a.length + b.length + 1) i out) ∧ Hid (Below G w wr)) (fun si _ => a.length + b.length - (intOf si).toNat)
      case atStart => exact ⟨0, Nat.zero_le _, rfl, out, hR, hC, hB⟩
      case round =>
        clear hR hC hB out
        obtain ⟨i, hi2, rfl, out, hR, hC, hB⟩ := hrel
        by_cases hit : i + 1 < a.length + b.length + 1
        · have hL := hC.out.len
          have h1 : i + 1 < out.length := by omega
          have h0 : i < out.length := by omega
          have hRo := hR.out
          rw [← hL] at hRo
          obtain ⟨co, cf⟩ := row_cell hRo h1
          obtain ⟨co0, cf0⟩ := row_cell hRo h0
          have hs1 := hC.out.small _ (List.getElem_mem h1)
          have hs0 := hC.out.small _ (List.getElem_mem h0)
          have hst := hid (hC.out.step h1 h0)
          clear hRo
          obtain ⟨x, hx⟩ : ∃ x, x = out[i] := ⟨_, rfl⟩
          obtain ⟨y, hy⟩ : ∃ y, y = out[i + 1] := ⟨_, rfl⟩
          rw [← hx] at co0 hs0
          rw [← hy] at co hs1
          have HX := hid hx; have HY := hid hy
          clear hx hy
          have HL := hid hL; clear hL
          go_wp2
          go_region
          go_wp2
          go_roundw
          case rel =>
            have R1 := row_store (l := out) (by rw [HL.out]; exact hR.out) (i + 1) (out[i + 1] + out[i] / 1000000) ((y : Int) + x / 1000000) (by rw [HX.out, HY.out]; omega)
            have R2 := row_store (l := out.set (i + 1) (out[i + 1] + out[i] / 1000000)) (cap := a.length + b.length + 1) (by rw [List.length_set]; exact R1.1) i (out[i] % 1000000) ((x : Int) % 1000000) (by rw [HX.out]; omega)
            rw [List.length_set, HL.out] at R2
            exact ⟨i + 1, by omega, by go_num, _, R2.1, hst, ((hB.out.setCell (Nat.le_refl _) _).setCell (Nat.le_refl _) _).drew⟩
          case measure => simp [intOf]; omega
        · obtain rfl : i = a.length + b.length := by omega
          have hdig := hid (hC.out.done (Nat.le_refl _) NA.out NB.out)
          have hL := hC.out.len
          have HL := hid hL
          have hsum := hid hC.out.sum
          clear hC
          go_wp2
          go_loop [9] (fun sn => ∃ n : Nat, n ≤ a.length + b.length + 1 ∧ sn = .int .i64 n ∧ Hid (∀ j, n ≤ j → (hj : j < out.length) → out[j] = 0)) (fun sn => (intOf sn).toNat)
          case atStart => exact ⟨_, Nat.le_refl _, by go_num, fun j h1 h2 => absurd h2 (by omega)⟩
          case round =>
            obtain ⟨n, hn, rfl, hz⟩ := hrel
            by_cases hn0 : 0 < n
            · obtain ⟨m, rfl⟩ : ∃ m, n = m + 1 := ⟨n - 1, by omega⟩
              have hn1 : m < out.length := by omega
              obtain ⟨co, cf⟩ := row_cell (l := out) (by rw [HL.out]; exact hR.out) hn1
              obtain ⟨x, hx⟩ : ∃ x, x = out[m] := ⟨_, rfl⟩
              rw [← hx] at co
              have HX := hid hx; clear hx
              by_cases hx0 : x = 0
              · have hz' := hid (show ∀ j, m ≤ j → (hj : j < out.length) → out[j] = 0 from fun j h1 h2 => by
                  rcases Nat.eq_or_lt_of_le h1 with rfl | h3
                  · rw [← HX.out]; exact hx0
                  · exact hz.out j h3 h2)
                have hb : ((x : Int) == 0) = true := by rw [hx0]; rfl
                clear hx0
                go_wp2
                go_round
                case rel => exact ⟨m, by omega, by go_num, hz'⟩
                case measure => simp [intOf]
              · have hb : ((x : Int) == 0) = false := by simp; omega
                have hw := hid (whole_cut hR.out HL.out hdig.out hsum.out hz.out hn (.inr ⟨hn1, by show out[m] ≠ 0; rw [← HX.out]; exact hx0⟩))
                clear hx0
                go_wp2
                go_ret
                exact ⟨_, rfl, by rw [HG.out]; exact hw.out, by rw [HG.out]; exact hB.out⟩
            · obtain rfl : n = 0 := by omega
              have hw := hid (whole_cut hR.out HL.out hdig.out hsum.out hz.out hn (.inl rfl))
              go_wp2
              go_ret
              exact ⟨_, rfl, by rw [HG.out]; exact hw.out, by rw [HG.out]; exact hB.out⟩

theorem wtimes_any (va vb : Value) (x y : Nat) (w : World) (ra : WhR w va x) (rb : WhR w vb y) (hx : x < 1000000 ^ 1000) (hy : y < 1000000 ^ 1000) :
    Calls Tryz.prog 170 #[va, vb] w (WhP (x * y) w) := by
  obtain ⟨a, ra, na, rfl⟩ := ra
  obtain ⟨b, rb, nb, rfl⟩ := rb
  have la := Pw.len_le B6_pos na (k := 1000) (by rw [B6_eq] at hx ⊢; exact hx)
  have lb := Pw.len_le B6_pos nb (k := 1000) (by rw [B6_eq] at hy ⊢; exact hy)
  clear hx hy
  have hc : ∃ pa ga ca, va = .slice pa a.length ca ∧ (0 < a.length → pa = some ⟨ga, 0, none⟩) ∧ RowAt w ga a := by
    rcases ra with ⟨rfl, rfl⟩ | ⟨ga, ca, rfl, h⟩
    · exact ⟨none, 0, 0, rfl, fun h => absurd h (by simp), fun k h => absurd h (by simp)⟩
    · exact ⟨_, ga, ca, rfl, fun _ => rfl, fun k hk => ⟨h k hk, World.block_lt_of_cell? w _ (h k hk)⟩⟩
  have hd : ∃ pb gb cb, vb = .slice pb b.length cb ∧ (0 < b.length → pb = some ⟨gb, 0, none⟩) ∧ RowAt w gb b := by
    rcases rb with ⟨rfl, rfl⟩ | ⟨gb, cb, rfl, h⟩
    · exact ⟨none, 0, 0, rfl, fun h => absurd h (by simp), fun k h => absurd h (by simp)⟩
    · exact ⟨_, gb, cb, rfl, fun _ => rfl, fun k hk => ⟨h k hk, World.block_lt_of_cell? w _ (h k hk)⟩⟩
  obtain ⟨pa, ga, ca, rfl, h1, h2⟩ := hc
  obtain ⟨pb, gb, cb, rfl, h3, h4⟩ := hd
  exact times_row a b pa pb ga gb ca cb w h1 h3 h2 h4 na nb la lb
end Go.Proofs.YtedfajokiblfhaaGreat.Lt

/- Walks of the reference's Power and root: contracts. -/
namespace Go.Proofs.YtedfajokiblfhaaGreat.Lt
open Go.RowKit Go.Lib

theorem Wh.base {w : World} {B B' : Nat} {v : Value} {x : Nat} (h : Wh w B v x) (hB : B' ≤ B) : Wh w B' v x := by
  obtain ⟨l, ⟨h1, h2⟩, h3⟩ := h
  refine ⟨l, ⟨h1, ?_⟩, h3⟩
  rcases h2 with h2 | ⟨g, cap, cur, hv, hg, r⟩
  · exact .inl h2
  · exact .inr ⟨g, cap, cur, hv, Nat.le_trans hB hg, r⟩
theorem WhP.after {x : Nat} {w w1 w' : World} {e : Ending} (hB : Below w.heap.size w w1) (h : WhP x w1 e w') : WhP x w e w' := by
  obtain ⟨v, he, hv, hb⟩ := h
  exact ⟨v, he, hv.base hB.size, hB.trans (hb.mono hB.size)⟩

/-- x and all its powers up to n are small enough to be reckoned. -/
def PowOk (x n : Nat) : Prop := ∀ m, m ≤ n → x ^ m < 1000000 ^ 1000
theorem PowOk.le {x n m : Nat} (h : PowOk x n) (hm : m ≤ n) : PowOk x m := fun k hk => h k (Nat.le_trans hk hm)
theorem PowOk.of {x n : Nat} (hx : 1 ≤ x) (h : x ^ n < 1000000 ^ 1000) : PowOk x n := fun _ hm => Nat.lt_of_le_of_lt (Nat.pow_le_pow_right hx hm) h
attribute [irreducible] PowOk
theorem PowOk.at' {x n m : Nat} (h : PowOk x n) (hm : m ≤ n) : x ^ m < 1000000 ^ 1000 := by unfold PowOk at h; exact h m hm

theorem PowOk.self {x n : Nat} (h : PowOk x n) (hm : 1 ≤ n) : x < 1000000 ^ 1000 := by have := h.at' hm; rwa [Nat.pow_one] at this

theorem wpower_zero (va : Value) (x : Nat) (w : World) : Calls Tryz.prog 167 #[va, .int .i64 0] w (WhP (x ^ 0) w) := by
  go_enter Tryz.func167, Tryz.ntmps167
  go_wp2_with (go_at_call 168; refine (of_any 1 _ (by decide)).mono ?_; rintro e w1 ⟨v1, rfl, h1, hb1⟩)
  go_ret
  exact ⟨v1, rfl, h1, hb1⟩

set_option maxHeartbeats 1000000 in
theorem wpower_any (k : Nat) : ∀ (n : Nat) (va : Value) (x : Nat) (w : World), n ≤ k → n ≤ 100000 → WhR w va x → PowOk x n → Calls Tryz.prog 167 #[va, .int .i64 n] w (WhP (x ^ n) w) := by
  induction k with
  | zero =>
    intro n va x w hk _ _ _
    obtain rfl : n = 0 := by omega
    exact wpower_zero va x w
  | succ k ih =>
    intro n va x w hk hn ra hok
    by_cases h0 : n = 0
    · subst h0; exact wpower_zero va x w
    have IH := hid ih; clear ih
    have RA := hid ra; clear ra
    have OK := hid hok; clear hok
    have hb0 : ((n : Int) == 0) = false := by simp; omega
    by_cases h2 : n % 2 = 1
    · obtain ⟨m, rfl⟩ : ∃ m, n = m + 1 := ⟨n - 1, by omega⟩
      have hb1 : (((m + 1 : Nat) : Int) % 2 == 1) = true := by simp; omega
      have hb1' : (((m : Int) + 1) % 2 == 1) = true := by simp; omega
      have hb0' : (((m : Int) + 1) == 0) = false := by simp; omega
      clear h2
      go_enter Tryz.func167, Tryz.ntmps167
      go_wp2_with (first
        | (go_at_call 167; refine (IH.out m va x _ (by omega) (by omega) RA.out (OK.out.le (by omega))).mono ?_; rintro e w1 ⟨v1, rfl, h1, hb1⟩; have H1 := hid h1; clear h1)
        | (go_at_call 170; refine (wtimes_any _ _ x (x ^ m) _ (RA.out.keep hb1) H1.out.reads (OK.out.self (by omega)) (OK.out.at' (by omega))).mono ?_; rintro e w2 ⟨v2, rfl, h2, hb2⟩))
      go_ret
      refine WhP.after hb1 ⟨v2, rfl, ?_, hb2⟩
      rw [Nat.pow_succ, Nat.mul_comm]; exact h2
    · obtain ⟨m, rfl⟩ : ∃ m, n = 2 * m := ⟨n / 2, by omega⟩
      have hb1 : (((2 * m : Nat) : Int) % 2 == 1) = false := by simp
      have hb1' : ((2 * (m : Int)) % 2 == 1) = false := by simp
      have HH : Hid ((2 * (m : Int)) / 2 = m) := by unfold Hid; omega
      have HH' : Hid (((2 * m : Nat) : Int) / 2 = m) := by unfold Hid; omega
      clear h2
      go_enter Tryz.func167, Tryz.ntmps167
      go_wp2_with (first
        | (go_at_call 167; (first | rw [HH.out] | rw [HH'.out] | skip); refine (IH.out m va x _ (by omega) (by omega) RA.out (OK.out.le (by omega))).mono ?_; rintro e w1 ⟨v1, rfl, h1, hb1⟩; have H1 := hid h1; clear h1)
        | (go_at_call 170; refine (wtimes_any _ _ (x ^ m) (x ^ m) _ H1.out.reads H1.out.reads (OK.out.at' (by omega)) (OK.out.at' (by omega))).mono ?_; rintro e w2 ⟨v2, rfl, h2, hb2⟩))
      go_ret
      refine WhP.after hb1 ⟨v2, rfl, ?_, hb2⟩
      rw [Nat.two_mul, Nat.pow_add]; exact h2
end Go.Proofs.YtedfajokiblfhaaGreat.Lt

/- Plain lemmas on whole roots of powers of ten: shifts by decades, whole exponents, growth, when a root is exact. No Go in sight. -/
namespace Go.Proofs.YtedfajokiblfhaaGreat.Lt.Pm

theorem root_shift (e z k : Nat) (hz : 1 ≤ z) : rootN (e + k * z) z / 10 ^ k = rootN e z := by
  have h := rootN_is (e + k * z) z hz
  generalize rootN (e + k * z) z = N at h ⊢
  obtain ⟨h1, h2⟩ := h
  have hp : 0 < 10 ^ k := Nat.pow_pos (by decide)
  symm
  refine rootN_eq hz ⟨?_, ?_⟩
  · have a : (N / 10 ^ k * 10 ^ k) ^ z ≤ 10 ^ (e + k * z) := Nat.le_trans (Nat.pow_le_pow_left (Nat.div_mul_le_self _ _) _) h1
    rw [Nat.mul_pow, ← Nat.pow_mul, Nat.pow_add] at a
    exact Nat.le_of_mul_le_mul_right a (Nat.pow_pos (by decide))
  · have a : N + 1 ≤ (N / 10 ^ k + 1) * 10 ^ k := by
      have := Nat.div_add_mod N (10 ^ k)
      have := Nat.mod_lt N hp
      rw [Nat.add_mul, Nat.mul_comm]; omega
    have b := Nat.lt_of_lt_of_le h2 (Nat.pow_le_pow_left a z)
    rw [Nat.mul_pow, ← Nat.pow_mul, Nat.pow_add] at b
    exact Nat.lt_of_mul_lt_mul_right b

theorem root_whole (q z : Nat) (hz : 1 ≤ z) : rootN (q * z) z = 10 ^ q := by
  refine rootN_eq hz ⟨?_, ?_⟩
  · rw [← Nat.pow_mul]; exact Nat.le_refl _
  · rw [Nat.pow_mul]
    exact Nat.pow_lt_pow_left (Nat.lt_succ_self _) (by omega)

theorem root_mono {e e' z : Nat} (hz : 1 ≤ z) (h : e ≤ e') : rootN e z ≤ rootN e' z := by
  have h1 := rootN_is e z hz
  have h2 := rootN_is e' z hz
  rcases Nat.lt_or_ge (rootN e' z) (rootN e z) with h3 | h3
  · have a := Nat.pow_le_pow_left (show rootN e' z + 1 ≤ rootN e z from h3) z
    have b : 10 ^ e ≤ 10 ^ e' := Nat.pow_le_pow_right (by decide) h
    have := h1.1; have := h2.2
    omega
  · exact h3

theorem odd_pow {m : Nat} (h : m % 2 = 1) (k : Nat) : m ^ k % 2 = 1 := by
  induction k with
  | zero => rfl
  | succ k ih => rw [Nat.pow_succ, Nat.mul_mod, ih, h]
theorem two_part {a b m n : Nat} (hm : m % 2 = 1) (hn : n % 2 = 1) (h : 2 ^ a * m = 2 ^ b * n) : a = b := by
  induction a generalizing b with
  | zero =>
    cases b with
    | zero => rfl
    | succ b => rw [Nat.pow_succ, Nat.pow_zero, Nat.one_mul, Nat.mul_comm (2 ^ b) 2, Nat.mul_assoc] at h; omega
  | succ a ih =>
    cases b with
    | zero => rw [Nat.pow_succ, Nat.pow_zero, Nat.one_mul, Nat.mul_comm (2 ^ a) 2, Nat.mul_assoc] at h; omega
    | succ b =>
      rw [Nat.pow_succ, Nat.pow_succ, Nat.mul_comm (2 ^ a) 2, Nat.mul_comm (2 ^ b) 2, Nat.mul_assoc, Nat.mul_assoc] at h
      rw [ih (Nat.eq_of_mul_eq_mul_left (by decide) h)]
theorem two_split (n : Nat) (h : 0 < n) : ∃ a m, n = 2 ^ a * m ∧ m % 2 = 1 := by
  induction n using Nat.strongRecOn with
  | ind n ih =>
    rcases Nat.mod_two_eq_zero_or_one n with h2 | h2
    · obtain ⟨a, m, h3, h4⟩ := ih (n / 2) (by omega) (by omega)
      exact ⟨a + 1, m, by rw [Nat.pow_succ, Nat.mul_comm (2 ^ a) 2, Nat.mul_assoc, ← h3]; omega, h4⟩
    · exact ⟨0, n, by simp, h2⟩
/-- A power of ten is a z-th power only if z divides its exponent. -/
theorem exact_dvd {n z e : Nat} (h : n ^ z = 10 ^ e) : ∃ a, e = a * z := by
  have hn : 0 < n ∨ z = 0 := by
    rcases Nat.eq_zero_or_pos n with rfl | hn
    · right
      rcases Nat.eq_zero_or_pos z with hz | hz
      · exact hz
      · rw [Nat.zero_pow hz] at h
        have : 0 < 10 ^ e := Nat.pow_pos (by decide)
        omega
    · exact .inl hn
  rcases hn with hn | rfl
  · obtain ⟨a, m, rfl, hm⟩ := two_split n hn
    rw [Nat.mul_pow, ← Nat.pow_mul, show (10 : Nat) = 2 * 5 from rfl, Nat.mul_pow] at h
    exact ⟨a, (two_part (odd_pow hm z) (odd_pow (by decide) e) h).symm⟩
  · refine ⟨0, ?_⟩
    rw [Nat.pow_zero] at h
    rcases Nat.eq_zero_or_pos e with he | he
    · simp [he]
    · have : 10 ^ 1 ≤ 10 ^ e := Nat.pow_le_pow_right (by decide) he
      omega
theorem root_exact (e z : Nat) (hz : 1 ≤ z) : rootN e z ^ z = 10 ^ e ↔ e % z = 0 := by
  constructor
  · intro h
    obtain ⟨a, rfl⟩ := exact_dvd h
    exact Nat.mul_mod_left a z
  · intro h
    obtain ⟨q, rfl⟩ : ∃ q, e = q * z := ⟨e / z, by rw [Nat.mul_comm]; exact (Nat.mul_div_cancel' (Nat.dvd_of_mod_eq_zero h)).symm⟩
    rw [root_whole q z hz, ← Nat.pow_mul]
theorem root_le16 (e z : Nat) (hz : 1 ≤ z) (he : e ≤ 16 * z) : rootN e z ≤ 10000000000000000 := by
  have := root_mono hz he
  rw [root_whole 16 z hz] at this
  exact this
theorem root_pos (e z : Nat) (hz : 1 ≤ z) : 1 ≤ rootN e z := Nat.le_trans (Nat.pow_pos (by decide)) (root_bd e z hz).1

/-- The exponent of 10 (times z) in the rate, the rate down and up. -/
def expo (r z t : Int) : Int := 6 * z + min (t - r) (10 * z)
def rateD (r z t : Int) : Nat := if expo r z t < 0 then 0 else rootN (expo r z t).toNat z.toNat
def rateU (r z t : Int) : Nat := if expo r z t < 0 then 1 else if (expo r z t).toNat % z.toNat = 0 then rootN (expo r z t).toNat z.toNat else rootN (expo r z t).toNat z.toNat + 1
theorem expo_le (r z t : Int) : expo r z t ≤ 16 * z := by unfold expo; omega
theorem rateD_neg {r z t : Int} (h : expo r z t < 0) : rateD r z t = 0 := by unfold rateD; rw [if_pos h]
theorem rateD_pos {r z t : Int} (h : ¬ expo r z t < 0) : rateD r z t = rootN (expo r z t).toNat z.toNat := by unfold rateD; rw [if_neg h]
theorem rateD_le (r z t : Int) (hz : 1 ≤ z) : rateD r z t ≤ 10000000000000000 := by
  unfold rateD
  split
  · omega
  · have := expo_le r z t
    exact root_le16 _ _ (by omega) (by omega)
theorem rateU_eq (r z t : Int) : rateU r z t = if 0 ≤ expo r z t ∧ (expo r z t).toNat % z.toNat = 0 then rateD r z t else rateD r z t + 1 := by
  unfold rateU rateD
  by_cases h : expo r z t < 0
  · rw [if_pos h, if_pos h, if_neg (by omega)]
  · rw [if_neg h, if_neg h]
    by_cases h2 : (expo r z t).toNat % z.toNat = 0
    · rw [if_pos h2, if_pos ⟨by omega, h2⟩]
    · rw [if_neg h2, if_neg (by omega)]
/-- The rate out of the decade below the cut. -/
theorem rateD_digits {r z t : Int} (hz : 1 ≤ z) (h : ¬ expo r z t < 0) (hp : (expo r z t).toNat % z.toNat ≠ 0) :
    (expo r z t).toNat / z.toNat ≤ 15 ∧ rateD r z t = rootN (15 * z.toNat + (expo r z t).toNat % z.toNat) z.toNat / 10 ^ (15 - (expo r z t).toNat / z.toNat) := by
  have hle := expo_le r z t
  rw [rateD_pos h]
  have hZ : 1 ≤ z.toNat := by omega
  have hE : (expo r z t).toNat ≤ 16 * z.toNat := by omega
  generalize (expo r z t).toNat = E at *
  generalize z.toNat = Z at *
  have hdm := Nat.div_add_mod E Z
  have hq : E / Z ≤ 15 := by
    rcases Nat.lt_or_ge 15 (E / Z) with h16 | h16
    · have : Z * 16 ≤ Z * (E / Z) := Nat.mul_le_mul_left _ h16
      omega
    · exact h16
  refine ⟨hq, ?_⟩
  rw [← root_shift E Z (15 - E / Z) hZ]
  congr 2
  have : (15 - E / Z) * Z + Z * (E / Z) = 15 * Z := by
    rw [Nat.mul_comm Z, ← Nat.add_mul]; congr 1; omega
  omega
theorem rateD_whole {r z t : Int} (hz : 1 ≤ z) (h : ¬ expo r z t < 0) (hp : (expo r z t).toNat % z.toNat = 0) : rateD r z t = 10 ^ ((expo r z t).toNat / z.toNat) := by
  rw [rateD_pos h]
  conv => lhs; rw [← Nat.div_add_mod (expo r z t).toNat z.toNat, hp, Nat.add_zero, Nat.mul_comm]
  exact root_whole _ _ (by omega)
theorem rateD_mono {r z t u : Int} (hz : 1 ≤ z) (h : t ≤ u) : rateD r z t ≤ rateD r z u := by
  have he : expo r z t ≤ expo r z u := by unfold expo; omega
  by_cases h1 : expo r z t < 0
  · rw [rateD_neg h1]; exact Nat.zero_le _
  · rw [rateD_pos h1, rateD_pos (by omega)]
    exact root_mono (by omega) (by omega)
end Go.Proofs.YtedfajokiblfhaaGreat.Lt.Pm
