/- Walks of the reference's whole numbers: Of, Compare: contracts. -/
import Derived.Test.YtihbjimnjhfpeaaG19
namespace Go.Proofs.Ytihbjimnjhfpeaa.Lt
open Go.RowKit Go.Lib

def B6 : Nat := 1000000
def iv (l : List Nat) : List Value := l.map fun (x : Nat) => Value.int .i64 (x : Int)
theorem iv_len (l : List Nat) : (iv l).length = l.length := by simp [iv]
theorem iv_get (l : List Nat) (k : Nat) (h : k < l.length) : (iv l)[k]? = some (.int .i64 (l[k] : Nat)) := by simp [iv, h]
theorem iv_append (a b : List Nat) : iv (a ++ b) = iv a ++ iv b := by simp [iv]
theorem iv_set (l : List Nat) (k x : Nat) : (iv l).set k (.int .i64 (x : Int)) = iv (l.set k x) := by simp [iv, List.map_set]
/-- A row of ints of the call's own. -/
def RowV (w : World) (base : Nat) (v : Value) (l : List Nat) : Prop := w.ownsRow base 3 1 v l.length (iv l)
/-- A row of ints that is read. -/
def RowR (w : World) (v : Value) (l : List Nat) : Prop := (v = .slice none 0 0 ∧ l = []) ∨ ∃ g cap, v = .slice (some ⟨g, 0, none⟩) l.length cap ∧ ∀ k (h : k < l.length), w.cell? ⟨g, k, none⟩ = some (.int .i64 (l[k] : Nat))
theorem RowV.reads {w : World} {base : Nat} {v : Value} {l : List Nat} (h : RowV w base v l) : RowR w v l := by
  rcases h.2 with ⟨rfl, h0⟩ | ⟨g, cap, cur, rfl, _⟩
  · exact .inl ⟨rfl, List.eq_nil_of_length_eq_zero h0⟩
  · exact .inr ⟨g, cap, rfl, fun k hk => by rw [World.ownsRow.cellAt h k (by omega), iv_get _ k hk]⟩
theorem RowR.keep {W w2 : World} {v : Value} {l : List Nat} (h : RowR W v l) (hb : Below W.heap.size W w2) : RowR w2 v l := by
  rcases h with h | ⟨g, cap, hv, hc⟩
  · exact .inl h
  · exact .inr ⟨g, cap, hv, fun k hk => keep_cell hb (hc k hk)⟩

/-- A whole number of the call's own; one that is read. -/
def Wh (w : World) (base : Nat) (v : Value) (x : Nat) : Prop := ∃ l, RowV w base v l ∧ Pw.Norm B6 l ∧ Pw.vl B6 l = x
def WhR (w : World) (v : Value) (x : Nat) : Prop := ∃ l, RowR w v l ∧ Pw.Norm B6 l ∧ Pw.vl B6 l = x
theorem Wh.reads {w : World} {base : Nat} {v : Value} {x : Nat} (h : Wh w base v x) : WhR w v x := by
  obtain ⟨l, h1, h2⟩ := h
  exact ⟨l, h1.reads, h2⟩
theorem WhR.keep {W w2 : World} {v : Value} {x : Nat} (h : WhR W v x) (hb : Below W.heap.size W w2) : WhR w2 v x := by
  obtain ⟨l, h1, h2⟩ := h
  exact ⟨l, h1.keep hb, h2⟩
theorem B6_pos : 2 ≤ B6 := by unfold B6; omega
attribute [irreducible] B6

/-- What Of, Times and Power hand back: a new whole number. -/
def WhP (x : Nat) (w : World) (e : Ending) (w' : World) : Prop := ∃ v, e = .returned v ∧ Wh w' w.heap.size v x ∧ Below w.heap.size w w'

theorem info_int : (Try.prog.info? 3).map (fun i => (i.zero, i.size, i.bytes)) = some (some (.int .i64 0), 1, 8) := by kernel_rfl

/-- Of, digit by digit. -/
structure OfR (n m : Nat) (l : List Nat) : Prop where
  dig : ∀ x ∈ l, x < B6
  sum : Pw.vl B6 l + m * B6 ^ l.length = n
  norm : m = 0 → Pw.Norm B6 l
theorem OfR.start (n : Nat) : OfR n n [] := ⟨by simp, by simp [Pw.vl], fun _ => ⟨by simp, by simp⟩⟩
theorem OfR.len {n m : Nat} {l : List Nat} (h : OfR n m l) (hm : 0 < m) (hn : n < 9000000000000000000) : l.length ≤ 3 := by
  rcases Nat.lt_or_ge 3 l.length with h4 | h4
  · have h1 := h.sum
    have h2 : B6 ^ 4 ≤ B6 ^ l.length := Nat.pow_le_pow_right (by have := B6_pos; omega) h4
    have h3 : 1 * B6 ^ l.length ≤ m * B6 ^ l.length := Nat.mul_le_mul_right _ hm
    have h5 : B6 ^ 4 = 1000000000000000000000000 := by unfold B6; rfl
    omega
  · exact h4
theorem OfR.step {n m : Nat} {l : List Nat} (h : OfR n m l) (hm : 0 < m) : OfR n (m / B6) (l ++ [m % B6]) := by
  have hb := B6_pos
  refine ⟨?_, ?_, fun h0 => ⟨?_, fun hne => ?_⟩⟩
  · intro x hx
    rcases List.mem_append.1 hx with hx | hx
    · exact h.dig x hx
    · simp at hx; subst hx; exact Nat.mod_lt _ (by omega)
  · have h1 := h.sum
    rw [Pw.vl_append]
    simp only [Pw.vl, List.length_append, List.length_cons, List.length_nil, Nat.mul_zero, Nat.add_zero, Nat.zero_add, Nat.pow_succ]
    have e : m * B6 ^ l.length = B6 ^ l.length * (m % B6) + m / B6 * (B6 ^ l.length * B6) := by
      conv => lhs; rw [← Nat.div_add_mod m B6]
      rw [Nat.add_mul, Nat.mul_comm (m % B6), Nat.mul_comm B6, Nat.mul_assoc, Nat.mul_comm B6 (B6 ^ _)]; omega
    omega
  · intro x hx
    rcases List.mem_append.1 hx with hx | hx
    · exact h.dig x hx
    · simp at hx; subst hx; exact Nat.mod_lt _ (by omega)
  · have hlast : (l ++ [m % B6]).getLast hne = m % B6 := by simp
    rw [hlast]
    have : m < B6 := by
      rcases Nat.lt_or_ge m B6 with h' | h'
      · exact h'
      · have := (Nat.one_le_div_iff (by omega : 0 < B6)).2 h'; omega
    rw [Nat.mod_eq_of_lt this]; exact hm
theorem B6_eq : B6 = 1000000 := by unfold B6; rfl
theorem row_append {w1 : World} {base : Nat} {v : Value} {l : List Nat} {x : Nat} {y : Int} (hy : y = (x : Int)) (h : w1.ownsRow base 3 1 v (l.length + 1) (iv l ++ [.int .i64 y])) : RowV w1 base v (l ++ [x]) := by
  subst hy
  unfold RowV
  rw [iv_append, List.length_append]
  exact h
theorem below_append {w wr w1 : World} {v : Value} {l : List Nat} {o : Obj} (hB : Below w.heap.size w wr) (hv : RowV wr w.heap.size v l) (hg : (wr.alloc o).grownBy w1 v.ownBlock) : Below w.heap.size w w1 :=
  (hB.alloc hB.size o).grown hg (by have := hB.size; simp; omega) (fun k hk => (World.ownsRow.lt hv k hk).1)


theorem drew1 {w : World} {n m : Nat} : ∃ k, (w.drewN n).drewN m = w.drewN k := ⟨_, World.drewN_drewN _ _ _⟩
theorem drew2 {w : World} {n m q : Nat} : ∃ k, ((w.drewN n).drewN m).drewN q = w.drewN k := ⟨_, by rw [World.drewN_drewN, World.drewN_drewN]⟩
def cmpI (x y : Nat) : Int := if x < y then -1 else if y < x then 1 else 0
theorem cmpI_len {a b : List Nat} (ha : Pw.Norm B6 a) (hb : Pw.Norm B6 b) (h : a.length < b.length) : cmpI (Pw.vl B6 a) (Pw.vl B6 b) = -1 := by
  unfold cmpI; rw [if_pos (Pw.vl_lt_of_len (by have := B6_pos; omega) ha hb h)]
theorem cmpI_len' {a b : List Nat} (ha : Pw.Norm B6 a) (hb : Pw.Norm B6 b) (h : b.length < a.length) : cmpI (Pw.vl B6 a) (Pw.vl B6 b) = 1 := by
  have := Pw.vl_lt_of_len (by have := B6_pos; omega) hb ha h
  unfold cmpI; rw [if_neg (by omega), if_pos this]
theorem cmpI_top {a b : List Nat} (hl : a.length = b.length) (ha : Pw.Norm B6 a) (i : Nat) (hi : i < a.length) (hlt : a[i] < b[i]'(hl ▸ hi))
    (htop : ∀ j, i < j → (hj : j < a.length) → a[j] = b[j]'(hl ▸ hj)) : cmpI (Pw.vl B6 a) (Pw.vl B6 b) = -1 := by
  unfold cmpI; rw [if_pos (Pw.vl_lt_of_top hl ha.dig i hi hlt htop)]
theorem cmpI_top' {a b : List Nat} (hl : a.length = b.length) (hb : Pw.Norm B6 b) (i : Nat) (hi : i < a.length) (hlt : b[i]'(hl ▸ hi) < a[i])
    (htop : ∀ j, i < j → (hj : j < a.length) → a[j] = b[j]'(hl ▸ hj)) : cmpI (Pw.vl B6 a) (Pw.vl B6 b) = 1 := by
  have := Pw.vl_lt_of_top hl.symm hb.dig i (hl ▸ hi) hlt (fun j hj h2 => (htop j hj (hl.symm ▸ h2)).symm)
  unfold cmpI; rw [if_neg (by omega), if_pos this]
theorem cmpI_same (x : Nat) : cmpI x x = 0 := by unfold cmpI; rw [if_neg (Nat.lt_irrefl _), if_neg (Nat.lt_irrefl _)]




end Go.Proofs.Ytihbjimnjhfpeaa.Lt
