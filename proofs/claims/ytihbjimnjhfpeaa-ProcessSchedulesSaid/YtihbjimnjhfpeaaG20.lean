/- Texts of this seat, one behind the other. -/
import Derived.Test.YtihbjimnjhfpeaaWa
/- Walk of the reference's Times: contract. -/
namespace Go.Proofs.Ytihbjimnjhfpeaa.Lt
open Go.RowKit Go.Lib

def at0 (l : List Nat) (i : Nat) : Nat := (l[i]?).getD 0
theorem at0_eq {l : List Nat} {i : Nat} (h : i < l.length) : at0 l i = l[i] := by simp [at0, h]
theorem mul_mill {x y : Nat} (h1 : x ≤ 1000000) (h2 : y ≤ 1000000) : x * y ≤ 1000000000000 := by
  have := Nat.mul_le_mul h1 h2
  omega
theorem dig_mill {l : List Nat} (h : ∀ x ∈ l, x < B6) {i : Nat} (hi : i < l.length) : l[i] ≤ 1000000 := by
  have := h _ (List.getElem_mem hi)
  rw [B6_eq] at this; omega

/-- Times, while it adds up: after i digits of a, and k of b with the next one. -/
structure TmR (a b : List Nat) (i k : Nat) (out : List Nat) : Prop where
  len : out.length = a.length + b.length + 1
  sum : Pw.vl B6 out = Pw.vl B6 (a.take i) * Pw.vl B6 b + at0 a i * B6 ^ i * Pw.vl B6 (b.take k)
  small : ∀ x ∈ out, x ≤ (i * b.length + k) * 1000000000000

theorem TmR.start (a b : List Nat) : TmR a b 0 0 (List.replicate (a.length + b.length + 1) 0) :=
  ⟨by simp, by rw [Pw.vl_zero]; simp [Pw.vl], fun x hx => by rw [List.eq_of_mem_replicate hx]; exact Nat.zero_le _⟩
theorem TmR.next {a b out : List Nat} {i : Nat} (h : TmR a b i b.length out) (hi : i < a.length) : TmR a b (i + 1) 0 out := by
  refine ⟨h.len, ?_, fun x hx => by have := h.small x hx; rw [Nat.add_mul i 1 b.length, Nat.one_mul, Nat.add_zero]; exact this⟩
  rw [h.sum, List.take_length, Pw.take_vl B6 a i hi]
  simp only [Pw.vl, List.take_zero, Nat.mul_zero, Nat.add_zero]
  rw [Nat.add_mul, at0_eq hi, Nat.mul_comm (B6 ^ i)]
theorem TmR.step {a b out : List Nat} {i k : Nat} (h : TmR a b i k out) (ha : ∀ x ∈ a, x < B6) (hb : ∀ x ∈ b, x < B6) (hi : i < a.length) (hk : k < b.length) (hik : i + k < out.length) :
    TmR a b i (k + 1) (out.set (i + k) (out[i + k] + a[i] * b[k])) := by
  refine ⟨by rw [List.length_set]; exact h.len, ?_, fun x hx => ?_⟩
  · rw [Pw.vl_set, h.sum, Pw.take_vl B6 b k hk, Nat.mul_add, at0_eq hi, Nat.pow_add]
    have : a[i] * b[k] * (B6 ^ i * B6 ^ k) = a[i] * B6 ^ i * (B6 ^ k * b[k]) := by
      rw [Nat.mul_assoc, Nat.mul_assoc, Nat.mul_comm b[k], Nat.mul_assoc]
    omega
  · rcases List.mem_or_eq_of_mem_set hx with hx | rfl
    · exact Nat.le_trans (h.small x hx) (Nat.mul_le_mul_right _ (by omega))
    · have h1 := h.small out[i + k] (List.getElem_mem _)
      have h2 := mul_mill (dig_mill ha hi) (dig_mill hb hk)
      rw [← Nat.add_assoc, Nat.succ_mul]; exact Nat.add_le_add h1 h2
theorem prod_le {a b : List Nat} {i k : Nat} (ha : ∀ x ∈ a, x < B6) (hb : ∀ x ∈ b, x < B6) (hi : i < a.length) (hk : k < b.length) : a[i] * b[k] ≤ 1000000000000 := mul_mill (dig_mill ha hi) (dig_mill hb hk)

/-- Times, while it carries: the first i digits are below the base. -/
structure TcR (V L i : Nat) (out : List Nat) : Prop where
  len : out.length = L
  sum : Pw.vl B6 out = V
  dig : ∀ j, j < i → (hj : j < out.length) → out[j] < B6
  small : ∀ x ∈ out, x ≤ 2000000000000000000
  rest : ∀ j, i < j → (hj : j < out.length) → out[j] ≤ 1000000000000000000
theorem TcR.step {V L i : Nat} {out : List Nat} (h : TcR V L i out) (hi : i + 1 < out.length) (hi' : i < out.length) :
    TcR V L (i + 1) ((out.set (i + 1) (out[i + 1] + out[i] / 1000000)).set i (out[i] % 1000000)) := by
  have hp := B6_pos
  have hc := Pw.carry_step B6 (by omega) out i hi
  rw [← B6_eq]
  refine ⟨by simp [h.len], by rw [hc]; exact h.sum, fun j hj hjl => ?_, fun x hx => ?_, fun j hj hjl => ?_⟩
  · rcases Nat.lt_or_ge j i with h1 | h1
    · rw [List.getElem_set_ne (by omega), List.getElem_set_ne (by omega)]
      exact h.dig j h1 (by simpa using hjl)
    · obtain rfl : j = i := by omega
      rw [List.getElem_set_self]; exact Nat.mod_lt _ (by omega)
  · rcases List.mem_or_eq_of_mem_set hx with hx | rfl
    · rcases List.mem_or_eq_of_mem_set hx with hx | rfl
      · exact h.small x hx
      · have h1 := h.rest (i + 1) (by omega) hi
        have h2 := h.small out[i] (List.getElem_mem _)
        have h3 : out[i] / B6 ≤ 2000000000000 := by rw [B6_eq]; omega
        omega
    · have : out[i] % B6 < B6 := Nat.mod_lt _ (by omega)
      rw [B6_eq] at this; rw [B6_eq]; omega
  · rw [List.getElem_set_ne (by omega), List.getElem_set_ne (by omega)]
    exact h.rest j (by omega) (by simpa using hjl)
theorem TcR.start {a b out : List Nat} (h : TmR a b a.length 0 out) (la : a.length ≤ 1000) (lb : b.length ≤ 1000) : TcR (Pw.vl B6 a * Pw.vl B6 b) (a.length + b.length + 1) 0 out := by
  have hs : ∀ x ∈ out, x ≤ 1000000000000000000 := fun x hx => by
    have h1 := h.small x hx
    have h2 := Nat.mul_le_mul la lb
    omega
  refine ⟨h.len, ?_, fun j hj => absurd hj (Nat.not_lt_zero _), fun x hx => Nat.le_trans (hs x hx) (by omega), fun j _ hj => hs _ (List.getElem_mem _)⟩
  rw [h.sum, List.take_length]; simp [Pw.vl]
/-- When all is carried, the number is whole but for zeros at its top. -/
theorem TcR.done {a b out : List Nat} {i : Nat} (h : TcR (Pw.vl B6 a * Pw.vl B6 b) (a.length + b.length + 1) i out) (hi : a.length + b.length ≤ i) (na : Pw.Norm B6 a) (nb : Pw.Norm B6 b) : ∀ x ∈ out, x < B6 := by
  have hp := B6_pos
  have hv : Pw.vl B6 out < B6 ^ (a.length + b.length) := by
    rw [h.sum, Nat.pow_add]
    exact Nat.mul_lt_mul'' (Pw.vl_lt na.dig) (Pw.vl_lt nb.dig)
  have h0 := Pw.last_zero (by omega) h.len hv
  intro x hx
  obtain ⟨j, hj, rfl⟩ := List.mem_iff_getElem.1 hx
  rcases Nat.lt_or_ge j (a.length + b.length) with h1 | h1
  · exact h.dig j (by omega) hj
  · have hl := h.len
    obtain rfl : j = a.length + b.length := by omega
    rw [h0]; omega
theorem row_cut {w : World} {base g cap n : Nat} {l : List Nat} (h : RowV w base (.slice (some ⟨g, 0, none⟩) l.length cap) l) (hn : n ≤ l.length) : RowV w base (.slice (some ⟨g, 0, none⟩) n cap) (l.take n) := by
  unfold RowV at h ⊢
  have hl : (l.take n).length = n := by simp [hn]
  rw [hl]
  rcases h.2 with ⟨h0, _⟩ | ⟨g', cap', cur, h0, hb, hg, hnc, hcm, hcs, htake⟩
  · cases h0
  · cases h0
    refine ⟨by simp [iv, hn], .inr ⟨g, cap, cur, rfl, hb, hg, by omega, hcm, hcs, ?_⟩⟩
    have : (iv l).take n = iv (l.take n) := by simp [iv, List.map_take]
    rw [← this, ← htake, List.take_take]
    congr 1; omega

theorem row_cell {w : World} {base : Nat} {g cap : Nat} {l : List Nat} (h : RowV w base (.slice (some ⟨g, 0, none⟩) l.length cap) l) {k : Nat} (hk : k < l.length) :
    w.cell? ⟨g, k, none⟩ = some (.int .i64 (l[k] : Nat)) ∧ w.frozen? ⟨g, k, none⟩ = false :=
  ⟨by rw [World.ownsRow.cellAt h k (by omega), iv_get _ k hk], World.ownsRow.frozenAt h k⟩
theorem row_store {w : World} {base : Nat} {g cap : Nat} {l : List Nat} (h : RowV w base (.slice (some ⟨g, 0, none⟩) l.length cap) l) (k x : Nat) (y : Int) (hy : y = (x : Int)) :
    RowV (w.setCell ⟨g, k, none⟩ (.int .i64 y)) base (.slice (some ⟨g, 0, none⟩) l.length cap) (l.set k x) ∧ w.grownBy (w.setCell ⟨g, k, none⟩ (.int .i64 y)) (some g) := by
  subst hy
  have := World.ownsRow.stored h k (.int .i64 (x : Int))
  rw [iv_set] at this
  refine ⟨?_, this.2⟩
  unfold RowV
  rw [List.length_set]
  exact this.1

/-- What is left when the zeros are cut. -/
theorem whole_cut {w : World} {base g L n V : Nat} {out : List Nat} (hR : RowV w base (.slice (some ⟨g, 0, none⟩) L L) out) (hL : out.length = L) (hd : ∀ x ∈ out, x < B6) (hs : Pw.vl B6 out = V)
    (hz : ∀ j, n ≤ j → (hj : j < out.length) → out[j] = 0) (hn : n ≤ L) (h : n = 0 ∨ ∃ hj : n - 1 < out.length, out[n - 1] ≠ 0) : Wh w base (.slice (some ⟨g, 0, none⟩) n L) V :=
  ⟨out.take n, row_cut (by rw [hL]; exact hR) (by omega), Pw.cut_norm (by omega) hd h, by rw [Pw.cut_vl hz]; exact hs⟩

/-- A row of digits that came in, at a known block. -/
def RowAt (w : World) (g : Nat) (l : List Nat) : Prop := ∀ k (h : k < l.length), w.cell? ⟨g, k, none⟩ = some (.int .i64 (l[k] : Nat)) ∧ g < w.heap.size


end Go.Proofs.Ytihbjimnjhfpeaa.Lt

/- Walks of the reference's Power and root: contracts. -/
namespace Go.Proofs.Ytihbjimnjhfpeaa.Lt
open Go.RowKit Go.Lib

theorem Wh.base {w : World} {B B' : Nat} {v : Value} {x : Nat} (h : Wh w B v x) (hB : B' ≤ B) : Wh w B' v x := by
  obtain ⟨l, ⟨h1, h2⟩, h3⟩ := h
  refine ⟨l, ⟨h1, ?_⟩, h3⟩
  rcases h2 with h2 | ⟨g, cap, cur, hv, hg, r⟩
  · exact .inl h2
  · exact .inr ⟨g, cap, cur, hv, Nat.le_trans hB hg, r⟩
theorem WhP.after {x : Nat} {w w1 w' : World} {e : Ending} (hB : Below w.heap.size w w1) (h : WhP x w1 e w') : WhP x w e w' := by
  obtain ⟨v, he, hv, hb⟩ := h
  exact ⟨v, he, hv.base hB.size, hB.trans (hb.mono hB.size)⟩

/-- x and all its powers up to n are small enough to be reckoned. -/
def PowOk (x n : Nat) : Prop := ∀ m, m ≤ n → x ^ m < 1000000 ^ 1000
theorem PowOk.le {x n m : Nat} (h : PowOk x n) (hm : m ≤ n) : PowOk x m := fun k hk => h k (Nat.le_trans hk hm)
theorem PowOk.of {x n : Nat} (hx : 1 ≤ x) (h : x ^ n < 1000000 ^ 1000) : PowOk x n := fun _ hm => Nat.lt_of_le_of_lt (Nat.pow_le_pow_right hx hm) h
attribute [irreducible] PowOk
theorem PowOk.at' {x n m : Nat} (h : PowOk x n) (hm : m ≤ n) : x ^ m < 1000000 ^ 1000 := by unfold PowOk at h; exact h m hm

theorem PowOk.self {x n : Nat} (h : PowOk x n) (hm : 1 ≤ n) : x < 1000000 ^ 1000 := by have := h.at' hm; rwa [Nat.pow_one] at this


end Go.Proofs.Ytihbjimnjhfpeaa.Lt
