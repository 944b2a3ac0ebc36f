/- Plain facts of charts: what signals by a rule; rows of ints with a capacity, cut. -/
import Derived.Test.YtlhjiikbehmamaaDoorGt
namespace Go.Proofs.YtlhjiikbehmamaaDoor
open Go.RowKit

def hiN (M L : Int) (l : List Int) : Nat := l.countP fun x => decide (L < x - M)
def loN (M L : Int) (l : List Int) : Nat := l.countP fun x => decide (L < M - x)
/-- The last of some values is a signal: of the last c, d are beyond a limit on one side. -/
def sgB (M L : Int) (l : List Int) (c d : Nat) : Bool := decide (c ≤ l.length) && decide (d ≤ max (hiN M L (l.drop (l.length - c))) (loN M L (l.drop (l.length - c))))
theorem hiN_snoc {M L : Int} {l : List Int} {k : Nat} (h : k < l.length) : (hiN M L (l.take (k + 1)) : Int) = hiN M L (l.take k) + if L < l[k] - M then 1 else 0 := by
  unfold hiN
  rw [List.take_succ_eq_append_getElem h, List.countP_append]
  by_cases g : L < l[k] - M <;> simp [g]
theorem loN_snoc {M L : Int} {l : List Int} {k : Nat} (h : k < l.length) : (loN M L (l.take (k + 1)) : Int) = loN M L (l.take k) + if L < M - l[k] then 1 else 0 := by
  unfold loN
  rw [List.take_succ_eq_append_getElem h, List.countP_append]
  by_cases g : L < M - l[k] <;> simp [g]
theorem hiN_le (M L : Int) (l : List Int) : hiN M L l ≤ l.length := List.countP_le_length
theorem loN_le (M L : Int) (l : List Int) : loN M L l ≤ l.length := List.countP_le_length
theorem sgB_short {M L : Int} {l : List Int} {c d : Nat} (h : l.length < c) : sgB M L l c d = false := by unfold sgB; rw [decide_eq_false (by omega)]; rfl
theorem sgB_long {M L : Int} {l : List Int} {c d : Nat} (h : c ≤ l.length) : sgB M L l c d = decide (d ≤ max (hiN M L (l.drop (l.length - c))) (loN M L (l.drop (l.length - c)))) := by unfold sgB; rw [decide_eq_true h]; rfl
/-- A row of ints that is read, with its capacity. -/
def RowQ (w : World) (v : Value) (l : List Int) : Prop := ∃ a b o cap, v = .slice a l.length cap ∧ l.length ≤ cap ∧ cap ≤ maxLen ∧ (l = [] ∨ a = some ⟨b, o, none⟩) ∧ ∀ k (h : k < l.length), w.cell? ⟨b, o + k, none⟩ = some (.int .i64 l[k])
theorem RowQ.keep {W w2 : World} {v : Value} {l : List Int} (h : RowQ W v l) (hb : Below W.heap.size W w2) : RowQ w2 v l := by
  obtain ⟨a, b, o, cap, h1, h2, h3, h4, h5⟩ := h
  exact ⟨a, b, o, cap, h1, h2, h3, h4, fun k hk => keep_cell hb (h5 k hk)⟩
theorem RowQ.rowI {w : World} {v : Value} {l : List Int} (h : RowQ w v l) : RowI w v l := by
  obtain ⟨a, b, o, cap, rfl, h2, h3, h4, h5⟩ := h
  rcases h4 with rfl | rfl
  · exact .inl ⟨_, _, rfl, rfl⟩
  · exact .inr ⟨b, o, cap, rfl, by omega, h5⟩
theorem RowQ.most {w : World} {v : Value} {l : List Int} (h : RowQ w v l) : l.length ≤ maxLen := by
  obtain ⟨a, b, o, cap, rfl, h2, h3, h4, h5⟩ := h; omega
theorem rowQ_nil (w : World) : RowQ w (.slice none 0 0) [] := ⟨none, 0, 0, 0, rfl, Nat.le_refl _, by simp [maxLen], .inl rfl, fun k h => absurd h (Nat.not_lt_zero k)⟩
set_option maxRecDepth 20000 in
theorem RowQ.mid {w : World} {a : Option Addr} {n cap lo hi : Nat} {l : List Int} (h : RowQ w (.slice a n cap) l) (h1 : lo < hi) (h2 : hi ≤ n) :
    ∃ b o, a = some ⟨b, o, none⟩ ∧ RowQ w (.slice (some ⟨b, o + lo, none⟩) (hi - lo) (cap - lo)) ((l.take hi).drop lo) ∧
      ∀ W : World, (Instr.sliceAt 24 (.slice a n cap) (some (.int .i64 (lo : Int))) (some (.int .i64 (hi : Int))) none).run Tryd.prog W = .ok (.slice (some ⟨b, o + lo, none⟩) (hi - lo) (cap - lo)) W := by
  obtain ⟨a', b, o, cap', hv, g1, g2, g3, g4⟩ := h
  injection hv with hv1 hv2 hv3
  subst hv1 hv3
  rcases g3 with h0 | rfl
  · rw [h0] at hv2; simp at hv2; omega
  have e : ((l.take hi).drop lo).length = hi - lo := by rw [List.length_drop, List.length_take]; omega
  refine ⟨b, o, rfl, ⟨_, b, o + lo, cap - lo, by rw [e], by rw [e]; omega, by omega, .inr rfl, fun k hk => ?_⟩, fun W => ?_⟩
  · rw [e] at hk
    have := g4 (lo + k) (by omega)
    rw [Nat.add_assoc, this, List.getElem_drop, List.getElem_take]
  · have q1 : (hi : Int) ≤ (cap : Int) := by omega
    have q2 : (lo : Int) ≤ (hi : Int) := by omega
    have q3 : ¬ cap = lo := by omega
    simp [go_sem, Tryd.underlying24, q1, q2, q3]
    try omega
set_option maxRecDepth 20000 in
theorem RowQ.back {w : World} {a : Option Addr} {n cap lo : Nat} {l : List Int} (h : RowQ w (.slice a n cap) l) (h1 : lo < n) :
    ∃ b o, a = some ⟨b, o, none⟩ ∧ (∀ k (hk : k < (l.drop lo).length), w.cell? ⟨b, o + lo + k, none⟩ = some (.int .i64 (l.drop lo)[k])) ∧
      ∀ W : World, (Instr.sliceAt 24 (.slice a n cap) (some (.int .i64 (lo : Int))) none none).run Tryd.prog W = .ok (.slice (some ⟨b, o + lo, none⟩) (n - lo) (cap - lo)) W := by
  obtain ⟨a', b, o, cap', hv, g1, g2, g3, g4⟩ := h
  injection hv with hv1 hv2 hv3
  subst hv1 hv3
  rcases g3 with h0 | rfl
  · rw [h0] at hv2; simp at hv2; omega
  refine ⟨b, o, rfl, fun k hk => ?_, fun W => ?_⟩
  · rw [List.length_drop] at hk
    have := g4 (lo + k) (by omega)
    rw [Nat.add_assoc, this, List.getElem_drop]
  · have q1 : (n : Int) ≤ (cap : Int) := by omega
    have q2 : (lo : Int) ≤ (n : Int) := by omega
    have q3 : ¬ cap = lo := by omega
    simp [go_sem, Tryd.underlying24, q2, q3]
    try omega
end Go.Proofs.YtlhjiikbehmamaaDoor
