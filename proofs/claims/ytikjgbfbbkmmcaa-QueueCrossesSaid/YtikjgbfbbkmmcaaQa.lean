/- Lists of pairs of ints: read, and of the call's own. -/
import Derived.Test.YtikjgbfbbkmmcaaGt
import Derived.Laws.OwnMore
namespace Go.Proofs.Ytikjgbfbbkmmcaa
open Go.RowKit

/-- A pair. -/
structure Pr where
  x : Int
  y : Int
deriving DecidableEq
def pvs : List Pr → List Value
  | [] => []
  | d :: l => .int .i64 d.x :: .int .i64 d.y :: pvs l
theorem pvs_app : ∀ l m : List Pr, pvs (l ++ m) = pvs l ++ pvs m
  | [], m => rfl
  | d :: l, m => by simp only [pvs, List.cons_append, pvs_app l m]
theorem pvs_at : ∀ (l : List Pr) (j : Nat) (h : j < l.length), (pvs l)[j * 2]? = some (.int .i64 l[j].x) ∧ (pvs l)[j * 2 + 1]? = some (.int .i64 l[j].y)
  | d :: l, 0, _ => by simp [pvs]
  | d :: l, j + 1, h => by
    have ih := pvs_at l j (by simpa using h)
    have e : (j + 1) * 2 = j * 2 + 1 + 1 := by omega
    rw [e]
    simpa [pvs] using ih
theorem pvs_last {l : List Pr} {d : Pr} : pvs (l ++ [d]) = pvs l ++ [.int .i64 d.x, .int .i64 d.y] := by rw [pvs_app]; rfl
/-- A list of pairs that is read, from any place of a row. -/
def RowX (w : World) (v : Value) (l : List Pr) : Prop := ∃ a b o cap, v = .slice a l.length cap ∧ l.length ≤ cap ∧ cap ≤ maxLen ∧ (l = [] ∨ a = some ⟨b, o, none⟩) ∧ ∀ k (h : k < l.length), w.cell? ⟨b, o + k * 2, none⟩ = some (.int .i64 l[k].x) ∧ w.cell? ⟨b, o + k * 2 + 1, none⟩ = some (.int .i64 l[k].y)
theorem RowX.keep {W w2 : World} {v : Value} {l : List Pr} (h : RowX W v l) (hb : Below W.heap.size W w2) : RowX w2 v l := by
  obtain ⟨a, b, o, cap, h1, h2, h3, h4, h5⟩ := h
  exact ⟨a, b, o, cap, h1, h2, h3, h4, fun k hk => ⟨keep_cell hb (h5 k hk).1, keep_cell hb (h5 k hk).2⟩⟩
theorem RowX.most {w : World} {v : Value} {l : List Pr} (h : RowX w v l) : l.length ≤ maxLen := by
  obtain ⟨a, b, o, cap, rfl, h2, h3, h4, h5⟩ := h; omega
theorem RowX.shape {w : World} {v : Value} {l : List Pr} (h : RowX w v l) : ∃ a cap, v = .slice a l.length cap := by
  obtain ⟨a, b, o, cap, rfl, h2, h3, h4, h5⟩ := h; exact ⟨_, _, rfl⟩
theorem rowX_nil (w : World) : RowX w (.slice none 0 0) [] := ⟨none, 0, 0, 0, rfl, Nat.le_refl _, by simp [maxLen], .inl rfl, fun k h => absurd h (Nat.not_lt_zero k)⟩
theorem RowX.get {w : World} {a : Option Addr} {n c k : Nat} {l : List Pr} (h : RowX w (.slice a n c) l) (hk : k < l.length) : ∃ b o, a = some ⟨b, o, none⟩ ∧ w.cell? ⟨b, o + k * 2, none⟩ = some (.int .i64 l[k].x) ∧ w.cell? ⟨b, o + k * 2 + 1, none⟩ = some (.int .i64 l[k].y) := by
  obtain ⟨a', b, o, cap, hv, h2, h3, h4, h5⟩ := h
  injection hv with e1 e2 e3
  subst e1
  rcases h4 with rfl | rfl
  · simp at hk
  · exact ⟨b, o, rfl, h5 k hk⟩
/-- A list of pairs of the call's own. -/
def OwnX (w : World) (base E : Nat) (v : Value) (l : List Pr) : Prop := w.ownsRow base E 2 v l.length (pvs l)
theorem OwnX.row {w : World} {base E : Nat} {v : Value} {l : List Pr} (h : OwnX w base E v l) : RowX w v l := by
  rcases h.2 with ⟨rfl, h0⟩ | ⟨g, cap, cur, rfl, _, hg, hcap, hmx, hcs, ht⟩
  · have : l = [] := List.length_eq_zero_iff.1 h0
    subst this
    exact rowX_nil w
  · refine ⟨some ⟨g, 0, none⟩, g, 0, cap, rfl, hcap, hmx, .inr rfl, fun k hk => ?_⟩
    obtain ⟨h1, h2⟩ := pvs_at l k hk
    rw [← ht] at h1 h2
    rw [List.getElem?_take_of_lt (by omega)] at h1 h2
    simp only [Nat.zero_add]
    refine ⟨?_, ?_⟩ <;> rw [cell_of_row w g _ cur _ _ hg]
    · simpa using h1
    · simpa using h2
theorem OwnX.app {w : World} {base E : Nat} {v : Value} {l : List Pr} {d : Pr} (h : w.ownsRow base E 2 v (l.length + 1) (pvs l ++ [.int .i64 d.x, .int .i64 d.y])) : OwnX w base E v (l ++ [d]) := by
  unfold OwnX
  rw [List.length_append, pvs_last]
  exact h
theorem OwnX.keep {W w2 : World} {base E : Nat} {v : Value} {l : List Pr} (h : OwnX W base E v l) (hb : Below W.heap.size W w2) : OwnX w2 base E v l := by
  refine ⟨h.1, ?_⟩
  rcases h.2 with hn | ⟨g, cap, cur, rfl, hb', hg, rest⟩
  · exact .inl hn
  · exact .inr ⟨g, cap, cur, rfl, hb', (hb.block _ (Array.getElem?_eq_some_iff.1 hg).1).trans hg, rest⟩
end Go.Proofs.Ytikjgbfbbkmmcaa
