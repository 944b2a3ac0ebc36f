/- Lists of structs of one-cell fields: read, and of the call's own; for any struct. -/
import Derived.Test.YtikjgbfbbkmmcaaGt
import Derived.Laws.OwnMore
namespace Go.Proofs.Ytikjgbfbbkmmcaa
open Go.RowKit

section
variable {α : Type}
/-- How a struct lies in n cells. -/
structure Enc (α : Type) where
  cs : α → List Value
  n : Nat
  len : ∀ x, (cs x).length = n
  one : ∀ x, ∀ u ∈ cs x, u.oneCell' = true
def evs (C : Enc α) : List α → List Value
  | [] => []
  | d :: l => C.cs d ++ evs C l
theorem evs_len (C : Enc α) : ∀ l : List α, (evs C l).length = l.length * C.n
  | [] => by simp [evs]
  | d :: l => by rw [evs, List.length_append, C.len, evs_len C l, List.length_cons, Nat.succ_mul]; omega
theorem evs_app (C : Enc α) : ∀ l m : List α, evs C (l ++ m) = evs C l ++ evs C m
  | [], _ => rfl
  | d :: l, m => by simp only [evs, List.cons_append, evs_app C l m, List.append_assoc]
theorem evs_last {C : Enc α} {l : List α} {d : α} : evs C (l ++ [d]) = evs C l ++ C.cs d := by rw [evs_app]; simp [evs]
theorem evs_at (C : Enc α) : ∀ (l : List α) (k : Nat) (h : k < l.length) (j : Nat) (x : Value), (C.cs l[k])[j]? = some x → (evs C l)[k * C.n + j]? = some x
  | d :: l, 0, _, j, x, hx => by
    simp only [List.getElem_cons_zero] at hx
    rw [Nat.zero_mul, Nat.zero_add, evs, List.getElem?_append_left (List.getElem?_eq_some_iff.1 hx).1]
    exact hx
  | d :: l, k + 1, h, j, x, hx => by
    simp only [List.getElem_cons_succ] at hx
    have ih := evs_at C l k (by simpa using h) j x hx
    rw [evs, List.getElem?_append_right (by rw [C.len, Nat.succ_mul]; omega), C.len]
    rw [show (k + 1) * C.n + j - C.n = k * C.n + j by rw [Nat.succ_mul]; omega]
    exact ih
/-- A list of structs that is read, from any place of a row. -/
def RowE (C : Enc α) (w : World) (v : Value) (l : List α) : Prop :=
  ∃ a b o cap, v = .slice a l.length cap ∧ l.length ≤ cap ∧ cap ≤ maxLen ∧ (l = [] ∨ a = some ⟨b, o, none⟩) ∧ ∀ k (h : k < l.length) j x, (C.cs l[k])[j]? = some x → w.cell? ⟨b, o + k * C.n + j, none⟩ = some x
variable {C : Enc α} {w W w2 : World} {v : Value} {l : List α} {base E : Nat}
theorem RowE.keep (h : RowE C W v l) (hb : Below W.heap.size W w2) : RowE C w2 v l := by
  obtain ⟨a, b, o, cap, h1, h2, h3, h4, h5⟩ := h
  exact ⟨a, b, o, cap, h1, h2, h3, h4, fun k hk j x hx => keep_cell hb (h5 k hk j x hx)⟩
theorem RowE.low {W0 : World} (h : RowE C W0 v l) (hl : ∀ j, j < W0.heap.size → W.heap[j]? = W0.heap[j]?) : RowE C W v l := by
  obtain ⟨a, b, o, cap, h1, h2, h3, h4, h5⟩ := h
  exact ⟨a, b, o, cap, h1, h2, h3, h4, fun k hk j x hx => (World.cell?_of_block (a := ⟨b, o + k * C.n + j, none⟩) (hl b (World.block_lt_of_cell? _ _ (h5 k hk j x hx)))).trans (h5 k hk j x hx)⟩
theorem RowE.most (h : RowE C w v l) : l.length ≤ maxLen := by
  obtain ⟨a, b, o, cap, rfl, h2, h3, h4, h5⟩ := h; omega
theorem RowE.shape (h : RowE C w v l) : ∃ a cap, v = .slice a l.length cap := by
  obtain ⟨a, b, o, cap, rfl, h2, h3, h4, h5⟩ := h; exact ⟨_, _, rfl⟩
theorem rowE_nil (C : Enc α) (w : World) (a : Option Addr) (cap : Nat) (hm : cap ≤ maxLen) : RowE C w (.slice a 0 cap) [] := ⟨a, 0, 0, cap, rfl, Nat.zero_le _, hm, .inl rfl, fun k h => absurd h (Nat.not_lt_zero k)⟩
theorem RowE.get {a : Option Addr} {n c k : Nat} (h : RowE C w (.slice a n c) l) (hk : k < l.length) : ∃ b o, a = some ⟨b, o, none⟩ ∧ ∀ j x, (C.cs l[k])[j]? = some x → w.cell? ⟨b, o + k * C.n + j, none⟩ = some x := by
  obtain ⟨a', b, o, cap, hv, h2, h3, h4, h5⟩ := h
  injection hv with e1 e2 e3
  subst e1
  rcases h4 with rfl | rfl
  · simp at hk
  · exact ⟨b, o, rfl, h5 k hk⟩
/-- A list of structs of the call's own. -/
def OwnE (C : Enc α) (w : World) (base E : Nat) (v : Value) (l : List α) : Prop := w.ownsRow base E C.n v l.length (evs C l)
theorem OwnE.row (h : OwnE C w base E v l) : RowE C w v l := by
  rcases h.2 with ⟨rfl, h0⟩ | ⟨g, cap, cur, rfl, _, hg, hcap, hmx, hcs, ht⟩
  · have : l = [] := List.length_eq_zero_iff.1 h0
    subst this
    exact rowE_nil C w _ _ (by simp [maxLen])
  · refine ⟨some ⟨g, 0, none⟩, g, 0, cap, rfl, hcap, hmx, .inr rfl, fun k hk j x hx => ?_⟩
    have h1 := evs_at C l k hk j x hx
    have hj : j < C.n := by have := (List.getElem?_eq_some_iff.1 hx).1; rwa [C.len] at this
    have hlt : k * C.n + j < l.length * C.n := by
      have : (k + 1) * C.n ≤ l.length * C.n := Nat.mul_le_mul_right _ hk
      rw [Nat.succ_mul] at this
      omega
    rw [← ht, List.getElem?_take_of_lt hlt] at h1
    simp only [Nat.zero_add]
    rw [cell_of_row w g _ cur _ _ hg]
    simpa using h1
theorem ownE_nil (C : Enc α) (w : World) (base E : Nat) : OwnE C w base E (.slice none 0 0) [] := World.ownsRow_nil w base E C.n
theorem OwnE.shape (h : OwnE C w base E v l) : ∃ ua uc, v = .slice ua l.length uc := by
  rcases h.2 with ⟨rfl, h0⟩ | ⟨g, cap, cur, rfl, _⟩
  · exact ⟨_, _, by rw [h0]⟩
  · exact ⟨_, _, rfl⟩
theorem OwnE.app {d : α} (h : w.ownsRow base E C.n v (l.length + 1) (evs C l ++ C.cs d)) : OwnE C w base E v (l ++ [d]) := by
  unfold OwnE
  rw [List.length_append, evs_last]
  exact h
theorem OwnE.keep (h : OwnE C W base E v l) (hb : Below W.heap.size W w2) : OwnE C w2 base E v l := by
  refine ⟨h.1, ?_⟩
  rcases h.2 with hn | ⟨g, cap, cur, rfl, hb', hg, rest⟩
  · exact .inl hn
  · exact .inr ⟨g, cap, cur, rfl, hb', (hb.block _ (Array.getElem?_eq_some_iff.1 hg).1).trans hg, rest⟩
theorem OwnE.most (h : OwnE C w base E v l) : l.length ≤ maxLen := h.row.most
/-- It stays where another block turns. -/
theorem OwnE.turn {b : Nat} (h : OwnE C W base E v l) (hg : W.grownBy w2 (some b)) (hb : v.ownBlock ≠ some b) : OwnE C w2 base E v l := by
  refine ⟨h.1, ?_⟩
  rcases h.2 with hn | ⟨g, cap, cur, rfl, hb', hgg, rest⟩
  · exact .inl hn
  · exact .inr ⟨g, cap, cur, rfl, hb', (hg.block _ (Array.getElem?_eq_some_iff.1 hgg).1 (fun e => hb (by rw [← e]; rfl))).trans hgg, rest⟩
/-- Its beginning is a list of one's own, too. -/
theorem OwnE.beg {a : Option Addr} {n cap k : Nat} (h : OwnE C w base E (.slice a n cap) l) (hk : k ≤ l.length) (hl : l ≠ []) : OwnE C w base E (.slice a k cap) (l.take k) := by
  have hlen : (l.take k).length = k := by rw [List.length_take]; omega
  refine ⟨by rw [hlen, evs_len, hlen], ?_⟩
  rcases h.2 with ⟨_, h0⟩ | ⟨g, cap', cur, hv, hb', hgg, hcap, hmx, hcs, ht⟩
  · exact absurd (List.length_eq_zero_iff.1 h0) hl
  · cases hv
    refine .inr ⟨g, cap, cur, by rw [hlen], hb', hgg, by omega, hmx, hcs, ?_⟩
    rw [hlen]
    have e : evs C l = evs C (l.take k) ++ evs C (l.drop k) := by rw [← evs_app, List.take_append_drop]
    have h2 : (cur.toList.take (l.length * C.n)).take (k * C.n) = evs C (l.take k) := by
      rw [ht, e, List.take_append_of_le_length (by rw [evs_len, hlen]; omega), List.take_of_length_le (by rw [evs_len, hlen]; omega)]
    rw [List.take_take, Nat.min_eq_left (Nat.mul_le_mul_right _ hk)] at h2
    exact h2
theorem encN_new {W : World} {cs : List Value} {T : TypeId} {m : Nat} (hm : W.heap.size = m) : ∀ j y, cs[j]? = some y → (W.alloc (.cells cs.toArray T)).cell? ((⟨m, 0, none⟩ : Addr).add j) = some y := by
  subst hm
  intro j y h
  rw [show ((⟨W.heap.size, 0, none⟩ : Addr).add j) = ⟨W.heap.size, j, none⟩ by simp [Addr.add]; omega, cell_alloc_new W cs.toArray T (0, 0) j, List.getElem?_toArray]
  exact h
end
end Go.Proofs.Ytikjgbfbbkmmcaa
