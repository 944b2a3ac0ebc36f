/- Texts of this seat, one behind the other. -/
import Derived.Test.YtihbjimnjhfpeaaG15
/- Walk of the reference's Start and Even: contracts. -/
namespace Go.Proofs.Ytihbjimnjhfpeaa
open Go.RowKit

/-- Three boxes behind one another: a can, a body that comes back, a body that is filled. -/
structure R3b (w w1 : World) (A R S : Array Value) : Prop where
  can : w1.heap[w.heap.size]? = some (.cells A 31 (0, 0))
  res : w1.heap[w.heap.size + 1]? = some (.cells R 61 (0, 0))
  out : w1.heap[w.heap.size + 1 + 1]? = some (.cells S 61 (0, 0))
  low : Below w.heap.size w w1
theorem r3b_start {w : World} {A R S : Array Value} : R3b w (((w.alloc (.cells A 31)).alloc (.cells R 61)).alloc (.cells S 61)) A R S := by
  have hs : ((w.alloc (.cells A 31)).alloc (.cells R 61)).heap.size = w.heap.size + 1 + 1 := by simp
  refine ⟨?_, ?_, new_at hs, (((Below.refl _ _).alloc (Nat.le_refl _) _).alloc (by simp) _).alloc (by simp; omega) _⟩
  · rw [Below.heap_alloc _ _ _ (by rw [hs]; omega)]; exact heap_alloc2_old w _ _
  · rw [Below.heap_alloc _ _ _ (by rw [hs]; omega)]; exact heap_alloc2_new w _ _
/-- What an append onto a row of one's own, laid behind the boxes, leaves of them; and the store of what it made. -/
theorem R3b.app {w W W' : World} {A R : Array Value} {v v' u0 : Value} {br : Value} {xs : List Value} {l : List Int} (h : R3b w W A R #[u0, br]) (hown : W.ownsRow (w.heap.size + 3) 3 1 v xs.length xs) (hA : AppP W (w.heap.size + 3) 3 v xs l v' W') : R3b w W' A R #[u0, br] := by
  have hne : ∀ b, b < w.heap.size + 3 → some b ≠ v.ownBlock := fun b hb e => by have := (World.ownsRow.lt hown b e.symm).1; omega
  exact ⟨(hA.2.1.block _ (lt_of_block h.can) (hne _ (by omega))).trans h.can, (hA.2.1.block _ (lt_of_block h.res) (hne _ (by omega))).trans h.res, (hA.2.1.block _ (lt_of_block h.out) (hne _ (by omega))).trans h.out, h.low.grown hA.2.1 h.low.size (fun k hk => by have := (World.ownsRow.lt hown k hk).1; omega)⟩
theorem R3b.set0 {w W : World} {A R : Array Value} {u0 br u : Value} (h : R3b w W A R #[u0, br]) : R3b w (W.setCell ⟨w.heap.size + 1 + 1, 0, none⟩ u) A R #[u, br] :=
  ⟨(heap_setCell_other _ _ _ _ (show w.heap.size ≠ w.heap.size + 1 + 1 by omega)).trans h.can, (heap_setCell_other _ _ _ _ (show w.heap.size + 1 ≠ w.heap.size + 1 + 1 by omega)).trans h.res, heap_setCell_same W (w.heap.size + 1 + 1) 0 _ _ u h.out, h.low.setCell (p := ⟨w.heap.size + 1 + 1, 0, none⟩) (by show w.heap.size ≤ w.heap.size + 1 + 1; omega) u⟩
theorem R3b.alloc {w W : World} {A R S : Array Value} (h : R3b w W A R S) (o : Obj) : R3b w (W.alloc o) A R S :=
  ⟨(Below.heap_alloc _ _ _ (lt_of_block h.can)).trans h.can, (Below.heap_alloc _ _ _ (lt_of_block h.res)).trans h.res, (Below.heap_alloc _ _ _ (lt_of_block h.out)).trans h.out, h.low.alloc h.low.size _⟩
theorem R3b.facts {w W : World} {c0 c1 c2 c3 c4 c5 c6 d0 d1 e0 e1 : Value} (h : R3b w W #[c0, c1, c2, c3, c4, c5, c6] #[d0, d1] #[e0, e1]) :
    W.cell? ⟨w.heap.size, 0, none⟩ = some c0 ∧ W.cell? ⟨w.heap.size, 1, none⟩ = some c1 ∧ W.cell? ⟨w.heap.size, 4, none⟩ = some c4 ∧
    W.cell? ⟨w.heap.size + 1, 0, none⟩ = some d0 ∧ W.cell? ⟨w.heap.size + 1, 1, none⟩ = some d1 ∧ W.frozen? ⟨w.heap.size + 1, 0, none⟩ = false ∧ W.frozen? ⟨w.heap.size + 1, 1, none⟩ = false ∧
    W.cell? ⟨w.heap.size + 1 + 1, 0, none⟩ = some e0 ∧ W.cell? ⟨w.heap.size + 1 + 1, 1, none⟩ = some e1 ∧ W.frozen? ⟨w.heap.size + 1 + 1, 0, none⟩ = false ∧ W.frozen? ⟨w.heap.size + 1 + 1, 1, none⟩ = false ∧ w.heap.size + 1 + 1 < W.heap.size :=
  ⟨cell_of_row _ _ 0 _ _ _ h.can, cell_of_row _ _ 1 _ _ _ h.can, cell_of_row _ _ 4 _ _ _ h.can, cell_of_row _ _ 0 _ _ _ h.res, cell_of_row _ _ 1 _ _ _ h.res, frozen_of_row _ _ 0 _ _ h.res, frozen_of_row _ _ 1 _ _ h.res, cell_of_row _ _ 0 _ _ _ h.out, cell_of_row _ _ 1 _ _ _ h.out, frozen_of_row _ _ 0 _ _ h.out, frozen_of_row _ _ 1 _ _ h.out, lt_of_block h.out⟩

theorem R3b.fin {w W : World} {A : Array Value} {d0 d1 e0 e1 u v z : Value} (h : R3b w W A #[d0, d1] #[e0, e1]) :
    (((W.setCell ⟨w.heap.size + 1 + 1, 1, none⟩ z).setCell ⟨w.heap.size + 1, 0, none⟩ u).setCell ⟨w.heap.size + 1, 1, none⟩ v).cell? ⟨w.heap.size + 1, 0, none⟩ = some u ∧
    (((W.setCell ⟨w.heap.size + 1 + 1, 1, none⟩ z).setCell ⟨w.heap.size + 1, 0, none⟩ u).setCell ⟨w.heap.size + 1, 1, none⟩ v).cell? ⟨w.heap.size + 1, 1, none⟩ = some v ∧
    Below w.heap.size w (((W.setCell ⟨w.heap.size + 1 + 1, 1, none⟩ z).setCell ⟨w.heap.size + 1, 0, none⟩ u).setCell ⟨w.heap.size + 1, 1, none⟩ v) := by
  have h0 : (W.setCell ⟨w.heap.size + 1 + 1, 1, none⟩ z).heap[w.heap.size + 1]? = some (.cells #[d0, d1] 61 (0, 0)) := (heap_setCell_other _ _ _ _ (show w.heap.size + 1 ≠ w.heap.size + 1 + 1 by omega)).trans h.res
  have h1 := heap_setCell_same _ (w.heap.size + 1) 0 _ _ u h0
  have h2 := heap_setCell_same _ (w.heap.size + 1) 1 _ _ v h1
  exact ⟨cell_of_row _ _ 0 _ _ _ h2, cell_of_row _ _ 1 _ _ _ h2, ((h.low.setCell (p := ⟨w.heap.size + 1 + 1, 1, none⟩) (by show w.heap.size ≤ w.heap.size + 1 + 1; omega) z).setCell (p := ⟨w.heap.size + 1, 0, none⟩) (Nat.le_succ _) u).setCell (p := ⟨w.heap.size + 1, 1, none⟩) (Nat.le_succ _) v⟩
theorem own_shape {w : World} {base e n : Nat} {v : Value} {xs : List Value} (h : w.ownsRow base e 1 v n xs) : ∃ a c, v = .slice a n c := by
  rcases h.2 with ⟨rfl, rfl⟩ | ⟨g, cap, cur, rfl, _⟩
  · exact ⟨_, _, rfl⟩
  · exact ⟨_, _, rfl⟩
theorem own_set {w : World} {base e n m j : Nat} {v u : Value} {xs : List Value} (h : w.ownsRow base e 1 v n xs) (hm : m < base) : (w.setCell ⟨m, j, none⟩ u).ownsRow base e 1 v n xs := by
  refine ⟨h.1, ?_⟩
  rcases h.2 with hn | ⟨g, cap, cur, rfl, hb, hg, rest⟩
  · exact .inl hn
  · exact .inr ⟨g, cap, cur, rfl, hb, (heap_setCell_other _ _ _ _ (show g ≠ m by omega)).trans hg, rest⟩
theorem rowI_res {w W : World} {A : Array Value} {l : List Int} {z u v : Value} (h : R2 w W A #[.slice none 0 0, .bool false]) (hr : RowI W z l) : RowI ((W.setCell ⟨w.heap.size + 1, 0, none⟩ u).setCell ⟨w.heap.size + 1, 1, none⟩ v) z l := by
  rcases hr with hr | ⟨b, o, cap, hz, hm, hc⟩
  · exact .inl hr
  · refine .inr ⟨b, o, cap, hz, hm, fun k hk => ?_⟩
    have hne : b ≠ w.heap.size + 1 := by
      rintro rfl
      have h1 := hc k hk
      rw [cell_of_row W _ (o + k) _ _ _ h.res] at h1
      match o + k, h1 with
      | 0, h1 => simp at h1
      | 1, h1 => simp at h1
      | j + 2, h1 => simp at h1
    rw [← hc k hk]
    exact World.cell?_of_block (a := ⟨b, o + k, none⟩) (by rw [heap_setCell_other _ _ _ _ hne, heap_setCell_other _ _ _ _ hne])
/-- What Start hands back. -/
def StartP (c : Cn) (t : Int) (w : World) (e : Ending) (w' : World) : Prop := ∃ (ua : Option Addr) (cap : Nat), e = .returned (.agg #[.slice ua c.P cap, .bool (decide (0 < c.K) && decide (c.K ≤ t))]) ∧ RowI w' (.slice ua c.P cap) (List.replicate c.P t) ∧ Below w.heap.size w w'
end Go.Proofs.Ytihbjimnjhfpeaa

/- Plain math of even bodies; Stirred of both. -/
namespace Go.Proofs.Ytihbjimnjhfpeaa
open Go.RowKit

theorem nearT_even {R L : Nat} {t : Int} (r l : Int) : nearT R L (List.replicate (R * L) t) t r l = t := by
  by_cases h : 0 ≤ r ∧ r < R ∧ 0 ≤ l ∧ l < L
  · obtain ⟨p, q, rfl, rfl, hp, hq, _⟩ := idx_nat h
    have hidx := idx_lt hp hq
    unfold Cn.P at *
    rw [nearT_in ⟨by omega, by omega, by omega, by omega⟩, ← Int.natCast_mul, ← Int.natCast_add, Int.toNat_natCast]
    simp [List.getD, hidx]
  · exact nearT_out h
theorem mixT_even {R L : Nat} {A B t : Int} (r l : Nat) : mixT R L A B (List.replicate (R * L) t) t r l = t := by
  unfold mixT
  rw [nearT_even, nearT_even, nearT_even, nearT_even, nearT_even, num_const]
  exact Int.mul_ediv_cancel _ (by have := wide_pos r; omega)
theorem tickT_even {R L : Nat} {A B t : Int} : tickT R L A B (List.replicate (R * L) t) t = List.replicate (R * L) t := by
  apply List.ext_getElem (by rw [tickT_len, List.length_replicate])
  intro i h1 h2
  rw [tickT_get, mixT_even, List.getElem_replicate]
theorem minT_even {n : Nat} {t : Int} (h : 0 < n) : minT (List.replicate n t) = t := by
  have := minT_mem (List.replicate n t) (by rw [List.length_replicate]; exact h)
  exact List.eq_of_mem_replicate this
/-- An even body. -/
def evB (c : Cn) (t : Int) : Bd := (List.replicate c.P t, decide (0 < c.K) && decide (c.K ≤ t))
theorem tickS_even {c : Cn} (hc : c.Ok) (t : Int) : tickS c (evB c t) t = evB c t := by
  have hp := hc.p
  unfold tickS evB
  dsimp only
  have e : tickT c.R c.L (c.a (decide (0 < c.K) && decide (c.K ≤ t))) (c.b (decide (0 < c.K) && decide (c.K ≤ t))) (List.replicate c.P t) t = List.replicate c.P t := tickT_even
  rw [e]
  unfold brk
  rw [minT_even (by omega), Bool.or_self]
theorem evB_valid {c : Cn} {t : Int} (ho : okT t = true) : bodyV c (evB c t).1 (evB c t).2 = true := by
  refine bodyV_iff.2 ⟨by simp [evB], ?_, okL_of fun x hx => ?_⟩
  · by_cases h : c.K = 0
    · left; simp [evB, h]
    · exact .inr h
  · have := List.eq_of_mem_replicate hx
    subst this
    simpa [okT] using ho
/-- The body behind n ticks in a constant bath, which is no colder. -/
def evR (c : Cn) (t bath : Int) (n : Nat) : Bd := runS c (evB c t) (List.replicate n bath)
theorem evR_succ (c : Cn) (t bath : Int) (n : Nat) : evR c t bath (n + 1) = tickS c (evR c t bath n) bath := by
  unfold evR
  rw [List.replicate_succ', runS_append]
  rfl
theorem evR_valid {c : Cn} (hc : c.Ok) {t bath : Int} (ho : okT t = true) (hb : okT bath = true) (n : Nat) : bodyV c (evR c t bath n).1 (evR c t bath n).2 = true :=
  body_run hc (evB_valid ho) (okL_of fun x hx => by have := List.eq_of_mem_replicate hx; subst this; simpa [okT] using hb)
theorem evR_cold {c : Cn} (hK : c.K = 0) {t bath : Int} (n : Nat) : (evR c t bath n).2 = false := runS_brk hK _ _ (by simp [evB, hK])
theorem evR_le {c : Cn} (hc : c.Ok) (hK : c.K = 0) {t bath : Int} (ho : okT t = true) (hb : okT bath = true) (hle : t ≤ bath) : ∀ n, leL (evR c t bath n).1 (evR c t bath (n + 1)).1
  | 0 => by
    rw [evR_succ]
    intro i a d
    obtain ⟨a1, a2, a3⟩ := hc.ra (evR c t bath 0).2
    have h0 : (evR c t bath 0).1 = List.replicate c.P t := rfl
    have e : (evR c t bath 0).1[i] = t := by simp [h0]
    rw [e]
    have hlen : (evR c t bath 0).1.length = c.R * c.L := by rw [h0]; simp [Cn.P]
    exact (tickT_bd (lo := t) (hi := bath) a1 a2 a3 hlen (fun x hx => by rw [h0] at hx; have := List.eq_of_mem_replicate hx; omega) ⟨hle, Int.le_refl _⟩ _ (List.getElem_mem d)).1
  | n + 1 => by
    have ih := evR_le hc hK ho hb hle n
    have h1 := bodyV_iff.1 (evR_valid hc ho hb n)
    have h2 := bodyV_iff.1 (evR_valid hc ho hb (n + 1))
    have c1 := evR_cold hK (t := t) (bath := bath) n
    have c2 := evR_cold hK (t := t) (bath := bath) (n + 1)
    have e2 := evR_succ c t bath (n + 1)
    have e1 := evR_succ c t bath n
    generalize evR c t bath n = X at *
    generalize evR c t bath (n + 1) = Y at *
    obtain ⟨T, bt⟩ := X
    obtain ⟨U, bu⟩ := Y
    dsimp only at c1 c2 ih h1 h2
    subst c1 c2
    rw [e2, tickS_cold hK]
    rw [tickS_cold hK] at e1
    obtain ⟨a1, a2, a3⟩ := hc.ra false
    have e3 : U = tickT c.R c.L (c.a false) (c.b false) T bath := by have := congrArg Prod.fst e1; exact this
    have h : leL (tickT c.R c.L (c.a false) (c.b false) T bath) (tickT c.R c.L (c.a false) (c.b false) U bath) := tickT_le a1 a2 a3 h1.1 h2.1 ih (Int.le_refl _)
    rw [← e3] at h
    exact h

/-- How many places seven numbers tell of. -/
def plcs (r l a b k a2 b2 : Int) : Nat := if canB r l a b k a2 b2 then (cnOf r l a b k a2 b2).P else 0
theorem places_any (r l a b k a2 b2 : Int) (w : World) : Calls Try.prog 71 #[.agg #[.int .i64 r, .int .i64 l, .int .i64 a, .int .i64 b, .int .i64 k, .int .i64 a2, .int .i64 b2]] w fun e w' => e = .returned (.int .i64 (plcs r l a b k a2 b2 : Nat)) ∧ Below w.heap.size w w' := by
  cases hc : canB r l a b k a2 b2
  · rw [show plcs r l a b k a2 b2 = 0 by unfold plcs; rw [if_neg (by rw [hc]; simp)]]
    exact places_no _ _ _ _ _ _ _ _ hc
  · rw [show plcs r l a b k a2 b2 = (cnOf r l a b k a2 b2).P by unfold plcs; rw [if_pos hc]]
    obtain ⟨c, hcv, rfl, rfl, rfl, rfl, rfl, rfl, rfl⟩ := canB_cn hc
    rw [cnOf_cn]
    exact places_yes c w hcv
end Go.Proofs.Ytihbjimnjhfpeaa
