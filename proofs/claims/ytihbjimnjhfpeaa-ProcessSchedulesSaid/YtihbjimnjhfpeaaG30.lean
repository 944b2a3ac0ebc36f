/- Texts of this seat, one behind the other. -/
import Derived.Test.YtihbjimnjhfpeaaG16
import Derived.Test.YtihbjimnjhfpeaaEc
import Derived.Test.YtihbjimnjhfpeaaG27
import Derived.Test.YtihbjimnjhfpeaaG28
/- Walk of HeatEven. -/
namespace Go.Proofs.Ytihbjimnjhfpeaa
open Go.RowKit

theorem even_all (r l a b k a2 b2 : Int) (w : World) (t : Int) : Calls Try.prog 62 #[.agg #[.int .i64 r, .int .i64 l, .int .i64 a, .int .i64 b, .int .i64 k, .int .i64 a2, .int .i64 b2], .int .i64 t] w (OutB (evenO r l a b k a2 b2 t) w) := by
  by_cases hn : canB r l a b k a2 b2 = false ∨ okT t = false
  · exact even_no _ _ _ _ _ _ _ _ t hn
  · have hc : canB r l a b k a2 b2 = true := by cases h : canB r l a b k a2 b2 <;> simp_all
    have ho : okT t = true := by cases h : okT t <;> simp_all
    obtain ⟨c, hcv, rfl, rfl, rfl, rfl, rfl, rfl, rfl⟩ := canB_cn hc
    by_cases hk : 0 < c.K
    · exact even_yes c t w hcv ho hk
    · exact even_zero c t w hcv ho (by simpa using hk)

theorem runO_valid {c : Cn} {x : Bd} {p : List Int} (hv : c.V) (hb : bodyV c x.1 x.2 = true) (ho : okL p = true) (hl : p.length ≤ 2000) : runO c.R c.L c.A c.B c.K c.A2 c.B2 x p = (runS c x p, 0) := by
  have h : chkE (bothB c.R c.L c.A c.B c.K c.A2 c.B2 x.1 x.2) p = 0 := by rw [bothB_cn c hv]; rw [show bodyV c x.1 x.2 = true from hb]; exact chkE_ok ho (by omega)
  rw [runO_ok h, cnOf_cn]
theorem okL_one {t : Int} (h : okT t = true) : okL [t] = true := by simp [okL, h]
/-- The boxes of HeatEven: the can's, and at n7 and n9 the two bodies'. -/
structure EvB (w W : World) (n7 n9 : Nat) (A X Y : Array Value) : Prop where
  can : W.heap[w.heap.size]? = some (.cells A 31 (0, 0))
  x : W.heap[n7]? = some (.cells X 61 (0, 0))
  y : W.heap[n9]? = some (.cells Y 61 (0, 0))
  h7 : w.heap.size < n7
  h9 : n7 < n9
  low : Below w.heap.size w W
theorem EvB.keep {w W W2 : World} {n7 n9 : Nat} {A X Y : Array Value} (h : EvB w W n7 n9 A X Y) (hb : Below W.heap.size W W2) : EvB w W2 n7 n9 A X Y :=
  ⟨(hb.block _ (lt_of_block h.can)).trans h.can, (hb.block _ (lt_of_block h.x)).trans h.x, (hb.block _ (lt_of_block h.y)).trans h.y, h.h7, h.h9, bstep h.low h.low.size hb⟩
theorem EvB.facts {w W : World} {n7 n9 : Nat} {c0 c1 c2 c3 c4 c5 c6 d0 d1 e0 e1 : Value} (h : EvB w W n7 n9 #[c0, c1, c2, c3, c4, c5, c6] #[d0, d1] #[e0, e1]) :
    W.cell? ⟨w.heap.size, 0, none⟩ = some c0 ∧ W.cell? ⟨w.heap.size, 1, none⟩ = some c1 ∧ W.cell? ⟨w.heap.size, 2, none⟩ = some c2 ∧ W.cell? ⟨w.heap.size, 3, none⟩ = some c3 ∧ W.cell? ⟨w.heap.size, 4, none⟩ = some c4 ∧ W.cell? ⟨w.heap.size, 5, none⟩ = some c5 ∧ W.cell? ⟨w.heap.size, 6, none⟩ = some c6 ∧
    W.cell? ⟨n7, 0, none⟩ = some d0 ∧ W.cell? ⟨n7, 1, none⟩ = some d1 ∧ W.frozen? ⟨n7, 0, none⟩ = false ∧ W.frozen? ⟨n7, 1, none⟩ = false ∧
    W.cell? ⟨n9, 0, none⟩ = some e0 ∧ W.cell? ⟨n9, 1, none⟩ = some e1 ∧ W.frozen? ⟨n9, 0, none⟩ = false ∧ W.frozen? ⟨n9, 1, none⟩ = false ∧ n9 < W.heap.size :=
  ⟨cell_of_row _ _ 0 _ _ _ h.can, cell_of_row _ _ 1 _ _ _ h.can, cell_of_row _ _ 2 _ _ _ h.can, cell_of_row _ _ 3 _ _ _ h.can, cell_of_row _ _ 4 _ _ _ h.can, cell_of_row _ _ 5 _ _ _ h.can, cell_of_row _ _ 6 _ _ _ h.can,
    cell_of_row _ _ 0 _ _ _ h.x, cell_of_row _ _ 1 _ _ _ h.x, frozen_of_row _ _ 0 _ _ h.x, frozen_of_row _ _ 1 _ _ h.x, cell_of_row _ _ 0 _ _ _ h.y, cell_of_row _ _ 1 _ _ _ h.y, frozen_of_row _ _ 0 _ _ h.y, frozen_of_row _ _ 1 _ _ h.y, lt_of_block h.y⟩
theorem EvB.setY {w W : World} {n7 n9 : Nat} {A X : Array Value} {e0 e1 u v : Value} (h : EvB w W n7 n9 A X #[e0, e1]) : EvB w ((W.setCell ⟨n9, 0, none⟩ u).setCell ⟨n9, 1, none⟩ v) n7 n9 A X #[u, v] := by
  have h7 := h.h7; have h9 := h.h9
  have h1 := heap_setCell_same W n9 0 _ _ u h.y
  have h2 := heap_setCell_same _ n9 1 _ _ v h1
  exact ⟨(heap_setCell_other _ _ _ _ (show w.heap.size ≠ n9 by omega)).trans ((heap_setCell_other _ _ _ _ (show w.heap.size ≠ n9 by omega)).trans h.can), (heap_setCell_other _ _ _ _ (show n7 ≠ n9 by omega)).trans ((heap_setCell_other _ _ _ _ (show n7 ≠ n9 by omega)).trans h.x), h2, h7, h9,
    (h.low.setCell (p := ⟨n9, 0, none⟩) (by show w.heap.size ≤ n9; omega) u).setCell (p := ⟨n9, 1, none⟩) (by show w.heap.size ≤ n9; omega) v⟩
theorem EvB.setX {w W : World} {n7 n9 : Nat} {A Y : Array Value} {e0 e1 u v : Value} (h : EvB w W n7 n9 A #[e0, e1] Y) : EvB w ((W.setCell ⟨n7, 0, none⟩ u).setCell ⟨n7, 1, none⟩ v) n7 n9 A #[u, v] Y := by
  have h7 := h.h7; have h9 := h.h9
  have h1 := heap_setCell_same W n7 0 _ _ u h.x
  have h2 := heap_setCell_same _ n7 1 _ _ v h1
  exact ⟨(heap_setCell_other _ _ _ _ (show w.heap.size ≠ n7 by omega)).trans ((heap_setCell_other _ _ _ _ (show w.heap.size ≠ n7 by omega)).trans h.can), h2, (heap_setCell_other _ _ _ _ (show n9 ≠ n7 by omega)).trans ((heap_setCell_other _ _ _ _ (show n9 ≠ n7 by omega)).trans h.y), h7, h9,
    (h.low.setCell (p := ⟨n7, 0, none⟩) (by show w.heap.size ≤ n7; omega) u).setCell (p := ⟨n7, 1, none⟩) (by show w.heap.size ≤ n7; omega) v⟩
/-- A row of ints is none of the bodies' boxes. -/
theorem rowI_box {W : World} {n : Nat} {l : List Int} {z u v : Value} {a : Option Addr} {m c : Nat} {b : Bool} (h : W.heap[n]? = some (.cells #[.slice a m c, .bool b] 61 (0, 0))) (hr : RowI W z l) : RowI ((W.setCell ⟨n, 0, none⟩ u).setCell ⟨n, 1, none⟩ v) z l := by
  rcases hr with hr | ⟨b', o, cap, hz, hm, hc⟩
  · exact .inl hr
  · refine .inr ⟨b', o, cap, hz, hm, fun k hk => ?_⟩
    have hne : b' ≠ n := by
      rintro rfl
      have h1 := hc k hk
      rw [cell_of_row W _ (o + k) _ _ _ h] at h1
      match o + k, h1 with
      | 0, h1 => simp at h1
      | 1, h1 => simp at h1
      | j + 2, h1 => simp at h1
    rw [← hc k hk]
    exact World.cell?_of_block (a := ⟨b', o + k, none⟩) (by rw [heap_setCell_other _ _ _ _ hne, heap_setCell_other _ _ _ _ hne])

end Go.Proofs.Ytihbjimnjhfpeaa

/- Plain facts: a can that is hotter all the time has at least the same sums (no Break). -/
namespace Go.Proofs.Ytihbjimnjhfpeaa
open Go.RowKit

def leN (S U : List Nat) : Prop := ∀ i (a : i < S.length) (c : i < U.length), S[i] ≤ U[i]
theorem cutN_mono {a b c d : Nat} (h : a ≤ c) (k : b ≤ d) : Lt.cutN a b ≤ Lt.cutN c d := by unfold Lt.cutN; omega
theorem addD_le {f : Int → Nat} {S S' : List Nat} {T T' : List Int} (hf : ∀ t u : Int, t ≤ u → f t ≤ f u) (h1 : S.length = T.length) (h2 : S'.length = T'.length) (hs : leN S S') (ht : leL T T') (hl : T.length = T'.length) : leN (addD f S T) (addD f S' T') := by
  intro i a c
  rw [addD_len h1] at a
  rw [addD_len h2] at c
  rw [addD_get _ a (by omega), addD_get _ c (by omega)]
  exact cutN_mono (hs i a c) (hf _ _ (ht i (by omega) (by omega)))
/-- Two dishes of a can without a Break, one nowhere hotter and with no more than the other. -/
structure LeD (c : Cn) (d e : Dish) : Prop where
  w1 : Warm c d.1
  w2 : Warm c e.1
  b1 : d.1.2 = false
  b2 : e.1.2 = false
  l1 : d.2.length = c.P
  l2 : e.2.length = c.P
  t : leL d.1.1 e.1.1
  s : leN d.2 e.2
theorem LeD.tick {c : Cn} {f : Int → Nat} {d e : Dish} {b b' : Int} (hc : c.Ok) (hK : c.K = 0) (hf : ∀ t u : Int, t ≤ u → f t ≤ f u) (h : LeD c d e) (hb : okT b = true) (hb' : okT b' = true) (hle : b ≤ b') : LeD c (dishT c f d b) (dishT c f e b') := by
  obtain ⟨w1, w2, b1, b2, l1, l2, ht, hs⟩ := h
  obtain ⟨⟨T, x⟩, S⟩ := d
  obtain ⟨⟨U, y⟩, V⟩ := e
  simp only at b1 b2 l1 l2 ht hs w1 w2
  subst b1; subst b2
  obtain ⟨a1, a2, a3⟩ := hc.ra false
  have hb : -50000 ≤ b ∧ b ≤ 200000 := by simpa [okT] using hb
  have hb' : -50000 ≤ b' ∧ b' ≤ 200000 := by simpa [okT] using hb'
  have hw1 := w1.tick hc hb.1 hb.2
  have hw2 := w2.tick hc hb'.1 hb'.2
  have hts := tickT_le a1 a2 a3 w1.len w2.len ht hle
  unfold dishT
  simp only
  have e1 := hw1.len
  have e2 := hw2.len
  rw [tickS_cold hK] at hw1 hw2 e1 e2 ⊢
  rw [tickS_cold hK]
  simp only at e1 e2
  have hP : c.P = c.R * c.L := rfl
  exact ⟨hw1, hw2, rfl, rfl, by show (addD f S _).length = _; rw [addD_len (by rw [l1, e1, hP])]; exact l1, by show (addD f V _).length = _; rw [addD_len (by rw [l2, e2, hP])]; exact l2, hts, addD_le hf (by rw [l1, e1, hP]) (by rw [l2, e2, hP]) hs hts (by rw [e1, e2])⟩
theorem LeD.run {c : Cn} {f : Int → Nat} (hc : c.Ok) (hK : c.K = 0) (hf : ∀ t u : Int, t ≤ u → f t ≤ f u) : ∀ (l m : List Int) (d e : Dish), l.length = m.length → leL l m → okL l = true → okL m = true → LeD c d e → LeD c (dishR c f d l) (dishR c f e m)
  | [], [], _, _, _, _, _, _, h => h
  | [], _ :: _, _, _, hl, _, _, _, _ => by simp at hl
  | _ :: _, [], _, _, hl, _, _, _, _ => by simp at hl
  | b :: l, b' :: m, d, e, hl, hle, ho, ho', h => by
    unfold okL at ho ho'
    rw [List.all_cons, Bool.and_eq_true] at ho ho'
    exact LeD.run hc hK hf l m (dishT c f d b) (dishT c f e b') (by simpa using hl) (fun i a c => hle (i + 1) (by simpa using a) (by simpa using c)) ho.2 ho'.2 (h.tick hc hK hf ho.1 ho'.1 (hle 0 (by simp) (by simp)))
theorem evB_warm {c : Cn} {t : Int} (h : okT t = true) : Warm c (evB c t) := by
  obtain ⟨h1, _, h3⟩ := bodyV_iff.1 (evB_valid (c := c) h)
  exact ⟨h1, okL_bd h3⟩
theorem evB_cold {c : Cn} (hK : c.K = 0) (t : Int) : (evB c t).2 = false := by simp [evB, hK]
theorem dish0_le {c : Cn} (hK : c.K = 0) {t u : Int} (ht : okT t = true) (hu : okT u = true) (h : t ≤ u) : LeD c (dish0 c t) (dish0 c u) :=
  ⟨evB_warm ht, evB_warm hu, evB_cold hK t, evB_cold hK u, by simp [dish0], by simp [dish0], fun i a d => by simpa [dish0, evB] using h, fun i a d => by simp [dish0]⟩
/-- A tick in a bath that is no colder leaves an even can nowhere colder. -/
theorem dish0_tick {c : Cn} {f : Int → Nat} (hc : c.Ok) (hK : c.K = 0) {t b : Int} (ht : okT t = true) (hb : okT b = true) (h : t ≤ b) : LeD c (dish0 c t) (dishT c f (dish0 c t) b) := by
  have hb' : -50000 ≤ b ∧ b ≤ 200000 := by simpa [okT] using hb
  have hw := (evB_warm (c := c) ht).tick hc hb'.1 hb'.2
  have e1 := hw.len
  have hbd : ∀ x ∈ (tickS c (evB c t) b).1, t ≤ x ∧ x ≤ b := by
    refine tickS_bd hc (by simp [evB]) (fun x hx => ?_) ⟨h, Int.le_refl _⟩
    have := List.eq_of_mem_replicate hx
    omega
  refine ⟨evB_warm ht, hw, evB_cold hK t, ?_, by simp [dish0], ?_, fun i a d => ?_, fun i a d => by simp [dish0]⟩
  · show (tickS c (evB c t) b).2 = false
    have e : evB c t = ((evB c t).1, false) := by rw [← evB_cold hK t]
    rw [e, tickS_cold hK]
  · show (addD f _ _).length = c.P
    rw [addD_len (by show (dish0 c t).2.length = (tickS c (evB c t) b).1.length; rw [e1]; simp [dish0, Cn.P])]
    simp [dish0]
  · have h1 := hbd _ (List.getElem_mem d)
    have h2 : (dish0 c t).1.1[i] = t := by simp [dish0, evB]
    rw [h2]; exact h1.1

/-- The least sum of a dish. -/
def ivN (S : List Nat) : List Int := S.map fun (n : Nat) => (n : Int)
theorem ivN_len (S : List Nat) : (ivN S).length = S.length := by simp [ivN]
def lowD (d : Dish) : Int := minA (ivN d.2)
theorem lowD_le {S U : List Nat} (h0 : 0 < S.length) (hl : S.length = U.length) (h : leN S U) : minA (ivN S) ≤ minA (ivN U) := by
  have h1 := minA_mem (ds := ivN U) (by rw [ivN_len]; omega)
  obtain ⟨i, hi, e⟩ := List.getElem_of_mem h1
  rw [ivN_len] at hi
  rw [← e]
  have h2 := minA_le (ds := ivN S) (x := (ivN S)[i]'(by rw [ivN_len]; omega)) (List.getElem_mem _)
  refine Int.le_trans h2 ?_
  simp only [ivN, List.getElem_map]
  have := h i (by omega) hi
  omega
theorem lowD_nonneg {S : List Nat} (h0 : 0 < S.length) : 0 ≤ minA (ivN S) := by
  have h1 := minA_mem (ds := ivN S) (by rw [ivN_len]; exact h0)
  obtain ⟨n, _, e⟩ := List.mem_map.1 (show minA (ivN S) ∈ S.map fun (n : Nat) => (n : Int) from h1)
  omega
theorem LeD.low {c : Cn} {d e : Dish} (hc : c.Ok) (h : LeD c d e) : lowD d ≤ lowD e :=
  lowD_le (by rw [h.l1]; exact hc.p.1) (by rw [h.l1, h.l2]) h.s
end Go.Proofs.Ytihbjimnjhfpeaa
