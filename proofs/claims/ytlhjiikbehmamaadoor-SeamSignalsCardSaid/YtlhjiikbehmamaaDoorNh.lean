/- Walk of SeamShifts. -/
import Derived.Test.YtlhjiikbehmamaaDoorNg
namespace Go.Proofs.YtlhjiikbehmamaaDoor
open Go.RowKit

/-- A list of ints of the call's own. -/
def OwnI (w : World) (base : Nat) (v : Value) (l : List Int) : Prop := w.ownsRow base 3 1 v l.length (l.map (Value.int .i64))
theorem infoI : (Tryd.prog.info? 3).map (fun i => (i.zero, i.size, i.bytes)) = some (some (.int .i64 0), 1, 8) := by kernel_rfl
theorem OwnI.rowQ {w : World} {base : Nat} {v : Value} {l : List Int} (h : OwnI w base v l) : RowQ w v l := by
  rcases h.2 with ⟨rfl, h0⟩ | ⟨g, cap, cur, rfl, _, hg, hcap, hmx, hcs, ht⟩
  · have : l = [] := List.length_eq_zero_iff.1 h0
    subst this
    exact rowQ_nil w
  · refine ⟨some ⟨g, 0, none⟩, g, 0, cap, rfl, hcap, hmx, .inr rfl, fun k hk => ?_⟩
    have h1 : (l.map (Value.int .i64))[k]? = some (.int .i64 l[k]) := by simp [hk]
    rw [← ht] at h1
    rw [List.getElem?_take_of_lt (by omega)] at h1
    rw [Nat.zero_add, cell_of_row w g _ cur _ _ hg]
    simpa using h1
theorem ownI_nil (w : World) (base : Nat) : OwnI w base (.slice none 0 0) [] := World.ownsRow_nil w base _ 1
theorem OwnI.app {w : World} {base : Nat} {v : Value} {l : List Int} {x : Int} (h : w.ownsRow base 3 1 v (l.length + 1) (l.map (Value.int .i64) ++ [.int .i64 x])) : OwnI w base v (l ++ [x]) := by
  unfold OwnI
  rw [List.length_append, List.map_append]
  exact h
theorem cell_one_new {w : World} {u : Value} {T : TypeId} {m : Nat} (hm : w.heap.size = m) : ∀ j x, [u][j]? = some x → (w.alloc (.cells #[u] T)).cell? ((⟨m, 0, none⟩ : Addr).add j) = some x := by
  subst hm
  intro j y h
  match j with
  | 0 => simp at h; subst h; simp [Addr.add]
  | j + 1 => simp at h
theorem one_cell1 {x : Int} : ∀ u ∈ [Value.int .i64 x], u.oneCell' = true := by intro u hu; simp at hu; subst hu; rfl
theorem below_ints {W W2 w1 : World} {base : Nat} {v : Value} {l : List Int} {o : Obj} (hW : Below W.heap.size W W2) (h : OwnI W2 base v l) (hb : W.heap.size ≤ base) (hg : (W2.alloc o).grownBy w1 v.ownBlock) : Below W.heap.size W w1 :=
  (hW.alloc hW.size _).grown hg (by have := hW.size; simp; omega) (fun k hk => by have := (World.ownsRow.lt h k hk).1; omega)
theorem Box2.grownI {w wr w1 : World} {A B : Array Value} {base : Nat} {v : Value} {l : List Int} {o : Obj} (h : Box2 w wr A B) (hb : w.heap.size + 1 < base) (hv : OwnI wr base v l) (hg : (wr.alloc o).grownBy w1 v.ownBlock) : Box2 w w1 A B := by
  have hl : Below (w.heap.size + 2) wr w1 := ((Below.refl _ _).alloc h.sz _).grown hg (by have := h.sz; simp; omega) (fun k hk => by have := (World.ownsRow.lt hv k hk).1; omega)
  refine ⟨fun i => ?_, fun i => ?_, Nat.lt_of_lt_of_le h.sz hl.size, below_ints h.low hv (by omega) hg⟩
  · rw [hl.cell (p := ⟨w.heap.size, i, none⟩) (show w.heap.size < w.heap.size + 2 by omega)]
    exact h.fst i
  · rw [hl.cell (p := ⟨w.heap.size + 1, i, none⟩) (show w.heap.size + 1 < w.heap.size + 2 by omega)]
    exact h.snd i
/-- The shifted values. -/
def shL (z : Int) (l : List Int) : List Int := l.map fun x => wrap64 (x + z)
theorem shL_take {z : Int} {l : List Int} {k : Nat} (h : k < l.length) : shL z (l.take (k + 1)) = shL z (l.take k) ++ [wrap64 (l[k] + z)] := by
  unfold shL
  rw [List.take_succ_eq_append_getElem h, List.map_append]; rfl
theorem cnt_shift {p q : Int → Bool} {f : Int → Int} : ∀ (l : List Int), (∀ x ∈ l, q (f x) = p x) → (l.map f).countP q = l.countP p
  | [], _ => rfl
  | x :: l, h => by
    rw [List.map_cons, List.countP_cons, List.countP_cons, cnt_shift l fun y hy => h y (List.mem_cons_of_mem _ hy), h x List.mem_cons_self]
theorem sgB_shift {M z L : Int} {l : List Int} {c d : Nat} (hl : ∀ x ∈ l, -1000000000 ≤ x ∧ x ≤ 1000000000) (hz : -1000000000 ≤ z ∧ z ≤ 1000000000) : sgB (M + z) L (shL z l) c d = sgB M L l c d := by
  have hlen : (shL z l).length = l.length := by simp [shL]
  have e1 : ∀ D : List Int, (∀ x ∈ D, -1000000000 ≤ x ∧ x ≤ 1000000000) → hiN (M + z) L (shL z D) = hiN M L D := fun D hD =>
    cnt_shift D fun x hx => by
      have hw : wrap64 (x + z) = x + z := by have := hD x hx; unfold wrap64; omega
      rw [hw]; congr 1; simp only [eq_iff_iff]; constructor <;> intro h <;> omega
  have e2 : ∀ D : List Int, (∀ x ∈ D, -1000000000 ≤ x ∧ x ≤ 1000000000) → loN (M + z) L (shL z D) = loN M L D := fun D hD =>
    cnt_shift D fun x hx => by
      have hw : wrap64 (x + z) = x + z := by have := hD x hx; unfold wrap64; omega
      rw [hw]; congr 1; simp only [eq_iff_iff]; constructor <;> intro h <;> omega
  have ed : (shL z l).drop (l.length - c) = shL z (l.drop (l.length - c)) := by simp [shL, List.map_drop]
  have hD : ∀ x ∈ l.drop (l.length - c), -1000000000 ≤ x ∧ x ≤ 1000000000 := fun x hx => hl x (List.mem_of_mem_drop hx)
  unfold sgB
  rw [hlen, ed, e1 _ hD, e2 _ hD]
theorem sgL_shift {M S z : Int} {l : List Int} (hl : ∀ x ∈ l, -1000000000 ≤ x ∧ x ≤ 1000000000) (hz : -1000000000 ≤ z ∧ z ≤ 1000000000) : ∀ i, sgL (M + z) S (shL z l) [] i = sgL M S l [] i
  | 0 => rfl
  | i + 1 => by
    have hR : ∀ b j, sgR (M + z) S (shL z l) b i j = sgR M S l b i j := fun b j => by
      unfold sgR
      have : ((shL z l).take (i + 1)).drop b = shL z ((l.take (i + 1)).drop b) := by simp [shL, List.map_take, List.map_drop]
      rw [this]
      exact sgB_shift (fun x hx => hl x (List.mem_of_mem_take (List.mem_of_mem_drop hx))) hz
    have hI : ∀ b j, sgI (M + z) S (shL z l) b i j = sgI M S l b i j := fun b j => by
      induction j with
      | zero => rfl
      | succ j ih => rw [sgI, sgI, hR, ih]
    rw [sgL, sgL, sgL_shift hl hz i, hI]
theorem shL_len (z : Int) (l : List Int) : (shL z l).length = l.length := by simp [shL]
/-- Where neither chart has an error the signals are the same. -/
theorem shift_same {M S z : Int} {l : List Int} (hz : -1000000000 ≤ z ∧ z ≤ 1000000000) (h1 : sgE M S l [] = 0) : sgL (wrap64 (M + z)) S (shL z l) [] (shL z l).length = sgL M S l [] l.length := by
  have hc : chB M S = true := by
    cases h : chB M S
    · unfold sgE at h1; rw [h] at h1; simp at h1
    · rfl
  have hv : vlB l = true := by
    cases h : vlB l
    · unfold sgE at h1; rw [hc, h] at h1; simp at h1
    · rfl
  obtain ⟨hM, _⟩ := (by simpa only [chB, Bool.and_eq_true, inB_iff] using hc : (-1000000000 ≤ M ∧ M ≤ 1000000000) ∧ (1 ≤ S ∧ S ≤ 1000000000))
  have hw : wrap64 (M + z) = M + z := by unfold wrap64; omega
  rw [hw, shL_len]
  exact sgL_shift (vlB_iff.1 hv).2 hz _
end Go.Proofs.YtlhjiikbehmamaaDoor
